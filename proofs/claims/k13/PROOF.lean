import PyProof.Rows.All
import Wide.All
import OpenK.AllK
import Wide.FinOn
import Lean
import PyProof.EqAt
import PyProof.EqKinds
import PyProof.TupleCall
import PyProof.NeKinds
import PyProof.AttrMissHeap
import KE.KDictOf
import KE.KDictLaws
import KE.KSortTup
import PyProof.Rows.SortWalk
import PyProof.Rows.SortShellK
import PySem.Challenge.RW_recastle_k13_fit_by_a_walk
local macro_rules|`(tactic|right)=>`(tactic|decide +kernel)
abbrev XQ:=PySem.Value->PySem.Shared->Prop
abbrev lC:=@List.length_map
abbrev mG:=@List.size_toArray
abbrev mH:=@List.getElem?_map
abbrev mI:=@List.length_append
abbrev mJ:=@List.map_cons
abbrev mK:=@List.length_cons
abbrev mL:=@List.length_take
abbrev mM:=@List.take_length
abbrev mN:=@List.map_append
abbrev mO:=@List.mem_singleton
abbrev mQ:=@List.getElem?_append_left
abbrev mR:=@List.getElem?_append_right
abbrev mS:=@List.take_of_length_le
abbrev mT:=@List.length_drop
abbrev mU:=@List.mem_flatMap
abbrev mV:=@List.append_assoc
abbrev mX:=@List.not_mem_nil
abbrev nB:=@List.mem_of_mem_take
abbrev nH:=@List.flatMap_append
abbrev nI:=@List.length_eq_zero_iff
abbrev nJ:=@List.mem_append
abbrev nK:=@List.mem_cons
abbrev nL:=@List.getElem?_eq_getElem
abbrev nN:=@List.append_nil
abbrev nO:=@List.map_map
abbrev nQ:=@List.nil_append
abbrev nT:=@List.reverse_append
abbrev nV:=@Nat.min_eq_left
abbrev nW:=@Int.emod_nonneg
abbrev nX:=@Int.emod_lt_of_pos
abbrev nY:=@List.nodup_cons
abbrev rB:=@List.flatMap_cons
abbrev rC:=@List.getElem?_set_self
abbrev rF:=@PyProof.Rows.boot_tuple
abbrev rH:=@PyProof.Rows.boot_dict
abbrev rL:=@PySem.boot_len
abbrev rM:=@PySem.F.plainAttrs_list
abbrev rN:=@PySem.F.plainAttrs_dict
abbrev lA:=@PySem.wpAny_bind
abbrev lB:=@PySem.wpAny_pure
abbrev lD:=@PySem.wpAny_holding
abbrev lE:=@PySem.Heap.get?_push_of_some
abbrev lG:=@PySem.Heap.get?_push_size
abbrev lH:=@PySem.Heap.lt_size
abbrev lI:=@List.getElem?_eq_some_iff
abbrev lJ:=@List.mem_append
abbrev lK:=@List.mem_of_getElem?
abbrev lM:=@List.mem_cons
abbrev lO:=@List.mem_cons_self
abbrev lP:=@List.mem_cons_of_mem
abbrev lQ:=@Nat.le_refl
abbrev lR:=@Nat.ne_of_lt
abbrev lS:=@of_decide_eq_true
abbrev lT:=@decide_eq_true
abbrev lU:=@Option.map_eq_some_iff
abbrev lV:=@List.getElem?_eq_getElem
abbrev lW:=@Bool.false_ne_true
abbrev lX:=@Nat.zero_le
abbrev lY:=@Nat.lt_of_lt_of_le
abbrev lZ:=@List.mem_append_right
abbrev mB:=@List.mem_map
abbrev mC:=@Classical.byContradiction
abbrev mD:=@Option.some.inj
abbrev mE:=@List.mem_append_left
abbrev mF:=@Nat.le_trans
set_option hygiene false
local macro_rules|`(57)=>`(iC (r:=rIxT K) zAN (pv 0))|`(58)=>`(λ cdv A outer s H vs Q E hr h=>?_)|`(59)=>`(by simp)|`(65)=>`(by lia)|`(66)=>`(by decide)|`(67)=>`(model X.prog X.w)|`(69)=>`(λ vs H Q E h=>?_)|`(70)=>`(Str × Str)|`(71)=>`(Addr × Obj)|`(72)=>`(⟨_,rfl⟩)|`(73)=>`(λ Ω Ω=>rfl)|`(74)=>`(wpAny_attempt (wpAny_callSpecial?_slot (name:=Str.ofString "__next__") hT F.slot_enumerate_next (wpAny_call_entry F.slot_enumerate_next hT F.entry_enumerate_next ?_ (F.args_enumerate_next_1 _))))|`(75)=>`(∀σ' H',N σ' H'->∃m',m'<m/\W (i+1) m' σ' H')|`(76)=>`(dfa ?_ ?_ ?_)|`(77)=>`(λ c=>?_)|`(80)=>`(by right)|`(81)=>`(pv 1)|`(82)=>`(zAQ _)|`(83)=>`(wpAny_callSpecial?_slot (name:=Str.ofString "__next__") hT F.slot_zip_next (wpAny_call_entry F.slot_zip_next hT F.entry_zip_next ?_ (F.args_zip_next_1 _)))|`(84)=>`(by rfl)|`(85)=>`(⟨by decide,by decide⟩)|`(86)=>`(⟨rfl,I.turned (t':=s.toks) (λ b o hb e=>eb b o hb e) f0 f1 f3 f4 f5⟩)|`(87)=>`(zAA (pv 2) zAD)|`(88)=>`(⟨_,_,rfl,.inr ⟨nofun,rfl⟩⟩)|`(90)=>`(Key × V)
local macro_rules|`(91)=>`(λ Ω=>?_)|`(92)=>`(.dK kvs)|`(93)=>`(.ListComp elt [⟨tg,iter,ifs,0⟩] sc pos)|`(94)=>`(.cons (.str _) (.cons (.str _) .nil))|`(95)=>`(X.block sc cl N s3 H3 C fp)
set_option Elab.async false
set_option tactic.hygienic false
set_option linter.all false
set_option maxRecDepth 100000
set_option maxHeartbeats 4000000
namespace L2
inductive A3(a b c:Prop):Prop
 |mk:a->b->c->A3 a b c
inductive A4(a b c d:Prop):Prop
 |mk:a->b->c->d->A4 a b c d
inductive A5(a b c d e:Prop):Prop
 |mk:a->b->c->d->e->A5 a b c d e
inductive A6(a b c d e f:Prop):Prop
 |mk:a->b->c->d->e->f->A6 a b c d e f
inductive A7(a b c d e f g:Prop):Prop
 |mk:a->b->c->d->e->f->g->A7 a b c d e f g
inductive A8(a b c d e f g h:Prop):Prop
 |mk:a->b->c->d->e->f->g->h->A8 a b c d e f g h
inductive A9(a b c d e f g h i:Prop):Prop
 |mk:a->b->c->d->e->f->g->h->i->A9 a b c d e f g h i
inductive A10(a b c d e f g h i j:Prop):Prop
 |mk:a->b->c->d->e->f->g->h->i->j->A10 a b c d e f g h i j
inductive A11(a b c d e f g h i j k:Prop):Prop
 |mk:a->b->c->d->e->f->g->h->i->j->k->A11 a b c d e f g h i j k
inductive A12(a b c d e f g h i j k l:Prop):Prop
 |mk:a->b->c->d->e->f->g->h->i->j->k->l->A12 a b c d e f g h i j k l
inductive A13(a b c d e f g h i j k l m:Prop):Prop
 |mk:a->b->c->d->e->f->g->h->i->j->k->l->m->A13 a b c d e f g h i j k l m
inductive A14(a b c d e f g h i j k l m n:Prop):Prop
 |mk:a->b->c->d->e->f->g->h->i->j->k->l->m->n->A14 a b c d e f g h i j k l m n
inductive A16(a b c d e f g h i j k l m n o p:Prop):Prop
 |mk:a->b->c->d->e->f->g->h->i->j->k->l->m->n->o->p->A16 a b c d e f g h i j k l m n o p
inductive E2{a b:Type}(p:a->b->Prop):Prop
 |mk:∀A B,p A B->E2 p
inductive E3{a b c:Type}(p:a->b->c->Prop):Prop
 |mk:∀A B C,p A B C->E3 p
inductive E4{a b c d:Type}(p:a->b->c->d->Prop):Prop
 |mk:∀A B C D,p A B C D->E4 p
inductive E5{a b c d e:Type}(p:a->b->c->d->e->Prop):Prop
 |mk:∀A B C D E,p A B C D E->E5 p
inductive E6{a b c d e f:Type}(p:a->b->c->d->e->f->Prop):Prop
 |mk:∀A B C D E F,p A B C D E F->E6 p
inductive E7{a b c d e f g:Type}(p:a->b->c->d->e->f->g->Prop):Prop
 |mk:∀A B C D E F G,p A B C D E F G->E7 p
inductive E8{a b c d e f g h:Type}(p:a->b->c->d->e->f->g->h->Prop):Prop
 |mk:∀A B C D E F G H,p A B C D E F G H->E8 p
inductive E9{a b c d e f g h i:Type}(p:a->b->c->d->e->f->g->h->i->Prop):Prop
 |mk:∀A B C D E F G H I,p A B C D E F G H I->E9 p
inductive E10{a b c d e f g h i j:Type}(p:a->b->c->d->e->f->g->h->i->j->Prop):Prop
 |mk:∀A B C D E F G H I J,p A B C D E F G H I J->E10 p
inductive E11{a b c d e f g h i j k:Type}(p:a->b->c->d->e->f->g->h->i->j->k->Prop):Prop
 |mk:∀A B C D E F G H I J K,p A B C D E F G H I J K->E11 p
inductive E12{a b c d e f g h i j k l:Type}(p:a->b->c->d->e->f->g->h->i->j->k->l->Prop):Prop
 |mk:∀A B C D E F G H I J K L,p A B C D E F G H I J K L->E12 p
open PySem PySem.Spec PyProof.Rows
abbrev Key:=Sum Int Str
noncomputable def keyIs:Key->Value->Bool
 |.inl k,v=>Value.isInt k v
 |.inr x,v=>Value.isStrOf x v
noncomputable def keyH (w:World):Key->Int
 |.inl k=>hashInt k
 |.inr x=>hashStr w x
theorem zAs:∀{k:Key}{v:Value},keyIs k v=true->(∃i t,k=Sum.inl i/\v=Value.int i t)\/(∃x t,k=Sum.inr x/\v=Value.str x t)
 |.inl i,v,h=>by
  obtain⟨t,e⟩:=Value.isInt_shape (k:=i) (v:=v) h;exact .inl ⟨i,t,rfl,e⟩
 |.inr x,v,h=>by
  obtain⟨t,e⟩:=Value.isStrOf_shape (x:=x) (v:=v) h;exact .inr ⟨x,t,rfl,e⟩
theorem zJL (i:Int) (t:Tok):keyIs (.inl i) (.int i t)=true:=by simp[keyIs,Value.isInt]
theorem zJK (x:Str) (t:Tok):keyIs (.inr x) (.str x t)=true:=by simp[keyIs,Value.isStrOf]
theorem zMp (a b:Int):decide ((Sum.inl a:Key)=Sum.inl b)=(a == b):=by
 by_cases e:a=b
 ·subst e;simp
 ·have h:¬(Sum.inl a:Key)=Sum.inl b:=λ q=>e (Sum.inl.inj q)
  rw[decide_eq_false h];exact(beq_eq_false_iff_ne.mpr e).symm
theorem zMm (a b:Str):decide ((Sum.inr a:Key)=Sum.inr b)=decide (a=b):=by
 by_cases e:a=b
 ·subst e;simp
 ·have h:¬(Sum.inr a:Key)=Sum.inr b:=λ q=>e (Sum.inr.inj q)
  rw[decide_eq_false h,decide_eq_false e]
theorem zMo (a:Int) (b:Str):decide ((Sum.inl a:Key)=Sum.inr b)=false:=decide_eq_false (λ q=>nomatch q)
theorem zMn (a:Str) (b:Int):decide ((Sum.inr a:Key)=Sum.inl b)=false:=decide_eq_false (λ q=>nomatch q)
noncomputable def zAi (prog:Program) (w:World):PySem.KeyKind prog w Key where
 is:=keyIs
 hash:=keyH w
 inj:=λ v a b ha hb=>by
  rcases zAs ha with ⟨i,t,rfl,rfl⟩|⟨x,t,rfl,rfl⟩
  ·rcases zAs hb with ⟨j,u,rfl,e⟩|⟨y,u,rfl,e⟩
   ·injection e with e1 _;rw[e1]
   ·exact nomatch e
  ·rcases zAs hb with ⟨j,u,rfl,e⟩|⟨y,u,rfl,e⟩
   ·exact nomatch e
   ·injection e with e1 _;rw[e1]
 byValue:=λ k v h=>by
  rcases zAs h with ⟨i,t,rfl,rfl⟩|⟨x,t,rfl,rfl⟩<;>rfl
 pyHash:=λ hv h=>by
  rcases zAs hv with ⟨i,t,rfl,rfl⟩|⟨x,t,rfl,rfl⟩
  ·exact wpAny_pyHash_int h
  ·exact wpAny_pyHash_str h
 eqBool:=λ hu hv h=>by
  rcases zAs hu with ⟨i,t,rfl,rfl⟩|⟨x,t,rfl,rfl⟩
  ·rcases zAs hv with ⟨j,u,rfl,rfl⟩|⟨y,u,rfl,rfl⟩
   ·rw[zMp] at h;exact wpAny_eqBool_int h
   ·rw[zMo] at h;exact SeqAt.EqAt.int_str i t y u _ _ _ _ h
  ·rcases zAs hv with ⟨j,u,rfl,rfl⟩|⟨y,u,rfl,rfl⟩
   ·rw[zMn] at h;exact SeqAt.EqAt.str_int x t j u _ _ _ _ h
   ·rw[zMm] at h;exact wpAny_eqBool_str h
 «strs»:=λ k x t v h=>by
  rcases zAs h with ⟨i,u,rfl,e⟩|⟨y,u,rfl,e⟩
  ·exact nomatch e
  ·injection e with e1 _
   subst e1;cases v<;>rfl
theorem zGn (prog:Program) (w:World) (i:Int) (t:Tok):(zAi prog w).is (.inl i) (.int i t)=true:=zJL i t
theorem zGm (prog:Program) (w:World) (x:Str) (t:Tok):(zAi prog w).is (.inr x) (.str x t)=true:=zJK x t
inductive V where
 |non|bl (b:Bool)|int (i:Int)|str (x:Str)|byt (b:Array UInt8)|flt (b:UInt64)|ref (a:Addr)|ty (n:String)
 deriving DecidableEq
def RelV:V->Value->Prop
 |.non,u=>u=Value.none
 |.bl b,u=>u=Value.bool b
 |.int i,u=>∃t,u=Value.int i t
 |.str x,u=>∃t,u=Value.str x t
 |.byt b,u=>∃t,u=Value.bytes b t
 |.flt b,u=>∃t,u=Value.float b t
 |.ref a,u=>u=Value.ref a
 |.ty n,u=>u=Value.type n
abbrev Vals:List V->List Value->Prop:=Paired RelV
theorem Vals.length {xs:List V}{us:List Value}(r:Vals xs us):xs.length=us.length:=Paired.length r
theorem Vals.get {xs:List V}{us:List Value}{i:Nat}{x:V}(h:Vals xs us):xs[i]?=some x->∃u,us[i]?=some u/\RelV x u:=by
 induction h generalizing i with
 |nil=>exact λ e=>nomatch e
 |cons h t ih=>cases i with
  |zero=>exact λ e=>⟨_,rfl,by cases e;exact h⟩
  |succ i=>exact λ e=>ih (i:=i) (by simpa using e)
theorem Vals.set {x:V}{u:Value}(r:RelV x u):∀{xs:List V}{us:List Value}(i:Nat),Vals xs us->Vals (xs.set i x) (us.set i u)
 |_,_,_,.nil=>.nil
 |_,_,0,.cons _ t=>.cons r t
 |_,_,i+1,.cons q t=>.cons q (Vals.set r i t)
theorem Vals.append {xs ys:List V}{us ws:List Value}(h:Vals xs us) (s:Vals ys ws):Vals (xs++ys) (us++ws):=by
 induction h with
 |nil=>exact s
 |cons r t ih=>exact .cons r ih
theorem Vals.take:∀{xs:List V}{us:List Value}(n:Nat),Vals xs us->Vals (xs.take n) (us.take n)
 |_,_,0,_=>.nil
 |_,_,_+1,.nil=>.nil
 |_,_,n+1,.cons r t=>.cons r (Vals.take n t)
theorem Vals.drop:∀{xs:List V}{us:List Value}(n:Nat),Vals xs us->Vals (xs.drop n) (us.drop n)
 |_,_,0,r=>r
 |_,_,_+1,.nil=>.nil
 |_,_,n+1,.cons _ t=>Vals.drop n t
def RelO:Option V->Option Value->Prop
 |some v,some u=>RelV v u
 |none,none=>True
 |_,_=>False
def KV {κ:Type}:List (κ × V)->List (κ × Value)->Prop:=Paired λ(p:κ × V) (q:κ × Value)=>p.1=q.1/\RelV p.2 q.2
noncomputable def kV:Key->V
 |.inl i=>.int i
 |.inr x=>.str x
inductive HO where
 |lst (xs:List V)
 |tup (xs:List V)
 |dK (kvs:List (Key × V))|dT (kvs:List (List Key × V))
 |set (S:Int->Bool) (n:Nat)
 |ins (C dx:Addr) (fs:List (Str × V))
 |own (x:Addr)
 |xd (fs:List (Str × V))
 |met (f x:Addr)
 |rng (lo hi:Int)
 |frz (o:Obj) (u:HO)
 |tbl (ps:Array Value)
 |ext (φ:Heap->Prop)
abbrev Hp:=Addr->Option HO
noncomputable def upd (H:Hp) (a:Addr) (o:HO):Hp:=λ b=>if b=a then some o else H b
theorem zAB {H:Hp}{a:Addr}{o:HO}:upd H a o a=some o:=by unfold upd;rw[if_pos rfl]
theorem zAR {H:Hp}{a b:Addr}{o:HO}(h:b≠a):upd H a o b=H b:=by unfold upd;rw[if_neg h]
theorem zLZ {H:Hp}{a:Addr}{o u:HO}:upd (upd H a o) a u=upd H a u:=by
 funext b;unfold upd;split<;>rfl
theorem ne_of {H:Hp}{a b:Addr}{o u:HO}(h:H a=some o) (h':H b=some u) (d:o≠u):a≠b:=by
 intro e;subst e;rw[h] at h';exact d (mD h')
theorem zAL {H:Hp}{a b:Addr}{o:HO}(h:H a=some o) (h':H b=none):a≠b:=by
 intro e;subst e;rw[h] at h';cases h'
section
variable (P:Program) (w:World)
def ObjOk (H:Hp) (h:Heap) (a:Addr):HO->Prop
 |.lst xs=>xs.length<=sizeLine/\∃(its:List Value) (n:Nat),Vals xs its/\h.get? a=some { cls:=.type "list", data:=.seq its.toArray n }
 |.tup xs=>xs.length<=sizeLine/\∃its:List Value,Vals xs its/\IsTup h a its.toArray
 |.dK kvs=>kvs.length<=sizeLine/\(a == sysModules)=false/\∃vs,KV kvs vs/\h.DictOf (zAi P w) a vs
 |.dT kvs=>kvs.length<=sizeLine/\(a == sysModules)=false/\∃xs:List (List Key × Addr × Value),
   Paired (λ(p:List Key × V) (q:List Key × Addr × Value)=>p.1=q.1/\H q.2.1=some (.tup (p.1.map kV))/\RelV p.2 q.2.2) kvs xs /\
   ∃o es ep,h.get? a=some o/\o.ExactDict/\o.data = .dict es ep/\es.toList=xs.map (entryOfKey (tupleKind (zAi P w)))/\(xs.map (·.1)).Nodup
 |.set S n=>h.SetOf (intKind P w) a S n
 |.ins C dx fs=>H dx=some (.own a)/\fs.length<=1000/\dx≠a/\h.get? a=some (W.instObj C dx) /\
   ∃mA,h.Ns1 dx mA/\(∀f,RelO (fs.lookup f) (mA f))/\PySem.Within mA (fs.map (·.1))
 |.own _=>∃o,h.get? a=some o
 |.xd fs=>∃mA,h.Ns1 a mA/\∀f,RelO (fs.lookup f) (mA f)
 |.rng lo hi=>∃t u v,h.get? a=some { cls:=.type "range", data:=.fields #[.int lo t,.int hi u,.int 1 v] }
 |.frz o u=>h.get? a=some o/\ObjOk H h a u
 |.tbl ps=>h.get? a=some { cls:=.none,data:=.fields ps }
 |.met f x=>h.get? a=some (W.methodObj (.ref f) (.ref x))
 |.ext φ=>φ h/\(∃o,h.get? a=some o)/\∀h1 h2:Heap,φ h1->(∀o,h1.get? a=some o->h2.get? a=some o)->φ h2
def HOk (H:Hp) (h:Heap):Prop:=∀a o,H a=some o->ObjOk P w H h a o
end
section
variable {P:Program}{w:World}{H H':Hp}{h h':Heap}{a:Addr}{o:HO}
theorem ObjOk.lt (x:ObjOk P w H h a o):a<h.objs.size:=by
 cases o with
 |lst xs=>obtain⟨_,_,_,_,e⟩:=x;exact lH e
 |tup xs=>obtain⟨_,_,_,p⟩:=x;exact p.lt
 |dK kvs=>obtain⟨_,_,_,_,o,_,_,e,_⟩:=x;exact lH e
 |dT kvs=>obtain⟨_,_,_,_,o,_,_,e,_⟩:=x;exact lH e
 |set S n=>obtain⟨o,_,_,_,e,_⟩:=x;exact lH e
 |ins C dx fs=>obtain⟨_,_,_,e,_⟩:=x;exact lH e
 |own y=>obtain⟨_,e⟩:=x;exact lH e
 |xd fs=>obtain⟨_,⟨_,_,_,e,_⟩,_⟩:=x;exact lH e
 |rng lo hi=>obtain⟨_,_,_,e⟩:=x;exact lH e
 |frz ob u=>obtain⟨e,_⟩:=x;exact lH e
 |tbl ps=>exact lH (show h.get? a=some _ from x)
 |met f y=>exact lH (show h.get? a=some _ from x)
 |ext φ=>obtain⟨_,⟨_,e⟩,_⟩:=x;exact lH e
theorem Paired.mapP {α β:Type}{F G:α->β->Prop}{l₁:List α}{l₂:List β}(h:Paired F l₁ l₂) (f:∀a b,F a b->G a b):Paired G l₁ l₂:=by
 induction h with
 |nil=>exact .nil
 |cons r t ih=>exact .cons (f _ _ r) ih
theorem ObjOk.stay (x:ObjOk P w H h a o) (k:∀b u,(b=a\/H b=some (.own a))->h.get? b=some u->h'.get? b=some u)
  (ho:∀b,H b=some (.own a)->H' b=some (.own a)) (ht:∀b xs,H b=some (.tup xs)->H' b=some (.tup xs)):ObjOk P w H' h' a o:=by
 induction o with
 |lst xs=>obtain⟨z,its,n,r,e⟩:=x;exact⟨z,its,n,r,k _ _ (.inl rfl) e⟩
 |tup xs=>obtain⟨z,its,r,ob,e,c⟩:=x;exact⟨z,its,r,ob,k _ _ (.inl rfl) e,c⟩
 |dK kvs=>obtain⟨z,y,vs,r,ob,es,ep,e,c⟩:=x;exact⟨z,y,vs,r,ob,es,ep,k _ _ (.inl rfl) e,c⟩
 |dT kvs =>
  obtain⟨z,y,xs,r,ob,es,ep,e,c⟩:=x;exact⟨z,y,xs,Paired.mapP r λ p q z=>⟨z.1,ht _ _ z.2.1,z.2.2⟩,ob,es,ep,k _ _ (.inl rfl) e,c⟩
 |set S n=>obtain⟨ob,es,ep,t,e,c⟩:=x;exact⟨ob,es,ep,t,k _ _ (.inl rfl) e,c⟩
 |ins C dx fs =>
  obtain⟨d,z,ne,e,mA,⟨od,es,ep,e2,c⟩,r⟩:=x;exact⟨ho _ d,z,ne,k _ _ (.inl rfl) e,mA,⟨od,es,ep,k _ _ (.inr d) e2,c⟩,r⟩
 |own y=>obtain⟨ob,e⟩:=x;exact⟨ob,k _ _ (.inl rfl) e⟩
 |xd fs=>obtain⟨mA,⟨od,es,ep,e,c⟩,r⟩:=x;exact⟨mA,⟨od,es,ep,k _ _ (.inl rfl) e,c⟩,r⟩
 |rng lo hi=>obtain⟨t,u,v,e⟩:=x;exact⟨t,u,v,k _ _ (.inl rfl) e⟩
 |frz ob u ih=>obtain⟨e,q⟩:=x;exact⟨k _ _ (.inl rfl) e,ih q⟩
 |tbl ps =>
  have e:h.get? a=some { cls:=.none,data:=.fields ps }:=x;show h'.get? a=some { cls:=.none,data:=.fields ps };exact k a _ (.inl rfl) e
 |met f y =>
  have e:h.get? a=some (W.methodObj (.ref f) (.ref y)):=x;show h'.get? a=some (W.methodObj (.ref f) (.ref y));exact k a _ (.inl rfl) e
 |ext φ=>obtain⟨p,⟨o,e⟩,st⟩:=x;exact⟨st _ _ p λ o q=>k _ _ (.inl rfl) q,⟨o,k _ _ (.inl rfl) e⟩,st⟩
theorem HOk.lt (x:HOk P w H h) (e:H a=some o):a<h.objs.size:=(x a o e).lt
theorem HOk.fresh (x:HOk P w H h) (e:h.objs.size<=a):H a=none:=by
 cases q:H a with
 |none=>rfl
 |some u=>exact absurd (lY (x.lt q) e) (Nat.lt_irrefl _)
theorem HOk.kept (x:HOk P w H h) (k:∀b u,h.get? b=some u->h'.get? b=some u):HOk P w H h':=λ a o e =>
 (x a o e).stay (λ b u Ω q=>k b u q) (λ Ω q=>q) λ Ω Ω q=>q
theorem HOk.laid (x:HOk P w H h) (k:∀b u,h.get? b=some u->h'.get? b=some u) (hp:h.objs.size<=a) (new:ObjOk P w (upd H a o) h' a o):HOk P w (upd H a o) h':=λ b u e=>by
 have hn:=x.fresh hp
 by_cases hb:b=a
 ·subst hb;rw[zAB] at e;cases e;exact new
 ·rw[zAR hb] at e
  exact(x b u e).stay (λ c v Ω q=>k c v q) (λ c q=>by rw[zAR (zAL q hn)];exact q) λ c xs q=>by rw[zAR (zAL q hn)];exact q
end
def Rd (H:Hp) (a:Addr) (u:HO):Prop:=H a=some u\/∃o,H a=some (.frz o u)
theorem Rd.ok {P:Program}{w:World}{H:Hp}{h:Heap}{a:Addr}{u:HO}(r:Rd H a u) (x:HOk P w H h):ObjOk P w H h a u:=by
 rcases r with r|⟨o,r⟩
 ·exact x a u r
 ·obtain⟨_,q⟩:=x a _ r
  exact q
def Mut:Option HO->Prop
 |some (.lst _)=>True
 |some (.dK _)=>True
 |some (.dT _)=>True
 |some (.set _ _)=>True
 |some (.ins _ _ _)=>True
 |some (.ext _)=>True
 |_=>False
section
variable {P:Program}{w:World}{H:Hp}{h h':Heap}{x e:Addr}{o':HO}
theorem HOk.write (ok:HOk P w H h) (mu:Mut (H x)) (he:e=x\/H e=some (.own x)) (k:∀b u,b≠e->h.get? b=some u->h'.get? b=some u) (heo:∃u,h'.get? e=some u)
  (new:ObjOk P w (upd H x o') h' x o'):HOk P w (upd H x o') h':=λ b u q=>by
 have nown:∀c y,H c=some (.own y)->c≠x:=λ c y r z=>by subst z;rw[r] at mu;exact mu
 have ntup:∀c xs,H c=some (.tup xs)->c≠x:=λ c xs r z=>by subst z;rw[r] at mu;exact mu
 by_cases hb:b=x
 ·subst hb;rw[zAB] at q;cases q;exact new
 ·rw[zAR hb] at q
  by_cases hbe:b=e
  ·have q':H b=some (.own x):=by
    rcases he with z|z
    ·exact absurd (hbe.trans z) hb
    ·rw[hbe];exact z
   rw[q] at q';cases q';obtain⟨v,hv⟩:=heo;exact⟨v,by rw[hbe];exact hv⟩
  ·refine(ok b u q).stay (λ c v hc r=>k c v ?_ r) (λ c r=>by rw[zAR (nown c b r)];exact r) λ c xs r=>by rw[zAR (ntup c xs r)];exact r
   rcases hc with rfl|hc
   ·exact hbe
   ·rintro rfl
    rcases he with z|z
    ·exact nown c b hc z
    ·rw[hc] at z;cases z;exact hb rfl
end
structure Un (fs ex:List Addr) (H H':Hp) (h h':Heap):Prop where
 keep:∀b o,h.get? b=some o->H b=none->b∉fs->b∉ex->h'.get? b=some o
 slot:∀b o,h.get? b=some o->H b=none->b∈fs->b∉ex->∃sl,h'.get? b=some { o with slots:=sl }
 free:∀b o,h.get? b=some o->H b=none->b∉ex->H' b=none
 there:∀b o,h.get? b=some o->b∉ex->∃o',h'.get? b=some o'
 tups:∀b xs,H b=some (.tup xs)->H' b=some (.tup xs)
 frzs:∀b o u,H b=some (.frz o u)->H' b=some (.frz o u)
 tbls:∀b ps,H b=some (.tbl ps)->∃more,H' b=some (.tbl (ps++more))
section
variable {fs fs' ex ex':List Addr}{H H1 H2:Hp}{h h1 h2 h':Heap}{a x e:Addr}{o:HO}
theorem Un.any (u:Un fs ex H H1 h h1) {b:Addr}{ob:Obj}(q:h.get? b=some ob) (n:H b=none) (hx:b∉ex):∃sl,h1.get? b=some { ob with slots:=sl }:=by
 by_cases hb:b∈fs
 ·exact u.slot b ob q n hb hx
 ·exact⟨ob.slots,u.keep b ob q n hb hx⟩
theorem Un.kept (k:∀b u,h.get? b=some u->h'.get? b=some u):Un fs ex H H h h' :=
 ⟨λ b ob q Ω Ω Ω=>k b ob q,λ b ob q Ω Ω Ω=>⟨ob.slots,k b ob q⟩,λ Ω Ω Ω n Ω=>n,λ b ob q Ω=>⟨ob,k b ob q⟩,λ Ω Ω q=>q,λ Ω Ω Ω q=>q,λ Ω ps q=>⟨#[],by rw[q];simp⟩⟩
theorem Un.refl:Un fs ex H H h h:=Un.kept λ Ω Ω q=>q
theorem Un.laid (k:∀b u,h.get? b=some u->h'.get? b=some u) (hp:h.objs.size<=a) (hn:H a=none):Un fs ex H (upd H a o) h h' where
 keep:=λ b u q Ω Ω Ω=>k b u q
 slot:=λ b u q Ω Ω Ω=>⟨u.slots,k b u q⟩
 free:=λ b u q n Ω=>by rw[zAR (Nat.ne_of_lt (Nat.lt_of_lt_of_le (Heap.lt_size q) hp))];exact n
 there:=λ b u q Ω=>⟨u,k b u q⟩
 tups:=λ b xs q=>by rw[zAR (zAL q hn)];exact q
 frzs:=λ b u xs q=>by rw[zAR (zAL q hn)];exact q
 tbls:=λ b ps q=>⟨#[],by rw[zAR (zAL q hn),q];simp⟩
theorem Un.write (mu:Mut (H x)) (he:e=x\/H e=some (.own x)) (k:∀b u,b≠e->h.get? b=some u->h'.get? b=some u) (heo:∃u,h'.get? e=some u):Un fs ex H (upd H x o) h h':=by
 have hx:∀b,H b=none->b≠x:=λ b n z=>by subst z;rw[n] at mu;exact mu
 have hb:∀b,H b=none->b≠e:=λ b n z=>by
  subst z;rcases he with r|r
  ·exact hx b n r
  ·rw[n] at r;cases r
 have hm:∀b u,H b=some u->¬Mut (some u)->b≠x:=λ b u q nm z=>by subst z;rw[q] at mu;exact nm mu
 refine⟨λ b u q n Ω Ω=>k b u (hb b n) q,λ b u q n Ω Ω=>⟨u.slots,k b u (hb b n) q⟩,λ b u q n Ω=>by rw[zAR (hx b n)];exact n,λ b u q Ω=>?_,
  λ b xs q=>by rw[zAR (hm b _ q λ z=>z)];exact q,λ b u xs q=>by rw[zAR (hm b _ q λ z=>z)];exact q,λ b ps q=>⟨#[],by rw[zAR (hm b _ q λ z=>z),q];simp⟩⟩
 by_cases hbe:b=e
 ·subst hbe;exact heo
 ·exact⟨u,k b u hbe q⟩
end
noncomputable def trk (h:Heap) (H:Hp):List Addr:=(List.range h.objs.size).filter λ a=>(H a).isSome
noncomputable def hidT (h:Heap) (H:Hp):Heap:=W.hideAll h (trk h H)
theorem zJa (h:Heap) (H:Hp):(hidT h H).objs.size=h.objs.size:=W.hideAll_size _ _
theorem zKw {h:Heap}{H:Hp}{b:Addr}{o:Obj}(e:h.get? b=some o) (n:H b=none):(hidT h H).get? b=some o :=
 W.hideAll_get _ e λ hm=>by
  have q:(H b).isSome=true:=(List.mem_filter.mp hm).2;rw[n] at q;simp at q
theorem zL1 {h:Heap}{H:Hp}{b:Addr}{o:Obj}(e:(hidT h H).get? b=some o):h.get? b=some o/\H b=none:=by
 have e':h.get? b=some o:=W.of_hideAll (trk h H) e;refine⟨e',?_⟩;cases q:H b with
 |none=>rfl
 |some x =>
  have hm:b∈trk h H:=List.mem_filter.mpr ⟨List.mem_range.mpr (lH e'),by simp[q]⟩;have z:(hidT h H).get? b=none:=W.hideAll_none (trk h H) hm;rw[z] at e;cases e
noncomputable def zMF (g h:Heap) (L:Addr):List 71:=(List.range h.objs.size).filterMap λ a=>if a=L\/(g.get? a).isSome=true then none else (h.get? a).map λ o=>(a,o)
noncomputable def rest (g h:Heap) (L d:Addr):List 71:=(zMF g h L).filter λ p=>decide (p.1≠d)
structure Mod (K:W.Frag) (mg:Str->Option Value) (base:Heap):Prop where
 kin:K.In base
 glob:base.Ns mainGlobals mg
 blt:∃mb,base.Ns builtinsNs mb/\∀x:Str,x ≠ "__name__" -> mb x=bootBuiltins x
 nolimit:base.NoLimit
structure Cx where
 prog:Program
 w:World
 K:W.Frag
 mg:Str->Option Value
 base:Heap
 A:Around
 N:List Str
 s₀:Shared
 H₀:Hp
 env:Env
 outer:List Env
 stack:List Env
 ex:List Addr
 fn:Str->Bool
 calm:Bool
 pn:List 71
 xe:Value->Shared->Prop
def frs (l:List Env):List Addr:=l.filterMap (·.frame)
abbrev Cx.fs (X:Cx):List Addr:=frs X.outer
def Vis (sc:Scope) (x:Str):Prop:=sc.names.lookup x=some .local\/sc.names.lookup x=some .cell\/sc.names.lookup x=some .free
def Loc (sc:Scope) (x:Str):Prop:=sc.names.lookup x=some .local\/sc.names.lookup x=some .cell
def Look (env:Env) (h:Heap) (m:Str->Option Value) (x:Str) (u:Value):Prop :=
 (env.kindOf x=some .local/\m x=some u)\/((env.kindOf x=some .cell\/env.kindOf x=some .free)/\∃c,env.cells.lookup x=some c/\h.IsCell c (some u))
structure Cx.Ok (X:Cx):Prop where
 mod:Mod X.K X.mg X.base
 kind:X.env.scope.kind = .function
 glob:X.env.globals=mainGlobals
 blt:X.env.builtins=builtinsNs
 above:X.s₀.heap.objs.size<=X.env.locals
 inj:∀x y c,X.env.cells.lookup x=some c->X.env.cells.lookup y=some c->x=y
 has:∀x,(X.env.kindOf x=some .cell\/X.env.kindOf x=some .free)->∃c,X.env.cells.lookup x=some c
 cab:∀x c,X.fn x=true->X.env.cells.lookup x=some c->X.s₀.heap.objs.size<=c
 hd:X.calm=true->X.A.handled=none
 frames:X.A.frames=some X.stack
 stk:X.stack=X.outer\/(X.stack=X.env::X.outer/\X.env.frame=some X.env.locals)
 exf:∀b∈X.ex,b≠X.env.locals/\∀x c,X.env.cells.lookup x=some c->c≠b
 bs:∀b o,X.base.get? b=some o->X.s₀.heap.get? b=some o/\X.H₀ b=none
 bsz:X.base.objs.size<=X.s₀.heap.objs.size
 noex:∀b o,X.base.get? b=some o->b∉X.ex
 exfs:∀b∈X.ex,b∉X.fs
 funs:X.s₀.heap.FunFrames X.base X.outer
 frf:∀b∈X.fs,X.H₀ b=none
structure Inv (X:Cx) (jP:List (Addr × Obj)) (σ:List (Option V)) (H:Hp) (s:Shared):Prop where
 ok:X.Ok
 os:s.os=X.s₀.os
 bare:AllBare s.gens
 base:Un X.fs X.ex X.H₀ H X.s₀.heap s.heap
 loc:∃m,s.heap.Ns X.env.locals m/\∀(i:Nat) (x:Str) (v:V),X.N[i]?=some x->σ[i]?=some (some v)->Vis X.env.scope x->∃u,RelV v u/\Look X.env s.heap m x u
 cell:∀x c,X.env.cells.lookup x=some c->∃v,s.heap.IsCell c v
 free:H X.env.locals=none
 freeC:∀x c,X.env.cells.lookup x=some c->H c=none
 pin:∀p∈X.pn++jP,s.heap.get? p.1=some p.2/\H p.1=none/\p.1≠X.env.locals/\p.1∉X.fs/\∀v,p.2.data ≠ .cell v
 hok:HOk X.prog X.w H s.heap
 len:σ.length=X.N.length
section
variable {X:Cx}{jP:List (Addr × Obj)}{σ:List (Option V)}{H H':Hp}{s:Shared}{h':Heap}
theorem Cx.Ok.nofr (ok:X.Ok) {b:Addr}{o:Obj}(e:X.base.get? b=some o):b∉X.fs:=λ hb=>by
 have:=(ok.funs.mem hb).1;rw[e] at this;cases this
theorem Inv.bs (I:Inv X jP σ H s):∀b o,X.base.get? b=some o->s.heap.get? b=some o/\H b=none:=λ b o e =>
 ⟨I.base.keep b o (I.ok.bs b o e).1 (I.ok.bs b o e).2 (I.ok.nofr e) (I.ok.noex b o e),I.base.free b o (I.ok.bs b o e).1 (I.ok.bs b o e).2 (I.ok.noex b o e)⟩
theorem Inv.bk (I:Inv X jP σ H s):∀b o,X.base.get? b=some o->s.heap.get? b=some o:=λ b o e=>(I.bs b o e).1
theorem Inv.mod (I:Inv X jP σ H s):Mod X.K X.mg X.base:=I.ok.mod
theorem Inv.kIn (I:Inv X jP σ H s):X.K.In s.heap:=I.ok.mod.kin.keeps I.bk
theorem Inv.lt (I:Inv X jP σ H s):X.env.locals<s.heap.objs.size:=let ⟨_,hn,_⟩:=I.loc;hn.lt
theorem Inv.sz (I:Inv X jP σ H s):X.s₀.heap.objs.size<=s.heap.objs.size:=mF I.ok.above (Nat.le_of_lt I.lt)
theorem Inv.nofs (I:Inv X jP σ H s) {a:Addr}(h:s.heap.objs.size<=a):a∉X.fs:=λ hb=>by
 obtain⟨_,o,ho,_⟩:=I.ok.funs.mem hb;exact absurd (lY (lH ho) (mF I.sz h)) (Nat.lt_irrefl _)
theorem Inv.cne (I:Inv X jP σ H s):∀x c,X.env.cells.lookup x=some c->c≠X.env.locals:=λ x c e z=>by
 obtain⟨v,o,ho,hd⟩:=I.cell x c e;obtain⟨m,⟨o',es,ep,ho',hd',_⟩,_⟩:=I.loc;rw[z,ho'] at ho;cases ho;rw[hd'] at hd;cases hd
theorem Inv.funs (I:Inv X jP σ H s):s.heap.FunFrames X.base X.outer:=by
 have all:∀(l:List Env),(∀b∈frs l,b∈X.fs)->X.s₀.heap.FunFrames X.base l->s.heap.FunFrames X.base l:=by
  intro l
  induction l with
  |nil=>intro _ _;trivial
  |cons env r ih =>
   intro hs hl;obtain⟨hk,⟨L,o,hf,hn,ho,hd⟩,hr⟩:=hl;have hL:L∈X.fs:=hs L (by unfold frs;rw[List.filterMap_cons,hf];exact lO);obtain⟨sl,e⟩:=I.base.slot L o ho (I.ok.frf L hL) hL λ z=>I.ok.exfs L z hL;exact⟨hk,⟨L,_,hf,hn,e,hd⟩,ih (λ b hb=>hs b (by unfold frs;rw[List.filterMap_cons,hf];exact lP _ hb)) hr⟩
 exact all X.outer (λ Ω hb=>hb) I.ok.funs
theorem Inv.stack (I:Inv X jP σ H s):s.heap.FunFrames X.base X.stack:=by
 rcases I.ok.stk with e|⟨e,hf⟩
 ·rw[e];exact I.funs
 ·rw[e]
  obtain⟨m,hn,_⟩:=I.loc;refine .cons (by rw[I.ok.kind];decide) hf hn ?_ I.funs;exact Heap.get?_none_of_le (mF I.ok.bsz I.ok.above)
theorem Inv.stkSub (I:Inv X jP σ H s):∀b∈frs X.stack,b∈X.env.locals::X.fs:=λ b hb=>by
 rcases I.ok.stk with e|⟨e,hf⟩
 ·rw[e] at hb;exact lP _ hb
 ·rw[e] at hb
  unfold frs at hb;rw[List.filterMap_cons,hf] at hb;exact hb
theorem Inv.stkFree (I:Inv X jP σ H s):∀b∈frs X.stack,H b=none:=λ b hb=>by
 rcases lM.mp (I.stkSub b hb) with e|hb
 ·rw[e];exact I.free
 ·obtain⟨_,o,ho,_⟩:=I.ok.funs.mem hb
  exact I.base.free b o ho (I.ok.frf b hb) λ z=>I.ok.exfs b z hb
theorem Inv.step {g':Array GenState}{t':Nat}{d':Drawn}{ch:List Addr}(I:Inv X jP σ H s)
  (hch:∀b∈ch,(b∈X.ex\/X.s₀.heap.objs.size<=b)/\b≠X.env.locals/\(∀x c,X.env.cells.lookup x=some c->c≠b)/\∀p∈X.pn++jP,p.1≠b)
  (keep:∀b o,b≠X.env.locals->b∉X.fs->b∉ch->s.heap.get? b=some o->H b=none->h'.get? b=some o)
  (slot:∀b o,b≠X.env.locals->b∈X.fs->b∉ch->s.heap.get? b=some o->H b=none->∃sl,h'.get? b=some { o with slots:=sl }) (free:∀b o,b∉ch->s.heap.get? b=some o->H b=none->H' b=none)
  (there:∀b o,b∉ch->s.heap.get? b=some o->∃o',h'.get? b=some o')
  (tups:∀b xs,H b=some (.tup xs)->H' b=some (.tup xs)) (frzs:∀b o u,H b=some (.frz o u)->H' b=some (.frz o u)) (tbls:∀b ps,H b=some (.tbl ps)->∃more,H' b=some (.tbl (ps++more)))
  (ns:∀m,s.heap.Ns X.env.locals m->h'.Ns X.env.locals m) (hok:HOk X.prog X.w H' h') (hg:AllBare g') :
  Inv X jP σ H' { s with heap:=h',gens:=g',drawn:=d',toks:=t' }:=by
 have neL:∀b o,X.s₀.heap.get? b=some o->b≠X.env.locals:=λ b o e=>lR (lY (lH e) I.ok.above)
 have neC:∀b o,X.s₀.heap.get? b=some o->b∉X.ex->b∉ch:=λ b o e hx hb=>by
  rcases (hch b hb).1 with z|z
  ·exact hx z
  ·exact absurd (lY (lH e) z) (Nat.lt_irrefl _)
 have cellK:∀x c,X.env.cells.lookup x=some c->∀v,s.heap.IsCell c v->h'.IsCell c v:=λ x c e v ⟨o,ho,hd⟩=>by
  have nch:c∉ch:=λ z=>(hch c z).2.2.1 x c e rfl
  by_cases hc:c∈X.fs
  ·obtain⟨sl,q⟩:=slot c o (I.cne x c e) hc nch ho (I.freeC x c e)
   exact⟨_,q,hd⟩
  ·exact⟨o,keep c o (I.cne x c e) hc nch ho (I.freeC x c e),hd⟩
 refine⟨I.ok,I.os,hg,⟨λ b o e n hb hx=>?_,λ b o e n hb hx=>?_,λ b o e n hx=>?_,λ b o e hx=>?_,λ b xs e=>tups b xs (I.base.tups b xs e),λ b o xs e=>frzs b o xs (I.base.frzs b o xs e),λ b ps e=>?_⟩,?_,λ x c e=>?_,?_,λ x c e=>?_,λ p hp=>?_,hok,I.len⟩
 ·exact keep b o (neL b o e) hb (neC b o e hx) (I.base.keep b o e n hb hx) (I.base.free b o e n hx)
 ·obtain⟨sl,e1⟩:=I.base.slot b o e n hb hx
  obtain⟨sl',e2⟩:=slot b _ (neL b o e) hb (neC b o e hx) e1 (I.base.free b o e n hx);exact⟨sl',e2⟩
 ·obtain⟨o',e1⟩:=I.base.there b o e hx
  exact free b o' (neC b o e hx) e1 (I.base.free b o e n hx)
 ·obtain⟨o',e1⟩:=I.base.there b o e hx
  exact there b o' (neC b o e hx) e1
 ·obtain⟨m1,e1⟩:=I.base.tbls b ps e
  obtain⟨m2,e2⟩:=tbls b _ e1;exact⟨m1++m2,by rw[e2,Array.append_assoc]⟩
 ·obtain⟨m,hn,hl⟩:=I.loc
  refine⟨m,ns m hn,λ i x v e1 e2 e3=>?_⟩;obtain⟨u,r,l⟩:=hl i x v e1 e2 e3;refine⟨u,r,?_⟩;rcases l with l|⟨k,c,e,z⟩
  ·exact .inl l
  ·exact .inr ⟨k,c,e,cellK x c e _ z⟩
 ·obtain⟨v,z⟩:=I.cell x c e
  exact⟨v,cellK x c e v z⟩
 ·obtain⟨m,⟨o,_,_,ho,_⟩,_⟩:=I.loc
  exact free _ o (λ z=>(hch _ z).2.1 rfl) ho I.free
 ·obtain⟨v,o,ho,hd⟩:=I.cell x c e
  exact free c o (λ z=>(hch c z).2.2.1 x c e rfl) ho (I.freeC x c e)
 ·obtain⟨e,n,ne,nf,d⟩:=I.pin p hp
  have nch:p.1∉ch:=λ z=>(hch p.1 z).2.2.2 p hp rfl;exact⟨keep p.1 p.2 ne nf nch e n,free p.1 p.2 nch e n,ne,nf,d⟩
theorem Inv.un {t':Nat}(I:Inv X jP σ H s) (u:Un X.fs [] H H' s.heap h') (hok:HOk X.prog X.w H' h'):Inv X jP σ H' { s with heap:=h',toks:=t' }:=by
 obtain⟨m,⟨o,es,ep,ho,r⟩,_⟩:=id I.loc;obtain⟨sl,hL⟩:=u.any ho I.free 59
 exact I.step (g':=s.gens) (d':=s.drawn) (ch:=[]) (λ Ω z=>nomatch z) (λ b o Ω hb Ω e n=>u.keep b o e n hb 59) (λ b o Ω hb Ω e n=>u.slot b o e n hb 59) (λ b o Ω e n=>u.free b o e n 59) (λ b o Ω e=>u.there b o e 59) u.tups u.frzs u.tbls (λ m' hm=>by
  obtain⟨o',es',ep',ho',r'⟩:=hm;rw[ho] at ho';cases ho';exact⟨_,es',ep',hL,r'⟩) hok I.bare
theorem Inv.call {g':Array GenState}{t':Nat}{d':Drawn}{ch:List Addr}(I:Inv X jP σ H s) (u:Un (frs X.stack) ch H H' s.heap h') (hok:HOk X.prog X.w H' h') (hg:AllBare g')
  (hch:∀b∈ch,(b∈X.ex\/X.s₀.heap.objs.size<=b)/\b≠X.env.locals/\(∀x c,X.env.cells.lookup x=some c->c≠b)/\∀p∈X.pn++jP,p.1≠b) :
  Inv X jP σ H' { s with heap:=h',gens:=g',drawn:=d',toks:=t' }:=by
 obtain⟨m,⟨o,es,ep,ho,r⟩,_⟩:=id I.loc;obtain⟨sl,hL⟩:=u.any ho I.free λ z=>(hch _ z).2.1 rfl
 exact I.step (ch:=ch) hch (λ b o hL hb hc e n=>u.keep b o e n (λ z=>(lM.mp (I.stkSub b z)).elim hL hb) hc) (λ b o Ω Ω hc e n=>u.any e n hc) (λ b o hc e n=>u.free b o e n hc) (λ b o hc e=>u.there b o e hc) u.tups u.frzs u.tbls (λ m' hm=>by
  obtain⟨o',es',ep',ho',r'⟩:=hm;rw[ho] at ho';cases ho';exact⟨_,es',ep',hL,r'⟩) hok hg
theorem Inv.turned {t':Nat}{it:Addr}(I:Inv X jP σ H s) (k:∀b o,b≠it->s.heap.get? b=some o->h'.get? b=some o) (hn:H it=none) (hL:it≠X.env.locals)
  (h1:it∈X.ex\/X.s₀.heap.objs.size<=it) (h2:∀x c,X.env.cells.lookup x=some c->c≠it) (h3:∀p∈X.pn++jP,p.1≠it):Inv X jP σ H { s with heap:=h',toks:=t' }:=by
 have nit:∀b u,H b=some u->b≠it:=λ b u e z=>by rw[z,hn] at e;cases e
 refine I.step (g':=s.gens) (d':=s.drawn) (ch:=[it]) (λ b hb=>?_) (λ b o Ω Ω hc e Ω=>k b o (λ z=>hc (by simp[z])) e) (λ b o Ω Ω hc e Ω=>⟨o.slots,k b o (λ z=>hc (by simp[z])) e⟩) (λ Ω Ω Ω Ω n=>n)
  (λ b o hc e=>⟨o,k b o (λ z=>hc (by simp[z])) e⟩) (λ Ω Ω e=>e) (λ Ω Ω Ω e=>e) (λ b ps e=>⟨#[],by rw[e];simp⟩) (λ m hm=>?_) (λ b u e=>?_) I.bare
 ·have e:b=it:=by simpa using hb
  subst e;exact⟨h1,hL,h2,h3⟩
 ·obtain⟨o,es,ep,ho,r⟩:=hm
  exact⟨o,es,ep,k _ o (Ne.symm hL) ho,r⟩
 ·refine(I.hok b u e).stay (λ c v hc q=>k c v ?_ q) (λ Ω q=>q) λ Ω Ω q=>q
  rcases hc with z|z
  ·rw[z];exact nit b u e
  ·exact nit c _ z
theorem Inv.tok (I:Inv X jP σ H s) (t:Nat):Inv X jP σ H { s with toks:=t }:=I.un (h':=s.heap) (t':=t) Un.refl I.hok
theorem Inv.kept {t':Nat}(I:Inv X jP σ H s) (k:∀b u,s.heap.get? b=some u->h'.get? b=some u):Inv X jP σ H { s with heap:=h',toks:=t' }:=I.un (Un.kept k) (I.hok.kept k)
theorem Inv.laid {a:Addr}{o:HO}{t':Nat}(I:Inv X jP σ H s) (k:∀b u,s.heap.get? b=some u->h'.get? b=some u) (hp:s.heap.objs.size<=a) (new:ObjOk X.prog X.w (upd H a o) h' a o) :
  Inv X jP σ (upd H a o) { s with heap:=h',toks:=t' }:=I.un (Un.laid k hp (I.hok.fresh hp)) (I.hok.laid k hp new)
theorem Inv.write {x e:Addr}{o:HO}{t':Nat}(I:Inv X jP σ H s) (mu:Mut (H x)) (he:e=x\/H e=some (.own x)) (k:∀b u,b≠e->s.heap.get? b=some u->h'.get? b=some u) (heo:∃u,h'.get? e=some u)
  (new:ObjOk X.prog X.w (upd H x o) h' x o):Inv X jP σ (upd H x o) { s with heap:=h',toks:=t' }:=I.un (Un.write mu he k heo) (I.hok.write mu he k heo new)
theorem Inv.weak {σ':List (Option V)}(I:Inv X jP σ H s) (hl:σ'.length=σ.length) (w:∀(i:Nat) v,σ'[i]?=some (some v)->σ[i]?=some (some v)):Inv X jP σ' H s :=
 ⟨I.ok,I.os,I.bare,I.base,let ⟨m,hn,hl'⟩:=I.loc;⟨m,hn,λ i x v e1 e2 e3=>hl' i x v e1 (w i v e2) e3⟩,I.cell,I.free,I.freeC,I.pin,I.hok,hl.trans I.len⟩
theorem Inv.pins_of {pins':List 71}(I:Inv X jP σ H s) (h:∀p∈pins',s.heap.get? p.1=some p.2/\H p.1=none/\p.1≠X.env.locals/\p.1∉X.fs/\∀v,p.2.data ≠ .cell v):Inv X pins' σ H s :=
 ⟨I.ok,I.os,I.bare,I.base,I.loc,I.cell,I.free,I.freeC,λ p hp=>(lJ.mp hp).elim (λ z=>I.pin p (mE _ z)) (h p),I.hok,I.len⟩
theorem zHQ {N:List Str}(hN:N.Nodup) {i j:Nat}{x:Str}(a:N[i]?=some x) (b:N[j]?=some x):i=j:=by
 obtain⟨h1,e1⟩:=lI.mp a;obtain⟨h2,e2⟩:=lI.mp b;exact(List.getElem_inj hN).mp (e1.trans e2.symm)
theorem zFl {M:Model}{A:Around}{E:XQ}{i:Nat}{x:Str}{v:V}{u:Value}{Q:Unit->Shared->Prop}(I:Inv X jP σ H s) (hN:X.N.Nodup) (hi:X.N[i]?=some x) (hx:Loc X.env.scope x) (r:RelV v u)
  (h:∀s',Inv X jP (σ.set i (some v)) H s'->(∃a,Heap.SameBut a s.heap s'.heap/\(a=X.env.locals\/X.env.cells.lookup x=some a))->Q () s') (hf:X.fn x=true\/X.env.scope.names.lookup x=some .local:=by first|exact .inl rfl|exact .inr rfl|assumption):wpAny M A (storeName X.env x u) Q E s:=by
 obtain⟨m,hn,hl⟩:=id I.loc;have hcls:(X.env.scope.kind == .class || (X.env.scope.kind == .module && X.env.locals != X.env.globals))=false:=by rw[I.ok.kind];rfl
 have hiσ:i<σ.length:=by rw[I.len];exact(lI.mp hi).1
 have cne:=I.cne
 have tracked:∀{a:Addr}{h':Heap},(∃o,s.heap.get? a=some o/\H a=none)->Heap.SameBut a s.heap h'->HOk X.prog X.w H h':=λ{a h'} ha hs b ob e=>by
  obtain⟨_,_,hfree⟩:=ha;refine(I.hok b ob e).stay (λ c w' hc q=>(hs.2 c ?_).trans q) (λ Ω q=>q) λ Ω Ω q=>q;rintro rfl;rcases hc with rfl|hc
  ·rw[hfree] at e;cases e
  ·rw[hfree] at hc;cases hc
 rcases hx with hk|hk
 ·refine wpAny_storeName_local hk hn (λ h' hn' hs=>?_) hcls
  obtain⟨oL,_,_,hoL,_⟩:=id hn;refine h _ ⟨I.ok,I.os,I.bare,⟨λ b o e n hb hx=>?_,λ b o e n hb hx=>?_,I.base.free,λ b o e hx=>?_,I.base.tups,I.base.frzs,I.base.tbls⟩,⟨_,hn',λ j y v' e1 e2 e3=>?_⟩,λ y c e=>?_,I.free,I.freeC,λ p hp=>?_,tracked ⟨oL,hoL,I.free⟩ hs,by simpa using I.len⟩ ⟨_,hs,.inl rfl⟩
  ·exact(hs.2 b (lR (lY (lH e) I.ok.above))).trans (I.base.keep b o e n hb hx)
  ·obtain⟨sl,e1⟩:=I.base.slot b o e n hb hx
   exact⟨sl,(hs.2 b (lR (lY (lH e) I.ok.above))).trans e1⟩
  ·obtain⟨o',e1⟩:=I.base.there b o e hx
   exact⟨o',(hs.2 b (lR (lY (lH e) I.ok.above))).trans e1⟩
  ·by_cases hj:j=i
   ·subst hj
    rw[hi] at e1;cases e1;rw[rC hiσ] at e2;cases e2;exact⟨u,r,.inl ⟨hk,by simp⟩⟩
   ·rw[List.getElem?_set_ne (Ne.symm hj)] at e2
    obtain⟨u',r',q⟩:=hl j y v' e1 e2 e3;refine⟨u',r',?_⟩;rcases q with ⟨k,e⟩|⟨k,c,e,z⟩
    ·refine .inl ⟨k,?_⟩
     have:y≠x:=λ e=>hj (zHQ hN e1 (e▸hi));simp[this,e]
    ·exact .inr ⟨k,c,e,z.sameBut hs (cne y c e)⟩
  ·obtain⟨w',z⟩:=I.cell y c e
   exact⟨w',z.sameBut hs (cne y c e)⟩
  ·obtain⟨e,n,ne,nf,d⟩:=I.pin p hp
   exact⟨(hs.2 p.1 ne).trans e,n,ne,nf,d⟩
 ·have hfn:X.fn x=true:=by
   rcases hf with z|z
   ·exact z
   ·rw[z] at hk;cases hk
  obtain⟨c,hc⟩:=I.ok.has x (.inl hk);obtain⟨w',z⟩:=I.cell x c hc;refine wpAny_storeName_cell I.ok.kind hk hc z (λ h' hc' hs=>?_);obtain⟨oc,hoc,hocd⟩:=id z;refine h { s with heap:=h' } ⟨I.ok,I.os,I.bare,⟨λ b o e n hb hx=>?_,λ b o e n hb hx=>?_,I.base.free,λ b o e hx=>?_,I.base.tups,I.base.frzs,I.base.tbls⟩,⟨m,hn.sameBut hs (Ne.symm (cne x c hc)),λ j y v' e1 e2 e3=>?_⟩,λ y c' e=>?_,I.free,I.freeC,λ p hp=>?_,tracked ⟨oc,hoc,I.freeC x c hc⟩ hs,by simpa using I.len⟩ ⟨c,hs,.inr hc⟩
  ·exact(hs.2 b (lR (lY (lH e) (I.ok.cab x c hfn hc)))).trans (I.base.keep b o e n hb hx)
  ·obtain⟨sl,e1⟩:=I.base.slot b o e n hb hx
   exact⟨sl,(hs.2 b (lR (lY (lH e) (I.ok.cab x c hfn hc)))).trans e1⟩
  ·obtain⟨o',e1⟩:=I.base.there b o e hx
   exact⟨o',(hs.2 b (lR (lY (lH e) (I.ok.cab x c hfn hc)))).trans e1⟩
  ·by_cases hj:j=i
   ·subst hj
    rw[hi] at e1;cases e1;rw[rC hiσ] at e2;cases e2;exact⟨u,r,.inr ⟨.inl hk,c,hc,hc'⟩⟩
   ·rw[List.getElem?_set_ne (Ne.symm hj)] at e2
    obtain⟨u',r',q⟩:=hl j y v' e1 e2 e3;refine⟨u',r',?_⟩;rcases q with q|⟨k,c',e,z'⟩
    ·exact .inl q
    ·refine .inr ⟨k,c',e,z'.sameBut hs ?_⟩
     rintro rfl;exact hj (zHQ hN e1 (I.ok.inj _ _ _ e hc▸hi))
  ·by_cases hcc:c'=c
   ·subst hcc;exact⟨_,hc'⟩
   ·obtain⟨w2,z2⟩:=I.cell y c' e
    exact⟨w2,z2.sameBut hs hcc⟩
  ·obtain⟨e,n,ne,nf,d⟩:=I.pin p hp
   refine⟨(hs.2 p.1 ?_).trans e,n,ne,nf,d⟩;intro q;rw[q,hoc] at e;have q':oc=p.2:=mD e;exact d w' (by rw[←q'];exact hocd)
theorem zFG {M:Model}{A:Around}{E:XQ}{i:Nat}{x:Str}{v:V}{u:Value}{Q:Unit->Shared->Prop}(I:Inv X jP σ H s) (hN:X.N.Nodup) (hi:X.N[i]?=some x) (hx:Loc X.env.scope x) (r:RelV v u)
  (h:∀s',Inv X jP (σ.set i (some v)) H s'->Q () s') (hf:X.fn x=true\/X.env.scope.names.lookup x=some .local:=by first|exact .inl rfl|exact .inr rfl|assumption):wpAny M A (storeName X.env x u) Q E s :=
 zFl I hN hi hx r (λ s' I' Ω=>h s' I') hf
theorem Inv.call' {s':Shared}{ch:List Addr}(I:Inv X jP σ H s) (ho:s'.os=s.os) (u:Un (frs X.stack) ch H H' s.heap s'.heap) (hok:HOk X.prog X.w H' s'.heap) (hg:AllBare s'.gens)
  (hch:∀b∈ch,(b∈X.ex\/X.s₀.heap.objs.size<=b)/\b≠X.env.locals/\(∀x c,X.env.cells.lookup x=some c->c≠b)/\∀p∈X.pn++jP,p.1≠b):Inv X jP σ H' s':=by
 obtain⟨h',g',d',t',o'⟩:=s';have e:o'=s.os:=ho;subst e;exact I.call (g':=g') (t':=t') (d':=d') u hok hg hch
end
abbrev XK:=Value->Option Addr->Hp->Prop
abbrev St:=List (Option V)
abbrev VK:=V->Hp->Prop
abbrev TE:=St->Hp->VK->Prop
abbrev TT:=St->Hp->(Bool->Hp->Prop)->Prop
abbrev TA:=St->Hp->(List V->Hp->Prop)->Prop
structure Ends where
 nx:St->Hp->Prop
 rt:VK
 bk:St->Hp->Prop:=λ Ω Ω=>False
 ct:St->Hp->Prop:=λ Ω Ω=>False
abbrev TS:=Ends->St->Hp->Prop
def EP (X:Cx) (jP:List 71) (σ:St) (Q:VK) (u:Value) (s':Shared):Prop:=∃v H',Inv X jP σ H' s'/\RelV v u/\Q v H'
def TP (X:Cx) (jP:List 71) (σ:St) (Q:Bool->Hp->Prop) (b:Bool) (s':Shared):Prop:=∃H',Inv X jP σ H' s'/\Q b H'
def AP (X:Cx) (jP:List 71) (σ:St) (Q:List V->Hp->Prop) (us:List Value) (s':Shared):Prop:=∃vs H',Inv X jP σ H' s'/\Vals vs us/\Q vs H'
def SP (X:Cx) (jP:List 71) (D:Ends) (f:Flow) (s':Shared):Prop :=
 match f with
 |.next=>∃σ' H',Inv X jP σ' H' s'/\D.nx σ' H'
 |.brk=>∃σ' H',Inv X jP σ' H' s'/\D.bk σ' H'
 |.cont=>∃σ' H',Inv X jP σ' H' s'/\D.ct σ' H'
 |.ret u=>∃v σ' H',Inv X jP σ' H' s'/\RelV v u/\D.rt v H'
def PE (X:Cx) (e:Expr) (t:TE):Prop :=
 ∀(jP:List 71) (s:Shared) (σ:St) (H:Hp) (Q:VK),Inv X jP σ H s->t σ H Q->wpAny 67 X.A (eval e X.env) (EP X jP σ Q) X.xe s
def PT (X:Cx) (e:Expr) (t:TT):Prop :=
 ∀(jP:List 71) (s:Shared) (σ:St) (H:Hp) (Q:Bool->Hp->Prop),Inv X jP σ H s->t σ H Q->wpAny 67 X.A (isTrue e X.env (eval e X.env)) (TP X jP σ Q) X.xe s
def PW (X:Cx) (e:Expr) (t:TT):Prop :=
 ∀(whole:Sem Value) (jP:List 71) (s:Shared) (σ:St) (H:Hp) (Q:Bool->Hp->Prop),Inv X jP σ H s->t σ H Q->wpAny 67 X.A (isTrue e X.env whole) (TP X jP σ Q) X.xe s
theorem PW.pt {X:Cx}{e:Expr}{t:TT}(h:PW X e t):PT X e t:=h _
def PA (X:Cx) (es:List Expr) (t:TA):Prop :=
 ∀(pos:Pos) (jP:List 71) (s:Shared) (σ:St) (H:Hp) (Q:List V->Hp->Prop),Inv X jP σ H s->t σ H Q->wpAny 67 X.A (spliced (backTo pos (starEach es X.env))) (AP X jP σ Q) X.xe s
def PS (X:Cx) (st:Stmt) (t:TS):Prop :=
 ∀(jP:List 71) (s:Shared) (σ:St) (H:Hp) (D:Ends),Inv X jP σ H s->t D σ H->wpAny 67 X.A (exec st X.env) (SP X jP D) X.xe s
def PSs (X:Cx) (st:List Stmt) (t:TS):Prop :=
 ∀(jP:List 71) (s:Shared) (σ:St) (H:Hp) (D:Ends),Inv X jP σ H s->t D σ H->wpAny 67 X.A (execs st X.env) (SP X jP D) X.xe s
theorem thn {α:Type}{t:Sem α}{Q Q':α->Shared->Prop}{M:Model}{A:Around}{E:XQ}{s:Shared}(h:wpAny M A t Q E s) (hQ:∀a s,Q a s->Q' a s):wpAny M A t Q' E s:=wpAny_mono h hQ λ Ω Ω x=>x
section
variable {X:Cx}
inductive tVar (i:Nat) (σ:St) (H:Hp) (Q:VK):Prop
 |mk (v:V) (h:σ[i]?=some (some v)) (q:Q v H)
inductive IsB (Q:Bool->Hp->Prop) (x:V) (H:Hp):Prop
 |mk (c:Bool) (h:x = .bl c) (q:Q c H)
def tC (v:V):TE:=λ Ω H Q=>Q v H
theorem zMa {i:Nat}{x:Str}{pos:Pos}(hN:X.N[i]?=some x) (hv:Vis X.env.scope x) (hd:(x == ("__debug__" : Str))=false:=by decide) (hcd:(x == ("__classdict__" : Str))=false:=by decide):PE X (.Name x pos) (tVar i):=by
 intro jP s σ H Q I h;obtain⟨v,e,h⟩:=h;obtain⟨m,hn,hl⟩:=I.loc;obtain⟨u,r,l⟩:=hl i x v hN e hv;have fin:EP X jP σ Q u s:=⟨v,H,I,r,h⟩;rcases l with ⟨hk,hm⟩|⟨hk,c,hc,hcell⟩
 ·exact wpAny_Name (wpAny_loadName_local I.ok.kind hk hn hm fin) hd
 ·rcases hk with hk|hk
  ·exact wpAny_Name (wpAny_loadName_cell I.ok.kind hk hc hcell fin) hd
  ·exact wpAny_Name (wpAny_loadName_free I.ok.kind hk hc hcell fin hcd) hd
theorem zAG {i j pos}:PE X (.Constant (.int i) j pos) (tC (.int i)):=λ Ω Ω Ω H Ω I h=>wpAny_Constant_int ⟨.int i,H,I.tok _,72,h⟩
theorem pe_bl {b j pos}:PE X (.Constant (.bool b) j pos) (tC (.bl b)):=λ Ω Ω Ω H Ω I h=>Constant_bool ⟨.bl b,H,I,rfl,h⟩
theorem zD3 {j pos}:PE X (.Constant .none j pos) (tC .non):=λ Ω Ω Ω H Ω I h=>Constant_none ⟨.non,H,I,rfl,h⟩
theorem zAP {x j pos}:PE X (.Constant (.str x) j pos) (tC (.str x)):=λ Ω Ω Ω H Ω I h=>Calls.Constant_str ⟨.str x,H,I.tok _,72,h⟩
def Gl (X:Cx) (x:Str):Prop:=X.env.kindOf x=some .globalImplicit
theorem zJH {E:XQ}{jP:List 71}{s:Shared}{σ:St}{H:Hp}{x:Str}{u:Value}{pos:Pos}{Q:XQ}(I:Inv X jP σ H s) (hg:Gl X x) (hm:X.mg x=some u) (h:Q u s)
  (hd:(x == ("__debug__" : Str))=false:=by decide):wpAny 67 X.A (eval (.Name x pos) X.env) Q E s :=
 Calls.Name_function_global I.ok.kind hg (Calls.loadGlobal_global (by rw[I.ok.glob];exact I.mod.glob.keeps I.bk) hm h) hd
theorem zDC {E:XQ}{jP:List 71}{s:Shared}{σ:St}{H:Hp}{x:Str}{u:Value}{pos:Pos}{Q:XQ}(I:Inv X jP σ H s) (hg:Gl X x) (hm:X.mg x=none) (hv:bootBuiltins x=some u) (h:Q u s)
  (hn:x ≠ "__name__" := by decide) (hd:(x == ("__debug__" : Str))=false:=by decide):wpAny 67 X.A (eval (.Name x pos) X.env) Q E s:=by
 obtain⟨mb,h1,h2⟩:=I.mod.blt;exact Calls.Name_function_global I.ok.kind hg (Calls.loadGlobal_builtin (by rw[I.ok.glob];exact I.mod.glob.keeps I.bk) hm (by rw[I.ok.blt];exact h1.keeps I.bk) ((h2 x hn).trans hv) h) hd
theorem zDq {x:Str}{v:V}{u:Value}{pos:Pos}(hg:Gl X x) (hm:X.mg x=some u) (r:RelV v u) (hd:(x == ("__debug__" : Str))=false:=by decide):PE X (.Name x pos) (tC v) :=
 λ Ω Ω Ω H Ω I h=>zJH I hg hm ⟨v,H,I,r,h⟩ hd
theorem zIr {x:Str}{v:V}{u:Value}{pos:Pos}(hg:Gl X x) (hm:X.mg x=none) (hv:bootBuiltins x=some u) (r:RelV v u) (hn:x ≠ "__name__" := by decide) (hd:(x == ("__debug__" : Str))=false:=by decide):PE X (.Name x pos) (tC v) :=
 λ Ω Ω Ω H Ω I h=>zDC I hg hm hv ⟨v,H,I,r,h⟩ hn hd
variable {a b:Expr}{ta tb:TE}{pos:Pos}
def tB (t:TE):TT:=λ σ H Q=>t σ H (IsB Q)
theorem zAp {e:Expr}{t:TE}(h:PE X e t) (he:∀whole,isTrue e X.env whole=(do let v ← whole;standAt e.pos;holding [v] (truthy v)):=by intro _;rfl):PT X e (tB t):=by
  intro jP s σ H Q I hw;refine isTrue_plain (thn (h jP s σ H _ I hw) λ v s1 ⟨x,H1,I1,r1,q1⟩=>?_) (he _);obtain⟨d,rfl,q⟩:=q1;cases r1;exact wpAny_truthy_bool ⟨H1,I1,q⟩
variable {tA tB':TT}{rest:List Expr}
def tAnd (t u:TT):TT:=λ σ H Q=>t σ H λ c H1=>if c=true then u σ H1 Q else Q false H1
def tOr (t u:TT):TT:=λ σ H Q=>t σ H λ c H1=>if c=true then Q true H1 else u σ H1 Q
def tNot (t:TT):TT:=λ σ H Q=>t σ H λ c H1=>Q (!c) H1
theorem zBE (ha:PT X a tA):PW X (.BoolOp .And [a] pos) tA:=by
 intro wh jP s σ H Q I h;refine isTrue_and (thn (ha jP s σ H Q I h) λ c s1 e=>?_);cases c with
 |true=>exact isTrue_and_nil e
 |false=>exact e
theorem zCg (ha:PT X a tA):PW X (.BoolOp .Or [a] pos) tA:=by
 intro wh jP s σ H Q I h;refine isTrue_or (thn (ha jP s σ H Q I h) λ c s1 e=>?_);cases c with
 |false=>exact isTrue_or_nil e
 |true=>exact e
theorem zBk (ha:PT X a tA) (hb:PW X (.BoolOp .And (b::rest) pos) tB'):PW X (.BoolOp .And (a::b::rest) pos) (tAnd tA tB'):=by
 intro wh jP s σ H Q I h;refine isTrue_and (thn (ha jP s σ H _ I h) λ c s1 ⟨H1,I1,q1⟩=>?_);cases c with
 |true=>exact hb wh jP s1 σ H1 Q I1 q1
 |false=>exact⟨H1,I1,q1⟩
theorem pw_or (ha:PT X a tA) (hb:PW X (.BoolOp .Or (b::rest) pos) tB'):PW X (.BoolOp .Or (a::b::rest) pos) (tOr tA tB'):=by
 intro wh jP s σ H Q I h;refine isTrue_or (thn (ha jP s σ H _ I h) λ c s1 ⟨H1,I1,q1⟩=>?_);cases c with
 |true=>exact⟨H1,I1,q1⟩
 |false=>exact hb wh jP s1 σ H1 Q I1 q1
theorem zBS (ha:PT X a tA):PT X (.UnaryOp .Not a pos) (tNot tA):=by
 intro jP s σ H Q I h;exact isTrue_not (ha jP s σ H (λ c H1=>Q (!c) H1) I h)
def tAndV (ta tb:TE):TE:=λ σ H Q=>ta σ H (IsB λ c H1=>if c=true then tb σ H1 Q else Q (.bl false) H1)
def tOrV (ta tb:TE):TE:=λ σ H Q=>ta σ H λ x H1=>∃c,x = .bl c/\if c=true then Q (.bl true) H1 else tb σ H1 Q
def tNotV (ta:TE):TE:=λ σ H Q=>ta σ H (IsB λ c H1=>Q (.bl (!c)) H1)
theorem zD2 {op} {t:TE}(h:PE X a t):PE X (.BoolOp op [a] pos) t:=λ jP s σ H Q I hw=>BoolOp_one (h jP s σ H Q I hw)
theorem zFy (ha:PE X a ta) (hb:PE X (.BoolOp .And (b::rest) pos) tb):PE X (.BoolOp .And (a::b::rest) pos) (tAndV ta tb):=by
 intro jP s σ H Q I h;refine BoolOp_and (thn (ha jP s σ H _ I h) λ v s1 ⟨x,H1,I1,r1,q1⟩=>?_);obtain⟨c,rfl,q1⟩:=q1;cases r1;refine wpAny_truthy_bool ?_;cases c with
 |true=>exact hb jP s1 σ H1 Q I1 q1
 |false=>exact⟨.bl false,H1,I1,rfl,q1⟩
theorem pe_or (ha:PE X a ta) (hb:PE X (.BoolOp .Or (b::rest) pos) tb):PE X (.BoolOp .Or (a::b::rest) pos) (tOrV ta tb):=by
 intro jP s σ H Q I h;refine BoolOp_or (thn (ha jP s σ H _ I h) λ v s1 ⟨x,H1,I1,r1,q1⟩=>?_);obtain⟨c,rfl,q1⟩:=q1;cases r1;refine wpAny_truthy_bool ?_;cases c with
 |false=>exact hb jP s1 σ H1 Q I1 q1
 |true=>exact⟨.bl true,H1,I1,rfl,q1⟩
theorem zMc (ha:PE X a ta):PE X (.UnaryOp .Not a pos) (tNotV ta):=by
 intro jP s σ H Q I h;refine UnaryOp_ (thn (ha jP s σ H _ I h) λ v s1 ⟨x,H1,I1,r1,q1⟩=>?_);obtain⟨c,rfl,q1⟩:=q1;cases r1;exact not_of (wpAny_truthy_bool ⟨.bl (!c),H1,I1,rfl,q1⟩)
end
def SqL (K:W.Frag) (H:Hp) (a:Addr) (xs:List V):Prop :=
 Rd H a (.lst xs) \/
  ∃(o:Obj) (its:Array Value) (n:Nat),K.lookup a=some o/\o.cls = .type "list" /\ o.dict=none/\o.data = .seq its n/\its.size<=sizeLine/\Vals xs its.toList
def SqT (K:W.Frag) (H:Hp) (a:Addr) (xs:List V):Prop :=
 Rd H a (.tup xs) \/
  ∃(o:Obj) (its:Array Value) (n:Nat),K.lookup a=some o/\o.cls = .type "tuple" /\ o.data = .seq its n/\its.size<=sizeLine/\Vals xs its.toList
noncomputable def absV:Value->Option V
 |.none=>some .non
 |.bool b=>some (.bl b)
 |.int i _=>some (.int i)
 |.str x _=>some (.str x)
 |.bytes b _=>some (.byt b)
 |.float b _=>some (.flt b)
 |.ref a=>some (.ref a)
 |.type n=>some (.ty n)
 |_=>none
theorem RelV.abs {x:V}{u:Value}(r:RelV x u):absV u=some x:=by
 cases x with
 |non=>cases r;rfl
 |bl _=>cases r;rfl
 |int _=>obtain⟨t,rfl⟩:=r;rfl
 |str _=>obtain⟨t,rfl⟩:=r;rfl
 |byt _=>obtain⟨t,rfl⟩:=r;rfl
 |flt _=>obtain⟨t,rfl⟩:=r;rfl
 |ref _=>cases r;rfl
 |ty _=>cases r;rfl
theorem RelV.inj {x y:V}{u:Value}(r:RelV x u) (q:RelV y u):x=y:=mD (r.abs.symm.trans q.abs)
theorem Vals.inj {xs ys:List V}{us:List Value}(h:Vals xs us):Vals ys us->xs=ys:=by
 induction h generalizing ys with
 |nil=>intro z;cases z;rfl
 |cons r t ih=>intro z;cases z with|cons r' t'=>rw[r.inj r',ih t']
section
variable {X:Cx}{jP:List (Addr × Obj)}{σ:St}{H:Hp}{s:Shared}{a:Addr}{xs ys:List V}
theorem SqL.of {K:W.Frag}(h:H a=some (.lst xs)):SqL K H a xs:=.inl (.inl h)
theorem SqT.of {K:W.Frag}(h:H a=some (.tup xs)):SqT K H a xs:=.inl (.inl h)
theorem Inv.list (I:Inv X jP σ H s) (h:SqL X.K H a xs):∃its:List Value,Vals xs its/\PlainL s.heap a its.toArray/\xs.length<=sizeLine:=by
 rcases h with h|⟨o,its,n,hk,hc,hd,hs,hz,r⟩
 ·obtain⟨z,its,n,r,e⟩:=h.ok I.hok
  exact⟨its,r,⟨_,n,e,rfl,rfl,rfl⟩,z⟩
 ·refine⟨its.toList,r,⟨o,n,I.kIn a o hk,hc,hd,by simpa using hs⟩,?_⟩
  have e:=r.length;simp only[Array.length_toList] at e
  lia
theorem Inv.tuple (I:Inv X jP σ H s) (h:SqT X.K H a xs):∃its:List Value,Vals xs its/\IsTup s.heap a its.toArray/\xs.length<=sizeLine:=by
 rcases h with h|⟨o,its,n,hk,hc,hs,hz,r⟩
 ·obtain⟨z,its,r,p⟩:=h.ok I.hok
  exact⟨its,r,p,z⟩
 ·refine⟨its.toList,r,⟨o,I.kIn a o hk,hc,n,by simpa using hs⟩,?_⟩
  have e:=r.length;simp only[Array.length_toList] at e
  lia
theorem Inv.list_inj (I:Inv X jP σ H s) (h:SqL X.K H a xs) (h':SqL X.K H a ys):xs=ys:=by
 obtain⟨its,r,⟨o,n,e,_,_,d⟩,_⟩:=I.list h;obtain⟨its',r',⟨o',n',e',_,_,d'⟩,_⟩:=I.list h';rw[e] at e';cases e';rw[d] at d';injection d' with d1 _
 have:its=its':=by simpa using congrArg Array.toList d1
 subst this;exact r.inj r'
theorem Inv.tuple_inj (I:Inv X jP σ H s) (h:SqT X.K H a xs) (h':SqT X.K H a ys):xs=ys:=by
 obtain⟨its,r,⟨o,e,_,n,d⟩,_⟩:=I.tuple h;obtain⟨its',r',⟨o',e',_,n',d'⟩,_⟩:=I.tuple h';rw[e] at e';cases e';rw[d] at d';injection d' with d1 _
 have:its=its':=by simpa using congrArg Array.toList d1
 subst this;exact r.inj r'
end
abbrev Cx.wish (X:Cx) (E:XQ):Cx:={ X with xe:=E }
abbrev Cx.nox (X:Cx):Cx:=X.wish λ Ω Ω=>False
theorem Cx.Ok.wish {X:Cx}(ok:X.Ok) (E:XQ):(X.wish E).Ok :=
 ⟨ok.mod,ok.kind,ok.glob,ok.blt,ok.above,ok.inj,ok.has,ok.cab,ok.hd,ok.frames,ok.stk,ok.exf,ok.bs,ok.bsz,ok.noex,ok.exfs,ok.funs,ok.frf⟩
theorem Cx.Ok.unwish {X:Cx}{E:XQ}(ok:(X.wish E).Ok):X.Ok :=
 ⟨ok.mod,ok.kind,ok.glob,ok.blt,ok.above,ok.inj,ok.has,ok.cab,ok.hd,ok.frames,ok.stk,ok.exf,ok.bs,ok.bsz,ok.noex,ok.exfs,ok.funs,ok.frf⟩
section
variable {X:Cx}{jP:List (Addr × Obj)}{σ:St}{H:Hp}{s:Shared}{E:XQ}
theorem Inv.wish (I:Inv X jP σ H s) (E:XQ):Inv (X.wish E) jP σ H s:=⟨I.ok.wish E,I.os,I.bare,I.base,I.loc,I.cell,I.free,I.freeC,I.pin,I.hok,I.len⟩
theorem Inv.unwish (I:Inv (X.wish E) jP σ H s):Inv X jP σ H s:=⟨I.ok.unwish,I.os,I.bare,I.base,I.loc,I.cell,I.free,I.freeC,I.pin,I.hok,I.len⟩
theorem SP.unwish {D:Ends}{f:Flow}{s':Shared}(h:SP (X.wish E) jP D f s'):SP X jP D f s':=by
 cases f with
 |next=>obtain⟨σ',H',I,q⟩:=h;exact⟨σ',H',I.unwish,q⟩
 |brk=>obtain⟨σ',H',I,q⟩:=h;exact⟨σ',H',I.unwish,q⟩
 |cont=>obtain⟨σ',H',I,q⟩:=h;exact⟨σ',H',I.unwish,q⟩
 |ret u=>obtain⟨v,σ',H',I,r,q⟩:=h;exact⟨v,σ',H',I.unwish,r,q⟩
theorem PSs.nox {st:List Stmt}{t:TS}(h:PSs X.nox st t):PSs X st t:=λ jP s σ H D I hw =>
 wpAny_mono (h jP s σ H D (I.wish _) hw) (λ Ω Ω q=>q.unwish) λ Ω Ω z=>False.elim z
end
section
variable {X:Cx}{st:Stmt}{rest:List Stmt}{t u:TS}{e:Expr}{te:TE}{pos:Pos}
def tNext:TS:=λ D σ H=>D.nx σ H
def tSeq (t u:TS):TS:=λ D σ H=>t { D with nx:=u D } σ H
theorem zAK:PSs X [] tNext:=λ _ _ σ H _ I h=>wpAny_execs_nil ⟨σ,H,I,h⟩
theorem zAE (h1:PS X st t) (h2:PSs X rest u):PSs X (st::rest) (tSeq t u):=by
 intro jP s σ H D I h;refine wpAny_execs_cons (thn (h1 jP s σ H { D with nx:=u D } I h) λ f s1 q=>?_);cases f with
 |next =>
  obtain⟨σ',H',I',q⟩:=q;exact h2 jP s1 σ' H' D I' q
 |ret v=>exact q
 |brk=>exact q
 |cont=>exact q
theorem zAH (h1:PS X st t):PSs X [st] t:=by
 intro jP s σ H D I h;refine wpAny_execs_cons (thn (h1 jP s σ H D I h) λ f s1 q=>?_);cases f with
 |next=>exact wpAny_execs_nil q
 |ret v=>exact q
 |brk=>exact q
 |cont=>exact q
theorem Inv.quiet {jP:List 71}{σ:St}{H:Hp}{s:Shared}(I:Inv X jP σ H s):interactive X.env=false:=by simp[interactive,I.ok.kind]
def tDrop (te:TE):TS:=λ D σ H=>te σ H λ Ω H1=>D.nx σ H1
theorem zES (he:PE X e te) (hs:swapsWith e none pos.line X.env=pure false:=by rfl):PS X (.Expr e pos) (tDrop te):=by
 intro jP s σ H D I h;exact wpAny_Expr_any (thn (he jP s σ H _ I h) λ v s1 ⟨x,H1,I1,r1,q1⟩=>⟨σ,H1,I1,q1⟩) I.quiet hs
def tRet (te:TE):TS:=λ D σ H=>te σ H D.rt
theorem zAU (he:PE X e te):PS X (.Return (some e) pos) (tRet te):=by
 intro jP s σ H D I h;exact wpAny_Return_some (thn (he jP s σ H _ I h) λ v s1 ⟨x,H1,I1,r1,q1⟩=>⟨x,σ,H1,I1,r1,q1⟩)
def tIfS (c:TT) (t u:TS):TS:=λ D σ H=>c σ H λ b H1=>if b=true then t D σ H1 else u D σ H1
theorem ps_if {c:Expr}{a b:List Stmt}{tc:TT}(hc:PT X c tc) (ha:PSs X a t) (hb:PSs X b u):PS X (.If c a b pos) (tIfS tc t u):=by
 intro jP s σ H D I h;refine wpAny_If (thn (hc jP s σ H _ I h) λ d s1 ⟨H1,I1,q1⟩=>?_);cases d with
 |true=>exact ha jP s1 σ H1 D I1 q1
 |false=>exact hb jP s1 σ H1 D I1 q1
def zMK:TS:=λ Ω Ω Ω=>False
theorem zIj {sts:List Stmt}:PSs X sts zMK:=λ Ω Ω Ω Ω Ω Ω h=>h.elim
end
abbrev TG:=V->St->Hp->(St->Hp->Prop)->Prop
abbrev TGs:=List V->St->Hp->(St->Hp->Prop)->Prop
def PG (X:Cx) (target:Expr) (t:TG):Prop :=
 ∀(jP:List 71) (s:Shared) (σ:St) (H:Hp) (v:V) (u:Value) (Q:St->Hp->Prop),Inv X jP σ H s->RelV v u->t v σ H Q ->
  wpAny 67 X.A (assign target X.env u) (λ Ω s'=>∃σ' H',Inv X jP σ' H' s'/\Q σ' H') X.xe s
def PGs (X:Cx) (ts:List Expr) (t:TGs):Prop :=
 ∀(jP:List 71) (s:Shared) (σ:St) (H:Hp) (vs:List V) (us:List Value) (Q:St->Hp->Prop),Inv X jP σ H s->Vals vs us->t vs σ H Q ->
  wpAny 67 X.A (assignInOrder ((assignEach ts X.env).map (·.2)) us) (λ Ω s'=>∃σ' H',Inv X jP σ' H' s'/\Q σ' H') X.xe s
abbrev TSet:=V->V->V->Hp->(Hp->Prop)->Prop
def PSet (X:Cx) (t:TSet):Prop :=
 ∀(jP:List 71) (s:Shared) (σ:St) (H:Hp) (o i v:V) (ov iv u:Value) (Q:Hp->Prop),Inv X jP σ H s->RelV o ov->RelV i iv->RelV v u->t o i v H Q ->
  wpAny 67 X.A (setItem ov iv u) (λ Ω s'=>∃H',Inv X jP σ H' s'/\Q H') X.xe s
abbrev TIp:=V->V->Hp->VK->Prop
def PIp (X:Cx) (op:Operator) (t:TIp):Prop :=
 ∀(jP:List 71) (s:Shared) (σ:St) (H:Hp) (x y:V) (v u:Value) (Q:VK),Inv X jP σ H s->RelV x v->RelV y u->t x y H Q ->
  wpAny 67 X.A (inplaceOp op v u) (EP X jP σ Q) X.xe s
section
variable {X:Cx}{pos:Pos}
def gName (i:Nat):TG:=λ v σ H Q=>Q (σ.set i (some v)) H
theorem zBx {i:Nat}{x:Str}(hN:X.N.Nodup) (hi:X.N[i]?=some x) (hx:Loc X.env.scope x) (hf:X.fn x=true\/X.env.scope.names.lookup x=some .local:=by first|exact .inl rfl|exact .inr rfl|assumption):PG X (.Name x pos) (gName i):=by
 intro jP s σ H v u Q I r h;exact wpAny_assign_Name (zFG I hN hi hx r (λ s' I'=>⟨_,H,I',h⟩) hf)
theorem pGn {i:Nat}{x:Str}(hN:X.N.Nodup)(hi:X.N[i]?=some x:=by rfl)(hx:Loc X.env.scope x:=by exact Or.inl rfl)(hf:X.fn x=true\/X.env.scope.names.lookup x=some .local:=by first|exact .inl rfl|exact .inr rfl|assumption):PG X (.Name x pos) (gName i):=zBx hN hi hx hf
def gNil:TGs:=λ vs σ H Q=>vs=[]/\Q σ H
inductive gCons (t:TG) (u:TGs) (vs:List V) (σ:St) (H:Hp) (Q:St->Hp->Prop):Prop
 |mk (v:V) (r:List V) (h:vs=v::r) (q:t v σ H λ σ' H'=>u r σ' H' Q)
theorem zBV:PGs X [] gNil:=by
 intro jP s σ H vs us Q I r h;obtain⟨e,h⟩:=h;subst e;cases r;exact assignInOrder_nil ⟨σ,H,I,h⟩
theorem zAa {e:Expr}{es:List Expr}{t:TG}{u:TGs}(h1:PG X e t) (h2:PGs X es u)
  (hs:(assignEach (e::es) X.env).map (·.2)=assign e X.env::(assignEach es X.env).map (·.2):=by rfl):PGs X (e::es) (gCons t u):=by
 intro jP s σ H vs us Q I r h;obtain⟨v,vr,e1,h⟩:=h;subst e1;cases r with
 |cons r rr =>
  rw[hs];refine assignInOrder_cons (thn (h1 jP s σ H _ _ _ I r h) λ _ s1 ⟨σ1,H1,I1,q1⟩=>?_);exact h2 jP s1 σ1 H1 _ _ Q I1 rr q1
def gTup (K:W.Frag) (n:Nat) (t:TGs):TG:=λ v σ H Q=>E2 λ a xs=>A4 (v = .ref a) (SqT K H a xs) (xs.length=n) (t xs σ H Q)
theorem zB2 {es:List Expr}{k:Nat}{t:TGs}{n:Nat}(hc:X.calm=true) (h:PGs X es t)
  (hn:(assignEach es X.env).length=n:=by rfl) (hst:(assignEach es X.env).findIdx? (·.1)=none:=by rfl):PG X (.Tuple es k pos) (gTup X.K n t):=by
 intro jP s σ H v u Q I r hw;obtain⟨a,xs,e1,hq,hl,hw⟩:=hw;subst e1;cases r;obtain⟨its,rv,ht,hz⟩:=I.tuple hq;refine assign_Tuple_tuple (I.ok.hd hc) ht (by simp[hn,←hl,rv.length]) hst λ h' hx=>?_;have I1:Inv X jP σ H { s with heap:=h' }:=I.kept (t':=s.toks) λ b o e=>hx b o (lR (lH e)) e;exact h jP _ σ H xs _ Q I1 (by simpa using rv) hw
def gSub (to ti:TE) (t:TSet):TG:=λ v σ H Q=>to σ H λ o H1=>ti σ H1 λ i H2=>t o i v H2 λ H3=>Q σ H3
theorem zHL {o i:Expr}{to ti:TE}{t:TSet}(ho:PE X o to) (hi:PE X i ti) (hs:PSet X t)
  (ha:∀v,assign (.Subscript o i pos) X.env v=(do
   let ov ← holding [v] (eval o X.env)
   let iv ← holding [v,ov] (eval i X.env)
   standAt pos
   holding [v,ov,iv] (setItem ov iv v)
   release [v,ov,iv] []):=by intro _;rfl):PG X (.Subscript o i pos) (gSub to ti t):=by
 intro jP s σ H v u Q I r h;rw[ha];refine lA (lD (thn (ho jP s σ H _ I h) λ ov s1 ⟨x,H1,I1,r1,q1⟩=>?_));refine lA (lD (thn (hi jP s1 σ H1 _ I1 q1) λ iv s2 ⟨y,H2,I2,r2,q2⟩=>?_));refine lA (wpAny_standAt (lA (lD (thn (hs jP s2 σ H2 x y v ov iv u _ I2 r1 r2 r q2) λ _ s3 ⟨H3,I3,q3⟩=>?_))));exact wpAny_release ⟨σ,H3,I3,q3⟩
def tAsg (te:TE) (g:TG):TS:=λ D σ H=>te σ H λ x H1=>g x σ H1 D.nx
theorem zFx {tg e:Expr}{te:TE}{g:TG}(he:PE X e te) (hg:PG X tg g) (hs:swapsWithSole [tg] e pos.line X.env=pure false:=by rfl) (hw:swappedStores [tg] e X.env=pure none:=by rfl)
  (h1:(assignEach [tg] X.env).map (·.2)=[assign tg X.env]:=by rfl):PS X (.Assign [tg] e pos) (tAsg te g):=by
 intro jP s σ H D I h;refine wpAny_Assign_stores (thn (he jP s σ H _ I h) λ v s1 ⟨x,H1,I1,r1,q1⟩=>?_) hs hw;rw[h1];exact thn (hg jP s1 σ H1 x v _ I1 r1 q1) λ Ω s2 q=>q
theorem zFw {i:Nat}{x:Str}{e:Expr}{te:TE}{pos':Pos}(hN:X.N.Nodup) (hi:X.N[i]?=some x) (hx:Loc X.env.scope x) (he:PE X e te) (hs:swapsWith e (some (.Name x pos')) pos.line X.env=pure false:=by rfl) (hf:X.fn x=true\/X.env.scope.names.lookup x=some .local:=by first|exact .inl rfl|exact .inr rfl|assumption) :
  PS X (.Assign [.Name x pos'] e pos) (tAsg te (gName i)):=by
 intro jP s σ H D I h;refine wpAny_Assign_Name (thn (he jP s σ H _ I h) λ v s1 ⟨y,H1,I1,r1,q1⟩=>?_) hs;exact zFG I1 hN hi hx r1 (λ s2 I2=>⟨_,H1,I2,q1⟩) hf
theorem pS {i:Nat}{x:Str}{e:Expr}{te:TE}{pos':Pos}(hN:X.N.Nodup)(he:PE X e te)(hi:X.N[i]?=some x:=by rfl)(hx:Loc X.env.scope x:=by exact Or.inl rfl)(hs:swapsWith e (some (.Name x pos')) pos.line X.env=pure false:=by rfl)(hf:X.fn x=true\/X.env.scope.names.lookup x=some .local:=by first|exact .inl rfl|exact .inr rfl|assumption):PS X (.Assign [.Name x pos'] e pos) (tAsg te (gName i)):=zFw hN hi hx he hs hf
def tAug (i:Nat) (te:TE) (ti:TIp):TS:=λ D σ H=>∃x,σ[i]?=some (some x)/\te σ H λ y H1=>ti x y H1 λ z H2=>D.nx (σ.set i (some z)) H2
theorem zMX {i:Nat}{x:Str}{e:Expr}{te:TE}{op:Operator}{ti:TIp}{pos':Pos}(hN:X.N.Nodup) (hi:X.N[i]?=some x) (hx:Loc X.env.scope x) (he:PE X e te) (ho:PIp X op ti) (hf:X.fn x=true\/X.env.scope.names.lookup x=some .local:=by first|exact .inl rfl|exact .inr rfl|assumption) :
  PS X (.AugAssign (.Name x pos') op e pos) (tAug i te ti):=by
 intro jP s σ H D I h;obtain⟨v,e1,h⟩:=h;obtain⟨m,hn,hl⟩:=I.loc;have vis:Vis X.env.scope x:=by rcases hx with k|k;exact .inl k;exact .inr (.inl k)
 obtain⟨u,r,l⟩:=hl i x v hi e1 vis;refine wpAny_AugAssign_Name ?_
 have go:wpAny 67 X.A (eval e X.env) (λ w s₂=>wpAny 67 X.A (inplaceOp op u w) (λ r s₃=>wpAny 67 X.A (storeName X.env x r) (λ Ω=>SP X jP D .next) X.xe s₃) X.xe s₂) X.xe s:=by
  refine thn (he jP s σ H _ I h) λ w s1 ⟨y,H1,I1,r1,q1⟩=>?_;refine thn (ho jP s1 σ H1 v y u w _ I1 r r1 q1) λ z s2 ⟨zv,H2,I2,r2,q2⟩=>?_;exact zFG I2 hN hi hx r2 (λ s3 I3=>⟨_,H2,I3,q2⟩) hf
 rcases l with ⟨hk,hm⟩|⟨hk,c,hc,hcell⟩
 ·exact wpAny_loadName_local I.ok.kind hk hn hm go
 ·rcases hk with hk|hk
  ·exact wpAny_loadName_cell I.ok.kind hk hc hcell go
  ·rcases hx with k|k
   ·have:X.env.scope.names.lookup x=some .free:=hk
    rw[k] at this;cases this
   ·have:X.env.scope.names.lookup x=some .free:=hk
    rw[k] at this;cases this
def ipI (f:Int->Int->Int):TIp:=λ x y H Q=>E2 λ i j=>A3 (x = .int i) (y = .int j) (Q (.int (f i j)) H)
theorem zMr:PIp X .Add (ipI λ i j=>i+j):=by
 intro jP s σ H x y v u Q I r1 r2 h;obtain⟨i,j,e1,e2,q⟩:=h;subst e1;subst e2;obtain⟨t,rfl⟩:=r1;obtain⟨t',rfl⟩:=r2;exact iadd_int ⟨.int _,H,I.tok _,72,q⟩
end
section
variable {X:Cx}{pos:Pos}
def zMJ (c:TT) (tb:TS):TS:=λ D σ H=>∃W:Nat->St->Hp->Prop,(∃m,W m σ H)/\∀m σ H,W m σ H ->
 c σ H λ b H1=>if b=true then ∃N:St->Hp->Prop,(∀σ' H',N σ' H'->∃m',m'<m/\W m' σ' H')/\tb { D with nx:=N,ct:=N,bk:=D.nx } σ H1 else D.nx σ H1
theorem zC4 {c:Expr}{body:List Stmt}{tc:TT}{tb:TS}(hp:PassesOwn 67 X.A X.env X.xe) (hc:PT X c tc) (hb:PSs X body tb):PS X (.While c body [] pos) (zMJ tc tb):=by
 intro jP s σ H D I h;obtain⟨W,⟨m0,w0⟩,turn⟩:=h;refine wpAny_While (codeAny_whileLoop (λ n s'=>∃σ' H',Inv X jP σ' H' s'/\W n σ' H') ?_ m0 ⟨σ,H,I,w0⟩);rintro n s1 ⟨σ1,H1,I1,w1⟩;refine wpAny_passesOwn hp (thn (hc jP s1 σ1 H1 _ I1 (turn n σ1 H1 w1)) λ b s2 ⟨H2,I2,q2⟩=>?_);cases b with
 |true =>
  obtain⟨N,hN,q2⟩:=q2;rw[if_pos rfl];refine wpAny_passesOwn hp (thn (hb jP s2 σ1 H2 _ I2 q2) λ f s3 q3=>?_);cases f with
  |next =>
   obtain⟨σ3,H3,I3,n3⟩:=q3;obtain⟨m',hm,w3⟩:=hN σ3 H3 n3;exact⟨m',hm,σ3,H3,I3,w3⟩
  |cont =>
   obtain⟨σ3,H3,I3,n3⟩:=q3;obtain⟨m',hm,w3⟩:=hN σ3 H3 n3;exact⟨m',hm,σ3,H3,I3,w3⟩
  |brk=>exact q3
  |ret v=>exact q3
 |false =>
  rw[if_neg Bool.false_ne_true];exact wpAny_execs_nil ⟨σ1,H2,I2,q2⟩
end
structure It where
 go:Nat->Hp->Prop
 yld:Nat->Hp->V->Hp->Prop
 stop:Nat->Hp->Prop
def FpOk (X:Cx) (jP:List 71) (H:Hp) (b:Addr):Prop :=
 H b=none/\b≠X.env.locals/\b∉X.fs/\(b∈X.ex\/X.s₀.heap.objs.size<=b)/\(∀x c,X.env.cells.lookup x=some c->c≠b)/\∀p∈X.pn++jP,p.1≠b
theorem Inv.fpOk {X:Cx}{jP:List 71}{σ:St}{H H':Hp}{s:Shared}{b:Addr}(I:Inv X jP σ H s) (hb:s.heap.objs.size<=b) (hn:H' b=none):FpOk X jP H' b:=by
 refine⟨hn,Nat.ne_of_gt (lY I.lt hb),I.nofs hb,.inr (mF I.sz hb),λ x c e z=>?_,λ p hp z=>?_⟩
 ·obtain⟨v,q⟩:=I.cell x c e
  exact absurd (lY q.lt (by rw[z];exact hb)) (Nat.lt_irrefl _)
 ·exact absurd (lY (lH (I.pin p hp).1) (by rw[z];exact hb)) (Nat.lt_irrefl _)
structure Turn (P:Program) (w:World) (K:W.Frag) (tg:Expr) (J:It) (fp:List Addr) (it:Addr) (tn:Nat->Heap->Prop):Prop where
 mem:it∈fp
 obj:∀i h,tn i h->∀b∈fp,∃o,h.get? b=some o/\∀v,o.data ≠ .cell v
 keep:∀i h h',tn i h->(∀b∈fp,∀o,h.get? b=some o->h'.get? b=some o)->tn i h'
 item:∀(X:Cx),X.prog=P->X.w=w->X.K=K->X.calm=true->∀(i:Nat) (jP:List 71) (s:Shared) (σ:St) (H:Hp) (E:XQ),Inv X jP σ H s->(∀b∈fp,FpOk X jP H b)->tn i s.heap->J.go i H ->
  wpAny (model P w) X.A (pyNext (.ref it)) (λ r s1=>∃u,r=some u /\
   wpAny (model P w) X.A (letOwnedTupleGo tg (.ref it) u) (λ Ω s2=>∃x H',Inv X jP σ H' s2/\RelV x u/\J.yld i H x H'/\tn (i+1) s2.heap/\∀b∈fp,H' b=none) E s1) E s
 done:∀(X:Cx),X.prog=P->X.w=w->X.K=K->X.calm=true->∀(i:Nat) (jP:List 71) (s:Shared) (σ:St) (H:Hp) (E:XQ),Inv X jP σ H s->(∀b∈fp,FpOk X jP H b)->tn i s.heap->J.stop i H ->
  wpAny (model P w) X.A (pyNext (.ref it)) (λ r s1=>r=none/\Inv X jP σ H s1) E s
 self:∀(A:Around) (i:Nat) (s:Shared) (Q:XQ) (E:XQ),tn i s.heap->Q (.ref it) s->wpAny (model P w) A (pyIter (.ref it)) Q E s
abbrev TI:=St->Hp->(It->Hp->Prop)->Prop
def PIE (X:Cx) (jP:List 71) (σ:St) (tg:Expr) (R:It->Hp->Prop) (itv:Value) (s2:Shared):Prop :=
 ∃(it:Addr) (fp:List Addr) (tn:Nat->Heap->Prop) (J:It) (H':Hp),itv = .ref it/\Inv X jP σ H' s2/\Turn X.prog X.w X.K tg J fp it tn/\tn 0 s2.heap/\(∀b∈fp,FpOk X jP H' b)/\R J H'
def PI (X:Cx) (tg iter:Expr) (wi:TI):Prop :=
 ∀(jP:List 71) (s:Shared) (σ:St) (H:Hp) (R:It->Hp->Prop),Inv X jP σ H s->wi σ H R ->
  wpAny 67 X.A (eval iter X.env) (λ v s1=>wpAny 67 X.A (pyIter v) (PIE X jP σ tg R) X.xe s1) X.xe s
theorem go_of {M:Model}{A:Around}{E:XQ}{s:Shared}{tg:Expr}{it:Addr}{u:Value}{o:Obj}{n:String}{vs:Array Value}{Q:Unit->Shared->Prop}(ho:s.heap.get? it=some o) (hc:o.cls = .type n) (hd:o.data = .fields vs)
    (hn:["enumerate", "zip", "dict_itemiterator", "dict_reverseitemiterator", "odict_iterator", "itertools.zip_longest", "itertools.pairwise"].contains n=false) (hQ:Q () s):wpAny M A (letOwnedTupleGo tg (.ref it) u) Q E s:=by
  unfold letOwnedTupleGo
  cases tg<;>first
    |exact lB hQ
    | (cases u<;>first
        |exact lB hQ
        | (refine lA (wpAny_load ho ?_)
           rw[hc,hd];show wpAny M A (if (["enumerate", "zip", "dict_itemiterator", "dict_reverseitemiterator", "odict_iterator", "itertools.zip_longest", "itertools.pairwise"].contains n && vs[0]? == some (rawInt _))=true then _ else _) Q E s;rw[if_neg (by intro h;rw[hn,Bool.false_and] at h;cases h)];exact lB hQ))
noncomputable def Itl (K:W.Frag) (a:Addr):It :=
 ⟨λ i H=>∃xs x,SqL K H a xs/\xs[i]?=some x,λ i H x H'=>H'=H/\∀xs,SqL K H a xs->xs[i]?=some x,λ i H=>∃xs,SqL K H a xs/\xs.length<=i⟩
noncomputable def Itt (K:W.Frag) (a:Addr):It :=
 ⟨λ i H=>∃xs x,SqT K H a xs/\xs[i]?=some x,λ i H x H'=>H'=H/\∀xs,SqT K H a xs->xs[i]?=some x,λ i H=>∃xs,SqT K H a xs/\xs.length<=i⟩
noncomputable def Itr (lo:Int) (n:Nat):It:=⟨λ i Ω=>i<n,λ i H x H'=>H'=H/\x = .int (lo+i),λ i Ω=>n<=i⟩
theorem zIS {P:Program}{w:World}{K:W.Frag}{tg:Expr}(a it:Addr):Turn P w K tg (Itl K a) [it] it (λ i h=>h.IsListIter it a i) where
 mem:=by simp
 obj:=λ i h st b hb=>by
  have e:b=it:=by simpa using hb
  subst e;obtain⟨o,e,c,d⟩:=st;exact⟨o,e,λ v z=>by rw[d] at z;cases z⟩
 keep:=λ i h h' st k=>st.at λ o e=>k it 59 o e
 item:=by
  intro X hP hw hK hc i jP s σ H E I hf st hg;subst hP hw hK;obtain⟨xs,x,hq,hx⟩:=hg;obtain⟨its,rv,p,hz⟩:=I.list hq;obtain⟨u,hu,ru⟩:=rv.get hx;obtain⟨f0,f1,f2,f3,f4,f5⟩:=hf it 59;refine wpAny_pyNext_list_item st p.isList (x:=u) (by simpa using hu) λ h' st' sb=>?_;have I1:Inv X jP σ H { s with heap:=h' }:=I.turned (t':=s.toks) (λ b o hb e=>(sb.2 b hb).trans e) f0 f1 f3 f4 f5;obtain⟨o,e,c,d⟩:=id st';exact⟨u,rfl,go_of (s:={ s with heap:=h' }) e c d 66 ⟨x,H,I1,ru,⟨rfl,λ ys hy=>by rw[I.list_inj hy hq];exact hx⟩,st',λ b hb=>(hf b hb).1⟩⟩
 done:=by
  intro X hP hw hK hc i jP s σ H E I hf st hg;subst hP hw hK;obtain⟨xs,hq,hx⟩:=hg;obtain⟨its,rv,p,hz⟩:=I.list hq;obtain⟨f0,f1,f2,f3,f4,f5⟩:=hf it 59;have hl:=rv.length;exact wpAny_pyNext_list_end (I.ok.hd hc) st p.isList (by simp;lia) λ h' eb=>86
 self:=λ Ω Ω Ω Ω Ω st h=>wpAny_pyIter_listiter st h
theorem zHr {P:Program}{w:World}{K:W.Frag}{tg:Expr}(a it:Addr):Turn P w K tg (Itt K a) [it] it (λ i h=>h.IsTupleIter it a i) where
 mem:=by simp
 obj:=λ i h st b hb=>by
  have e:b=it:=by simpa using hb
  subst e;obtain⟨o,e,c,d⟩:=st;exact⟨o,e,λ v z=>by rw[d] at z;cases z⟩
 keep:=λ i h h' st k=>st.at λ o e=>k it 59 o e
 item:=by
  intro X hP hw hK hc i jP s σ H E I hf st hg;subst hP hw hK;obtain⟨xs,x,hq,hx⟩:=hg;obtain⟨its,rv,p,hz⟩:=I.tuple hq;obtain⟨u,hu,ru⟩:=rv.get hx;obtain⟨f0,f1,f2,f3,f4,f5⟩:=hf it 59;refine wpAny_pyNext_tuple_item st (show s.heap.IsTuple a its.toArray from p) (x:=u) (by simpa using hu) λ h' st' sb=>?_;have I1:Inv X jP σ H { s with heap:=h' }:=I.turned (t':=s.toks) (λ b o hb e=>(sb.2 b hb).trans e) f0 f1 f3 f4 f5;obtain⟨o,e,c,d⟩:=id st';exact⟨u,rfl,go_of (s:={ s with heap:=h' }) e c d 66 ⟨x,H,I1,ru,⟨rfl,λ ys hy=>by rw[I.tuple_inj hy hq];exact hx⟩,st',λ b hb=>(hf b hb).1⟩⟩
 done:=by
  intro X hP hw hK hc i jP s σ H E I hf st hg;subst hP hw hK;obtain⟨xs,hq,hx⟩:=hg;obtain⟨its,rv,p,hz⟩:=I.tuple hq;obtain⟨f0,f1,f2,f3,f4,f5⟩:=hf it 59;have hl:=rv.length;exact wpAny_pyNext_tuple_end (I.ok.hd hc) st (show s.heap.IsTuple a its.toArray from p) (by simp;lia) λ h' eb=>86
 self:=λ Ω Ω Ω Ω Ω st h=>wpAny_pyIter_tupleiter st h
theorem zHs {P:Program}{w:World}{K:W.Frag}{tg:Expr}(it:Addr) (lo:Int) (n:Nat):Turn P w K tg (Itr lo n) [it] it (λ i h=>IsRangeIter h it (lo+(i:Nat) * 1) ((n:Int) - (i:Nat)) 1) where
 mem:=by simp
 obj:=λ i h st b hb=>by
  have e:b=it:=by simpa using hb
  subst e
  exact⟨_,st,λ v z=>by
   have z':Data.fields _=Data.cell v:=z;cases z'⟩
 keep:=λ i h h' st k=>k it 59 _ st
 item:=by
  intro X hP hw hK hc i jP s σ H E I hf st hg;subst hP hw hK;obtain⟨f0,f1,f2,f3,f4,f5⟩:=hf it 59;have W:=Walks.range (prog:=X.prog) (w:=X.w) (I.ok.hd hc) it lo 1 n;refine W.item i s _ _ hg st λ v h' tk hv st' kk=>?_;obtain⟨t,rfl⟩:=hv;have I1:Inv X jP σ H { s with heap:=h',toks:=tk }:=I.turned (λ b o hb e=>kk b o (by simpa using hb) e) f0 f1 f3 f4 f5;refine⟨_,rfl,go_of (s:={ s with heap:=h',toks:=tk }) (n := "range_iterator") st' rfl rfl 66 ⟨.int (lo+i),H,I1,⟨t,?_⟩,⟨rfl,rfl⟩,st',λ b hb=>(hf b hb).1⟩⟩;rw[Int.mul_one]
 done:=by
  intro X hP hw hK hc i jP s σ H E I hf st hg;subst hP hw hK;obtain⟨f0,f1,f2,f3,f4,f5⟩:=hf it 59;exact wpAny_pyNext_range_end (I.ok.hd hc) st (by have:n<=i:=hg;lia) λ h' eb=>86
 self:=λ Ω Ω Ω Ω Ω st h=>wpAny_pyIter_rangeiter st h
section
variable {X:Cx}{tg:Expr}
def iList (K:W.Frag) (tl:TE):TI:=λ σ H R=>tl σ H λ x H1=>∃a,x = .ref a/\(∃xs,SqL K H1 a xs)/\R (Itl K a) H1
def iTup (K:W.Frag) (tl:TE):TI:=λ σ H R=>tl σ H λ x H1=>∃a,x = .ref a/\(∃xs,SqT K H1 a xs)/\R (Itt K a) H1
theorem zBi {l:Expr}{tl:TE}(hl:PE X l tl):PI X tg l (iList X.K tl):=by
 intro jP s σ H R I h;refine thn (hl jP s σ H _ I h) λ v s1 ⟨x,H1,I1,r1,q1⟩=>?_;obtain⟨a,e,⟨xs,hq⟩,q⟩:=q1;subst e;cases r1;obtain⟨its,rv,p,hz⟩:=I1.list hq;refine wpAny_pyIter_list p.isList ?_;refine⟨s1.heap.objs.size,[s1.heap.objs.size],_,_,H1,rfl,I1.kept (t':=s1.toks) λ b o e=>lE _ e,zIS a _,⟨_,lG _ rfl,rfl,rfl⟩,λ b hb=>?_,q⟩;have e:b=s1.heap.objs.size:=by simpa using hb
 subst e;exact I1.fpOk (lQ _) (I1.hok.fresh (lQ _))
theorem zB1 {l:Expr}{tl:TE}(hl:PE X l tl):PI X tg l (iTup X.K tl):=by
 intro jP s σ H R I h;refine thn (hl jP s σ H _ I h) λ v s1 ⟨x,H1,I1,r1,q1⟩=>?_;obtain⟨a,e,⟨xs,hq⟩,q⟩:=q1;subst e;cases r1;obtain⟨its,rv,p,hz⟩:=I1.tuple hq;refine wpAny_pyIter_tuple (show s1.heap.IsTuple a its.toArray from p) ?_;refine⟨s1.heap.objs.size,[s1.heap.objs.size],_,_,H1,rfl,I1.kept (t':=s1.toks) λ b o e=>lE _ e,zHr a _,⟨_,lG _ rfl,rfl,rfl⟩,λ b hb=>?_,q⟩;have e:b=s1.heap.objs.size:=by simpa using hb
 subst e;exact I1.fpOk (lQ _) (I1.hok.fresh (lQ _))
theorem zKJ {jP:List 71}{σ:St}{H:Hp}{s:Shared}{R:It->Hp->Prop}{E:XQ}{lo hi:Int}{t u v:Tok}{tk:Nat}(I:Inv X jP σ H s) (h1:-(2 ^ 62)<=lo) (h2:lo<2 ^ 62) (h3:-(2 ^ 62)<=hi) (h4:hi<2 ^ 62)
  (q:R (Itr lo (hi - lo).toNat) H):wpAny 67 X.A (pyIter (.ref s.heap.objs.size)) (PIE X jP σ tg R) E { s with heap:=s.heap.push { cls:=.type "range", data:=.fields #[.int lo t,.int hi u,.int 1 v] },toks:=tk }:=by
 refine wpAny_pyIter_range (IsRange.new ..) (small_one h1 h2 h3 h4) ?_;have I1:Inv X jP σ H { s with heap:=s.heap.push { cls:=.type "range", data:=.fields #[.int lo t,.int hi u,.int 1 v] },toks:=tk }:=I.kept λ b o e=>lE _ e
 refine⟨(s.heap.push { cls:=.type "range", data:=.fields #[.int lo t,.int hi u,.int 1 v] }).objs.size,[(s.heap.push { cls:=.type "range", data:=.fields #[.int lo t,.int hi u,.int 1 v] }).objs.size],_,_,H,rfl,
  I1.kept (t':=tk) λ b o e=>lE _ e,zHs _ lo (hi - lo).toNat,?_,λ b hb=>?_,q⟩
 ·have e1:lo+((0:Nat):Int) * 1=lo:=by simp
  have e2:(((hi - lo).toNat:Nat):Int) - ((0:Nat):Int)=Builtin.Range.rangeSize lo hi 1:=by rw[rangeSize_one];split<;>lia
  show IsRangeIter _ _ (lo+((0:Nat):Int) * 1) ((((hi - lo).toNat:Nat):Int) - ((0:Nat):Int)) 1;rw[e1,e2];exact lG _ rfl
 ·have e:b=(s.heap.push { cls:=.type "range", data:=.fields #[.int lo t,.int hi u,.int 1 v] }).objs.size:=by simpa using hb
  subst e;exact I1.fpOk (lQ _) (I1.hok.fresh (lQ _))
def iRng1 (ta:TA):TI:=λ σ H R=>ta σ H λ vs H1=>∃j:Int,vs=[.int j] /\ -(2 ^ 62)<=j/\j<2 ^ 62/\R (Itr 0 j.toNat) H1
theorem zDX {a:Expr}{ta:TA}{p pos:Pos}(hg:Gl X "range") (hm:X.mg "range" = none) (ha:PA X [a] ta) (hs:starEach [a] X.env=[(false,eval a X.env)]:=by rfl):PI X tg (.Call (.Name "range" p) [a] [] pos) (iRng1 ta):=by
 intro jP s σ H R I h;refine Call_ (zDC I hg hm boot_range (PyProof.Rows.callWith_type1 (thn (ha pos jP s σ H _ I h) λ us s1 ⟨vs,H1,I1,r1,q1⟩=>?_) hs rfl));obtain⟨j,e,q1,q2,q⟩:=q1;subst e;cases r1 with
 |cons r rr =>
  cases rr;obtain⟨t,rfl⟩:=r;exact call_range_1 (zKJ I1 65 65 q1 q2 (by simpa using q))
def tFor (wi:TI) (g:TG) (tb:TS):TS:=λ D σ H=>wi σ H λ J H1=>∃W:Nat->Nat->St->Hp->Prop,(∃m,W 0 m σ H1)/\∀i m σ H,W i m σ H ->
 (J.stop i H/\D.nx σ H)\/(J.go i H/\∃N:St->Hp->Prop,75/\∀x H',J.yld i H x H'->g x σ H' λ σ2 H2=>tb { D with nx:=N,ct:=N,bk:=D.nx } σ2 H2)
noncomputable def zE5 (fp:List Addr) (h:Heap):List 71:=fp.filterMap λ b=>(h.get? b).map λ o=>(b,o)
theorem zBr {fp:List Addr}{h:Heap}{b:Addr}{o:Obj}(hb:b∈fp) (e:h.get? b=some o):(b,o)∈zE5 fp h:=List.mem_filterMap.mpr ⟨b,hb,by rw[e];rfl⟩
theorem zI4 {fp:List Addr}{h:Heap}{p:Addr × Obj}(hp:p∈zE5 fp h):p.1∈fp/\h.get? p.1=some p.2:=by
 obtain⟨b,hb,e⟩:=List.mem_filterMap.mp hp;cases q:h.get? b with
 |none=>rw[q] at e;cases e
 |some o =>
  rw[q] at e;have e':(b,o)=p:=mD e;subst e';exact⟨hb,q⟩
theorem Inv.pinned {jP:List 71}{σ:St}{H:Hp}{s:Shared}{fp:List Addr}(I:Inv X jP σ H s) (hf:∀b∈fp,FpOk X jP H b) (ho:∀b∈fp,∃o,s.heap.get? b=some o/\∀v,o.data ≠ .cell v):Inv X (jP++zE5 fp s.heap) σ H s :=
 I.pins_of λ p hp=>(lJ.mp hp).elim (λ z=>I.pin p (lZ _ z)) λ z=>by
  obtain⟨hb,e⟩:=zI4 z;obtain⟨f0,f1,f2,_⟩:=hf p.1 hb;obtain⟨o,e',d⟩:=ho p.1 hb;rw[e] at e';cases e';exact⟨e,f0,f1,f2,d⟩
theorem Inv.unpinned {jP pl:List 71}{σ:St}{H:Hp}{s:Shared}(I:Inv X (jP++pl) σ H s):Inv X jP σ H s:=I.pins_of λ p hp=>I.pin p (lZ _ (mE _ hp))
theorem zAj {iter:Expr}{body:List Stmt}{wi:TI}{g:TG}{tb:TS}{pos:Pos}(hp:PassesOwn 67 X.A X.env X.xe) (hc:X.calm=true) (hi:PI X tg iter wi) (hg:PG X tg g) (hb:PSs X body tb)
  (hs:∀x,foldedSetIterable iter X.env x=pure x:=by intro _;rfl):PS X (.For tg iter body [] pos) (tFor wi g tb):=by
 intro jP s σ H D I h;refine wpAny_For (thn (hi jP s σ H _ I h) λ v s1 h1=>thn h1 λ itv s2 h2=>?_) hs;obtain⟨it,fp,tn,J,H2,e,I2,T,st2,f2,W,⟨m0,w0⟩,turn⟩:=h2;subst e;have stat:∀{H':Hp},(∀b∈fp,H' b=none)->∀b∈fp,FpOk X jP H' b:=λ hn b hb=>⟨hn b hb,(f2 b hb).2⟩;refine codeAny_forLoop_any (λ n s'=>∃i σ' H',Inv X jP σ' H' s'/\tn i s'.heap/\(∀b∈fp,H' b=none)/\W i n σ' H') ?_ m0 ⟨0,σ,H2,I2,st2,λ b hb=>(f2 b hb).1,w0⟩;rintro n s3 ⟨i,σ3,H3,I3,st3,fr3,w3⟩;rcases turn i n σ3 H3 w3 with ⟨stop,qn⟩|⟨go,N,hN,step⟩
 ·refine wpAny_passesOwn hp (thn (T.done X rfl rfl rfl hc i jP s3 σ3 H3 X.xe I3 (stat fr3) st3 stop) λ r s4 ⟨hr,I4⟩=>?_)
  subst hr;exact wpAny_execs_nil ⟨σ3,H3,I4,qn⟩
 ·refine wpAny_passesOwn hp (thn (T.item X rfl rfl rfl hc i jP s3 σ3 H3 X.xe I3 (stat fr3) st3 go) λ r s4 ⟨u,hr,h4⟩=>?_)
  subst hr;refine wpAny_passesOwn hp (thn h4 λ _ s5 ⟨x,H5,I5,r5,y5,st5,fr5⟩=>?_);have I5':=I5.pinned (stat fr5) (T.obj _ _ st5);refine wpAny_passesOwn hp (thn (hg _ s5 σ3 H5 x u _ I5' r5 (step x H5 y5)) λ _ s6 ⟨σ6,H6,I6,q6⟩=>?_);refine wpAny_passesOwn hp (thn (hb _ s6 σ6 H6 _ I6 q6) λ f s7 q7=>?_)
  have again:∀{σ7:St}{H7:Hp},Inv X (jP++zE5 fp s5.heap) σ7 H7 s7->N σ7 H7->∃m,m<n/\∃i σ' H',Inv X jP σ' H' s7/\tn i s7.heap/\(∀b∈fp,H' b=none)/\W i m σ' H':=λ{σ7 H7} I7 n7=>by
   obtain⟨m',hm,w7⟩:=hN σ7 H7 n7;refine⟨m',hm,i+1,σ7,H7,I7.unpinned,T.keep _ _ _ st5 λ b hb o e=>(I7.pin (b,o) (lZ _ (lZ _ (zBr hb e)))).1,λ b hb=>?_,w7⟩;obtain⟨o,e,d⟩:=T.obj _ _ st5 b hb;exact(I7.pin (b,o) (lZ _ (lZ _ (zBr hb e)))).2.1
  cases f with
  |next=>obtain⟨σ7,H7,I7,n7⟩:=q7;exact again I7 n7
  |cont=>obtain⟨σ7,H7,I7,n7⟩:=q7;exact again I7 n7
  |brk=>obtain⟨σ7,H7,I7,q7⟩:=q7;exact⟨σ7,H7,I7.unpinned,q7⟩
  |ret v=>obtain⟨x7,σ7,H7,I7,r7,q7⟩:=q7;exact⟨x7,σ7,H7,I7.unpinned,r7,q7⟩
end
theorem zBo {K:W.Frag}{a:Addr}{xs:List V}{g:TG}{tb:TS}{D:Ends}{σ:St}{H:Hp}(Pv:Nat->St->Hp->Prop) (h0:Pv 0 σ H) (hl:∀i σ H,i<=xs.length->Pv i σ H->SqL K H a xs)
  (hs:∀i x σ H,xs[i]?=some x->Pv i σ H->g x σ H λ σ2 H2=>tb { D with nx:=Pv (i+1),ct:=Pv (i+1),bk:=D.nx } σ2 H2) (hd:∀σ H,Pv xs.length σ H->D.nx σ H) :
  ∃W:Nat->Nat->St->Hp->Prop,(∃m,W 0 m σ H)/\∀i m σ H,W i m σ H ->
   ((Itl K a).stop i H/\D.nx σ H)\/((Itl K a).go i H/\∃N:St->Hp->Prop,75/\∀x H',(Itl K a).yld i H x H'->g x σ H' λ σ2 H2=>tb { D with nx:=N,ct:=N,bk:=D.nx } σ2 H2):=by
 refine⟨λ i m σ H=>m=xs.length - i/\i<=xs.length/\Pv i σ H,⟨xs.length,by simp,lX _,h0⟩,?_⟩;rintro i m σ H ⟨rfl,hi,p⟩;have q:=hl i σ H hi p
 by_cases hlt:i<xs.length
 ·refine .inr ⟨⟨xs,xs[i],q,by simp[hlt]⟩,Pv (i+1),λ σ' H' p'=>⟨xs.length - (i+1),by lia,rfl,hlt,p'⟩,λ x H' y=>?_⟩
  obtain⟨e,y⟩:=y;subst e;exact hs i x σ _ (y xs q) p
 ·have e:i=xs.length:=by lia
  subst e;exact .inl ⟨⟨xs,q,lQ _⟩,hd σ H p⟩
theorem zB9 {K:W.Frag}{a:Addr}{xs:List V}{g:TG}{tb:TS}{D:Ends}{σ:St}{H:Hp}(Pv:Nat->St->Hp->Prop) (h0:Pv 0 σ H) (hl:∀i σ H,i<=xs.length->Pv i σ H->SqT K H a xs)
  (hs:∀i x σ H,xs[i]?=some x->Pv i σ H->g x σ H λ σ2 H2=>tb { D with nx:=Pv (i+1),ct:=Pv (i+1),bk:=D.nx } σ2 H2) (hd:∀σ H,Pv xs.length σ H->D.nx σ H) :
  ∃W:Nat->Nat->St->Hp->Prop,(∃m,W 0 m σ H)/\∀i m σ H,W i m σ H ->
   ((Itt K a).stop i H/\D.nx σ H)\/((Itt K a).go i H/\∃N:St->Hp->Prop,75/\∀x H',(Itt K a).yld i H x H'->g x σ H' λ σ2 H2=>tb { D with nx:=N,ct:=N,bk:=D.nx } σ2 H2):=by
 refine⟨λ i m σ H=>m=xs.length - i/\i<=xs.length/\Pv i σ H,⟨xs.length,by simp,lX _,h0⟩,?_⟩;rintro i m σ H ⟨rfl,hi,p⟩;have q:=hl i σ H hi p
 by_cases hlt:i<xs.length
 ·refine .inr ⟨⟨xs,xs[i],q,by simp[hlt]⟩,Pv (i+1),λ σ' H' p'=>⟨xs.length - (i+1),by lia,rfl,hlt,p'⟩,λ x H' y=>?_⟩
  obtain⟨e,y⟩:=y;subst e;exact hs i x σ _ (y xs q) p
 ·have e:i=xs.length:=by lia
  subst e;exact .inl ⟨⟨xs,q,lQ _⟩,hd σ H p⟩
theorem zGC {lo:Int}{n:Nat}{g:TG}{tb:TS}{D:Ends}{σ:St}{H:Hp}(Pv:Nat->St->Hp->Prop) (h0:Pv 0 σ H)
  (hs:∀i σ H,i<n->Pv i σ H->g (.int (lo+i)) σ H λ σ2 H2=>tb { D with nx:=Pv (i+1),ct:=Pv (i+1),bk:=D.nx } σ2 H2) (hd:∀σ H,Pv n σ H->D.nx σ H) :
  ∃W:Nat->Nat->St->Hp->Prop,(∃m,W 0 m σ H)/\∀i m σ H,W i m σ H ->
   ((Itr lo n).stop i H/\D.nx σ H)\/((Itr lo n).go i H/\∃N:St->Hp->Prop,75/\∀x H',(Itr lo n).yld i H x H'->g x σ H' λ σ2 H2=>tb { D with nx:=N,ct:=N,bk:=D.nx } σ2 H2):=by
 refine⟨λ i m σ H=>m=n - i/\i<=n/\Pv i σ H,⟨n,by simp,lX _,h0⟩,?_⟩;rintro i m σ H ⟨rfl,hi,p⟩
 by_cases hlt:i<n
 ·refine .inr ⟨hlt,Pv (i+1),λ σ' H' p'=>⟨n - (i+1),by lia,rfl,hlt,p'⟩,λ x H' y=>?_⟩
  obtain⟨e,y⟩:=y;subst e y;exact hs i σ _ hlt p
 ·have e:i=n:=by lia
  subst e;exact .inl ⟨lQ _,hd σ H p⟩
abbrev R2:=V->V->Hp->VK->Prop
def OpR (X:Cx) (f:Value->Value->Sem Value) (r:R2):Prop :=
 ∀(jP:List 71) (s:Shared) (σ:St) (H:Hp) (x y:V) (v u:Value) (Q:VK),Inv X jP σ H s->RelV x v->RelV y u->r x y H Q ->
  wpAny 67 X.A (f v u) (EP X jP σ Q) X.xe s
def UnR (X:Cx) (f:Value->Sem Value) (r:V->Hp->VK->Prop):Prop :=
 ∀(jP:List 71) (s:Shared) (σ:St) (H:Hp) (x:V) (v:Value) (Q:VK),Inv X jP σ H s->RelV x v->r x H Q ->
  wpAny 67 X.A (f v) (EP X jP σ Q) X.xe s
def CallR (X:Cx) (f:Value) (r:List V->Hp->VK->Prop):Prop :=
 ∀(jP:List 71) (s:Shared) (σ:St) (H:Hp) (xs:List V) (us:List Value) (Q:VK),Inv X jP σ H s->Vals xs us->r xs H Q ->
  wpAny 67 X.A (call f us) (EP X jP σ Q) X.xe s
def TruR (X:Cx) (r:V->Hp->(Bool->Hp->Prop)->Prop):Prop :=
 ∀(jP:List 71) (s:Shared) (σ:St) (H:Hp) (x:V) (v:Value) (Q:Bool->Hp->Prop),Inv X jP σ H s->RelV x v->r x H Q ->
  wpAny 67 X.A (truthy v) (TP X jP σ Q) X.xe s
def tOp (r:R2) (ta tb:TE):TE:=λ σ H Q=>ta σ H λ x H1=>tb σ H1 λ y H2=>r x y H2 Q
def tUn (r:V->Hp->VK->Prop) (ta:TE):TE:=λ σ H Q=>ta σ H λ x H1=>r x H1 Q
inductive rI (C:Int->Int->Prop) (g:Int->Int->V) (x y:V) (H:Hp) (Q:VK):Prop
 |mk (i j:Int) (hx:x = .int i) (hy:y = .int j) (c:C i j) (q:Q (g i j) H)
inductive rI0 (g:Int->Int->V) (x y:V) (H:Hp) (Q:VK):Prop
 |mk (i j:Int) (hx:x = .int i) (hy:y = .int j) (q:Q (g i j) H)
inductive rU (g:Int->V) (x:V) (H:Hp) (Q:VK):Prop
 |mk (i:Int) (hx:x = .int i) (q:Q (g i) H)
section
variable {X:Cx}{a b c:Expr}{ta tb tc:TE}{pos:Pos}
theorem binT (ha:PE X a ta) (hb:PE X b tb) {jP:List 71}{s:Shared}{σ:St}{H:Hp}{R:V->V->Hp->Prop}(I:Inv X jP σ H s)
  (h:ta σ H λ x H1=>tb σ H1 λ y H2=>R x y H2) {Q:XQ}{f:Value->Value->Sem Value}
  (hf:∀v u s2 x y H2,Inv X jP σ H2 s2->RelV x v->RelV y u->R x y H2->wpAny 67 X.A (f v u) Q X.xe s2) :
  wpAny 67 X.A (eval a X.env) (λ v s₁=>wpAny 67 X.A (eval b X.env) (λ u s₂=>wpAny 67 X.A (f v u) Q X.xe s₂) X.xe s₁) X.xe s:=by
 refine thn (ha jP s σ H _ I h) λ v s1 ⟨x,H1,I1,r1,q1⟩=>?_;refine thn (hb jP s1 σ H1 _ I1 q1) λ u s2 ⟨y,H2,I2,r2,q2⟩=>?_;exact hf v u s2 x y H2 I2 r1 r2 q2
theorem pe_op {op:Operator}{r:R2}(ho:OpR X (binaryOp op) r) (ha:PE X a ta) (hb:PE X b tb):PE X (.BinOp a op b pos) (tOp r ta tb):=by
 intro jP s σ H Q I h;exact wpAny_BinOp (binT ha hb I h λ v u s2 x y H2 I2 rx ry q=>ho jP s2 σ H2 x y v u Q I2 rx ry q)
theorem pe_un {op:UnaryOp}{r:V->Hp->VK->Prop}(ho:UnR X (unaryOp op) r) (ha:PE X a ta):PE X (.UnaryOp op a pos) (tUn r ta):=by
 intro jP s σ H Q I h;exact UnaryOp_ (thn (ha jP s σ H _ I h) λ v s1 ⟨x,H1,I1,r1,q1⟩=>ho jP s1 σ H1 x v Q I1 r1 q1)
theorem opI {f:Value->Value->Sem Value}{C:Int->Int->Prop}{g:Int->Int->Int}
  (rule:∀(i j:Int) (t u:Tok) (s:Shared) (Q:XQ) (E:XQ),C i j->Q (.int (g i j) s.toks) { s with toks:=s.toks+1 }->wpAny 67 X.A (f (.int i t) (.int j u)) Q E s) :
  OpR X f (rI C λ i j=>.int (g i j)):=by
 intro jP s σ H x y v u Q I rx ry h;obtain⟨i,j,rfl,rfl,hc,q⟩:=h;obtain⟨t,rfl⟩:=rx;obtain⟨t',rfl⟩:=ry;exact rule i j t t' s _ _ hc ⟨.int (g i j),H,I.tok _,72,q⟩
theorem opI0 {f:Value->Value->Sem Value}{g:Int->Int->Int}
  (rule:∀(i j:Int) (t u:Tok) (s:Shared) (Q:XQ) (E:XQ),Q (.int (g i j) s.toks) { s with toks:=s.toks+1 }->wpAny 67 X.A (f (.int i t) (.int j u)) Q E s) :
  OpR X f (rI0 λ i j=>.int (g i j)):=by
 intro jP s σ H x y v u Q I rx ry h;obtain⟨i,j,rfl,rfl,q⟩:=h;obtain⟨t,rfl⟩:=rx;obtain⟨t',rfl⟩:=ry;exact rule i j t t' s _ _ ⟨.int (g i j),H,I.tok _,72,q⟩
theorem opB0 {f:Value->Value->Sem Value}{g:Int->Int->Bool}
  (rule:∀(i j:Int) (t u:Tok) (s:Shared) (Q:XQ) (E:XQ),Q (.bool (g i j)) s->wpAny 67 X.A (f (.int i t) (.int j u)) Q E s) :
  OpR X f (rI0 λ i j=>.bl (g i j)):=by
 intro jP s σ H x y v u Q I rx ry h;obtain⟨i,j,rfl,rfl,q⟩:=h;obtain⟨t,rfl⟩:=rx;obtain⟨t',rfl⟩:=ry;exact rule i j t t' s _ _ ⟨.bl (g i j),H,I,rfl,q⟩
def CDiv (i j:Int):Prop:=0<j/\j<1073741824
def CPow (i j:Int):Prop:=0<=j/\j<=1000000/\i.natAbs<2 ^ 64
def CMul (i j:Int):Prop:=(-(2 ^ 64)<i/\i<2 ^ 64)\/(-(2 ^ 64)<j/\j<2 ^ 64)
theorem CMul.ok {i j:Int}(h:CMul i j):IntMulOk i j:=by
 rcases h with ⟨h1,h2⟩|⟨h1,h2⟩
 ·exact .of_left (intBits_le_64 h1 h2)
 ·exact .of_right (intBits_le_64 h1 h2)
theorem zBl:OpR X (binaryOp .Add) (rI0 λ i j=>.int (i+j)):=opI0 λ Ω Ω Ω Ω Ω Ω Ω q=>add_int q
theorem zFz:OpR X (binaryOp .Sub) (rI0 λ i j=>.int (i - j)):=opI0 λ Ω Ω Ω Ω Ω Ω Ω q=>sub_int q
theorem zMd:OpR X (binaryOp .Mult) (rI CMul λ i j=>.int (i * j)):=opI λ Ω Ω Ω Ω Ω Ω Ω hc q=>mul_int q hc.ok
theorem zAZ:OpR X (binaryOp .FloorDiv) (rI CDiv λ i j=>.int (i / j)):=opI λ i j Ω Ω Ω Ω Ω hc q=>by
 have h1:(0:Int)<j:=hc.1;have h2:j<1073741824:=hc.2;exact floordiv_int 65 (by rw[Int.fdiv_eq_ediv_of_nonneg i 65];exact q) (.inl (PyProof.noPylong_small 65))
theorem zAb:OpR X (binaryOp .Mod) (rI (λ Ω j=>0<j) λ i j=>.int (i % j)):=opI λ i j Ω Ω Ω Ω Ω hc q=>by
 have h1:(0:Int)<j:=hc;exact mod_int' 65 (by rw[Int.fmod_eq_emod_of_nonneg i 65];exact q)
theorem zEW:OpR X (binaryOp .Pow) (rI CPow λ i j=>.int (i ^ j.toNat)):=opI λ Ω Ω Ω Ω Ω Ω Ω hc q=>pow_int_small hc.1 hc.2.1 hc.2.2 q
theorem unI {f:Value->Sem Value}{g:Int->Int}
  (rule:∀(i:Int) (t:Tok) (s:Shared) (Q:XQ) (E:XQ),Q (.int (g i) s.toks) { s with toks:=s.toks+1 }->wpAny 67 X.A (f (.int i t)) Q E s) :
  UnR X f (rU λ i=>.int (g i)):=by
 intro jP s σ H x v Q I rx h;obtain⟨i,rfl,q⟩:=h;obtain⟨t,rfl⟩:=rx;exact rule i t s _ _ ⟨.int (g i),H,I.tok _,72,q⟩
theorem zMI:UnR X (unaryOp .USub) (rU λ i=>.int (-i)):=unI λ Ω Ω Ω Ω Ω q=>neg_int q
end
noncomputable def scal:V->V->Bool
 |.non,.non=>true|.non,.int _=>true|.int _,.non=>true|.non,.bl _=>true|.bl _,.non=>true|.non,.str _=>true|.str _,.non=>true
 |.int _,.int _=>true|.bl _,.bl _=>true|.str _,.str _=>true|.byt _,.byt _=>true
 |.int _,.str _=>true|.str _,.int _=>true|.bl _,.str _=>true|.str _,.bl _=>true
 |_,_=>false
def rEq:R2:=λ x y H Q=>scal x y=true/\Q (.bl (decide (x=y))) H
def rNe:R2:=λ x y H Q=>scal x y=true/\Q (.bl (!decide (x=y))) H
theorem zJm {i j:Int}:decide (V.int i=V.int j)=(i == j):=by
 rw[Bool.eq_iff_iff];simp
theorem zLV {i j:Bool}:decide (V.bl i=V.bl j)=(i == j):=by
 rw[Bool.eq_iff_iff];simp
theorem zFa {i j:Str}:decide (V.str i=V.str j)=(i == j):=by
 rw[Bool.eq_iff_iff];simp
theorem zJn {i j:Array UInt8}:decide (V.byt i=V.byt j)=(i.toList == j.toList):=by
 rw[Bool.eq_iff_iff];cases i;cases j;simp
section
variable {X:Cx}{a b c:Expr}{ta tb tc:TE}{pos:Pos}
theorem zAq {jP:List 71}{σ:St}{H:Hp}{s:Shared}{Q:VK}{k k':Bool}(I:Inv X jP σ H s) (q:Q (.bl k) H) (e:k=k'):EP X jP σ Q (.bool k') s:=by
 subst e;exact⟨.bl k,H,I,rfl,q⟩
theorem op_eq:OpR X (compareOp .Eq) rEq:=by
 intro jP s σ H x y v u Q I rx ry h;obtain⟨hs,q⟩:=h;cases x with
 |non =>
  cases rx;cases y with
  |non=>cases ry;exact PySem.EqNone.eq_none_none (zAq I q 59)
  |bl j=>cases ry;exact PySem.EqNone.eq_none_bool (zAq I q 59)
  |int j=>obtain⟨t',rfl⟩:=ry;exact PySem.EqNone.eq_none_int (zAq I q 59)
  |str j=>obtain⟨t',rfl⟩:=ry;exact PySem.EqNone.eq_none_str (zAq I q 59)
  |_=>exact absurd (show false=true from hs) lW
 |bl i =>
  cases rx;cases y with
  |non=>cases ry;exact PySem.EqNone.eq_bool_none (zAq I q 59)
  |bl j=>cases ry;exact eq_bool (zAq I q zLV)
  |str j=>obtain⟨t',rfl⟩:=ry;exact PySem.EqMixed.eq_bool_str (zAq I q 59)
  |_=>exact absurd (show false=true from hs) lW
 |int i =>
  obtain⟨t,rfl⟩:=rx;cases y with
  |non=>cases ry;exact PySem.EqNone.eq_int_none (zAq I q 59)
  |int j=>obtain⟨t',rfl⟩:=ry;exact eq_int (zAq I q zJm)
  |str j=>obtain⟨t',rfl⟩:=ry;exact PySem.EqMixed.eq_int_str (zAq I q 59)
  |_=>exact absurd (show false=true from hs) lW
 |str i =>
  obtain⟨t,rfl⟩:=rx;cases y with
  |non=>cases ry;exact PySem.EqNone.eq_str_none (zAq I q 59)
  |bl j=>cases ry;exact PySem.EqMixed.eq_str_bool (zAq I q 59)
  |int j=>obtain⟨t',rfl⟩:=ry;exact PySem.EqMixed.eq_str_int (zAq I q 59)
  |str j=>obtain⟨t',rfl⟩:=ry;exact eq_str (zAq I q zFa)
  |_=>exact absurd (show false=true from hs) lW
 |byt i =>
  obtain⟨t,rfl⟩:=rx;cases y with
  |byt j=>obtain⟨t',rfl⟩:=ry;exact W.eq_bytes (zAq I q zJn)
  |_=>exact absurd (show false=true from hs) lW
 |_=>cases y<;>exact absurd (show false=true from hs) lW
theorem op_ne:OpR X (compareOp .NotEq) rNe:=by
 intro jP s σ H x y v u Q I rx ry h;obtain⟨hs,q⟩:=h;cases x with
 |non =>
  cases rx;cases y with
  |non=>cases ry;exact PySem.EqNone.ne_none_none (zAq I q 59)
  |bl j=>cases ry;exact PySem.EqNone.ne_none_bool (zAq I q 59)
  |int j=>obtain⟨t',rfl⟩:=ry;exact PySem.EqNone.ne_none_int (zAq I q 59)
  |str j=>obtain⟨t',rfl⟩:=ry;exact PySem.EqNone.ne_none_str (zAq I q 59)
  |_=>exact absurd (show false=true from hs) lW
 |bl i =>
  cases rx;cases y with
  |non=>cases ry;exact PySem.EqNone.ne_bool_none (zAq I q 59)
  |bl j=>cases ry;exact ne_bool (zAq I q (congrArg not zLV))
  |str j=>obtain⟨t',rfl⟩:=ry;exact PySem.EqMixed.ne_bool_str (zAq I q 59)
  |_=>exact absurd (show false=true from hs) lW
 |int i =>
  obtain⟨t,rfl⟩:=rx;cases y with
  |non=>cases ry;exact PySem.EqNone.ne_int_none (zAq I q 59)
  |int j=>obtain⟨t',rfl⟩:=ry;exact ne_int (zAq I q (congrArg not zJm))
  |str j=>obtain⟨t',rfl⟩:=ry;exact PySem.EqMixed.ne_int_str (zAq I q 59)
  |_=>exact absurd (show false=true from hs) lW
 |str i =>
  obtain⟨t,rfl⟩:=rx;cases y with
  |non=>cases ry;exact PySem.EqNone.ne_str_none (zAq I q 59)
  |bl j=>cases ry;exact PySem.EqMixed.ne_str_bool (zAq I q 59)
  |int j=>obtain⟨t',rfl⟩:=ry;exact PySem.EqMixed.ne_str_int (zAq I q 59)
  |str j=>obtain⟨t',rfl⟩:=ry;exact ne_str (zAq I q (congrArg not zFa))
  |_=>exact absurd (show false=true from hs) lW
 |byt i =>
  obtain⟨t,rfl⟩:=rx;cases y with
  |byt j=>obtain⟨t',rfl⟩:=ry;exact W.ne_bytes (zAq I q (congrArg not zJn))
  |_=>exact absurd (show false=true from hs) lW
 |_=>cases y<;>exact absurd (show false=true from hs) lW
theorem op_lt:OpR X (compareOp .Lt) (rI0 λ i j=>.bl (decide (i<j))):=opB0 λ Ω Ω Ω Ω Ω Ω Ω q=>lt_int q
theorem op_gt:OpR X (compareOp .Gt) (rI0 λ i j=>.bl (decide (j<i))):=opB0 λ Ω Ω Ω Ω Ω Ω Ω q=>gt_int q
theorem zLI:OpR X (compareOp .Is) (λ x y H Q=>y = .non/\Q (.bl (decide (x = .non))) H):=by
  intro jP s σ H x y v u Q I rx ry h;obtain⟨rfl,q⟩:=h;cases ry;refine is_none_gen (zAq I q ?_)
  cases x<;>first
    | (cases rx;rfl)
    | (obtain⟨t,rfl⟩:=rx;rfl)
theorem zF0:OpR X (compareOp .NotIn) (λ x y H Q=>E2 λ i j=>A3 (x = .str i) (y = .str j) (Q (.bl (!(!(Builtin.Str.occurrences j i 0 j.length 1).isEmpty))) H)):=by
 intro jP s σ H x y v u Q I rx ry h;obtain⟨i,j,rfl,rfl,q⟩:=h;obtain⟨t,rfl⟩:=rx;obtain⟨t',rfl⟩:=ry;exact notIn_str (zAq I q rfl)
theorem zAQ (b:Expr) {op:CmpOp}(h:op ≠ .In:=by decide) (h2:op ≠ .NotIn:=by decide):behindInMarks op b=false:=by
 have e1:(op == CmpOp.In)=false:=by cases op<;>first|rfl|exact absurd rfl h
 have e2:(op == CmpOp.NotIn)=false:=by cases op<;>first|rfl|exact absurd rfl h2
 cases b<;>simp[behindInMarks,e1,e2]
theorem zA6 {op:CmpOp}{r:R2}(ho:OpR X (compareOp op) r) (ha:PE X a ta) (hb:PE X b tb) (hm:behindInMarks op b=false):PE X (.Compare a [op] [b] pos) (tOp r ta tb):=by
 intro jP s σ H Q I h;exact wpAny_Compare1 (binT ha hb I h λ v u s2 x y H2 I2 rx ry q=>ho jP s2 σ H2 x y v u Q I2 rx ry q) hm
def tTest (t:TE):TT:=λ σ H Q=>t σ H (IsB Q)
theorem zAJ {op:CmpOp}{r:R2}(ho:OpR X (compareOp op) r) (ha:PE X a ta) (hb:PE X b tb) (hm:behindInMarks op b=false):PT X (.Compare a [op] [b] pos) (tTest (tOp r ta tb)):=by
 intro jP s σ H Q I h
 refine wpAny_isTrue_Compare1 (thn (ha jP s σ H _ I h) λ v s1 ⟨x,H1,I1,r1,q1⟩=>thn (hb jP s1 σ H1 _ I1 q1) λ u s2 ⟨y,H2,I2,r2,q2⟩ =>
  thn (ho jP s2 σ H2 x y v u _ I2 r1 r2 q2) λ c s3 ⟨z,H3,I3,r3,k,e,q3⟩=>?_) hm
 subst e;cases r3;exact wpAny_truthy_bool ⟨H3,I3,q3⟩
def TruV (K:W.Frag) (x:V) (H:Hp) (k:Bool):Prop :=
 match x with
 |.non=>k=false
 |.bl b=>k=b
 |.int i=>k=(i != 0)
 |.str y=>y.length<=sizeLine/\k=((y.length:Int) != 0)
 |.byt y=>y.size<=sizeLine/\k=((y.size:Int) != 0)
 |.ref p=>(∃xs,SqL K H p xs/\k=!xs.isEmpty)\/(∃xs,SqT K H p xs/\k=!xs.isEmpty)\/∃kvs,H p=some 92/\k=!kvs.isEmpty
 |_=>False
theorem zIG {κ:Type}{kvs:List (κ × V)}{vs:List (κ × Value)}(r:KV kvs vs):(!vs.isEmpty)=!kvs.isEmpty:=by
 cases r<;>rfl
theorem zE9 {xs:List V}{its:List Value}(r:Vals xs its):(!its.toArray.isEmpty)=!xs.isEmpty:=by
 cases r<;>simp
theorem zDb:(sizeLine:Nat)<2 ^ 63:=by rw[sizeLine_eq];decide
theorem zK9:TruR X (λ x H Q=>∃k,TruV X.K x H k/\Q k H):=by
 intro jP s σ H x v Q I rx h;obtain⟨k,e,q⟩:=h;have hl:=zDb;have hs:sizeLine=16777216:=sizeLine_eq;cases x with
 |non =>
  cases rx;have e':k=false:=e;subst e';exact truthy_none ⟨H,I,q⟩
 |bl b =>
  cases rx;have e':k=b:=e;subst e';exact wpAny_truthy_bool ⟨H,I,q⟩
 |int i =>
  obtain⟨t,rfl⟩:=rx;have e':k=(i != 0):=e;subst e';exact PySem.P.truthy_int ⟨H,I,q⟩
 |str y =>
  obtain⟨t,rfl⟩:=rx;obtain⟨hy,e'⟩:y.length<=sizeLine/\k=((y.length:Int) != 0):=e;subst e';exact PySem.P.truthy_str 65 ⟨H,I.tok _,q⟩
 |byt y =>
  obtain⟨t,rfl⟩:=rx;obtain⟨hy,e'⟩:y.size<=sizeLine/\k=((y.size:Int) != 0):=e;subst e';exact W.truthy_bytes 65 ⟨H,I.tok _,q⟩
 |ref p =>
  cases rx;have e':(∃xs,SqL X.K H p xs/\k=!xs.isEmpty)\/(∃xs,SqT X.K H p xs/\k=!xs.isEmpty)\/∃kvs,H p=some 92/\k=!kvs.isEmpty:=e;rcases e' with ⟨xs,hx,e'⟩|⟨xs,hx,e'⟩|⟨kvs,hx,e'⟩
  ·subst e'
   obtain⟨its,r,pl,hz⟩:=I.list hx;have hlen:=r.length;exact wpAny_truthy_list pl.isList (by simp only[mG];lia) ⟨H,I.tok _,by rw[zE9 r];exact q⟩
  ·subst e'
   obtain⟨its,r,pl,hz⟩:=I.tuple hx;have hlen:=r.length;exact truthy_tuple pl (by simp only[mG];lia) ⟨H,I.tok _,by rw[zE9 r];exact q⟩
  ·subst e'
   obtain⟨hz,hS,vs,r,m⟩:kvs.length<=sizeLine/\(p == sysModules)=false/\∃vs,KV kvs vs/\s.heap.DictOf (zAi X.prog X.w) p vs:=I.hok p _ hx;have hlen:kvs.length=vs.length:=Paired.length r;exact wpAny_truthy_dict hS m 65 ⟨H,I.tok _,by rw[zIG r];exact q⟩
 |_=>exact(show False from e).elim
theorem zB0 (ha:PE X a ta) (he:∀whole,isTrue a X.env whole=(do let v ← whole;standAt a.pos;holding [v] (truthy v))) :
    PT X a (λ σ H Q=>ta σ H λ x H'=>∃k,TruV X.K x H' k/\Q k H'):=by
  intro jP s σ H Q I h;exact isTrue_plain (thn (ha jP s σ H _ I h) λ v s1 ⟨x,H1,I1,r1,q1⟩=>zK9 jP s1 σ H1 x v Q I1 r1 q1) (he _)
theorem zH0:OpR X (binaryOp .Add) (λ x y H Q=>E2 λ i j=>A4 (x = .str i) (y = .str j) (i.length+j.length<=sizeLine) (Q (.str (i++j)) H)):=by
 intro jP s σ H x y v u Q I rx ry h;obtain⟨i,j,rfl,rfl,hz,q⟩:=h;obtain⟨t,rfl⟩:=rx;obtain⟨t',rfl⟩:=ry;exact add_str (λ t' tk=>⟨.str (i++j),H,I.tok _,72,q⟩) hz
theorem vals1 {x:V}{us:List Value}(r:Vals [x] us):∃u,us=[u]/\RelV x u:=by
 cases r with
 |cons r1 r2=>cases r2;exact⟨_,rfl,r1⟩
theorem vals2 {x y:V}{us:List Value}(r:Vals [x,y] us):∃u w',us=[u,w']/\RelV x u/\RelV y w':=by
 cases r with
 |cons r1 r2 =>
  cases r2 with
  |cons r3 r4=>cases r4;exact⟨_,_,rfl,r1,r3⟩
theorem zJy:CallR X (.type "int") (λ xs H Q=>(∃i,xs=[.int i]/\Q (.int i) H)\/∃k,xs=[.bl k]/\Q (.int (if k then 1 else 0)) H):=by
 intro jP s σ H xs us Q I r h;rcases h with ⟨i,rfl,q⟩|⟨k,rfl,q⟩
 ·obtain⟨u,rfl,t,rfl⟩:=vals1 r
  exact call_int_int ⟨.int i,H,I,72,q⟩
 ·obtain⟨u,rfl,r1⟩:=vals1 r
  cases r1;exact call_int_bool ⟨.int (if k then 1 else 0),H,I.tok _,72,q⟩
end
structure ObjM (h:Heap) (x dx C:Addr) (mA:Str->Option Value):Prop where
 obj:h.get? x=some (W.instObj C dx)
 ns:h.Ns1 dx mA
 ne:dx≠x
set_option tactic.hygienic true in
theorem zJG {h:Heap}{dx:Addr}{mA:Str->Option Value}(n:h.Ns1 dx mA):∃od,h.get? dx=some od/\∀name,W.lookIn name od=some (mA name):=by
 obtain⟨o,es,ep,ho,hd,hk,_,hm⟩:=n;refine⟨o,ho,λ name=>?_⟩;have e:=hm name;unfold nsFind findBy at e;rw[←Array.find?_toList] at e;unfold W.lookIn;rw[hd];dsimp only;split
 ·rename_i y q
  rw[q] at e;exact congrArg some e
 ·rename_i q
  rw[q] at e
  have a:es.toList.any (·.refKey)=false:=by
   rw[List.any_eq_false];intro y hy;obtain⟨z,t,hkey⟩:=hk y (Array.mem_toList_iff.mp hy);simp[DictEntry.refKey,hkey]
  have a':¬es.toList.any (·.refKey)=true:=by rw[a];exact lW
  rw[if_neg a'];exact congrArg some e
theorem ObjM.look {h:Heap}{x dx C:Addr}{mA:Str->Option Value}(I:ObjM h x dx C mA):∃od,W.InstAt h x (W.instObj C dx) C (some od)/\∀name,W.lookIn name od=some (mA name) :=
 let ⟨od,ho,hl⟩:=zJG I.ns
 ⟨od,⟨I.obj,rfl,rfl,ho⟩,hl⟩
theorem RelO.some_of {v:V}{o:Option Value}(r:RelO (some v) o):∃u,o=some u/\RelV v u:=by
 cases o with
 |none=>exact(show False from r).elim
 |some u=>exact⟨u,rfl,r⟩
section
variable {P:Program}{w:World}{H H':Hp}{h h':Heap}{a C dx:Addr}{fs fs':List (Str × V)}
theorem zL8 (hok:HOk P w H h) (e:H a=some (.ins C dx fs)):∃mA,ObjM h a dx C mA/\(∀f,RelO (fs.lookup f) (mA f))/\PySem.Within mA (fs.map (·.1))/\fs.length<=1000/\H dx=some (.own a):=by
 obtain⟨d,z,ne,ob,mA,n,r,q⟩:=(show ObjOk P w H h a (.ins C dx fs) from hok a _ e);exact⟨mA,⟨ob,n,ne⟩,r,q,z,d⟩
end
structure Cls (K:W.Frag) (C:Addr):Prop where
 pg:W.plainGet K C Str.empty=true
 hd:W.hasDictIn K C=true
 po:W.plainOver K C=true
 sa:W.findIn K (.ref C) "__setattr__" = some (some (.builtin "object.__setattr__"))
theorem Cls.get {K:W.Frag}{C:Addr}(c:Cls K C) (f:Str):W.plainGet K C f=true:=c.pg
section
variable {X:Cx}{jP:List (Addr × Obj)}{σ:St}{H:Hp}{s:Shared}{A:Around}{E:XQ}{Q:XQ}{c:Value}{b:Bool}
inductive TyOf (K:W.Frag) (H:Hp):V->Value->Prop where
 |non:TyOf K H .non (.type "NoneType")
 |bl (x:Bool):TyOf K H (.bl x) (.type "bool")
 |int (i:Int):TyOf K H (.int i) (.type "int")
 |str (x:Str):TyOf K H (.str x) (.type "str")
 |flt (x:UInt64):TyOf K H (.flt x) (.type "float")
 |lst {a:Addr}{xs:List V}(e:H a=some (.lst xs)):TyOf K H (.ref a) (.type "list")
 |frz {a:Addr}{o:Obj}{xs:List V}(e:H a=some (.frz o (.lst xs))):TyOf K H (.ref a) (.type "list")
 |tup {a:Addr}{xs:List V}(e:H a=some (.tup xs)):TyOf K H (.ref a) (.type "tuple")
 |dK {a:Addr}{kvs:List (Key × V)}(e:H a=some (.dK kvs)):TyOf K H (.ref a) (.type "dict")
 |dT {a:Addr}{kvs:List (List Key × V)}(e:H a=some (.dT kvs)):TyOf K H (.ref a) (.type "dict")
 |ins {a C dx:Addr}{fs:List (Str × V)}(e:H a=some (.ins C dx fs)) (cl:Cls K C) (ha:W.findIn K (.ref C) "__class__" = some (some (.builtin "object.__class__")))
   (hn:W.specialIn K (.builtin "object.__class__") "__get__" = some (some (.builtin "getset_descriptor.__get__"))) (htk:W.takesIn K (.builtin "object.__class__")=some true)
   (hm:W.mroIn K C (.type "object")=some true):TyOf K H (.ref a) (.ref C)
theorem zJW {x:V}{u t:Value}(I:Inv X jP σ H s) (rx:RelV x u) (ty:TyOf X.K H x t) (e:W.kitOne X.K t c=some b) (h:∀tk,Q (.bool b) { s with toks:=tk }) :
  wpAny 67 A (call (.builtin "isinstance") [u,c]) Q E s:=by
 cases ty with
 |non=>cases (show u=Value.none from rx);exact W.kia_one W.kitx_none I.kIn True.intro e (λ z=>nomatch z) h
 |bl y=>cases (show u=Value.bool y from rx);exact W.kia_one W.kitx_bool I.kIn True.intro e (λ z=>nomatch z) h
 |int i=>obtain⟨t,q⟩:=(show ∃t,u=Value.int i t from rx);cases q;exact W.kia_one W.kitx_int I.kIn True.intro e (λ z=>nomatch z) h
 |str y=>obtain⟨t,q⟩:=(show ∃t,u=Value.str y t from rx);cases q;exact W.kia_one W.kitx_str I.kIn True.intro e (λ z=>nomatch z) h
 |flt y=>obtain⟨t,q⟩:=(show ∃t,u=Value.float y t from rx);cases q;exact W.kia_one W.kitx_float I.kIn True.intro e (λ z=>nomatch z) h
 | @lst a xs ea =>
  cases (show u=Value.ref a from rx);obtain⟨_,_,n,_,h1⟩:=(show ObjOk X.prog X.w H s.heap a (.lst xs) from I.hok a _ ea);exact W.kia_one W.kitx_list I.kIn ⟨_,h1,rfl⟩ e (λ z=>nomatch z) h
 | @frz a ob xs ea =>
  cases (show u=Value.ref a from rx);obtain⟨_,_,_,n,_,h1⟩:=(show ObjOk X.prog X.w H s.heap a (.frz ob (.lst xs)) from I.hok a _ ea);exact W.kia_one W.kitx_list I.kIn ⟨_,h1,rfl⟩ e (λ z=>nomatch z) h
 | @tup a xs ea =>
  cases (show u=Value.ref a from rx);obtain⟨_,_,_,p⟩:=(show ObjOk X.prog X.w H s.heap a (.tup xs) from I.hok a _ ea);obtain⟨o,h1,h2,_⟩:=p;exact W.kia_one W.kitx_tuple I.kIn ⟨o,h1,h2⟩ e (λ z=>nomatch z) h
 | @dK a kvs ea =>
  cases (show u=Value.ref a from rx);obtain⟨_,_,vs,_,p⟩:=(show ObjOk X.prog X.w H s.heap a 92 from I.hok a _ ea);obtain⟨o,es,ep,h1,h2,_⟩:=p;exact W.kia_one W.kitx_dict I.kIn ⟨o,h1,h2.1⟩ e (λ z=>nomatch z) h
 | @dT a kvs ea =>
  cases (show u=Value.ref a from rx);obtain⟨_,_,xs,_,o,es,ep,h1,h2,_⟩:=(show ObjOk X.prog X.w H s.heap a (.dT kvs) from I.hok a _ ea);exact W.kia_one W.kitx_dict I.kIn ⟨o,h1,h2.1⟩ e (λ z=>nomatch z) h
 | @ins a C dx fs ea cl ha hn htk hm =>
  cases (show u=Value.ref a from rx);obtain⟨mA,O,_⟩:=zL8 I.hok ea;obtain⟨od,J,_⟩:=O.look;exact W.kia_one (W.kitx_own (cl.get _) cl.hd ha hn htk hm) I.kIn J e (λ z=>nomatch z) h
end
structure Room (k:Nat) (A:Around):Prop where
 hd:A.handled=none
 dp:A.depth+3 * k+5<recursionLimit
 un:A.units+16 * k+200<cLine
theorem Room.mono {j k:Nat}{A:Around}(r:Room k A) (h:j<=k):Room j A:=⟨r.hd,by have:=r.dp;lia,by have:=r.un;lia⟩
theorem Room.deeper {k:Nat}{A:Around}(r:Room (k+1) A) (env:Env):Room k (A.deeper env) :=
 ⟨r.hd,by have:=r.dp;show A.depth+1+3 * k+5<_;lia,by have:=r.un;show A.units+3+16 * k+200<_;lia⟩
theorem Room.depth {k:Nat}{A:Around}(r:Room k A):A.depth<recursionLimit:=by have:=r.dp;lia
theorem Room.units {k:Nat}{A:Around}(r:Room k A):A.units+64<cLine:=by have:=r.un;lia
def tNil:TA:=λ Ω H Q=>Q [] H
def tCons (ta:TE) (tr:TA):TA:=λ σ H Q=>ta σ H λ x H1=>tr σ H1 λ xs H2=>Q (x::xs) H2
section
variable {X:Cx}{e:Expr}{es:List Expr}{te:TE}{t:TA}{pos:Pos}
theorem zAD:PA X [] tNil:=λ Ω Ω Ω Ω H Q I h=>Calls.spliced_nil ⟨[],H,I,.nil,h⟩
theorem zAA (ha:PE X e te) (hr:PA X es t) (hs:starEach (e::es) X.env=(false,eval e X.env)::starEach es X.env:=by rfl):PA X (e::es) (tCons te t):=by
 intro pos jP s σ H Q I h;rw[hs];show wpAny _ _ (spliced ((false,eval e X.env)::backTo pos (starEach es X.env))) _ _ s;refine Calls.spliced_cons (thn (ha jP s σ H _ I h) λ u s1 ⟨x,H1,I1,r1,q1⟩=>?_);exact thn (hr pos jP s1 σ H1 _ I1 q1) λ us s2 ⟨xs,H2,I2,r2,q2⟩=>⟨x::xs,H2,I2,.cons r1 r2,q2⟩
def tTup (t:TA):TE:=λ σ H Q=>t σ H λ xs H1=>xs.length<=sizeLine/\∀p,H1 p=none->Q (.ref p) (upd H1 p (.tup xs))
def tLst (t:TA):TE:=λ σ H Q=>t σ H λ xs H1=>xs.length<=sizeLine/\∀p,H1 p=none->Q (.ref p) (upd H1 p (.lst xs))
theorem zAk {x1} (h:PA X es t):PE X (.Tuple es x1 pos) (tTup t):=by
 intro jP s σ H Q I hq;refine wpAny_Tuple_spliced (thn (h pos jP s σ H _ I hq) λ us s1 ⟨xs,H1,I1,r,z,q⟩=>⟨by rw[←r.length];exact z,?_⟩);have hf:H1 s1.heap.objs.size=none:=I1.hok.fresh (lQ _);refine⟨.ref s1.heap.objs.size,upd H1 s1.heap.objs.size (.tup xs),I1.laid (t':=s1.toks) (λ b u e=>lE _ e) (lQ _) ?_,rfl,q _ hf⟩;exact⟨z,us,r,⟨_,lG _ rfl,rfl,_,rfl⟩⟩
theorem zBA (h:PA X es t):PE X (.List es pos) (tLst t):=by
 intro jP s σ H Q I hq;refine wpAny_List_spliced (thn (h pos jP s σ H _ I hq) λ us s1 ⟨xs,H1,I1,r,z,q⟩=>⟨by rw[←r.length];exact z,?_⟩);have hf:H1 s1.heap.objs.size=none:=I1.hok.fresh (lQ _);refine⟨.ref s1.heap.objs.size,upd H1 s1.heap.objs.size (.lst xs),I1.laid (t':=s1.toks) (λ b u e=>lE _ e) (lQ _) ?_,rfl,q _ hf⟩;exact⟨z,us,0,r,lG _ rfl⟩
end
abbrev Sp:=List V->Hp->VK->XK->Prop
abbrev CXT:=List Env->Hp->Shared->XK->Value->Shared->Prop
structure Env0 (P:Program) (w:World) (K:W.Frag) (mg:Str->Option Value) (base:Heap) (A:Around) (outer:List Env) (s:Shared) (H:Hp):Prop where
 frames:A.frames=some outer
 mod:Mod K mg base
 bs:∀b o,base.get? b=some o->s.heap.get? b=some o/\H b=none
 bsz:base.objs.size<=s.heap.objs.size
 funs:s.heap.FunFrames base outer
 frf:∀b∈frs outer,H b=none
 hok:HOk P w H s.heap
 bare:AllBare s.gens
def CE (outer:List Env) (P:Program) (w:World) (H:Hp) (s:Shared) (Q:VK) (u:Value) (s':Shared):Prop :=
 ∃v H',s'.os=s.os/\AllBare s'.gens/\Un (frs outer) [] H H' s.heap s'.heap/\HOk P w H' s'.heap/\RelV v u/\Q v H'
def CR (CX:CXT) (outer:List Env) (P:Program) (w:World) (H:Hp) (s:Shared) (Q:VK) (E:XK) (r:Result) (s':Shared):Prop :=
 match r with
 |.ok (.ret u)=>CE outer P w H s Q u s'
 |.ok _=>False
 |.error e=>CX outer H s E e s'
structure FnOk (P:Program) (w:World) (K:W.Frag) (mg:Str->Option Value) (base:Heap) (CX:CXT) (k:Nat) (f:Addr) (fd:FuncData) (ps:List Str) (sp:Sp):Prop where
 len:∀vs H Q E,sp vs H Q E->vs.length=ps.length
 run:∀(A:Around) (outer:List Env) (s:Shared) (H:Hp) (args:Args) (us:List Value) (vs:List V) (Q:VK) (E:XK),Room k A->Env0 P w K mg base A outer s H->BindsTo s fd args (ps.zip us)->Vals vs us->sp vs H Q E ->
  codeAny (model P w) A (.call (.ref f) args) (CR CX outer P w H s Q E) s
theorem FnOk.mono {P:Program}{w:World}{K:W.Frag}{mg:Str->Option Value}{base:Heap}{CX:CXT}{j k:Nat}{f:Addr}{fd:FuncData}{ps:List Str}{sp:Sp}(F:FnOk P w K mg base CX j f fd ps sp) (h:j<=k) :
  FnOk P w K mg base CX k f fd ps sp:=⟨F.len,λ A outer s H args us vs Q E hr=>F.run A outer s H args us vs Q E (hr.mono h)⟩
section
variable {X:Cx}{jP:List (Addr × Obj)}{σ:St}{H:Hp}{s s':Shared}
theorem Inv.env0 (I:Inv X jP σ H s):Env0 X.prog X.w X.K X.mg X.base X.A X.stack s H :=
 ⟨I.ok.frames,I.ok.mod,I.bs,mF I.ok.bsz I.sz,I.stack,I.stkFree,I.hok,I.bare⟩
theorem Inv.after {Q:VK}{u:Value}(I:Inv X jP σ H s) (h:CE X.stack X.prog X.w H s Q u s'):EP X jP σ Q u s':=by
 obtain⟨v,H',os,bare,un,hok,r,q⟩:=h;obtain⟨hh,g,d,t,os'⟩:=s';obtain rfl:os'=s.os:=os;exact⟨v,H',I.call (h':=hh) (g':=g) (d':=d) (t':=t) (ch:=[]) un hok bare (λ b z=>absurd z 59),r,q⟩
end
def tCall (sp:Sp) (dvs:List V) (E:XK) (t:TA):TE:=λ σ H Q=>t σ H λ vs H1=>sp (vs++dvs) H1 Q E
def Binds (K:W.Frag) (fd:FuncData) (ps:List Str) (ds:List Value):Prop :=
 ∀(s:Shared) (us:List Value),K.In s.heap->(us++ds).length=ps.length->BindsTo s fd ⟨us,[]⟩ (ps.zip (us++ds))
theorem Binds.all {K:W.Frag}{fd:FuncData}{ps:List Str}(h:∀us:List Value,us.length=ps.length->bindArgs fd ⟨us,[]⟩=pure (ps.zip us)):Binds K fd ps []:=λ s us Ω hl=>by
 rw[nN] at hl ⊢;exact .of_eq (h us hl)
def zHp (CX:CXT) (X:Cx) (E:XK):Prop:=∀(jP:List 71) (σ:St) (H:Hp) (s:Shared) (e:Value) (s':Shared),Inv X jP σ H s->CX X.stack H s E e s'->X.xe e s'
section
variable {X:Cx}{CX:CXT}{k:Nat}{f C:Addr}{fd:FuncData}{ps:List Str}{sp:Sp}{dvs:List V}{ds:List Value}{E:XK}{x m:Str}{p pos apos:Pos}{e o:Expr}{es:List Expr}{ta:TE}{t:TA}
theorem zMS {jP:List 71}{σ:St}{H:Hp}{s:Shared}{Q:VK}{us:List Value}{vs:List V}(F:FnOk X.prog X.w X.K X.mg X.base CX k f fd ps sp) (hr:Room k X.A) (hb:Binds X.K fd ps ds) (hd:Vals dvs ds) (hx:zHp CX X E)
  (I:Inv X jP σ H s) (r:Vals vs us) (h:sp (vs++dvs) H Q E):wpAny 67 X.A (call (.ref f) us) (EP X jP σ Q) X.xe s:=by
 have r2:Vals (vs++dvs) (us++ds):=r.append hd;have hl:(us++ds).length=ps.length:=by rw[←r2.length];exact F.len _ _ _ _ h
 refine wpAny_call (codeAny_mono (F.run X.A X.stack s H ⟨us,[]⟩ (us++ds) (vs++dvs) Q E hr I.env0 (hb s us I.kIn hl) r2 h) λ r s' hq=>?_);cases r with
 |error e=>exact hx jP σ H s e s' I hq
 |ok fl =>
  cases fl with
  |ret u=>exact I.after hq
  |next=>exact False.elim hq
  |brk=>exact False.elim hq
  |cont=>exact False.elim hq
theorem zGe (F:FnOk X.prog X.w X.K X.mg X.base CX k f fd ps sp) (hr:Room k X.A) (hg:Gl X x) (hm:X.mg x=some (.ref f)) (hk:W.keepIn X.K (.ref f)=true) (hb:Binds X.K fd ps ds) (hd:Vals dvs ds) (hx:zHp CX X E)
  (ha:PA X (e::es) t) (hdb:(x == ("__debug__" : Str))=false:=by decide) (he:starEach (e::es) X.env=(false,eval e X.env)::starEach es X.env:=by rfl) (hpl:(backTo pos (starEach es X.env)).any (·.1)=false:=by rfl) :
  PE X (.Call (.Name x p) (e::es) [] pos) (tCall sp dvs E t):=by
 intro jP s σ H Q I h;refine wpAny_Call_Name_kw (zJH I hg hm ?_ hdb);refine W.callWith_K (h₀:=X.base) I.ok.mod.kin hk (thn (ha pos jP s σ H _ I h) λ us s1 ⟨vs,H1,I1,r,q⟩=>⟨I1.kIn,?_⟩) he hpl;exact zMS F hr hb hd hx I1 r q
end
structure zAV (N P:List Str) (sc:Scope):Prop where
 kind:sc.kind = .function
 co:sc.isCoroutine=false
 gen:sc.isGenerator=false
 nd:N.Nodup
 pre:N.take P.length=P
 par:∀x∈P,sc.names.lookup x=some .local\/sc.names.lookup x=some .cell
 nofree:∀y∈sc.names,y.2 ≠ .free
theorem scI {N P:List Str}{sc:Scope}(a:sc.kind=.function:=by rfl)(b:sc.isCoroutine=false:=by rfl)(c:sc.isGenerator=false:=by rfl)(d:N.Nodup:=by right)(e:N.take P.length=P:=by rfl)(f:∀x∈P,sc.names.lookup x=some .local\/sc.names.lookup x=some .cell:=by right)(g:∀y∈sc.names,y.2≠.free:=by right):zAV N P sc:=⟨a,b,c,d,e,f,g⟩
theorem zGJ {kindOf:Str->Option NameKind}{x:Str}:∀{binds:List (Str × Value)}{m:Str->Option Value},(∀v,(x,v)∉binds)->bindL kindOf binds m x=m x
 |[],_,_=>rfl
 | (n,v)::r,m,h=>by
  unfold bindL;rw[zGJ λ w hw=>h w (List.mem_cons_of_mem _ hw)];split
  ·have:x≠n:=by rintro rfl;exact h v lO
   simp[this]
  ·rfl
theorem zGL {kindOf:Str->Option NameKind}{x:Str}:∀{binds:List (Str × Value)}{m:Str->Option Value},(∀v,(x,v)∉binds)->bindC kindOf binds m x=m x
 |[],_,_=>rfl
 | (n,v)::r,m,h=>by
  unfold bindC;rw[zGL λ w hw=>h w (List.mem_cons_of_mem _ hw)];split
  ·rfl
  ·have:x≠n:=by rintro rfl;exact h v lO
   simp[this]
theorem zGK {kindOf:Str->Option NameKind}{x:Str}{v:Value}:∀{P:List Str}{vs:List Value}{i:Nat}{m:Str->Option Value},P.Nodup->P[i]?=some x->vs[i]?=some v->kindOf x=some .local ->
  bindL kindOf (P.zip vs) m x=some v
 |[],_,_,_,_,h,_,_=>by simp at h
 |_::_,[],_,_,_,_,h,_=>by simp at h
 |p::P,w::vs,0,m,nd,h1,h2,hk=>by
  simp at h1 h2;subst h1;subst h2;show bindL kindOf ((p,w)::P.zip vs) m p=_;unfold bindL;rw[zGJ λ v hv=>(nY.mp nd).1 (List.of_mem_zip hv).1,if_pos hk];simp
 |p::P,w::vs,i+1,m,nd,h1,h2,hk=>by
  show bindL kindOf ((p,w)::P.zip vs) m x=_;unfold bindL;exact zGK (i:=i) (nY.mp nd).2 (by simpa using h1) (by simpa using h2) hk
theorem zGM {kindOf:Str->Option NameKind}{x:Str}{v:Value}:∀{P:List Str}{vs:List Value}{i:Nat}{m:Str->Option Value},P.Nodup->P[i]?=some x->vs[i]?=some v->kindOf x≠some .local ->
  bindC kindOf (P.zip vs) m x=some v
 |[],_,_,_,_,h,_,_=>by simp at h
 |_::_,[],_,_,_,_,h,_=>by simp at h
 |p::P,w::vs,0,m,nd,h1,h2,hk=>by
  simp at h1 h2;subst h1;subst h2;show bindC kindOf ((p,w)::P.zip vs) m p=_;unfold bindC;rw[zGL λ v hv=>(nY.mp nd).1 (List.of_mem_zip hv).1,if_neg hk];simp
 |p::P,w::vs,i+1,m,nd,h1,h2,hk=>by
  show bindC kindOf ((p,w)::P.zip vs) m x=_;unfold bindC;exact zGM (i:=i) (nY.mp nd).2 (by simpa using h1) (by simpa using h2) hk
noncomputable def start (N:List Str) (vs:List V):St:=vs.map some++List.replicate (N.length - vs.length) none
noncomputable def cxOf (CX:CXT) (P:Program) (w:World) (K:W.Frag) (mg:Str->Option Value) (base:Heap) (N:List Str) (qual:Str) (scope:Scope) (f:Addr) (cd:Value) (A:Around) (outer:List Env) (s:Shared) (H:Hp) (E:XK):Cx where
 prog:=P
 w:=w
 K:=K
 mg:=mg
 base:=base
 A:=A.deeper (envOfC qual scope s.heap.objs.size f cd)
 N:=N
 s₀:=s
 H₀:=H
 env:=envOfC qual scope s.heap.objs.size f cd
 outer:=outer
 stack:=envOfC qual scope s.heap.objs.size f cd::outer
 ex:=[]
 calm:=true
 fn:=λ Ω=>true
 pn:=[]
 xe:=λ e s'=>wpAny (model P w) (A.deeper (envOfC qual scope s.heap.objs.size f cd)) (leaving (envOfC qual scope s.heap.objs.size f cd) e) (λ Ω s''=>CX outer H s E e s'') (λ e' s''=>CX outer H s E e' s'') s'
theorem zHf {sc:Scope}{n:Nat}{x:Str}(h:sc.names.lookup x=some .cell):∃c,(cellsFrom n sc.names []).lookup x=some c:=by
 have q:=W.cellsFrom_some sc.names n [] (.inl h);exact Option.isSome_iff_exists.mp q
theorem zJX {CX:CXT}{P:Program}{w:World}{K:W.Frag}{mg:Str->Option Value}{base:Heap}{N ps:List Str}{qual:Str}{scope:Scope}{f:Addr}{cd:Value}{A:Around}{outer:List Env}{s s1:Shared}{H:Hp}{E:XK}{us:List Value}{vs:List V}
  (S:zAV N ps scope) (hd:A.handled=none) (e0:Env0 P w K mg base A outer s H) (hl:vs.length=ps.length) (r:Vals vs us)
  (x:InCallC s s.heap.objs.size (bindL (envOfC qual scope s.heap.objs.size f cd).kindOf (ps.zip us) λ Ω=>none) (cellsFrom (s.heap.objs.size+1) scope.names []) (bindC (envOfC qual scope s.heap.objs.size f cd).kindOf (ps.zip us) λ Ω=>none) s1) :
  Inv (cxOf CX P w K mg base N qual scope f cd A outer s H E) [] (start N vs) H s1:=by
 have hpl:ps.length<=N.length:=by have:=congrArg List.length S.pre;rw[mL] at this;lia
 obtain⟨h1,tk,rfl,hk⟩:=x.done;have noA:∀b:Addr,b∉(cxOf CX P w K mg base N qual scope f cd A outer s H E).ex:=λ b z=>absurd (show b∈([]:List Addr) from z) 59
 refine⟨⟨e0.mod,S.kind,rfl,rfl,lQ _,λ y z c h1 h2=>?_,λ y hy=>?_,λ y c Ω h=>?_,λ Ω=>hd,Around.frames_deeper e0.frames,.inr ⟨rfl,rfl⟩,λ b z=>absurd z (noA b),e0.bs,e0.bsz,λ b Ω Ω=>noA b,λ b z=>absurd z (noA b),e0.funs,e0.frf⟩,
  rfl,e0.bare,Un.kept hk,⟨_,x.toInCall.ns,λ i y v h1 h2 h3=>?_⟩,λ y c h=>⟨_,x.cell y c h⟩,e0.hok.fresh (lQ _),λ y c h=>?_,λ p hp=>absurd (show p∈([]:List 71) from hp) 59,e0.hok.kept hk,?_⟩
 ·exact name_of_addr x.apart (PySem.mem_of_lookup h1) (PySem.mem_of_lookup h2)
 ·have hy:scope.names.lookup y=some .cell\/scope.names.lookup y=some .free:=hy
  rcases hy with hy|hy
  ·exact zHf hy
  ·exact absurd rfl (S.nofree _ (PySem.mem_of_lookup hy))
 ·exact Nat.le_of_lt (x.above y c (PySem.mem_of_lookup h))
 ·have hi:i<vs.length:=by
   unfold start at h2
   by_cases hi:i<vs.length
   ·exact hi
   ·rw[mR (by simpa using hi)] at h2
    rw[List.getElem?_replicate] at h2;split at h2<;>cases h2
  have ha:vs[i]?=some v:=by
   unfold start at h2;rw[mQ (by simpa using hi),mH] at h2;cases e:vs[i]? with
   |none=>rw[e] at h2;cases h2
   |some a=>rw[e] at h2;cases h2;rfl
  obtain⟨u,hu,rv⟩:=r.get ha
  have hp:ps[i]?=some y:=by
   rw[←S.pre,List.getElem?_take_of_lt 65];exact h1
  have ndP:ps.Nodup:=by rw[←S.pre];exact S.nd.sublist (List.take_sublist _ _)
  refine⟨u,rv,?_⟩;rcases S.par y (lK hp) with k|k
  ·exact .inl ⟨k,zGK ndP hp hu k⟩
  ·obtain⟨c,e⟩:=zHf (n:=s.heap.objs.size+1) k
   refine .inr ⟨.inl k,c,e,?_⟩;have q:=x.cell y c e;rw[zGM ndP hp hu (by show scope.names.lookup y≠_;rw[k];decide)] at q;exact q
 ·exact e0.hok.fresh (Nat.le_of_lt (x.above y c (PySem.mem_of_lookup h)))
 ·unfold start
  show _=N.length;rw[mI,lC,List.length_replicate]
  lia
theorem fn_of {CX:CXT}{P:Program}{w:World}{K:W.Frag}{mg:Str->Option Value}{base:Heap}{k:Nat}{f:Addr}{name qual:Str}{params:Arguments}{body:List Stmt}{scope:Scope}{dV kV doc pm cdv ct oc:Value}{an od:Option Addr}
  {osl:Array (Option Value)}{N ps:List Str}{sp:Sp}(lk:K.lookup f=some ⟨oc,od,.func (W.fnOf name qual params body scope dV kV doc pm an cdv ct),osl⟩) (hcd:W.codeIn K cdv qual=true) (S:zAV N ps scope)
  (len:∀vs H Q E,sp vs H Q E->vs.length=ps.length)
  (hbody:∀(A:Around) (outer:List Env) (s:Shared) (H:Hp) (vs:List V) (Q:VK) (E:XK),Room k (A.deeper (envOfC qual scope s.heap.objs.size f cdv))->sp vs H Q E ->
   ∃t,PSs (cxOf CX P w K mg base N qual scope f cdv A outer s H E) body t/\t { nx:=λ Ω H'=>Q .non H',rt:=Q } (start N vs) H) :
  FnOk P w K mg base CX (k+1) f (W.fnOf name qual params body scope dV kV doc pm an cdv ct) ps sp:=by
 refine⟨len,λ A outer s H args us vs Q E hr e0 hb r hsp=>?_⟩;have hl:=len _ _ _ _ hsp;have KX:K.In s.heap:=e0.mod.kin.keeps λ b o e=>(e0.bs b o e).1;have lim:s.heap.NoLimit:=e0.mod.nolimit.keeps λ b o e=>(e0.bs b o e).1
 have hkind:∀y∈ps.zip us,scope.names.lookup y.1=some .local\/(scope.names.lookup y.1=some .cell/\((cellsFrom (s.heap.objs.size+1) scope.names []).lookup y.1).isSome=true):=λ⟨n,v⟩ hy=>by
  rcases S.par n (List.of_mem_zip hy).1 with q|q
  ·exact .inl q
  ·exact .inr ⟨q,W.cellsFrom_some _ _ _ (.inl q)⟩
 refine codeAny_call_function hr.depth (KX _ _ lk) rfl S.co S.gen rfl (W.codeRec_of KX hcd) (hb _ _ _ _ ?_);refine wpAny_newFunctionEnv_cells S.kind hkind λ env he s1 x=>?_;subst he;refine⟨lim.keeps x.toInCall.keep,codeAny_func ?_⟩;obtain⟨t,ht,hq⟩:=hbody A outer s H vs Q E (hr.deeper _) hsp;have I:Inv (cxOf CX P w K mg base N qual scope f cdv A outer s H E) [] (start N vs) H s1:=zJX S hr.hd e0 hl r x;refine wpAny_mono (ht [] s1 (start N vs) H _ I hq) (λ fl s' hs=>?_) λ e s' hs=>hs
 have fin:∀{σ':St}{H':Hp}{v:V}{u:Value},Inv (cxOf CX P w K mg base N qual scope f cdv A outer s H E) [] σ' H' s'->RelV v u->Q v H'->CE outer P w H s Q u s' :=
  λ{σ' H' v u} J rv q=>⟨v,H',J.os,J.bare,J.base,J.hok,rv,q⟩
 cases fl with
 |ret u =>
  obtain⟨v,σ',H',J,rv,q⟩:=hs;exact fin J rv q
 |next =>
  obtain⟨σ',H',J,q⟩:=hs;exact fin (v:=V.non) (u:=Value.none) J rfl q
 |brk =>
  obtain⟨_,_,_,q⟩:=hs;exact False.elim q
 |cont =>
  obtain⟨_,_,_,q⟩:=hs;exact False.elim q
section
variable {X:Cx}{x:Str}{p pos:Pos}{e:Expr}{es:List Expr}{t:TA}{id T:String}{r:List V->Hp->VK->Prop}
def tCB (r:List V->Hp->VK->Prop) (t:TA):TE:=λ σ H Q=>t σ H λ vs H1=>r vs H1 Q
theorem zA2 (hc:CallR X (.builtin id) r) (hg:Gl X x) (hm:X.mg x=none) (hv:bootBuiltins x=some (.builtin id)) (ha:PA X (e::es) t) (hn:x ≠ "__name__" := by decide) (hdb:(x == ("__debug__" : Str))=false:=by decide)
  (he:starEach (e::es) X.env=(false,eval e X.env)::starEach es X.env:=by rfl) (hpl:(backTo pos (starEach es X.env)).any (·.1)=false:=by rfl):PE X (.Call (.Name x p) (e::es) [] pos) (tCB r t):=by
 intro jP s σ H Q I h;refine wpAny_Call_Name_kw (zDC I hg hm hv ?_ hn hdb);exact PyProof.Rows.callWith_builtin1 (thn (ha pos jP s σ H _ I h) λ us s1 ⟨vs,H1,I1,r1,q1⟩=>hc jP s1 σ H1 vs us Q I1 r1 q1) he hpl
theorem zBK (hc:CallR X (.type T) r) (hg:Gl X x) (hm:X.mg x=none) (hv:bootBuiltins x=some (.type T)) (ha:PA X (e::es) t) (hn:x ≠ "__name__" := by decide) (hdb:(x == ("__debug__" : Str))=false:=by decide)
  (he:starEach (e::es) X.env=(false,eval e X.env)::starEach es X.env:=by rfl) (hpl:(backTo pos (starEach es X.env)).any (·.1)=false:=by rfl):PE X (.Call (.Name x p) (e::es) [] pos) (tCB r t):=by
 intro jP s σ H Q I h;refine wpAny_Call_Name_kw (zDC I hg hm hv ?_ hn hdb);exact PyProof.Rows.callWith_type1 (thn (ha pos jP s σ H _ I h) λ us s1 ⟨vs,H1,I1,r1,q1⟩=>hc jP s1 σ H1 vs us Q I1 r1 q1) he hpl
end
end L2
namespace HT
open PySem PyProof.Rows
section
variable {prog:Program}{w:World}{A:Around}{E:XQ}{s:Shared}
theorem cat_tup {t b:Addr}{vs ws:List Value}{Q:XQ}(ht:IsTup s.heap t vs.toArray) (hb:IsTup s.heap b ws.toArray) (hv:vs≠[])
  (h1:ws=[]->Q (.ref t) s) (h2:ws≠[]->Q (.ref s.heap.objs.size) { s with heap:=s.heap.push { cls:=.type "tuple", data:=.seq (vs++ws).toArray } })
  (hsz:vs.length+ws.length<=sizeLine):wpAny (model prog w) A (binaryOp .Add (.ref t) (.ref b)) Q E s:=by
 obtain⟨⟨cls,dd,data,sl⟩,ho,hc,n,hd⟩:=id ht;obtain⟨⟨cls2,dd2,data2,sl2⟩,ho2,hc2,n2,hd2⟩:=id hb;simp only at hc hd hc2 hd2;subst hc hd hc2 hd2;have e:vs.toArray++ws.toArray=(vs++ws).toArray:=by simp
 by_cases hw:ws=[]
 ·exact concat_meets ⟨_,ho,rfl⟩ ⟨_,ho2,rfl⟩ noFill_tuple_add seq_tuple_add PySem.F.slot_tuple_add PySem.F.entry_tuple_add (PySem.F.args_tuple_add_2 _ _)
   (tuple_addW1 t b vs.toArray ws.toArray n n2 dd dd2 sl sl2 (by simpa using hv) (by simp[hw])) ⟨ho,ho2,h1 hw⟩
 ·refine concat_meets ⟨_,ho,rfl⟩ ⟨_,ho2,rfl⟩ noFill_tuple_add seq_tuple_add PySem.F.slot_tuple_add PySem.F.entry_tuple_add (PySem.F.args_tuple_add_2 _ _)
   (tuple_addW2 t b vs.toArray ws.toArray n n2 dd dd2 sl sl2 (by simpa using hv) (by simpa using hw) (by rw[mG,mG];exact hsz)) ⟨ho,ho2,?_⟩
  rw[e];exact h2 hw
noncomputable def sIx (n d:Nat):Option Int->Nat
 |none=>d
 |some v=>if v<0 then (v+(n:Int)).toNat else min v.toNat n
theorem sIx_none (n d:Nat):sIx n d none=d:=rfl
theorem sIx_nat (n d k:Nat):sIx n d (some (k:Int))=min k n:=by
 show (if (k:Int)<0 then ((k:Int)+(n:Int)).toNat else min (k:Int).toNat n)=min k n;rw[if_neg 65,Int.toNat_natCast]
theorem zMR (n d:Nat) (hd:d<=n) (o:Option Int):sIx n d o<=n:=by
 cases o with
 |none=>exact hd
 |some v =>
  show (if v<0 then (v+(n:Int)).toNat else min v.toNat n)<=n
  by_cases hv:v<0
  ·rw[if_pos hv];lia
  ·rw[if_neg hv];exact Nat.min_le_right _ _
theorem zJu (v:Int) (n d:Nat):(if v<0 then max (v+(n:Int)) 0 else min v (n:Int))=((sIx n d (some v):Nat):Int):=by
 show (if v<0 then max (v+(n:Int)) 0 else min v (n:Int))=(((if v<0 then (v+(n:Int)).toNat else min v.toNat n):Nat):Int)
 by_cases hv:v<0
 ·simp only[if_pos hv];lia
 ·simp only[if_neg hv];lia
theorem zIK (lo hi:Option Int) (n:Nat):Builtin.Slice.sliceAdjust lo hi 1 (n:Int)=(((sIx n 0 lo:Nat):Int),((sIx n n hi:Nat):Int)):=by
 have h1:¬((1:Int)<0):=by lia
 unfold Builtin.Slice.sliceAdjust;simp only[h1,if_false];refine Prod.ext ?_ ?_
 ·cases lo with
  |none=>rfl
  |some v=>exact zJu v n 0
 ·cases hi with
  |none=>rfl
  |some v=>exact zJu v n n
theorem zHx (i j:Nat):Builtin.Slice.slicePlaces (i:Int) (j:Int) 1=j - i:=by
 unfold Builtin.Slice.slicePlaces;have h1:(1:Int) > 0:=by lia
 simp only[h1,if_true,Int.ediv_one];split<;>lia
theorem zE0 {v:Value}{o:Option Int}{Q:Option Int->Shared->Prop}(p:IsPart v o) (h:Q o s):wpAny (model prog w) A (Builtin.Slice.slicePartIndex v) Q E s:=by
 cases p with
 |none=>exact slicePart_none h
 |int i t=>exact slicePart_int h
theorem zD6 {sl:Addr}{vl vu:Value}{lo hi:Option Int}{n:Nat}{Q:Int × Int × Nat->Shared->Prop}(hs:s.heap.IsSliceOf sl vl vu .none) (pl:IsPart vl lo) (pu:IsPart vu hi)
  (h:Q (((sIx n 0 lo:Nat):Int),1,sIx n n hi - sIx n 0 lo) s):wpAny (model prog w) A (Builtin.Slice.sliceApplied (.ref sl) (pure (n:Int))) Q E s:=by
 obtain⟨os,hos,hcs,hds⟩:=id hs;unfold Builtin.Slice.sliceApplied Builtin.Slice.sliceFields;refine lA (lA (wpAny_field hos hds (x:=vl) rfl (lA (wpAny_field hos hds (x:=vu) rfl (lA (wpAny_field hos hds (x:=.none) rfl (lB ?_)))))));refine lA (slicePart_none ?_);show wpAny _ _ (if ((1:Int) == 0)=true then _ else _) _ _ s;rw[if_neg 66];refine lA (zE0 pl (lA (zE0 pu (lA (lB ?_)))));show wpAny _ _ (match Builtin.Slice.sliceAdjust lo hi 1 (n:Int) with|(lo,hi)=>pure (lo,(1:Int),Builtin.Slice.slicePlaces lo hi 1)) _ _ s;rw[zIK lo hi n];show wpAny _ _ (pure (((sIx n 0 lo:Nat):Int),(1:Int),Builtin.Slice.slicePlaces ((sIx n 0 lo:Nat):Int) ((sIx n n hi:Nat):Int) 1)) _ _ s;rw[zHx];exact lB h
theorem zKP (xs:Array Value) (i k:Nat):((List.range k).filterMap λ(m:Nat)=>xs[((i:Int)+(m:Int) * 1).toNat]?).toArray=((xs.toList.drop i).take k).toArray:=by
 have e:(λ(m:Nat)=>xs[((i:Int)+(m:Int) * 1).toNat]?)=λ m=>xs[i+m]?:=by
  funext m;have:((i:Int)+(m:Int) * 1).toNat=i+m:=by lia
  rw[this]
 rw[e];have:=pick_run xs i k;rw[List.filterMap_map] at this;have e2:((λ x=>xs[x]?) ∘ λ x=>i+x)=λ m=>xs[i+m]?:=rfl;rw[e2] at this;rw[this]
theorem getItem_tuple_cut {t sl:Addr}{items:Array Value}{vl vu:Value}{lo hi:Option Int}{Q:XQ}(ht:IsTup s.heap t items) (hs:s.heap.IsSliceOf sl vl vu .none) (pl:IsPart vl lo) (pu:IsPart vu hi)
  (hw:¬(sIx items.size 0 lo=0/\sIx items.size items.size hi=items.size))
  (h:Q (.ref s.heap.objs.size) { s with heap:=s.heap.push { cls:=.type "tuple", data:=.seq ((items.toList.drop (sIx items.size 0 lo)).take (sIx items.size items.size hi - sIx items.size 0 lo)).toArray } })
  (hsz:items.size<=sizeLine):wpAny (model prog w) A (getItem (.ref t) (.ref sl)) Q E s:=by
 have htake:sizeOk (.seq ((items.toList.drop (sIx items.size 0 lo)).take (sIx items.size items.size hi - sIx items.size 0 lo)).toArray):=by
  show ((items.toList.drop (sIx items.size 0 lo)).take (sIx items.size items.size hi - sIx items.size 0 lo)).toArray.size<=sizeLine;rw[mG,mL,mT,Array.length_toList]
  lia
 have hj:sIx items.size items.size hi<=items.size:=zMR _ _ (lQ _) hi;obtain⟨os,hos,hcs,hds⟩:=id hs;have hTs:s.TypeIs (.ref sl) "slice" := ⟨os,hos,hcs⟩;unfold getItem
 try with_reducible refine lD ?_
 first|refine lA (lB ?_)|skip
 refine lA (wpAny_sequenceKey ht.typeIs 66 ?_)
 refine lA (wpAny_callSpecial?_slot (name:=Str.ofString "__getitem__") ht.typeIs PyProof.Rows.slot_tuple_getitem
  (wpAny_call_entry PyProof.Rows.slot_tuple_getitem ht.typeIs entry_tuple_getitem ?_ (args_tuple_getitem _ _)))
 show wpAny _ _ (Builtin.Tuple.tupleItemsOf (.ref t) >>= _) _ _ s;refine lA (tupleItemsOf_ ht ?_);refine lA (wpAny_typeOf hTs ?_);rw[if_pos 66];refine lA (zD6 hs pl pu ?_)
 have hno:¬((((sIx items.size 0 lo:Nat):Int) == 0 && (1:Int) == 1 && (sIx items.size items.size hi - sIx items.size 0 lo) == items.size)=true):=by
  intro q;rw[Bool.and_eq_true,Bool.and_eq_true] at q;have q1:((sIx items.size 0 lo:Nat):Int)=0:=eq_of_beq q.1.1;have q2:sIx items.size items.size hi - sIx items.size 0 lo=items.size:=eq_of_beq q.2;exact hw ⟨by lia,by lia⟩
 show wpAny _ _ (if (((sIx items.size 0 lo:Nat):Int) == 0 && (1:Int) == 1 && (sIx items.size items.size hi - sIx items.size 0 lo) == items.size)=true then _ else _) _ _ s;rw[if_neg hno,zKP]
 first
  |exact lA (m:=Builtin.Tuple.tupleExact _) (wpAny_newObj_type (lB ⟨_,rfl,lB h⟩) htake)
  |exact lA (m:=Builtin.Tuple.tupleExact _) (wpAny_newObj_type (lA (lB (lB ⟨_,rfl,lB h⟩))) htake)
  |exact lA (lA (m:=Builtin.Tuple.tupleExact _) (wpAny_newObj_type (lB (lB ⟨_,rfl,lB h⟩)) htake))
  |exact lA (lA (m:=Builtin.Tuple.tupleExact _) (wpAny_newObj_type (lB ⟨_,rfl,lB h⟩) htake))
end
end HT
namespace L2
open PySem PySem.Spec PyProof.Rows
abbrev TO:=St->Hp->(Option Int->Hp->Prop)->Prop
def PO (X:Cx) (e:Option Expr) (t:TO):Prop :=
 ∀(jP:List 71) (s:Shared) (σ:St) (H:Hp) (Q:Option Int->Hp->Prop),Inv X jP σ H s->t σ H Q ->
  wpAny 67 X.A (evalPart e X.env) (λ u s'=>∃o H',Inv X jP σ H' s'/\IsPart u o/\Q o H') X.xe s
def zLd:TO:=λ Ω H Q=>Q none H
inductive IsI (Q:Option Int->Hp->Prop) (x:V) (H:Hp):Prop
 |mk (i:Int) (h:x = .int i) (q:Q (some i) H)
def tPart (t:TE):TO:=λ σ H Q=>t σ H (IsI Q)
section
variable {X:Cx}{e:Expr}{te:TE}{lo hi:Option Expr}{tl th:TO}{pos p2:Pos}
theorem zAy:PO X none zLd:=by
 intro jP s σ H Q I h;rw[evalPart_none];exact lB ⟨none,H,I,.none,h⟩
theorem zAf (h:PE X e te):PO X (some e) (tPart te):=by
 intro jP s σ H Q I hw;rw[evalPart_some];refine thn (h jP s σ H _ I hw) λ u s1 ⟨x,H1,I1,r1,q1⟩=>?_;obtain⟨i,rfl,q⟩:=q1;obtain⟨t,rfl⟩:=r1;exact⟨some i,H1,I1,.int i t,q⟩
def SlR (X:Cx) (r:V->Option Int->Option Int->Hp->VK->Prop):Prop :=
 ∀(jP:List 71) (s:Shared) (σ:St) (H:Hp) (x:V) (v vl vu:Value) (lo hi:Option Int) (sl:Addr) (Q:VK),Inv X jP σ H s->RelV x v->s.heap.IsSliceOf sl vl vu .none->IsPart vl lo->IsPart vu hi->r x lo hi H Q ->
  ∃T id,typeLookup (.type T) "__getitem__" = pure (some (.builtin id))/\s.TypeIs v T/\wpAny 67 X.A (getItem v (.ref sl)) (EP X jP σ Q) X.xe s
def tSl (r:V->Option Int->Option Int->Hp->VK->Prop) (te:TE) (tl th:TO):TE:=λ σ H Q=>te σ H λ x H1=>tl σ H1 λ l H2=>th σ H2 λ u H3=>r x l u H3 Q
theorem zAh {r:V->Option Int->Option Int->Hp->VK->Prop}(hr:SlR X r) (he:PE X e te) (hl:PO X lo tl) (hu:PO X hi th):PE X (.Subscript e (.Slice lo hi none p2) pos) (tSl r te tl th):=by
 intro jP s σ H Q I h;refine Subscript_ (thn (he jP s σ H _ I h) λ v s1 ⟨x,H1,I1,r1,q1⟩=>?_);refine wpAny_Slice (thn (hl jP s1 σ H1 _ I1 q1) λ vl s2 ⟨l,H2,I2,pl,q2⟩=>thn (hu jP s2 σ H2 _ I2 q2) λ vu s3 ⟨u,H3,I3,pu,q3⟩=>?_);rw[evalPart_none];refine lB ?_;have I4:Inv X jP σ H3 { s3 with heap:=s3.heap.push { cls:=.type "slice", data:=.fields #[vl,vu,.none] } }:=I3.kept (t':=s3.toks) λ b ob q=>lE _ q;obtain⟨T,id,hT,ht,hg⟩:=hr jP { s3 with heap:=s3.heap.push { cls:=.type "slice", data:=.fields #[vl,vu,.none] } } σ H3 x v vl vu l u s3.heap.objs.size Q I4 r1 (Heap.IsSliceOf.new ..) pl pu q3;show wpAny 67 X.A (subscriptTail e (.Slice lo hi none p2) v (.ref s3.heap.objs.size)) (EP X jP σ Q) X.xe { s3 with heap:=s3.heap.push { cls:=.type "slice", data:=.fields #[vl,vu,.none] } };exact tail_any (ops:=[.ref s3.heap.objs.size,v]) ht hT hg (by with_unfolding_all rfl)
noncomputable def cutV (xs:List V) (lo hi:Option Int):List V:=(xs.drop (HT.sIx xs.length 0 lo)).take (HT.sIx xs.length xs.length hi - HT.sIx xs.length 0 lo)
theorem zEh (xs:List V) (lo hi:Option Int):(cutV xs lo hi).length<=xs.length:=by
 unfold cutV;rw[mL,mT]
 lia
def rSlT (K:W.Frag):V->Option Int->Option Int->Hp->VK->Prop:=λ x lo hi H Q=>E2 λ a xs=>A4 (x = .ref a) (SqT K H a xs) (¬(HT.sIx xs.length 0 lo=0/\HT.sIx xs.length xs.length hi=xs.length)) (∀p,H p=none->Q (.ref p) (upd H p (.tup (cutV xs lo hi))))
theorem zMP:SlR X (rSlT X.K):=by
 intro jP s σ H x v vl vu lo hi sl Q I rx hs pl pu h;obtain⟨a,xs,rfl,hx,hw,q⟩:=h;cases rx;obtain⟨its,r,ht,hz⟩:=I.tuple hx;have hlen:its.toArray.size=xs.length:=by rw[mG];exact r.length.symm
 refine⟨"tuple", _,PyProof.Rows.slot_tuple_getitem.lookup,ht.typeIs,?_⟩;refine HT.getItem_tuple_cut ht hs pl pu (by rw[hlen];exact hw) ?_ (by rw[hlen];exact hz);rw[hlen];refine⟨.ref s.heap.objs.size,_,I.laid (t':=s.toks) (o:=.tup (cutV xs lo hi)) (λ b ob q=>lE _ q) (lQ _) ?_,rfl,q _ (I.hok.fresh (lQ _))⟩;exact⟨mF (zEh xs lo hi) hz,_,(r.drop (HT.sIx xs.length 0 lo)).take (HT.sIx xs.length xs.length hi - HT.sIx xs.length 0 lo),IsTup.new _ _⟩
def rCatT (K:W.Frag):R2:=λ x y H Q=>E4 λ a b xs ys=>A8 (x = .ref a) (y = .ref b) (SqT K H a xs) (SqT K H b ys) (xs≠[]) (xs.length+ys.length<=sizeLine) (ys=[]->Q (.ref a) H) (ys≠[]->∀p,H p=none->Q (.ref p) (upd H p (.tup (xs++ys))))
theorem Vals.nil_iff {xs:List V}{us:List Value}(r:Vals xs us):us=[]↔xs=[]:=by
 cases r with
 |nil=>simp
 |cons _ _=>simp
theorem zLs:OpR X (binaryOp .Add) (rCatT X.K):=by
 intro jP s σ H x y v u Q I rx ry h;obtain⟨a,b,xs,ys,rfl,rfl,ha,hb,hx,hz,q1,q2⟩:=h;cases rx;cases ry;obtain⟨its,r1,p1,_⟩:=I.tuple ha;obtain⟨its2,r2,p2,_⟩:=I.tuple hb;refine HT.cat_tup p1 p2 (λ z=>hx (r1.nil_iff.mp z)) (λ z=>⟨.ref a,H,I,rfl,q1 (r2.nil_iff.mp z)⟩) (λ z=>?_) (by rw[←r1.length,←r2.length];exact hz);refine⟨.ref s.heap.objs.size,_,I.laid (t':=s.toks) (o:=.tup (xs++ys)) (λ b ob q=>lE _ q) (lQ _) ?_,rfl,q2 (λ w=>z (r2.nil_iff.mpr w)) _ (I.hok.fresh (lQ _))⟩;exact⟨by rw[mI];exact hz,_,r1.append r2,IsTup.new _ _⟩
end
noncomputable def ixN (n:Nat) (i:Int):Option Nat:=if 0<=i then (if i<n then some i.toNat else none) else if -(n:Int)<=i then some (i+n).toNat else none
noncomputable def atI {α:Type}(xs:List α) (i:Int):Option α:=(ixN xs.length i).bind λ j=>xs[j]?
theorem zJU {n:Nat}{i:Int}{j:Nat}(h:ixN n i=some j):seqIndex? i n=some j/\j<n /\ -(n:Int)<=i/\i<n:=by
 unfold ixN at h
 by_cases h0:0<=i
 ·rw[if_pos h0] at h
  by_cases h1:i<n
  ·rw[if_pos h1] at h
   have e:i.toNat=j:=mD h;exact⟨by rw[seqIndex_of h0 h1,e],by lia,by lia,h1⟩
  ·rw[if_neg h1] at h;cases h
 ·rw[if_neg h0] at h
  by_cases h1 : -(n:Int)<=i
  ·rw[if_pos h1] at h
   have e:(i+n).toNat=j:=mD h;exact⟨by rw[seqIndex_neg 65 h1,e],by lia,h1,by lia⟩
  ·rw[if_neg h1] at h;cases h
theorem zGy {α:Type}{xs:List α}{i:Int}{v:α}(h:atI xs i=some v):∃j,seqIndex? i xs.length=some j/\xs[j]?=some v/\j<xs.length /\ -(xs.length:Int)<=i/\i<xs.length:=by
 unfold atI at h;cases e:ixN xs.length i with
 |none=>rw[e] at h;cases h
 |some j =>
  rw[e] at h;obtain⟨h1,h2,h3,h4⟩:=zJU e;exact⟨j,h1,h,h2,h3,h4⟩
theorem zAc {α:Type}{xs:List α}{j:Nat}{v:α}(h:xs[j]?=some v):atI xs (j:Int)=some v:=by
 have hj:j<xs.length:=(lI.mp h).1
 have e:ixN xs.length (j:Int)=some j:=by
  unfold ixN;rw[if_pos 65,if_pos 65];simp
 unfold atI;rw[e];exact h
def zJ6 (b:Expr):Prop:=∀o i,subscripted b false o i=operate [o,i] (getItem o i)
def IxR (X:Cx) (r:R2):Prop :=
 ∀(value slice:Expr) (jP:List 71) (s:Shared) (σ:St) (H:Hp) (x y:V) (v u:Value) (Q:VK),Inv X jP σ H s->RelV x v->RelV y u->r x y H Q ->
  subscripted slice false v u=operate [v,u] (getItem v u)->wpAny 67 X.A (subscriptTail value slice v u) (EP X jP σ Q) X.xe s
def MtR (X:Cx) (id:String) (r:V->List V->Hp->VK->Prop):Prop :=
 ∀(jP:List 71) (s:Shared) (σ:St) (H:Hp) (x:V) (xs:List V) (v:Value) (us:List Value) (Q:VK),Inv X jP σ H s->RelV x v->Vals xs us->r x xs H Q ->
  wpAny 67 X.A (call (.builtin id) (v::us)) (EP X jP σ Q) X.xe s
section
variable {X:Cx}{a b:Expr}{ta tb:TE}{pos:Pos}
theorem pe_ix {r:R2}(hr:IxR X r) (ha:PE X a ta) (hb:PE X b tb) (hs:zJ6 b):PE X (.Subscript a b pos) (tOp r ta tb):=by
 intro jP s σ H Q I h;exact Subscript_ (binT ha hb I h λ v u s2 x y H2 I2 rx ry q=>hr a b jP s2 σ H2 x y v u Q I2 rx ry q (hs _ _))
inductive rIxL (K:W.Frag) (x y:V) (H:Hp) (Q:VK):Prop
 |mk (p:Addr) (xs:List V) (i:Int) (v:V) (hx:x = .ref p) (hy:y = .int i) (s:SqL K H p xs) (a:atI xs i=some v) (q:Q v H)
inductive rIxT (K:W.Frag) (x y:V) (H:Hp) (Q:VK):Prop
 |mk (p:Addr) (xs:List V) (i:Int) (v:V) (hx:x = .ref p) (hy:y = .int i) (s:SqT K H p xs) (a:atI xs i=some v) (q:Q v H)
def rIxS:R2:=λ x y H Q=>E3 λ z i c=>A5 (x = .str z) (y = .int i) (z.length<=sizeLine) (atI z.cps.toList i=some c) (Q (.str ⟨#[c]⟩) H)
theorem zAd:IxR X (rIxL X.K):=by
 intro value slice jP s σ H x y v u Q I rx ry h hs;obtain⟨p,xs,i,z,rfl,rfl,hq,he,q⟩:=h;cases rx;obtain⟨t,rfl⟩:=ry;obtain⟨its,r,pl,hz⟩:=I.list hq;obtain⟨j,h1,h2,h3,h4,h5⟩:=zGy he;obtain⟨w,ew,rw'⟩:=r.get h2;have hl:=r.length;have hn:=zDb;have fin:EP X jP σ Q w s:=⟨z,H,I,rw',q⟩
 by_cases h0:0<=i
 ·have hj:i.toNat=j:=by
   rw[seqIndex_of h0 h5] at h1;exact mD h1
  exact item_listR pl.isList h0 65 (by rw[hj];simpa using ew) fin hs
 ·have hj:(i+(its.toArray.size:Int)).toNat=j:=by
   rw[seqIndex_neg 65 h4] at h1;rw[mG,←hl];exact mD h1
  exact subscriptTail_builtinR (x:=w) pl.isList.typeIs slot_list_getitem.lookup
   (wpAny_getItem_list_neg (Q:=λ r s'=>r=w/\EP X jP σ Q r s') pl.isList 65 (by rw[mG]<;>lia) 65 (by rw[hj];simpa using ew) ⟨rfl,fin⟩) hs
theorem zAN:IxR X (rIxT X.K):=by
 intro value slice jP s σ H x y v u Q I rx ry h hs;obtain⟨p,xs,i,z,rfl,rfl,hq,he,q⟩:=h;cases rx;obtain⟨t,rfl⟩:=ry;obtain⟨its,r,pl,hz⟩:=I.tuple hq;obtain⟨j,h1,h2,h3,h4,h5⟩:=zGy he;obtain⟨w,ew,rw'⟩:=r.get h2;have hl:=r.length;have hn:=zDb;have fin:EP X jP σ Q w s:=⟨z,H,I,rw',q⟩
 exact subscriptTail_builtinR (x:=w) pl.typeIs slot_tuple_getitem.lookup
  (getItem_tuple (j:=j) (Q:=λ r s'=>r=w/\EP X jP σ Q r s') pl 65 65 (by rw[mG,←hl];exact h1) (by simpa using ew) ⟨rfl,fin⟩) hs
theorem zJT:IxR X rIxS:=by
 intro value slice jP s σ H x y v u Q I rx ry h hs;obtain⟨z,i,c,rfl,rfl,hz,he,q⟩:=h;obtain⟨t,rfl⟩:=rx;obtain⟨t',rfl⟩:=ry;obtain⟨j,h1,h2,h3,h4,h5⟩:=zGy he;have hl:z.cps.toList.length=z.length:=by simp[Str.length]
 rw[hl] at h1 h4 h5;have hn:=zDb
 exact tail_any (typeIs_str s z t) slot_str_getitem.lookup (getItem_str (c:=c) (by
  have e1:decide (i < -(2 ^ 63:Int))=false:=decide_eq_false 65;have e2:decide (i ≥ 2 ^ 63)=false:=decide_eq_false 65;rw[e1,e2,Bool.or_false]) (by rw[h1];simpa using h2) ⟨.str ⟨#[c]⟩,H,I.tok _,72,q⟩) hs
theorem zID (its:List Value) (n j:Nat) (u:Value):Obj.mapSeq (·.setIfInBounds j u) { cls:=.type "list", data:=.seq its.toArray n }={ cls:=.type "list", data:=.seq (its.set j u).toArray n }:=by
 simp[Obj.mapSeq]
theorem Inv.lst {jP:List 71}{σ:St}{H:Hp}{s:Shared}{p:Addr}{xs:List V}(I:Inv X jP σ H s) (h:H p=some (.lst xs)) :
  ∃(its:List Value) (n:Nat),Vals xs its/\s.heap.get? p=some { cls:=.type "list", data:=.seq its.toArray n }/\xs.length<=sizeLine:=by
 obtain⟨z,its,n,r,e⟩:=I.hok p _ h;exact⟨its,n,r,e,z⟩
theorem Inv.lstUpd {jP:List 71}{σ:St}{H:Hp}{s:Shared}{p:Addr}{xs ys:List V}{its its':List Value}{n n':Nat}{f:Obj->Obj}(I:Inv X jP σ H s) (h:H p=some (.lst xs))
  (ho:s.heap.get? p=some { cls:=.type "list", data:=.seq its.toArray n }) (hf:f { cls:=.type "list", data:=.seq its.toArray n }={ cls:=.type "list", data:=.seq its'.toArray n' }) (r:Vals ys its') (hz:ys.length<=sizeLine) (t:Nat) :
  Inv X jP σ (upd H p (.lst ys)) { s with heap:=s.heap.update p f,toks:=t }:=by
 have e:(s.heap.update p f).get? p=some { cls:=.type "list", data:=.seq its'.toArray n' }:=by
  rw[Heap.get?_update_self f ho (by rw[hf]<;>rfl),hf]
 refine I.write (x:=p) (e:=p) (by rw[h];trivial) (.inl rfl) (λ b u hb q=>(Heap.get?_update_other _ _ (Ne.symm hb)).trans q) ⟨_,e⟩ ?_;exact⟨hz,its',n',r,e⟩
def rSetL:V->V->V->Hp->(Hp->Prop)->Prop:=λ o i v H Q=>E4 λ p xs k j=>A5 (o = .ref p) (i = .int k) (H p=some (.lst xs)) (ixN xs.length k=some j) (Q (upd H p (.lst (xs.set j v))))
theorem zD7:PSet X rSetL:=by
 intro jP s σ H o i v ov iv u Q I ro ri rv h;obtain⟨p,xs,k,j,rfl,rfl,hp,hj,q⟩:=h;cases ro;obtain⟨t,rfl⟩:=ri;obtain⟨its,n,r,ho,hz⟩:=I.lst hp;obtain⟨h1,h2,h3,h4⟩:=zJU hj;have hl:=r.length;have hn:=zDb
 have I':Inv X jP σ (upd H p (.lst (xs.set j v))) { s with heap:=s.heap.update p (Obj.mapSeq (·.setIfInBounds j u)) } :=
  I.lstUpd hp ho (zID its n j u) (r.set rv j) (by rw[List.length_set];exact hz) s.toks
 by_cases h0:0<=k
 ·have hk:k.toNat=j:=by
   rw[seqIndex_of h0 h4] at h1;exact mD h1
  exact W.ki_setAt ho h0 65 (by rw[mG,←hl];exact h4) (by rw[hk];exact⟨_,I',q⟩)
 ·have hk:(k+(its.toArray.size:Int)).toNat=j:=by
   rw[seqIndex_neg 65 h3] at h1;rw[mG,←hl];exact mD h1
  exact W.ki_setBack ho 65 (by rw[mG,←hl];exact h3) 65 (by rw[hk];exact⟨_,I',q⟩)
theorem zFs (lo hi:Option Int) (n:Nat):(sliceBounds lo hi none n).1=((HT.sIx n 0 lo:Nat):Int)/\(sliceBounds lo hi none n).2.1=((HT.sIx n n hi:Nat):Int)/\(sliceBounds lo hi none n).2.2=1:=by
 refine⟨?_,?_,rfl⟩
 ·cases lo with
  |none=>simp[sliceBounds,HT.sIx]
  |some i =>
   simp only[sliceBounds,HT.sIx,Option.getD_none,show (1:Int) > 0 by decide,if_true]
   by_cases h:i<0
   ·simp only[h,if_true]<;>lia
   ·simp only[h,if_false]<;>lia
 ·cases hi with
  |none=>simp[sliceBounds,HT.sIx]
  |some i =>
   simp only[sliceBounds,HT.sIx,Option.getD_none,show (1:Int) > 0 by decide,if_true]
   by_cases h:i<0
   ·simp only[h,if_true]<;>lia
   ·simp only[h,if_false]<;>lia
theorem zFI (its:List Value) (lo hi:Option Int):slicePick its.toArray lo hi none=((its.drop (HT.sIx its.length 0 lo)).take (HT.sIx its.length its.length hi - HT.sIx its.length 0 lo)).toArray:=by
 obtain⟨h1,h2,h3⟩:=zFs lo hi its.toArray.size;unfold slicePick;rw[h1,h2,h3];simp only[sliceRange_one,pick_run,mG]<;>rfl
inductive rSlL (K:W.Frag) (x:V) (lo hi:Option Int) (H:Hp) (Q:VK):Prop
 |mk (a:Addr) (xs:List V) (hx:x = .ref a) (s:SqL K H a xs) (q:∀p,H p=none->Q (.ref p) (upd H p (.lst (cutV xs lo hi))))
theorem zBU:SlR X (rSlL X.K):=by
 intro jP s σ H x v vl vu lo hi sl Q I rx hs pl pu h;obtain⟨a,xs,rfl,hx,q⟩:=h;cases rx;obtain⟨its,r,ht,hz⟩:=I.list hx;have hlen:=r.length;refine⟨"list", _,slot_list_getitem.lookup,ht.isList.typeIs,?_⟩;refine wpAny_getItem_list_slice ht.isList hs pl pu .none 59 ?_ (by rw[mG]<;>lia);rw[zFI,←hlen];refine⟨.ref s.heap.objs.size,_,I.laid (t':=s.toks) (o:=.lst (cutV xs lo hi)) (λ b ob q=>lE _ q) (lQ _) ?_,rfl,q _ (I.hok.fresh (lQ _))⟩;exact⟨mF (zEh xs lo hi) hz,_,0,(r.drop (HT.sIx xs.length 0 lo)).take (HT.sIx xs.length xs.length hi - HT.sIx xs.length 0 lo),lG _ rfl⟩
noncomputable def flatV:V->Bool
 |.non=>true
 |.bl _=>true
 |.int _=>true
 |.str _=>true
 |_=>false
noncomputable def eqV:V->V->Bool
 |.non,.non=>true
 |.bl a,.bl b=>a == b
 |.bl a,.int b=>(if a then 1 else 0) == b
 |.int a,.bl b=>a == (if b then 1 else 0)
 |.int a,.int b=>a == b
 |.str a,.str b=>a == b
 |_,_=>false
theorem zMv {A:Around}{s:Shared}{y x:V}{u v:Value}(ry:RelV y u) (rx:RelV x v) (fy:flatV y=true) (fx:flatV x=true):SeqAt.EqAt A s u v (eqV y x):=by
 cases y with
 |non =>
  cases ry;cases x with
  |non=>cases rx;exact SeqAt.EqAt.same _
  |bl b=>cases rx;exact SeqAt.EqAt.none_bool b
  |int b=>obtain⟨t,rfl⟩:=rx;exact SeqAt.EqAt.none_int b t
  |str b=>obtain⟨t,rfl⟩:=rx;exact SeqAt.EqAt.none_str b t
  |_=>exact absurd (show false=true from fx) lW
 |bl a =>
  cases ry;cases x with
  |non=>cases rx;exact SeqAt.EqAt.bool_none a
  |bl b=>cases rx;exact SeqAt.EqAt.bool_bool a b
  |int b=>obtain⟨t,rfl⟩:=rx;exact SeqAt.EqAt.bool_int a b t
  |str b=>obtain⟨t,rfl⟩:=rx;exact SeqAt.EqAt.bool_str a b t
  |_=>exact absurd (show false=true from fx) lW
 |int a =>
  obtain⟨t',rfl⟩:=ry;cases x with
  |non=>cases rx;exact SeqAt.EqAt.int_none a t'
  |bl b=>cases rx;exact SeqAt.EqAt.int_bool a t' b
  |int b=>obtain⟨t,rfl⟩:=rx;exact SeqAt.EqAt.int_int a t' b t
  |str b=>obtain⟨t,rfl⟩:=rx;exact SeqAt.EqAt.int_str a t' b t
  |_=>exact absurd (show false=true from fx) lW
 |str a =>
  obtain⟨t',rfl⟩:=ry;cases x with
  |non=>cases rx;exact SeqAt.EqAt.str_none a t'
  |bl b=>cases rx;exact SeqAt.EqAt.str_bool a t' b
  |int b=>obtain⟨t,rfl⟩:=rx;exact SeqAt.EqAt.str_int a t' b t
  |str b=>obtain⟨t,rfl⟩:=rx;exact SeqAt.EqAt.str_str a t' b t
  |_=>exact absurd (show false=true from fx) lW
 |_=>exact absurd (show false=true from fy) lW
noncomputable def eqU (x:V) (u:Value):Bool:=match u with
 |.none=>eqV .non x
 |.bool b=>eqV (.bl b) x
 |.int i _=>eqV (.int i) x
 |.str z _=>eqV (.str z) x
 |_=>false
theorem zLT {x y:V}{u:Value}(r:RelV y u) (f:flatV y=true):eqU x u=eqV y x:=by
 cases y with
 |non=>cases r;rfl
 |bl b=>cases r;rfl
 |int i=>obtain⟨t,rfl⟩:=r;rfl
 |str z=>obtain⟨t,rfl⟩:=r;rfl
 |_=>exact absurd (show false=true from f) lW
theorem zEm {x:V}{xs:List V}{us:List Value}(h:Vals xs us):xs.all flatV=true->us.any (eqU x)=xs.any λ y=>eqV y x:=by
 induction h with
 |nil=>exact λ U=>rfl
 |cons r t ih=>intro f;rw[List.all_cons,Bool.and_eq_true] at f;rw[List.any_cons,List.any_cons,zLT r f.1,ih f.2]
theorem zDZ {A:Around}{s:Shared}{x:V}{v:Value}(rx:RelV x v) (fx:flatV x=true){xs:List V}{us:List Value}(z:Vals xs us):xs.all flatV=true->∀u∈us,SeqAt.EqAt A s u v (eqU x u):=by
 induction z with
 |nil=>exact λ U u hu=>nomatch hu
 |cons r t ih =>
  intro f u' hu;rw[List.all_cons,Bool.and_eq_true] at f;rcases nK.mp hu with rfl|hu
  ·rw[zLT r f.1];exact zMv r rx f.1 fx
  ·exact ih f.2 u' hu
noncomputable def inV (x:V) (xs:List V):Bool:=xs.any λ y=>eqV y x
inductive rIn (K:W.Frag) (neg:Bool) (x y:V) (H:Hp) (Q:VK):Prop
 |mk (p:Addr) (xs:List V) (hy:y = .ref p) (s:SqL K H p xs\/SqT K H p xs) (f:flatV x=true) (g:xs.all flatV=true) (q:Q (.bl (if neg then !inV x xs else inV x xs)) H)
theorem zBy:OpR X (compareOp .In) (rIn X.K false):=by
 intro jP s σ H x y v u Q I rx ry h;obtain⟨p,xs,rfl,hq,fx,fs,q⟩:=h;cases ry;rcases hq with hq|hq
 ·obtain⟨its,r,pl,hz⟩:=I.list hq
  refine SeqAt.in_listAt (eqU x) pl.isList (λ w hw=>zDZ rx fx r fs w (by simpa using hw)) ⟨.bl _,H,I,rfl,?_⟩;rw[show its.toArray.any (eqU x)=its.any (eqU x) by simp,zEm r fs];exact q
 ·obtain⟨its,r,pl,hz⟩:=I.tuple hq
  refine SeqAt.in_tupleAt (eqU x) pl (λ w hw=>zDZ rx fx r fs w (by simpa using hw)) ⟨.bl _,H,I,rfl,?_⟩;rw[show its.toArray.any (eqU x)=its.any (eqU x) by simp,zEm r fs];exact q
theorem zB3:OpR X (compareOp .NotIn) (rIn X.K true):=by
 intro jP s σ H x y v u Q I rx ry h;obtain⟨p,xs,rfl,hq,fx,fs,q⟩:=h;cases ry;rcases hq with hq|hq
 ·obtain⟨its,r,pl,hz⟩:=I.list hq
  refine SeqAt.notIn_listAt (eqU x) pl.isList (λ w hw=>zDZ rx fx r fs w (by simpa using hw)) ⟨.bl _,H,I,rfl,?_⟩;rw[show its.toArray.any (eqU x)=its.any (eqU x) by simp,zEm r fs];exact q
 ·obtain⟨its,r,pl,hz⟩:=I.tuple hq
  refine SeqAt.notIn_tupleAt (eqU x) pl (λ w hw=>zDZ rx fx r fs w (by simpa using hw)) ⟨.bl _,H,I,rfl,?_⟩;rw[show its.toArray.any (eqU x)=its.any (eqU x) by simp,zEm r fs];exact q
inductive rLen1 (K:W.Frag) (xs:List V) (H:Hp) (Q:VK):Prop
 |mk (p:Addr) (ys:List V) (hx:xs=[.ref p]) (s:SqL K H p ys\/SqT K H p ys) (q:Q (.int ys.length) H)
theorem zD5:CallR X (.builtin "len") (rLen1 X.K):=by
 intro jP s σ H xs us Q I r h;obtain⟨p,ys,rfl,hq,q⟩:=h;obtain⟨u,rfl,rx⟩:=vals1 r;cases rx;have hn:=zDb;rcases hq with hq|hq
 ·obtain⟨its,r',pl,hz⟩:=I.list hq
  have hlen:=r'.length;exact Calls.call_len_list pl.isList (by simp only[mG]<;>lia) ⟨.int ys.length,H,I.tok _,⟨s.toks+1,by rw[mG,hlen]⟩,q⟩
 ·obtain⟨its,r',pl,hz⟩:=I.tuple hq
  have hlen:=r'.length;exact len_tuple pl (by simp only[mG]<;>lia) ⟨.int ys.length,H,I.tok _,⟨s.toks+1,by rw[mG,hlen]⟩,q⟩
theorem cL {X:Cx}{e:Expr}{es:List Expr}{t:TA}{p pos:Pos}(hm:X.mg "len"=none)(ha:PA X (e::es) t)(hg:Gl X "len":=by rfl)(he:starEach (e::es) X.env=(false,eval e X.env)::starEach es X.env:=by rfl)(hpl:(backTo pos (starEach es X.env)).any (·.1)=false:=by rfl):PE X (.Call (.Name "len" p) (e::es) [] pos) (tCB (rLen1 X.K) t):=zA2 zD5 hg hm rL ha 66 66 he hpl
theorem zD4:CallR X (.builtin "len") (λ xs H Q=>∃z,A3 (xs=[.str z]) (z.length<=sizeLine) (Q (.int z.length) H)):=by
 intro jP s σ H xs us Q I r h;obtain⟨z,rfl,hz,q⟩:=h;obtain⟨u,rfl,t,rfl⟩:=vals1 r;have hn:=zDb;exact len_str 65 ⟨.int z.length,H,I.tok _,72,q⟩
theorem zA3:CallR X (.type "tuple") (λ xs H Q=>E2 λ p ys=>xs=[.ref p]/\((SqL X.K H p ys/\∀l,H l=none->Q (.ref l) (upd H l (.tup ys)))\/(SqT X.K H p ys/\Q (.ref p) H))):=by
 intro jP s σ H xs us Q I r h;obtain⟨p,ys,rfl,h⟩:=h;obtain⟨u,rfl,rx⟩:=vals1 r;cases rx;rcases h with ⟨hq,q⟩|⟨hq,q⟩
 ·obtain⟨its,r',pl,hz⟩:=I.list hq
  have hlen:=r'.length;refine call_tuple_list pl.isList (λ h' kp=>?_) (by simp only[mG]<;>lia);have I1:Inv X jP σ H { s with heap:=h' }:=I.kept (t':=s.toks) kp
  have I2:Inv X jP σ (upd H h'.objs.size (.tup ys)) { s with heap:=h'.push { cls:=.type "tuple", data:=.seq its.toArray } } :=
   I1.laid (t':=s.toks) (λ b o e=>lE _ e) (lQ _) (show ObjOk X.prog X.w _ _ _ (.tup ys) from⟨hz,its,r',IsTup.new _ _⟩)
  exact⟨.ref h'.objs.size,_,I2,rfl,q _ (I1.hok.fresh (lQ _))⟩
 ·obtain⟨its,r',pl,hz⟩:=I.tuple hq
  exact call_tuple_same pl ⟨.ref p,H,I,rfl,q⟩
def tyV (K:W.Frag) (T:String) (x:V) (H:Hp):Prop:=match x with
 |.str _=>T = "str"
 |.int _=>T = "int"
 |.ref p=>(T = "list" /\ ∃xs,SqL K H p xs)\/(T = "tuple" /\ ∃o,K.lookup p=some o/\o.cls = .type "tuple" /\ o.dict=none) \/
   (T = "dict" /\ ((∃kvs,H p=some 92)\/∃kvs,H p=some (.dT kvs)))\/(T = "set" /\ ∃S n,H p=some (.set S n))
 |_=>False
theorem zK8 {jP:List 71}{σ:St}{H:Hp}{s:Shared}{T:String}{x:V}{v:Value}(I:Inv X jP σ H s) (r:RelV x v) (ty:tyV X.K T x H) :
  s.TypeIs v T/\∀a,v = .ref a->∃ob,s.heap.get? a=some ob/\ob.dict=none:=by
 cases x with
 |str z =>
  obtain⟨t,rfl⟩:=r;cases (show T = "str" from ty);exact⟨typeIs_str s z t,λ Ω e=>nomatch e⟩
 |int i =>
  obtain⟨t,rfl⟩:=r;cases (show T = "int" from ty);exact⟨typeIs_int s i t,λ Ω e=>nomatch e⟩
 |ref p =>
  cases r;rcases ty with ⟨rfl,xs,hq⟩|⟨rfl,o,hk,hc,hd⟩|⟨rfl,hk⟩|⟨rfl,S,n,hk⟩
  ·obtain⟨its,_,pl,_⟩:=I.list hq
   refine⟨pl.isList.typeIs,λ a e=>?_⟩;cases e;obtain⟨o,n,e,c,hd,_⟩:=pl;exact⟨o,e,hd⟩
  ·refine⟨⟨o,I.kIn p o hk,hc⟩,λ a e=>?_⟩
   cases e;exact⟨o,I.kIn _ o hk,hd⟩
  ·have z:∃o,s.heap.get? p=some o/\o.ExactDict:=by
    rcases hk with ⟨kvs,hk⟩|⟨kvs,hk⟩
    ·obtain⟨_,_,_,_,o,_,_,e,ex,_⟩:=I.hok p _ hk
     exact⟨o,e,ex⟩
    ·obtain⟨_,_,_,_,o,_,_,e,ex,_⟩:=I.hok p _ hk
     exact⟨o,e,ex⟩
   obtain⟨o,e,ex⟩:=z;refine⟨⟨o,e,ex.1⟩,λ a e2=>?_⟩;cases e2;exact⟨o,e,ex.2.1⟩
  ·obtain⟨o,_,_,_,e,ex,_⟩:=I.hok p _ hk
   refine⟨⟨o,e,ex.1⟩,λ a e2=>?_⟩;cases e2;exact⟨o,e,ex.2.1⟩
 |_=>exact False.elim ty
def tBM0 (K:W.Frag) (T:String) (r:V->List V->Hp->VK->Prop) (to:TE):TE:=λ σ H Q=>to σ H λ x H1=>tyV K T x H1/\r x [] H1 Q
def tBM (K:W.Frag) (T:String) (r:V->List V->Hp->VK->Prop) (to:TE) (t:TA):TE:=λ σ H Q=>to σ H λ x H1=>tyV K T x H1/\t σ H1 λ xs H2=>r x xs H2 Q
variable {o e:Expr}{es:List Expr}{to:TE}{t:TA}{name:Str}{apos cpos:Pos}{T id:String}{r:V->List V->Hp->VK->Prop}
theorem zIq (pa:PlainAttrs T) (slot:Slot T name id) (hty:typeOf (.builtin id)=pure (.type "method_descriptor")) (hm:MtR X id r) (ho:PE X o to)
  (hbase:attributeBase o name X.env (eval o X.env)=eval o X.env:=by rfl) (hline:(apos.endLine == cpos.line)=true:=by rfl):PE X (.Call (.Attribute o name apos) [] [] cpos) (tBM0 X.K T r to):=by
 intro jP s σ H Q I h;refine wpAny_Call_method0_late hbase hline (thn (ho jP s σ H _ I h) λ v s1 ⟨x,H1,I1,r1,ty,q1⟩=>?_);obtain⟨h1,h2⟩:=zK8 I1 r1 ty;exact⟨T,id,pa,slot,hty,h1,h2,Calls.callWith_builtin rfl (PySem.evalArgs_none (hm jP s1 σ H1 x [] v [] Q I1 r1 .nil q1))⟩
theorem pe_bm (pa:PlainAttrs T) (slot:Slot T name id) (hty:typeOf (.builtin id)=pure (.type "method_descriptor")) (hm:MtR X id r) (ho:PE X o to) (ha:PA X (e::es) t)
  (hbase:attributeBase o name X.env (eval o X.env)=eval o X.env:=by rfl)
  (hfew:((backTo cpos (starEach (e::es) X.env)).all (λ x=>!x.1) && (backToKw cpos (keywordEach [] X.env)).all (λ x=>x.1.isSome)
   && decide ((e::es).length+([]:List Keyword).length+(if ([]:List Keyword).isEmpty then 0 else 1)<30))=true:=by rfl)
  (hline:(apos.endLine == cpos.line)=true:=by rfl) (hs:starEach (e::es) X.env=(false,eval e X.env)::starEach es X.env:=by rfl) (hplain:(backTo cpos (starEach es X.env)).any (·.1)=false:=by rfl) :
  PE X (.Call (.Attribute o name apos) (e::es) [] cpos) (tBM X.K T r to t):=by
 intro jP s σ H Q I h;refine wpAny_Call_method_late hbase hfew hline rfl (thn (ho jP s σ H _ I h) λ v s1 ⟨x,H1,I1,r1,ty,q1⟩=>?_);obtain⟨h1,h2⟩:=zK8 I1 r1 ty;refine⟨T,id,pa,slot,hty,h1,h2,?_⟩;have hA:=ha cpos jP s1 σ H1 _ I1 q1;rw[hs] at hA ⊢;refine Calls.callWith_builtin (by show (false || (backTo cpos (starEach es X.env)).any (·.1))=false;rw[hplain]<;>rfl) (Calls.evalArgs_plain ?_);exact thn hA λ us s2 ⟨vs,H2,I2,r2,q2⟩=>hm jP s2 σ H2 x vs v us Q I2 r1 r2 q2
end
def MtM (X:Cx) (id:String) (r:V->List V->Hp->VK->Prop):Prop :=
 ∀(jP:List 71) (s:Shared) (σ:St) (H:Hp) (x:V) (xs:List V) (v:Value) (us:List Value) (Q:VK),Inv X jP σ H s->RelV x v->Vals xs us->r x xs H Q ->
  wpAny 67 X.A (call (.builtin id) (v::us)) (EP X jP σ Q) X.xe s
theorem Vals.one {x:V}{us:List Value}(h:Vals [x] us):∃u,us=[u]/\RelV x u:=by
 cases h with|cons r t=>cases t;exact⟨_,rfl,r⟩
theorem Vals.zero:∀{us:List Value},Vals [] us->us=[]
 |_,.nil=>rfl
theorem Vals.dropLast {xs:List V}{us:List Value}(h:Vals xs us):Vals xs.dropLast us.dropLast:=by
 induction h with
 |nil=>exact .nil
 |cons r t ih =>
  cases t with
  |nil=>exact .nil
  |cons q t'=>exact .cons r ih
theorem zIH {α:Type}(l:List α):l.eraseIdx (l.length - 1)=l.dropLast:=by
 induction l with
 |nil=>rfl
 |cons a r ih =>
  cases r with
  |nil=>rfl
  |cons b r =>
   have e:(a::b::r).length - 1=((b::r).length - 1)+1:=by
    have h1:(a::b::r).length=r.length+2:=rfl;have h2:(b::r).length=r.length+1:=rfl
    lia
   rw[e,List.eraseIdx_cons_succ,ih]
   all_goals rfl
section
variable {X:Cx}{jP:List (Addr × Obj)}{σ:St}{H:Hp}{s:Shared}{l b:Addr}{xs ys zs:List V}
theorem Inv.lset {its its':List Value}{n:Nat}{f:Array Value->Array Value}{t':Nat}(I:Inv X jP σ H s) (hH:H l=some (.lst xs))
  (e:s.heap.get? l=some { cls:=.type "list", data:=.seq its.toArray n }) (hf:f its.toArray=its'.toArray) (hv:Vals ys its') (hz:ys.length<=sizeLine) :
  Inv X jP σ (upd H l (.lst ys)) { s with heap:=s.heap.update l (Obj.mapSeq f),toks:=t' }:=by
 have q:=PySem.IsL.update e f;rw[hf] at q;refine I.write (x:=l) (e:=l) (by rw[hH];exact trivial) (.inl rfl) (λ b' u hb hu=>(Heap.get?_update_other s.heap (Obj.mapSeq f) (Ne.symm hb)).trans hu) ⟨_,q⟩ ?_;exact⟨hz,its',_,hv,q⟩
theorem Inv.lnew {its:List Value}{t':Nat}(I:Inv X jP σ H s) (hv:Vals ys its) (hz:ys.length<=sizeLine) :
  Inv X jP σ (upd H s.heap.objs.size (.lst ys)) { s with heap:=s.heap.push { cls:=.type "list", data:=.seq its.toArray },toks:=t' } :=
 I.laid (λ Ω Ω q=>lE _ q) (lQ _) ⟨hz,its,0,hv,lG _ rfl⟩
theorem Inv.fresh (I:Inv X jP σ H s):H s.heap.objs.size=none:=I.hok.fresh (lQ _)
theorem Inv.lstM (I:Inv X jP σ H s) (hH:H l=some (.lst xs)):xs.length<=sizeLine/\∃(its:List Value) (n:Nat),Vals xs its/\xs.length=its.length/\s.heap.get? l=some { cls:=.type "list", data:=.seq its.toArray n }:=by
 obtain⟨z,its,n,r,e⟩:=I.hok l _ hH;exact⟨z,its,n,r,r.length,e⟩
theorem zHP {n:Nat}(h:n<=sizeLine):Builtin.List.listTooLong n=false:=by
 unfold Builtin.List.listTooLong;exact decide_eq_false 65
end
section
variable {X:Cx}
inductive zIi (x:V) (vs:List V) (H:Hp) (Q:VK):Prop
 |mk (l:Addr) (xs:List V) (y:V) (hx:x = .ref l) (hv:vs=[y]) (e:H l=some (.lst xs)) (z:xs.length<sizeLine) (q:Q .non (upd H l (.lst (xs++[y]))))
theorem zEY:MtM X "list.append" zIi:=by
 intro jP s σ H x vs v us Q I rx rv h;obtain⟨l,xs,y,rfl,rfl,hH,hz,q⟩:=h;cases rx;obtain⟨u,rfl,ru⟩:=rv.one;obtain⟨z,its,n,r,hl,e⟩:=I.lstM hH;refine call_meets F.slot_list_append ⟨_,e,rfl⟩ F.entry_list_append (F.args_list_append_2 _ _) (PySem.list_append l its.toArray n u (by rw[mG];lia)) ⟨e,?_⟩;refine⟨.non,_,I.lset (its':=its++[u]) hH e 59 (r.append (.cons ru .nil)) ?_,rfl,q⟩;rw[mI,List.length_singleton]
 lia
theorem pAp {X:Cx}{o e:Expr}{to te:TE}{apos cpos pos:Pos}(ho:PE X o to)(he:PE X e te)(h1:attributeBase o "append" X.env (eval o X.env)=eval o X.env:=by rfl)(h2:((backTo cpos (starEach [e] X.env)).all (λ x=>!x.1)&&(backToKw cpos (keywordEach [] X.env)).all (λ x=>x.1.isSome)&&decide ([e].length+([]:List Keyword).length+(if ([]:List Keyword).isEmpty then 0 else 1)<30))=true:=by rfl)(h3:(apos.endLine==cpos.line)=true:=by rfl)(h4:starEach [e] X.env=(false,eval e X.env)::starEach [] X.env:=by rfl)(h5:(backTo cpos (starEach [] X.env)).any (·.1)=false:=by rfl)(h6:swapsWith (.Call (.Attribute o "append" apos) [e] [] cpos) none pos.line X.env=pure false:=by rfl):PS X (.Expr (.Call (.Attribute o "append" apos) [e] [] cpos) pos) (tDrop (tBM X.K "list" zIi to (tCons te tNil))):=zES (pe_bm rM PySem.F.slot_list_append PySem.F.type_list_append zEY ho (zAA he zAD h4) h1 h2 h3 h4 h5) h6
def zLh:V->List V->Hp->VK->Prop:=λ x vs H Q=>E4 λ l b xs zs=>A6 (x = .ref l) (vs=[.ref b]) (H l=some (.lst xs)) (H b=some (.lst zs)) (xs.length+zs.length<=sizeLine) (Q .non (upd H l (.lst (xs++zs))))
theorem zJE:MtM X "list.extend" zLh:=by
 intro jP s σ H x vs v us Q I rx rv h;obtain⟨l,b,xs,zs,rfl,rfl,hH,hB,hz,q⟩:=h;cases rx;obtain⟨u,rfl,ru⟩:=rv.one;cases ru;obtain⟨z,its,n,r,hl,e⟩:=I.lstM hH;obtain⟨z2,its2,n2,r2,hl2,e2⟩:=I.lstM hB;have hsz:its.toArray.size+its2.toArray.size<=sizeLine:=by rw[mG,mG];lia
 have hlong:¬(!its.toArray.isEmpty && Builtin.List.listTooLong (its.toArray.size+its2.toArray.size))=true:=by
  rw[zHP hsz,Bool.and_false];exact lW
 refine call_meets F.slot_list_extend ⟨_,e,rfl⟩ F.entry_list_extend (F.args_list_extend_2 _ _)
  (AutoSeq1.list_extend_list_list_0 l its.toArray n b its2.toArray n2 hlong (by rw[mG];lia) 65) ⟨e,e2,?_⟩
 refine⟨.non,_,I.lset (its':=its++its2) hH e 59 (r.append r2) ?_,rfl,q⟩;rw[mI]
 lia
def rPop:V->List V->Hp->VK->Prop:=λ x vs H Q=>E3 λ l xs y=>A5 (x = .ref l) (vs=[]) (H l=some (.lst xs)) (xs[xs.length - 1]?=some y) (Q y (upd H l (.lst xs.dropLast)))
theorem zLL:MtM X "list.pop" rPop:=by
 intro jP s σ H x vs v us Q I rx rv h;obtain⟨l,xs,y,rfl,rfl,hH,hy,q⟩:=h;cases rx;have hus:=rv.zero;subst hus;obtain⟨z,its,n,r,hl,e⟩:=I.lstM hH;obtain⟨u,hu,ru⟩:=r.get hy
 have hy':its.toArray[its.toArray.size - 1]?=some u:=by
  show its.toArray[its.length - 1]?=some u;rw[←Array.getElem?_toList,←hl];exact hu
 refine call_meets F.slot_list_pop ⟨_,e,rfl⟩ F.entry_list_pop (F.args_list_pop_1 _) (MeetsSeq.list_pop_last l its.toArray n u hy' (by rw[mG];lia)) ⟨e,?_⟩;refine⟨y,_,I.lset (its':=its.dropLast) hH e ?_ r.dropLast ?_,ru,q⟩
 ·show its.toArray.eraseIdxIfInBounds (its.toArray.size - 1)=its.dropLast.toArray
  rw[mG,List.eraseIdxIfInBounds_toArray,zIH]
 ·rw[List.length_dropLast]
  lia
inductive rCat (x y:V) (H:Hp) (Q:VK):Prop
 |mk (l b:Addr) (xs zs:List V) (hx:x = .ref l) (hy:y = .ref b) (e:H l=some (.lst xs)) (e2:H b=some (.lst zs)) (z:xs.length+zs.length<=sizeLine) (q:∀p,H p=none->Q (.ref p) (upd H p (.lst (xs++zs))))
theorem zHO:OpR X (binaryOp .Add) rCat:=by
 intro jP s σ H x y v u Q I rx ry h;obtain⟨l,b,xs,zs,rfl,rfl,hH,hB,hz,q⟩:=h;cases rx;cases ry;obtain⟨z,its,n,r,hl,e⟩:=I.lstM hH;obtain⟨z2,its2,n2,r2,hl2,e2⟩:=I.lstM hB;refine PySem.P.add_list e e2 ?_ (by rw[mG,mG];lia);have ea:its.toArray++its2.toArray=(its++its2).toArray:=by simp
 rw[ea];exact⟨.ref _,_,I.lnew (t':=s.toks) (r.append r2) (by rw[mI];lia),rfl,q _ I.fresh⟩
end
section
variable {κ:Type} [DecidableEq κ]
noncomputable def valV (kvs:List (κ × V)) (k:κ):Option V:=(kvs.find? λ kv=>decide (kv.1=k)).map (·.2)
noncomputable def putK (kvs:List (κ × V)) (k:κ) (v:V):List (κ × V) :=
 if (kvs.any λ kv=>decide (kv.1=k))=true then kvs.map (λ kv=>if kv.1=k then (kv.1,v) else kv) else kvs++[(k,v)]
theorem zA0 {p:κ × V}{r:List (κ × V)}{k:κ}(e:p.1=k):valV (p::r) k=some p.2:=by simp[valV,List.find?_cons,e]
theorem zA1 {p:κ × V}{r:List (κ × V)}{k:κ}(e:¬p.1=k):valV (p::r) k=valV r k:=by simp[valV,List.find?_cons,e]
theorem zDP (k:κ):∀kvs:List (κ × V),(kvs.any λ kv=>decide (kv.1=k))=(valV kvs k).isSome
 |[]=>rfl
 |p::r=>by
  rw[List.any_cons]
  by_cases e:p.1=k
  ·simp only[zA0 e,decide_eq_true e,Bool.true_or,Option.isSome_some]
  ·rw[zA1 e,decide_eq_false e,Bool.false_or];exact zDP k r
theorem zG5 (k j:κ) (y:V):∀kvs:List (κ × V),valV (kvs.map λ kv=>if kv.1=k then (kv.1,y) else kv) j=(valV kvs j).map λ x=>if j=k then y else x
 |[]=>rfl
 |p::r=>by
  have ih:=zG5 k j y r;rw[mJ]
  by_cases h:p.1=k
  ·rw[if_pos h]
   by_cases e:p.1=j
   ·rw[zA0 (p:=(p.1,y)) e,zA0 e,Option.map_some,if_pos (e.symm.trans h)]
   ·rw[zA1 (p:=(p.1,y)) e,zA1 e,ih]
  ·rw[if_neg h]
   by_cases e:p.1=j
   ·rw[zA0 (p:=p) e,zA0 e,Option.map_some,if_neg (λ z=>h (e.trans z))]
   ·rw[zA1 (p:=p) e,zA1 e,ih]
theorem zFh (k j:κ) (y:V):∀kvs:List (κ × V),valV kvs k=none->valV (kvs++[(k,y)]) j=if j=k then some y else valV kvs j
 |[],_=>by
  by_cases e:k=j
  ·rw[if_pos e.symm];exact zA0 (p:=(k,y)) e
  ·rw[if_neg (λ z=>e z.symm)];exact zA1 (p:=(k,y)) e
 |p::r,hn=>by
  rw[List.cons_append];have hk:¬p.1=k:=λ z=>by rw[zA0 z] at hn;cases hn
  rw[zA1 hk] at hn;have ih:=zFh k j y r hn
  by_cases e:p.1=j
  ·rw[zA0 e,zA0 e,if_neg (λ z=>hk (e.trans z))]
  ·rw[zA1 e,zA1 e,ih]
theorem zBc (kvs:List (κ × V)) (k j:κ) (y:V):valV (putK kvs k y) j=if j=k then some y else valV kvs j:=by
 unfold putK
 by_cases a:(kvs.any λ kv=>decide (kv.1=k))=true
 ·rw[if_pos a,zG5]
  rw[zDP] at a
  by_cases e:j=k
  ·obtain⟨x,hx⟩:=Option.isSome_iff_exists.mp a
   rw[if_pos e,e,hx,Option.map_some,if_pos rfl]
  ·rw[if_neg e]
   cases valV kvs j with
   |none=>rfl
   |some x=>rw[Option.map_some,if_neg e]
 ·rw[if_neg a]
  refine zFh k j y kvs ?_;rw[zDP] at a;cases q:valV kvs k with
  |none=>rfl
  |some x=>rw[q] at a;exact(a rfl).elim
theorem zAx (kvs:List (κ × V)) (k:κ) (v:V):(putK kvs k v).length<=kvs.length+1:=by
 unfold putK;split
 ·rw[lC];lia
 ·rw[mI,mK,List.length_nil];lia
theorem zFM {kvs:List (κ × V)}{k:κ}(v:V) (h:valV kvs k=none):putK kvs k v=kvs++[(k,v)]:=by
 unfold putK;rw[zDP,h];exact if_neg 66
theorem RelO.isSome_eq {o:Option V}{u:Option Value}(r:RelO o u):o.isSome=u.isSome:=by
 cases o with
 |none=>cases u with
  |none=>rfl
  |some _=>exact(show False from r).elim
 |some _=>cases u with
  |none=>exact(show False from r).elim
  |some _=>rfl
theorem RelO.getD {o:Option V}{u:Option Value}{d:V}{d':Value}(r:RelO o u) (rd:RelV d d'):RelV (o.getD d) (u.getD d'):=by
 cases o with
 |none=>cases u with
  |none=>exact rd
  |some _=>exact(show False from r).elim
 |some _=>cases u with
  |none=>exact(show False from r).elim
  |some _=>exact r
theorem KV.val {kvs:List (κ × V)}{vs:List (κ × Value)}(r:KV kvs vs) (k:κ):RelO (valV kvs k) (valueAt vs k):=by
 unfold KV at r
 induction r with
 |nil=>exact True.intro
 | @cons p q ps qs h t ih =>
  obtain⟨h1,h2⟩:=h
  by_cases e:p.1=k
  ·have e':q.1=k:=h1.symm.trans e
   have b:valueAt (q::qs) k=some q.2:=by simp[valueAt,List.find?_cons,e']
   rw[zA0 e,b];exact h2
  ·have e':¬q.1=k:=λ z=>e (h1.trans z)
   have b:valueAt (q::qs) k=valueAt qs k:=by simp[valueAt,List.find?_cons,e']
   rw[zA1 e,b];exact ih
theorem KV.any {kvs:List (κ × V)}{vs:List (κ × Value)}(r:KV kvs vs) (k:κ):(kvs.any λ kv=>decide (kv.1=k))=vs.any λ kv=>decide (kv.1=k):=by
 unfold KV at r
 induction r with
 |nil=>rfl
 |cons h t ih=>rw[List.any_cons,List.any_cons,ih,h.1]
theorem KV.repl {kvs:List (κ × V)}{vs:List (κ × Value)}(r:KV kvs vs) (k:κ) {y:V}{u:Value}(ry:RelV y u) :
  KV (kvs.map λ kv=>if kv.1=k then (kv.1,y) else kv) (vs.map λ kv=>if kv.1=k then (kv.1,u) else kv):=by
 unfold KV at r ⊢
 induction r with
 |nil=>exact .nil
 | @cons p q ps qs h t ih =>
  rw[mJ,mJ];refine .cons ?_ ih;obtain⟨h1,h2⟩:=h
  by_cases e:p.1=k
  ·rw[if_pos e,if_pos (h1.symm.trans e)];exact⟨h1,ry⟩
  ·rw[if_neg e,if_neg (λ z=>e (h1.trans z))];exact⟨h1,h2⟩
theorem KV.put {kvs:List (κ × V)}{vs:List (κ × Value)}(r:KV kvs vs) (k:κ) {y:V}{u:Value}(ry:RelV y u):KV (putK kvs k y) (stored vs k u):=by
 unfold putK stored;rw[r.any k]
 by_cases e:(vs.any λ kv=>decide (kv.1=k))=true
 ·rw[if_pos e,if_pos e];exact r.repl k ry
 ·rw[if_neg e,if_neg e];exact Paired.snoc r ⟨rfl,ry⟩
theorem KV.length {kvs:List (κ × V)}{vs:List (κ × Value)}(r:KV kvs vs):kvs.length=vs.length:=Paired.length r
end
theorem kV_is {P:Program}{w:World}{k:Key}{u:Value}(r:RelV (kV k) u):(zAi P w).is k u=true:=by
 cases k with
 |inl i=>obtain⟨t,e⟩:=(show ∃t,u=Value.int i t from r);subst e;exact zGn P w i t
 |inr x=>obtain⟨t,e⟩:=(show ∃t,u=Value.str x t from r);subst e;exact zGm P w x t
theorem zF9 {P:Program}{w:World}:∀{ks:List Key}{us:List Value},Vals (ks.map kV) us->ItemsAre (zAi P w) ks us
 |[],_,r=>by rw[List.map_nil] at r;cases r;exact .nil
 |k::ks,_,r=>by
  rw[mJ] at r;cases r with
  |cons h t=>exact .cons (kV_is h) (zF9 t)
abbrev KT (H:Hp):List (List Key × V)->List (List Key × Addr × Value)->Prop:=Paired λ p q=>p.1=q.1/\H q.2.1=some (.tup (p.1.map kV))/\RelV p.2 q.2.2
theorem KT.val {H:Hp}{kvs:List (List Key × V)}{xs:List (List Key × Addr × Value)}(r:KT H kvs xs) (k:List Key):RelO (valV kvs k) ((atKey xs k).map (·.2)):=by
 induction r with
 |nil=>exact True.intro
 | @cons p q ps qs h t ih =>
  obtain⟨h1,_,h2⟩:=h
  by_cases e:p.1=k
  ·have e':q.1=k:=h1.symm.trans e
   have b:atKey (q::qs) k=some q.2:=by simp[atKey,List.find?_cons,e']
   rw[zA0 e,b];exact h2
  ·have e':¬q.1=k:=λ z=>e (h1.trans z)
   have b:atKey (q::qs) k=atKey qs k:=by simp[atKey,List.find?_cons,e']
   rw[zA1 e,b];exact ih
theorem KT.repl {H:Hp}{kvs:List (List Key × V)}{xs:List (List Key × Addr × Value)}(r:KT H kvs xs) (k:List Key) {y:V}{u:Value}(ry:RelV y u) :
  KT H (kvs.map λ kv=>if kv.1=k then (kv.1,y) else kv) (xs.map (putAt k u)):=by
 induction r with
 |nil=>exact .nil
 | @cons p q ps qs h t ih =>
  rw[mJ,mJ];refine .cons ?_ ih;obtain⟨h1,h2,h3⟩:=h;unfold putAt
  by_cases e:p.1=k
  ·rw[if_pos e,if_pos (h1.symm.trans e)];exact⟨h1,h2,ry⟩
  ·rw[if_neg e,if_neg (λ z=>e (h1.trans z))];exact⟨h1,h2,h3⟩
theorem KT.put {H:Hp}{kvs:List (List Key × V)}{xs:List (List Key × Addr × Value)}(r:KT H kvs xs) (k:List Key) {b:Addr}{y:V}{u:Value}(hb:H b=some (.tup (k.map kV))) (ry:RelV y u) :
  KT H (putK kvs k y) (storedH xs k b u):=by
 have e:(kvs.any λ kv=>decide (kv.1=k))=(atKey xs k).isSome:=by
  rw[zDP,(r.val k).isSome_eq,Option.isSome_map]
 unfold putK storedH;rw[e]
 by_cases q:(atKey xs k).isSome=true
 ·rw[if_pos q,if_pos q];exact r.repl k ry
 ·rw[if_neg q,if_neg q];exact Paired.snoc r ⟨rfl,hb,ry⟩
theorem KT.keeps {H H':Hp}{kvs:List (List Key × V)}{xs:List (List Key × Addr × Value)}(r:KT H kvs xs) (ht:∀b ys,H b=some (.tup ys)->H' b=some (.tup ys)):KT H' kvs xs :=
 Paired.mapP r λ Ω Ω z=>⟨z.1,ht _ _ z.2.1,z.2.2⟩
section
variable {P:Program}{w:World}{H:Hp}{h:Heap}{a:Addr}
theorem rd_of {u:HO}(ok:HOk P w H h) (e:Rd H a u):ObjOk P w H h a u:=e.ok ok
theorem dk_rd {kvs:List 90}(ok:HOk P w H h) (e:Rd H a 92):kvs.length<=sizeLine/\(a == sysModules)=false/\∃vs,KV kvs vs/\h.DictOf (zAi P w) a vs :=
 show ObjOk P w H h a 92 from rd_of ok e
theorem dk_of {kvs:List 90}(ok:HOk P w H h) (e:H a=some 92):kvs.length<=sizeLine/\(a == sysModules)=false/\∃vs,KV kvs vs/\h.DictOf (zAi P w) a vs:=dk_rd ok (.inl e)
theorem zEe {ks:List Key}(ok:HOk P w H h) (e:H a=some (.tup (ks.map kV))):(tupleKind (zAi P w)).is h ks a:=by
 obtain⟨_,its,r,o,h1,h2,n,h3⟩:=(show ObjOk P w H h a (.tup (ks.map kV)) from ok a _ e);exact⟨o,its.toArray,n,h1,h2,h3,by simpa using zF9 r⟩
theorem dt_rd {kvs:List (List Key × V)}(ok:HOk P w H h) (e:Rd H a (.dT kvs)):kvs.length<=sizeLine/\(a == sysModules)=false /\
  ∃xs,KT H kvs xs/\h.DictOfH (tupleKind (zAi P w)) a xs:=by
 obtain⟨z,y,xs,r,o,es,ep,h1,h2,h3,h4,h5⟩:=(show ObjOk P w H h a (.dT kvs) from rd_of ok e);refine⟨z,y,xs,r,o,es,ep,h1,h2,h3,h4,λ x hx=>?_,h5⟩
 have all:∀{l:List (List Key × V)}{m:List (List Key × Addr × Value)},KT H l m->∀x∈m,(tupleKind (zAi P w)).is h x.1 x.2.1:=by
  intro l m q
  induction q with
  |nil=>intro x hx;exact nomatch hx
  | @cons p q ps qs hq t ih =>
   intro x hx;rcases lM.mp hx with e|hx
   ·subst e
    exact zEe ok (by rw[←hq.1];exact hq.2.1)
   ·exact ih x hx
 exact all r x hx
theorem dt_of {kvs:List (List Key × V)}(ok:HOk P w H h) (e:H a=some (.dT kvs)):kvs.length<=sizeLine/\(a == sysModules)=false /\
  ∃xs,KT H kvs xs/\h.DictOfH (tupleKind (zAi P w)) a xs:=dt_rd ok (.inl e)
end
def DGet (H:Hp) (a:Addr) (y:V) (r:Option V):Prop :=
 (∃kvs k,Rd H a 92/\y=kV k/\r=valV kvs k)\/∃kvs k b,Rd H a (.dT kvs)/\y = .ref b/\H b=some (.tup (k.map kV))/\r=valV kvs k
def DPut (H:Hp) (a:Addr) (y v:V) (H':Hp):Prop :=
 (∃kvs k,H a=some 92/\y=kV k/\kvs.length<sizeLine/\H'=upd H a (.dK (putK kvs k v))) \/
 ∃kvs k b,H a=some (.dT kvs)/\y = .ref b/\H b=some (.tup (k.map kV))/\kvs.length<sizeLine/\H'=upd H a (.dT (putK kvs k v))
theorem DGet.k {H:Hp}{a:Addr}{kvs:List 90}{k:Key}(e:H a=some 92):DGet H a (kV k) (valV kvs k):=.inl ⟨kvs,k,.inl e,rfl,rfl⟩
theorem DPut.k {H:Hp}{a:Addr}{kvs:List 90}{k:Key}{v:V}(e:H a=some 92) (hl:kvs.length<sizeLine):DPut H a (kV k) v (upd H a (.dK (putK kvs k v))):=.inl ⟨kvs,k,e,rfl,hl,rfl⟩
section
variable {X:Cx}{jP:List (Addr × Obj)}{σ:St}{H:Hp}{s:Shared}{a:Addr}{y v:V}{u r:Value}{o:Option V}{A:Around}{E:XQ}
theorem Inv.big (I:Inv X jP σ H s):sysModules<s.heap.objs.size:=by
 have h:mainGlobals<s.heap.objs.size:=(I.mod.glob.keeps I.bk).lt;exact Nat.lt_trans 66 h
theorem zJp {Q:XQ}(hu:A.units+1<cLine) (I:Inv X jP σ H s) (g:DGet H a y (some v)) (ry:RelV y u) (h:∀w' s',Inv X jP σ H s'->RelV v w'->Q w' s') :
  wpAny 67 A (getItem (.ref a) u) Q E s:=by
 rcases g with ⟨kvs,k,e,ey,l⟩|⟨kvs,k,b,e,ey,eb,l⟩
 ·subst ey
  obtain⟨z,hd,vs,rel,dd⟩:=dk_rd I.hok e;obtain⟨w',hw,rw'⟩:=RelO.some_of (v:=v) (o:=valueAt vs k) (by rw[l];exact rel.val k);exact wpAny_getItem_of (kV_is ry) dd.mapOf hw (h w' _ (I.tok _) rw')
 ·subst ey
  cases (show u=Value.ref b from ry);obtain⟨z,hd,xs,rel,dd⟩:=dt_rd I.hok e;obtain⟨w',hw,rw'⟩:=RelO.some_of (v:=v) (o:=(atKey xs k).map (·.2)) (by rw[l];exact rel.val k);obtain⟨p,hp,hp2⟩:=lU.mp hw;refine wpAny_getItem_heap (tupleKind_room_in1 hu) (zEe I.hok eb) dd hp ?_;rw[hp2];exact h w' _ (I.tok _) rw'
theorem d_in {Q:XQ}(hu:A.units+1<cLine) (I:Inv X jP σ H s) (g:DGet H a y o) (ry:RelV y u) (h:∀s',Inv X jP σ H s'->Q (.bool o.isSome) s') :
  wpAny 67 A (compareOp .In u (.ref a)) Q E s:=by
 rcases g with ⟨kvs,k,e,ey,l⟩|⟨kvs,k,b,e,ey,eb,l⟩
 ·subst ey
  obtain⟨z,hd,vs,rel,dd⟩:=dk_rd I.hok e;refine wpAny_in_of (kV_is ry) hd dd.mapOf ?_;rw[←(rel.val k).isSome_eq,←l];exact h _ (I.tok _)
 ·subst ey
  cases (show u=Value.ref b from ry);obtain⟨z,hd,xs,rel,dd⟩:=dt_rd I.hok e;refine wpAny_in_heap (tupleKind_room_in1 hu) (zEe I.hok eb) hd dd ?_;have q:=(rel.val k).isSome_eq;rw[Option.isSome_map] at q;rw[←q,←l];exact h _ (I.tok _)
theorem zMA {Q:XQ}(hu:A.units+1<cLine) (I:Inv X jP σ H s) (g:DGet H a y o) (ry:RelV y u) (h:∀s',Inv X jP σ H s'->Q (.bool (!o.isSome)) s') :
  wpAny 67 A (compareOp .NotIn u (.ref a)) Q E s:=by
 rcases g with ⟨kvs,k,e,ey,l⟩|⟨kvs,k,b,e,ey,eb,l⟩
 ·subst ey
  obtain⟨z,hd,vs,rel,dd⟩:=dk_rd I.hok e;refine wpAny_notIn_of (kV_is ry) hd dd.mapOf ?_;rw[←(rel.val k).isSome_eq,←l];exact h _ (I.tok _)
 ·subst ey
  cases (show u=Value.ref b from ry);obtain⟨z,hd,xs,rel,dd⟩:=dt_rd I.hok e;refine wpAny_notIn_heap (tupleKind_room_in1 hu) (zEe I.hok eb) hd dd ?_;have q:=(rel.val k).isSome_eq;rw[Option.isSome_map] at q;rw[←q,←l];exact h _ (I.tok _)
theorem zGu {h':Heap}{t':Nat}{ob:HO}(I:Inv X jP σ H s) (mu:Mut (H a)) (hs:Heap.SameBut a s.heap h') (he:∃q,h'.get? a=some q) (new:ObjOk X.prog X.w (upd H a ob) h' a ob) :
  Inv X jP σ (upd H a ob) { s with heap:=h',toks:=t' } :=
 I.write (x:=a) (e:=a) mu (.inl rfl) (λ b q hb z=>(hs.2 b hb).trans z) he new
theorem zHb {P:Program}{w:World}{H':Hp}{h':Heap}{kvs:List 90}{vs:List (Key × Value)}(z:kvs.length<=sizeLine) (hd:(a == sysModules)=false) (rel:KV kvs vs) (dd:h'.DictOf (zAi P w) a vs) :
  ObjOk P w H' h' a 92:=⟨z,hd,vs,rel,dd⟩
theorem zJo {H':Hp}{Q:Unit->Shared->Prop}(hu:A.units+1<cLine) (I:Inv X jP σ H s) (g:DPut H a y v H') (ry:RelV y u) (rv:RelV v r) (h:∀s',Inv X jP σ H' s'->Q () s') :
  wpAny 67 A (setItem (.ref a) u r) Q E s:=by
 rcases g with ⟨kvs,k,e,ey,l,eH⟩|⟨kvs,k,b,e,ey,eb,l,eH⟩
 ·subst ey eH
  obtain⟨z,hd,vs,rel,dd⟩:=dk_of I.hok e;have hz:vs.length<=sizeLine:=by rw[←rel.length];exact z
  have hl:(putK kvs k v).length<=sizeLine:=by have:=zAx kvs k v;lia
  refine wpAny_setItem_pairs (hsz:=hz) (kV_is ry) dd λ h' dd' hs=>h _ ?_;have he:∃q,h'.get? a=some q:=let ⟨q,_,_,hq,_⟩:=dd';⟨q,hq⟩;exact zGu I (by rw[e];exact True.intro) hs he (zHb hl hd (rel.put k rv) dd')
 ·subst ey eH
  cases (show u=Value.ref b from ry);obtain⟨z,hd,xs,rel,dd⟩:=dt_of I.hok e;have hz:xs.length<=sizeLine:=by rw[←Paired.length rel];exact z
  have hl:(putK kvs k v).length<=sizeLine:=by have:=zAx kvs k v;lia
  refine wpAny_setItem_heap (hsz:=hz) (tupleKind_room_in1 hu) (zEe I.hok eb) dd λ h' dd' hs=>h _ ?_;obtain⟨q,es,ep,hq,h2,h3,h4,_,h5⟩:=dd';refine zGu I (by rw[e];exact True.intro) hs ⟨q,hq⟩ ⟨hl,hd,_,(rel.put k eb rv).keeps λ c ys ec=>?_,q,es,ep,hq,h2,h3,h4,h5⟩;rw[zAR (ne_of ec e (λ z=>nomatch z))]
  exact ec
end
section
variable {X:Cx}{jP:List (Addr × Obj)}{σ:St}{H:Hp}{s:Shared}{a:Addr}{kvs:List (Key × V)}{k:Key}{u:Value}{A:Around}{E:XQ}
theorem d_len {Q:XQ}(I:Inv X jP σ H s) (e:Rd H a 92) (h:∀t s',Inv X jP σ H s'->Q (.int kvs.length t) s'):wpAny 67 A (call (.builtin "len") [.ref a]) Q E s:=by
 obtain⟨z,hd,vs,rel,dd⟩:=dk_rd I.hok e;refine call_len_dict hd dd (by rw[←rel.length];rw[sizeLine_eq] at z;lia) ?_;rw[←rel.length];exact h _ _ (I.tok _)
end
def NoSl (i:Expr):Prop:=∀ov iv,subscripted i false ov iv=operate [ov,iv] (getItem ov iv)
theorem zLe {prog:Program}{w:World}{A:Around}{E:XQ}{s:Shared}{env:Env}{value slice:Expr}{pos:Pos}{T id:String}{Q:XQ}
  (hl:typeLookup (.type T) "__getitem__" = pure (some (.builtin id))) (hs:NoSl slice)
  (h:wpAny (model prog w) A (eval value env) (λ o s₁=>wpAny (model prog w) A (eval slice env) (λ i s₂=>s₂.TypeIs o T/\wpAny (model prog w) A (getItem o i) Q E s₂) E s₁) E s) :
  wpAny (model prog w) A (eval (.Subscript value slice pos) env) Q E s:=by
 refine Subscript_ (wpAny_mono h (λ o s₁ h₁=>wpAny_mono h₁ (λ i s₂ h₂=>?_) λ Ω Ω x=>x) λ Ω Ω x=>x);obtain⟨hT,h₂⟩:=h₂;unfold subscriptTail;refine lA ?_;rw[getitemInPython_of_ne hT.not_modules];refine lA (wpAny_specialOf hT hl ?_)
 have fin:wpAny (model prog w) A (subscripted slice false o i) (λ r s₃=>wpAny (model prog w) A (letTemporaryGo value o r >>= λ Ω=>pure r) Q E s₃) E s₂:=by
  rw[hs o i];exact wpAny_operating (wpAny_mono h₂ (λ r s₃ h₃=>lA (wpAny_letTemporaryGo (lB h₃))) λ Ω Ω x=>x)
 first
  |exact lB (lA fin)
  |exact lA (lB (lA fin))
  |exact lA fin
theorem zGt {X:Cx}{jP:List 71}{σ:St}{H:Hp}{s:Shared}{a:Addr}{y:V}{o:Option V}(I:Inv X jP σ H s) (g:DGet H a y o):s.TypeIs (.ref a) "dict" := by
 rcases g with ⟨kvs,k,e,_,_⟩|⟨kvs,k,b,e,_,_,_⟩
 ·obtain⟨_,_,vs,_,dd⟩:=dk_rd I.hok e
  exact dd.typeIs
 ·obtain⟨_,_,xs,_,dd⟩:=dt_rd I.hok e
  exact dd.typeIs
inductive IsG (Q:VK) (x y:V) (H:Hp):Prop
 |mk (a:Addr) (v:V) (h:x = .ref a) (g:DGet H a y (some v)) (q:Q v H)
def tDGet (td ty:TE):TE:=λ σ H Q=>td σ H λ x H1=>ty σ H1 (IsG Q x)
inductive IsP (N:Hp->Prop) (v x y:V) (H:Hp):Prop
 |mk (a:Addr) (H4:Hp) (h:x = .ref a) (p:DPut H a y v H4) (q:N H4)
def sDPut (td ty tv:TE):TS:=λ D σ H=>tv σ H λ v H1=>td σ H1 λ x H2=>ty σ H2 (IsP (D.nx σ) v x)
section
variable {X:Cx}{o i e value:Expr}{pos pos' tpos:Pos}{td ty tv:TE}
theorem zBb (hu:X.A.units+1<cLine) (ho:PE X o td) (hi:PE X i ty) (hs:NoSl i):PE X (.Subscript o i pos) (tDGet td ty):=by
 intro jP s σ H Q I h;refine zLe PySem.F.slot_dict_getitem.lookup hs (thn (ho jP s σ H _ I h) λ u s1 ⟨x,H1,I1,rx,q1⟩=>thn (hi jP s1 σ H1 _ I1 q1) λ iv s2 ⟨y,H2,I2,ry,a,v,ex,g,q2⟩=>?_);subst ex;obtain rfl:u=Value.ref a:=rx;exact⟨zGt I2 g,zJp hu I2 g ry λ w' s3 I3 rw'=>⟨v,H2,I3,rw',q2⟩⟩
theorem zBF (hu:X.A.units+1<cLine) (ho:PE X o td) (hi:PE X i ty) (hv:PE X value tv) (hs:swapsWith value (some (.Subscript o i pos')) pos.line X.env=pure false) :
  PS X (.Assign [.Subscript o i pos'] value pos) (sDPut td ty tv):=by
 intro jP s σ H D I h;refine wpAny_Assign_Subscript (thn (hv jP s σ H _ I h) λ r s1 ⟨v,H1,I1,rv,q1⟩=>thn (ho jP s1 σ H1 _ I1 q1) λ u s2 ⟨x,H2,I2,rx,q2⟩=>thn (hi jP s2 σ H2 _ I2 q2) λ iv s3 ⟨y,H3,I3,ry,a,H4,ex,g,q3⟩=>?_) hs;subst ex;obtain rfl:u=Value.ref a:=rx;exact zJo hu I3 g ry rv λ s4 I4=>⟨σ,H4,I4,q3⟩
end
theorem zHc {P:Program}{w:World}{H:Hp}(h:Heap) (hb:sysModules<h.objs.size):ObjOk P w H (h.push { cls:=.type "dict", data:=.dict #[] }) h.objs.size (.dK []) :=
 ⟨lX _,beq_eq_false_iff_ne.mpr (Ne.symm (lR hb)),[],.nil,Heap.DictOf.new h⟩
def zML:TE:=λ Ω H Q=>∀p,H p=none->Q (.ref p) (upd H p (.dK []))
section
variable {X:Cx}{pos:Pos}
theorem zBL:PE X (.Dict [] [] pos) zML:=λ jP s σ H Q I h =>
 wpAny_Dict_empty ⟨.ref s.heap.objs.size,_,I.laid (a:=s.heap.objs.size) (o:=.dK []) (t':=s.toks) (λ Ω Ω q=>lE _ q) (lQ _) (zHc s.heap I.big),rfl,h _ (I.hok.fresh (lQ _))⟩
end
def zIW:List (TE × TE)->St->Hp->(List (V × V)->Hp->Prop)->Prop
 |[],_,H,Q=>Q [] H
 | (tk,tv)::r,σ,H,Q=>tk σ H λ x H1=>tv σ H1 λ y H2=>zIW r σ H2 λ ps H3=>Q ((x,y)::ps) H3
abbrev VV:List (V × V)->List (Value × Value)->Prop:=Paired λ p q=>RelV p.1 q.1/\RelV p.2 q.2
def PPs (X:Cx) (pos:Pos) (keys:List (Option Expr)) (values:List Expr) (trs:List (TE × TE)):Prop :=
 ∀(jP:List 71) (s:Shared) (σ:St) (H:Hp) (Q:List (V × V)->Hp->Prop),Inv X jP σ H s->zIW trs σ H Q ->
  wpAny 67 X.A (evalPairs (pairTrees keys values X.env pos)) (λ vs s'=>∃ps H',Inv X jP σ H' s'/\VV ps vs/\Q ps H') X.xe s
theorem zLm {X:Cx}{pos:Pos}:PPs X pos [] [] []:=λ jP s σ H Q I h=>pairTrees_nil_walk ⟨[],H,I,.nil,h⟩
theorem zKO {X:Cx}{pos:Pos}{k v:Expr}{ks:List (Option Expr)}{vs:List Expr}{tk tv:TE}{trs:List (TE × TE)}(hk:PE X k tk) (hv:PE X v tv) (hr:PPs X pos ks vs trs) :
  PPs X pos (some k::ks) (v::vs) ((tk,tv)::trs):=λ jP s σ H Q I h =>
 pairTrees_cons_walk (thn (hk jP s σ H _ I h) λ u s1 ⟨x,H1,I1,rx,q1⟩=>thn (hv jP s1 σ H1 _ I1 q1) λ w2 s2 ⟨y,H2,I2,ry,q2⟩ =>
  thn (hr jP s2 σ H2 _ I2 q2) λ ws s3 ⟨ps,H3,I3,rel,q3⟩=>⟨(x,y)::ps,H3,I3,.cons ⟨rx,ry⟩ rel,q3⟩)
noncomputable def zA5 (kvs more:List 90):List 90:=more.foldl (λ acc kv=>putK acc kv.1 kv.2) kvs
theorem KV.merge:∀{more:List 90}{rs:List (Key × Value)}{kvs:List 90}{vs:List (Key × Value)},KV more rs->KV kvs vs->KV (zA5 kvs more) (merged vs rs):=by
 intro more rs kvs vs r;unfold KV at r
 induction r generalizing kvs vs with
 |nil=>intro q;exact q
 | @cons p q ps qs h t ih =>
  intro r0
  have e:KV (putK kvs p.1 p.2) (stored vs q.1 q.2):=by
   have:=r0.put p.1 h.2;rw[←h.1];exact this
  exact ih e
theorem zCU:∀(more kvs:List 90),(zA5 kvs more).length<=kvs.length+more.length
 |[],kvs=>by show kvs.length<=kvs.length+0;lia
 |p::r,kvs=>by
  have h1:=zCU r (putK kvs p.1 p.2);have h2:=zAx kvs p.1 p.2;show (zA5 (putK kvs p.1 p.2) r).length<=_;rw[mK];lia
theorem zFC {P:Program}{w:World}:∀{kvs:List 90}{ws:List (Value × Value)},VV (kvs.map λ kv=>(kV kv.1,kv.2)) ws->∃rs,Carries (zAi P w) ws rs/\KV kvs rs
 |[],_,r=>by rw[List.map_nil] at r;cases r;exact⟨[],True.intro,.nil⟩
 |p::kvs,_,r=>by
  rw[mJ] at r;cases r with
  | @cons a b as bs h t =>
   obtain⟨rs,c,q⟩:=zFC (P:=P) (w:=w) t;obtain⟨b1,b2⟩:=b;exact⟨(p.1,b2)::rs,⟨kV_is h.1,rfl,c⟩,.cons ⟨rfl,h.2⟩ q⟩
def tDisp (trs:List (TE × TE)):TE:=λ σ H Q=>∀p,H p=none->zIW trs σ (upd H p (.dK [])) λ ps H2=>H2 p=some (.dK [])/\∃kvs:List 90,ps=kvs.map (λ kv=>(kV kv.1,kv.2))/\kvs.length<=15/\Q (.ref p) (upd H2 p (.dK (zA5 [] kvs)))
theorem zLp {X:Cx}{pos:Pos}{keys:List (Option Expr)}{values:List Expr}{trs:List (TE × TE)}(h:PPs X pos keys values trs) (hall:keys.all (·.isSome)=true) (hl:keys.length=values.length) (h0:keys≠[])
  (h15:keys.length<=15):PE X (.Dict keys values pos) (tDisp trs):=by
 intro jP s σ H Q I q;have hn:=I.hok.fresh (lQ s.heap.objs.size);have I1:=I.laid (a:=s.heap.objs.size) (o:=.dK []) (h':=s.heap.push { cls:=.type "dict", data:=.dict #[] }) (t':=s.toks) (λ Ω Ω q=>lE _ q) (lQ _) (zHc s.heap I.big);refine wpAny_Dict_walk (knd:=zAi X.prog X.w) hall hl h0 h15 (thn (h jP _ σ _ _ I1 (q _ hn)) λ ws s2 ⟨ps,H2,I2,rel,e,kvs,ep,lk,q2⟩=>?_);subst ep;obtain⟨rs,c,rk⟩:=zFC (P:=X.prog) (w:=X.w) rel;obtain⟨z,hd,vs0,r0,dd⟩:=dk_of I2.hok e;cases r0;refine⟨rs,c,dd,λ h' dd' hs=>⟨.ref s.heap.objs.size,_,?_,rfl,q2⟩⟩
 have hz:(zA5 [] kvs).length<=sizeLine:=by
  have h1:=zCU kvs [];rw[List.length_nil] at h1;rw[sizeLine_eq];lia
 have he:∃q,h'.get? s.heap.objs.size=some q:=let ⟨q,_,_,hq,_⟩:=dd';⟨q,hq⟩;exact zGu I2 (by rw[e];exact True.intro) hs he (zHb hz hd (rk.merge .nil) dd')
structure M1 (X:Cx) (o:Expr) (m:Str) (apos:Pos) (e:Expr) (cpos:Pos):Prop where
 base:attributeBase o m X.env (eval o X.env)=eval o X.env
 few:((backTo cpos (starEach [e] X.env)).all (λ x=>!x.1) && (backToKw cpos (keywordEach [] X.env)).all (λ x=>x.1.isSome)
  && decide (([e]:List Expr).length+([]:List Keyword).length+(if ([]:List Keyword).isEmpty then 0 else 1)<30))=true
 line:(apos.endLine == cpos.line)=true
 trees:backTo cpos (starEach [e] X.env)=[(false,eval e X.env)]
structure M2 (X:Cx) (o:Expr) (m:Str) (apos:Pos) (e f:Expr) (cpos:Pos):Prop where
 base:attributeBase o m X.env (eval o X.env)=eval o X.env
 few:((backTo cpos (starEach [e,f] X.env)).all (λ x=>!x.1) && (backToKw cpos (keywordEach [] X.env)).all (λ x=>x.1.isSome)
  && decide (([e,f]:List Expr).length+([]:List Keyword).length+(if ([]:List Keyword).isEmpty then 0 else 1)<30))=true
 line:(apos.endLine == cpos.line)=true
 trees:backTo cpos (starEach [e,f] X.env)=[(false,eval e X.env),(false,eval f X.env)]
def IsD (H:Hp) (a:Addr):Prop:=(∃kvs,Rd H a 92)\/∃kvs,Rd H a (.dT kvs)
theorem zLO {X:Cx}{jP:List 71}{σ:St}{H:Hp}{s:Shared}{a:Addr}(I:Inv X jP σ H s) (d:IsD H a) :
  s.TypeIs (.ref a) "dict" /\ (∀b,Value.ref a = .ref b->∃ob,s.heap.get? b=some ob/\ob.dict=none)/\(a == sysModules)=false:=by
 rcases d with ⟨kvs,e⟩|⟨kvs,e⟩
 ·obtain⟨_,hd,vs,_,dd⟩:=dk_rd I.hok e
  refine⟨dd.typeIs,λ b q=>?_,hd⟩;cases q;obtain⟨ob,_,_,h1,h2,_⟩:=dd;exact⟨ob,h1,h2.2.1⟩
 ·obtain⟨_,hd,xs,_,dd⟩:=dt_rd I.hok e
  refine⟨dd.typeIs,λ b q=>?_,hd⟩;cases q;obtain⟨ob,_,_,h1,h2,_⟩:=dd;exact⟨ob,h1,h2.2.1⟩
section
variable {X:Cx}{jP:List (Addr × Obj)}{σ:St}{H:Hp}{s:Shared}{a:Addr}{y d:V}{u r:Value}{o:Option V}{A:Around}{E:XQ}
theorem zMz {Q:XQ}(hu:A.units+1<cLine) (I:Inv X jP σ H s) (g:DGet H a y o) (ry:RelV y u) (h:∀w' s',Inv X jP σ H s'->RelV (o.getD .non) w'->Q w' s') :
  wpAny 67 A (call (.builtin "dict.get") [.ref a,u]) Q E s:=by
 rcases g with ⟨kvs,k,e,ey,l⟩|⟨kvs,k,b,e,ey,eb,l⟩
 ·subst ey
  obtain⟨z,hd,vs,rel,dd⟩:=dk_rd I.hok e;refine call_meetsIn PySem.F.slot_dict_get dd.typeIs PySem.F.entry_dict_get (PySem.F.args_dict_get_2 _ _) (meets_dict_get (zAi X.prog X.w) a (kV_is ry) hd) ⟨_,dd.mapOf,h _ _ (I.tok _) ?_⟩;rw[l];exact(rel.val k).getD rfl
 ·subst ey
  cases (show u=Value.ref b from ry);obtain⟨z,hd,xs,rel,dd⟩:=dt_rd I.hok e;refine call_meetsIn PySem.F.slot_dict_get dd.typeIs PySem.F.entry_dict_get (PySem.F.args_dict_get_2 _ _) (meetsH_dict_get (tupleKind (zAi X.prog X.w)) a b hd) ⟨tupleKind_room_in1 hu,k,xs,zEe I.hok eb,dd,h _ _ (I.tok _) ?_⟩;rw[l];exact(rel.val k).getD rfl
theorem zMy {Q:XQ}(hu:A.units+1<cLine) (I:Inv X jP σ H s) (g:DGet H a y o) (ry:RelV y u) (rd:RelV d r) (h:∀w' s',Inv X jP σ H s'->RelV (o.getD d) w'->Q w' s') :
  wpAny 67 A (call (.builtin "dict.get") [.ref a,u,r]) Q E s:=by
 rcases g with ⟨kvs,k,e,ey,l⟩|⟨kvs,k,b,e,ey,eb,l⟩
 ·subst ey
  obtain⟨z,hd,vs,rel,dd⟩:=dk_rd I.hok e;refine call_meetsIn PySem.F.slot_dict_get dd.typeIs PySem.F.entry_dict_get (PySem.F.args_dict_get_3 _ _ _) (meets_dict_get_default (zAi X.prog X.w) a (kV_is ry) hd r) ⟨_,dd.mapOf,h _ _ (I.tok _) ?_⟩;rw[l];exact(rel.val k).getD rd
 ·subst ey
  cases (show u=Value.ref b from ry);obtain⟨z,hd,xs,rel,dd⟩:=dt_rd I.hok e;refine call_meetsIn PySem.F.slot_dict_get dd.typeIs PySem.F.entry_dict_get (PySem.F.args_dict_get_3 _ _ _) (meetsH_dict_get_default (tupleKind (zAi X.prog X.w)) a b hd r) ⟨tupleKind_room_in1 hu,k,xs,zEe I.hok eb,dd,h _ _ (I.tok _) ?_⟩;rw[l];exact(rel.val k).getD rd
end
def zMN (td ty:TE):TE:=λ σ H Q=>td σ H λ x H1=>∃a,x = .ref a/\IsD H1 a/\ty σ H1 λ y H2=>∃o,DGet H2 a y o/\Q (o.getD .non) H2
def zMM (td ty tx:TE):TE:=λ σ H Q=>td σ H λ x H1=>∃a,x = .ref a/\IsD H1 a/\ty σ H1 λ y H2=>tx σ H2 λ z H3=>∃o,DGet H3 a y o/\Q (o.getD z) H3
section
variable {X:Cx}{o e f:Expr}{apos cpos:Pos}{td ty tx:TE}
theorem zEA (hu:X.A.units+1<cLine) (ho:PE X o td) (he:PE X e ty) (m:M1 X o "get" apos e cpos):PE X (.Call (.Attribute o "get" apos) [e] [] cpos) (zMN td ty):=by
 intro jP s σ H Q I h;refine wpAny_Call_method m.base m.few m.line rN PySem.F.slot_dict_get PySem.F.type_dict_get (thn (ho jP s σ H _ I h) λ u s1 ⟨x,H1,I1,rx,a,ex,d,q1⟩=>?_);subst ex;obtain rfl:u=Value.ref a:=rx;obtain⟨t1,t2,_⟩:=zLO I1 d;refine⟨t1,t2,?_⟩;rw[m.trees];refine Calls.callWith_builtin rfl (Calls.evalArgs_plain (Calls.spliced_cons (thn (he jP s1 σ H1 _ I1 q1) λ iv s2 ⟨y,H2,I2,ry,ov,g,q2⟩=>Calls.spliced_nil ?_)));exact zMz hu I2 g ry λ w' s3 I3 rw'=>⟨_,H2,I3,rw',q2⟩
theorem zHM (hu:X.A.units+1<cLine) (ho:PE X o td) (he:PE X e ty) (hf:PE X f tx) (m:M2 X o "get" apos e f cpos):PE X (.Call (.Attribute o "get" apos) [e,f] [] cpos) (zMM td ty tx):=by
 intro jP s σ H Q I h;refine wpAny_Call_method m.base m.few m.line rN PySem.F.slot_dict_get PySem.F.type_dict_get (thn (ho jP s σ H _ I h) λ u s1 ⟨x,H1,I1,rx,a,ex,d,q1⟩=>?_);subst ex;obtain rfl:u=Value.ref a:=rx;obtain⟨t1,t2,_⟩:=zLO I1 d;refine⟨t1,t2,?_⟩;rw[m.trees]
 refine Calls.callWith_builtin rfl (Calls.evalArgs_plain (Calls.spliced_cons (thn (he jP s1 σ H1 _ I1 q1) λ iv s2 ⟨y,H2,I2,ry,q2⟩ =>
  Calls.spliced_cons (thn (hf jP s2 σ H2 _ I2 q2) λ fv s3 ⟨z,H3,I3,rz,ov,g,q3⟩=>Calls.spliced_nil ?_))))
 exact zMy hu I3 g ry rz λ w' s4 I4 rw'=>⟨_,H3,I4,rw',q3⟩
end
section
variable {X:Cx}{jP:List (Addr × Obj)}{σ:St}{H:Hp}{s:Shared}{a:Addr}{kvs:List (Key × V)}{A:Around}{E:XQ}
theorem zK1 {Q:XQ}(I:Inv X jP σ H s) (e:Rd H a 92) (h:∀p s',H p=none->Inv X jP σ (upd H p 92) s'->Q (.ref p) s'):wpAny 67 A (call (.type "dict") [.ref a]) Q E s:=by
 obtain⟨z,hd,vs,rel,dd⟩:=dk_rd I.hok e;refine kt_call_dict hd dd (by rw[←rel.length];exact z) λ h' dd' hs=>?_;refine h _ _ (I.hok.fresh (lQ _)) (I.laid (a:=s.heap.objs.size) (o:=.dK kvs) (t':=s.toks) (λ b q hq=>?_) (lQ _) (zHb z (beq_eq_false_iff_ne.mpr (Ne.symm (lR I.big))) rel dd'));exact(hs.2 b (lR (lH hq))).trans (lE _ hq)
end
end L2
namespace Att
open PySem PySem.W PySem.Calls PyProof.Rows
theorem zEf {P:Params}{h:Heap}:∀(ns:List Int) (vs:List Value),WellAll P h vs (ns.map WData.int)->IntsAre vs ns:=by
 intro ns
 induction ns with
 |nil =>
  intro vs w;rw[List.map_nil] at w;cases w;exact .nil
 |cons n ns ih =>
  intro vs w;rw[mJ] at w;cases w with
  |cons a b =>
   cases a;exact .cons _ _ (ih _ b)
theorem zIf {l:OpenLaw}{n:Nat}(hn:l.most=some n) {P:Params}{h:Heap}{args:List WData}{vals:List Value}
    (hpre:l.row.toRowW.claim.pre args=true) (hwl:WellAll P h vals args) :
    ∃a vs ns,vals=[Value.ref a]/\args=[WData.list (ns.map WData.int)]/\h.get? a=some { cls:=.type "list", data:=.seq vs.toArray }/\IntsAre vs ns/\ns.length<=n:=by
  have hsh:WShape.hasAll [] args [.list .int]=true:=(pre_splitW hpre).1;have hc:l.pre.holds [] { args:=args }=true:=(pre_splitW hpre).2;obtain⟨d,r,rfl,h1,h2⟩:=hasAllW_cons hsh;obtain rfl:=hasAllW_nil h2;obtain⟨xs,rfl,h3⟩:=hasW_list h1;obtain⟨ns,rfl⟩:=items_int h3
  have hlen:ns.length<=n:=by
    unfold OpenLaw.pre at hc
    have h4:(WTm.not (.lt (.lit (.int (n:Int))) (.len (.arg 0)))).holds [] { args:=[.list (ns.map .int)] }=true:=by
      have h4:=(holds_andW hc).1;rw[hn] at h4;exact h4
    have h5:=condW_of h4 (w_not (w_lt w_lit (w_len_list (w_arg rfl))));rw[lC] at h5;refine Nat.le_of_not_lt λ q=>?_;have q':(n:Int)<((ns.length:Nat):Int):=by lia
    first
      | (rw[decide_eq_true q'] at h5;exact absurd h5 (by decide))
      | (simp at h5;lia)
  cases hwl with
  |cons w1 w2 =>
    cases w2;cases w1 with
    |list ho hall=>exact⟨_,_,ns,rfl,rfl,ho,zEf ns _ hall,hlen⟩
theorem zIl (l:OpenLaw) (args:List WData):l.row.toRowW.claim.post args (.bool true) args=true :=
  postW_of (r:=l.row.toRowW) (X:=(true == true))
    (show WShape.has [] (.bool true) .bool=true by first|rfl|decide|simp[WShape.has,WShape.arms,WShape.armsAll])
    (show (WTm.eq .res (.lit (.bool true))).value [] { args:=args,res:=some (.bool true),after:=args }=some (.bool (true == true)) from w_eq_bool (w_res rfl) w_lit) rfl
theorem attach_call {l:OpenLaw}{n:Nat}{q:Program}{loose:List Str}{XP:(Str->Option Value)->Heap->Prop}{YP:World->Heap->Prop}{d:DefRec}
  (hn:l.most=some n) (hdf:d.params.defaults=[])
  (call:∀(w:World) (s₀ s₁:Shared) (mg mb:Str->Option Value) (fa:Addr) (o:Obj) (pm cd doc:Value) (a:Addr) (vs:List Value) (ns:List Int),
   Ground q loose [] XP w s₀ mg mb s₁.heap->YP w s₁.heap ->
   s₁.heap.get? fa=some o->o.data = .func (docDef d.name d.params d.body d.scope pm cd doc)->s₁.heap.CodeRec cd d.name->mg d.name=some (.ref fa) ->
   s₁.heap.get? a=some { cls:=.type "list", data:=.seq vs.toArray }->IntsAre vs ns->ns.length<=n->s₁.gens=#[] ->
   codeAny (model l.prog w) callerA (.call (.ref fa) ⟨[.ref a],[]⟩) (λ r s'=>r = .ok (.ret (.bool true))/\OldK s₁.heap s'.heap/\s'.os=s₁.os/\AllBare s'.gens) s₁) :
  WalkO q loose XP YP l.row.toRowW d [] (λ f vs=>PySem.call f vs):=by
 intro w s₀ s₁ mg mb G Y fa o pm cd doc dV kV ho hd hcd hD hmg hg args vals as hpre hlay hrd hwl hlo;obtain rfl:dV = .none:=Dflts.none hD hdf;obtain rfl:kV = .none:=Dflts.noKw hD;obtain⟨a,vs,ns,rfl,rfl,hobj,hints,hlen⟩:=zIf hn hpre hwl;refine enter_call (codeAny_mono (call w s₀ s₁ mg mb fa o pm cd doc a vs ns G Y ho (fd_plain hd) hcd hmg hobj hints hlen hg) λ r s' hq=>?_);obtain⟨rfl,h2,h3,h4⟩:=hq;exact⟨.inl ⟨.bool true,.bool true,[],rfl,λ Ω=>rfl,.bool true,zIl l _,λ Ω=>⟨List.Pairwise.nil,λ Ω hm=>(nomatch hm)⟩⟩,h2,h3,h4⟩
end Att
namespace L2
open PySem PySem.Spec PyProof.Rows
theorem zFg {vs:List Value}{ns:List Int}(h:IntsAre vs ns):Vals (ns.map V.int) vs:=by
 induction h with
 |nil=>exact .nil
 |cons n t h ih=>exact .cons ⟨t,rfl⟩ ih
def Only (H:Hp):Prop:=∀b,H b=none\/∃o xs,H b=some (.frz o (.lst xs))
theorem zKq {P:Program}{w:World}{K:W.Frag}{mg mb:Str->Option Value}{CX:CXT}{k:Nat}{fa a:Addr}{fd:FuncData}{x:Str}{sp:Sp}{s₁:Shared}{vs:List Value}{ns:List Int}
  (KX:K.In s₁.heap) (hns:s₁.heap.Ns mainGlobals mg) (hb:s₁.heap.Ns builtinsNs mb) (hbb:∀x:Str,x ≠ "__name__" -> mb x=bootBuiltins x) (hlim:s₁.heap.NoLimit) (hg:s₁.gens=#[])
  (ha:s₁.heap.get? a=some { cls:=.type "list", data:=.seq vs.toArray }) (hi:IntsAre vs ns) (hl:ns.length<=sizeLine) (hr:Room k callerA)
  (F:∀base:Heap,K.In base->base.Ns mainGlobals mg->FnOk P w K mg base CX k fa fd [x] sp) (hbind:∀(s:Shared) (u:Value),BindsTo s fd ⟨[u],[]⟩ [(x,u)])
  (hsp:∀H:Hp,Only H->SqL K H a (ns.map V.int)->sp [.ref a] H (λ v Ω=>v = .bl true) λ Ω Ω Ω=>False)
  (hCX:∀H e s',CX [] H s₁ (λ Ω Ω Ω=>False) e s'->False) :
  codeAny (model P w) callerA (.call (.ref fa) ⟨[.ref a],[]⟩) (λ r s'=>r = .ok (.ret (.bool true))/\OldK s₁.heap s'.heap/\s'.os=s₁.os/\AllBare s'.gens) s₁:=by
 have rv:=zFg hi;have lenV:=hi.length
 have core:∀H:Hp,Only H->SqL K H a (ns.map V.int)->HOk P w H s₁.heap->(∀b,H b≠none->b=a)->(H a≠none->K.lookup a=none) ->
   codeAny (model P w) callerA (.call (.ref fa) ⟨[.ref a],[]⟩) (λ r s'=>r = .ok (.ret (.bool true))/\OldK s₁.heap s'.heap/\s'.os=s₁.os/\AllBare s'.gens) s₁:=by
  intro H hO hS hok hA hK;have base_of:∀{b:Addr}{o:Obj},s₁.heap.get? b=some o->H b=none->(hidT s₁.heap H).get? b=some o:=λ e n=>zKw e n
  have noA:∀{b:Addr}{o:Obj}{es:Array DictEntry}{ep:Nat},s₁.heap.get? b=some o->o.data = .dict es ep->H b=none:=λ{b o es ep} e d=>by
   cases q:H b with
   |none=>rfl
   |some u =>
    have e':b=a:=hA b (by rw[q];simp);subst e';rw[ha] at e;cases e;have d':Data.seq vs.toArray _=Data.dict es ep:=d;cases d'
  have nsK:∀{b:Addr}{m:Str->Option Value},s₁.heap.Ns b m->(hidT s₁.heap H).Ns b m:=λ{b m} ⟨o,es,ep,e,d,r⟩=>⟨o,es,ep,base_of e (noA e d),d,r⟩
  have hKb:K.In (hidT s₁.heap H):=λ b o e=>base_of (KX b o e) (by
   cases q:H b with
   |none=>rfl
   |some u =>
    have e':b=a:=hA b (by rw[q];simp);subst e';rw[hK (by rw[q];simp)] at e;cases e)
  have hM:Mod K mg (hidT s₁.heap H):=⟨hKb,nsK hns,⟨mb,nsK hb,hbb⟩,let ⟨mc,h1,h2⟩:=hlim;⟨mc,nsK h1,h2⟩⟩;have e0:Env0 P w K mg (hidT s₁.heap H) callerA [] s₁ H:=⟨rfl,hM,λ b o e=>zL1 e,Nat.le_of_eq (zJa _ _),trivial,λ b hb=>absurd (show b∈([]:List Addr) from hb) 59,hok,.of_eq hg⟩;refine codeAny_mono ((F _ hKb (nsK hns)).run callerA [] s₁ H ⟨[.ref a],[]⟩ [.ref a] [.ref a] _ _ hr e0 (hbind s₁ (.ref a)) (.cons rfl .nil) (hsp H hO hS)) λ r s' h=>?_;cases r with
  |error e=>exact(hCX H e s' h).elim
  |ok fl =>
   cases fl with
   |next=>exact False.elim h
   |brk=>exact False.elim h
   |cont=>exact False.elim h
   |ret u =>
    obtain⟨v,H',os,bare,un,hok',r',q⟩:=h;have q':v = .bl true:=q;subst q';obtain rfl:u=Value.bool true:=r';refine⟨rfl,OldK.of_keep λ b o e=>?_,os,bare⟩;cases q:H b with
    |none=>exact un.keep b o e q (by intro z;exact absurd (show b∈([]:List Addr) from z) 59) 59
    |some u =>
     rcases hO b with z|⟨ob,xs,z⟩
     ·rw[q] at z;cases z
     ·have z2:=un.frzs b ob _ z
      obtain⟨e1,_⟩:=hok b _ z;obtain⟨e2,_⟩:=hok' b _ z2;rw[e] at e1;cases e1;exact e2
 cases hk:K.lookup a with
 |some o =>
  have e:=KX a o hk;rw[ha] at e;cases e;refine core (λ Ω=>none) (λ Ω=>.inl rfl) (.inr ⟨_,vs.toArray,_,hk,rfl,rfl,rfl,by rw[mG,lenV];exact hl,by simpa using rv⟩) (λ b u z=>by have z':(none:Option HO)=some u:=z;cases z') (λ b z=>absurd rfl z) λ z=>absurd rfl z
 |none =>
  refine core (λ b=>if b=a then some (.frz { cls:=.type "list", data:=.seq vs.toArray } (.lst (ns.map V.int))) else none) (λ b=>?_) (.inl (.inr ⟨{ cls:=.type "list", data:=.seq vs.toArray },if_pos rfl⟩)) (λ b u z=>?_) (λ b z=>?_) λ Ω=>hk
  ·by_cases hb:b=a
   ·exact .inr ⟨_,_,if_pos hb⟩
   ·exact .inl (if_neg hb)
  ·by_cases hb:b=a
   ·have z':=(if_pos hb).symm.trans z
    cases z';subst hb;exact⟨ha,by rw[lC];exact hl,vs,_,rv,ha⟩
   ·have z':=(if_neg hb).symm.trans z
    cases z'
  ·by_cases hb:b=a
   ·exact hb
   ·exact absurd (if_neg hb) z
theorem walk_of {l:W.OpenLaw}{n k:Nat}{q:Program}{loose:List Str}{XP:(Str->Option Value)->Heap->Prop}{YP:World->Heap->Prop}{d:DefRec}{K:Params->W.Frag}{CX:World->CXT}{sp:World->Sp}{x:Str}
  (hn:l.most=some n) (hn2:n<=sizeLine) (hdf:d.params.defaults=[]) (hr:Room k callerA)
  (hY:∀(w:World) (h:Heap),YP w h->(K w.params).In h)
  (F:∀(w:World) (mg:Str->Option Value) (fa:Addr) (h:Heap),(K w.params).In h->h.Ns mainGlobals mg->mg d.name=some (.ref fa) ->
   ∃fd:FuncData,(∀(s:Shared) (u:Value),BindsTo s fd ⟨[u],[]⟩ [(x,u)]) /\
    ∀base:Heap,(K w.params).In base->base.Ns mainGlobals mg->FnOk l.prog w (K w.params) mg base (CX w) k fa fd [x] (sp w))
  (hsp:∀(w:World) (H:Hp) (a:Addr) (ns:List Int),ns.length<=n->Only H->SqL (K w.params) H a (ns.map V.int)->sp w [.ref a] H (λ v Ω=>v = .bl true) λ Ω Ω Ω=>False)
  (hCX:∀(w:World) (H:Hp) (s:Shared) (e:Value) (s':Shared),CX w [] H s (λ Ω Ω Ω=>False) e s'->False) :
  W.WalkO q loose XP YP l.row.toRowW d [] (λ f vs=>PySem.call f vs):=by
 refine Att.attach_call hn hdf λ w s₀ s₁ mg mb fa o pm cd doc a vs ns G Y ho hd hcd hmg hobj hints hlen hg=>?_;have KX:=hY w _ Y;obtain⟨fd,hb,hF⟩:=F w mg fa _ KX G.T.g hmg;exact zKq KX G.T.g G.T.b G.T.builtins G.T.nolimit hg hobj hints (mF hlen hn2) hr hF hb (λ H hO hS=>hsp w H a ns hlen hO hS) λ H e s'=>hCX w H s₁ e s'
noncomputable def zBG (s:Stmt):Arguments:=match s with
 |.FunctionDef _ a _ _ _ _ _ _ _ _=>a
 |_=>{ posonlyargs:=[],args:=[],vararg:=none,kwonlyargs:=[],kw_defaults:=[],kwarg:=none,defaults:=[] }
noncomputable def zA7 (s:Stmt):List Stmt:=match s with
 |.FunctionDef _ _ b _ _ _ _ _ _ _=>b
 |_=>[]
noncomputable def zAM (s:Stmt):Scope:=match s with
 |.FunctionDef _ _ _ _ _ _ sc _ _ _=>sc
 |_=>{ kind:=.function,names:=[],isGenerator:=false,isCoroutine:=false }
abbrev CX0:CXT:=λ Ω Ω Ω Ω Ω Ω=>False
abbrev E0:XK:=λ Ω Ω Ω=>False
theorem pass0 {X:Cx}:zHp CX0 X E0:=λ Ω Ω Ω Ω Ω Ω Ω h=>h.elim
structure Fun (K:W.Frag) (x qual:Str) (st:Stmt) (f:Addr) (fd:FuncData):Prop where
 ex:∃(oc:Value) (od:Option Addr) (kV doc pm:Value) (an:Option Addr) (cdv ct:Value) (osl:Array (Option Value)),
  fd=W.fnOf x qual (zBG st) (zA7 st) (zAM st) .none kV doc pm an cdv ct/\K.lookup f=some ⟨oc,od,.func fd,osl⟩/\W.codeIn K cdv qual=true
 kp:W.keepIn K (.ref f)=true
section
variable {P:Program}{w:World}{K:W.Frag}{mg:Str->Option Value}{base:Heap}
theorem Fun.ok {x qual:Str}{st:Stmt}{f:Addr}{fd:FuncData}{N ps:List Str}{k:Nat}{sp:Sp}(F:Fun K x qual st f fd) (S:zAV N ps (zAM st)) (len:∀vs H Q E,sp vs H Q E->vs.length=ps.length)
  (hbody:∀(cdv:Value) (A:Around) (outer:List Env) (s:Shared) (H:Hp) (vs:List V) (Q:VK) (E:XK),Room k (A.deeper (envOfC qual (zAM st) s.heap.objs.size f cdv))->sp vs H Q E ->
   ∃t,PSs (cxOf CX0 P w K mg base N qual (zAM st) f cdv A outer s H E).nox (zA7 st) t/\t { nx:=λ Ω H'=>Q .non H',rt:=Q } (start N vs) H):FnOk P w K mg base CX0 (k+1) f fd ps sp:=by
 obtain⟨oc,od,kV,doc,pm,an,cdv,ct,osl,rfl,lk,hcd⟩:=F.ex;refine fn_of lk hcd S len λ A outer s H vs Q E hr hsp=>?_;obtain⟨t,h,q⟩:=hbody cdv A outer s H vs Q E hr hsp;exact⟨t,h.nox,q⟩
theorem Fun.binds {x qual:Str}{st:Stmt}{f:Addr}{fd:FuncData}{ps:List Str}(F:Fun K x qual st f fd)
  (h:∀(kV doc pm:Value) (an:Option Addr) (cdv ct:Value) (us:List Value),us.length=ps.length->bindArgs (W.fnOf x qual (zBG st) (zA7 st) (zAM st) .none kV doc pm an cdv ct) ⟨us,[]⟩=pure (ps.zip us)):Binds K fd ps []:=by
 obtain⟨oc,od,kV,doc,pm,an,cdv,ct,osl,rfl,lk,hcd⟩:=F.ex;exact .all (h kV doc pm an cdv ct)
theorem zLP {x qual:Str}{st:Stmt}{f:Addr}{oc:Value}{od an:Option Addr}{osl:Array (Option Value)}{kV doc pm cdv ct:Value}(l:K.lookup f=some ⟨oc,od,.func (W.fnOf x qual (zBG st) (zA7 st) (zAM st) .none kV doc pm an cdv ct),osl⟩)
  (c:W.codeIn K cdv qual=true) (k:W.keepIn K (.ref f)=true):Fun K x qual st f (W.fnOf x qual (zBG st) (zA7 st) (zAM st) .none kV doc pm an cdv ct):=⟨⟨oc,od,kV,doc,pm,an,cdv,ct,osl,rfl,l,c⟩,k⟩
end
theorem hu_of {A:Around}{k:Nat}(hr:Room k A):A.units+1<cLine:=Nat.lt_of_le_of_lt (Nat.add_le_add_left (by decide:1<=64) _) hr.units
theorem zAO {n:Nat}(h:n<=1000):n<sizeLine:=Nat.lt_of_le_of_lt h 66
section
variable {X:Cx}
theorem pv (i:Nat) {x:Str}{pos:Pos}(hN:X.N[i]?=some x:=by rfl) (hv:Vis X.env.scope x:=by first|exact Or.inl rfl|exact Or.inr (Or.inl rfl)|exact Or.inr (Or.inr rfl)) (hd:(x == ("__debug__" : Str))=false:=by decide)
  (hcd:(x == ("__classdict__" : Str))=false:=by decide):PE X (.Name x pos) (tVar i):=zMa hN hv hd hcd
end
theorem iteF {A B:Prop}(h:B):if false=true then A else B:=by
 rw[if_neg Bool.false_ne_true];exact h
theorem iteT {A B:Prop}(h:A):if true=true then A else B:=by
 rw[if_pos rfl];exact h
theorem ite2 {c A B:Prop} [Decidable c] (h1:c->A) (h2:¬c->B):if c then A else B:=by
 by_cases h:c
 ·rw[if_pos h]
  exact h1 h
 ·rw[if_neg h]
  exact h2 h
def Same (H H':Hp):Prop:=∀b o,H b=some o->H' b=some o
theorem Same.refl (H:Hp):Same H H:=λ Ω Ω h=>h
theorem Same.trans {H H1 H2:Hp}(a:Same H H1) (b:Same H1 H2):Same H H2:=λ c o h=>b c o (a c o h)
theorem Same.free {H H':Hp}(e:Same H H') {l:Addr}(h:H' l=Option.none):H l=Option.none:=by
 cases q:H l with
 |none=>rfl
 |some o =>
  rw[e l o q] at h;cases h
theorem Same.seq {K:W.Frag}{H H':Hp}{a:Addr}{xs:List V}(e:Same H H') (h:SqL K H a xs):SqL K H' a xs:=by
 rcases h with (h|⟨o,h⟩)|h
 ·exact .inl (.inl (e _ _ h))
 ·exact .inl (.inr ⟨o,e _ _ h⟩)
 ·exact .inr h
abbrev NoX:Value->Shared->Prop:=λ Ω Ω=>False
theorem noX {al:Type}{t:Sem al}{Q:al->Shared->Prop}{M:Model}{A:Around}{E:XQ}{s:Shared}(h:wpAny M A t Q NoX s):wpAny M A t Q E s :=
 wpAny_mono h (λ Ω Ω q=>q) λ Ω Ω z=>z.elim
noncomputable def capSt (cap:List (Option Nat)) (σ:St):St:=cap.map λ o=>match o with
 |none=>none
 |some j=>(σ[j]?).join
inductive Ext:St->St->Prop
 |nil:Ext [] []
 |skip {a b:St}{x:Option V}:Ext a b->Ext (none::a) (x::b)
 |keep {a b:St}{x:Option V}:Ext a b->Ext (x::a) (x::b)
theorem Ext.len {a b:St}(h:Ext a b):a.length=b.length:=by
 induction h with
 |nil=>rfl
 |skip _ ih=>simp[ih]
 |keep _ ih=>simp[ih]
theorem Ext.get {a b:St}(h:Ext a b):∀(i:Nat) v,a[i]?=some (some v)->b[i]?=some (some v):=by
 induction h with
 |nil=>intro i v e;simp at e
 |skip _ ih =>
  intro i v e;cases i with
  |zero=>simp at e
  |succ i=>simpa using ih i v (by simpa using e)
 |keep _ ih =>
  intro i v e;cases i with
  |zero=>simpa using e
  |succ i=>simpa using ih i v (by simpa using e)
noncomputable def Cx.block (X:Cx) (sc:Scope) (cl:List (Str × Addr)) (N:List Str) (s:Shared) (H:Hp) (C:Addr) (ex:List Addr):Cx where
 prog:=X.prog
 w:=X.w
 K:=X.K
 mg:=X.mg
 base:=X.base
 A:=X.A
 N:=N
 s₀:=s
 H₀:=H
 env:=compEnvC sc cl C X.env
 outer:=X.stack
 stack:=X.stack
 ex:=ex
 fn:=λ Ω=>false
 calm:=X.calm
 pn:=[]
 xe:=NoX
theorem zDt {env:Env}:∀(names:List (Str × NameKind)) (cs:List (Str × Addr)),(∀n,(n,NameKind.free)∈names->∃c,env.cells.lookup n=some c) ->
  (∀x c,cs.lookup x=some c->env.cells.lookup x=some c) ->
  ∃cl:List (Str × Addr),(forIn names cs λ(x:Str × NameKind) (r:List (Str × Addr))=>(if (x.2 == NameKind.free)=true then do let c ← cellOf env x.1;pure (ForInStep.yield ((x.1,c)::r)) else pure (ForInStep.yield r)):Sem (List (Str × Addr)))=pure cl /\
   (∀x c,cl.lookup x=some c->env.cells.lookup x=some c)/\(∀n,(n,NameKind.free)∈names->∃c,cl.lookup n=some c)/\(∀n c,cs.lookup n=some c->∃c,cl.lookup n=some c)
 |[],cs,_,hc=>⟨cs,rfl,hc,λ Ω h=>(nomatch h),λ n c e=>⟨c,e⟩⟩
 | (n,k)::r,cs,h,hc=>by
  by_cases hk:k = .free
  ·subst hk
   obtain⟨c,ec⟩:=h n lO
   have hc':∀x c',((n,c)::cs).lookup x=some c'->env.cells.lookup x=some c':=λ x c' e=>by
    rw[List.lookup_cons] at e;cases hx:x == n with
    |true=>rw[hx] at e;cases e;rw[eq_of_beq hx];exact ec
    |false=>rw[hx] at e;exact hc x c' e
   obtain⟨cl,e1,e2,e3,e4⟩:=zDt r ((n,c)::cs) (λ m hm=>h m (lP _ hm)) hc';refine⟨cl,?_,e2,λ m hm=>?_,λ m c' e=>?_⟩
   ·rw[List.forIn_cons,←e1]
    simp only[beq_self_eq_true,if_true,cellOf,ec];rfl
   ·rcases lM.mp hm with z|z
    ·cases z
     exact e4 n c 59
    ·exact e3 m z
   ·by_cases hm:m=n
    ·subst hm;exact e4 m c 59
    ·exact e4 m c' (by rw[List.lookup_cons,beq_eq_false_iff_ne.mpr hm];exact e)
  ·have hb:(k == NameKind.free)=false:=by simpa using hk
   obtain⟨cl,e1,e2,e3,e4⟩:=zDt r cs (λ m hm=>h m (lP _ hm)) hc;refine⟨cl,?_,e2,λ m hm=>?_,e4⟩
   ·rw[List.forIn_cons,←e1]
    simp only[hb,Bool.false_eq_true,if_false];rfl
   ·rcases lM.mp hm with z|z
    ·cases z;exact absurd rfl hk
    ·exact e3 m z
theorem zFB {sc:Scope}{env:Env}(h:∀n,(n,NameKind.free)∈sc.names->∃c,env.cells.lookup n=some c) :
  ∃cl:List (Str × Addr),closureFor sc env=pure cl/\(∀x c,cl.lookup x=some c->env.cells.lookup x=some c)/\(∀n,(n,NameKind.free)∈sc.names->∃c,cl.lookup n=some c):=by
 obtain⟨cl,e1,e2,e3,_⟩:=zDt (env:=env) sc.names [] h (λ x c e=>by simp at e);refine⟨cl,?_,e2,e3⟩;unfold closureFor;rw[←bind_pure (pure cl),←e1]
theorem zDs {names:List (Str × NameKind)}{x:Str}{k:NameKind}(h:names.lookup x=some k):(x,k)∈names:=by
 induction names with
 |nil=>simp at h
 |cons p r ih =>
  obtain⟨n,j⟩:=p;rw[List.lookup_cons] at h;cases hx:x == n with
  |true=>rw[hx] at h;cases h;rw[eq_of_beq hx];exact lO
  |false=>rw[hx] at h;exact lP _ (ih h)
set_option tactic.hygienic true in
theorem zD1 {sc:Scope}{env:Env}{x:Str}{k:NameKind}(hk:k = .cell\/k = .free) (nc:∀y∈sc.names,y.2 ≠ .cell) (h:(relabel sc env).names.lookup x=some k):(x,NameKind.free)∈sc.names:=by
 have m:=zDs h;obtain⟨⟨n,j⟩,hm,e⟩:=mB.mp m;have q:(if (j == NameKind.free && env.scope.kind == .function && env.kindOf n == some .cell)=true then (n,NameKind.cell) else (n,j))=(x,k):=e;split at q
 ·rename_i c
  rw[Bool.and_eq_true,Bool.and_eq_true] at c;have j':j = .free:=by simpa using c.1.1
  cases q;rw[j'] at hm;exact hm
 ·cases q
  rcases hk with z|z
  ·exact absurd z (nc _ hm)
  ·rw[z] at hm;exact hm
theorem zBP {sc:Scope}{env:Env}{x:Str}:∀{names:List (Str × NameKind)},names.lookup x=some .free ->
  (names.map λ(n,k)=>if (k == NameKind.free && env.scope.kind == .function && env.kindOf n == some .cell) then (n,NameKind.cell) else (n,k)).lookup x=some .cell \/
  (names.map λ(n,k)=>if (k == NameKind.free && env.scope.kind == .function && env.kindOf n == some .cell) then (n,NameKind.cell) else (n,k)).lookup x=some .free
 |[],h=>by simp at h
 | (n,k)::r,h=>by
  have ih:=@zBP sc env x r;rw[List.lookup_cons] at h
  by_cases c:(k == NameKind.free && env.scope.kind == .function && env.kindOf n == some .cell)=true
  ·rw[mJ]
   simp only[c,if_true,List.lookup_cons];cases hx:x == n with
   |true=>exact .inl rfl
   |false=>rw[hx] at h;exact ih h
  ·rw[mJ]
   have c':=Bool.eq_false_iff.mpr c;simp only[c',Bool.false_eq_true,if_false,List.lookup_cons];cases hx:x == n with
   |true=>rw[hx] at h;cases h;exact .inr rfl
   |false=>rw[hx] at h;exact ih h
theorem zGF {P:Program}{w:World}{A:Around}{R:Result->Shared->Prop}{s:Shared}{elt tg iter:Expr}{ifs:List Expr}{sc:Scope}{pos:Pos}{it acc:Value}{env:Env}(J:Nat->Shared->Prop)
  (turn:∀n s,J n s->wpAny (model P w) A (pyNext it) (λ r s1=>match r with
   |none=>R (.ok .next) s1
   |some v=>wpAny (model P w) A (letOwnedTupleGo tg it v) (λ Ω s2=>wpAny (model P w) A (assign tg env v) (λ Ω s3 =>
     wpAny (model P w) A (forIn ifs true λ c r=>if r=true then do let ok ← isTrue c env (eval c env);pure (ForInStep.yield ok) else pure (ForInStep.yield r)) (λ ok s4 =>
      if ok=true then wpAny (model P w) A (eval elt env) (λ x s5=>wpAny (model P w) A (call (.builtin "list.append") [acc,x]) (λ Ω s6=>∃m,m<n/\J m s6) NoX s5) NoX s4
      else ∃m,m<n/\J m s4) NoX s3) NoX s2) NoX s1) NoX s) (n:Nat) (h:J n s) :
  codeAny (model P w) A (.compLoop 93 0 it acc env) R s:=by
 refine codeAny_loop rfl J (λ n s hJ=>?_) n h;refine wpAny_noted ?_;rw[compTurn_list];refine lA (wpAny_standAt (lA (noX (thn (turn n s hJ) λ r s1 h1=>?_))));cases r with
 |none=>exact lB h1
 |some v =>
  refine lA (noX (thn h1 λ Ω s2 h2=>?_));refine lA (noX (thn h2 λ Ω s3 h3=>?_));refine lA (noX (thn h3 λ ok s4 h4=>?_));cases ok with
  |false=>exact lB ⟨rfl,h4⟩
  |true=>exact lA (lA (noX (thn h4 λ x s5 h5=>lA (noX (thn h5 λ Ω s6 h6=>lB (lB ⟨rfl,h6⟩))))))
def PTs (X:Cx) (ifs:List Expr) (t:TT):Prop :=
 ∀(jP:List 71) (s:Shared) (σ:St) (H:Hp) (Q:Bool->Hp->Prop),Inv X jP σ H s->t σ H Q ->
  wpAny 67 X.A (forIn ifs true λ c r=>if r=true then do let ok ← isTrue c X.env (eval c X.env);pure (ForInStep.yield ok) else pure (ForInStep.yield r)) (TP X jP σ Q) X.xe s
def tYes:TT:=λ Ω H Q=>Q true H
theorem zCh {X:Cx}:PTs X [] tYes:=λ Ω Ω Ω H Ω I h=>wpAny_tests_nil ⟨H,I,h⟩
theorem zLk {X:Cx}{c:Expr}{t:TT}(h:PT X c t):PTs X [c] t:=λ jP s σ H Q I hq=>wpAny_tests_one (h jP s σ H Q I hq)
def tComp (cap:List (Option Nat)) (wi:TI) (g:TG) (tt:TT) (te:TE):TE:=λ σ H Q=>wi σ H λ J H1=>∀acc,H1 acc=none ->
 ∃W:Nat->Nat->Hp->Prop,(∃m,W 0 m (upd H1 acc (.lst [])))/\∀i m H2,W i m H2 ->
  (J.stop i H2/\Q (.ref acc) H2)\/(J.go i H2/\∃N:Hp->Prop,(∀H',N H'->∃m',m'<m/\W (i+1) m' H')/\∀x H3,J.yld i H2 x H3->g x (capSt cap σ) H3 λ σ2 H4=>Ext (capSt cap σ) σ2/\tt σ2 H4 λ b H5 =>
   if b=true then te σ2 H5 λ y H6=>∃zs,H6 acc=some (.lst zs)/\zs.length<sizeLine/\N (upd H6 acc (.lst (zs++[y])))
   else N H5)
theorem HOk.but {P:Program}{w:World}{H:Hp}{h h':Heap}{C:Addr}(x:HOk P w H h) (n:H C=none) (sb:Heap.SameBut C h h'):HOk P w H h':=λ a o e =>
 (x a o e).stay (λ b u hb q=>(sb.2 b (λ z=>by
  subst z;rcases hb with z|z
  ·subst z;rw[n] at e;cases e
  ·rw[n] at z;cases z)).trans q) (λ Ω q=>q) λ Ω Ω q=>q
theorem Un.but {fs ex:List Addr}{H H':Hp}{h h1 h2:Heap}{C:Addr}(u:Un fs ex H H' h h1) (lt:h.objs.size<=C) (sb:Heap.SameBut C h1 h2):Un fs ex H H' h h2:=by
 have ne:∀b o,h.get? b=some o->b≠C:=λ b o e=>lR (lY (lH e) lt);refine⟨λ b o e n hb hx=>(sb.2 b (ne b o e)).trans (u.keep b o e n hb hx),λ b o e n hb hx=>?_,u.free,λ b o e hx=>?_,u.tups,u.frzs,u.tbls⟩
 ·obtain⟨sl,q⟩:=u.slot b o e n hb hx
  exact⟨sl,(sb.2 b (ne b o e)).trans q⟩
 ·obtain⟨o',q⟩:=u.there b o e hx
  exact⟨o',(sb.2 b (ne b o e)).trans q⟩
section
variable {X:Cx}
theorem zHg {jP:List 71}{σ:St}{H:Hp}{s:Shared}{sc:Scope}{cl:List (Str × Addr)}{N:List Str}{C:Addr}{fp:List Addr}(I:Inv X jP σ H s) (hk:sc.kind = .function) (nc:∀y∈sc.names,y.2 ≠ .cell)
  (hC:s.heap.objs.size<=C) (hf:∀b∈fp,FpOk X jP H b) (hfo:∀b∈fp,∃o,s.heap.get? b=some o) (c1:∀x c,cl.lookup x=some c->X.env.cells.lookup x=some c) (c2:∀n,(n,NameKind.free)∈sc.names->∃c,cl.lookup n=some c) :
  (X.block sc cl N s H C fp).Ok where
 mod:=I.ok.mod
 kind:=hk
 glob:=I.ok.glob
 blt:=I.ok.blt
 above:=hC
 inj:=λ x y c e e'=>I.ok.inj x y c (c1 x c e) (c1 y c e')
 has:=λ x h=>c2 x (h.elim (zD1 (.inl rfl) nc) (zD1 (.inr rfl) nc))
 cab:=λ x c e=>(nomatch e)
 hd:=I.ok.hd
 frames:=I.ok.frames
 stk:=.inl rfl
 exf:=λ b hb=>⟨λ z=>by
  obtain⟨o,e⟩:=hfo b hb;have lt:=lH e;rw[z] at lt;exact absurd (lY lt hC) (Nat.lt_irrefl _),λ x c e=>(hf b hb).2.2.2.2.1 x c (c1 x c e)⟩
 bs:=I.bs
 bsz:=mF I.ok.bsz I.sz
 noex:=λ b o e hb=>by
  rcases (hf b hb).2.2.2.1 with z|z
  ·exact I.ok.noex b o e z
  ·exact absurd (lY (lH (I.ok.bs b o e).1) z) (Nat.lt_irrefl _)
 exfs:=λ b hb hs=>by
  rcases lM.mp (I.stkSub b hs) with z|z
  ·exact(hf b hb).2.1 z
  ·exact(hf b hb).2.2.1 z
 funs:=I.stack
 frf:=I.stkFree
theorem zLq {elt tg iter:Expr}{ifs:List Expr}{sc:Scope}{pos:Pos}{wi:TI}{g:TG}{tt:TT}{te:TE}(N:List Str) (cap:List (Option Nat)) (hc:X.calm=true) (hi:PI X tg iter wi)
  (hg:∀cl s H C ex,PG (X.block sc cl N s H C ex) tg g) (ht:∀cl s H C ex,PTs (X.block sc cl N s H C ex) ifs tt) (he:∀cl s H C ex,PE (X.block sc cl N s H C ex) elt te)
  (hk:sc.kind = .function) (nc:∀y∈sc.names,y.2 ≠ .cell) (hnames:∀y∈sc.names,y.2 = .local->sc.names.lookup y.1=some .local)
  (hfree:∀n,(n,NameKind.free)∈sc.names->X.env.kindOf n=some .cell)
  (hcap:∀(i j:Nat),cap[i]?=some (some j)->∃x,N[i]?=some x/\X.N[j]?=some x/\sc.names.lookup x=some .free) (hlen:cap.length=N.length)
  (hs:∀x,foldedSetIterable iter X.env x=pure x:=by intro _;rfl):PE X 93 (tComp cap wi g tt te):=by
 intro jP s σ H Q I h;obtain⟨cl,hclos,c1,c2⟩:=zFB (sc:=sc) (env:=X.env) λ n hn=>I.ok.has n (.inl (hfree n hn));rw[eval_ListComp];refine wpAny_comprehension_free (use:=none) rfl hs hclos hk hnames ?_;refine thn (hi jP s σ H _ I h) λ v s1 h1=>thn h1 λ itv s2 h2=>?_;obtain⟨it,fp,tn,J,H2,e,I2,T,st2,f2,q2⟩:=h2;subst e;have hfr:H2 s2.heap.objs.size=none:=I2.fresh;obtain⟨W,⟨m0,w0⟩,turn⟩:=q2 s2.heap.objs.size hfr;have I3:=I2.lnew (ys:=[]) (its:=[]) (t':=s2.toks) .nil (lX _);have hacc:H2 s2.heap.objs.size=none:=hfr;refine wpAny_newObj_type (wpAny_newFunctionEnv nc (by intro y hy;simp at hy) (λ h4 hns hsb=>?_) hk);generalize hs3:({ s2 with heap:=s2.heap.push { cls:=.type "list", data:=.seq ([]:List Value).toArray } }:Shared)=s3 at hns hsb I3 ⊢;have hheap:s3.heap=s2.heap.push { cls:=.type "list", data:=.seq ([]:List Value).toArray }:=by rw[←hs3]
 generalize hH3:upd H2 s2.heap.objs.size (.lst [])=H3 at I3 w0;have up2:∀b o,s2.heap.get? b=some o->s3.heap.get? b=some o:=λ b o q=>by rw[hheap];exact lE _ q
 have neA:∀b∈fp,b≠s2.heap.objs.size:=λ b hb=>by
  obtain⟨o,q,_⟩:=T.obj _ _ st2 b hb;exact lR (lH q)
 have f3:∀b∈fp,FpOk X jP H3 b:=λ b hb=>⟨by rw[←hH3,zAR (neA b hb)];exact(f2 b hb).1,(f2 b hb).2⟩
 have o3:∀b∈fp,∃o,s3.heap.get? b=some o:=λ b hb=>by
  obtain⟨o,q,_⟩:=T.obj _ _ st2 b hb;exact⟨o,up2 b o q⟩
 have ok':=zHg (N:=N) (C:=s3.heap.objs.size) I3 hk nc (lQ _) f3 o3 c1 c2;generalize hC:s3.heap.objs.size=C at hns hsb ok' ⊢;have ltC:∀b o,s3.heap.get? b=some o->b≠C:=λ b o q=>by rw[←hC];exact lR (lH q)
 have up4:∀b o,s3.heap.get? b=some o->h4.get? b=some o:=λ b o q=>hsb.extBut b o (ltC b o q) (lE _ q);have st4:tn 0 h4:=T.keep _ _ _ st2 λ b hb o q=>up4 b o (up2 b o q)
 have I4:Inv 95 [] (capSt cap σ) H3 { s3 with heap:=h4,toks:=s3.toks+([]:List (Str × Value)).length }:=by
  refine⟨ok',rfl,I3.bare,Un.kept up4,⟨_,hns,λ i x v e1 e2 e3=>?_⟩,λ x c q=>?_,?_,λ x c q=>I3.freeC x c (c1 x c q),λ p hp=>(nomatch hp),I3.hok.kept up4,?_⟩
  ·have ee:∃j,cap[i]?=some (some j)/\σ[j]?=some (some v):=by
    unfold capSt at e2;rw[mH] at e2;cases q:cap[i]? with
    |none=>rw[q] at e2;cases e2
    |some o =>
     rw[q] at e2;cases o with
     |none=>cases e2
     |some j =>
      refine⟨j,rfl,?_⟩;have e2':some ((σ[j]?).join)=some (some v):=e2;cases z:σ[j]? with
      |none=>rw[z] at e2';cases e2'
      |some o' =>
       rw[z] at e2';have e2'':o'=some v:=mD e2';rw[e2'']
   obtain⟨j,ej,es⟩:=ee;obtain⟨x',n1,n2,n3⟩:=hcap i j ej;have e1':N[i]?=some x:=e1;rw[n1] at e1';cases e1';have hfr':(x,NameKind.free)∈sc.names:=zDs n3;have kc:=hfree x hfr';obtain⟨m,_,hl⟩:=I3.loc;obtain⟨u,r,l⟩:=hl j x v n2 es (.inr (.inl kc));refine⟨u,r,?_⟩;rcases l with ⟨l,_⟩|⟨_,c,ec,z⟩
   ·rw[kc] at l;cases l
   ·obtain⟨c',ec'⟩:=c2 x hfr'
    have:=c1 x c' ec';rw[ec] at this;cases this;obtain⟨oc,q1,q2⟩:=z;exact .inr ⟨zBP (sc:=sc) n3,c,ec',oc,up4 _ _ q1,q2⟩
  ·obtain⟨v,oc,q1,q2⟩:=I3.cell x c (c1 x c q)
   exact⟨v,oc,up4 _ _ q1,q2⟩
  ·exact I3.hok.fresh (by rw[hC];exact lQ _)
  ·show (capSt cap σ).length=N.length
   unfold capSt;rw[lC,hlen]
 have loop:codeAny 67 X.A (.compLoop 93 0 (.ref it) (.ref s2.heap.objs.size) (compEnvC sc cl C X.env)) (compPost 67 X.A X.xe none (EP X jP σ Q) (.ref s2.heap.objs.size) C)
   { s3 with heap:=h4,toks:=s3.toks+([]:List (Str × Value)).length }:=by
  have stat:∀{H':Hp},(∀b∈fp,H' b=none)->∀b∈fp,FpOk 95 [] H' b:=λ hn b hb =>
   ⟨hn b hb,(ok'.exf b hb).1,ok'.exfs b hb,.inl hb,(ok'.exf b hb).2,λ p hp=>(nomatch hp)⟩
  refine zGF (λ n s'=>∃i H',Inv 95 [] (capSt cap σ) H' s'/\tn i s'.heap/\(∀b∈fp,H' b=none)/\W i n H') ?_ m0 ⟨0,H3,I4,st4,λ b hb=>(f3 b hb).1,w0⟩;rintro n s5 ⟨i,H5,I5,st5,fr5,w5⟩;rcases turn i n H5 w5 with ⟨stop,qn⟩|⟨go,N',hN',step⟩
  ·refine thn (T.done 95 rfl rfl rfl hc i [] s5 _ H5 NoX I5 (stat fr5) st5 stop) λ r s6 ⟨hr,I6⟩=>?_
   subst hr;obtain⟨m,hm,_⟩:=I6.loc;refine⟨m,hm,λ h' sb=>⟨.ref s2.heap.objs.size,H5,?_,rfl,qn⟩⟩;refine I3.call' (s':={ s6 with heap:=h' }) (ch:=fp) I6.os (I6.base.but (by rw[←hC];exact lQ _) sb) (I6.hok.but I6.free sb) I6.bare λ b hb=>?_;obtain⟨g0,g1,g2,g3,g4,g5⟩:=f3 b hb;exact⟨g3,g1,g4,g5⟩
  ·refine thn (T.item 95 rfl rfl rfl hc i [] s5 _ H5 NoX I5 (stat fr5) st5 go) λ r s6 ⟨u,hr,h6⟩=>?_
   subst hr;refine thn h6 λ _ s7 ⟨x,H7,I7,r7,y7,st7,fr7⟩=>?_;have I7':=I7.pinned (stat fr7) (T.obj _ _ st7)
   have again:∀{σ8:St}{H8:Hp}{s8:Shared},Inv 95 ([]++zE5 fp s7.heap) σ8 H8 s8->Ext (capSt cap σ) σ8->N' H8 ->
     ∃m,m<n/\∃i H',Inv 95 [] (capSt cap σ) H' s8/\tn i s8.heap/\(∀b∈fp,H' b=none)/\W i m H':=λ{σ8 H8 s8} I8 ex n8=>by
    obtain⟨m',hm,w8⟩:=hN' H8 n8;have I8':=I8.unpinned.weak ex.len ex.get;refine⟨m',hm,i+1,H8,I8',T.keep _ _ _ st7 λ b hb o q=>(I8.pin (b,o) (lZ _ (lZ _ (zBr hb q)))).1,λ b hb=>?_,w8⟩;obtain⟨o,q,d⟩:=T.obj _ _ st7 b hb;exact(I8.pin (b,o) (lZ _ (lZ _ (zBr hb q)))).2.1
   refine thn (hg cl s3 H3 C fp _ s7 _ H7 x u _ I7' r7 (step x H7 y7)) λ _ s8 ⟨σ8,H8,I8,ex8,q8⟩=>?_;refine thn (ht cl s3 H3 C fp _ s8 σ8 H8 _ I8 q8) λ b s9 ⟨H9,I9,q9⟩=>?_;cases b with
   |false=>exact again I9 ex8 q9
   |true =>
    rw[if_pos rfl] at q9 ⊢;refine thn (he cl s3 H3 C fp _ s9 σ8 H9 _ I9 q9) λ yv s10 ⟨y,H10,I10,r10,zs,e10,l10,q10⟩=>?_;refine thn (zEY (X:=X.block sc cl N s3 H3 C fp) _ s10 σ8 H10 (.ref s2.heap.objs.size) [y] (.ref s2.heap.objs.size) [yv] (λ Ω H'=>N' H') I10 rfl (.cons r10 .nil) ⟨_,zs,y,rfl,rfl,e10,l10,q10⟩) λ _ s11 ⟨_,H11,I11,_,q11⟩=>?_;exact again I11 ex8 q11
 exact codeAny_compStart_list loop (T.self X.A 0 _ _ _ st4 loop)
end
theorem zK3 {K:W.Frag}{a acc:Addr}{xs:List V}{g:TG}{tt:TT}{te:TE}{σ:St}{H:Hp}{Q:VK}(Pv:Nat->Hp->Prop) (h0:Pv 0 (upd H acc (.lst []))) (hl:∀i H,i<=xs.length->Pv i H->SqT K H a xs)
  (hs:∀i x H,xs[i]?=some x->Pv i H->g x σ H λ σ2 H4=>Ext σ σ2/\tt σ2 H4 λ b H5 =>
   if b=true then te σ2 H5 λ y H6=>∃zs,H6 acc=some (.lst zs)/\zs.length<sizeLine/\Pv (i+1) (upd H6 acc (.lst (zs++[y]))) else Pv (i+1) H5) (hd:∀H,Pv xs.length H->Q (.ref acc) H) :
  ∃W:Nat->Nat->Hp->Prop,(∃m,W 0 m (upd H acc (.lst [])))/\∀i m H2,W i m H2 ->
   ((Itt K a).stop i H2/\Q (.ref acc) H2)\/((Itt K a).go i H2/\∃N:Hp->Prop,(∀H',N H'->∃m',m'<m/\W (i+1) m' H')/\∀x H3,(Itt K a).yld i H2 x H3->g x σ H3 λ σ2 H4=>Ext σ σ2/\tt σ2 H4 λ b H5 =>
    if b=true then te σ2 H5 λ y H6=>∃zs,H6 acc=some (.lst zs)/\zs.length<sizeLine/\N (upd H6 acc (.lst (zs++[y])))
    else N H5):=by
 refine⟨λ i m H=>m=xs.length - i/\i<=xs.length/\Pv i H,⟨xs.length,by simp,lX _,h0⟩,?_⟩;rintro i m H2 ⟨rfl,hi,p⟩;have q:=hl i H2 hi p
 by_cases hlt:i<xs.length
 ·refine .inr ⟨⟨xs,xs[i],q,by simp[hlt]⟩,Pv (i+1),λ H' p'=>⟨xs.length - (i+1),by lia,rfl,hlt,p'⟩,λ x H' y=>?_⟩
  obtain⟨e,y⟩:=y;subst e;exact hs i x _ (y xs q) p
 ·have e:i=xs.length:=by lia
  subst e;exact .inl ⟨⟨xs,q,lQ _⟩,hd H2 p⟩
theorem zII {lo:Int}{n:Nat}{acc:Addr}{g:TG}{tt:TT}{te:TE}{σ:St}{H:Hp}{Q:VK}(Pv:Nat->Hp->Prop) (h0:Pv 0 (upd H acc (.lst [])))
  (hs:∀i H,i<n->Pv i H->g (.int (lo+i)) σ H λ σ2 H4=>Ext σ σ2/\tt σ2 H4 λ b H5 =>
   if b=true then te σ2 H5 λ y H6=>∃zs,H6 acc=some (.lst zs)/\zs.length<sizeLine/\Pv (i+1) (upd H6 acc (.lst (zs++[y]))) else Pv (i+1) H5) (hd:∀H,Pv n H->Q (.ref acc) H) :
  ∃W:Nat->Nat->Hp->Prop,(∃m,W 0 m (upd H acc (.lst [])))/\∀i m H2,W i m H2 ->
   ((Itr lo n).stop i H2/\Q (.ref acc) H2)\/((Itr lo n).go i H2/\∃N:Hp->Prop,(∀H',N H'->∃m',m'<m/\W (i+1) m' H')/\∀x H3,(Itr lo n).yld i H2 x H3->g x σ H3 λ σ2 H4=>Ext σ σ2/\tt σ2 H4 λ b H5 =>
    if b=true then te σ2 H5 λ y H6=>∃zs,H6 acc=some (.lst zs)/\zs.length<sizeLine/\N (upd H6 acc (.lst (zs++[y])))
    else N H5):=by
 refine⟨λ i m H=>m=n - i/\i<=n/\Pv i H,⟨n,by simp,lX _,h0⟩,?_⟩;rintro i m H2 ⟨rfl,hi,p⟩
 by_cases hlt:i<n
 ·refine .inr ⟨hlt,Pv (i+1),λ H' p'=>⟨n - (i+1),by lia,rfl,hlt,p'⟩,λ x H' y=>?_⟩
  obtain⟨e,y⟩:=y;subst e y;exact hs i _ hlt p
 ·have e:i=n:=by lia
  subst e;exact .inl ⟨lQ _,hd H2 p⟩
noncomputable def zHe (sc:Scope) (env:Env) (XN N:List Str) (cap:List (Option Nat)):Bool :=
 (sc.kind == .function) && (sc.names.all λ y=>y.2 != .cell) && (sc.names.all λ y=>y.2 != .local || sc.names.lookup y.1 == some .local) &&
 (sc.names.all λ y=>y.2 != .free || env.kindOf y.1 == some .cell) &&
 ((List.range cap.length).all λ i=>match cap[i]? with
  |some (some j)=>(match N[i]? with|some x=>XN[j]? == some x && sc.names.lookup x == some .free|none=>false)
  |_=>true) && (cap.length == N.length)
theorem zDY {X:Cx}{elt tg iter:Expr}{ifs:List Expr}{sc:Scope}{pos:Pos}{wi:TI}{g:TG}{tt:TT}{te:TE}(N:List Str) (cap:List (Option Nat)) (hc:X.calm=true) (hi:PI X tg iter wi)
  (hg:∀cl s H C ex,PG (X.block sc cl N s H C ex) tg g) (ht:∀cl s H C ex,PTs (X.block sc cl N s H C ex) ifs tt) (he:∀cl s H C ex,PE (X.block sc cl N s H C ex) elt te)
  (ck:zHe sc X.env X.N N cap=true) (hs:∀x,foldedSetIterable iter X.env x=pure x:=by intro _;rfl):PE X 93 (tComp cap wi g tt te):=by
 unfold zHe at ck;simp only[Bool.and_eq_true] at ck;obtain⟨⟨⟨⟨⟨k1,k2⟩,k3⟩,k4⟩,k5⟩,k6⟩:=ck;refine zLq N cap hc hi hg ht he (by simpa using k1) (λ y hy=>?_) (λ y hy z=>?_) (λ n hn=>?_) (λ i j e=>?_) (by simpa using k6) hs
 ·have:=List.all_eq_true.mp k2 y hy
  simpa using this
 ·have:=List.all_eq_true.mp k3 y hy
  rw[z] at this;simpa using this
 ·have:=List.all_eq_true.mp k4 _ hn
  simpa using this
 ·have hi:i<cap.length:=(lI.mp e).1
  have:=List.all_eq_true.mp k5 i (List.mem_range.mpr hi);rw[e] at this;dsimp only at this;cases q:N[i]? with
  |none=>rw[q] at this;cases this
  |some x =>
   rw[q] at this;dsimp only at this;rw[Bool.and_eq_true] at this;exact⟨x,rfl,by simpa using this.1,by simpa using this.2⟩
section
variable {prog:Program}{w:World}{A:Around}{E:XQ}{s:Shared}
theorem zAm {it t:Addr}{i:Nat}{items:Array Value}{x:Value}{Q:XQ}(hit:s.heap.IsTupleIter it t i) (ht:s.heap.IsTuple t items) (hx:items[i]?=some x)
  (hQ:∀h',h'.IsTupleIter it t (i+1)->Heap.SameBut it s.heap h'->Q x { s with heap:=h' }):wpAny (model prog w) A (Builtin.SmallTypes.nextOf (.ref it)) Q E s:=by
 obtain⟨o,ho,hc,hd⟩:=id hit;obtain⟨ol,hol,_,nl,hdl⟩:=ht;unfold Builtin.SmallTypes.nextOf;refine lA (wpAny_callSpecial?_slot (name:=Str.ofString "__next__") hit.typeIs F.slot_tuple_iterator_next (wpAny_call_entry F.slot_tuple_iterator_next hit.typeIs F.entry_tuple_iterator_next ?_ (F.args_tuple_iterator_next_1 _)));show wpAny _ _ (field (.ref it) 0 >>= _) _ _ s;refine lA (wpAny_field ho hd (x:=.ref t) rfl ?_);show wpAny _ _ (if (Value.ref t == Value.none)=true then _ else _) _ _ s;rw[if_neg (show ¬((Value.ref t == Value.none)=true) from Bool.false_ne_true)];show wpAny _ _ (field (.ref it) 1 >>= _) _ _ s;refine lA (wpAny_field ho hd (x:=.int i 0) rfl ?_);show wpAny _ _ (seqItems? (.ref t) >>= _) _ _ s;refine lA (wpAny_seqItems hol hdl ?_);simp only[Int.toNat_natCast,hx];refine lA (wpAny_setField ho hd 59 (lB ⟨x,rfl,lB (hQ _ ?_ (Heap.SameBut.update ..))⟩));exact⟨_,Heap.get?_update_self _ ho (Obj.isFreed_of_fields (Obj.data_mapFields hd _)),(Obj.cls_mapFields ..).trans hc,by rw[Obj.data_mapFields hd];simp[rawInt]⟩
theorem zAz {it t:Addr}{i:Nat}{items:Array Value}{Q:XQ}(hh:A.handled=none) (hit:s.heap.IsTupleIter it t i) (ht:s.heap.IsTuple t items) (hx:items[i]?=none)
  (hE:∀h' e,Heap.ExtBut it s.heap h'->(∃o,h'.get? e=some o/\o.cls = .type "StopIteration")->E (.ref e) { s with heap:=h' }):wpAny (model prog w) A (Builtin.SmallTypes.nextOf (.ref it)) Q E s:=by
 obtain⟨o,ho,hc,hd⟩:=id hit;obtain⟨ol,hol,_,nl,hdl⟩:=ht;unfold Builtin.SmallTypes.nextOf;refine lA (wpAny_callSpecial?_slot (name:=Str.ofString "__next__") hit.typeIs F.slot_tuple_iterator_next (wpAny_call_entry F.slot_tuple_iterator_next hit.typeIs F.entry_tuple_iterator_next ?_ (F.args_tuple_iterator_next_1 _)));show wpAny _ _ (field (.ref it) 0 >>= _) _ _ s;refine lA (wpAny_field ho hd (x:=.ref t) rfl ?_);show wpAny _ _ (if (Value.ref t == Value.none)=true then _ else _) _ _ s;rw[if_neg (show ¬((Value.ref t == Value.none)=true) from Bool.false_ne_true)];show wpAny _ _ (field (.ref it) 1 >>= _) _ _ s;refine lA (wpAny_field ho hd (x:=.int i 0) rfl ?_);show wpAny _ _ (seqItems? (.ref t) >>= _) _ _ s;refine lA (wpAny_seqItems hol hdl ?_);simp only[Int.toNat_natCast,hx];refine lA (wpAny_rule (lA (wpAny_setField ho hd 59 ?_)));show wpAny _ _ (newExc (.type "StopIteration") [] >>= _) _ _ _;refine lA ?_;simp only[newExc,newTuple];refine lA (wpAny_newObj_type ?_ (by size_fits));refine lA (m:=firstArgMember _ _) (wpAny_of_eq (a:=Value.none) (by first|rfl|(simp only[firstArgMember];rfl)) ?_);refine wpAny_newObj_type ?_ (by size_fits);simp only[raiseNew];refine lA (wpAny_handled ?_);first|rw[show A.in1.handled=none from hh]|rw[hh]
 refine lA (lB (wpAny_throw ?_));exact hE _ _ (((Heap.SameBut.update ..).extBut.push _).push _) ⟨_,lG _ rfl,rfl⟩
theorem zGs {prog:Program}{w:World}{A:Around}(hh:A.handled=none) (it t:Addr) (hne:t≠it) (items:Array Value) :
  Draws prog w A it [it,t] items.size (λ i v=>items[i]?=some v) (λ i h=>h.IsTupleIter it t i/\h.IsTuple t items) where
 live:=λ Ω Ω st=>let ⟨o,ho,_⟩:=st.1;⟨o,ho⟩
 frame:=λ Ω Ω Ω st hk=>⟨let ⟨o,ho,r⟩:=st.1;⟨o,hk it 59 o ho,r⟩,let ⟨o,ho,r⟩:=st.2;⟨o,hk t 59 o ho,r⟩⟩
 item:=λ i s Q E hi st hQ=>zAm st.1 st.2 (x:=items[i]) (by simp[hi]) λ h' hit' hs'=>hQ _ h' s.toks (by simp[hi]) ⟨hit',let ⟨o,ho,r⟩:=st.2;⟨o,hs'.extBut t o hne ho,r⟩⟩ hs'
 done:=λ s Q E st hE=>zAz hh st.1 st.2 59 hE
set_option tactic.hygienic true in
theorem zEx (l:Addr) (items:Array Value) (n:Nat) (dct:Option Addr) (sl:Array (Option Value)) :
  Meets (Builtin.«enumerate.__new__» ⟨[.type "enumerate", .ref l],[]⟩) (λ Ω R s=>s.heap.get? l=some { cls:=.type "tuple", dict:=dct,data:=.seq items n,slots:=sl } /\
   R (.ok (.ret (.ref (s.heap.push { cls:=.type "tuple_iterator", data:=.fields #[.ref l,.int 0 0] }).objs.size)))
    { s with heap:=(s.heap.push { cls:=.type "tuple_iterator", data:=.fields #[.ref l,.int 0 0] }).push { cls:=.type "enumerate", data:=.fields #[.none,.bool false,.ref s.heap.objs.size,rawInt 0,.none,.none] } }) :=
 .of_wp λ prog w A R s h=>by
  obtain⟨hp,g,d,tk,os⟩:=s;obtain⟨hl,h⟩:=h;have hsub:=sub_enumerate;have hL:Heap.IsTuple (Shared.heap ⟨hp,g,d,tk,os⟩) l items:=⟨_,hl,rfl,n,rfl⟩
  wp_walk using AutoSeq1.wpAny_loadPart' hl
  refine wpAny_stack_any λ st=>lB ?_;split
  ·rename_i c _ _ _ _ _;cases (c == Value.type "enumerate")
   ·wp_walk using AutoSeq1.wpAny_loadPart' hl,wpAny_pyIter_tuple hL;exact⟨_,rfl,h⟩
   ·wp_walk using AutoSeq1.wpAny_loadPart' hl,wpAny_pyIter_tuple hL;exact⟨_,rfl,h⟩
  ·wp_walk using AutoSeq1.wpAny_loadPart' hl,wpAny_pyIter_tuple hL;exact⟨_,rfl,h⟩
theorem zFc {l:Addr}{items:Array Value}{Q:XQ}(hL:s.heap.IsTuple l items)
  (h:∀h',IsEnum h' (s.heap.objs.size+1) s.heap.objs.size 0 .none->h'.IsTupleIter s.heap.objs.size l 0->h'.objs.size=s.heap.objs.size+2 ->
   (∀b o,s.heap.get? b=some o->h'.get? b=some o)->Q (.ref (s.heap.objs.size+1)) { s with heap:=h' }):wpAny (model prog w) A (call (.type "enumerate") [.ref l]) Q E s:=by
 obtain⟨⟨c,dct,dt,sl⟩,hl,hc,n,hd⟩:=hL;replace hc:c = .type "tuple" := hc;replace hd:dt = .seq items n:=hd;subst hc hd;refine callType_new F.called_enumerate 66 (F.typeCall_enumerate_1 _) (F.newCall_enumerate_1 _) (λ obj=>F.args_object_init_2 obj _) F.entry_enumerate_new (zEx l items n dct sl) ⟨hl,?_⟩;have hz:(s.heap.push { cls:=.type "tuple_iterator", data:=.fields #[.ref l,.int 0 0] }).objs.size=s.heap.objs.size+1:=Heap.size_push ..;show _/\_;rw[hz]
 have he:IsEnum ((s.heap.push { cls:=.type "tuple_iterator", data:=.fields #[.ref l,.int 0 0] }).push { cls:=.type "enumerate", data:=.fields #[.none,.bool false,.ref s.heap.objs.size,rawInt 0,.none,.none] }) (s.heap.objs.size+1) s.heap.objs.size 0 .none:=by
  have:=lG (s.heap.push { cls:=.type "tuple_iterator", data:=.fields #[.ref l,.int 0 0] }) (o:={ cls:=.type "enumerate", data:=.fields #[.none,.bool false,.ref s.heap.objs.size,rawInt 0,.none,.none] }) rfl;rw[hz] at this;exact this
 exact⟨⟨_,he,rfl⟩,h _ he ⟨_,lE _ (lG _ rfl),rfl,rfl⟩ (by rw[Heap.size_push,hz]) λ b o x=>lE _ (lE _ x)⟩
end
section
variable {X:Cx}{jP:List (Addr × Obj)}{σ:St}{H:Hp}{s:Shared}{h':Heap}
theorem Inv.turnedN {t':Nat}{ch:List Addr}(I:Inv X jP σ H s) (k:∀b o,b∉ch->s.heap.get? b=some o->h'.get? b=some o) (hf:∀b∈ch,FpOk X jP H b):Inv X jP σ H { s with heap:=h',toks:=t' }:=by
 refine I.step (g':=s.gens) (d':=s.drawn) (ch:=ch) (λ b hb=>?_) (λ b o Ω Ω hc e Ω=>k b o hc e) (λ b o Ω Ω hc e Ω=>⟨o.slots,k b o hc e⟩) (λ Ω Ω Ω Ω n=>n)
  (λ b o hc e=>⟨o,k b o hc e⟩) (λ Ω Ω e=>e) (λ Ω Ω Ω e=>e) (λ b ps e=>⟨#[],by rw[e];simp⟩) (λ m hm=>?_) (λ b u e=>?_) I.bare
 ·obtain⟨f0,f1,f2,f3,f4,f5⟩:=hf b hb
  exact⟨f3,f1,f4,f5⟩
 ·obtain⟨o,es,ep,ho,r⟩:=hm
  exact⟨o,es,ep,k _ o (λ z=>(hf _ z).2.1 rfl) ho,r⟩
 ·refine(I.hok b u e).stay (λ c v hc q=>k c v (λ z=>?_) q) (λ Ω q=>q) λ Ω Ω q=>q
  have n:=(hf c z).1;rcases hc with y|y
  ·rw[y,e] at n;cases n
  ·rw[y] at n;cases n
theorem Inv.turnedL {t':Nat}{ch:List Addr}{a:Addr}{o:HO}(I:Inv X jP σ H s) (k:∀b o,b∉ch->s.heap.get? b=some o->h'.get? b=some o) (hf:∀b∈ch,FpOk X jP H b) (hp:s.heap.objs.size<=a)
  (new:ObjOk X.prog X.w (upd H a o) h' a o):Inv X jP σ (upd H a o) { s with heap:=h',toks:=t' }:=by
 have hn:H a=none:=I.hok.fresh hp;have ne:∀b u,s.heap.get? b=some u->b≠a:=λ b u e=>lR (lY (lH e) hp)
 refine I.step (g':=s.gens) (d':=s.drawn) (ch:=ch) (λ b hb=>?_) (λ b o Ω Ω hc e Ω=>k b o hc e) (λ b o Ω Ω hc e Ω=>⟨o.slots,k b o hc e⟩) (λ b u Ω e n=>by rw[zAR (ne b u e)];exact n)
  (λ b o hc e=>⟨o,k b o hc e⟩) (λ b xs q=>by rw[zAR (zAL q hn)];exact q) (λ b u xs q=>by rw[zAR (zAL q hn)];exact q) (λ b ps q=>⟨#[],by rw[zAR (zAL q hn),q];simp⟩) (λ m hm=>?_) (λ b u e=>?_) I.bare
 ·obtain⟨f0,f1,f2,f3,f4,f5⟩:=hf b hb
  exact⟨f3,f1,f4,f5⟩
 ·obtain⟨o,es,ep,ho,r⟩:=hm
  exact⟨o,es,ep,k _ o (λ z=>(hf _ z).2.1 rfl) ho,r⟩
 ·by_cases hb:b=a
  ·subst hb
   rw[zAB] at e;cases e;exact new
  ·rw[zAR hb] at e
   refine(I.hok b u e).stay (λ c v hc q=>k c v (λ z=>?_) q) (λ c q=>by rw[zAR (zAL q hn)];exact q) λ c xs q=>by rw[zAR (zAL q hn)];exact q
   have n:=(hf c z).1;rcases hc with y|y
   ·rw[y,e] at n;cases n
   ·rw[y] at n;cases n
end
noncomputable def Ite (K:W.Frag) (a:Addr):It :=
 ⟨λ i H=>∃xs x,SqT K H a xs/\xs[i]?=some x,λ i H x H'=>∃T y,H T=none/\x = .ref T/\H'=upd H T (.tup [.int i,y])/\∀xs,SqT K H a xs->xs[i]?=some y,λ i H=>∃xs,SqT K H a xs/\xs.length<=i⟩
theorem zIT {P:Program}{w:World}{K:W.Frag}{es:List Expr}{k:Nat}{pos:Pos}(a e it:Addr) (hei:e≠it) :
  Turn P w K (.Tuple es k pos) (Ite K a) [e,it] e (λ i h=>(∃old,IsEnum h e it i old)/\h.IsTupleIter it a i) where
 mem:=by simp
 obj:=λ i h st b hb=>by
  obtain⟨⟨old,z⟩,o,e',c,d⟩:=st;rcases lM.mp hb with y|y
  ·subst y;exact⟨_,z,λ v q=>by have q':Data.fields _=Data.cell v:=q;cases q'⟩
  ·cases mO.mp y
   exact⟨o,e',λ v q=>by rw[d] at q;cases q⟩
 keep:=λ i h h' st k=>by
  obtain⟨⟨old,z⟩,o,e',r⟩:=st;exact⟨⟨old,k e 59 _ z⟩,o,k it 59 o e',r⟩
 item:=by
  intro X hP hw hK hc i jP s σ H E I hf st hg;subst hP hw hK;obtain⟨xs,x,hq,hx⟩:=hg;obtain⟨its,rv,p,hz⟩:=I.tuple hq;obtain⟨u,hu,ru⟩:=rv.get hx;obtain⟨⟨old,he⟩,hit⟩:=st;have p':s.heap.IsTuple a its.toArray:=p
  have hai:a≠it:=λ z=>by
   obtain⟨o1,q1,c1,_⟩:=p';obtain⟨o2,q2,c2,_⟩:=hit;rw[z,q2] at q1;cases q1;rw[c2] at c1;injection c1 with c3;exact absurd c3 66
  have hae:a≠e:=λ z=>by
   obtain⟨o1,q1,c1,_⟩:=p';rw[z] at q1;have he':s.heap.get? e=some _:=he;rw[he'] at q1;cases q1;injection c1 with c3;exact absurd c3 66
  have hilt:i<its.toArray.size:=by
   have:=(lI.mp hu).1;simpa using this
  refine wpAny_pyNext_enum_itemD (zGs (A:=X.A.in1) (I.ok.hd hc) it a hai its.toArray) he ⟨hit,p'⟩ hilt hei (by simp[hei,Ne.symm hae]) λ y h1 tk hy ho hst hT hsz hk=>?_
  have hyu:y=u:=by
   have:(its.toArray)[i]?=some u:=by simpa using hu
   rw[hy] at this;exact mD this
  subst hyu;refine⟨_,rfl,?_⟩;have hn:H s.heap.objs.size=none:=I.fresh
  have I1:Inv X jP σ (upd H s.heap.objs.size (.tup [.int i,x])) { s with heap:=h1,toks:=tk+1 }:=I.turnedL (ch:=[e,it]) (λ b o hb q=>hk b o (λ z=>hb (by simp[z])) (λ z=>hb (by simp[z])) q) hf (lQ _)
   ⟨Nat.le_of_lt (zAO (show 2<=1000 by decide)),[.int i tk,y],.cons 72 (.cons ru .nil),_,hT,rfl,_,rfl⟩
  have neT:∀b∈[e,it],b≠s.heap.objs.size:=λ b hb=>by
   rcases lM.mp hb with z|z
   ·subst z;exact lR (lH (show s.heap.get? b=some _ from he))
   ·cases mO.mp z
    obtain⟨o2,q2,_⟩:=hit;exact lR (lH q2)
  refine wpAny_letOwnedTupleGo_enum (s:={ s with heap:=h1,toks:=tk+1 }) ho λ h2 he2 hs2=>⟨.ref s.heap.objs.size,_,?_,rfl,⟨_,x,hn,rfl,rfl,λ ys hy'=>by rw[I.tuple_inj hy' hq];exact hx⟩,⟨⟨_,he2⟩,?_⟩,λ b hb=>?_⟩
  ·refine I1.turnedN (t':=tk+1) (ch:=[e]) (λ b o hb q=>(hs2.2 b (λ z=>hb (by simp[z]))).trans q) λ b hb=>?_
   have eb:=mO.mp hb;subst eb;obtain⟨f0,f⟩:=hf b 59;exact⟨by rw[zAR (neT b 59)];exact f0,f⟩
  ·obtain⟨o2,q2,r2⟩:=hst.1
   exact⟨o2,(hs2.2 it hei.symm).trans q2,r2⟩
  ·rw[zAR (neT b hb)];exact(hf b hb).1
 done:=by
  intro X hP hw hK hc i jP s σ H E I hf st hg;subst hP hw hK;obtain⟨xs,hq,hx⟩:=hg;obtain⟨its,rv,p,hz⟩:=I.tuple hq;obtain⟨⟨old,he⟩,hit⟩:=st;have p':s.heap.IsTuple a its.toArray:=p
  have hai:a≠it:=λ z=>by
   obtain⟨o1,q1,c1,_⟩:=p';obtain⟨o2,q2,c2,_⟩:=hit;rw[z,q2] at q1;cases q1;rw[c2] at c1;injection c1 with c3;exact absurd c3 66
  have hl:=rv.length;have hT:s.TypeIs (.ref e) "enumerate" := ⟨_,he,rfl⟩;unfold pyNext;refine lA 74;show wpAny _ _ (field (.ref e) 2 >>= _) _ _ _;refine lA (wpAny_field he rfl (x:=.ref it) rfl ?_);refine lA (zAz (I.ok.hd hc) hit p' (by simp;lia) λ h1 x hx1 ⟨o,ho,hc'⟩=>?_);refine lA (wpAny_isInstance (T := "StopIteration") (b:=true) ⟨o,ho,hc'⟩ isSubtype_stop ?_);exact lB ⟨rfl,I.turnedN (t':=s.toks) (ch:=[it]) (λ b o hb q=>hx1 b o (λ z=>hb (by simp[z])) q) λ b hb=>hf b (by simp at hb ⊢;exact .inr hb)⟩
 self:=λ Ω Ω Ω Ω Ω st h=>let ⟨⟨_,he⟩,_⟩:=st;wpAny_pyIter_enum he h
def iEnum (K:W.Frag) (ta:TA):TI:=λ σ H R=>ta σ H λ vs H1=>∃a,vs=[.ref a]/\(∃xs,SqT K H1 a xs)/\R (Ite K a) H1
theorem zGc {X:Cx}{es:List Expr}{k:Nat}{tpos:Pos}{a:Expr}{ta:TA}{p pos:Pos}(hg:Gl X "enumerate") (hm:X.mg "enumerate" = none) (ha:PA X [a] ta) (hs:starEach [a] X.env=[(false,eval a X.env)]:=by rfl) :
  PI X (.Tuple es k tpos) (.Call (.Name "enumerate" p) [a] [] pos) (iEnum X.K ta):=by
 intro jP s σ H R I h;refine Call_ (zDC I hg hm boot_enumerate (PyProof.Rows.callWith_type1 (thn (ha pos jP s σ H _ I h) λ us s1 ⟨vs,H1,I1,r1,q1⟩=>?_) hs rfl));obtain⟨b,e,⟨xs,hq⟩,q⟩:=q1;subst e;obtain⟨u,rfl,ru⟩:=vals1 r1;cases ru;obtain⟨its,rv,tp,hz⟩:=I1.tuple hq;refine zFc (show s1.heap.IsTuple b its.toArray from tp) λ h' he hit hsz hk=>?_;refine wpAny_pyIter_enum he ⟨_,[s1.heap.objs.size+1,s1.heap.objs.size],_,_,H1,rfl,I1.kept (t':=s1.toks) hk,zIT b _ _ (Nat.succ_ne_self _),⟨⟨_,he⟩,hit⟩,λ c hc=>?_,q⟩
 have ge:s1.heap.objs.size<=c:=by
  rcases lM.mp hc with z|z
  ·rw[z];exact Nat.le_succ _
  ·rw[mO.mp z];exact lQ _
 exact I1.fpOk ge (I1.hok.fresh ge)
theorem zFX {K:W.Frag}{a:Addr}{xs:List V}{g:TG}{tb:TS}{D:Ends}{σ:St}{H:Hp}(Pv:Nat->St->Hp->Prop) (h0:Pv 0 σ H) (hl:∀i σ H,i<=xs.length->Pv i σ H->SqT K H a xs)
  (hs:∀i x T σ H,xs[i]?=some x->Pv i σ H->H T=none->g (.ref T) σ (upd H T (.tup [.int i,x])) λ σ2 H2=>tb { D with nx:=Pv (i+1),ct:=Pv (i+1),bk:=D.nx } σ2 H2) (hd:∀σ H,Pv xs.length σ H->D.nx σ H) :
  ∃W:Nat->Nat->St->Hp->Prop,(∃m,W 0 m σ H)/\∀i m σ H,W i m σ H ->
   ((Ite K a).stop i H/\D.nx σ H)\/((Ite K a).go i H/\∃N:St->Hp->Prop,75/\∀x H',(Ite K a).yld i H x H'->g x σ H' λ σ2 H2=>tb { D with nx:=N,ct:=N,bk:=D.nx } σ2 H2):=by
 refine⟨λ i m σ H=>m=xs.length - i/\i<=xs.length/\Pv i σ H,⟨xs.length,by simp,lX _,h0⟩,?_⟩;rintro i m σ H ⟨rfl,hi,p⟩;have q:=hl i σ H hi p
 by_cases hlt:i<xs.length
 ·refine .inr ⟨⟨xs,xs[i],q,by simp[hlt]⟩,Pv (i+1),λ σ' H' p'=>⟨xs.length - (i+1),by lia,rfl,hlt,p'⟩,λ x H' y=>?_⟩
  obtain⟨T,z,hT,ex,eH,y⟩:=y;subst ex eH;exact hs i z T σ H (y xs q) p hT
 ·have e:i=xs.length:=by lia
  subst e;exact .inl ⟨⟨xs,q,lQ _⟩,hd σ H p⟩
section
variable {X:Cx}
theorem zAC {H:Hp}{p:Addr}{o:HO}(h:H p=none):Same H (upd H p o):=λ b u q=>by rw[zAR (zAL q h)];exact q
def rIsi (K:W.Frag):List V->Hp->VK->Prop:=λ xs H Q=>E4 λ x T t b=>A4 (xs=[x,.ty T]) (TyOf K H x t) (W.kitOne K t (.type T)=some b) (Q (.bl b) H)
theorem zK4:CallR X (.builtin "isinstance") (rIsi X.K):=by
 intro jP s σ H xs us Q I r h;obtain⟨x,T,t,b,rfl,ty,e,q⟩:=h;obtain⟨u,w',rfl,ru,rw'⟩:=vals2 r;cases rw';exact zJW I ru ty e λ tk=>⟨.bl b,H,I.tok tk,rfl,q⟩
theorem cI {X:Cx}{e:Expr}{te:TE}{T:Str}{u:String}{p p2 pos:Pos}(hm:X.mg "isinstance"=none)(hT:X.mg T=none)(hv:bootBuiltins T=some (.type u))(ha:PE X e te)(hg:Gl X "isinstance":=by rfl)(hG:Gl X T:=by rfl)(h1:starEach [e,.Name T p2] X.env=(false,eval e X.env)::starEach [.Name T p2] X.env:=by rfl)(h2:starEach [.Name T p2] X.env=(false,eval (.Name T p2) X.env)::starEach [] X.env:=by rfl)(h3:(backTo pos (starEach [.Name T p2] X.env)).any (·.1)=false:=by rfl)(hn:T≠"__name__":=by decide)(hd:(T==("__debug__":Str))=false:=by decide):PE X (.Call (.Name "isinstance" p) [e,.Name T p2] [] pos) (tCB (rIsi X.K) (tCons te (tCons (tC (.ty u)) tNil))):=zA2 zK4 hg hm PyProof.Rows.boot_isinstance (zAA ha (zAA (zIr hG hT hv rfl hn hd) zAD h2) h1) 66 66 h1 h3
theorem zJj (a b:Str):eqV (.str a) (.str b)=true↔a=b:=by
 constructor
 ·intro h;simpa[eqV] using h
 ·intro h;subst h;simp[eqV]
theorem zJh (xs:List Str):(xs.map V.str).all flatV=true:=by
 rw[List.all_eq_true];intro x hx;obtain⟨y,_,rfl⟩:=mB.mp hx;rfl
def zMU:List V->Hp->VK->Prop:=λ xs H Q=>E3 λ(d:Addr) (kvs:List (Key × V)) (ks:List Str)=>A5 (xs=[.ref d]) (H d=some 92) (kvs.map (·.1)=ks.map Sum.inr) (ks.length<64) (∀(l:Addr) (ss:List Str),H l=none->ss.Perm ks->ss.Pairwise (λ a b=>ltCps b.cps.toList a.cps.toList=false)->Q (.ref l) (upd H l (.lst (ss.map V.str))))
theorem zIY {P:Program}{w:World}:∀{vs:List (Key × Value)}{ks:List Str}{us:List Value},vs.map (·.1)=ks.map Sum.inr->us.length=vs.length ->
  (∀(j:Nat) (v:Value),us[j]?=some v->∃k x,vs[j]?=some (k,x)/\(zAi P w).is k v=true)->StrsAre us ks
 |[],[],[],_,_,_=>.nil
 | (k,x)::vs,y::ks,u::us,e,hl,h=>by
  have e1:k=Sum.inr y:=(List.cons.inj e).1;have e2:vs.map (·.1)=ks.map Sum.inr:=(List.cons.inj e).2;obtain⟨k',x',q,m⟩:=h 0 u rfl;have q':(k,x)=(k',x'):=mD q;cases q';subst e1;rcases zAs (show keyIs (Sum.inr y) u=true from m) with ⟨i,t,z,_⟩|⟨z,t,z1,z2⟩
  ·cases z
  ·cases z1
   subst z2;exact .cons _ t (zIY e2 (by simpa using hl) λ j v hv=>h (j+1) v (by simpa using hv))
 |[],_::_,_,e,_,_=>nomatch e
 |_::_,[],_,e,_,_=>nomatch e
 |[],[],_::_,_,e,_=>nomatch e
 |_::_,_::_,[],_,e,_=>nomatch e
theorem zFf {us:List Value}{ks:List Str}(h:StrsAre us ks):Vals (ks.map V.str) us:=by
 induction h with
 |nil=>exact .nil
 |cons y t r ih=>exact .cons ⟨t,rfl⟩ ih
theorem zJs {a b c:Str}(h1:ltCps b.cps.toList a.cps.toList=false) (h2:ltCps c.cps.toList b.cps.toList=false):ltCps c.cps.toList a.cps.toList=false:=by
 rw[ltCps_eq,decide_eq_false_iff_not] at *;exact List.le_trans (l₁:=a.cps.toList) (l₂:=b.cps.toList) (l₃:=c.cps.toList) h1 h2
theorem zE4:∀(p:Str) (l:List Str),risingS p l=true->(p::l).Pairwise (λ a b=>ltCps b.cps.toList a.cps.toList=false)
 |p,[],_=>by simp
 |p,x::r,h=>by
  have h':(!ltCps x.cps.toList p.cps.toList && risingS x r)=true:=h;rw[Bool.and_eq_true] at h';have h1:ltCps x.cps.toList p.cps.toList=false:=by simpa using h'.1
  have ih:=zE4 x r h'.2;refine List.pairwise_cons.mpr ⟨λ y hy=>?_,ih⟩;rcases lM.mp hy with z|z
  ·subst z;exact h1
  ·exact zJs h1 ((List.pairwise_cons.mp ih).1 y z)
theorem zEU:∀{l:List Str},sortedS l=true->l.Pairwise (λ a b=>ltCps b.cps.toList a.cps.toList=false)
 |[],_=>.nil
 |x::r,h=>zE4 x r h
theorem zL4 {kvs:List 90}{vs:List (Key × Value)}(h:KV kvs vs):kvs.map (·.1)=vs.map (·.1):=by
 unfold KV at h
 induction h with
 |nil=>rfl
 |cons r _ ih=>simp[r.1,ih]
theorem zCk (hc:X.calm=true):CallR X (.builtin "sorted") zMU:=by
 intro jP s σ H xs us Q I r h;obtain⟨d,kvs,ks,rfl,hd,hk,h64,q⟩:=h;obtain⟨u,rfl,ru⟩:=vals1 r;cases ru;obtain⟨hz,hsm,vs,kv,hdo⟩:=(show ObjOk X.prog X.w H s.heap d 92 from I.hok d _ hd);obtain⟨ep,hat⟩:=hdo.dictAt;have hks:vs.map (·.1)=ks.map Sum.inr:=by rw[←zL4 kv];exact hk
 have hn:vs.length=ks.length:=by have:=congrArg List.length hks;simpa using this
 have line:vs.length<=sizeLine:=Nat.le_of_lt (zAO 65);refine Calls.call_function_entry kind_sorted plain_sorted entry_sorted (args_sorted1 _) ?_;unfold Builtin.«sorted»;refine lA (m:=checkCount "sorted" 1 1 _) (lB ?_);refine lA (W.kdu_collect (A:=X.A.in1) (W.kdl_dict (knd:=zAi X.prog X.w) (kvs:=vs) (ep:=ep) hsm) (I.ok.hd hc) hat line λ h1 tk acc hk1 hacc=>?_);have la:acc.toList.length=vs.length:=by rw[Array.length_toList];exact hacc.1
 have hS:StrsAre acc.toList ks:=zIY (P:=X.prog) (w:=X.w) hks la λ j v hv=>hacc.2 j v (by rw[←Array.getElem?_toList];exact hv);have I1:Inv X jP σ H { s with heap:=h1,toks:=tk }:=I.kept hk1;refine lA (wpAny_newList ?_ (by rw[la];exact line));have hoL:(h1.push { cls:=.type "list", data:=.seq acc.toList.toArray }).get? h1.objs.size=some (seqObj "list" acc.toList.toArray 0):=lG _ rfl;refine lA (lD (wpAny_call_entry slot_list_sort ⟨_,hoL,rfl⟩ entry_list_sort (list_sort_treeK strKind_oneLt hoL hS.keysOf (λ a b rest e=>keyKind_strs (ss:=ks) (by rw[←e];exact hS)) (by rw[la,hn];exact h64) λ st' a1 a2=>⟨_,rfl,?_⟩) (args_list_sort _)));obtain⟨ss,b1,b2,b3⟩:=sorted_out_str hS a1 a2;obtain⟨e,he⟩:∃e,(sortedHeap (h1.push { cls:=.type "list", data:=.seq acc.toList.toArray }) h1.objs.size acc.toList ((arrOf st').map (·.2))).get? h1.objs.size=some (seqObj "list" ((arrOf st').map (·.2)) e):=sortedHeap_at hoL;refine lB ⟨_,rfl,⟨.ref h1.objs.size,upd H h1.objs.size (.lst (ss.map V.str)),I1.laid (t':=tk) (a:=h1.objs.size) (o:=.lst (ss.map V.str)) (λ b o hb=>?_) (lQ _) ⟨?_,_,e,zFf b1,?_⟩,rfl,q _ ss (I1.hok.fresh (lQ _)) b2 (zEU b3)⟩⟩
 ·rw[sortedHeap_old (Nat.ne_of_lt (Heap.lt_size hb)) (by rw[Heap.size_push];exact Nat.lt_succ_of_lt (lH hb))]
  exact lE _ hb
 ·rw[lC,b2.length_eq]
  exact Nat.le_of_lt (zAO 65)
 ·rw[he]
end
structure FnB (P:Program) (w:World) (K:W.Frag) (mg:Str->Option Value) (base:Heap) (k:Nat) (x:Str) (f:Addr) (fd:FuncData) (ps:List Str) (sp:Sp):Prop where
 ok:FnOk P w K mg base CX0 k f fd ps sp
 bd:Binds K fd ps []
 kp:W.keepIn K (.ref f)=true
 gl:mg x=some (.ref f)
theorem pe_cl {X:Cx}{k:Nat}{x:Str}{f:Addr}{fd:FuncData}{ps:List Str}{sp:Sp}{e:Expr}{es:List Expr}{t:TA}{p pos:Pos}(G:FnB X.prog X.w X.K X.mg X.base k x f fd ps sp) (hr:Room k X.A) (ha:PA X (e::es) t) (hg:Gl X x:=by rfl) (hdb:(x==("__debug__":Str))=false:=by decide) (he:starEach (e::es) X.env=(false,eval e X.env)::starEach es X.env:=by rfl) (hpl:(backTo pos (starEach es X.env)).any (·.1)=false:=by rfl):PE X (.Call (.Name x p) (e::es) [] pos) (tCall sp [] E0 t):=zGe G.ok hr hg G.gl G.kp G.bd .nil pass0 ha hdb he hpl
theorem iC {X:Cx}{r:R2}{a:Expr}{ta:TE}{i j p2 pos} (hr:IxR X r) (ha:PE X a ta):PE X (.Subscript a (.Constant (.int i) j p2) pos) (tOp r ta (tC (.int i))):=pe_ix hr ha zAG 73
theorem FnB.up {P:Program}{w:World}{K:W.Frag}{mg:Str->Option Value}{base:Heap}{j k:Nat}{x:Str}{f:Addr}{fd:FuncData}{ps:List Str}{sp:Sp}(F:FnB P w K mg base j x f fd ps sp) (h:j<=k):FnB P w K mg base k x f fd ps sp :=
 ⟨F.ok.mono h,F.bd,F.kp,F.gl⟩
def Tk (H H':Hp):Prop:=∀b xs,H b=some (.tup xs)->H' b=some (.tup xs)
theorem Tk.refl (H:Hp):Tk H H:=λ Ω Ω h=>h
theorem Tk.trans {H H1 H2:Hp}(a:Tk H H1) (b:Tk H1 H2):Tk H H2:=λ c xs h=>b c xs (a c xs h)
theorem Same.tk {H H':Hp}(h:Same H H'):Tk H H':=λ b xs e=>h b _ e
theorem Tk.lst {H:Hp}{p:Addr}{xs:List V}{o:HO}(h:H p=some (.lst xs)):Tk H (upd H p o):=λ b ys e=>by
 rw[zAR (λ z=>by subst z;rw[h] at e;cases e)];exact e
theorem Tk.dk {H:Hp}{p:Addr}{kvs:List 90}{o:HO}(h:H p=some 92):Tk H (upd H p o):=λ b ys e=>by
 rw[zAR (λ z=>by subst z;rw[h] at e;cases e)];exact e
section
variable {X:Cx}
def rCatV:R2:=λ x y H Q=>E4 λ a b xs ys=>A6 (x = .ref a) (y = .ref b) (H a=some (.tup xs)) (H b=some (.tup ys)) (xs.length+ys.length<=sizeLine) (∀p H',Same H H'->H' p=some (.tup (xs++ys))->Q (.ref p) H')
theorem zIu:OpR X (binaryOp .Add) rCatV:=by
 intro jP s σ H x y v u Q I rx ry h;obtain⟨a,b,xs,ys,rfl,rfl,ha,hb,hz,q⟩:=h
 by_cases hx:xs=[]
 ·subst hx
  cases rx;cases ry;obtain⟨its,r1,p1,_⟩:=I.tuple (SqT.of ha);obtain⟨its2,r2,p2,_⟩:=I.tuple (SqT.of hb);have e0:its=[]:=r1.nil_iff.mpr rfl;subst e0;obtain⟨⟨cls,dd,data,sl⟩,ho,hc,n,hd⟩:=id p1;obtain⟨⟨cls2,dd2,data2,sl2⟩,ho2,hc2,n2,hd2⟩:=id p2;simp only at hc hd hc2 hd2;subst hc hd hc2 hd2;exact concat_meets ⟨_,ho,rfl⟩ ⟨_,ho2,rfl⟩ noFill_tuple_add seq_tuple_add PySem.F.slot_tuple_add PySem.F.entry_tuple_add (PySem.F.args_tuple_add_2 _ _) (tuple_addW0 a b _ _ n n2 dd dd2 sl sl2 rfl) ⟨ho,ho2,⟨.ref b,H,I,rfl,q b H (.refl H) hb⟩⟩
 ·refine zLs jP s σ H (.ref a) (.ref b) v u Q I rx ry ⟨a,b,xs,ys,rfl,rfl,SqT.of ha,SqT.of hb,hx,hz,λ e=>?_,λ e p hp=>?_⟩
  ·subst e
   exact q a H (.refl H) (by rw[nN];exact ha)
  ·exact q p _ (zAC hp) zAB
def rSlV:V->Option Int->Option Int->Hp->VK->Prop:=λ x lo hi H Q=>E2 λ a xs=>A4 (x = .ref a) (H a=some (.tup xs)) (¬(HT.sIx xs.length 0 lo=0/\HT.sIx xs.length xs.length hi=xs.length)) (∀p H',Same H H'->H' p=some (.tup (cutV xs lo hi))->Q (.ref p) H')
theorem zCE:SlR X rSlV:=by
 intro jP s σ H x v vl vu lo hi sl Q I rx hs pl pu h;obtain⟨a,xs,rfl,ha,hw,q⟩:=h;exact zMP jP s σ H (.ref a) v vl vu lo hi sl Q I rx hs pl pu ⟨a,xs,rfl,SqT.of ha,hw,λ p hp=>q p _ (zAC hp) zAB⟩
end
inductive Atom where
 |name (x:Str)|num (n:Int)|gap (g:Str)
inductive Bin where
 |add|sub|mul|thn
noncomputable def Bin.s:Bin->Str
 |.add => "add" |.sub => "sub" |.mul => "mul" |.thn => "then"
inductive Tr where
 |num (n:Int)|name (x:Str)|ask (x:Str)|stop (x:Str)|gap (g:Str) (as:List Atom)
 |say (a:Tr)|bin (o:Bin) (a b:Tr)|ite (a b c:Tr)|lett (x:Str) (a b:Tr)
def AtRep (H:Hp):Atom->V->Prop
 |.name x,v=>∃a,v = .ref a/\H a=some (.tup [.str "name", .str x])
 |.num n,v=>∃a,v = .ref a/\H a=some (.tup [.str "num", .int n])
 |.gap g,v=>∃a b,v = .ref a/\H a=some (.tup [.str "gap", .str g,.ref b])/\H b=some (.tup [])
def Rep (H:Hp):Tr->V->Prop
 |.num n,v=>∃a,v = .ref a/\H a=some (.tup [.str "num", .int n])
 |.name x,v=>∃a,v = .ref a/\H a=some (.tup [.str "name", .str x])
 |.ask x,v=>∃a,v = .ref a/\H a=some (.tup [.str "ask", .str x])
 |.stop x,v=>∃a,v = .ref a/\H a=some (.tup [.str "stop", .str x])
 |.gap g as,v=>∃a b us,v = .ref a/\H a=some (.tup [.str "gap", .str g,.ref b])/\H b=some (.tup us)/\us.length<=1000/\Paired (AtRep H) as us
 |.say t,v=>∃a u,v = .ref a/\H a=some (.tup [.str "say", u])/\Rep H t u
 |.bin o s t,v=>∃a u w,v = .ref a/\H a=some (.tup [.str o.s,u,w])/\Rep H s u/\Rep H t w
 |.ite r s t,v=>∃a u w z,v = .ref a/\H a=some (.tup [.str "if", u,w,z])/\Rep H r u/\Rep H s w/\Rep H t z
 |.lett x s t,v=>∃a u w,v = .ref a/\H a=some (.tup [.str "let", .str x,u,w])/\Rep H s u/\Rep H t w
theorem AtRep.mono {H H':Hp}(k:Tk H H'):∀{t:Atom}{v:V},AtRep H t v->AtRep H' t v
 |.name _,_,⟨a,e,h⟩=>⟨a,e,k _ _ h⟩
 |.num _,_,⟨a,e,h⟩=>⟨a,e,k _ _ h⟩
 |.gap _,_,⟨a,b,e,h,h'⟩=>⟨a,b,e,k _ _ h,k _ _ h'⟩
theorem Rep.mono {H H':Hp}(k:Tk H H'):∀{t:Tr}{v:V},Rep H t v->Rep H' t v
 |.num _,_,⟨a,e,h⟩=>⟨a,e,k _ _ h⟩
 |.name _,_,⟨a,e,h⟩=>⟨a,e,k _ _ h⟩
 |.ask _,_,⟨a,e,h⟩=>⟨a,e,k _ _ h⟩
 |.stop _,_,⟨a,e,h⟩=>⟨a,e,k _ _ h⟩
 |.gap _ _,_,⟨a,b,us,e,h,h',n,p⟩=>⟨a,b,us,e,k _ _ h,k _ _ h',n,Paired.mapP p λ Ω Ω z=>z.mono k⟩
 |.say _,_,⟨a,u,e,h,r⟩=>⟨a,u,e,k _ _ h,r.mono k⟩
 |.bin _ _ _,_,⟨a,u,w,e,h,r,s⟩=>⟨a,u,w,e,k _ _ h,r.mono k,s.mono k⟩
 |.ite _ _ _,_,⟨a,u,w,z,e,h,r,s,t⟩=>⟨a,u,w,z,e,k _ _ h,r.mono k,s.mono k,t.mono k⟩
 |.lett _ _ _,_,⟨a,u,w,e,h,r,s⟩=>⟨a,u,w,e,k _ _ h,r.mono k,s.mono k⟩
inductive Kd where
 |num|name|ask|stop|gap|say|add|sub|mul|thn|ite|lett
 deriving DecidableEq
noncomputable def Kd.s:Kd->Str
 |.num => "num" |.name => "name" |.ask => "ask" |.stop => "stop" |.gap => "gap"
 |.say => "say" |.add => "add" |.sub => "sub" |.mul => "mul" |.thn => "then" |.ite => "if" |.lett => "let"
noncomputable def Kd.leaf:Kd->Bool
 |.num=>true|.name=>true|.ask=>true|.stop=>true|.gap=>true
 |_=>false
theorem Kd.inj {a b:Kd}(h:a.s=b.s):a=b:=by
 revert h;cases a<;>cases b<;>first|(intro _;rfl)|(intro h;exact absurd h 80)
theorem Kd.eq_iff {a b:Kd}:(V.str a.s=V.str b.s)↔a=b:=⟨λ h=>Kd.inj (V.str.inj h),λ h=>by rw[h]⟩
noncomputable def Bin.kd:Bin->Kd
 |.add=>.add|.sub=>.sub|.mul=>.mul|.thn=>.thn
noncomputable def Tr.kd:Tr->Kd
 |.num _=>.num|.name _=>.name|.ask _=>.ask|.stop _=>.stop|.gap _ _=>.gap
 |.say _=>.say|.bin o _ _=>o.kd|.ite _ _ _=>.ite|.lett _ _ _=>.lett
noncomputable def Tr.sign (t:Tr):Str:=t.kd.s
theorem Bin.kd_s (o:Bin):o.kd.s=o.s:=by cases o<;>rfl
noncomputable def Tr.parts:Tr->List Tr
 |.say a=>[a]|.bin _ a b=>[a,b]|.ite a b c=>[a,b,c]|.lett _ a b=>[a,b]
 |_=>[]
noncomputable def Tr.head:Tr->Nat
 |.gap _ _=>3|.say _=>1|.bin _ _ _=>1|.ite _ _ _=>1
 |_=>2
theorem Rep.all {H:Hp}:∀{t:Tr}{v:V},Rep H t v->∃a hs us,v = .ref a/\H a=some (.tup (.str t.sign::hs++us))/\hs.length+1=t.head/\Paired (Rep H) t.parts us
 |.num n,_,⟨a,e,h⟩=>⟨a,[.int n],[],e,h,rfl,.nil⟩
 |.name x,_,⟨a,e,h⟩=>⟨a,[.str x],[],e,h,rfl,.nil⟩
 |.ask x,_,⟨a,e,h⟩=>⟨a,[.str x],[],e,h,rfl,.nil⟩
 |.stop x,_,⟨a,e,h⟩=>⟨a,[.str x],[],e,h,rfl,.nil⟩
 |.gap g _,_,⟨a,b,us,e,h,h',_,p⟩=>⟨a,[.str g,.ref b],[],e,h,rfl,.nil⟩
 |.say _,_,⟨a,u,e,h,r⟩=>⟨a,[],[u],e,h,rfl,.cons r .nil⟩
 |.bin o _ _,_,⟨a,u,w,e,h,r,s⟩=>⟨a,[],[u,w],e,(by show _=some (HO.tup [V.str o.kd.s,u,w]);rw[Bin.kd_s];exact h),rfl,.cons r (.cons s .nil)⟩
 |.ite _ _ _,_,⟨a,u,w,z,e,h,r,s,t⟩=>⟨a,[],[u,w,z],e,h,rfl,.cons r (.cons s (.cons t .nil))⟩
 |.lett x _ _,_,⟨a,u,w,e,h,r,s⟩=>⟨a,[.str x],[u,w],e,h,rfl,.cons r (.cons s .nil)⟩
noncomputable def Tr.size:Tr->Nat
 |.say a=>a.size+1|.bin _ a b=>a.size+b.size+1|.ite a b c=>a.size+b.size+c.size+1|.lett _ a b=>a.size+b.size+1
 |_=>1
theorem zAW {α:Type}{F:α->V->Prop}{as:List α}{us:List V}{i:Nat}{u:V}(h:Paired F as us):us[i]?=some u->∃a,as[i]?=some a/\F a u:=by
 induction h generalizing i with
 |nil=>exact λ e=>nomatch e
 |cons h t ih=>cases i with
  |zero=>exact λ e=>⟨_,rfl,by cases e;exact h⟩
  |succ i=>exact λ e=>ih (i:=i) (by simpa using e)
theorem zAY {H H':Hp}{p:Addr}{o:HO}(g:Same H H') (h:H p=none):Same H (upd H' p o):=λ b u q=>by rw[zAR (zAL q h)];exact g b u q
theorem zAT {α:Type}{as:List α}{i:Nat}{a:α}(h:as[i]?=some a):as.take (i+1)=as.take i++[a]:=by
 rw[List.take_add_one,h];rfl
noncomputable def Atom.names:Atom->List Str
 |.name x=>[x]
 |_=>[]
noncomputable def Tr.names:Tr->List Str
 |.name x=>[x]
 |.gap _ as=>as.flatMap Atom.names
 |_=>[]
theorem iteY {c:Prop} [Decidable c] {A B:Prop}(hc:c) (h:A):if decide c=true then A else B:=by rw[if_pos (decide_eq_true hc)];exact h
theorem iteN {c:Prop} [Decidable c] {A B:Prop}(hc:¬c) (h:B):if decide c=true then A else B:=by rw[if_neg (by rw[decide_eq_false hc];exact lW)];exact h
theorem zAw {n:Nat}(h:n<=1000):n<=sizeLine:=Nat.le_of_lt (zAO h)
noncomputable def zDO:List Expr->Option (List V)
 |[]=>some []
 |.Constant (.str x) _ _::r=>(zDO r).map λ l=>V.str x::l
 |.Constant (.int i) _ _::r=>(zDO r).map λ l=>V.int i::l
 |_=>none
def tRow (vs:List V):TA:=λ Ω H Q=>Q vs H
theorem zLH {X:Cx}{es:List Expr}:∀(vs:List V),zDO es=some vs->PA X es (tRow vs):=by
 induction es with
 |nil=>intro vs h;cases h;exact zAD
 |cons e r ih =>
  intro vs h;cases e with
  |Constant c j p =>
   cases c with
   |str x =>
    obtain⟨l,hl,e⟩:=lU.mp (show (zDO r).map (λ l=>V.str x::l)=some vs from h);subst e;exact zAA zAP (ih l hl)
   |int x =>
    obtain⟨l,hl,e⟩:=lU.mp (show (zDO r).map (λ l=>V.int x::l)=some vs from h);subst e;exact zAA zAG (ih l hl)
   |_=>cases h
  |_=>cases h
noncomputable def rowT:Expr->Option (List V)
 |.Tuple es _ _=>zDO es
 |_=>none
noncomputable def rowL:Expr->Option (List V)
 |.List es _=>zDO es
 |_=>none
theorem zFO {X:Cx}{e:Expr}(vs:List V) (h:rowT e=some vs):PE X e (tTup (tRow vs)):=by
 unfold rowT at h;split at h
 ·exact zAk (zLH vs h)
 ·cases h
theorem zGd {X:Cx}{e:Expr}(vs:List V) (h:rowL e=some vs):PE X e (tLst (tRow vs)):=by
 unfold rowL at h;split at h
 ·exact zBA (zLH vs h)
 ·cases h
abbrev DRow:=Str × (Str ⊕ Int)
abbrev En:=Str->Int
abbrev Res:=List DRow × (Int ⊕ Str)
noncomputable def askR (x:Str):DRow:=("ask", .inl x)
noncomputable def sayR (n:Int):DRow:=("say", .inr n)
noncomputable def Bin.op:Bin->Int->Int->Int
 |.add,m,n=>(m+n) % 10 ^ 30
 |.sub,m,n=>(m - n) % 10 ^ 30
 |.mul,m,n=>(m * n) % 10 ^ 30
 |.thn,_,n=>n
noncomputable def En.set (e:En) (x:Str) (n:Int):En:=λ y=>if y=x then n else e y
noncomputable def pre (D:List DRow) (o:Option Res):Option Res:=o.map λ q=>(D++q.1,q.2)
noncomputable def seqR (r:Option Res) (k:Int->Option Res):Option Res:=r.bind λ r=>match r.2 with
 |.inr w=>some (r.1,.inr w)
 |.inl n=>pre r.1 (k n)
noncomputable def ev (a:En):Tr->En->Option Res
 |.num n,_=>some ([],.inl n)
 |.name x,e=>some ([],.inl (e x))
 |.ask x,_=>some ([askR x],.inl (a x))
 |.stop x,_=>some ([],.inr x)
 |.gap _ _,_=>none
 |.say t,e=>seqR (ev a t e) λ n=>some ([sayR n],.inl n)
 |.bin o s t,e=>seqR (ev a s e) λ m=>seqR (ev a t e) λ n=>some ([],.inl (o.op m n))
 |.ite c s t,e=>seqR (ev a c e) λ n=>if n=0 then ev a t e else ev a s e
 |.lett x s t,e=>seqR (ev a s e) λ n=>ev a t (e.set x n)
noncomputable def aft (a:En) (t:Tr) (e:En) (E:List Int):Option (Option Res × List Int) :=
 match t with
 |.say _=>match E with
  |n::E=>some (some ([sayR n],.inl n),E)
  |_=>none
 |.bin .thn _ t=>match E with
  |_::E=>some (ev a t e,E)
  |_=>none
 |.bin o _ _=>match E with
  |n::m::E=>some (some ([],.inl (o.op m n)),E)
  |_=>none
 |.ite _ s t=>match E with
  |n::E=>some (if n=0 then ev a t e else ev a s e,E)
  |_=>none
 |.lett x _ t=>match E with
  |n::E=>some (ev a t (e.set x n),E)
  |_=>none
 |_=>none
abbrev Item:=Tr × En × Bool
noncomputable def cont (a:En):List Item->List Int->Option Res
 |[],[]=>none
 |[],n::_=>some ([],.inl n)
 | (t,e,false)::W,E=>seqR (ev a t e) λ n=>cont a W (n::E)
 | (t,e,true)::W,E=>(aft a t e E).bind λ p=>seqR p.1 λ n=>cont a W (n::p.2)
def tOrT (K:W.Frag) (ta tb:TE):TE:=λ σ H Q=>ta σ H λ x H1=>∃k,TruV K x H1 k/\if k=true then Q x H1 else tb σ H1 Q
theorem zLG {X:Cx}{a b:Expr}{rest:List Expr}{pos:Pos}{ta tb:TE}(ha:PE X a ta) (hb:PE X (.BoolOp .Or (b::rest) pos) tb):PE X (.BoolOp .Or (a::b::rest) pos) (tOrT X.K ta tb):=by
 intro jP s σ H Q I h;refine BoolOp_or (thn (ha jP s σ H _ I h) λ v s1 ⟨x,H1,I1,r1,k,e1,q1⟩=>?_);refine thn (zK9 jP s1 σ H1 x v (λ c H2=>if c=true then Q x H2 else tb σ H2 Q) I1 r1 ⟨k,e1,q1⟩) λ c s2 ⟨H2,I2,q2⟩=>?_;cases c with
 |true=>exact⟨x,H2,I2,r1,q2⟩
 |false=>exact hb jP s2 σ H2 Q I2 q2
theorem zDv {X:Cx}:CallR X (.type "dict") (λ xs H Q=>E2 λ a kvs=>A3 (xs=[V.ref a]) (H a=some 92) (∀p,H p=none->Q (.ref p) (upd H p 92))):=by
 intro jP s σ H xs us Q I r h;obtain⟨a,kvs,rfl,ha,q⟩:=h;obtain⟨u,rfl,ru⟩:=vals1 r;cases ru;exact zK1 I (.inl ha) λ p s' hp I'=>⟨.ref p,_,I',rfl,q p hp⟩
structure FunD (K:W.Frag) (x qual:Str) (st:Stmt) (f:Addr) (fd:FuncData) (dvs:List Value):Prop where
 ex:∃(oc:Value) (od:Option Addr) (kV doc pm:Value) (an:Option Addr) (cdv ct:Value) (osl:Array (Option Value)) (dt:Addr) (o:Obj) (n:Nat),
  fd=W.fnOf x qual (zBG st) (zA7 st) (zAM st) (.ref dt) kV doc pm an cdv ct/\K.lookup f=some ⟨oc,od,.func fd,osl⟩/\W.codeIn K cdv qual=true/\K.lookup dt=some o/\o.data = .seq dvs.toArray n
 kp:W.keepIn K (.ref f)=true
section
variable {P:Program}{w:World}{K:W.Frag}{mg:Str->Option Value}{base:Heap}
theorem FunD.ok {x qual:Str}{st:Stmt}{f:Addr}{fd:FuncData}{dvs:List Value}{N ps:List Str}{k:Nat}{sp:Sp}(F:FunD K x qual st f fd dvs) (S:zAV N ps (zAM st)) (len:∀vs H Q E,sp vs H Q E->vs.length=ps.length)
  (hbody:∀(cdv:Value) (A:Around) (outer:List Env) (s:Shared) (H:Hp) (vs:List V) (Q:VK) (E:XK),Room k (A.deeper (envOfC qual (zAM st) s.heap.objs.size f cdv))->sp vs H Q E ->
   ∃t,PSs (cxOf CX0 P w K mg base N qual (zAM st) f cdv A outer s H E).nox (zA7 st) t/\t { nx:=λ Ω H'=>Q .non H',rt:=Q } (start N vs) H):FnOk P w K mg base CX0 (k+1) f fd ps sp:=by
 obtain⟨oc,od,kV,doc,pm,an,cdv,ct,osl,dt,o,n,rfl,lk,hcd,_⟩:=F.ex;refine fn_of lk hcd S len λ A outer s H vs Q E hr hsp=>?_;obtain⟨t,h,q⟩:=hbody cdv A outer s H vs Q E hr hsp;exact⟨t,h.nox,q⟩
theorem zJd {x qual:Str}{st:Stmt}{f dt:Addr}{oc:Value}{od an:Option Addr}{osl:Array (Option Value)}{kV doc pm cdv ct:Value}{o:Obj}{dvs:List Value}{n:Nat}(l:K.lookup f=some ⟨oc,od,.func (W.fnOf x qual (zBG st) (zA7 st) (zAM st) (.ref dt) kV doc pm an cdv ct),osl⟩)
  (c:W.codeIn K cdv qual=true) (k:W.keepIn K (.ref f)=true) (ld:K.lookup dt=some o) (hd:o.data = .seq dvs.toArray n):FunD K x qual st f (W.fnOf x qual (zBG st) (zA7 st) (zAM st) (.ref dt) kV doc pm an cdv ct) dvs :=
 ⟨⟨oc,od,kV,doc,pm,an,cdv,ct,osl,dt,o,n,rfl,l,c,ld,hd⟩,k⟩
theorem zLY:Vals [V.non] [Value.none]:=.cons rfl .nil
end
theorem zHJ:Manifest.owners.lookup (String.ofList ['d', 'e', 's', 'r', 'e', 'v', 'e', 'r'].reverse)=some Manifest.sig_reversed:=by kernel_rfl
theorem zER:Slot "reversed" "__next__" "reversed.__next__" := .of (owner := "reversed") (n := "__next__") (by rw[typeLookup_type,builtinLookup_eq_fast];kernel_rfl) 80 80 80 (by first|exact .inl 80|exact .inr 80) (by rw[isSubtype_type];kernel_rfl)
theorem zDW:entryFor table "reversed.__next__" = some Builtin.«reversed.__next__»:=entryFor_of_tree (by kernel_rfl)
theorem zD0 (a:Value):argsOk "reversed.__next__" ⟨[a],[]⟩:=by unfold argsOk;rw[signature?_of (id := "reversed.__next__") (n:=['_', '_', 't', 'x', 'e', 'n', '_', '_']) (o:=['d', 'e', 's', 'r', 'e', 'v', 'e', 'r']) (by kernel_rfl) zHJ];kernel_rfl
theorem zIg:Slot "reversed" "__iter__" "reversed.__iter__" := .of (owner := "reversed") (n := "__iter__") (by rw[typeLookup_type,builtinLookup_eq_fast];kernel_rfl) 80 80 80 (by first|exact .inl 80|exact .inr 80) (by rw[isSubtype_type];kernel_rfl)
theorem zFv (a:Value):argsOk "reversed.__iter__" ⟨[a],[]⟩:=by unfold argsOk;rw[signature?_of (id := "reversed.__iter__") (n:=['_', '_', 'r', 'e', 't', 'i', '_', '_']) (o:=['d', 'e', 's', 'r', 'e', 'v', 'e', 'r']) (by kernel_rfl) zHJ];kernel_rfl
theorem zFL:entryFor table "reversed.__iter__" = some Builtin.«dict_keyiterator.__iter__»:=entryFor_alias (id' := "dict_keyiterator.__iter__") (by kernel_rfl) (by first|rfl|right|(unfold String.splitOn;simp +decide [String.splitOnAux])) 80 (by kernel_rfl)
theorem zLf:Slot "reversed" "__init__" "object.__init__" := .of (owner := "object") (n := "__init__") (by rw[typeLookup_type,builtinLookup_eq_fast];kernel_rfl) 80 80 80 (by first|exact .inl 80|exact .inr 80) (by rw[isSubtype_type];kernel_rfl)
theorem zIh:TypeCalled "reversed" "reversed.__new__" "object.__init__" := ⟨by right,F.create_reversed,⟨_,_,F.mro_reversed⟩,F.made_reversed,F.plain_reversed_new,F.sub_reversed_self,zLf⟩
theorem zHu:typeLookup (.type "tuple") "__reversed__" = pure none:=by rw[typeLookup_type,builtinLookup_eq_fast];kernel_rfl
noncomputable def rvObj (l:Addr) (i:Int):Obj:={ cls:=.type "reversed", data:=.fields #[.ref l,rawInt i] }
theorem zIC (l:Addr) (items:Array Value) (hz:(items.size:Int)<2 ^ 63) :
  Meets (Builtin.«reversed.__new__» ⟨[.type "reversed", .ref l],[]⟩) (λ Ω R s=>IsTup s.heap l items/\R (.ok (.ret (.ref s.heap.objs.size))) { s with heap:=s.heap.push (rvObj l ((items.size:Int) - 1)),toks:=s.toks+1+1 }) :=
 .of_wp λ prog w A R s h=>by
  obtain⟨ht,h⟩:=h;unfold Builtin.«reversed.__new__»;refine lA (wpAny_of_eq (newClass_reversed _) ?_);dsimp only;refine lA (wpAny_of_eq (a:=()) (by first|rfl|kernel_rfl) ?_);refine lA (wpAny_of_eq (a:=()) (by first|rfl|kernel_rfl) ?_);try dsimp only
  refine lA (wpAny_specialOf ht.typeIs zHu ?_);dsimp only;refine lA ?_;show wpAny _ _ (isInstance (.ref l) (.type "dict") >>= _) _ _ s;refine lA (wpAny_isInstance ht.typeIs F.sub_tuple_dict ?_);show wpAny _ _ (specialOf (.ref l) "__getitem__" >>= _) _ _ s;refine lA (wpAny_specialOf ht.typeIs slot_tuple_getitem.lookup ?_);dsimp only;rw[if_pos 66];refine lB ?_;show wpAny _ _ (call (.builtin "len") [.ref l] >>= _) _ _ s;refine lA (len_tuple ht hz ?_);refine lA (wpAny_of_eq (a:=some (items.size:Int)) rfl ?_);dsimp only;refine lA ?_;unfold Builtin.SmallTypes.newRecord;dsimp only;refine wpAny_newObj_type ?_ (by size_fits);exact lB ⟨_,rfl,h⟩
section
variable {prog:Program}{w:World}{A:Around}{E:XQ}{s:Shared}
theorem zJv {l:Addr}{items:Array Value}{Q:XQ}(ht:IsTup s.heap l items) (hz:(items.size:Int)<2 ^ 63) (h:Q (.ref s.heap.objs.size) { s with heap:=s.heap.push (rvObj l ((items.size:Int) - 1)),toks:=s.toks+1+1 }) :
  wpAny (model prog w) A (call (.type "reversed") [.ref l]) Q E s:=by
 refine callType_new zIh 66 (F.typeCall_reversed_1 _) (F.newCall_reversed_1 _) (λ obj=>F.args_object_init_2 obj _) F.entry_reversed_new (zIC l items hz) ⟨ht,?_⟩;exact⟨⟨_,lG _ rfl,rfl⟩,h⟩
theorem zJV {it t:Addr}{i:Int}{Q:XQ}(hit:s.heap.get? it=some (rvObj t i)) (h:Q (.ref it) s):wpAny (model prog w) A (pyIter (.ref it)) Q E s:=by
 have hT:s.TypeIs (.ref it) "reversed" := ⟨_,hit,rfl⟩;refine wpAny_pyIter_slot hT zIg (wpAny_call_entry zIg hT zFL ?_ (zFv _));show wpAny _ _ (ret (.ref it)) _ _ s;exact lB ⟨_,rfl, "reversed", _,hT,zER.lookup,h⟩
theorem zL2 {it t:Addr}{i:Nat}{items:Array Value}{x:Value}{Q:Option Value->Shared->Prop}(hit:s.heap.get? it=some (rvObj t (i:Int))) (ht:IsTup s.heap t items) (hne:t≠it) (hz:(items.size:Int)<2 ^ 63) (hx:items[i]?=some x)
  (hQ:∀h' tk,h'.get? it=some (rvObj t ((i:Int) - 1))->Heap.SameBut it s.heap h'->Q (some x) { s with heap:=h',toks:=tk }):wpAny (model prog w) A (pyNext (.ref it)) Q E s:=by
 have hT:s.TypeIs (.ref it) "reversed" := ⟨_,hit,rfl⟩
 have hi:i<items.size:=by
  rcases Nat.lt_or_ge i items.size with h|h
  ·exact h
  ·rw[Array.getElem?_eq_none h] at hx;cases hx
 unfold pyNext;refine lA (wpAny_attempt (wpAny_callSpecial?_slot (name:=Str.ofString "__next__") hT zER (wpAny_call_entry zER hT zDW ?_ (zD0 _))));unfold Builtin.«reversed.__next__»;refine lA (wpAny_of_eq (a:=(Value.ref it,[])) rfl ?_);dsimp only;refine lA (wpAny_field hit rfl (x:=.ref t) rfl ?_);refine lA (wpAny_field hit rfl (x:=rawInt (i:Int)) rfl ?_);show wpAny _ _ (if (i:Int)<0 then _ else _) _ _ s;rw[if_neg 65];show wpAny _ _ (specialOf (.ref t) "__getitem__" >>= _) _ _ s;refine lA (wpAny_specialOf ht.typeIs slot_tuple_getitem.lookup ?_);rw[if_neg 66];show wpAny _ _ (mkInt (i:Int) >>= _) _ _ s;refine lA (wpAny_mkInt ?_);refine lA (wpAny_attempt (getItem_tuple (j:=i) (x:=x) ht 65 65 (seqIndex_of 65 65) hx ?_));dsimp only;refine lA (wpAny_field hit rfl (x:=rawInt (i:Int)) rfl ?_);refine lA (wpAny_setField_rec hit 59 λ q1 h1 hs1=>?_);refine lB ⟨x,rfl,lB (hQ q1 _ ?_ hs1)⟩;exact h1
theorem zMw {it t:Addr}{i:Int}{Q:Option Value->Shared->Prop}(hh:A.handled=none) (hit:s.heap.get? it=some (rvObj t i)) (hi:i<0)
  (hQ:∀h' tk,Heap.ExtBut it s.heap h'->Q none { s with heap:=h',toks:=tk }):wpAny (model prog w) A (pyNext (.ref it)) Q E s:=by
 have hT:s.TypeIs (.ref it) "reversed" := ⟨_,hit,rfl⟩;unfold pyNext;refine lA (wpAny_attempt (wpAny_callSpecial?_slot (name:=Str.ofString "__next__") hT zER (wpAny_call_entry zER hT zDW ?_ (zD0 _))));unfold Builtin.«reversed.__next__»;refine lA (wpAny_of_eq (a:=(Value.ref it,[])) rfl ?_);dsimp only;refine lA (wpAny_field hit rfl (x:=.ref t) rfl ?_);refine lA (wpAny_field hit rfl (x:=rawInt i) rfl ?_);show wpAny _ _ (if i<0 then _ else _) _ _ s;rw[if_pos hi];refine lA (wpAny_rule ?_);refine lA ?_;show wpAny _ _ (setField (.ref it) 1 (rawInt (-1)) >>= _) _ _ s;refine lA (wpAny_setField_rec hit 59 λ q1 h1 hs1=>?_);refine wpAny_setField_rec h1 59 λ q2 h2 hs2=>?_;refine lA ?_;show wpAny _ _ (newExc (.type "StopIteration") [] >>= _) _ _ _;refine lA ?_;simp only[newExc,newTuple];refine lA (wpAny_newObj_type ?_ (by size_fits));refine lA (m:=firstArgMember _ _) (wpAny_of_eq (a:=Value.none) (by first|rfl|(simp only[firstArgMember];rfl)) ?_);refine wpAny_newObj_type ?_ (by size_fits);simp only[raiseNew];refine lA (wpAny_handled ?_);first|rw[show A.in1.handled=none from hh]|rw[hh]
 refine lA (lB (wpAny_throw ?_));refine lA (wpAny_isInstance (T := "StopIteration") (b:=true) ⟨_,lG _ rfl,rfl⟩ isSubtype_stop ?_);exact lB (hQ _ _ (((hs1.extBut.trans hs2.extBut).push _).push _))
end
noncomputable def Itv (K:W.Frag) (a:Addr) (n:Nat):It :=
 ⟨λ i H=>i<n/\∃xs x,SqT K H a xs/\xs.length=n/\xs[n - 1 - i]?=some x,λ i H x H'=>H'=H/\∀xs,SqT K H a xs->xs[n - 1 - i]?=some x,λ i Ω=>n<=i⟩
theorem zLa {P:Program}{w:World}{K:W.Frag}{tg:Expr}(a it:Addr) (n:Nat):Turn P w K tg (Itv K a n) [it] it (λ i h=>h.get? it=some (rvObj a ((n:Int) - 1 - (i:Nat)))) where
 mem:=by simp
 obj:=λ i h st b hb=>by
  have e:b=it:=by simpa using hb
  subst e;exact⟨_,st,λ v z=>by have z':Data.fields _=Data.cell v:=z;cases z'⟩
 keep:=λ i h h' st k=>k it 59 _ st
 item:=by
  intro X hP hw hK hc i jP s σ H E I hf st hg;subst hP hw hK;obtain⟨hin,xs,x,hq,hl,hx⟩:=hg;obtain⟨its,rv,p,hz⟩:=I.tuple hq;obtain⟨u,hu,ru⟩:=rv.get hx;obtain⟨f0,f1,f2,f3,f4,f5⟩:=hf it 59;have hn:=zDb;have hlv:=rv.length
  have hai:a≠it:=λ z=>by
   obtain⟨o1,q1,c1,_⟩:=p;rw[z,st] at q1;cases q1;injection c1 with c3;exact absurd c3 66
  have e:(n:Int) - 1 - (i:Nat)=((n - 1 - i:Nat):Int):=by lia
  rw[e] at st;refine zL2 st p hai (by rw[mG];lia) (x:=u) (by simpa using hu) λ h' tk st' sb=>?_;have I1:Inv X jP σ H { s with heap:=h',toks:=tk }:=I.turned (t':=tk) (λ b o hb e=>(sb.2 b hb).trans e) f0 f1 f3 f4 f5;refine⟨u,rfl,go_of (s:={ s with heap:=h',toks:=tk }) (n := "reversed") st' rfl rfl 66 ⟨x,H,I1,ru,⟨rfl,λ ys hy=>by rw[I.tuple_inj hy hq];exact hx⟩,?_,λ b hb=>(hf b hb).1⟩⟩;have e2:(n:Int) - 1 - ((i+1:Nat):Int)=((n - 1 - i:Nat):Int) - 1:=by lia
  show h'.get? it=some (rvObj a ((n:Int) - 1 - ((i+1:Nat):Int)));rw[e2];exact st'
 done:=by
  intro X hP hw hK hc i jP s σ H E I hf st hg;subst hP hw hK;obtain⟨f0,f1,f2,f3,f4,f5⟩:=hf it 59;have hg':n<=i:=hg;exact zMw (I.ok.hd hc) st 65 λ h' tk eb=>⟨rfl,I.turned (t':=tk) (λ b o hb e=>eb b o hb e) f0 f1 f3 f4 f5⟩
 self:=λ Ω Ω Ω Ω Ω st h=>zJV st h
def iRev (K:W.Frag) (ta:TA):TI:=λ σ H R=>ta σ H λ vs H1=>∃a,vs=[.ref a]/\∃xs,SqT K H1 a xs/\R (Itv K a xs.length) H1
theorem zIn {X:Cx}{tg a:Expr}{ta:TA}{p pos:Pos}(hg:Gl X "reversed") (hm:X.mg "reversed" = none) (ha:PA X [a] ta) (hs:starEach [a] X.env=[(false,eval a X.env)]:=by rfl):PI X tg (.Call (.Name "reversed" p) [a] [] pos) (iRev X.K ta):=by
 intro jP s σ H R I h;refine Call_ (zDC I hg hm boot_reversed (PyProof.Rows.callWith_type1 (thn (ha pos jP s σ H _ I h) λ us s1 ⟨vs,H1,I1,r1,q1⟩=>?_) hs rfl));obtain⟨b,e,xs,hq,q⟩:=q1;subst e;obtain⟨u,rfl,ru⟩:=vals1 r1;cases ru;obtain⟨its,rv,tp,hz⟩:=I1.tuple hq;have hl:=rv.length;have hn:=zDb;refine zJv tp (by rw[mG];lia) ?_;have hnew:(s1.heap.push (rvObj b ((its.toArray.size:Int) - 1))).get? s1.heap.objs.size=some (rvObj b ((its.toArray.size:Int) - 1)):=lG _ rfl;refine zJV hnew ⟨_,[s1.heap.objs.size],_,_,H1,rfl,I1.kept (t':=s1.toks+1+1) (λ c o e=>lE _ e),zLa b _ xs.length,?_,λ c hc=>?_,q⟩
 ·show _=some (rvObj b ((xs.length:Int) - 1 - ((0:Nat):Int)))
  rw[hnew,mG,hl];simp
 ·have e:=mO.mp hc
  subst e;exact I1.fpOk (lQ _) (I1.hok.fresh (lQ _))
theorem zJe {K:W.Frag}{a:Addr}{xs:List V}{g:TG}{tb:TS}{D:Ends}{σ:St}{H:Hp}(Pv:Nat->St->Hp->Prop) (h0:Pv 0 σ H) (hl:∀i σ H,i<=xs.length->Pv i σ H->SqT K H a xs)
  (hs:∀i x σ H,i<xs.length->xs[xs.length - 1 - i]?=some x->Pv i σ H->g x σ H λ σ2 H2=>tb { D with nx:=Pv (i+1),ct:=Pv (i+1),bk:=D.nx } σ2 H2) (hd:∀σ H,Pv xs.length σ H->D.nx σ H) :
  ∃W:Nat->Nat->St->Hp->Prop,(∃m,W 0 m σ H)/\∀i m σ H,W i m σ H ->
   ((Itv K a xs.length).stop i H/\D.nx σ H)\/((Itv K a xs.length).go i H/\∃N:St->Hp->Prop,75/\∀x H',(Itv K a xs.length).yld i H x H'->g x σ H' λ σ2 H2=>tb { D with nx:=N,ct:=N,bk:=D.nx } σ2 H2):=by
 refine⟨λ i m σ H=>m=xs.length - i/\i<=xs.length/\Pv i σ H,⟨xs.length,by simp,lX _,h0⟩,?_⟩;rintro i m σ H ⟨rfl,hi,p⟩;have q:=hl i σ H hi p
 by_cases hlt:i<xs.length
 ·have hk:xs.length - 1 - i<xs.length:=by lia
  refine .inr ⟨⟨hlt,xs,xs[xs.length - 1 - i],q,rfl,by simp[hk]⟩,Pv (i+1),λ σ' H' p'=>⟨xs.length - (i+1),by lia,rfl,hlt,p'⟩,λ x H' y=>?_⟩;obtain⟨eH,y⟩:=y;subst eH;exact hs i x σ _ hlt (y xs q) p
 ·have e:i=xs.length:=by lia
  subst e;exact .inl ⟨lQ _,hd σ H p⟩
theorem zFk:∀{ys:List Str}{us:List Value},Vals (ys.map V.str) us->StrsAre us ys
 |[],_,h=>by cases h;exact .nil
 |y::ys,_,h=>by
  cases h with
  |cons r t =>
   obtain⟨tk,rfl⟩:=r;exact .cons y tk (zFk t)
def rJoin:V->List V->Hp->VK->Prop:=λ x xs H Q=>E3 λ(z:Str) (l:Addr) (ys:List Str)=>A6 (x = .str z) (xs=[.ref l]) (H l=some (.lst (ys.map V.str))) (z.length<=16) ((ys.map (·.length)).sum+ys.length<=1048576) (Q (.str (Txt.join z ys)) H)
theorem zL3 {X:Cx}:MtR X "str.join" rJoin:=by
 intro jP s σ H x xs v us Q I rx rs h;obtain⟨z,l,ys,rfl,rfl,hl,hz,hw,q⟩:=h;obtain⟨t,rfl⟩:=rx;obtain⟨u,rfl,ru⟩:=Vals.one rs;cases ru;obtain⟨_,its,n,r,le,e⟩:=I.lstM hl;have L1:s.heap.IsList l its.toArray:=⟨_,e,rfl,_,rfl⟩;exact join_listW L1 (zFk r) hz hw λ t' k=>⟨.str _,H,I.tok k,⟨t',rfl⟩,q⟩
theorem zEj {lo:Int}{n:Nat}{acc:Addr}{g:TG}{tt:TT}{te:TE}{σ:L2.St}{H:Hp}{R:Hp->Prop}(Pv:Nat->Hp->Prop) (h0:Pv 0 (upd H acc (.lst [])))
  (hs:∀i H,i<n->Pv i H->g (.int (lo+i)) σ H λ σ2 H4=>Ext σ σ2/\tt σ2 H4 λ b H5 =>
   if b=true then te σ2 H5 λ y H6=>∃zs,H6 acc=some (.lst zs)/\zs.length<sizeLine/\Pv (i+1) (upd H6 acc (.lst (zs++[y]))) else Pv (i+1) H5) (hd:∀H,Pv n H->R H) :
  ∃W:Nat->Nat->Hp->Prop,(∃m,W 0 m (upd H acc (.lst [])))/\∀i m H2,W i m H2 ->
   ((Itr lo n).stop i H2/\R H2)\/((Itr lo n).go i H2/\∃N:Hp->Prop,(∀H',N H'->∃m',m'<m/\W (i+1) m' H')/\∀x H3,(Itr lo n).yld i H2 x H3->g x σ H3 λ σ2 H4=>Ext σ σ2/\tt σ2 H4 λ b H5 =>
    if b=true then te σ2 H5 λ y H6=>∃zs,H6 acc=some (.lst zs)/\zs.length<sizeLine/\N (upd H6 acc (.lst (zs++[y])))
    else N H5):=zII (Q:=λ Ω H=>R H) Pv h0 hs hd
theorem zFA {K:W.Frag}{a:Addr}{xs:List V}{acc:Addr}{g:TG}{tt:TT}{te:TE}{σ:L2.St}{H:Hp}{R:Hp->Prop}(Pv:Nat->Hp->Prop) (h0:Pv 0 (upd H acc (.lst []))) (hl:∀i H,i<=xs.length->Pv i H->SqL K H a xs)
  (hs:∀i x H,xs[i]?=some x->Pv i H->g x σ H λ σ2 H4=>Ext σ σ2/\tt σ2 H4 λ b H5 =>
   if b=true then te σ2 H5 λ y H6=>∃zs,H6 acc=some (.lst zs)/\zs.length<sizeLine/\Pv (i+1) (upd H6 acc (.lst (zs++[y]))) else Pv (i+1) H5) (hd:∀H,Pv xs.length H->R H) :
  ∃W:Nat->Nat->Hp->Prop,(∃m,W 0 m (upd H acc (.lst [])))/\∀i m H2,W i m H2 ->
   ((Itl K a).stop i H2/\R H2)\/((Itl K a).go i H2/\∃N:Hp->Prop,(∀H',N H'->∃m',m'<m/\W (i+1) m' H')/\∀x H3,(Itl K a).yld i H2 x H3->g x σ H3 λ σ2 H4=>Ext σ σ2/\tt σ2 H4 λ b H5 =>
    if b=true then te σ2 H5 λ y H6=>∃zs,H6 acc=some (.lst zs)/\zs.length<sizeLine/\N (upd H6 acc (.lst (zs++[y])))
    else N H5):=by
 refine⟨λ i m H=>m=xs.length - i/\i<=xs.length/\Pv i H,⟨xs.length,by simp,lX _,h0⟩,?_⟩;rintro i m H2 ⟨rfl,hi,p⟩;have q:=hl i H2 hi p
 by_cases hlt:i<xs.length
 ·refine .inr ⟨⟨xs,xs[i],q,by simp[hlt]⟩,Pv (i+1),λ H' p'=>⟨xs.length - (i+1),by lia,rfl,hlt,p'⟩,λ x H' y=>?_⟩
  obtain⟨e,y⟩:=y;subst e;exact hs i x _ (y xs q) p
 ·have e:i=xs.length:=by lia
  subst e;exact .inl ⟨⟨xs,q,lQ _⟩,hd H2 p⟩
section
variable {X:Cx}
theorem zLl {elt tg iter:Expr}{y:Str}{py spos:Pos}{jj:Nat}{ifs:List Expr}{sc:Scope}{pos:Pos}{wi:TI}{g:TG}{tt:TT}{te:TE}(N:List Str) (cap:List (Option Nat)) (hc:X.calm=true) (hi:PI X tg iter wi)
    (hg:∀cl s H C ex,PG (X.block sc cl N s H C ex) tg g) (ht:∀cl s H C ex,PTs (X.block sc cl N s H C ex) ifs tt) (he:∀cl s H C ex,PE (X.block sc cl N s H C ex) elt te)
    (hk:sc.kind = .function) (nc:∀y∈sc.names,y.2 ≠ .cell) (hnames:∀y∈sc.names,y.2 = .local->sc.names.lookup y.1=some .local)
    (hfree:∀n,(n,NameKind.free)∈sc.names->X.env.kindOf n=some .cell)
    (hcap:∀(i j:Nat),cap[i]?=some (some j)->∃x,N[i]?=some x/\X.N[j]?=some x/\sc.names.lookup x=some .free) (hlen:cap.length=N.length)
    (hN:X.N.Nodup) (hjj:X.N[jj]?=some y) (hxx:Loc X.env.scope y) (hf:X.fn y=true\/X.env.scope.names.lookup y=some .local)
    (hsw:swapsWith 93 (some (.Name y py)) spos.line X.env=pure true)
    (hs:∀x,foldedSetIterable iter X.env x=pure x:=by intro _;rfl):PS X (.Assign [.Name y py] 93 spos) (tAsg (tComp cap wi g tt te) (gName jj)):=by
  intro jP s σ H D I h;obtain⟨cl,hclos,c1,c2⟩:=zFB (sc:=sc) (env:=X.env) λ n hn=>I.ok.has n (.inl (hfree n hn));rw[exec_Assign_Name_used _ _ _ _ hsw];refine lA (wpAny_standAt (lA ?_));show wpAny _ X.A (do let _ ← comprehension 93 sc X.env _ (newList []) false (eval iter X.env) (some (assign (.Name y py) X.env))) _ _ s;refine lA (wpAny_mono (wpAny_comprehension_free (use:=some (assign (.Name y py) X.env)) (Q:=λ Ω s'=>SP X jP D .next s') rfl hs hclos hk hnames ?_) (λ Ω s' hq=>lB (lB hq)) λ Ω Ω e=>e);refine thn (hi jP s σ H _ I h) λ v s1 h1=>thn h1 λ itv s2 h2=>?_;obtain⟨it,fp,tn,J,H2,e,I2,T,st2,f2,q2⟩:=h2;subst e;have hfr:H2 s2.heap.objs.size=none:=I2.fresh;obtain⟨W,⟨m0,w0⟩,turn⟩:=q2 s2.heap.objs.size hfr;have I3:=I2.lnew (ys:=[]) (its:=[]) (t':=s2.toks) .nil (lX _);have hacc:H2 s2.heap.objs.size=none:=hfr;refine wpAny_newObj_type (wpAny_newFunctionEnv nc (by intro y hy;simp at hy) (λ h4 hns hsb=>?_) hk);generalize hs3:({ s2 with heap:=s2.heap.push { cls:=.type "list", data:=.seq ([]:List Value).toArray } }:Shared)=s3 at hns hsb I3 ⊢;have hheap:s3.heap=s2.heap.push { cls:=.type "list", data:=.seq ([]:List Value).toArray }:=by rw[←hs3]
  generalize hH3:upd H2 s2.heap.objs.size (.lst [])=H3 at I3 w0;have up2:∀b o,s2.heap.get? b=some o->s3.heap.get? b=some o:=λ b o q=>by rw[hheap];exact lE _ q
  have neA:∀b∈fp,b≠s2.heap.objs.size:=λ b hb=>by
    obtain⟨o,q,_⟩:=T.obj _ _ st2 b hb;exact lR (lH q)
  have f3:∀b∈fp,FpOk X jP H3 b:=λ b hb=>⟨by rw[←hH3,zAR (neA b hb)];exact(f2 b hb).1,(f2 b hb).2⟩
  have o3:∀b∈fp,∃o,s3.heap.get? b=some o:=λ b hb=>by
    obtain⟨o,q,_⟩:=T.obj _ _ st2 b hb;exact⟨o,up2 b o q⟩
  have ok':=zHg (N:=N) (C:=s3.heap.objs.size) I3 hk nc (lQ _) f3 o3 c1 c2;generalize hC:s3.heap.objs.size=C at hns hsb ok' ⊢;have ltC:∀b o,s3.heap.get? b=some o->b≠C:=λ b o q=>by rw[←hC];exact lR (lH q)
  have up4:∀b o,s3.heap.get? b=some o->h4.get? b=some o:=λ b o q=>hsb.extBut b o (ltC b o q) (lE _ q);have st4:tn 0 h4:=T.keep _ _ _ st2 λ b hb o q=>up4 b o (up2 b o q)
  have I4:Inv 95 [] (capSt cap σ) H3 { s3 with heap:=h4,toks:=s3.toks+([]:List (Str × Value)).length }:=by
    refine⟨ok',rfl,I3.bare,Un.kept up4,⟨_,hns,λ i x v e1 e2 e3=>?_⟩,λ x c q=>?_,?_,λ x c q=>I3.freeC x c (c1 x c q),λ p hp=>(nomatch hp),I3.hok.kept up4,?_⟩
    · have ee:∃j,cap[i]?=some (some j)/\σ[j]?=some (some v):=by
        unfold capSt at e2;rw[mH] at e2;cases q:cap[i]? with
        |none=>rw[q] at e2;cases e2
        |some o =>
          rw[q] at e2;cases o with
          |none=>cases e2
          |some j =>
            refine⟨j,rfl,?_⟩;have e2':some ((σ[j]?).join)=some (some v):=e2;cases z:σ[j]? with
            |none=>rw[z] at e2';cases e2'
            |some o' =>
              rw[z] at e2';have e2'':o'=some v:=mD e2';rw[e2'']
      obtain⟨j,ej,es⟩:=ee;obtain⟨x',n1,n2,n3⟩:=hcap i j ej;have e1':N[i]?=some x:=e1;rw[n1] at e1';cases e1';have hfr':(x,NameKind.free)∈sc.names:=zDs n3;have kc:=hfree x hfr';obtain⟨m,_,hl⟩:=I3.loc;obtain⟨u,r,l⟩:=hl j x v n2 es (.inr (.inl kc));refine⟨u,r,?_⟩;rcases l with ⟨l,_⟩|⟨_,c,ec,z⟩
      · rw[kc] at l;cases l
      · obtain⟨c',ec'⟩:=c2 x hfr'
        have:=c1 x c' ec';rw[ec] at this;cases this;obtain⟨oc,q1,q2⟩:=z;exact .inr ⟨zBP (sc:=sc) n3,c,ec',oc,up4 _ _ q1,q2⟩
    · obtain⟨v,oc,q1,q2⟩:=I3.cell x c (c1 x c q)
      exact⟨v,oc,up4 _ _ q1,q2⟩
    · exact I3.hok.fresh (by rw[hC];exact lQ _)
    · show (capSt cap σ).length=N.length
      unfold capSt;rw[lC,hlen]
  have loop:codeAny 67 X.A (.compLoop 93 0 (.ref it) (.ref s2.heap.objs.size) (compEnvC sc cl C X.env)) (compPost 67 X.A X.xe (some (assign (.Name y py) X.env)) (λ Ω s'=>SP X jP D .next s') (.ref s2.heap.objs.size) C)
      { s3 with heap:=h4,toks:=s3.toks+([]:List (Str × Value)).length }:=by
    have stat:∀{H':Hp},(∀b∈fp,H' b=none)->∀b∈fp,FpOk 95 [] H' b:=λ hn b hb =>
      ⟨hn b hb,(ok'.exf b hb).1,ok'.exfs b hb,.inl hb,(ok'.exf b hb).2,λ p hp=>(nomatch hp)⟩
    refine zGF (λ n s'=>∃i H',Inv 95 [] (capSt cap σ) H' s'/\tn i s'.heap/\(∀b∈fp,H' b=none)/\W i n H') ?_ m0 ⟨0,H3,I4,st4,λ b hb=>(f3 b hb).1,w0⟩;rintro n s5 ⟨i,H5,I5,st5,fr5,w5⟩;rcases turn i n H5 w5 with ⟨stop,qn⟩|⟨go,N',hN',step⟩
    · refine thn (T.done 95 rfl rfl rfl hc i [] s5 _ H5 NoX I5 (stat fr5) st5 stop) λ r s6 ⟨hr,I6⟩=>?_
      subst hr;obtain⟨m,hm,_⟩:=I6.loc
      have I7:Inv X jP σ H5 s6:=by
        refine I3.call' (s':=s6) (ch:=fp) I6.os I6.base I6.hok I6.bare λ b hb=>?_;obtain⟨g0,g1,g2,g3,g4,g5⟩:=f3 b hb;exact⟨g3,g1,g4,g5⟩
      have hCl:X.env.locals≠C:=by
        obtain⟨_,hn3,_⟩:=I3.loc;rw[←hC];exact lR hn3.lt
      have hCc:∀x c,X.env.cells.lookup x=some c->c≠C:=λ x c q=>by
        obtain⟨v,oc,q1,q2⟩:=I3.cell x c q;exact ltC _ _ q1
      refine wpAny_assign_Name (zFl I7 hN hjj hxx (v:=.ref s2.heap.objs.size) rfl (λ s9 I9 ⟨a9,sb9,ha9⟩=>?_) hf)
      have hCa:a9≠C:=by
        rcases ha9 with rfl|z
        · exact hCl
        · exact hCc _ _ z
      refine⟨m,hm.sameBut sb9 (Ne.symm hCa),λ h' sb=>⟨_,H5,?_,qn⟩⟩;refine I9.call' (s':={ s9 with heap:=h' }) (ch:=[C]) rfl ?_ (I9.hok.but I6.free sb) I9.bare λ b hb=>?_
      · have st:∀b o,s9.heap.get? b=some o->b∉[C]->h'.get? b=some o:=λ b o q hx=>(sb.2 b (λ z=>hx (by rw[z];exact mO.mpr rfl))).trans q
        exact⟨λ b o q Ω Ω hx=>st b o q hx,λ b o q Ω Ω hx=>⟨o.slots,st b o q hx⟩,λ b o q n Ω=>n,λ b o q hx=>⟨o,st b o q hx⟩,λ Ω Ω q=>q,λ Ω Ω Ω q=>q,λ b ps q=>⟨#[],by simpa using q⟩⟩
      · rw[mO.mp hb]
        exact⟨.inr (by rw[←hC];exact I3.sz),Ne.symm hCl,hCc,λ p hp=>ltC _ _ (I3.pin p hp).1⟩
    · refine thn (T.item 95 rfl rfl rfl hc i [] s5 _ H5 NoX I5 (stat fr5) st5 go) λ r s6 ⟨u,hr,h6⟩=>?_
      subst hr;refine thn h6 λ _ s7 ⟨x,H7,I7,r7,y7,st7,fr7⟩=>?_;have I7':=I7.pinned (stat fr7) (T.obj _ _ st7)
      have again:∀{σ8:St}{H8:Hp}{s8:Shared},Inv 95 ([]++zE5 fp s7.heap) σ8 H8 s8->Ext (capSt cap σ) σ8->N' H8 ->
          ∃m,m<n/\∃i H',Inv 95 [] (capSt cap σ) H' s8/\tn i s8.heap/\(∀b∈fp,H' b=none)/\W i m H':=λ{σ8 H8 s8} I8 ex n8=>by
        obtain⟨m',hm,w8⟩:=hN' H8 n8;have I8':=I8.unpinned.weak ex.len ex.get;refine⟨m',hm,i+1,H8,I8',T.keep _ _ _ st7 λ b hb o q=>(I8.pin (b,o) (lZ _ (lZ _ (zBr hb q)))).1,λ b hb=>?_,w8⟩;obtain⟨o,q,d⟩:=T.obj _ _ st7 b hb;exact(I8.pin (b,o) (lZ _ (lZ _ (zBr hb q)))).2.1
      refine thn (hg cl s3 H3 C fp _ s7 _ H7 x u _ I7' r7 (step x H7 y7)) λ _ s8 ⟨σ8,H8,I8,ex8,q8⟩=>?_;refine thn (ht cl s3 H3 C fp _ s8 σ8 H8 _ I8 q8) λ b s9 ⟨H9,I9,q9⟩=>?_;cases b with
      |false=>exact again I9 ex8 q9
      |true =>
        rw[if_pos rfl] at q9 ⊢;refine thn (he cl s3 H3 C fp _ s9 σ8 H9 _ I9 q9) λ yv s10 ⟨y,H10,I10,r10,zs,e10,l10,q10⟩=>?_;refine thn (zEY (X:=X.block sc cl N s3 H3 C fp) _ s10 σ8 H10 (.ref s2.heap.objs.size) [y] (.ref s2.heap.objs.size) [yv] (λ Ω H'=>N' H') I10 rfl (.cons r10 .nil) ⟨_,zs,y,rfl,rfl,e10,l10,q10⟩) λ _ s11 ⟨_,H11,I11,_,q11⟩=>?_;exact again I11 ex8 q11
  exact codeAny_compStart_list loop (T.self X.A 0 _ _ _ st4 loop)
theorem zD9 {elt tg iter:Expr}{y:Str}{py spos:Pos}{jj:Nat}{ifs:List Expr}{sc:Scope}{pos:Pos}{wi:TI}{g:TG}{tt:TT}{te:TE}(N:List Str) (cap:List (Option Nat)) (hc:X.calm=true) (hi:PI X tg iter wi)
  (hg:∀cl s H C ex,PG (X.block sc cl N s H C ex) tg g) (ht:∀cl s H C ex,PTs (X.block sc cl N s H C ex) ifs tt) (he:∀cl s H C ex,PE (X.block sc cl N s H C ex) elt te)
  (ck:zHe sc X.env X.N N cap=true) (hN:X.N.Nodup) (hjj:X.N[jj]?=some y) (hxx:Loc X.env.scope y) (hf:X.fn y=true\/X.env.scope.names.lookup y=some .local)
  (hsw:swapsWith 93 (some (.Name y py)) spos.line X.env=pure true:=by rfl) (hs:∀x,foldedSetIterable iter X.env x=pure x:=by intro _;rfl):PS X (.Assign [.Name y py] 93 spos) (tAsg (tComp cap wi g tt te) (gName jj)):=by
 unfold zHe at ck;simp only[Bool.and_eq_true] at ck;obtain⟨⟨⟨⟨⟨k1,k2⟩,k3⟩,k4⟩,k5⟩,k6⟩:=ck;refine zLl N cap hc hi hg ht he (by simpa using k1) (λ y hy=>?_) (λ y hy z=>?_) (λ n hn=>?_) (λ i j e=>?_) (by simpa using k6) hN hjj hxx hf hsw hs
 ·have:=List.all_eq_true.mp k2 y hy
  simpa using this
 ·have:=List.all_eq_true.mp k3 y hy
  rw[z] at this;simpa using this
 ·have:=List.all_eq_true.mp k4 _ hn
  simpa using this
 ·have hi:i<cap.length:=(lI.mp e).1
  have:=List.all_eq_true.mp k5 i (List.mem_range.mpr hi);rw[e] at this;dsimp only at this;cases q:N[i]? with
  |none=>rw[q] at this;cases this
  |some x =>
   rw[q] at this;dsimp only at this;rw[Bool.and_eq_true] at this;exact⟨x,rfl,by simpa using this.1,by simpa using this.2⟩
end
inductive Dt where
 |int (i:Int)|str (x:Str)|tup (ds:List Dt)
mutual
def Dt.beq:Dt->Dt->Bool
 |.int i,.int j=>decide (i=j)
 |.str x,.str y=>decide (x=y)
 |.tup ds,.tup es=>Dt.beqs ds es
 |_,_=>false
def Dt.beqs:List Dt->List Dt->Bool
 |[],[]=>true
 |d::ds,e::es=>Dt.beq d e && Dt.beqs ds es
 |_,_=>false
end
mutual
theorem Dt.beq_iff:∀{d e:Dt},Dt.beq d e=true↔d=e
 |.int i,.int j=>by simp[Dt.beq]
 |.str x,.str y=>by simp[Dt.beq]
 |.tup ds,.tup es=>by
  have:=Dt.beqs_iff (ds:=ds) (es:=es);simp[Dt.beq,this]
 |.int _,.str _=>by simp[Dt.beq]
 |.int _,.tup _=>by simp[Dt.beq]
 |.str _,.int _=>by simp[Dt.beq]
 |.str _,.tup _=>by simp[Dt.beq]
 |.tup _,.int _=>by simp[Dt.beq]
 |.tup _,.str _=>by simp[Dt.beq]
theorem Dt.beqs_iff:∀{ds es:List Dt},Dt.beqs ds es=true↔ds=es
 |[],[]=>by simp[Dt.beqs]
 |[],_::_=>by simp[Dt.beqs]
 |_::_,[]=>by simp[Dt.beqs]
 |d::ds,e::es=>by
  have h1:=Dt.beq_iff (d:=d) (e:=e);have h2:=Dt.beqs_iff (ds:=ds) (es:=es);simp[Dt.beqs,h1,h2]
end
mutual
noncomputable def Dt.deep:Dt->Nat
 |.tup ds=>Dt.deeps ds+1
 |_=>0
noncomputable def Dt.deeps:List Dt->Nat
 |[]=>0
 |d::ds=>max (Dt.deep d) (Dt.deeps ds)
end
mutual
inductive DR (H:Hp):Dt->V->Prop
 |int (i:Int):DR H (.int i) (.int i)
 |str (x:Str):DR H (.str x) (.str x)
 |tup {a:Addr}{xs:List V}{ds:List Dt}:H a=some (.tup xs)->DRs H ds xs->DR H (.tup ds) (.ref a)
inductive DRs (H:Hp):List Dt->List V->Prop
 |nil:DRs H [] []
 |cons {d:Dt}{v:V}{ds:List Dt}{vs:List V}:DR H d v->DRs H ds vs->DRs H (d::ds) (v::vs)
end
mutual
theorem DR.mono {H H':Hp}(k:Tk H H'):∀{d:Dt}{v:V},DR H d v->DR H' d v
 |_,_,.int i=>.int i
 |_,_,.str x=>.str x
 |_,_,.tup h r=>.tup (k _ _ h) (DRs.mono k r)
theorem DRs.mono {H H':Hp}(k:Tk H H'):∀{ds:List Dt}{vs:List V},DRs H ds vs->DRs H' ds vs
 |_,_,.nil=>.nil
 |_,_,.cons r t=>.cons (DR.mono k r) (DRs.mono k t)
end
theorem DRs.length {H:Hp}:∀{ds:List Dt}{vs:List V},DRs H ds vs->ds.length=vs.length
 |_,_,.nil=>rfl
 |_,_,.cons _ t=>congrArg (· + 1) t.length
mutual
theorem DR.inj {H:Hp}:∀{d e:Dt}{v:V},DR H d v->DR H e v->d=e
 |_,_,_,.int _,.int _=>rfl
 |_,_,_,.str _,.str _=>rfl
 |_,_,_,.tup h r,.tup h' r'=>by
  rw[h] at h';cases h';rw[DRs.inj r r']
theorem DRs.inj {H:Hp}:∀{ds es:List Dt}{vs:List V},DRs H ds vs->DRs H es vs->ds=es
 |_,_,_,.nil,.nil=>rfl
 |_,_,_,.cons r t,.cons r' t'=>by rw[DR.inj r r',DRs.inj t t']
end
theorem DRs.get {H:Hp}:∀{ds:List Dt}{vs:List V}{j:Nat}{v:V},DRs H ds vs->vs[j]?=some v->∃d,ds[j]?=some d/\DR H d v
 |_,_,_,_,.nil,e=>by simp at e
 |_,_,0,_,.cons r _,e=>by simp at e;subst e;exact⟨_,rfl,r⟩
 |_,_,j+1,v,.cons _ t,e=>by
  obtain⟨d,h1,h2⟩:=DRs.get (j:=j) (v:=v) t (by simpa using e);exact⟨d,by simpa using h1,h2⟩
theorem zFZ:∀{ds:List Dt}{j:Nat}{d:Dt},ds[j]?=some d->d.deep<=Dt.deeps ds
 |[],_,_,h=>by simp at h
 |e::ds,0,d,h=>by simp at h;subst h;simp[Dt.deeps];lia
 |e::ds,j+1,d,h=>by
  have:=zFZ (ds:=ds) (j:=j) (d:=d) (by simpa using h);simp[Dt.deeps];lia
theorem zHh:∀(ds es:List Dt),Dt.beqs ds es=((List.range (min ds.length es.length)).all (λ j=>match ds[j]?,es[j]? with|some d,some e=>Dt.beq d e|_,_=>false) && ds.length == es.length):=by
 intro ds es;rw[Bool.eq_iff_iff,Dt.beqs_iff,Bool.and_eq_true,List.all_eq_true];constructor
 ·rintro rfl
  refine⟨λ j hj=>?_,by simp⟩;have hj':j<ds.length:=by simpa using List.mem_range.mp hj
  simp[nL hj',Dt.beq_iff]
 ·rintro⟨h,hl⟩
  have hl':ds.length=es.length:=by simpa using hl
  refine List.ext_getElem hl' λ j h1 h2=>?_;have:=h j (List.mem_range.mpr 65);simpa[nL h1,nL h2,Dt.beq_iff] using this
section
variable {X:Cx}{jP:List (Addr × Obj)}{σ:St}{H:Hp}{s:Shared}
theorem zJl (I:Inv X jP σ H s):∀(n:Nat) (A:Around) {d e:Dt}{v z:V}{u y:Value},d.deep<=n->DR H d v->DR H e z->RelV v u->RelV z y->A.units+n<cLine->SeqAt.EqAt A s u y (Dt.beq d e):=by
 intro n
 induction n with
 |zero =>
  intro A d e v z u y hn rd re ru ry hu;cases rd with
  |int i =>
   obtain⟨t,rfl⟩:=ru;cases re with
   |int j=>obtain⟨t',rfl⟩:=ry;rw[show Dt.beq (.int i) (.int j)=(i == j) by simp[Dt.beq,Bool.beq_eq_decide_eq]];exact SeqAt.EqAt.int_int i t j t'
   |str x=>obtain⟨t',rfl⟩:=ry;exact SeqAt.EqAt.int_str i t x t'
   |tup h r =>
    cases ry;obtain⟨its,rv,p,_⟩:=I.tuple (SqT.of h);exact SeqAt.EqAt.int_tuple i t (show s.heap.IsTuple _ its.toArray from p) 65
  |str x =>
   obtain⟨t,rfl⟩:=ru;cases re with
   |int j=>obtain⟨t',rfl⟩:=ry;exact SeqAt.EqAt.str_int x t j t'
   |str w'=>obtain⟨t',rfl⟩:=ry;rw[show Dt.beq (.str x) (.str w')=(x == w') by simp[Dt.beq,Bool.beq_eq_decide_eq]];exact SeqAt.EqAt.str_str x t w' t'
   |tup h r =>
    cases ry;obtain⟨its,rv,p,_⟩:=I.tuple (SqT.of h);exact SeqAt.EqAt.str_tuple x t (show s.heap.IsTuple _ its.toArray from p) 65
  |tup h r=>simp[Dt.deep] at hn
 |succ n ih =>
  intro A d e v z u y hn rd re ru ry hu;cases rd with
  |int i =>
   obtain⟨t,rfl⟩:=ru;cases re with
   |int j=>obtain⟨t',rfl⟩:=ry;rw[show Dt.beq (.int i) (.int j)=(i == j) by simp[Dt.beq,Bool.beq_eq_decide_eq]];exact SeqAt.EqAt.int_int i t j t'
   |str x=>obtain⟨t',rfl⟩:=ry;exact SeqAt.EqAt.int_str i t x t'
   |tup h r =>
    cases ry;obtain⟨its,rv,p,_⟩:=I.tuple (SqT.of h);exact SeqAt.EqAt.int_tuple i t (show s.heap.IsTuple _ its.toArray from p) 65
  |str x =>
   obtain⟨t,rfl⟩:=ru;cases re with
   |int j=>obtain⟨t',rfl⟩:=ry;exact SeqAt.EqAt.str_int x t j t'
   |str w'=>obtain⟨t',rfl⟩:=ry;rw[show Dt.beq (.str x) (.str w')=(x == w') by simp[Dt.beq,Bool.beq_eq_decide_eq]];exact SeqAt.EqAt.str_str x t w' t'
   |tup h r =>
    cases ry;obtain⟨its,rv,p,_⟩:=I.tuple (SqT.of h);exact SeqAt.EqAt.str_tuple x t (show s.heap.IsTuple _ its.toArray from p) 65
  | @tup a xs ds ha rs =>
   cases ru;obtain⟨its,rv,p,_⟩:=I.tuple (SqT.of ha);have hn':Dt.deeps ds<=n:=by simpa[Dt.deep] using hn
   cases re with
   |int j=>obtain⟨t',rfl⟩:=ry;exact SeqAt.EqAt.tuple_int j t' (show s.heap.IsTuple _ its.toArray from p) 65
   |str w'=>obtain⟨t',rfl⟩:=ry;exact SeqAt.EqAt.tuple_str w' t' (show s.heap.IsTuple _ its.toArray from p) 65
   | @tup b ys es hb rs' =>
    cases ry
    by_cases hab:a=b
    ·subst hab
     rw[ha] at hb;cases hb;have:ds=es:=DRs.inj rs rs';subst this;rw[show Dt.beq (.tup ds) (.tup ds)=true from Dt.beq_iff.mpr rfl];exact SeqAt.EqAt.same _
    ·obtain⟨its2,rv2,p2,_⟩:=I.tuple (SqT.of hb)
     refine SeqAt.EqAt.of_refs hab ?_;have l1:=rv.length;have l2:=rv2.length;have m1:=rs.length;have m2:=rs'.length
     have key:=SeqAt.RcAt.tuples (A:=A) (s:=s) (e:=λ j=>match ds[j]?,es[j]? with|some d,some e=>Dt.beq d e|_,_=>false) (show s.heap.IsTuple _ its.toArray from p) (show s.heap.IsTuple _ its2.toArray from p2) 65 λ j h1 h2=>by
      have g1:j<xs.length:=by rw[l1];simpa using h1
      have g2:j<ys.length:=by rw[l2];simpa using h2
      obtain⟨u1,eu,r1⟩:=rv.get (lV g1);obtain⟨u2,ev,r2⟩:=rv2.get (lV g2);obtain⟨d1,ed,rd1⟩:=rs.get (lV g1);obtain⟨d2,ed2,rd2⟩:=rs'.get (lV g2);have e1:its.toArray[j]=u1:=by obtain⟨_,q⟩:=lI.mp eu;simpa using q
      have e2:its2.toArray[j]=u2:=by obtain⟨_,q⟩:=lI.mp ev;simpa using q
      simp only[ed,ed2,e1,e2];exact ih A.in1 (mF (zFZ ed) hn') rd1 rd2 r1 r2 (by rw[show A.in1.units=A.units+1 from rfl];lia)
     have ez:Dt.beq (.tup ds) (.tup es)=((List.range (min its.toArray.size its2.toArray.size)).all (λ j=>match ds[j]?,es[j]? with|some d,some e=>Dt.beq d e|_,_=>false) && its.toArray.size == its2.toArray.size):=by
      rw[show Dt.beq (.tup ds) (.tup es)=Dt.beqs ds es by simp[Dt.beq],zHh];have a1:its.toArray.size=ds.length:=by simp;lia
      have a2:its2.toArray.size=es.length:=by simp;lia
      rw[a1,a2]
     rw[ez];exact key
def rEqD (neg:Bool):R2:=λ x y H Q=>E2 λ(ds es:List Dt)=>A4 (DR H (.tup ds) x) (DR H (.tup es) y) ((Dt.tup ds).deep<=150) (Q (.bl (if neg then !Dt.beqs ds es else Dt.beqs ds es)) H)
theorem zJk (I:Inv X jP σ H s) {a b:Addr}{ds es:List Dt}(hd:DR H (.tup ds) (.ref a)) (he:DR H (.tup es) (.ref b)) (hdeep:(Dt.tup ds).deep<=150) (hu:X.A.units+150<cLine) :
  ∃its its2:List Value,s.heap.IsTuple a its.toArray/\s.heap.IsTuple b its2.toArray/\its.toArray.size=ds.length/\its2.toArray.size=es.length /\
   ∀j (h1:j<its.toArray.size) (h2:j<its2.toArray.size),SeqAt.EqAt X.A.in1 s its.toArray[j] its2.toArray[j] ((λ j=>match ds[j]?,es[j]? with|some d,some e=>Dt.beq d e|_,_=>false) j):=by
 cases hd with
 | @tup _ xs _ ha rs =>
  cases he with
  | @tup _ ys _ hb rs' =>
   obtain⟨its,rv,p,_⟩:=I.tuple (SqT.of ha);obtain⟨its2,rv2,p2,_⟩:=I.tuple (SqT.of hb);have l1:=rv.length;have l2:=rv2.length;have m1:=rs.length;have m2:=rs'.length;refine⟨its,its2,p,p2,by simp;lia,by simp;lia,λ j h1 h2=>?_⟩;have g1:j<xs.length:=by rw[l1];simpa using h1
   have g2:j<ys.length:=by rw[l2];simpa using h2
   obtain⟨u1,eu,r1⟩:=rv.get (lV g1);obtain⟨u2,ev,r2⟩:=rv2.get (lV g2);obtain⟨d1,ed,rd1⟩:=rs.get (lV g1);obtain⟨d2,ed2,rd2⟩:=rs'.get (lV g2);have e1:its.toArray[j]=u1:=by obtain⟨_,q⟩:=lI.mp eu;simpa using q
   have e2:its2.toArray[j]=u2:=by obtain⟨_,q⟩:=lI.mp ev;simpa using q
   simp only[ed,ed2,e1,e2];have dd:Dt.deeps ds+1<=150:=by simpa[Dt.deep] using hdeep
   exact zJl I 149 X.A.in1 (mF (zFZ ed) 65) rd1 rd2 r1 r2 (by rw[show X.A.in1.units=X.A.units+1 from rfl];lia)
theorem zHN (hu:X.A.units+150<cLine):OpR X (compareOp .Eq) (rEqD false):=by
 intro jP s σ H x y v u Q I rx ry h;obtain⟨ds,es,hd,he,hdeep,q⟩:=h;obtain⟨a,rfl⟩:∃a,x = .ref a:=by cases hd;exact⟨_,rfl⟩
 obtain⟨b,rfl⟩:∃b,y = .ref b:=by cases he;exact⟨_,rfl⟩
 cases rx;cases ry;obtain⟨its,its2,p,p2,z1,z2,hall⟩:=zJk I hd he hdeep hu;refine SeqAt.eq_tupleAt p p2 65 hall ?_;rw[z1,z2,←zHh];exact⟨.bl (Dt.beqs ds es),H,I,rfl,by simpa using q⟩
theorem hu150 {k:Nat}{A:Around}(hr:Room k A):A.units+150<cLine:=by have:=hr.un;lia
end
theorem itB {h h':Heap}{a b t:Addr}{i:Nat}(x:h.IsTupleIter a t i) (e:Heap.SameBut b h h') (n:a≠b):h'.IsTupleIter a t i:=x.extBut e.extBut n
theorem tpB {h h':Heap}{a b:Addr}{xs:Array Value}(x:h.IsTuple a xs) (e:Heap.SameBut b h h') (n:a≠b):h'.IsTuple a xs:=let ⟨o,ho,r⟩:=x;⟨o,e.extBut a o n ho,r⟩
section
variable {prog:Program}{w:World}{A:Around}{E:XQ}{s:Shared}
theorem zIL {z TI TO i1 i2 l1 l2:Addr}{k:Nat}{xs ys:Array Value}{x y a b:Value}{Q:Option Value->Shared->Prop}(D:ZipApart z TI TO i1 i2 l1 l2)
  (hz:IsZip s.heap z TI TO .none) (hTI:IsPair s.heap TI (.ref i1) (.ref i2)) (hTO:IsPair s.heap TO a b) (h1:s.heap.IsTupleIter i1 l1 k) (h2:s.heap.IsTupleIter i2 l2 k)
  (hl1:s.heap.IsTuple l1 xs) (hl2:s.heap.IsTuple l2 ys) (hx:xs[k]?=some x) (hy:ys[k]?=some y)
  (hQ:∀h',IsZip h' z TI TO (rawInt s.heap.objs.size)->IsPair h' TO x y->h'.IsTupleIter i1 l1 (k+1)->h'.IsTupleIter i2 l2 (k+1)->IsPair h' s.heap.objs.size x y ->
   (∀c o,c≠z->c≠TO->c≠i1->c≠i2->s.heap.get? c=some o->h'.get? c=some o)->Q (some (.ref s.heap.objs.size)) { s with heap:=h' }):wpAny (model prog w) A (pyNext (.ref z)) Q E s:=by
 have hT:s.TypeIs (.ref z) "zip" := ⟨_,hz,rfl⟩;unfold pyNext;refine lA (wpAny_attempt 83);show wpAny _ _ (field (.ref z) 2 >>= _) _ _ _;refine lA (wpAny_field hz rfl (x:=.bool false) rfl ?_);show wpAny _ _ (field (.ref z) 3 >>= _) _ _ _;refine lA (wpAny_field hz rfl (x:=.ref TI) rfl ?_);refine lA (wpAny_seqItems hTI rfl ?_);show wpAny _ _ (Builtin.SmallTypes.ownedTupleIsFree (.ref z) >>= _) _ _ _;refine lA ?_;unfold Builtin.SmallTypes.ownedTupleIsFree;refine lA (wpAny_field hz rfl (x:=.none) rfl (lB ?_));simp only[if_true];refine lA (wpAny_rule ?_);refine lA (wpAny_field hz rfl (x:=.ref TO) rfl ?_);refine lA (wpAny_setField_rec hz 59 λ q1 hz1 hs1=>?_);replace hz1:IsZip q1 z TI TO .ellipsis:=hz1;refine lA ?_;simp only[List.zipIdx_cons,List.zipIdx_nil,List.forIn_cons,List.forIn_nil];refine lA (lA (wpAny_onRaise ?_));show wpAny _ _ (Builtin.SmallTypes.nextOf (.ref i1) >>= _) _ _ _;refine lA (zAm (itB h1 hs1 D.i1z) (tpB hl1 hs1 D.l1z) hx λ q2 j1 hs2=>lB ?_);have hTO2:IsPair q2 TO a b:=hs2.extBut _ _ D.TOi1 (hs1.extBut _ _ D.TOz hTO);refine lA (wpAny_seqItems hTO2 rfl ?_);refine lA (wpAny_updateSeq_pair hTO2 λ q3 hTO3 hs3=>?_);replace hTO3:IsPair q3 TO x b:=hTO3;refine lA (wpAny_letGo (lB ?_));refine lA (lA (wpAny_onRaise ?_));show wpAny _ _ (Builtin.SmallTypes.nextOf (.ref i2) >>= _) _ _ _;refine lA (zAm (itB (itB (itB h2 hs1 D.i2z) hs2 D.i12.symm) hs3 D.TOi2.symm) (tpB (tpB (tpB hl2 hs1 D.l2z) hs2 D.l2i1) hs3 D.l2TO) hy λ q4 j2 hs4=>lB ?_);have hTO4:IsPair q4 TO x b:=hs4.extBut _ _ D.TOi2 hTO3;refine lA (wpAny_seqItems hTO4 rfl ?_);refine lA (wpAny_updateSeq_pair hTO4 λ q5 hTO5 hs5=>?_);replace hTO5:IsPair q5 TO x y:=hTO5;refine lA (wpAny_letGo (lB (lB ?_)));refine lA (wpAny_seqItems hTO5 rfl ?_);refine lA (wpAny_newTuple ?_);have hsz:q5.objs.size=s.heap.objs.size:=by rw[hs5.1,hs4.1,hs3.1,hs2.1,hs1.1]
 have hz5:IsZip q5 z TI TO .ellipsis:=hs5.extBut _ _ D.TOz.symm (hs4.extBut _ _ D.i2z.symm (hs3.extBut _ _ D.TOz.symm (hs2.extBut _ _ D.i1z.symm hz1)));have hk5:∀c o,c≠z->c≠TO->c≠i1->c≠i2->s.heap.get? c=some o->q5.get? c=some o:=λ c o c1 c2 c3 c4 e=>hs5.extBut _ _ c2 (hs4.extBut _ _ c4 (hs3.extBut _ _ c2 (hs2.extBut _ _ c3 (hs1.extBut _ _ c1 e))));have j15:q5.IsTupleIter i1 l1 (k+1):=itB (itB (itB j1 hs3 D.TOi1.symm) hs4 D.i12) hs5 D.TOi1.symm;have j25:q5.IsTupleIter i2 l2 (k+1):=itB j2 hs5 D.TOi2.symm;have hzlt:z<q5.objs.size:=lH hz5;show wpAny _ _ (Builtin.SmallTypes.ownedTupleHandOut (.ref z) (.ref q5.objs.size) >>= _) _ _ _;refine lA ?_;unfold Builtin.SmallTypes.ownedTupleHandOut;have hz6:IsZip (q5.push { cls:=.type "tuple", data:=.seq #[x,y] }) z TI TO .ellipsis:=lE _ hz5;refine lA (wpAny_setField_rec hz6 59 λ q7 hz7 hs7=>?_);replace hz7:IsZip q7 z TI TO (rawInt q5.objs.size):=hz7;refine wpAny_setField_rec hz7 59 λ q8 hz8 hs8=>?_;replace hz8:IsZip q8 z TI TO (rawInt q5.objs.size):=hz8;have up:∀c o,c≠z->q5.get? c=some o->q8.get? c=some o:=λ c o c1 e=>hs8.extBut _ _ c1 (hs7.extBut _ _ c1 (lE _ e));have hT8:IsPair q8 q5.objs.size x y:=hs8.extBut _ _ (Nat.ne_of_gt hzlt) (hs7.extBut _ _ (Nat.ne_of_gt hzlt) (lG _ rfl));rw[hsz] at hz8 hT8;refine lB ⟨_,rfl,lB ?_⟩;show Q (some (.ref q5.objs.size)) _;rw[hsz];exact hQ q8 hz8 (up _ _ D.TOz hTO5) (let ⟨o,e,r⟩:=j15;⟨o,up _ o D.i1z e,r⟩) (let ⟨o,e,r⟩:=j25;⟨o,up _ o D.i2z e,r⟩) hT8 λ c o c1 c2 c3 c4 e=>up c o c1 (hk5 c o c1 c2 c3 c4 e)
theorem zJ7 {z TI TO i1 i2 l1 l2:Addr}{k:Nat}{xs ys:Array Value}{a b:Value}{Q:Option Value->Shared->Prop}(hh:A.handled=none) (D:ZipApart z TI TO i1 i2 l1 l2)
    (hz:IsZip s.heap z TI TO .none) (hTI:IsPair s.heap TI (.ref i1) (.ref i2)) (hTO:IsPair s.heap TO a b) (h1:s.heap.IsTupleIter i1 l1 k) (h2:s.heap.IsTupleIter i2 l2 k)
    (hl1:s.heap.IsTuple l1 xs) (hl2:s.heap.IsTuple l2 ys) (hend:xs[k]?=none\/ys[k]?=none)
    (hQ:∀h',(∀c o,c≠z->c≠TO->c≠i1->c≠i2->s.heap.get? c=some o->h'.get? c=some o)->Q none { s with heap:=h' }):wpAny (model prog w) A (pyNext (.ref z)) Q E s:=by
  have hT:s.TypeIs (.ref z) "zip" := ⟨_,hz,rfl⟩;unfold pyNext
  have fin:∀(h':Heap) (e:Addr),(∀c o,c≠z->c≠TO->c≠i1->c≠i2->s.heap.get? c=some o->h'.get? c=some o)->(∃o,h'.get? e=some o/\o.cls = .type "StopIteration") ->
      wpAny (model prog w) A (do if ← isInstance (.ref e) (.type "StopIteration") then pure none else throw (.ref e)) Q E { s with heap:=h' }:=λ h' e hk ⟨o,ho,hc⟩ =>
    lA (wpAny_isInstance (T := "StopIteration") (b:=true) ⟨o,ho,hc⟩ isSubtype_stop (lB (hQ _ hk)))
  refine lA (wpAny_attempt 83);show wpAny _ _ (field (.ref z) 2 >>= _) _ _ _;refine lA (wpAny_field hz rfl (x:=.bool false) rfl ?_);show wpAny _ _ (field (.ref z) 3 >>= _) _ _ _;refine lA (wpAny_field hz rfl (x:=.ref TI) rfl ?_);refine lA (wpAny_seqItems hTI rfl ?_);show wpAny _ _ (Builtin.SmallTypes.ownedTupleIsFree (.ref z) >>= _) _ _ _;refine lA ?_;unfold Builtin.SmallTypes.ownedTupleIsFree;refine lA (wpAny_field hz rfl (x:=.none) rfl (lB ?_));simp only[if_true];refine lA (wpAny_rule ?_);refine lA (wpAny_field hz rfl (x:=.ref TO) rfl ?_);refine lA (wpAny_setField_rec hz 59 λ q1 hz1 hs1=>?_);replace hz1:IsZip q1 z TI TO .ellipsis:=hz1;refine lA ?_;simp only[List.zipIdx_cons,List.zipIdx_nil,List.forIn_cons,List.forIn_nil];refine lA (lA (wpAny_onRaise ?_));show wpAny _ _ (Builtin.SmallTypes.nextOf (.ref i1) >>= _) _ _ _;cases hx:xs[k]? with
  |none =>
    refine lA (zAz hh (itB h1 hs1 D.i1z) (tpB hl1 hs1 D.l1z) hx λ q2 e hs2 he=>?_);obtain⟨oe,hoe,hce⟩:=he;have hz2:IsZip q2 z TI TO .ellipsis:=hs2 _ _ D.i1z.symm hz1;have hez:e≠z:=λ x=>by subst x;rw[hz2] at hoe;cases hoe;simp at hce
    exact wpAny_setField_rec hz2 59 λ q3 Ω hs3=>fin q3 e (λ c o c1 Ω c3 Ω x=>hs3.extBut _ _ c1 (hs2 _ _ c3 (hs1.extBut _ _ c1 x))) ⟨oe,hs3.extBut _ _ hez hoe,hce⟩
  |some x =>
    have hy:ys[k]?=none:=by rcases hend with h|h;rw[hx] at h;cases h;exact h
    refine lA (zAm (itB h1 hs1 D.i1z) (tpB hl1 hs1 D.l1z) hx λ q2 j1 hs2=>lB ?_);have hTO2:IsPair q2 TO a b:=hs2.extBut _ _ D.TOi1 (hs1.extBut _ _ D.TOz hTO);refine lA (wpAny_seqItems hTO2 rfl ?_);refine lA (wpAny_updateSeq_pair hTO2 λ q3 hTO3 hs3=>?_);refine lA (wpAny_letGo (lB ?_));refine lA (lA (wpAny_onRaise ?_));show wpAny _ _ (Builtin.SmallTypes.nextOf (.ref i2) >>= _) _ _ _;refine lA (zAz hh (itB (itB (itB h2 hs1 D.i2z) hs2 D.i12.symm) hs3 D.TOi2.symm) (tpB (tpB (tpB hl2 hs1 D.l2z) hs2 D.l2i1) hs3 D.l2TO) hy λ q4 e hs4 he=>?_);obtain⟨oe,hoe,hce⟩:=he;have hz4:IsZip q4 z TI TO .ellipsis:=hs4 _ _ D.i2z.symm (hs3.extBut _ _ D.TOz.symm (hs2.extBut _ _ D.i1z.symm hz1));have hez:e≠z:=λ x=>by subst x;rw[hz4] at hoe;cases hoe;simp at hce
    exact wpAny_setField_rec hz4 59 λ q5 Ω hs5=>fin q5 e (λ c o c1 c2 c3 c4 x=>hs5.extBut _ _ c1 (hs4 _ _ c4 (hs3.extBut _ _ c2 (hs2.extBut _ _ c3 (hs1.extBut _ _ c1 x))))) ⟨oe,hs5.extBut _ _ hez hoe,hce⟩
end
theorem zIB (l1 l2:Addr) (xs ys:Array Value) :
    Meets (Builtin.«zip.__new__» ⟨[.type "zip", .ref l1,.ref l2],[]⟩) (λ Ω R s=>s.heap.IsTuple l1 xs/\s.heap.IsTuple l2 ys /\
      ∀(h':Heap) (z TI TO i1 i2:Addr),(∀c o,s.heap.get? c=some o->h'.get? c=some o)->s.heap.objs.size<=z->s.heap.objs.size<=TI->s.heap.objs.size<=TO->s.heap.objs.size<=i1->s.heap.objs.size<=i2 ->
        (TI≠z/\TO≠z/\i1≠z/\i2≠z/\TI≠TO/\TI≠i1/\TI≠i2/\TO≠i1/\TO≠i2/\i1≠i2)->IsZip h' z TI TO .none->IsPair h' TI (.ref i1) (.ref i2)->IsPair h' TO .none .none->h'.IsTupleIter i1 l1 0->h'.IsTupleIter i2 l2 0 ->
        R (.ok (.ret (.ref z))) { s with heap:=h' }) :=
  .of_wp λ prog w A R s h=>by
    obtain⟨hp,g,d,tk,os⟩:=s;obtain⟨hl1,hl2,h⟩:=h;have hsub:=sub_zip;have hL1:Heap.IsTuple (Shared.heap ⟨hp,g,d,tk,os⟩) l1 xs:=hl1;have hL2:Heap.IsTuple (Shared.heap ⟨hp.push { cls:=.type "tuple_iterator", data:=.fields #[.ref l1,.int 0 0] },g,d,tk,os⟩) l2 ys:=let ⟨o,ho,r⟩:=hl2;⟨o,lE _ ho,r⟩
    wp_walk using wpAny_pyIter_tuple hL1,wpAny_pyIter_tuple hL2
    refine⟨_,rfl,h _ _ _ _ _ _ (λ c o e=>lE _ (lE _ (lE _ (lE _ (lE _ e))))) ?_ ?_ ?_ ?_ ?_ ?_ (lG _ rfl) (lE _ (lE _ (lG _ rfl))) (lE _ (lG _ rfl))
      ⟨_,lE _ (lE _ (lE _ (lE _ (lG _ rfl)))),rfl,rfl⟩ ⟨_,lE _ (lE _ (lE _ (lG _ rfl))),rfl,rfl⟩⟩
    all_goals simp only[Heap.size_push]
    all_goals first
      |lia
      | (refine⟨?_,?_,?_,?_,?_,?_,?_,?_,?_,?_⟩<;>(intro e;have e' : @Eq Nat _ _:=e;lia))
section
variable {prog:Program}{w:World}{A:Around}{E:XQ}{s:Shared}
theorem zGG {l1 l2:Addr}{xs ys:Array Value}{Q:XQ}(hl1:s.heap.IsTuple l1 xs) (hl2:s.heap.IsTuple l2 ys)
  (h:∀(h':Heap) (z TI TO i1 i2:Addr),(∀c o,s.heap.get? c=some o->h'.get? c=some o)->s.heap.objs.size<=z->s.heap.objs.size<=TI->s.heap.objs.size<=TO->s.heap.objs.size<=i1->s.heap.objs.size<=i2 ->
    (TI≠z/\TO≠z/\i1≠z/\i2≠z/\TI≠TO/\TI≠i1/\TI≠i2/\TO≠i1/\TO≠i2/\i1≠i2)->IsZip h' z TI TO .none->IsPair h' TI (.ref i1) (.ref i2)->IsPair h' TO .none .none->h'.IsTupleIter i1 l1 0->h'.IsTupleIter i2 l2 0->Q (.ref z) { s with heap:=h' }) :
  wpAny (model prog w) A (call (.type "zip") [.ref l1,.ref l2]) Q E s:=by
 refine callType_new F.called_zip 66 (F.typeCall_zip_2 _ _) (F.newCall_zip_2 _ _) (λ obj=>F.args_object_init_3 obj _ _) F.entry_zip_new (zIB l1 l2 xs ys) ⟨hl1,hl2,λ h' z TI TO i1 i2 a0 a1 a2 a3 a4 a5 a6 a7 a8 a9 b1 b2=>?_⟩;exact⟨⟨_,a7,rfl⟩,h h' z TI TO i1 i2 a0 a1 a2 a3 a4 a5 a6 a7 a8 a9 b1 b2⟩
end
noncomputable def Itz (a b:Addr):It :=
 ⟨λ i H=>∃xs ys x y,H a=some (.tup xs)/\H b=some (.tup ys)/\xs[i]?=some x/\ys[i]?=some y,
 λ i H v H'=>∃T x y,H T=none/\v = .ref T/\H'=upd H T (.tup [x,y])/\(∀xs,H a=some (.tup xs)->xs[i]?=some x)/\∀ys,H b=some (.tup ys)->ys[i]?=some y,
 λ i H=>∃xs ys,H a=some (.tup xs)/\H b=some (.tup ys)/\(xs.length<=i\/ys.length<=i)⟩
theorem zKE {P:Program}{w:World}{K:W.Frag}{es:List Expr}{kk:Nat}{pos:Pos}(a b z TI TO i1 i2:Addr)
  (ap:TI≠z/\TO≠z/\i1≠z/\i2≠z/\TI≠TO/\TI≠i1/\TI≠i2/\TO≠i1/\TO≠i2/\i1≠i2) :
  Turn P w K (.Tuple es kk pos) (Itz a b) [z,TI,TO,i1,i2] z (λ i h=>IsZip h z TI TO .none/\IsPair h TI (.ref i1) (.ref i2)/\(∃p q,IsPair h TO p q)/\h.IsTupleIter i1 a i/\h.IsTupleIter i2 b i) where
 mem:=by simp
 obj:=λ i h st c hc=>by
  obtain⟨hz,hTI,⟨p,q,hTO⟩,⟨o1,e1,c1,d1⟩,o2,e2,c2,d2⟩:=st;simp only[nK,mX,or_false] at hc;rcases hc with rfl|rfl|rfl|rfl|rfl
  ·exact⟨_,hz,λ v z=>by have z':Data.fields _=Data.cell v:=z;cases z'⟩
  ·exact⟨_,hTI,λ v z=>by have z':Data.seq _ _=Data.cell v:=z;cases z'⟩
  ·exact⟨_,hTO,λ v z=>by have z':Data.seq _ _=Data.cell v:=z;cases z'⟩
  ·exact⟨o1,e1,λ v z=>by rw[d1] at z;cases z⟩
  ·exact⟨o2,e2,λ v z=>by rw[d2] at z;cases z⟩
 keep:=λ i h h' st k=>by
  obtain⟨hz,hTI,⟨p,q,hTO⟩,⟨o1,e1,r1⟩,o2,e2,r2⟩:=st;exact⟨k z 59 _ hz,k TI 59 _ hTI,⟨p,q,k TO 59 _ hTO⟩,⟨o1,k i1 59 _ e1,r1⟩,o2,k i2 59 _ e2,r2⟩
 item:=by
  intro X hP hw hK hc i jP s σ H E I hf st hg;subst hP hw hK;obtain⟨xs,ys,x,y,ha,hb,hx,hy⟩:=hg;obtain⟨hz,hTI,⟨p,q,hTO⟩,h1,h2⟩:=st;obtain⟨its,rv,t1,_⟩:=I.tuple (SqT.of ha);obtain⟨its2,rv2,t2,_⟩:=I.tuple (SqT.of hb);obtain⟨u,hu,ru⟩:=rv.get hx;obtain⟨u2,hu2,ru2⟩:=rv2.get hy;obtain⟨n1,n2,n3,n4,n5,n6,n7,n8,n9,n10⟩:=ap;have ne:∀{c d:Addr}{o:HO},H c=some o->d∈[z,TI,TO,i1,i2]->c≠d:=λ e hd=>zAL e (hf _ hd).1;have D:ZipApart z TI TO i1 i2 a b:=⟨n1,n2,n3,n4,n5,n6,n7,n8,n9,n10,ne ha 59,ne ha 59,ne ha 59,ne ha 59,ne hb 59,ne hb 59,ne hb 59,ne hb 59⟩;refine zIL D hz hTI hTO h1 h2 (show s.heap.IsTuple a its.toArray from t1) (show s.heap.IsTuple b its2.toArray from t2) (by simpa using hu) (by simpa using hu2) λ q1 hz1 hTO1 j1 j2 hT hk=>⟨_,rfl,?_⟩;have hn:H s.heap.objs.size=none:=I.fresh;have hT1:IsPair q1 TI (.ref i1) (.ref i2):=hk _ _ n1 n5 n6 n7 hTI
  have neT:∀c∈[z,TI,TO,i1,i2],c≠s.heap.objs.size:=λ c hc=>by
   simp only[nK,mX,or_false] at hc;rcases hc with rfl|rfl|rfl|rfl|rfl
   ·exact lR (lH (show s.heap.get? _=some _ from hz))
   ·exact lR (lH (show s.heap.get? _=some _ from hTI))
   ·exact lR (lH (show s.heap.get? _=some _ from hTO))
   ·obtain⟨_,e,_⟩:=h1;exact lR (lH e)
   ·obtain⟨_,e,_⟩:=h2;exact lR (lH e)
  have I1:Inv X jP σ (upd H s.heap.objs.size (.tup [x,y])) { s with heap:=q1,toks:=s.toks }:=I.turnedL (ch:=[z,TO,i1,i2]) (λ c o hc e=>hk c o (λ q=>hc (by simp[q])) (λ q=>hc (by simp[q])) (λ q=>hc (by simp[q])) (λ q=>hc (by simp[q])) e)
   (λ c hc=>hf c (by simp at hc ⊢;rcases hc with r|r|r|r<;>simp[r])) (lQ _) ⟨Nat.le_of_lt (zAO (show 2<=1000 by decide)),[u,u2],.cons ru (.cons ru2 .nil),_,hT,rfl,_,rfl⟩
  refine wpAny_letOwnedTupleGo_zip (s:={ s with heap:=q1 }) hz1 λ q2 hz2 hs2=>⟨.ref s.heap.objs.size,_,?_,rfl,⟨_,x,y,hn,rfl,rfl,λ ws e=>by rw[ha] at e;cases e;exact hx,λ ws e=>by rw[hb] at e;cases e;exact hy⟩,⟨hz2,hs2.extBut _ _ n1 hT1,⟨_,_,hs2.extBut _ _ n2 hTO1⟩,itB j1 hs2 n3,itB j2 hs2 n4⟩,λ c hc=>?_⟩
  ·refine I1.turnedN (t':=s.toks) (ch:=[z]) (λ c o hc e=>(hs2.2 c (λ q=>hc (by simp[q]))).trans e) λ c hc=>?_
   have ec:=mO.mp hc;subst ec;obtain⟨f0,f⟩:=hf c 59;exact⟨by rw[zAR (neT c 59)];exact f0,f⟩
  ·rw[zAR (neT c hc)];exact(hf c hc).1
 done:=by
  intro X hP hw hK hc i jP s σ H E I hf st hg;subst hP hw hK;obtain⟨xs,ys,ha,hb,hend⟩:=hg;obtain⟨hz,hTI,⟨p,q,hTO⟩,h1,h2⟩:=st;obtain⟨its,rv,t1,_⟩:=I.tuple (SqT.of ha);obtain⟨its2,rv2,t2,_⟩:=I.tuple (SqT.of hb);have l1:=rv.length;have l2:=rv2.length;obtain⟨n1,n2,n3,n4,n5,n6,n7,n8,n9,n10⟩:=ap;have ne:∀{c d:Addr}{o:HO},H c=some o->d∈[z,TI,TO,i1,i2]->c≠d:=λ e hd=>zAL e (hf _ hd).1;have D:ZipApart z TI TO i1 i2 a b:=⟨n1,n2,n3,n4,n5,n6,n7,n8,n9,n10,ne ha 59,ne ha 59,ne ha 59,ne ha 59,ne hb 59,ne hb 59,ne hb 59,ne hb 59⟩;refine zJ7 (I.ok.hd hc) D hz hTI hTO h1 h2 (show s.heap.IsTuple a its.toArray from t1) (show s.heap.IsTuple b its2.toArray from t2) ?_ λ q1 hk=>⟨rfl,?_⟩
  ·rcases hend with h|h
   ·exact .inl (by simp;lia)
   ·exact .inr (by simp;lia)
  ·exact I.turnedN (t':=s.toks) (ch:=[z,TO,i1,i2]) (λ c o hc e=>hk c o (λ q=>hc (by simp[q])) (λ q=>hc (by simp[q])) (λ q=>hc (by simp[q])) (λ q=>hc (by simp[q])) e) (λ c hc=>hf c (by simp at hc ⊢;rcases hc with r|r|r|r<;>simp[r]))
 self:=λ Ω Ω Ω Ω Ω st h=>wpAny_pyIter_zip st.1 h
theorem zGI:bootBuiltins "zip" = some (.type "zip"):=by right
def iZip (ta:TA):TI:=λ σ H R=>ta σ H λ vs H1=>∃a b xs ys,vs=[.ref a,.ref b]/\H1 a=some (.tup xs)/\H1 b=some (.tup ys)/\R (Itz a b) H1
theorem zIm {X:Cx}{es:List Expr}{k:Nat}{tpos:Pos}{a b:Expr}{ta:TA}{p pos:Pos}(hg:Gl X "zip") (hm:X.mg "zip" = none) (ha:PA X [a,b] ta) (hs:starEach [a,b] X.env=[(false,eval a X.env),(false,eval b X.env)]:=by rfl) (hs2:starEach [b] X.env=[(false,eval b X.env)]:=by rfl) :
  PI X (.Tuple es k tpos) (.Call (.Name "zip" p) [a,b] [] pos) (iZip ta):=by
 intro jP s σ H R I h;refine Call_ (zDC I hg hm zGI (PyProof.Rows.callWith_type1 (thn (ha pos jP s σ H _ I h) λ us s1 ⟨vs,H1,I1,r1,q1⟩=>?_) (by rw[hs,hs2]) (by rw[hs2];rfl)));obtain⟨l1,l2,xs,ys,e,h1,h2,q⟩:=q1;subst e;obtain⟨u,w',rfl,ru,rw'⟩:=vals2 r1;cases ru;cases rw';obtain⟨its,rv,t1,_⟩:=I1.tuple (SqT.of h1);obtain⟨its2,rv2,t2,_⟩:=I1.tuple (SqT.of h2);refine zGG (show s1.heap.IsTuple l1 its.toArray from t1) (show s1.heap.IsTuple l2 its2.toArray from t2) λ h' z TI TO i1 i2 a0 a1 a2 a3 a4 a5 a6 a7 a8 a9 b1 b2=>?_;refine wpAny_pyIter_zip a7 ⟨_,[z,TI,TO,i1,i2],_,_,H1,rfl,I1.kept (t':=s1.toks) a0,zKE l1 l2 z TI TO i1 i2 a6,⟨a7,a8,⟨_,_,a9⟩,b1,b2⟩,λ c hc=>?_,q⟩
 have ge:s1.heap.objs.size<=c:=by
  simp only[nK,mX,or_false] at hc;rcases hc with rfl|rfl|rfl|rfl|rfl<;>assumption
 exact I1.fpOk ge (I1.hok.fresh ge)
theorem zGr {a b:Addr}{xs ys:List V}{g:TG}{tb:TS}{D:Ends}{σ:St}{H:Hp}(Pv:Nat->St->Hp->Prop) (h0:Pv 0 σ H) (hl:∀i σ H,i<=min xs.length ys.length->Pv i σ H->H a=some (.tup xs)/\H b=some (.tup ys))
  (hs:∀i x y T σ H,xs[i]?=some x->ys[i]?=some y->Pv i σ H->H T=none->g (.ref T) σ (upd H T (.tup [x,y])) λ σ2 H2=>tb { D with nx:=Pv (i+1),ct:=Pv (i+1),bk:=D.nx } σ2 H2) (hd:∀σ H,Pv (min xs.length ys.length) σ H->D.nx σ H) :
  ∃W:Nat->Nat->St->Hp->Prop,(∃m,W 0 m σ H)/\∀i m σ H,W i m σ H ->
   ((Itz a b).stop i H/\D.nx σ H)\/((Itz a b).go i H/\∃N:St->Hp->Prop,75/\∀x H',(Itz a b).yld i H x H'->g x σ H' λ σ2 H2=>tb { D with nx:=N,ct:=N,bk:=D.nx } σ2 H2):=by
 refine⟨λ i m σ H=>m=min xs.length ys.length - i/\i<=min xs.length ys.length/\Pv i σ H,⟨min xs.length ys.length,by simp,lX _,h0⟩,?_⟩;rintro i m σ H ⟨rfl,hi,p⟩;obtain⟨ha,hb⟩:=hl i σ H hi p
 by_cases hlt:i<min xs.length ys.length
 ·have hx:i<xs.length:=by lia
  have hy:i<ys.length:=by lia
  refine .inr ⟨⟨xs,ys,xs[i],ys[i],ha,hb,by simp[hx],by simp[hy]⟩,Pv (i+1),λ σ' H' p'=>⟨min xs.length ys.length - (i+1),by lia,rfl,hlt,p'⟩,λ x H' y=>?_⟩;obtain⟨T,u,v,hT,ex,eH,e1,e2⟩:=y;subst ex eH;exact hs i u v T σ H (e1 xs ha) (e2 ys hb) p hT
 ·have e:i=min xs.length ys.length:=by lia
  subst e;exact .inl ⟨⟨xs,ys,ha,hb,by lia⟩,hd σ H p⟩
theorem zJt {a b:Addr}{xs ys:List V}{acc:Addr}{g:TG}{tt:TT}{te:TE}{σ:L2.St}{H:Hp}{R:Hp->Prop}(Pv:Nat->Hp->Prop) (h0:Pv 0 (upd H acc (.lst []))) (hl:∀i H,i<=min xs.length ys.length->Pv i H->H a=some (.tup xs)/\H b=some (.tup ys))
  (hs:∀i x y T H,xs[i]?=some x->ys[i]?=some y->Pv i H->H T=none->g (.ref T) σ (upd H T (.tup [x,y])) λ σ2 H4=>Ext σ σ2/\tt σ2 H4 λ b H5 =>
   if b=true then te σ2 H5 λ y H6=>∃zs,H6 acc=some (.lst zs)/\zs.length<sizeLine/\Pv (i+1) (upd H6 acc (.lst (zs++[y]))) else Pv (i+1) H5) (hd:∀H,Pv (min xs.length ys.length) H->R H) :
  ∃W:Nat->Nat->Hp->Prop,(∃m,W 0 m (upd H acc (.lst [])))/\∀i m H2,W i m H2 ->
   ((Itz a b).stop i H2/\R H2)\/((Itz a b).go i H2/\∃N:Hp->Prop,(∀H',N H'->∃m',m'<m/\W (i+1) m' H')/\∀x H3,(Itz a b).yld i H2 x H3->g x σ H3 λ σ2 H4=>Ext σ σ2/\tt σ2 H4 λ b H5 =>
    if b=true then te σ2 H5 λ y H6=>∃zs,H6 acc=some (.lst zs)/\zs.length<sizeLine/\N (upd H6 acc (.lst (zs++[y])))
    else N H5):=by
 refine⟨λ i m H=>m=min xs.length ys.length - i/\i<=min xs.length ys.length/\Pv i H,⟨min xs.length ys.length,by simp,lX _,h0⟩,?_⟩;rintro i m H2 ⟨rfl,hi,p⟩;obtain⟨ha,hb⟩:=hl i H2 hi p
 by_cases hlt:i<min xs.length ys.length
 ·have hx:i<xs.length:=by lia
  have hy:i<ys.length:=by lia
  refine .inr ⟨⟨xs,ys,xs[i],ys[i],ha,hb,by simp[hx],by simp[hy]⟩,Pv (i+1),λ H' p'=>⟨min xs.length ys.length - (i+1),by lia,rfl,hlt,p'⟩,λ x H' y=>?_⟩;obtain⟨T,u,v,hT,ex,eH,e1,e2⟩:=y;subst ex eH;exact hs i u v T H2 (e1 xs ha) (e2 ys hb) p hT
 ·have e:i=min xs.length ys.length:=by lia
  subst e;exact .inl ⟨⟨xs,ys,ha,hb,by lia⟩,hd H2 p⟩
theorem zMT {k:Key}{u:Value}(h:keyIs k u=true):RelV (kV k) u:=by
 rcases zAs h with ⟨i,t,rfl,rfl⟩|⟨x,t,rfl,rfl⟩
 ·exact⟨t,rfl⟩
 ·exact⟨t,rfl⟩
theorem zLN {kvs:List 90}{vs:List (Key × Value)}{i:Nat}{p:Key × V}(h:KV kvs vs):kvs[i]?=some p->∃v,vs[i]?=some (p.1,v):=by
 induction h generalizing i with
 |nil=>exact λ e=>nomatch e
 | @cons a b _ _ r t ih=>cases i with
  |zero=>intro e;have e':a=p:=by simpa using e
         subst e';exact⟨b.2,by rw[r.1];rfl⟩
  |succ i=>exact λ e=>ih (i:=i) (by simpa using e)
noncomputable def Itd (o:Obj) (a:Addr) (kvs:List 90):It :=
 ⟨λ i H=>H a=some (.frz o 92)/\i<kvs.length,λ i H x H'=>H'=H/\∃p,kvs[i]?=some p/\x=kV p.1,λ i H=>H a=some (.frz o 92)/\kvs.length<=i⟩
theorem zHY {X:Cx}{jP:List 71}{σ:L2.St}{H:Hp}{s:Shared}{a:Addr}{o:Obj}{kvs:List 90}{es:Array DictEntry}{ep:Nat}(I:Inv X jP σ H s) (ha:H a=some (.frz o 92)) (hd:o.data = .dict es ep) :
  ∃vs,KV kvs vs/\kvs.length=vs.length/\s.heap.DictAt (zAi X.prog X.w) a vs ep:=by
 obtain⟨e,z,sy,vs,r,o',es',ep',h1,c1,d1,rest⟩:=(show ObjOk X.prog X.w H s.heap a (.frz o 92) from I.hok a _ ha);rw[e] at h1;cases h1;rw[hd] at d1;cases d1;exact⟨vs,r,Paired.length r,o,es,e,c1,hd,rest⟩
theorem zFi {P:Program}{w:World}{K:W.Frag}{tg:Expr}(a it:Addr) (o:Obj) (kvs:List 90):Turn P w K tg (Itd o a kvs) [it] it (λ i h=>E2 λ es ep=>o.data = .dict es ep/\h.IsKeyIter it a i kvs.length ep) where
 mem:=by simp
 obj:=λ i h st b hb=>by
  have e:b=it:=by simpa using hb
  subst e;obtain⟨_,_,_,ob,e,c,d⟩:=st;exact⟨ob,e,λ v z=>by rw[d] at z;cases z⟩
 keep:=λ i h h' st k=>by
  obtain⟨es,ep,hd,ob,e,r⟩:=st;exact⟨es,ep,hd,ob,k it 59 ob e,r⟩
 item:=by
  intro X hP hw hK hc i jP s σ H E I hf st hg;subst hP hw hK;obtain⟨ha,hi⟩:=hg;obtain⟨es,ep,hd,hit⟩:=st;obtain⟨vs,r,hl,hm⟩:=zHY I ha hd;obtain⟨v,hv⟩:=zLN r (lV hi);obtain⟨f0,f1,f2,f3,f4,f5⟩:=hf it 59;rw[hl] at hit;refine wpAny_pyNext_dict_item hit hm hv λ key h' hk hit' sb=>?_;have I1:Inv X jP σ H { s with heap:=h' }:=I.turned (t':=s.toks) (λ b o hb e=>(sb.2 b hb).trans e) f0 f1 f3 f4 f5;obtain⟨ob,e,c,d⟩:=id hit';rw[←hl] at hit';exact⟨key,rfl,go_of (s:={ s with heap:=h' }) e c d 66 ⟨_,H,I1,zMT hk,⟨rfl,_,lV hi,rfl⟩,⟨es,ep,hd,hit'⟩,λ b hb=>(hf b hb).1⟩⟩
 done:=by
  intro X hP hw hK hc i jP s σ H E I hf st hg;subst hP hw hK;obtain⟨ha,hi⟩:=hg;obtain⟨es,ep,hd,hit⟩:=st;obtain⟨vs,r,hl,hm⟩:=zHY I ha hd;obtain⟨f0,f1,f2,f3,f4,f5⟩:=hf it 59;rw[hl] at hit;exact wpAny_pyNext_dict_end (I.ok.hd hc) hit hm (List.getElem?_eq_none 65) λ h' eb=>86
 self:=λ A i s Q E st h=>by
  obtain⟨es,ep,hd,hit⟩:=st;refine wpAny_pyIter_slot hit.typeIs F.slot_dict_keyiterator_iter (wpAny_call_entry F.slot_dict_keyiterator_iter hit.typeIs F.entry_dict_keyiterator_iter ?_ (F.args_dict_keyiterator_iter_1 _));show wpAny _ _ (ret (.ref it)) _ _ s;exact lB ⟨_,rfl, "dict_keyiterator", _,hit.typeIs,F.slot_dict_keyiterator_next.lookup,h⟩
def iDict (tl:TE):TI:=λ σ H R=>tl σ H λ x H1=>∃a kvs,x = .ref a/\((∃o,H1 a=some (.frz o 92)/\R (Itd o a kvs) H1)\/(H1 a=some 92/\∀o,R (Itd o a kvs) (upd H1 a (.frz o 92))))
theorem zIo {X:Cx}{tg l:Expr}{tl:TE}(hl:PE X l tl):PI X tg l (iDict tl):=by
 intro jP s σ H R I h;refine thn (hl jP s σ H _ I h) λ v s1 ⟨x,H1,I1,r1,q1⟩=>?_;obtain⟨a,kvs,e,q⟩:=q1;subst e;cases r1;rcases q with ⟨o,ha,q⟩|⟨ha,q⟩
 ·obtain⟨e,z,sy,vs,r,o',es',ep',h1,c1,d1,rest⟩:=(show ObjOk X.prog X.w H1 s1.heap a (.frz o 92) from I1.hok a _ ha)
  rw[e] at h1;cases h1;refine wpAny_pyIter_dict (knd:=zAi X.prog X.w) (kvs:=vs) (ep:=ep') sy ⟨o,es',e,c1,d1,rest⟩ ?_;refine⟨s1.heap.objs.size,[s1.heap.objs.size],_,_,H1,rfl,I1.kept (t':=s1.toks) λ b o e=>lE _ e,zFi a _ o kvs,⟨es',ep',d1,_,lG _ rfl,rfl,by rw[Paired.length r];rfl⟩,λ b hb=>?_,q⟩;have e:b=s1.heap.objs.size:=by simpa using hb
  subst e;exact I1.fpOk (lQ _) (I1.hok.fresh (lQ _))
 ·obtain⟨z,sy,vs,r,o,es',ep',e,c1,d1,rest⟩:=(show ObjOk X.prog X.w H1 s1.heap a 92 from I1.hok a _ ha)
  refine wpAny_pyIter_dict (knd:=zAi X.prog X.w) (kvs:=vs) (ep:=ep') sy ⟨o,es',e,c1,d1,rest⟩ ?_;have lt:=lH e;refine⟨s1.heap.objs.size,[s1.heap.objs.size],_,_,upd H1 a (.frz o 92),rfl,I1.write (t':=s1.toks) (x:=a) (e:=a) (by rw[ha];exact True.intro) (.inl rfl) (λ b o Ω e=>lE _ e) ⟨o,lE _ e⟩ ?_,zFi a _ o kvs,⟨es',ep',d1,_,lG _ rfl,rfl,by rw[Paired.length r];rfl⟩,λ b hb=>?_,q o⟩
  ·exact⟨lE _ e,z,sy,vs,r,o,es',ep',lE _ e,c1,d1,rest⟩
  ·have e:b=s1.heap.objs.size:=by simpa using hb
   subst e;exact I1.fpOk (lQ _) (by rw[zAR (Nat.ne_of_gt lt)];exact I1.hok.fresh (lQ _))
theorem zHZ {o:Obj}{a:Addr}{kvs:List 90}{g:TG}{tb:TS}{D:Ends}{σ:L2.St}{H:Hp}(Pv:Nat->L2.St->Hp->Prop) (h0:Pv 0 σ H) (hl:∀i σ H,i<=kvs.length->Pv i σ H->H a=some (.frz o 92))
  (hs:∀i p σ H,kvs[i]?=some p->Pv i σ H->g (kV p.1) σ H λ σ2 H2=>tb { D with nx:=Pv (i+1),ct:=Pv (i+1),bk:=D.nx } σ2 H2) (hd:∀σ H,Pv kvs.length σ H->D.nx σ H) :
  ∃W:Nat->Nat->L2.St->Hp->Prop,(∃m,W 0 m σ H)/\∀i m σ H,W i m σ H ->
   ((Itd o a kvs).stop i H/\D.nx σ H)\/((Itd o a kvs).go i H/\∃N:L2.St->Hp->Prop,75/\∀x H',(Itd o a kvs).yld i H x H'->g x σ H' λ σ2 H2=>tb { D with nx:=N,ct:=N,bk:=D.nx } σ2 H2):=by
 refine⟨λ i m σ H=>m=kvs.length - i/\i<=kvs.length/\Pv i σ H,⟨kvs.length,by simp,lX _,h0⟩,?_⟩;rintro i m σ H ⟨rfl,hi,p⟩;have q:=hl i σ H hi p
 by_cases hlt:i<kvs.length
 ·refine .inr ⟨⟨q,hlt⟩,Pv (i+1),λ σ' H' p'=>⟨kvs.length - (i+1),by lia,rfl,hlt,p'⟩,λ x H' y=>?_⟩
  obtain⟨e,p',hp',ex⟩:=y;subst e ex;exact hs i p' σ _ hp' p
 ·have e:i=kvs.length:=by lia
  subst e;exact .inl ⟨⟨q,lQ _⟩,hd σ H p⟩
theorem zEi {K:W.Frag}{a:Addr}{xs:List V}{acc:Addr}{g:TG}{tt:TT}{te:TE}{σ:L2.St}{H:Hp}{R:Hp->Prop}(Pv:Nat->Hp->Prop) (h0:Pv 0 (upd H acc (.lst []))) (hl:∀i H,i<=xs.length->Pv i H->SqT K H a xs)
  (hs:∀i x H,xs[i]?=some x->Pv i H->g x σ H λ σ2 H4=>Ext σ σ2/\tt σ2 H4 λ b H5 =>
   if b=true then te σ2 H5 λ y H6=>∃zs,H6 acc=some (.lst zs)/\zs.length<sizeLine/\Pv (i+1) (upd H6 acc (.lst (zs++[y]))) else Pv (i+1) H5) (hd:∀H,Pv xs.length H->R H) :
  ∃W:Nat->Nat->Hp->Prop,(∃m,W 0 m (upd H acc (.lst [])))/\∀i m H2,W i m H2 ->
   ((Itt K a).stop i H2/\R H2)\/((Itt K a).go i H2/\∃N:Hp->Prop,(∀H',N H'->∃m',m'<m/\W (i+1) m' H')/\∀x H3,(Itt K a).yld i H2 x H3->g x σ H3 λ σ2 H4=>Ext σ σ2/\tt σ2 H4 λ b H5 =>
    if b=true then te σ2 H5 λ y H6=>∃zs,H6 acc=some (.lst zs)/\zs.length<sizeLine/\N (upd H6 acc (.lst (zs++[y])))
    else N H5):=by
 refine⟨λ i m H=>m=xs.length - i/\i<=xs.length/\Pv i H,⟨xs.length,by simp,lX _,h0⟩,?_⟩;rintro i m H2 ⟨rfl,hi,p⟩;have q:=hl i H2 hi p
 by_cases hlt:i<xs.length
 ·refine .inr ⟨⟨xs,xs[i],q,by simp[hlt]⟩,Pv (i+1),λ H' p'=>⟨xs.length - (i+1),by lia,rfl,hlt,p'⟩,λ x H' y=>?_⟩
  obtain⟨e,y⟩:=y;subst e;exact hs i x _ (y xs q) p
 ·have e:i=xs.length:=by lia
  subst e;exact .inl ⟨⟨xs,q,lQ _⟩,hd H2 p⟩
theorem zEV {α β:Type}{F:α->β->Prop}{as:List α}{us:List β}{i:Nat}{u:β}(h:Paired F as us):us[i]?=some u->∃a,as[i]?=some a/\F a u:=by
 induction h generalizing i with
 |nil=>exact λ e=>nomatch e
 |cons h t ih=>cases i with
  |zero=>exact λ e=>⟨_,rfl,by cases e;exact h⟩
  |succ i=>exact λ e=>ih (i:=i) (by simpa using e)
theorem zDN {α β:Type}{F:α->β->Prop}{as bs:List α}{us vs:List β}(h:Paired F as us) (k:Paired F bs vs):Paired F (as++bs) (us++vs):=by
 induction h with
 |nil=>exact k
 |cons r t ih=>exact .cons r ih
theorem zFS {α:Type}:∀{l:List α},l.Nodup->∀{i j:Nat}{a:α},l[i]?=some a->l[j]?=some a->i=j
 |[],_,i,j,a,h,_=>by simp at h
 |x::l,nd,0,0,a,_,_=>rfl
 |x::l,nd,0,j+1,a,h1,h2=>by
  rw[nY] at nd;have e:x=a:=by simpa using h1
  exact absurd (e▸lK (show l[j]?=some a by simpa using h2)) nd.1
 |x::l,nd,i+1,0,a,h1,h2=>by
  rw[nY] at nd;have e:x=a:=by simpa using h2
  exact absurd (e▸lK (show l[i]?=some a by simpa using h1)) nd.1
 |x::l,nd,i+1,j+1,a,h1,h2=>by
  rw[nY] at nd;rw[zFS nd.2 (i:=i) (j:=j) (a:=a) (by simpa using h1) (by simpa using h2)]
theorem zLo {X:Cx}{K:W.Frag}{es:List Expr}{k:Nat}{t:TGs}{n:Nat}{pos:Pos}(hK:X.K=K) (hc:X.calm=true) (h:PGs X es t)
  (hn:(assignEach es X.env).length=n:=by rfl) (hst:(assignEach es X.env).findIdx? (·.1)=none:=by rfl):PG X (.Tuple es k pos) (gTup K n t):=hK▸zB2 hc h hn hst
section
variable {X:Cx}
theorem zFD:∀{bs:List Bool}{us:List Value},Vals (bs.map V.bl) us->LSm.BoolsAre us bs
 |[],_,h=>by cases h;exact .nil
 |b::bs,_,h=>by
  cases h with
  |cons r t =>
   cases r;exact .cons b (zFD t)
theorem zGH (hc:X.calm=true):CallR X (.builtin "all") (λ xs H Q=>E2 λ(l:Addr) (bs:List Bool)=>A3 (xs=[.ref l]) (H l=some (.lst (bs.map V.bl))) (Q (.bl (bs.all id)) H)):=by
 intro jP s σ H xs us Q I r h;obtain⟨l,bs,rfl,hl,q⟩:=h;obtain⟨u,rfl,ru⟩:=vals1 r;cases ru;obtain⟨_,its,n,rv,le,e⟩:=I.lstM hl;have L1:s.heap.IsList l its.toArray:=⟨_,e,rfl,_,rfl⟩;have hb:=zFD rv;have hlt:l<s.heap.objs.size:=lH e;refine call_all_walk (wpAny_pyIter_list L1 ?_)
 refine⟨s.heap.objs.size,[s.heap.objs.size,l],[s.heap.objs.size],its.toArray.size,_,_,λ i=>(bs[i]?).getD true,rfl,Walks.list (A:=X.A.in1) (I.ok.hd hc) _ l (lR hlt) its.toArray,
  ⟨⟨_,lG _ rfl,rfl,rfl⟩,L1.push _⟩,λ i v s' Q' E' hP hQ=>?_,λ h' tk hk=>?_⟩
 ·obtain⟨b,e,rfl⟩:=hb.get i v (by simpa using hP)
  simp only[e,Option.getD_some] at hQ;exact wpAny_truthy_bool hQ
 ·have e:((List.range its.toArray.size).all λ i=>(bs[i]?).getD true)=bs.all id:=by
   rw[mG,hb.length];exact LSm.range_all bs
  rw[e];exact⟨.bl (bs.all id),H,I.kept (LSm.kept_iter hk),rfl,q⟩
theorem zIt (hu:X.A.units+1<cLine):OpR X (compareOp .In) (λ x y H Q=>E2 λ(a:Addr) (o:Option V)=>A3 (y = .ref a) (DGet H a x o) (Q (.bl o.isSome) H)):=by
 intro jP s σ H x y v u Q I rx ry h;obtain⟨a,o,rfl,g,q⟩:=h;cases ry;exact d_in hu I g rx λ s' I'=>⟨.bl o.isSome,H,I',rfl,q⟩
theorem zJx:CallR X (.builtin "isinstance") (λ xs H Q=>E4 λ(a:Addr) (kvs:List (Key × V)) (T:String) (b:Bool)=>A4 (xs=[.ref a,.ty T]) (Rd H a 92) (W.kitOne X.K (.type "dict") (.type T)=some b) (Q (.bl b) H)):=by
 intro jP s σ H xs us Q I r h;obtain⟨a,kvs,T,b,rfl,e,hk,q⟩:=h;obtain⟨u,w',rfl,ru,rw'⟩:=vals2 r;cases ru;cases rw';obtain⟨_,_,vs,_,o,es,ep,h1,h2,_⟩:=dk_rd I.hok e;exact W.kia_one W.kitx_dict I.kIn ⟨o,h1,h2.1⟩ hk (λ z=>nomatch z) λ tk=>⟨.bl b,H,I.tok tk,rfl,q⟩
end
structure Sd (p:Prop):Prop where
 un:p
section
variable {X:Cx}{st:Stmt}{rest:List Stmt}{t u:TS}{e a b:Expr}{es:List Expr}{te ta tb:TE}{tA:TA}{pos:Pos}
theorem zAF (h1:Sd (PS X st t)) (h2:Sd (PSs X rest u)):Sd (PSs X (st::rest) (tSeq t u)):=⟨zAE h1.un h2.un⟩
theorem zAS (h1:Sd (PS X st t)):Sd (PSs X [st] t):=⟨zAH h1.un⟩
theorem zAe {c:Expr}{x y:List Stmt}{tc:TT}(hc:Sd (PT X c tc)) (ha:Sd (PSs X x t)) (hb:Sd (PSs X y u)):Sd (PS X (.If c x y pos) (tIfS tc t u)):=⟨ps_if hc.un ha.un hb.un⟩
theorem zAX (he:Sd (PE X e te)):Sd (PS X (.Return (some e) pos) (tRet te)):=⟨zAU he.un⟩
theorem zIk {i:Nat}{x:Str}{pos':Pos}(hN:X.N.Nodup) (hi:X.N[i]?=some x) (hx:Loc X.env.scope x) (he:Sd (PE X e te)) (hs:swapsWith e (some (.Name x pos')) pos.line X.env=pure false:=by rfl) (hf:X.fn x=true\/X.env.scope.names.lookup x=some .local:=by first|exact .inl rfl|exact .inr rfl|assumption) :
  Sd (PS X (.Assign [.Name x pos'] e pos) (tAsg te (gName i))):=⟨zFw hN hi hx he.un hs hf⟩
theorem pSS {i:Nat}{x:Str}{pos':Pos}(hN:X.N.Nodup)(he:Sd (PE X e te))(hi:X.N[i]?=some x:=by rfl)(hx:Loc X.env.scope x:=by exact Or.inl rfl)(hs:swapsWith e (some (.Name x pos')) pos.line X.env=pure false:=by rfl)(hf:X.fn x=true\/X.env.scope.names.lookup x=some .local:=by first|exact .inl rfl|exact .inr rfl|assumption):Sd (PS X (.Assign [.Name x pos'] e pos) (tAsg te (gName i))):=zIk hN hi hx he hs hf
theorem zAg {k:Nat}(h:Sd (PA X es tA)):Sd (PE X (.Tuple es k pos) (tTup tA)):=⟨zAk h.un⟩
theorem zDM (h:Sd (PA X es tA)):Sd (PE X (.List es pos) (tLst tA)):=⟨zBA h.un⟩
theorem zAI (ha:Sd (PE X e te)) (hr:Sd (PA X es tA)) (hs:starEach (e::es) X.env=(false,eval e X.env)::starEach es X.env:=by rfl):Sd (PA X (e::es) (tCons te tA)):=⟨zAA ha.un hr.un hs⟩
theorem zBY {r:R2}(hr:IxR X r) (ha:Sd (PE X a ta)) (hb:Sd (PE X b tb)) (hs:zJ6 b):Sd (PE X (.Subscript a b pos) (tOp r ta tb)):=⟨pe_ix hr ha.un hb.un hs⟩
end
section
variable {prog:Program}{w:World}{A:Around}{E:XQ}{s:Shared}
abbrev ZipF (h:Heap) (z TI TO:Addr) (f0:Value) (f1:Bool):Prop:=h.get? z=some { cls:=.type "zip", data:=.fields #[f0,.bool f1,.bool false,.ref TI,.ref TO] }
def ZipS (h:Heap) (z TI TO:Addr):Prop:=∃f0 f1,ZipF h z TI TO f0 f1/\(f0 = .none\/∃n:Nat,f0=rawInt n)
theorem zGU {M:Model}{a:Addr}{Q:Option Obj->Shared->Prop}(h:Q (s.heap.get? a) s):wpAny M A (loadIfAlive a) Q E s:=by
 intro Γ p hΓ;show Sem.wp M Γ (Sem.loadIfAlive a pure) _ _ p s;rw[Sem.wp_loadIfAlive];exact h
theorem zG2 {z TI TO:Addr}{f0:Value}{f1:Bool}{Q:Bool->Shared->Prop}(hz:ZipF s.heap z TI TO f0 f1) (hf:f0 = .none\/∃n:Nat,f0=rawInt n) (h1:Q true s)
  (h2:∀h',ZipF h' z TI TO f0 true->Heap.SameBut z s.heap h'->Q false { s with heap:=h' }):wpAny (model prog w) A (Builtin.SmallTypes.ownedTupleIsFree (.ref z)) Q E s:=by
 unfold Builtin.SmallTypes.ownedTupleIsFree;refine lA (wpAny_field hz rfl (x:=f0) rfl ?_);rcases hf with rfl|⟨n,rfl⟩
 ·exact lB h1
 ·show wpAny _ _ (loadIfAlive ((n:Int)).toNat >>= _) _ _ _
  refine lA (zGU ?_);cases hg:s.heap.get? ((n:Int)).toNat with
  |none=>exact lB h1
  |some o =>
   show wpAny _ _ (field (.ref z) 1 >>= _) _ _ _;refine lA (wpAny_field hz rfl (x:=.bool f1) rfl ?_);cases f1 with
   |true=>exact lB (h2 s.heap hz ⟨rfl,λ Ω Ω=>rfl⟩)
   |false =>
    show wpAny _ _ (setField (.ref z) 1 (.bool true) >>= _) _ _ _;exact lA (wpAny_setField_rec hz 59 λ q hz1 hs1=>lB (h2 q hz1 hs1))
theorem zIM {z TI TO i1 i2 l1 l2:Addr}{k:Nat}{xs ys:Array Value}{x y a b:Value}{Q:XQ}(D:ZipApart z TI TO i1 i2 l1 l2)
  (hz:ZipS s.heap z TI TO) (hTI:IsPair s.heap TI (.ref i1) (.ref i2)) (hTO:IsPair s.heap TO a b) (h1:s.heap.IsTupleIter i1 l1 k) (h2:s.heap.IsTupleIter i2 l2 k)
  (hl1:s.heap.IsTuple l1 xs) (hl2:s.heap.IsTuple l2 ys) (hx:xs[k]?=some x) (hy:ys[k]?=some y)
  (hQ:∀h',ZipS h' z TI TO->(∃p q,IsPair h' TO p q)->h'.IsTupleIter i1 l1 (k+1)->h'.IsTupleIter i2 l2 (k+1)->IsPair h' s.heap.objs.size x y->h'.objs.size=s.heap.objs.size+1 ->
   (∀c o,c≠z->c≠TO->c≠i1->c≠i2->s.heap.get? c=some o->h'.get? c=some o)->Q (.ref s.heap.objs.size) { s with heap:=h' }):wpAny (model prog w) A (Builtin.SmallTypes.nextOf (.ref z)) Q E s:=by
 obtain⟨f0,f1,hz,hf⟩:=hz;have hT:s.TypeIs (.ref z) "zip" := ⟨_,hz,rfl⟩;unfold Builtin.SmallTypes.nextOf;refine lA 83;show wpAny _ _ (field (.ref z) 2 >>= _) _ _ _;refine lA (wpAny_field hz rfl (x:=.bool false) rfl ?_);show wpAny _ _ (field (.ref z) 3 >>= _) _ _ _;refine lA (wpAny_field hz rfl (x:=.ref TI) rfl ?_);refine lA (wpAny_seqItems hTI rfl ?_);show wpAny _ _ (Builtin.SmallTypes.ownedTupleIsFree (.ref z) >>= _) _ _ _;refine lA (zG2 hz hf ?_ λ q1 hz1 hs1=>?_)
 ·simp only[if_true];refine lA (wpAny_rule ?_);refine lA (wpAny_field hz rfl (x:=.ref TO) rfl ?_)
  refine lA (wpAny_setField_rec hz 59 λ q1 hz1 hs1=>?_);replace hz1:ZipF q1 z TI TO .ellipsis f1:=hz1;refine lA ?_;simp only[List.zipIdx_cons,List.zipIdx_nil,List.forIn_cons,List.forIn_nil];refine lA (lA (wpAny_onRaise ?_));show wpAny _ _ (Builtin.SmallTypes.nextOf (.ref i1) >>= _) _ _ _;refine lA (zAm (itB h1 hs1 D.i1z) (tpB hl1 hs1 D.l1z) hx λ q2 j1 hs2=>lB ?_);have hTO2:IsPair q2 TO a b:=hs2.extBut _ _ D.TOi1 (hs1.extBut _ _ D.TOz hTO);refine lA (wpAny_seqItems hTO2 rfl ?_);refine lA (wpAny_updateSeq_pair hTO2 λ q3 hTO3 hs3=>?_);replace hTO3:IsPair q3 TO x b:=hTO3;refine lA (wpAny_letGo (lB ?_));refine lA (lA (wpAny_onRaise ?_));show wpAny _ _ (Builtin.SmallTypes.nextOf (.ref i2) >>= _) _ _ _;refine lA (zAm (itB (itB (itB h2 hs1 D.i2z) hs2 D.i12.symm) hs3 D.TOi2.symm) (tpB (tpB (tpB hl2 hs1 D.l2z) hs2 D.l2i1) hs3 D.l2TO) hy λ q4 j2 hs4=>lB ?_);have hTO4:IsPair q4 TO x b:=hs4.extBut _ _ D.TOi2 hTO3;refine lA (wpAny_seqItems hTO4 rfl ?_);refine lA (wpAny_updateSeq_pair hTO4 λ q5 hTO5 hs5=>?_);replace hTO5:IsPair q5 TO x y:=hTO5;refine lA (wpAny_letGo (lB (lB ?_)));refine lA (wpAny_seqItems hTO5 rfl ?_);refine lA (wpAny_newTuple ?_);have hsz:q5.objs.size=s.heap.objs.size:=by rw[hs5.1,hs4.1,hs3.1,hs2.1,hs1.1]
  have hz5:ZipF q5 z TI TO .ellipsis f1:=hs5.extBut _ _ D.TOz.symm (hs4.extBut _ _ D.i2z.symm (hs3.extBut _ _ D.TOz.symm (hs2.extBut _ _ D.i1z.symm hz1)));have hk5:∀c o,c≠z->c≠TO->c≠i1->c≠i2->s.heap.get? c=some o->q5.get? c=some o:=λ c o c1 c2 c3 c4 e=>hs5.extBut _ _ c2 (hs4.extBut _ _ c4 (hs3.extBut _ _ c2 (hs2.extBut _ _ c3 (hs1.extBut _ _ c1 e))));have j15:q5.IsTupleIter i1 l1 (k+1):=itB (itB (itB j1 hs3 D.TOi1.symm) hs4 D.i12) hs5 D.TOi1.symm;have j25:q5.IsTupleIter i2 l2 (k+1):=itB j2 hs5 D.TOi2.symm;have hzlt:z<q5.objs.size:=lH hz5;show wpAny _ _ (Builtin.SmallTypes.ownedTupleHandOut (.ref z) (.ref q5.objs.size) >>= _) _ _ _;refine lA ?_;unfold Builtin.SmallTypes.ownedTupleHandOut;have hz6:ZipF (q5.push { cls:=.type "tuple", data:=.seq #[x,y] }) z TI TO .ellipsis f1:=lE _ hz5;refine lA (wpAny_setField_rec hz6 59 λ q7 hz7 hs7=>?_);replace hz7:ZipF q7 z TI TO (rawInt q5.objs.size) f1:=hz7;refine wpAny_setField_rec hz7 59 λ q8 hz8 hs8=>?_;replace hz8:ZipF q8 z TI TO (rawInt q5.objs.size) false:=hz8;have up:∀c o,c≠z->q5.get? c=some o->q8.get? c=some o:=λ c o c1 e=>hs8.extBut _ _ c1 (hs7.extBut _ _ c1 (lE _ e));have hT8:IsPair q8 q5.objs.size x y:=hs8.extBut _ _ (Nat.ne_of_gt hzlt) (hs7.extBut _ _ (Nat.ne_of_gt hzlt) (lG _ rfl));have hsz8:q8.objs.size=s.heap.objs.size+1:=by rw[hs8.1,hs7.1,Heap.size_push,hsz]
  rw[hsz] at hz8 hT8;refine lB ⟨_,rfl,lB ?_⟩;show Q (.ref q5.objs.size) _;rw[hsz];exact hQ q8 ⟨_,_,hz8,.inr 72⟩ ⟨_,_,up _ _ D.TOz hTO5⟩ (let ⟨o,e,r⟩:=j15;⟨o,up _ o D.i1z e,r⟩) (let ⟨o,e,r⟩:=j25;⟨o,up _ o D.i2z e,r⟩) hT8 hsz8 λ c o c1 c2 c3 c4 e=>up c o c1 (hk5 c o c1 c2 c3 c4 e)
 ·rw[if_neg Bool.false_ne_true]
  refine lA ?_;rw[←Array.forIn_toList];simp only[List.forIn_cons,List.forIn_nil];refine lA (lA (lD ?_));show wpAny _ _ (Builtin.SmallTypes.nextOf (.ref i1) >>= _) _ _ _;refine lA (zAm (itB h1 hs1 D.i1z) (tpB hl1 hs1 D.l1z) hx λ q2 j1 hs2=>lB (lB ?_));refine lA (lA (lD ?_));show wpAny _ _ (Builtin.SmallTypes.nextOf (.ref i2) >>= _) _ _ _;refine lA (zAm (itB (itB h2 hs1 D.i2z) hs2 D.i12.symm) (tpB (tpB hl2 hs1 D.l2z) hs2 D.l2i1) hy λ q4 j2 hs4=>lB (lB (lB ?_)));refine lA (wpAny_newTuple ?_ (by show 2<=sizeLine;decide));have hsz:q4.objs.size=s.heap.objs.size:=by rw[hs4.1,hs2.1,hs1.1]
  have hz4:ZipF q4 z TI TO f0 true:=hs4.extBut _ _ D.i2z.symm (hs2.extBut _ _ D.i1z.symm hz1);have up:∀c o,q4.get? c=some o->(q4.push { cls:=.type "tuple", data:=.seq #[x,y] }).get? c=some o:=λ c o e=>lE _ e;have hk4:∀c o,c≠z->c≠TO->c≠i1->c≠i2->s.heap.get? c=some o->q4.get? c=some o:=λ c o c1 c2 c3 c4 e=>hs4.extBut _ _ c4 (hs2.extBut _ _ c3 (hs1.extBut _ _ c1 e));have hT8:IsPair (q4.push { cls:=.type "tuple", data:=.seq #[x,y] }) q4.objs.size x y:=lG _ rfl;have hTO4:IsPair q4 TO a b:=hs4.extBut _ _ D.TOi2 (hs2.extBut _ _ D.TOi1 (hs1.extBut _ _ D.TOz hTO));have hsz8:(q4.push { cls:=.type "tuple", data:=.seq #[x,y] }).objs.size=s.heap.objs.size+1:=by rw[Heap.size_push,hsz]
  refine lB ⟨_,rfl,lB ?_⟩;show Q (.ref q4.objs.size) { s with heap:=q4.push { cls:=.type "tuple", data:=.seq #[x,y] } };rw[hsz] at hT8 ⊢;exact hQ _ ⟨_,_,up _ _ hz4,hf⟩ ⟨_,_,up _ _ hTO4⟩ (let ⟨o,e,r⟩:=itB j1 hs4 D.i12;⟨o,up _ o e,r⟩) (let ⟨o,e,r⟩:=j2;⟨o,up _ o e,r⟩) hT8 hsz8 λ c o c1 c2 c3 c4 e=>up c o (hk4 c o c1 c2 c3 c4 e)
theorem zJ8 {z TI TO i1 i2 l1 l2:Addr}{k:Nat}{xs ys:Array Value}{a b:Value}{Q:XQ}(hh:A.handled=none) (D:ZipApart z TI TO i1 i2 l1 l2)
  (hz:ZipS s.heap z TI TO) (hTI:IsPair s.heap TI (.ref i1) (.ref i2)) (hTO:IsPair s.heap TO a b) (h1:s.heap.IsTupleIter i1 l1 k) (h2:s.heap.IsTupleIter i2 l2 k)
  (hl1:s.heap.IsTuple l1 xs) (hl2:s.heap.IsTuple l2 ys) (hend:xs[k]?=none\/ys[k]?=none)
  (hE:∀h' e,(∀c o,c≠z->c≠TO->c≠i1->c≠i2->s.heap.get? c=some o->h'.get? c=some o)->(∃o,h'.get? e=some o/\o.cls = .type "StopIteration")->E (.ref e) { s with heap:=h' }):wpAny (model prog w) A (Builtin.SmallTypes.nextOf (.ref z)) Q E s:=by
 obtain⟨f0,f1,hz,hf⟩:=hz;have hT:s.TypeIs (.ref z) "zip" := ⟨_,hz,rfl⟩;unfold Builtin.SmallTypes.nextOf;refine lA 83;show wpAny _ _ (field (.ref z) 2 >>= _) _ _ _;refine lA (wpAny_field hz rfl (x:=.bool false) rfl ?_);show wpAny _ _ (field (.ref z) 3 >>= _) _ _ _;refine lA (wpAny_field hz rfl (x:=.ref TI) rfl ?_);refine lA (wpAny_seqItems hTI rfl ?_);show wpAny _ _ (Builtin.SmallTypes.ownedTupleIsFree (.ref z) >>= _) _ _ _;refine lA (zG2 hz hf ?_ λ q1 hz1 hs1=>?_)
 ·simp only[if_true];refine lA (wpAny_rule ?_);refine lA (wpAny_field hz rfl (x:=.ref TO) rfl ?_)
  refine lA (wpAny_setField_rec hz 59 λ q1 hz1 hs1=>?_);replace hz1:ZipF q1 z TI TO .ellipsis f1:=hz1;refine lA ?_;simp only[List.zipIdx_cons,List.zipIdx_nil,List.forIn_cons,List.forIn_nil];refine lA (lA (wpAny_onRaise ?_));show wpAny _ _ (Builtin.SmallTypes.nextOf (.ref i1) >>= _) _ _ _;cases hx:xs[k]? with
  |none =>
   refine lA (zAz hh (itB h1 hs1 D.i1z) (tpB hl1 hs1 D.l1z) hx λ q2 e hs2 he=>?_);obtain⟨oe,hoe,hce⟩:=he;have hz2:ZipF q2 z TI TO .ellipsis f1:=hs2 _ _ D.i1z.symm hz1;have hez:e≠z:=λ x=>by subst x;rw[hz2] at hoe;cases hoe;simp at hce
   exact wpAny_setField_rec hz2 59 λ q3 Ω hs3=>hE q3 e (λ c o c1 Ω c3 Ω x=>hs3.extBut _ _ c1 (hs2 _ _ c3 (hs1.extBut _ _ c1 x))) ⟨oe,hs3.extBut _ _ hez hoe,hce⟩
  |some x =>
   have hy:ys[k]?=none:=by rcases hend with h|h;rw[hx] at h;cases h;exact h
   refine lA (zAm (itB h1 hs1 D.i1z) (tpB hl1 hs1 D.l1z) hx λ q2 j1 hs2=>lB ?_);have hTO2:IsPair q2 TO a b:=hs2.extBut _ _ D.TOi1 (hs1.extBut _ _ D.TOz hTO);refine lA (wpAny_seqItems hTO2 rfl ?_);refine lA (wpAny_updateSeq_pair hTO2 λ q3 hTO3 hs3=>?_);refine lA (wpAny_letGo (lB ?_));refine lA (lA (wpAny_onRaise ?_));show wpAny _ _ (Builtin.SmallTypes.nextOf (.ref i2) >>= _) _ _ _;refine lA (zAz hh (itB (itB (itB h2 hs1 D.i2z) hs2 D.i12.symm) hs3 D.TOi2.symm) (tpB (tpB (tpB hl2 hs1 D.l2z) hs2 D.l2i1) hs3 D.l2TO) hy λ q4 e hs4 he=>?_);obtain⟨oe,hoe,hce⟩:=he;have hz4:ZipF q4 z TI TO .ellipsis f1:=hs4 _ _ D.i2z.symm (hs3.extBut _ _ D.TOz.symm (hs2.extBut _ _ D.i1z.symm hz1));have hez:e≠z:=λ x=>by subst x;rw[hz4] at hoe;cases hoe;simp at hce
   exact wpAny_setField_rec hz4 59 λ q5 Ω hs5=>hE q5 e (λ c o c1 c2 c3 c4 x=>hs5.extBut _ _ c1 (hs4 _ _ c4 (hs3.extBut _ _ c2 (hs2.extBut _ _ c3 (hs1.extBut _ _ c1 x))))) ⟨oe,hs5.extBut _ _ hez hoe,hce⟩
 ·rw[if_neg Bool.false_ne_true]
  refine lA ?_;rw[←Array.forIn_toList];simp only[List.forIn_cons,List.forIn_nil];refine lA (lA (lD ?_));show wpAny _ _ (Builtin.SmallTypes.nextOf (.ref i1) >>= _) _ _ _;cases hx:xs[k]? with
  |none =>
   refine lA (zAz hh (itB h1 hs1 D.i1z) (tpB hl1 hs1 D.l1z) hx λ q2 e hs2 he=>?_);exact hE q2 e (λ c o c1 Ω c3 Ω x=>hs2 _ _ c3 (hs1.extBut _ _ c1 x)) he
  |some x =>
   have hy:ys[k]?=none:=by rcases hend with h|h;rw[hx] at h;cases h;exact h
   refine lA (zAm (itB h1 hs1 D.i1z) (tpB hl1 hs1 D.l1z) hx λ q2 j1 hs2=>lB (lB ?_));refine lA (lA (lD ?_));show wpAny _ _ (Builtin.SmallTypes.nextOf (.ref i2) >>= _) _ _ _;refine lA (zAz hh (itB (itB h2 hs1 D.i2z) hs2 D.i12.symm) (tpB (tpB hl2 hs1 D.l2z) hs2 D.l2i1) hy λ q4 e hs4 he=>?_);exact hE q4 e (λ c o c1 Ω c3 c4 x=>hs4 _ _ c4 (hs2.extBut _ _ c3 (hs1.extBut _ _ c1 x))) he
end
noncomputable def Itez (a b:Addr):It :=
 ⟨λ i H=>∃xs ys x y,H a=some (.tup xs)/\H b=some (.tup ys)/\xs[i]?=some x/\ys[i]?=some y,
 λ i H v H'=>∃T U x y,H U=none/\(upd H U (.tup [x,y])) T=none/\v = .ref T/\H'=upd (upd H U (.tup [x,y])) T (.tup [.int i,.ref U])/\(∀xs,H a=some (.tup xs)->xs[i]?=some x)/\∀ys,H b=some (.tup ys)->ys[i]?=some y,
 λ i H=>∃xs ys,H a=some (.tup xs)/\H b=some (.tup ys)/\(xs.length<=i\/ys.length<=i)⟩
abbrev EnZ (a b e z TI TO i1 i2:Addr) (i:Nat) (h:Heap):Prop:=(∃old,IsEnum h e z i old)/\ZipS h z TI TO/\IsPair h TI (.ref i1) (.ref i2)/\(∃p q,IsPair h TO p q)/\h.IsTupleIter i1 a i/\h.IsTupleIter i2 b i
theorem zLc {P:Program}{w:World}{K:W.Frag}{es:List Expr}{kk:Nat}{pos:Pos}(a b e z TI TO i1 i2:Addr)
  (ap:TI≠z/\TO≠z/\i1≠z/\i2≠z/\TI≠TO/\TI≠i1/\TI≠i2/\TO≠i1/\TO≠i2/\i1≠i2) (ae:e≠z/\e≠TI/\e≠TO/\e≠i1/\e≠i2) :
  Turn P w K (.Tuple es kk pos) (Itez a b) [e,z,TI,TO,i1,i2] e (EnZ a b e z TI TO i1 i2) where
 mem:=by simp
 obj:=λ i h st c hc=>by
  obtain⟨⟨old,he⟩,⟨f0,f1,hz,_⟩,hTI,⟨p,q,hTO⟩,⟨o1,e1,c1,d1⟩,o2,e2,c2,d2⟩:=st;simp only[nK,mX,or_false] at hc;rcases hc with rfl|rfl|rfl|rfl|rfl|rfl
  ·exact⟨_,he,λ v z=>by have z':Data.fields _=Data.cell v:=z;cases z'⟩
  ·exact⟨_,hz,λ v z=>by have z':Data.fields _=Data.cell v:=z;cases z'⟩
  ·exact⟨_,hTI,λ v z=>by have z':Data.seq _ _=Data.cell v:=z;cases z'⟩
  ·exact⟨_,hTO,λ v z=>by have z':Data.seq _ _=Data.cell v:=z;cases z'⟩
  ·exact⟨o1,e1,λ v z=>by rw[d1] at z;cases z⟩
  ·exact⟨o2,e2,λ v z=>by rw[d2] at z;cases z⟩
 keep:=λ i h h' st k=>by
  obtain⟨⟨old,he⟩,⟨f0,f1,hz,hf⟩,hTI,⟨p,q,hTO⟩,⟨o1,e1,r1⟩,o2,e2,r2⟩:=st;exact⟨⟨old,k e 59 _ he⟩,⟨f0,f1,k z 59 _ hz,hf⟩,k TI 59 _ hTI,⟨p,q,k TO 59 _ hTO⟩,⟨o1,k i1 59 _ e1,r1⟩,o2,k i2 59 _ e2,r2⟩
 item:=by
  intro X hP hw hK hc i jP s σ H E I hf st hg;subst hP hw hK;obtain⟨xs,ys,x,y,ha,hb,hx,hy⟩:=hg;obtain⟨⟨old,he⟩,hz,hTI,⟨p,q,hTO⟩,h1,h2⟩:=st;obtain⟨its,rv,t1,_⟩:=I.tuple (SqT.of ha);obtain⟨its2,rv2,t2,_⟩:=I.tuple (SqT.of hb);obtain⟨u,hu,ru⟩:=rv.get hx;obtain⟨u2,hu2,ru2⟩:=rv2.get hy;obtain⟨n1,n2,n3,n4,n5,n6,n7,n8,n9,n10⟩:=ap;obtain⟨m1,m2,m3,m4,m5⟩:=ae;have ne:∀{c d:Addr}{o:HO},H c=some o->d∈[e,z,TI,TO,i1,i2]->c≠d:=λ e hd=>zAL e (hf _ hd).1;have D:ZipApart z TI TO i1 i2 a b:=⟨n1,n2,n3,n4,n5,n6,n7,n8,n9,n10,ne ha 59,ne ha 59,ne ha 59,ne ha 59,ne hb 59,ne hb 59,ne hb 59,ne hb 59⟩;have hT:s.TypeIs (.ref e) "enumerate" := ⟨_,he,rfl⟩
  have lts:∀c∈[e,z,TI,TO,i1,i2],c<s.heap.objs.size:=λ c hc=>by
   simp only[nK,mX,or_false] at hc;rcases hc with rfl|rfl|rfl|rfl|rfl|rfl
   ·exact lH (show s.heap.get? _=some _ from he)
   ·obtain⟨_,_,hz,_⟩:=hz;exact lH (show s.heap.get? _=some _ from hz)
   ·exact lH (show s.heap.get? _=some _ from hTI)
   ·exact lH (show s.heap.get? _=some _ from hTO)
   ·obtain⟨_,e,_⟩:=h1;exact lH e
   ·obtain⟨_,e,_⟩:=h2;exact lH e
  unfold pyNext;refine lA 74;show wpAny _ _ (field (.ref e) 2 >>= _) _ _ _;refine lA (wpAny_field he rfl (x:=.ref z) rfl ?_);refine lA (zIM D hz hTI hTO h1 h2 (show s.heap.IsTuple a its.toArray from t1) (show s.heap.IsTuple b its2.toArray from t2) (by simpa using hu) (by simpa using hu2) λ q1 hz1 hTO1 j1 j2 hU hsz1 hk1=>?_);have he1:IsEnum q1 e z i old:=hk1 _ _ m1 m3 m4 m5 he;show wpAny _ _ (field (.ref e) 3 >>= _) _ _ _;refine lA (wpAny_field he1 rfl (x:=rawInt i) rfl ?_);show wpAny _ _ (field (.ref e) 4 >>= _) _ _ _;refine lA (wpAny_field he1 rfl (x:=.none) rfl ?_);show wpAny _ _ (mkInt (i:Int) >>= _) _ _ _;refine lA (wpAny_mkInt ?_);refine lA (wpAny_setField_rec he1 59 λ q2 he2 hs2=>?_);refine lA (wpAny_setField_rec he2 59 λ q3 he3 hs3=>?_);refine lA (wpAny_newTuple ?_ (by show 2<=sizeLine;decide));have hsz3:q3.objs.size=s.heap.objs.size+1:=by rw[hs3.1,hs2.1,hsz1]
  have he4:IsEnum (q3.push { cls:=.type "tuple", data:=.seq #[.int i s.toks,.ref s.heap.objs.size] }) e z ((i:Int)+1) old:=lE _ he3;show wpAny _ _ (Builtin.SmallTypes.ownedTupleIsFree (.ref e) >>= _) _ _ _;refine lA ?_;unfold Builtin.SmallTypes.ownedTupleIsFree;refine lA (wpAny_field he4 rfl (x:=.none) rfl (lB ?_));simp only[if_true];refine lA (wpAny_rule ?_);refine lA (wpAny_field he4 rfl (x:=old) rfl ?_);refine lA (wpAny_setField_rec he4 59 λ q5 he5 hs5=>?_);show wpAny _ _ (Builtin.SmallTypes.ownedTupleHandOut (.ref e) (.ref q3.objs.size) >>= _) _ _ _;refine lA ?_;unfold Builtin.SmallTypes.ownedTupleHandOut;refine lA (wpAny_setField_rec he5 59 λ q6 he6 hs6=>?_);refine wpAny_setField_rec he6 59 λ q7 he7 hs7=>?_;refine lA (wpAny_letGo ?_);refine lB ⟨_,rfl,lB ⟨_,rfl,?_⟩⟩;have hU7:∀c o,c≠e->q3.get? c=some o->q7.get? c=some o:=λ c o c1 h=>hs7.extBut _ _ c1 (hs6.extBut _ _ c1 (hs5.extBut _ _ c1 (lE _ h)));have h17:∀c o,c≠e->q1.get? c=some o->q7.get? c=some o:=λ c o c1 h=>hU7 c o c1 (hs3.extBut _ _ c1 (hs2.extBut _ _ c1 h));have eLt:=lts e 59
  have hT7:IsPair q7 q3.objs.size (.int i s.toks) (.ref s.heap.objs.size):=by
   have nE:q3.objs.size≠e:=by rw[hsz3];exact Nat.ne_of_gt (Nat.lt_succ_of_lt eLt)
   exact hs7.extBut _ _ nE (hs6.extBut _ _ nE (hs5.extBut _ _ nE (lG _ rfl)))
  have hout:IsEnumOut q7 e z ((i:Int)+1) (.ref s.heap.objs.size) q3.objs.size:=he7;have hn:H s.heap.objs.size=none:=I.fresh;have kAll:∀c o,c∉[e,z,TO,i1,i2]->s.heap.get? c=some o->q3.get? c=some o:=λ c o hc h=>hs3.extBut _ _ (λ q=>hc (by simp[q])) (hs2.extBut _ _ (λ q=>hc (by simp[q])) (hk1 c o (λ q=>hc (by simp[q])) (λ q=>hc (by simp[q])) (λ q=>hc (by simp[q])) (λ q=>hc (by simp[q])) h));have hfE:∀c∈[e,z,TO,i1,i2],FpOk X jP H c:=λ c hc=>hf c (by simp at hc ⊢;rcases hc with r|r|r|r|r<;>simp[r]);have hU3:IsPair q3 s.heap.objs.size u u2:=hs3.extBut _ _ (Nat.ne_of_gt eLt) (hs2.extBut _ _ (Nat.ne_of_gt eLt) hU);have neT:∀c∈[e,z,TI,TO,i1,i2],c≠s.heap.objs.size:=λ c hc=>lR (lts c hc);have neT2:∀c∈[e,z,TI,TO,i1,i2],c≠q3.objs.size:=λ c hc=>by rw[hsz3];exact lR (Nat.lt_succ_of_lt (lts c hc))
  have I1:Inv X jP σ (upd H s.heap.objs.size (.tup [x,y])) { s with heap:=q3,toks:=s.toks+1 }:=I.turnedL (ch:=[e,z,TO,i1,i2]) kAll hfE (lQ _) ⟨Nat.le_of_lt (zAO (show 2<=1000 by decide)),[u,u2],.cons ru (.cons ru2 .nil),_,hU3,rfl,_,rfl⟩;have hn2:(upd H s.heap.objs.size (.tup [x,y])) q3.objs.size=none:=I1.fresh
  have fpE:FpOk X jP (upd H s.heap.objs.size (.tup [x,y])) e:=by
   obtain⟨f0,f⟩:=hf e 59;exact⟨by rw[zAR (neT e 59)];exact f0,f⟩
  have I2:Inv X jP σ (upd (upd H s.heap.objs.size (.tup [x,y])) q3.objs.size (.tup [.int i,.ref s.heap.objs.size])) { s with heap:=q7,toks:=s.toks+1 }:=I1.turnedL (t':=s.toks+1) (ch:=[e]) (λ c o hc h=>hU7 c o (λ q=>hc (by simp[q])) h) (λ c hc=>by rw[mO.mp hc];exact fpE) (lQ _)
   ⟨Nat.le_of_lt (zAO (show 2<=1000 by decide)),[.int i s.toks,.ref s.heap.objs.size],.cons 72 (.cons rfl .nil),_,hT7,rfl,_,rfl⟩
  refine wpAny_letOwnedTupleGo_enum (s:={ s with heap:=q7,toks:=s.toks+1 }) hout λ h2 he2 hs2'=>⟨.ref q3.objs.size,_,?_,rfl,⟨_,_,x,y,hn,hn2,rfl,rfl,λ ws e=>by rw[ha] at e;cases e;exact hx,λ ws e=>by rw[hb] at e;cases e;exact hy⟩,⟨⟨_,he2⟩,?_,?_,?_,?_,?_⟩,λ c hc=>?_⟩
  ·refine I2.turnedN (t':=s.toks+1) (ch:=[e]) (λ c o hc q=>(hs2'.2 c (λ z=>hc (by simp[z]))).trans q) λ c hc=>?_
   rw[mO.mp hc];obtain⟨f0,f⟩:=fpE;exact⟨by rw[zAR (neT2 e 59)];exact f0,f⟩
  ·obtain⟨f0,f1,hz1,hff⟩:=hz1
   exact⟨f0,f1,hs2'.extBut _ _ m1.symm (h17 _ _ m1.symm hz1),hff⟩
  ·exact hs2'.extBut _ _ m2.symm (h17 _ _ m2.symm (hk1 _ _ n1 n5 n6 n7 hTI))
  ·obtain⟨p',q',hTO1⟩:=hTO1
   exact⟨p',q',hs2'.extBut _ _ m3.symm (h17 _ _ m3.symm hTO1)⟩
  ·obtain⟨o,q,r⟩:=j1
   exact⟨o,hs2'.extBut _ _ m4.symm (h17 _ _ m4.symm q),r⟩
  ·obtain⟨o,q,r⟩:=j2
   exact⟨o,hs2'.extBut _ _ m5.symm (h17 _ _ m5.symm q),r⟩
  ·rw[zAR (neT2 c hc),zAR (neT c hc)];exact(hf c hc).1
 done:=by
  intro X hP hw hK hc i jP s σ H E I hf st hg;subst hP hw hK;obtain⟨xs,ys,ha,hb,hend⟩:=hg;obtain⟨⟨old,he⟩,hz,hTI,⟨p,q,hTO⟩,h1,h2⟩:=st;obtain⟨its,rv,t1,_⟩:=I.tuple (SqT.of ha);obtain⟨its2,rv2,t2,_⟩:=I.tuple (SqT.of hb);have l1:=rv.length;have l2:=rv2.length;obtain⟨n1,n2,n3,n4,n5,n6,n7,n8,n9,n10⟩:=ap;have ne:∀{c d:Addr}{o:HO},H c=some o->d∈[e,z,TI,TO,i1,i2]->c≠d:=λ e hd=>zAL e (hf _ hd).1;have D:ZipApart z TI TO i1 i2 a b:=⟨n1,n2,n3,n4,n5,n6,n7,n8,n9,n10,ne ha 59,ne ha 59,ne ha 59,ne ha 59,ne hb 59,ne hb 59,ne hb 59,ne hb 59⟩;have hT:s.TypeIs (.ref e) "enumerate" := ⟨_,he,rfl⟩;unfold pyNext;refine lA 74;show wpAny _ _ (field (.ref e) 2 >>= _) _ _ _;refine lA (wpAny_field he rfl (x:=.ref z) rfl ?_);refine lA (zJ8 (I.ok.hd hc) D hz hTI hTO h1 h2 (show s.heap.IsTuple a its.toArray from t1) (show s.heap.IsTuple b its2.toArray from t2) ?_ λ h1 x hx1 ⟨o,ho,hc'⟩=>?_)
  ·rcases hend with h|h
   ·exact .inl (by simp;lia)
   ·exact .inr (by simp;lia)
  refine lA (wpAny_isInstance (T := "StopIteration") (b:=true) ⟨o,ho,hc'⟩ isSubtype_stop ?_);exact lB ⟨rfl,I.turnedN (t':=s.toks) (ch:=[z,TO,i1,i2]) (λ c o hc q=>hx1 c o (λ z=>hc (by simp[z])) (λ z=>hc (by simp[z])) (λ z=>hc (by simp[z])) (λ z=>hc (by simp[z])) q) λ c hc=>hf c (by simp at hc ⊢;rcases hc with r|r|r|r<;>simp[r])⟩
 self:=λ Ω Ω Ω Ω Ω st h=>let ⟨⟨_,he⟩,_⟩:=st;wpAny_pyIter_enum he h
set_option tactic.hygienic true in
theorem zEw (z TI TO:Addr) :
  Meets (Builtin.«enumerate.__new__» ⟨[.type "enumerate", .ref z],[]⟩) (λ Ω R s=>IsZip s.heap z TI TO .none /\
   R (.ok (.ret (.ref s.heap.objs.size))) { s with heap:=s.heap.push { cls:=.type "enumerate", data:=.fields #[.none,.bool false,.ref z,rawInt 0,.none,.none] } }) :=
 .of_wp λ prog w A R s h=>by
  obtain⟨hp,g,d,tk,os⟩:=s;obtain⟨hl,h⟩:=h;have hsub:=sub_enumerate;have hL:IsZip (Shared.heap ⟨hp,g,d,tk,os⟩) z TI TO .none:=hl
  wp_walk using AutoSeq1.wpAny_loadPart' hl
  refine wpAny_stack_any λ st=>lB ?_;split
  ·rename_i c _ _ _ _ _;cases (c == Value.type "enumerate")
   ·wp_walk using AutoSeq1.wpAny_loadPart' hl,wpAny_pyIter_zip hL;exact⟨_,rfl,h⟩
   ·wp_walk using AutoSeq1.wpAny_loadPart' hl,wpAny_pyIter_zip hL;exact⟨_,rfl,h⟩
  ·wp_walk using AutoSeq1.wpAny_loadPart' hl,wpAny_pyIter_zip hL;exact⟨_,rfl,h⟩
theorem zFb {prog:Program}{w:World}{A:Around}{E:XQ}{s:Shared}{z TI TO:Addr}{Q:XQ}(hz:IsZip s.heap z TI TO .none)
  (h:∀h',IsEnum h' s.heap.objs.size z 0 .none->(∀b o,s.heap.get? b=some o->h'.get? b=some o)->Q (.ref s.heap.objs.size) { s with heap:=h' }):wpAny (model prog w) A (call (.type "enumerate") [.ref z]) Q E s:=by
 refine callType_new F.called_enumerate 66 (F.typeCall_enumerate_1 _) (F.newCall_enumerate_1 _) (λ obj=>F.args_object_init_2 obj _) F.entry_enumerate_new (zEw z TI TO) ⟨hz,?_⟩;exact⟨⟨_,lG _ rfl,rfl⟩,h _ (lG _ rfl) λ b o x=>lE _ x⟩
def zKv (ta:TA):TI:=λ σ H R=>ta σ H λ vs H1=>∃a b xs ys,vs=[.ref a,.ref b]/\H1 a=some (.tup xs)/\H1 b=some (.tup ys)/\R (Itez a b) H1
theorem zE6 {X:Cx}{es:List Expr}{k:Nat}{tpos:Pos}{a b:Expr}{ta:TA}{p p2 pos pos2:Pos}(hg:Gl X "enumerate") (hm:X.mg "enumerate" = none) (hg2:Gl X "zip") (hm2:X.mg "zip" = none) (ha:PA X [a,b] ta) (hs:starEach [a,b] X.env=[(false,eval a X.env),(false,eval b X.env)]:=by rfl) (hs2:starEach [b] X.env=[(false,eval b X.env)]:=by rfl)
  (hs3:starEach [Expr.Call (.Name "zip" p2) [a,b] [] pos2] X.env=[(false,eval (Expr.Call (.Name "zip" p2) [a,b] [] pos2) X.env)]:=by rfl) :
  PI X (.Tuple es k tpos) (.Call (.Name "enumerate" p) [.Call (.Name "zip" p2) [a,b] [] pos2] [] pos) (zKv ta):=by
 intro jP s σ H R I h;refine Call_ (zDC I hg hm boot_enumerate (PyProof.Rows.callWith_type1 ?_ hs3 rfl));rw[hs3];show wpAny _ _ (spliced [(false,eval (Expr.Call (.Name "zip" p2) [a,b] [] pos2) X.env)]) _ _ s;refine Calls.spliced_cons ?_;refine Call_ (zDC I hg2 hm2 zGI (PyProof.Rows.callWith_type1 (thn (ha pos2 jP s σ H _ I h) λ us s1 ⟨vs,H1,I1,r1,q1⟩=>?_) (by rw[hs,hs2]) (by rw[hs2];rfl)));obtain⟨l1,l2,xs,ys,e,h1,h2,q⟩:=q1;subst e;obtain⟨u,w',rfl,ru,rw'⟩:=vals2 r1;cases ru;cases rw';obtain⟨its,rv,t1,_⟩:=I1.tuple (SqT.of h1);obtain⟨its2,rv2,t2,_⟩:=I1.tuple (SqT.of h2);refine zGG (show s1.heap.IsTuple l1 its.toArray from t1) (show s1.heap.IsTuple l2 its2.toArray from t2) λ h' z TI TO i1 i2 a0 a1 a2 a3 a4 a5 a6 a7 a8 a9 b1 b2=>?_;refine Calls.spliced_nil ?_;refine zFb (s:={ s1 with heap:=h' }) a7 λ h2 he hk=>?_;have up:∀{c:Addr}{o:Obj},h'.get? c=some o->h2.get? c=some o:=λ e=>hk _ _ e;have lt:∀{c:Addr}{o:Obj},h'.get? c=some o->h'.objs.size≠c:=λ e=>Nat.ne_of_gt (lH e);obtain⟨o1,e1,r1'⟩:=b1;obtain⟨o2,e2,r2'⟩:=b2
 refine wpAny_pyIter_enum he ⟨_,[h'.objs.size,z,TI,TO,i1,i2],_,_,H1,rfl,I1.kept (t':=s1.toks) (λ c o e=>hk c o (a0 c o e)),zLc l1 l2 h'.objs.size z TI TO i1 i2 a6 ⟨lt a7,lt a8,lt a9,lt e1,lt e2⟩,
  ⟨⟨_,he⟩,⟨_,_,up a7,.inl rfl⟩,up a8,⟨_,_,up a9⟩,⟨o1,up e1,r1'⟩,⟨o2,up e2,r2'⟩⟩,λ c hc=>?_,q⟩
 have ge:s1.heap.objs.size<=c:=by
  have l0:s1.heap.objs.size<=h'.objs.size:=Nat.le_of_lt (Nat.lt_of_le_of_lt a1 (lH (show h'.get? z=some _ from a7)));simp only[nK,mX,or_false] at hc;rcases hc with rfl|rfl|rfl|rfl|rfl|rfl<;>assumption
 exact I1.fpOk ge (I1.hok.fresh ge)
theorem zLQ {a b:Addr}{xs ys:List V}{g:TG}{tb:TS}{D:Ends}{σ:L2.St}{H:Hp}(Pv:Nat->L2.St->Hp->Prop) (h0:Pv 0 σ H) (hl:∀i σ H,i<=min xs.length ys.length->Pv i σ H->H a=some (.tup xs)/\H b=some (.tup ys))
  (hs:∀i x y T U σ H,xs[i]?=some x->ys[i]?=some y->Pv i σ H->H U=none->(upd H U (.tup [x,y])) T=none->g (.ref T) σ (upd (upd H U (.tup [x,y])) T (.tup [.int i,.ref U])) λ σ2 H2=>tb { D with nx:=Pv (i+1),ct:=Pv (i+1),bk:=D.nx } σ2 H2) (hd:∀σ H,Pv (min xs.length ys.length) σ H->D.nx σ H) :
  ∃W:Nat->Nat->L2.St->Hp->Prop,(∃m,W 0 m σ H)/\∀i m σ H,W i m σ H ->
   ((Itez a b).stop i H/\D.nx σ H)\/((Itez a b).go i H/\∃N:L2.St->Hp->Prop,75/\∀x H',(Itez a b).yld i H x H'->g x σ H' λ σ2 H2=>tb { D with nx:=N,ct:=N,bk:=D.nx } σ2 H2):=by
 refine⟨λ i m σ H=>m=min xs.length ys.length - i/\i<=min xs.length ys.length/\Pv i σ H,⟨min xs.length ys.length,by simp,lX _,h0⟩,?_⟩;rintro i m σ H ⟨rfl,hi,p⟩;obtain⟨ha,hb⟩:=hl i σ H hi p
 by_cases hlt:i<min xs.length ys.length
 ·have hx:i<xs.length:=by lia
  have hy:i<ys.length:=by lia
  refine .inr ⟨⟨xs,ys,xs[i],ys[i],ha,hb,by simp[hx],by simp[hy]⟩,Pv (i+1),λ σ' H' p'=>⟨min xs.length ys.length - (i+1),by lia,rfl,hlt,p'⟩,λ x H' y=>?_⟩;obtain⟨T,U,u,v,hU,hT,ex,eH,e1,e2⟩:=y;subst ex eH;exact hs i u v T U σ H (e1 xs ha) (e2 ys hb) p hU hT
 ·have e:i=min xs.length ys.length:=by lia
  subst e;exact .inl ⟨⟨xs,ys,ha,hb,by lia⟩,hd σ H p⟩
section
variable {X:Cx}
theorem zKI {x y:V}{u:Value}{H:Hp}{d e:Dt}(rx:RelV x u) (ry:RelV y u) (hx:DR H d x) (hy:DR H e y):d=e:=by
 have:x=y:=by
  cases hx with
  |int i=>obtain⟨t,rfl⟩:=rx;cases hy with
   |int j=>obtain⟨t',h⟩:=ry;cases h;rfl
   |str j=>obtain⟨t',h⟩:=ry;cases h
   |tup h _=>cases ry
  |str i=>obtain⟨t,rfl⟩:=rx;cases hy with
   |int j=>obtain⟨t',h⟩:=ry;cases h
   |str j=>obtain⟨t',h⟩:=ry;cases h;rfl
   |tup h _=>cases ry
  |tup h r=>cases rx;cases hy with
   |int j=>obtain⟨t',h⟩:=ry;cases h
   |str j=>obtain⟨t',h⟩:=ry;cases h
   |tup h' _=>cases ry;rfl
 subst this;exact DR.inj hx hy
open Classical in
noncomputable def eqW (H:Hp) (dx:Dt) (w:Value):Bool:=decide (∃x d,RelV x w/\DR H d x/\Dt.beq d dx=true)
theorem zLS {H:Hp}{dx d:Dt}{x:V}{w:Value}(r:RelV x w) (h:DR H d x):eqW H dx w=Dt.beq d dx:=by
 unfold eqW;rw[Bool.eq_iff_iff,@decide_eq_true_iff _ (Classical.propDecidable _)];constructor
 ·rintro⟨y,e,ry,he,hb⟩
  rw[zKI r ry h he];exact hb
 ·intro hb
  exact⟨x,d,r,h,hb⟩
theorem zGz {H:Hp}{dx:Dt}{ds:List Dt}{xs:List V}{us:List Value}(z:DRs H ds xs) (y:Vals xs us):us.any (eqW H dx)=ds.any λ d=>Dt.beq d dx:=by
 induction y generalizing ds with
 |nil=>cases z;rfl
 |cons r rs ih =>
  cases z with|cons h t=>rw[List.any_cons,List.any_cons,zLS r h,ih t]
theorem zGo {jP:List 71}{σ:L2.St}{H:Hp}{s:Shared}{A:Around}{dx:Dt}{x:V}{v:Value}(I:Inv X jP σ H s) (rx:RelV x v) (hx:DR H dx x) (hu:A.units+100<cLine){ds:List Dt}{xs:List V}{us:List Value}(z:DRs H ds xs) (y:Vals xs us):Dt.deeps ds<=100->∀u∈us,SeqAt.EqAt A s u v (eqW H dx u):=by
 induction y generalizing ds with
 |nil=>exact λ U u hu=>nomatch hu
 |cons r rs ih =>
  cases z with|cons h t =>
  intro hd u' hu';simp only[Dt.deeps] at hd;rcases nK.mp hu' with rfl|hu'
  ·rw[zLS r h]
   exact zJl I 100 A (by omega) h hx r rx hu
  ·exact ih t (by omega) u' hu'
end
end L2
namespace PySem
open Sem (wp)
namespace F
theorem dul_entry:entryFor table "dict.update.loop" = some Builtin.«dict.update.loop»:=entryFor_of_tree (by kernel_rfl)
theorem dul_plain:plainId "dict.update.loop" = true:=by right
theorem tuple_no_keys:typeLookup (.type "tuple") "keys" = pure none:=am_miss_of_fast 80
end F
theorem zDe {prog:Program}{w:World}{A:Around}{E:XQ}{s:Shared}{a:Addr}{o:Obj}{xs:Array Value}{k:Nat}{name:Str}{Q:Option Value->Shared->Prop}
  (hx:s.heap.get? a=some o) (hc:o.cls = .type "tuple") (hdat:o.data = .seq xs k) (hd:o.dict=none) (hmiss:typeLookup (.type "tuple") name=pure none)
  (hname:(["__module__", "__name__", "__qualname__", "__doc__", "__annotations__"]:List Str).contains name=false) (hA:A.handled=none) (hsz:name.length+100<=sizeLine)
  (h:∀h' tk,(∀b ob,s.heap.get? b=some ob->h'.get? b=some ob)->Q none { s with heap:=h',toks:=tk }):wpAny (model prog w) A (getAttr? (.ref a) name) Q E s:=by
 obtain⟨c,dct,dat,sl⟩:=o;simp only at hc hdat hd;subst hc hdat hd;obtain⟨hp,g,d,tk,os⟩:=s;have hT:∀tk',(⟨hp,g,d,tk',os⟩:Shared).TypeIs (.ref a) "tuple" := λ Ω=>⟨_,hx,rfl⟩;have f1:=sub_AttributeError;have f3:=F.slot_tuple_getattribute.lookup;have f4:=F.slot_tuple_getattribute.bind (.ref a);have f5:=am_tuple_getattr_none;unfold getAttr? getAttrBy? getAttrBy
 repeat (any_goals (first|assumption|exact hT _|((with_reducible show wpAny _ _ (call (Value.builtin "tuple.__getattribute__") _ _) _ _ _);refine call_meets F.slot_tuple_getattribute (hT _) am_entry_tuple_getattribute (F.args_tuple_getattribute_2 _ _) (meets_getattribute_miss_tuple a xs k sl name _ hmiss hname hsz) ⟨hx,hA,λ h' tk' e hx'=>?_⟩)|wp_step))
 obtain⟨t',u',he⟩:=hx'.there;show wpAny _ _ (getattributeRaised _ _ _ _ _ _ _) _ _ _;unfold getattributeRaised
 repeat (any_goals (first|assumption|wp_step))
 all_goals first
  |exact h _ _ hx'.keeps
  |skip
section
variable {prog:Program}{w:World}{K:Type} [DecidableEq K] {knd:KeyKind prog w K}{A:Around}{R:Result->Shared->Prop}{E:XQ}
def zG1 (knd:KeyKind prog w K) (h:Heap) (its:List Value) (prs:List (K × Value)):Prop :=
 its.length=prs.length/\∀(i:Nat) (x:Value),its[i]?=some x->∃(pa:Addr) (key:Value) (kv:K × Value),x=Value.ref pa/\prs[i]?=some kv/\h.IsTuple pa #[key,kv.2]/\knd.is kv.1 key=true
theorem Heap.IsTuple.kept {h h':Heap}{a:Addr}{xs:Array Value}(x:h.IsTuple a xs) (k:∀b o,h.get? b=some o->h'.get? b=some o):h'.IsTuple a xs :=
 let ⟨o,ho,r⟩:=x;⟨o,k a o ho,r⟩
theorem zKz {h0:Heap}{d it t:Addr}{items:Array Value}{prs:List (K × Value)}(hA:A.handled=none) (hld:h0.objs.size<=d) (hli:h0.objs.size<=it) (hne:d≠it)
  (ht:h0.IsTuple t items) (hp:zG1 knd h0 items.toList prs) (hsz:prs.length<=sizeLine) :
  ∀(n i:Nat) (s:Shared),items.size - i=n->i<=items.size->(∀b o,h0.get? b=some o->s.heap.get? b=some o)->s.heap.IsTupleIter it t i->s.heap.DictOf knd d (merged [] (prs.take i)) ->
   (∀h' tk,(∀b o,h0.get? b=some o->h'.get? b=some o)->h'.DictOf knd d (merged [] prs)->R (.ok (.ret .none)) { s with heap:=h',toks:=tk }) ->
   codeAny (model prog w) A (.builtin "dict.update.loop" ⟨[.ref d,.ref it,.int (i:Int) 0,.none],[]⟩) R s:=by
 have hlen:items.size=prs.length:=by rw[←hp.1];simp
 intro n
 induction n with
 |zero =>
  intro i s hn hi kp hit hd hR;have e:i=items.size:=by lia
  subst e;refine codeAny_builtin F.dul_entry ?_;rw[Around.under_plainId F.dul_plain _];refine lA (wpAny_pyNext_tuple_end (show A.in1.handled=none from hA) hit (ht.kept kp) 59 λ h' he=>?_);show wpAny _ _ (Builtin.Dict.addKeywords d [] >>= _) _ _ _;refine lA (lB (lB (hR h' s.toks (λ b o hb=>he b o (lR (lY (lH hb) hli)) (kp b o hb)) ?_)));rw[hlen,mM] at hd;obtain⟨o,es,ep,ho,rest⟩:=hd;exact⟨o,es,ep,he d o hne ho,rest⟩
 |succ n ih =>
  intro i s hn hi kp hit hd hR;have hlt:i<items.size:=by lia
  obtain⟨pa,key,kv,ex,ekv,htp,hkey⟩:=hp.2 i items[i] (by simp[hlt]);refine codeAny_builtin F.dul_entry ?_;rw[Around.under_plainId F.dul_plain _];refine lA (wpAny_pyNext_tuple_item hit (ht.kept kp) (x:=items[i]) (by simp[hlt]) λ h1 hit1 hs1=>?_);have kp1:∀b o,h0.get? b=some o->h1.get? b=some o:=λ b o hb=>hs1.extBut b o (lR (lY (lH hb) hli)) (kp b o hb);rw[ex];have htp1:=htp.kept kp1;refine lA (lD (lA (wpAny_tryCatch ?_)));unfold Builtin.Dict.pairItems;refine lA (wpAny_typeOf (s:={ s with heap:=h1 }) (v:=.ref pa) (T := "tuple") htp1.typeIs ?_);rw[if_pos 66];obtain⟨o2,ho2,hc2,n2,hd2⟩:=htp1;refine lA (wpAny_seqItems ho2 hd2 (lB ?_))
  have hd1:h1.DictOf knd d (merged [] (prs.take i)):=by
   obtain⟨o,es,ep,ho,rest⟩:=hd;exact⟨o,es,ep,hs1.extBut d o hne ho,rest⟩
  have hml:(merged [] (prs.take i)).length<=sizeLine:=by
   have e1:=merged_length_le ([]:List (K × Value)) (prs.take i);rw[List.length_nil,mL] at e1
   lia
  show wpAny _ _ (holding [key,kv.2] (dictSet d key kv.2)) _ _ _;refine lD (wpAny_dictSet_pairs (hsz:=hml) hkey hd1 λ h2 hd2 hs2=>?_);refine lB ⟨plainId_quiet F.dul_plain _,?_⟩;refine ih (i+1) _ 65 hlt (λ b o hb=>hs2.extBut b o (lR (lY (lH hb) hld)) (kp1 b o hb)) (hit1.extBut hs2.extBut (Ne.symm hne)) ?_ λ h' tk k' d'=>hR h' tk k' d';rw[merged_take_succ [] prs i kv ekv];exact hd2
theorem zEk {s:Shared}{t:Addr}{o:Obj}{items:Array Value}{n:Nat}{prs:List (K × Value)}{Q:XQ}(hA:A.handled=none) (hx:s.heap.get? t=some o) (hc:o.cls = .type "tuple") (hdat:o.data = .seq items n) (hdn:o.dict=none)
  (hp:zG1 knd s.heap items.toList prs) (hsz:prs.length<=sizeLine)
  (h:∀h' tk,(∀b o,s.heap.get? b=some o->h'.get? b=some o)->h'.DictOf knd s.heap.objs.size (merged [] prs)->Q (.ref s.heap.objs.size) { s with heap:=h',toks:=tk }) :
  wpAny (model prog w) A (call (.type "dict") [.ref t]) Q E s:=by
 refine callType_codes (Q₁:=λ obj s₁=>obj = .ref s.heap.objs.size/\s₁={ s with heap:=s.heap.push { cls:=.type "dict", data:=.dict #[] } }) F.kt_called_dict (F.kt_typeCall_dict_1 _) F.entry_dict_init (kt_code_dict_new _ ⟨rfl,rfl⟩) ?_;rintro obj s₁ ⟨rfl,rfl⟩;have hnew:(s.heap.push { cls:=.type "dict", data:=.dict #[] }).DictOf knd s.heap.objs.size []:=Heap.DictOf.new s.heap;have kp0:∀b o,s.heap.get? b=some o->(s.heap.push { cls:=.type "dict", data:=.dict #[] }).get? b=some o:=λ b o hb=>lE _ hb;have ht0:s.heap.IsTuple t items:=⟨o,hx,hc,n,hdat⟩;refine⟨hnew.typeIs,F.args_dict_init_2 _ _,?_⟩;unfold Builtin.«dict.__init__»;refine lA ?_;unfold Builtin.Dict.selfAndRest;refine lA (wpAny_notOrdered_dict hnew.typeIs ?_);show wpAny _ _ (pure (s.heap.objs.size,[Value.ref t])) _ _ _;refine lB ?_;show wpAny _ _ (Builtin.Dict.updateFrom "dict.__init__" s.heap.objs.size (.ref t) [] .none) _ _ _;unfold Builtin.Dict.updateFrom;refine lA (wpAny_typeOf (v:=.ref t) (T := "tuple") (ht0.kept kp0).typeIs ?_);rw[if_pos 66];refine lA (zDe (kp0 _ _ hx) hc hdat hdn F.tuple_no_keys 80 hA (by size_fits) λ h1 tk kp1=>?_);rw[if_pos (show (Option.none:Option Value).isNone=true from rfl)];have kp01:∀b o,s.heap.get? b=some o->h1.get? b=some o:=λ b o hb=>kp1 b o (kp0 b o hb);refine lA (wpAny_rule ?_);refine lA (wpAny_pyIter_tuple (ht0.kept kp01) ?_)
 have hd1:h1.DictOf knd s.heap.objs.size []:=by
  obtain⟨o,es,ep,ho,rest⟩:=hnew;exact⟨o,es,ep,kp1 _ _ ho,rest⟩
 have hsd:s.heap.objs.size<h1.objs.size:=let ⟨_,_,_,ho,_⟩:=hd1;lH ho;refine lB ⟨plainId_quiet F.dul_plain _,?_⟩;refine zKz (h0:=s.heap) (knd:=knd) (A:=A.in1) hA (lQ _) (Nat.le_of_lt hsd) (lR hsd) ht0 hp hsz items.size 0 _ 65 (lX _) (λ b o hb=>lE _ (kp01 b o hb)) ⟨_,lG _ rfl,rfl,rfl⟩ (hd1.push _) λ h' tk' k' d'=>?_;exact⟨rfl,h h' tk' k' d'⟩
end
end PySem
namespace L2
open PySem PySem.Spec PyProof.Rows
section
variable {X:Cx}
theorem zGv:CallR X (.type "tuple") (λ xs H Q=>E2 λ p ys=>A3 (xs=[.ref p]) (SqL X.K H p ys) (∀(l:Addr) (o:Obj),H l=none->o.dict=none->Q (.ref l) (upd H l (.frz o (.tup ys))))):=by
 intro jP s σ H xs us Q I r h;obtain⟨p,ys,rfl,hq,q⟩:=h;obtain⟨u,rfl,rx⟩:=vals1 r;cases rx;obtain⟨its,r',pl,hz⟩:=I.list hq;have hlen:=r'.length;refine call_tuple_list pl.isList (λ h' kp=>?_) (by simp only[mG]<;>lia);have I1:Inv X jP σ H { s with heap:=h' }:=I.kept (t':=s.toks) kp;have I2:=I1.laid (o:=.frz { cls:=.type "tuple", data:=.seq its.toArray } (.tup ys)) (t':=s.toks) (h':=h'.push { cls:=.type "tuple", data:=.seq its.toArray }) (λ b o e=>lE _ e) (lQ h'.objs.size) ⟨lG _ rfl,hz,its,r',IsTup.new _ _⟩;exact⟨.ref h'.objs.size,_,I2,rfl,q _ _ (I1.hok.fresh (lQ _)) rfl⟩
def PrV (H:Hp) (y:V) (kv:Key × V):Prop:=∃b,y = .ref b/\H b=some (.tup [kV kv.1,kv.2])
set_option tactic.hygienic true in
theorem zLE {P:Program}{w:World}{H:Hp}{h:Heap}(ok:HOk P w H h):∀{ys:List V}{kvs:List 90},Paired (PrV H) ys kvs->∀{its:List Value},Vals ys its->∃prs,zG1 (zAi P w) h its prs/\KV kvs prs
 |_,_,.nil,its,r=>by
  cases r;exact⟨[],⟨rfl,λ i x hx=>by simp at hx⟩,.nil⟩
 |_,_,.cons (b:=kv) hy hr,its,r=>by
  cases r with
  |cons r1 r2 =>
   obtain⟨prs,⟨pl,pp⟩,k⟩:=zLE ok hr r2;obtain⟨b,rfl,hb⟩:=hy;cases r1;obtain⟨_,its2,rv,tp⟩:=(show ObjOk P w H h b (.tup [kV kv.1,kv.2]) from ok b _ hb);cases rv with
   |cons q1 rv=>cases rv with
    |cons q2 rv =>
     cases rv;rename_i key val;refine⟨(kv.1,val)::prs,⟨by simp[pl],λ i x hx=>?_⟩,.cons ⟨rfl,q2⟩ k⟩;cases i with
     |zero =>
      simp at hx;exact⟨b,key,(kv.1,val),hx.symm,rfl,tp,kV_is q1⟩
     |succ i =>
      simp at hx;obtain⟨pa,key',kv',h1,h2,h3,h4⟩:=pp i x hx;exact⟨pa,key',kv',h1,by simpa using h2,h3,h4⟩
def zMW:List V->Hp->VK->Prop:=λ xs H Q=>E4 λ(a:Addr) (o:Obj) (ys:List V) (kvs:List (Key × V))=>A6 (xs=[.ref a]) (H a=some (.frz o (.tup ys))) (o.dict=none) (Paired (PrV H) ys kvs) (kvs.length<=1000) (∀p,H p=none->Q (.ref p) (upd H p (.dK (zA5 [] kvs))))
theorem zDu (hc:X.calm=true):CallR X (.type "dict") zMW:=by
 intro jP s σ H xs us Q I r h;obtain⟨a,o,ys,kvs,rfl,ha,hdn,hp,hl,q⟩:=h;obtain⟨u,rfl,ru⟩:=vals1 r;cases ru;obtain⟨hx,hz,its,rv,o',ho',hcl,n,hdat⟩:=(show ObjOk X.prog X.w H s.heap a (.frz o (.tup ys)) from I.hok a _ ha);rw[hx] at ho';cases ho';obtain⟨prs,hpi,k⟩:=zLE I.hok hp rv;have hkl:prs.length<=sizeLine:=by rw[←k.length];exact zAw hl
 have hm:(zA5 [] kvs).length<=sizeLine:=by
  have:=zCU kvs [];rw[List.length_nil] at this;exact zAw 65
 refine zEk (knd:=zAi X.prog X.w) (I.ok.hd hc) hx hcl hdat hdn (by simpa using hpi) hkl λ h' tk kp d'=>?_;have hn:=I.hok.fresh (lQ s.heap.objs.size);refine⟨.ref s.heap.objs.size,_,I.laid (a:=s.heap.objs.size) (o:=.dK (zA5 [] kvs)) (t':=tk) kp (lQ _) (zHb hm (beq_eq_false_iff_ne.mpr (Ne.symm (lR I.big))) (k.merge .nil) d'),rfl,q _ hn⟩
end
theorem zCl:∀(more kvs:List 90) (k:Key),valV (zA5 kvs more) k=match valV more.reverse k with|some v=>some v|none=>valV kvs k
 |[],kvs,k=>rfl
 |p::more,kvs,k=>by
  show valV (zA5 (putK kvs p.1 p.2) more) k=_;rw[zCl more,zBc,List.reverse_cons];unfold valV;rw[List.find?_append];cases e:List.find? (λ kv:Key × V=>decide (kv.1=k)) more.reverse with
  |some z=>simp
  |none =>
   by_cases h:k=p.1
   ·simp[h]
   ·have h':¬p.1=k:=λ z=>h z.symm
    simp[h,h']
open PySem.W
section
variable {n:Nat}{r:Nat->Nat->Bool}
abbrev lt (r:Nat->Nat->Bool) (p:Array Nat) (i j:Nat):Bool:=r (p.getD i 0) (p.getD j 0)
end
end L2
namespace PySem
open PySem.Calls PyProof.Rows PySem.W L2
open AutoSeq1 (wpAny_loadPart')
end PySem
namespace L2
open PySem PySem.Spec PyProof.Rows PySem.W
end L2
namespace PySem
open AutoSeq1
set_option maxRecDepth 8000 in
theorem zFY (l:Addr) (items:Array Value) (n:Nat) (b:Addr) (items2:Array Value) (n2:Nat) (dd:Option Addr) (sl:Array (Option Value)) (hs0:¬(!items.isEmpty && Builtin.List.listTooLong (items.size+items2.size))=true) (hs1:items.size<=sizeLine) (hs2:items.size+items2.size<=sizeLine+1) :
  Meets (Builtin.«list.extend» ⟨[.ref l,.ref b],[]⟩) (λ Ω R s=>s.heap.get? l=some { cls:=.type "list", dict:=none,data:=.seq items n,slots:=#[] }/\s.heap.get? b=some { cls:=.type "tuple", dict:=dd,data:=.seq items2 n2,slots:=sl }/\R (.ok (.ret Value.none)) { s with heap:=s.heap.update l (Obj.mapSeq λ x=>x++items2),toks:=s.toks }) :=
 .of_wp λ prog w A R s h=>by
  obtain⟨hp,g,d,tk,os⟩:=s;obtain⟨hl,hb,h⟩:=h;have f1:=idx_int;have f2:=sub_tuple_tuple;have f3:=sub_list_list;have f4:=sub_tuple_list;have f5:=sub_list_tuple;have hz':(items++items2).size<=sizeLine+1:=by rw[Array.size_append];exact hs2
  wp_walk using (wpAny_updateSeq hl rfl (hz:=hs1) (_hz':=hz')),wpAny_loadPart' hl,wpAny_loadPart' hb
  exact⟨_,rfl,h⟩
end PySem
namespace L2
open PySem PySem.Spec PyProof.Rows
section
variable {X:Cx}
def zKL (K:W.Frag):V->List V->Hp->VK->Prop:=λ x vs H Q=>E4 λ l b xs zs=>A6 (x = .ref l) (vs=[.ref b]) (H l=some (.lst xs)) (SqT K H b zs) (xs.length+zs.length<=sizeLine) (Q .non (upd H l (.lst (xs++zs))))
theorem zIA:MtM X "list.extend" (zKL X.K):=by
 intro jP s σ H x vs v us Q I rx rv h;obtain⟨l,b,xs,zs,rfl,rfl,hH,hB,hz,q⟩:=h;cases rx;obtain⟨u,rfl,ru⟩:=rv.one;cases ru;obtain⟨z,its,n,r,hl,e⟩:=I.lstM hH;obtain⟨its2,r2,p2,z2⟩:=I.tuple hB;obtain⟨⟨cls,dd,data,sl⟩,e2,hc,n2,hd⟩:=id p2;simp only at hc hd;subst hc hd;have hl2:=r2.length;have hsz:its.toArray.size+its2.toArray.size<=sizeLine:=by rw[mG,mG];lia
 have hlong:¬(!its.toArray.isEmpty && Builtin.List.listTooLong (its.toArray.size+its2.toArray.size))=true:=by
  rw[zHP hsz,Bool.and_false];exact lW
 refine call_meets F.slot_list_extend ⟨_,e,rfl⟩ F.entry_list_extend (F.args_list_extend_2 _ _)
  (zFY l its.toArray n b its2.toArray n2 dd sl hlong (by rw[mG];lia) 65) ⟨e,e2,?_⟩
 refine⟨.non,_,I.lset (its':=its++its2) hH e 59 (r.append r2) ?_,rfl,q⟩;rw[mI]
 lia
theorem zC5:CallR X (.builtin "len") (λ xs H Q=>E2 λ a kvs=>A3 (xs=[V.ref a]) (Rd H a 92) (Q (.int kvs.length) H)):=by
 intro jP s σ H xs us Q I r h;obtain⟨a,kvs,rfl,ha,q⟩:=h;obtain⟨u,rfl,ru⟩:=vals1 r;cases ru;exact d_len I ha λ t s' I'=>⟨.int kvs.length,H,I',⟨t,rfl⟩,q⟩
def tTupF (t:TA):TE:=λ σ H Q=>t σ H λ xs H1=>xs.length<=sizeLine/\∀(p:Addr) (o:Obj),H1 p=none->o.dict=none->Q (.ref p) (upd H1 p (.frz o (.tup xs)))
theorem zFP {es:List Expr}{t:TA}{x1} {pos:Pos}(h:PA X es t):PE X (.Tuple es x1 pos) (tTupF t):=by
 intro jP s σ H Q I hq;refine wpAny_Tuple_spliced (thn (h pos jP s σ H _ I hq) λ us s1 ⟨xs,H1,I1,r,z,q⟩=>⟨by rw[←r.length];exact z,?_⟩);have hf:H1 s1.heap.objs.size=none:=I1.hok.fresh (lQ _);refine⟨.ref s1.heap.objs.size,_,I1.laid (o:=.frz { cls:=.type "tuple", data:=.seq us.toArray } (.tup xs)) (t':=s1.toks) (λ b u e=>lE _ e) (lQ _) ?_,rfl,q _ _ hf rfl⟩;exact⟨lG _ rfl,z,us,r,⟨_,lG _ rfl,rfl,_,rfl⟩⟩
theorem zIs (hu:X.A.units+1<cLine):OpR X (compareOp .NotIn) (λ x y H Q=>E2 λ(a:Addr) (o:Option V)=>A3 (y = .ref a) (DGet H a x o) (Q (.bl (!o.isSome)) H)):=by
 intro jP s σ H x y v u Q I rx ry h;obtain⟨a,o,rfl,g,q⟩:=h;cases ry;exact zMA hu I g rx λ s' I'=>⟨.bl (!o.isSome),H,I',rfl,q⟩
end
end L2
namespace PySem.W
open PySem PySem.Spec PySem.Calls PyProof.Rows
end PySem.W
namespace L2
open PySem PySem.Spec PyProof.Rows
end L2
namespace PySem.W
open PySem PySem.Spec PySem.Calls PyProof.Rows
end PySem.W
namespace L2
open PySem PySem.Spec PyProof.Rows
abbrev HR:=Ends->Addr->St->Hp->Prop
noncomputable def ov (H N:Hp):Hp:=λ a=>(N a).or (H a)
theorem Inv.thaw {X:Cx}{jP:List 71}{σ:L2.St}{H:Hp}{s:Shared}{a:Addr}{o:Obj}{kvs:List 90}(I:Inv X jP σ H s) (ha:H a=some (.frz o 92)) (h0:∀o u,X.H₀ a≠some (.frz o u)):Inv X jP σ (upd H a 92) s:=by
 refine⟨I.ok,I.os,I.bare,⟨I.base.keep,I.base.slot,λ b ob e n hx=>?_,I.base.there,λ b xs e=>?_,λ b ob u e=>?_,λ b ps e=>?_⟩,I.loc,I.cell,?_,λ x c e=>?_,λ p hp=>?_,λ b u e=>?_,I.len⟩
 ·have:=I.base.free b ob e n hx
  rw[zAR (λ z=>by subst z;rw[this] at ha;cases ha)];exact this
 ·have:=I.base.tups b xs e
  rw[zAR (λ z=>by subst z;rw[this] at ha;cases ha)];exact this
 ·have:=I.base.frzs b ob u e
  rw[zAR (λ z=>by subst z;exact h0 _ _ e)];exact this
 ·obtain⟨m,e1⟩:=I.base.tbls b ps e
  refine⟨m,?_⟩;rw[zAR (λ z=>by subst z;rw[e1] at ha;cases ha)];exact e1
 ·have:=I.free
  rw[zAR (λ z=>by rw[z,ha] at this;cases this)];exact this
 ·have:=I.freeC x c e
  rw[zAR (λ z=>by rw[z,ha] at this;cases this)];exact this
 ·obtain⟨p1,p2,p3⟩:=I.pin p hp
  refine⟨p1,?_,p3⟩;rw[zAR (λ z=>by rw[z,ha] at p2;cases p2)];exact p2
 ·by_cases hb:b=a
  ·subst hb
   rw[zAB] at e;cases e;obtain⟨_,q⟩:=(show ObjOk X.prog X.w H s.heap b (.frz o 92) from I.hok b _ ha);exact q
  ·rw[zAR hb] at e
   refine(I.hok b u e).stay (λ c v Ω r=>r) (λ c r=>?_) λ c xs r=>?_
   ·rw[zAR (λ z=>by subst z;rw[r] at ha;cases ha)];exact r
   ·rw[zAR (λ z=>by subst z;rw[r] at ha;cases ha)];exact r
def tThaw (H0:Hp) (te:TE):TE:=λ σ H Q=>te σ H λ v H1=>∃a o kvs,H1 a=some (.frz o 92)/\(∀o u,H0 a≠some (.frz o u))/\Q v (upd H1 a 92)
theorem zIp {X:Cx}{e:Expr}{te:TE}(he:PE X e te):PE X e (tThaw X.H₀ te):=by
 intro jP s σ H Q I h;refine thn (he jP s σ H _ I h) λ v s1 ⟨x,H1,I1,r1,q1⟩=>?_;obtain⟨a,o,kvs,ha,h0,q⟩:=q1;exact⟨x,_,I1.thaw ha h0,r1,q⟩
noncomputable def Its (x:Str):It:=⟨λ i Ω=>i<x.cps.size,λ i H v H'=>H'=H/\∃c,x.cps[i]?=some c/\v = .str ⟨#[c]⟩,λ i Ω=>x.cps.size<=i⟩
def TyS (ty:String):Prop:=ty = "str_ascii_iterator" \/ ty = "str_iterator"
theorem zG6 {P:Program}{w:World}{K:W.Frag}{tg:Expr}(x:Str) (t:Tok) (it:Addr):Turn P w K tg (Its x) [it] it (λ i h=>∃ty,TyS ty/\h.IsStrIter it ty x t i) where
 mem:=by simp
 obj:=λ i h st b hb=>by
  have e:b=it:=by simpa using hb
  subst e;obtain⟨_,_,o,e,c,d⟩:=st;exact⟨o,e,λ v z=>by rw[d] at z;cases z⟩
 keep:=λ i h h' st k=>by
  obtain⟨ty,ht,o,e,r⟩:=st;exact⟨ty,ht,o,k it 59 o e,r⟩
 item:=by
  intro X hP hw hK hc i jP s σ H E I hf st hg;subst hP hw hK;obtain⟨ty,ht,st⟩:=st;have hi:i<x.cps.size:=hg;have hx:x.cps[i]?=some x.cps[i]:=by simp[hi]
  obtain⟨f0,f1,f2,f3,f4,f5⟩:=hf it 59
  have fin:∀h',h'.IsStrIter it ty x t (i+1)->Heap.SameBut it s.heap h'->∃u,some (Value.str ⟨#[x.cps[i]]⟩ s.toks)=some u /\
   wpAny 67 X.A (letOwnedTupleGo tg (.ref it) u) (λ Ω s2=>∃y H',Inv X jP σ H' s2/\RelV y u/\(Its x).yld i H y H'/\(∃ty,TyS ty/\s2.heap.IsStrIter it ty x t (i+1))/\∀b∈[it],H' b=none) E { s with heap:=h',toks:=s.toks+1 }:=by
   intro h' st' sb;have I1:Inv X jP σ H { s with heap:=h',toks:=s.toks+1 }:=I.turned (t':=s.toks+1) (λ b o hb e=>(sb.2 b hb).trans e) f0 f1 f3 f4 f5;obtain⟨o,e,c,d⟩:=id st';refine⟨_,rfl,go_of (s:={ s with heap:=h',toks:=s.toks+1 }) e c d (by rcases ht with z|z<;>subst z<;>decide) ⟨.str ⟨#[x.cps[i]]⟩,H,I1,72,⟨rfl,_,hx,rfl⟩,⟨ty,ht,st'⟩,λ b hb=>(hf b hb).1⟩⟩
  rcases id ht with z|z
  ·subst z
   exact wpAny_pyNext_ascii_item st hx fin
  ·subst z
   exact wpAny_pyNext_wide_item st hx fin
 done:=by
  intro X hP hw hK hc i jP s σ H E I hf st hg;subst hP hw hK;obtain⟨ty,ht,st⟩:=st;have hx:x.cps[i]?=none:=Array.getElem?_eq_none (show x.cps.size<=i from hg);obtain⟨f0,f1,f2,f3,f4,f5⟩:=hf it 59;rcases id ht with z|z
  ·subst z
   exact wpAny_pyNext_ascii_end (I.ok.hd hc) st hx λ h' eb=>86
  ·subst z
   exact wpAny_pyNext_wide_end (I.ok.hd hc) st hx λ h' eb=>86
 self:=λ Ω Ω Ω Ω Ω st h=>by
  obtain⟨ty,ht,st⟩:=st;rcases id ht with z|z
  ·subst z
   exact wpAny_pyIter_striter_ascii st h
  ·subst z
   exact wpAny_pyIter_striter_wide st h
def iStr (tl:TE):TI:=λ σ H R=>tl σ H λ v H1=>∃x,v = .str x/\R (Its x) H1
theorem zMZ {X:Cx}{tg l:Expr}{tl:TE}(hl:PE X l tl):PI X tg l (iStr tl):=by
 intro jP s σ H R I h;refine thn (hl jP s σ H _ I h) λ v s1 ⟨y,H1,I1,r1,q1⟩=>?_;obtain⟨x,e,q⟩:=q1;subst e;obtain⟨t,rfl⟩:=r1
 have fp:∀b∈[s1.heap.objs.size],FpOk X jP H1 b:=λ b hb=>by
  have e:b=s1.heap.objs.size:=by simpa using hb
  subst e;exact I1.fpOk (lQ _) (I1.hok.fresh (lQ _))
 cases ha:x.cps.all (· < 128)
 ·refine wpAny_pyIter_wide ha ?_
  exact⟨s1.heap.objs.size,[s1.heap.objs.size],_,_,H1,rfl,I1.kept (t':=s1.toks) λ b o e=>lE _ e,zG6 x t _,⟨_,.inr rfl,_,lG _ rfl,rfl,rfl⟩,fp,q⟩
 ·refine wpAny_pyIter_ascii ha ?_
  exact⟨s1.heap.objs.size,[s1.heap.objs.size],_,_,H1,rfl,I1.kept (t':=s1.toks) λ b o e=>lE _ e,zG6 x t _,⟨_,.inl rfl,_,lG _ rfl,rfl,rfl⟩,fp,q⟩
noncomputable def viewO (p d:Addr):HO:=.ext λ h=>h.IsValuesView p d
theorem zJD {X:Cx}:MtR X "dict.values" (λ v vs H Q=>E2 λ(d:Addr) (kvs:List (Key × V))=>A4 (v = .ref d) (vs=[]) (H d=some 92) (∀p,H p=none->Q (.ref p) (upd H p (viewO p d)))):=by
 intro jP s σ H x xs v us Q I rx r h;obtain⟨d,kvs,rfl,rfl,hd,q⟩:=h;cases rx;cases r;obtain⟨z,sy,vs,rv,D⟩:=dk_of I.hok hd;refine call_meetsIn PySem.F.slot_dict_values D.typeIs PySem.F.entry_dict_values (PySem.F.args_dict_values_1 _) (meets_dict_values (zAi X.prog X.w) d sy) ⟨⟨vs,D⟩,?_⟩;refine⟨.ref s.heap.objs.size,_,I.laid (t':=s.toks) (o:=viewO s.heap.objs.size d) (λ b u e=>lE _ e) (lQ _) ?_,rfl,q _ (I.hok.fresh (lQ _))⟩;refine⟨⟨_,lG _ rfl,rfl,rfl⟩,⟨_,lG _ rfl⟩,λ h1 h2 ⟨o,e,r⟩ k=>⟨o,k o e,r⟩⟩
theorem zJI:∀{kvs:List 90}{vs:List (Key × Value)}{i:Nat}{p:Key × V},KV kvs vs->kvs[i]?=some p->∃v,vs[i]?=some (p.1,v)/\RelV p.2 v
 |_,_,_,_,.nil,e=>by simp at e
 |_,_,0,p,@Paired.cons _ _ _ a b _ _ r _,e=>by
  have e':a=p:=by simpa using e
  subst e';exact⟨b.2,by rw[r.1];rfl,r.2⟩
 |_,_,i+1,p,.cons _ t,e=>by
  obtain⟨v,h,r⟩:=zJI (i:=i) (p:=p) t (by simpa using e);exact⟨v,by simpa using h,r⟩
noncomputable def Itva (o:Obj) (a:Addr) (kvs:List 90):It :=
 ⟨λ i H=>H a=some (.frz o 92)/\i<kvs.length,λ i H x H'=>H'=H/\∃p,kvs[i]?=some p/\x=p.2,λ i H=>H a=some (.frz o 92)/\kvs.length<=i⟩
theorem zIR {P:Program}{w:World}{K:W.Frag}{tg:Expr}(a it:Addr) (o:Obj) (kvs:List 90):Turn P w K tg (Itva o a kvs) [it] it (λ i h=>E2 λ es ep=>o.data = .dict es ep/\h.IsValIter it a i kvs.length ep) where
 mem:=by simp
 obj:=λ i h st b hb=>by
  have e:b=it:=by simpa using hb
  subst e;obtain⟨_,_,_,ob,e,c,d⟩:=st;exact⟨ob,e,λ v z=>by rw[d] at z;cases z⟩
 keep:=λ i h h' st k=>by
  obtain⟨es,ep,hd,ob,e,r⟩:=st;exact⟨es,ep,hd,ob,k it 59 ob e,r⟩
 item:=by
  intro X hP hw hK hc i jP s σ H E I hf st hg;subst hP hw hK;obtain⟨ha,hi⟩:=hg;obtain⟨es,ep,hd,hit⟩:=st;obtain⟨vs,r,hl,hm⟩:=zHY I ha hd;obtain⟨u,hv,ru⟩:=zJI r (lV hi);obtain⟨f0,f1,f2,f3,f4,f5⟩:=hf it 59;rw[hl] at hit;refine wpAny_pyNext_values_item hit hm hv λ h' hit' sb=>?_;have I1:Inv X jP σ H { s with heap:=h' }:=I.turned (t':=s.toks) (λ b o hb e=>(sb.2 b hb).trans e) f0 f1 f3 f4 f5;obtain⟨ob,e,c,d⟩:=id hit';rw[←hl] at hit';exact⟨_,rfl,go_of (s:={ s with heap:=h' }) e c d 66 ⟨_,H,I1,ru,⟨rfl,_,lV hi,rfl⟩,⟨es,ep,hd,hit'⟩,λ b hb=>(hf b hb).1⟩⟩
 done:=by
  intro X hP hw hK hc i jP s σ H E I hf st hg;subst hP hw hK;obtain⟨ha,hi⟩:=hg;obtain⟨es,ep,hd,hit⟩:=st;obtain⟨vs,r,hl,hm⟩:=zHY I ha hd;obtain⟨f0,f1,f2,f3,f4,f5⟩:=hf it 59;rw[hl] at hit;exact wpAny_pyNext_values_end (I.ok.hd hc) hit hm (List.getElem?_eq_none 65) λ h' eb=>86
 self:=λ A i s Q E st h=>by
  obtain⟨es,ep,hd,hit⟩:=st;exact wpAny_pyIter_valiter hit h
def iVals (tl:TE):TI:=λ σ H R=>tl σ H λ x H1=>∃p a kvs,x = .ref p/\H1 p=some (viewO p a)/\H1 a=some 92/\∀o,R (Itva o a kvs) (upd H1 a (.frz o 92))
theorem zLn {X:Cx}{tg l:Expr}{tl:TE}(hl:PE X l tl):PI X tg l (iVals tl):=by
 intro jP s σ H R I h;refine thn (hl jP s σ H _ I h) λ v s1 ⟨x,H1,I1,r1,q1⟩=>?_;obtain⟨p,a,kvs,e,hp,ha,q⟩:=q1;subst e;cases r1;obtain⟨vw,_⟩:=(show ObjOk X.prog X.w H1 s1.heap p (viewO p a) from I1.hok p _ hp);obtain⟨z,sy,vs,r,o,es',ep',e,c1,d1,rest⟩:=(show ObjOk X.prog X.w H1 s1.heap a 92 from I1.hok a _ ha);refine wpAny_pyIter_values (knd:=zAi X.prog X.w) (kvs:=vs) (ep:=ep') vw ⟨o,es',e,c1,d1,rest⟩ ?_;have lt:=lH e;refine⟨s1.heap.objs.size,[s1.heap.objs.size],_,_,upd H1 a (.frz o 92),rfl,I1.write (t':=s1.toks) (x:=a) (e:=a) (by rw[ha];exact True.intro) (.inl rfl) (λ b o Ω e=>lE _ e) ⟨o,lE _ e⟩ ?_,zIR a _ o kvs,⟨es',ep',d1,_,lG _ rfl,rfl,by rw[Paired.length r];rfl⟩,λ b hb=>?_,q o⟩
 ·exact⟨lE _ e,z,sy,vs,r,o,es',ep',lE _ e,c1,d1,rest⟩
 ·have e:b=s1.heap.objs.size:=by simpa using hb
  subst e;exact I1.fpOk (lQ _) (by rw[zAR (Nat.ne_of_gt lt)];exact I1.hok.fresh (lQ _))
theorem zKy {o:Obj}{a:Addr}{kvs:List 90}{g:TG}{tb:TS}{D:Ends}{σ:L2.St}{H:Hp}(Pv:Nat->L2.St->Hp->Prop) (h0:Pv 0 σ H) (hl:∀i σ H,i<=kvs.length->Pv i σ H->H a=some (.frz o 92))
  (hs:∀i p σ H,kvs[i]?=some p->Pv i σ H->g p.2 σ H λ σ2 H2=>tb { D with nx:=Pv (i+1),ct:=Pv (i+1),bk:=D.nx } σ2 H2) (hd:∀σ H,Pv kvs.length σ H->D.nx σ H) :
  ∃W:Nat->Nat->L2.St->Hp->Prop,(∃m,W 0 m σ H)/\∀i m σ H,W i m σ H ->
   ((Itva o a kvs).stop i H/\D.nx σ H)\/((Itva o a kvs).go i H/\∃N:L2.St->Hp->Prop,75/\∀x H',(Itva o a kvs).yld i H x H'->g x σ H' λ σ2 H2=>tb { D with nx:=N,ct:=N,bk:=D.nx } σ2 H2):=by
 refine⟨λ i m σ H=>m=kvs.length - i/\i<=kvs.length/\Pv i σ H,⟨kvs.length,by simp,lX _,h0⟩,?_⟩;rintro i m σ H ⟨rfl,hi,p⟩;have q:=hl i σ H hi p
 by_cases hlt:i<kvs.length
 ·refine .inr ⟨⟨q,hlt⟩,Pv (i+1),λ σ' H' p'=>⟨kvs.length - (i+1),by lia,rfl,hlt,p'⟩,λ x H' y=>?_⟩
  obtain⟨e,p',hp',ex⟩:=y;subst e ex;exact hs i p' σ _ hp' p
 ·have e:i=kvs.length:=by lia
  subst e;exact .inl ⟨⟨q,lQ _⟩,hd σ H p⟩
section
variable {X:Cx}{o e:Expr}{es:List Expr}{te to:TE}{t:TA}{name x:Str}{apos cpos pos p:Pos}{T id:String}
theorem zKM (he:Sd (PE X e te)) (hs:swapsWith e none pos.line X.env=pure false:=by rfl):Sd (PS X (.Expr e pos) (tDrop te)):=⟨zES he.un hs⟩
theorem zBq {r:List V->Hp->VK->Prop}(hc:CallR X (.type T) r) (hg:Gl X x) (hm:X.mg x=none) (hv:bootBuiltins x=some (.type T)) (ha:Sd (PA X (e::es) t)) (hn:x ≠ "__name__" := by decide) (hdb:(x == ("__debug__" : Str))=false:=by decide)
  (he:starEach (e::es) X.env=(false,eval e X.env)::starEach es X.env:=by rfl) (hpl:(backTo pos (starEach es X.env)).any (·.1)=false:=by rfl):Sd (PE X (.Call (.Name x p) (e::es) [] pos) (tCB r t)):=⟨zBK hc hg hm hv ha.un hn hdb he hpl⟩
end
instance instDecDt:DecidableEq Dt:=λ a b=>decidable_of_iff (Dt.beq a b=true) Dt.beq_iff
noncomputable def lookB (x:Str):List Str->Option Nat
 |[]=>none
 |y::r=>if y=x then some 0 else (lookB x r).map (· + 1)
noncomputable def keyB (x:Str) (rs:List Str):Nat ⊕ Str:=match lookB x rs with
 |some k=>.inl k
 |none=>.inr x
noncomputable def keyD:Nat ⊕ Str->Dt
 |.inl k=>.tup [.str "bound", .int k]
 |.inr z=>.tup [.str "free", .str z]
theorem zHV {a b:Nat ⊕ Str}:keyD a=keyD b↔a=b:=by
 constructor
 ·intro h
  cases a with
  |inl k=>cases b with
   |inl m=>injection h with h;injection h with _ h;injection h with h _;injection h with h;rw[Int.ofNat.inj h]
   |inr m=>injection h with h;injection h with h _;injection h with h;exact absurd h 80
  |inr k=>cases b with
   |inl m=>injection h with h;injection h with h _;injection h with h;exact absurd h 80
   |inr m=>injection h with h;injection h with _ h;injection h with h _;injection h with h;rw[h]
 ·rintro rfl;rfl
noncomputable def bareN (x:Str) (bs:List Str):Dt:=keyD (keyB x bs.reverse)
noncomputable def zE3:Nat ⊕ Str->Nat ⊕ Str
 |.inl k=>.inl (k+1)
 |.inr z=>.inr z
theorem zE2 {a b:Nat ⊕ Str}:zE3 a=zE3 b↔a=b:=by
 cases a<;>cases b<;>simp[zE3]
set_option tactic.hygienic true in
theorem zDc (x y:Str) (r:List Str):keyB x (y::r)=if y=x then .inl 0 else zE3 (keyB x r):=by
 unfold keyB;rw[lookB];split
 ·rename_i h;split at h
  ·cases h;simp[*]
  ·rename_i h2
   rw[if_neg h2];cases e:lookB x r with
   |none=>rw[e] at h;cases h
   |some k=>rw[e] at h;simp at h;subst h;rfl
 ·rename_i h;split at h
  ·cases h
  ·rename_i h2
   rw[if_neg h2];cases e:lookB x r with
   |none=>rfl
   |some k=>rw[e] at h;cases h
noncomputable def sn (x y:Str):List 70->Bool
 |[]=>decide (x=y)
 |p::r=>if p.1=x\/p.2=y then decide (p.1=x/\p.2=y) else sn x y r
theorem zLD (x y:Str):∀rs:List 70,sn x y rs=decide (keyB x (rs.map Prod.fst)=keyB y (rs.map Prod.snd))
 |[]=>by simp[sn,keyB,lookB]
 |p::r=>by
  rw[sn,mJ,mJ,zDc,zDc,zLD x y r]
  by_cases h1:p.1=x<;>by_cases h2:p.2=y
  ·simp[h1,h2]
  ·rw[if_pos (.inl h1),if_pos h1,if_neg h2]
   cases keyB y (r.map Prod.snd)<;>simp[h2,zE3]
  ·rw[if_pos (.inr h2),if_neg h1,if_pos h2]
   cases keyB x (r.map Prod.fst)<;>simp[h1,zE3]
  ·rw[if_neg (by simp[h1,h2]),if_neg h1,if_neg h2]
   simp[zE2]
theorem zIb (x y:Str) (ps:List 70):sn x y ps.reverse=decide (bareN x (ps.map Prod.fst)=bareN y (ps.map Prod.snd)):=by
 rw[zLD];unfold bareN;simp only[zHV,List.map_reverse]
inductive Lf where
 |name (x:Str)|num (n:Int)|gap (g:Str)|ask (x:Str)|stop (x:Str)
noncomputable def dtL:Lf->List Dt
 |.name x=>[.str "name", .str x]|.num n=>[.str "num", .int n]|.gap g=>[.str "gap", .str g,.tup []]|.ask x=>[.str "ask", .str x]|.stop x=>[.str "stop", .str x]
noncomputable def Lf.isName:Lf->Bool
 |.name _=>true
 |_=>false
noncomputable def bareL (l:Lf) (bs:List Str):Dt:=match l with
 |.name x=>bareN x bs
 |l=>.tup (dtL l)
theorem zGN (x:Str) (bs:List Str):∃s r,bareN x bs = .tup (.str s::r)/\(s = "bound" \/ s = "free"):=by
 unfold bareN;cases keyB x bs.reverse with
 |inl k=>exact⟨_,_,rfl,.inl rfl⟩
 |inr k=>exact⟨_,_,rfl,.inr rfl⟩
theorem zK7 {l m:Lf}{bs cs:List Str}(h:¬(l.isName=true/\m.isName=true)):Dt.beqs (dtL l) (dtL m)=decide (bareL l bs=bareL m cs):=by
  have ne:∀(x:Str) (bs:List Str) (s:Str) (r:List Dt),s ≠ "bound" -> s ≠ "free" -> bareN x bs ≠ .tup (.str s::r):=by
    intro x bs s r h1 h2 e;obtain⟨s',r',e',hs⟩:=zGN x bs;rw[e'] at e;injection e with e
    injection e with e _
    injection e with e
    subst e;rcases hs with z|z
    · exact h1 z
    · exact h2 z
  rw[Bool.eq_iff_iff,Dt.beqs_iff,decide_eq_true_iff]
  cases l<;>cases m<;>simp[dtL,bareL,Lf.isName] at h ⊢<;>first
    | (refine⟨λ q=>absurd q 80,λ q=>absurd q (ne _ _ _ _ 80 80)⟩)
    | (refine⟨λ q=>absurd q 80,λ q=>absurd q.symm (ne _ _ _ _ 80 80)⟩)
    | (refine⟨λ q=>absurd q.1 80,λ q=>absurd q (ne _ _ _ _ 80 80)⟩)
    | (refine⟨λ q=>absurd q.1 80,λ q=>absurd q.symm (ne _ _ _ _ 80 80)⟩)
    |exact ne _ _ _ _ (by right) (by right)
    |exact λ q=>ne _ _ _ _ 80 80 q.symm
    |skip
def LfRep (H:Hp):Lf->V->Prop
 |.name x,v=>∃a,v = .ref a/\H a=some (.tup [.str "name", .str x])
 |.num n,v=>∃a,v = .ref a/\H a=some (.tup [.str "num", .int n])
 |.gap g,v=>∃a b,v = .ref a/\H a=some (.tup [.str "gap", .str g,.ref b])/\H b=some (.tup [])
 |.ask x,v=>∃a,v = .ref a/\H a=some (.tup [.str "ask", .str x])
 |.stop x,v=>∃a,v = .ref a/\H a=some (.tup [.str "stop", .str x])
theorem LfRep.dr {H:Hp}:∀{l:Lf}{v:V},LfRep H l v->DR H (.tup (dtL l)) v
 |.name _,_,⟨_,rfl,h⟩=>.tup h 94
 |.num _,_,⟨_,rfl,h⟩=>.tup h (.cons (.str _) (.cons (.int _) .nil))
 |.gap _,_,⟨_,_,rfl,h,h'⟩=>.tup h (.cons (.str _) (.cons (.str _) (.cons (.tup h' .nil) .nil)))
 |.ask _,_,⟨_,rfl,h⟩=>.tup h 94
 |.stop _,_,⟨_,rfl,h⟩=>.tup h 94
noncomputable def Atom.lf:Atom->Lf
 |.name x=>.name x|.num n=>.num n|.gap g=>.gap g
theorem AtRep.lf {H:Hp}:∀{a:Atom}{v:V},AtRep H a v->LfRep H a.lf v
 |.name _,_,h=>h
 |.num _,_,h=>h
 |.gap _,_,h=>h
noncomputable def bareA (bs:List Str) (a:Atom):Dt:=bareL a.lf bs
noncomputable def bare:Tr->List Str->Dt
 |.num n,_=>.tup [.str "num", .int n]
 |.name x,bs=>bareN x bs
 |.ask x,_=>.tup [.str "ask", .str x]
 |.stop x,_=>.tup [.str "stop", .str x]
 |.gap g as,bs=>.tup [.str "gap", .str g,.tup (as.map (bareA bs))]
 |.say a,bs=>.tup [.str "say", bare a bs]
 |.bin o a b,bs=>.tup [.str o.s,bare a bs,bare b bs]
 |.ite a b c,bs=>.tup [.str "if", bare a bs,bare b bs,bare c bs]
 |.lett x a b,bs=>.tup [.str "let", bare a bs,bare b (bs++[x])]
theorem zHi:∀(t:Tr) (bs:List Str),∃s r,bare t bs = .tup (.str s::r)/\((t.kd = .name/\(s = "bound" \/ s = "free"))\/(t.kd ≠ .name/\s=t.kd.s))
 |.num n,bs=>88
 |.name x,bs=>by
  obtain⟨s,r,e,h⟩:=zGN x bs;exact⟨s,r,e,.inl ⟨rfl,h⟩⟩
 |.ask n,bs=>88
 |.stop n,bs=>88
 |.gap n _,bs=>88
 |.say n,bs=>88
 |.bin o a b,bs=>⟨_,_,rfl,.inr ⟨by cases o<;>nofun,(Bin.kd_s o).symm⟩⟩
 |.ite _ _ _,bs=>88
 |.lett _ _ _,bs=>88
theorem zCX {t u:Tr}{bs cs:List Str}(h:bare t bs=bare u cs):t.kd=u.kd:=by
 obtain⟨s,r,e,h1⟩:=zHi t bs;obtain⟨s',r',e',h2⟩:=zHi u cs;rw[e,e'] at h;injection h with h
 injection h with h _
 injection h with h
 subst h;have no:∀k:Kd,¬(k.s = "bound" \/ k.s = "free"):=by intro k;cases k<;>right
 rcases h1 with ⟨k1,z1⟩|⟨k1,z1⟩<;>rcases h2 with ⟨k2,z2⟩|⟨k2,z2⟩
 ·rw[k1,k2]
 ·rw[z2] at z1;exact absurd z1 (no _)
 ·rw[z1] at z2;exact absurd z2 (no _)
 ·exact Kd.inj (z1.symm.trans z2)
abbrev Trip:=Tr × Tr × List 70
def Alk (q:Trip):Prop:=bare q.1 (q.2.2.map Prod.fst)=bare q.2.1 (q.2.2.map Prod.snd)
noncomputable def pIn (t u:Tr) (i:Int) (ps:List 70):List 70:=match t,u with
 |.lett x _ _,.lett y _ _=>if i=1 then ps++[(x,y)] else ps
 |_,_=>ps
noncomputable def kids2:Tr->Tr->List 70->List Trip
 |.say a,.say a',ps=>[(a,a',ps)]
 |.bin _ a b,.bin _ a' b',ps=>[(a,a',ps),(b,b',ps)]
 |.ite a b c,.ite a' b' c',ps=>[(a,a',ps),(b,b',ps),(c,c',ps)]
 |.lett x a b,.lett y a' b',ps=>[(a,a',ps),(b,b',ps++[(x,y)])]
 |_,_,_=>[]
noncomputable def hdG (t u:Tr) (ps:List 70):Bool:=match t,u with
 |.gap g as,.gap g' bs=>decide (g=g') && decide (as.map (bareA (ps.map Prod.fst))=bs.map (bareA (ps.map Prod.snd)))
 |t,u=>if t.kd.leaf then decide (bare t (ps.map Prod.fst)=bare u (ps.map Prod.snd)) else true
noncomputable def hdA (t u:Tr) (ps:List 70):Bool:=decide (t.kd=u.kd) && hdG t u ps
def KdS (u:Tr) (k:Kd):Prop:=Kd.casesOn (motive:=λ Ω=>Prop) k (∃m,u = .num m) (∃m,u = .name m) (∃m,u = .ask m) (∃m,u = .stop m) (∃g as,u = .gap g as) (∃a,u = .say a) (∃a b,u = .bin .add a b) (∃a b,u = .bin .sub a b) (∃a b,u = .bin .mul a b) (∃a b,u = .bin .thn a b) (∃a b c,u = .ite a b c) (∃x a b,u = .lett x a b)
theorem of_kd (u:Tr):KdS u u.kd:=by
 cases u with
 |gap g as=>exact⟨_,_,rfl⟩
 |bin o a b=>cases o<;>exact⟨_,_,rfl⟩
 |ite a b c=>exact⟨_,_,_,rfl⟩
 |lett x a b=>exact⟨_,_,_,rfl⟩
 |_=>exact⟨_,rfl⟩
theorem kdS {u:Tr}{k:Kd}(z:u.kd=k):KdS u k:=z▸of_kd u
theorem zBz {t u:Tr}(hk:t.kd=u.kd):(∃n m,t = .num n/\u = .num m)\/(∃n m,t = .name n/\u = .name m)\/(∃n m,t = .ask n/\u = .ask m)\/(∃n m,t = .stop n/\u = .stop m)\/(∃g as g' as',t = .gap g as/\u = .gap g' as') \/
  (∃a a',t = .say a/\u = .say a')\/(∃o a b a' b',t = .bin o a b/\u = .bin o a' b')\/(∃a b c a' b' c',t = .ite a b c/\u = .ite a' b' c')\/(∃x a b y a' b',t = .lett x a b/\u = .lett y a' b'):=by
 have h:=of_kd u;rw[←hk] at h;clear hk;cases t with
 |num n=>obtain⟨m,h⟩:=h;exact .inl ⟨_,_,rfl,h⟩
 |name n=>obtain⟨m,h⟩:=h;exact .inr (.inl ⟨_,_,rfl,h⟩)
 |ask n=>obtain⟨m,h⟩:=h;exact .inr (.inr (.inl ⟨_,_,rfl,h⟩))
 |stop n=>obtain⟨m,h⟩:=h;exact .inr (.inr (.inr (.inl ⟨_,_,rfl,h⟩)))
 |gap n as=>obtain⟨m,bs,h⟩:=h;exact .inr (.inr (.inr (.inr (.inl ⟨_,_,_,_,rfl,h⟩))))
 |say n=>obtain⟨m,h⟩:=h;exact .inr (.inr (.inr (.inr (.inr (.inl ⟨_,_,rfl,h⟩)))))
 |bin o a b =>
  have h:∃a' b',u = .bin o a' b':=by cases o<;>exact h
  obtain⟨a',b',h⟩:=h;exact .inr (.inr (.inr (.inr (.inr (.inr (.inl ⟨_,_,_,_,_,rfl,h⟩))))))
 |ite a b c=>obtain⟨a',b',c',h⟩:=h;exact .inr (.inr (.inr (.inr (.inr (.inr (.inr (.inl ⟨_,_,_,_,_,_,rfl,h⟩)))))))
 |lett x a b=>obtain⟨a',b',c',h⟩:=h;exact .inr (.inr (.inr (.inr (.inr (.inr (.inr (.inr ⟨_,_,_,_,_,_,rfl,h⟩)))))))
theorem zG0 (t u:Tr) (ps:List 70):Alk (t,u,ps)↔hdA t u ps=true/\∀q∈kids2 t u ps,Alk q:=by
 by_cases hk:t.kd=u.kd
 ·unfold hdA
  rw[decide_eq_true hk,Bool.true_and];rcases zBz hk with ⟨n,m,rfl,rfl⟩|⟨n,m,rfl,rfl⟩|⟨n,m,rfl,rfl⟩|⟨n,m,rfl,rfl⟩|⟨g,as,g',as',rfl,rfl⟩|⟨a,a',rfl,rfl⟩|⟨o,a,b,a',b',rfl,rfl⟩|⟨a,b,c,a',b',c',rfl,rfl⟩|⟨x,a,b,y,a',b',rfl,rfl⟩
  ·simp[Alk,hdG,kids2,Tr.kd,Kd.leaf]
  ·simp[Alk,hdG,kids2,Tr.kd,Kd.leaf]
  ·simp[Alk,hdG,kids2,Tr.kd,Kd.leaf]
  ·simp[Alk,hdG,kids2,Tr.kd,Kd.leaf]
  ·simp[Alk,hdG,kids2,bare]
  ·simp[Alk,hdG,kids2,Tr.kd,Kd.leaf,bare]
  ·have hl:o.kd.leaf=false:=by cases o<;>rfl
   simp[Alk,hdG,kids2,Tr.kd,hl,bare]
  ·simp[Alk,hdG,kids2,Tr.kd,Kd.leaf,bare]
  ·simp[Alk,hdG,kids2,Tr.kd,Kd.leaf,bare]
 ·unfold hdA
  rw[decide_eq_false hk,Bool.false_and];exact⟨λ h=>absurd (zCX h) hk,λ h=>absurd h.1 66⟩
theorem zF7 {t u:Tr}{ps:List 70}(hk:t.kd=u.kd) {j:Nat}{a b:Tr}(h1:t.parts[j]?=some a) (h2:u.parts[j]?=some b):(kids2 t u ps)[j]?=some (a,b,pIn t u j ps):=by
 rcases zBz hk with ⟨n,m,rfl,rfl⟩|⟨n,m,rfl,rfl⟩|⟨n,m,rfl,rfl⟩|⟨n,m,rfl,rfl⟩|⟨g,as,g',as',rfl,rfl⟩|⟨a,a',rfl,rfl⟩|⟨o,a,b,a',b',rfl,rfl⟩|⟨a,b,c,a',b',c',rfl,rfl⟩|⟨x,a,b,y,a',b',rfl,rfl⟩
 ·cases h1
 ·cases h1
 ·cases h1
 ·cases h1
 ·cases h1
 ·match j,h1,h2 with
  |0,h1,h2=>cases h1;cases h2;rfl
  |j+1,h1,h2=>cases h1
 ·match j,h1,h2 with
  |0,h1,h2=>cases h1;cases h2;rfl
  |1,h1,h2=>cases h1;cases h2;rfl
  |j+2,h1,h2=>cases h1
 ·match j,h1,h2 with
  |0,h1,h2=>cases h1;cases h2;rfl
  |1,h1,h2=>cases h1;cases h2;rfl
  |2,h1,h2=>cases h1;cases h2;rfl
  |j+3,h1,h2=>cases h1
 ·match j,h1,h2 with
  |0,h1,h2=>cases h1;cases h2;rfl
  |1,h1,h2=>cases h1;cases h2;rfl
  |j+2,h1,h2=>cases h1
theorem zF6 {t u:Tr}{ps:List 70}(hk:t.kd=u.kd):(kids2 t u ps).length=t.parts.length/\t.parts.length=u.parts.length:=by
 rcases zBz hk with ⟨n,m,rfl,rfl⟩|⟨n,m,rfl,rfl⟩|⟨n,m,rfl,rfl⟩|⟨n,m,rfl,rfl⟩|⟨g,as,g',as',rfl,rfl⟩|⟨a,a',rfl,rfl⟩|⟨o,a,b,a',b',rfl,rfl⟩|⟨a,b,c,a',b',c',rfl,rfl⟩|⟨x,a,b,y,a',b',rfl,rfl⟩<;>exact⟨rfl,rfl⟩
noncomputable def tot2 (l:List Trip):Nat:=(l.map λ q=>q.1.size).sum
theorem zBZ (a b:List Trip):tot2 (a++b)=tot2 a+tot2 b:=by simp[tot2]
theorem zBt (q:Trip) (l:List Trip):tot2 (q::l)=q.1.size+tot2 l:=by simp[tot2]
theorem zAu:∀t:Tr,1<=t.size:=by intro t;cases t<;>simp[Tr.size]
theorem zEd {t u:Tr}{ps:List 70}(hk:t.kd=u.kd):tot2 (kids2 t u ps)+1=t.size:=by
 rcases zBz hk with ⟨n,m,rfl,rfl⟩|⟨n,m,rfl,rfl⟩|⟨n,m,rfl,rfl⟩|⟨n,m,rfl,rfl⟩|⟨g,as,g',as',rfl,rfl⟩|⟨a,a',rfl,rfl⟩|⟨o,a,b,a',b',rfl,rfl⟩|⟨a,b,c,a',b',c',rfl,rfl⟩|⟨x,a,b,y,a',b',rfl,rfl⟩ <;>
  simp only[kids2,tot2,Tr.size,mJ,List.map_nil,List.sum_cons,List.sum_nil]<;>lia
theorem zIE {t u:Tr}{ps:List 70}{n:Nat}(hk:t.kd=u.kd) (h:ps.length+t.size<=n):∀q∈kids2 t u ps,q.2.2.length+q.1.size<=n:=by
 intro q hq;rcases zBz hk with ⟨n,m,rfl,rfl⟩|⟨n,m,rfl,rfl⟩|⟨n,m,rfl,rfl⟩|⟨n,m,rfl,rfl⟩|⟨g,as,g',as',rfl,rfl⟩|⟨a,a',rfl,rfl⟩|⟨o,a,b,a',b',rfl,rfl⟩|⟨a,b,c,a',b',c',rfl,rfl⟩|⟨x,a,b,y,a',b',rfl,rfl⟩
 ·cases hq
 ·cases hq
 ·cases hq
 ·cases hq
 ·cases hq
 ·simp only[Tr.size] at h;simp[kids2] at hq;subst hq;dsimp only;lia
 ·have:=zAu a;have:=zAu b;simp only[Tr.size] at h;simp[kids2] at hq;rcases hq with rfl|rfl<;>dsimp only<;>lia
 ·simp only[Tr.size] at h;simp[kids2] at hq;rcases hq with rfl|rfl|rfl<;>dsimp only<;>lia
 ·have:=zAu a;simp only[Tr.size] at h;simp[kids2] at hq;rcases hq with rfl|rfl<;>simp<;>lia
noncomputable def Tr.fv:Tr->List Str->List Str
 |.say a,bs=>a.fv bs
 |.bin _ a b,bs=>a.fv bs++b.fv bs
 |.ite a b c,bs=>a.fv bs++(b.fv bs++c.fv bs)
 |.lett x a b,bs=>a.fv bs++b.fv (bs++[x])
 |t,bs=>t.names.filter λ x=>decide (x∉bs)
noncomputable def bIn (t:Tr) (i:Int) (bs:List Str):List Str:=match t with
 |.lett x _ _=>if i=1 then bs++[x] else bs
 |_=>bs
noncomputable def kids:Tr->List Str->List (Tr × List Str)
 |.say a,bs=>[(a,bs)]
 |.bin _ a b,bs=>[(a,bs),(b,bs)]
 |.ite a b c,bs=>[(a,bs),(b,bs),(c,bs)]
 |.lett x a b,bs=>[(a,bs),(b,bs++[x])]
 |_,_=>[]
theorem zKr (t:Tr) (bs:List Str):(kids t bs).length=t.parts.length:=by cases t<;>rfl
theorem zKs (t:Tr) (bs:List Str) (i:Nat) (c:Tr) (h:t.parts[i]?=some c):(kids t bs)[i]?=some (c,bIn t i bs):=by
 cases t with
 |say a=>match i,h with
  |0,h=>cases h;rfl
 |bin o a b=>match i,h with
  |0,h=>cases h;rfl
  |1,h=>cases h;rfl
 |ite a b c=>match i,h with
  |0,h=>cases h;rfl
  |1,h=>cases h;rfl
  |2,h=>cases h;rfl
 |lett x a b=>match i,h with
  |0,h=>cases h;rfl
  |1,h=>cases h;rfl
 |_=>simp[Tr.parts] at h
theorem zEc (t:Tr) (bs:List Str) (x:Str):x∈t.fv bs↔(x∈t.names/\x∉bs)\/∃q∈kids t bs,x∈q.1.fv q.2:=by
 cases t<;>simp[Tr.fv,kids,Tr.names,List.mem_filter]
noncomputable def total (l:List (Tr × List Str)):Nat:=(l.map λ q=>q.1.size).sum
theorem zCY (a b:List (Tr × List Str)):total (a++b)=total a+total b:=by simp[total]
theorem zDg (a:Tr × List Str) (b:List (Tr × List Str)):total (a::b)=a.1.size+total b:=by simp[total]
theorem zIU:total []=0:=rfl
theorem zHH (t:Tr):1<=t.size:=by cases t<;>simp[Tr.size]
theorem zEb:∀l:List (Tr × List Str),l.length<=total l
 |[]=>lQ _
 |a::r=>by rw[zDg,mK];have:=zEb r;have:=zHH a.1;lia
theorem zE8 (t:Tr) (bs:List Str):total (kids t bs)+1=t.size:=by cases t<;>simp[kids,total,Tr.size]<;>lia
theorem zJJ (t:Tr) (bs:List Str) (m:Nat) (h:bs.length+t.size<=m):∀q∈kids t bs,q.2.length+q.1.size<=m:=by
 cases t<;>simp[kids,Tr.size] at h ⊢<;>lia
noncomputable def kvOf (ks:List Str):List 90:=ks.map λ x=>(Sum.inr x,V.bl true)
noncomputable def addK (ks:List Str) (x:Str):List Str:=if x∈ks then ks else ks++[x]
theorem zD8 (ks:List Str) (x:Str):putK (kvOf ks) (Sum.inr x) (.bl true)=kvOf (addK ks x):=by
 unfold putK addK
 have e:((kvOf ks).any λ kv=>decide (kv.1=Sum.inr x))=decide (x∈ks):=by
  rw[Bool.eq_iff_iff,List.any_eq_true,decide_eq_true_iff];constructor
  ·rintro⟨p,hp,h⟩
   obtain⟨y,hy,rfl⟩:=mB.mp hp;have:(Sum.inr y:Key)=Sum.inr x:=lS h;cases this;exact hy
  ·intro h
   exact⟨_,mB.mpr ⟨x,h,rfl⟩,lT rfl⟩
 rw[e]
 by_cases h:x∈ks
 ·rw[if_pos (decide_eq_true h),if_pos h]
  unfold kvOf;rw[nO];refine List.map_congr_left λ y Ω=>?_;show (if (Sum.inr y:Key)=Sum.inr x then ((Sum.inr y:Key),V.bl true) else (Sum.inr y,V.bl true))=(Sum.inr y,V.bl true);split<;>rfl
 ·rw[if_neg (by simpa using h),if_neg h]
  simp[kvOf]
set_option tactic.hygienic true in
theorem zC6 {ks:List Str}{x:Str}(h:ks.Nodup):(addK ks x).Nodup:=by
 unfold addK;split
 ·exact h
 ·rename_i n
  rw[List.nodup_append];refine⟨h,by simp,λ a ha b hb e=>?_⟩;rw[mO.mp hb] at e;exact n (e▸ha)
set_option tactic.hygienic true in
theorem zA8 {ks:List Str}{x y:Str}:y∈addK ks x↔y∈ks\/y=x:=by
 unfold addK;split
 ·rename_i h
  constructor
  ·exact .inl
  ·rintro (z|z)
   ·exact z
   ·rw[z];exact h
 ·simp
theorem zKp (ks:List Str) (x:Str):(addK ks x).length<=ks.length+1:=by
 unfold addK;split<;>simp
theorem zBg:∀{ks ws:List Str},ks.Nodup->(∀x∈ks,x∈ws)->ks.length<=ws.length
 |[],_,_,_=>lX _
 |k::ks,ws,hn,h=>by
  have hk:=h k lO
  have h':∀x∈ks,x∈ws.erase k:=λ x hx=>by
   have ne:x≠k:=λ e=>(nY.mp hn).1 (e▸hx);exact(List.mem_erase_of_ne ne).mpr (h x (lP _ hx))
  have ih:=zBg (nY.mp hn).2 h';rw[List.length_erase_of_mem hk] at ih;have:0<ws.length:=List.length_pos_of_mem hk;rw[mK]
  lia
abbrev Told:=Str->Option Atom
noncomputable def Atom.tr:Atom->Tr
 |.name x=>.name x|.num n=>.num n|.gap g=>.gap g []
theorem zCj:∀(t:Tr) (bs:List Str) (x:Str),x∈t.fv bs↔x∈t.fv []/\x∉bs
 |.say a,bs,x=>zCj a bs x
 |.bin _ a b,bs,x=>by simp only[Tr.fv,nJ];rw[zCj a bs,zCj b bs];exact or_and_right.symm
 |.ite a b c,bs,x=>by simp only[Tr.fv,nJ];rw[zCj a bs,zCj b bs,zCj c bs];constructor<;>(intro h;simp only[or_and_right] at *;exact h)
 |.lett n a b,bs,x=>by
  simp only[Tr.fv,nJ,nQ];rw[zCj a bs,zCj b (bs++[n]),zCj b [n],lJ];constructor
  ·rintro (⟨h,h'⟩|⟨h,h'⟩)
   ·exact⟨.inl h,h'⟩
   ·exact⟨.inr ⟨h,λ z=>h' (.inr z)⟩,λ z=>h' (.inl z)⟩
  ·rintro⟨h|⟨h,h'⟩,h2⟩
   ·exact .inl ⟨h,h2⟩
   ·exact .inr ⟨h,λ z=>z.elim h2 h'⟩
 |.num _,bs,x=>by simp[Tr.fv,Tr.names]
 |.name _,bs,x=>by simp[Tr.fv,Tr.names]
 |.ask _,bs,x=>by simp[Tr.fv,Tr.names]
 |.stop _,bs,x=>by simp[Tr.fv,Tr.names]
 |.gap _ _,bs,x=>by simp[Tr.fv,Tr.names]
noncomputable def Tr.wrds:Tr->List Str
 |.say a=>a.wrds
 |.bin _ a b=>a.wrds++b.wrds
 |.ite a b c=>a.wrds++(b.wrds++c.wrds)
 |.lett x a b=>x::(a.wrds++b.wrds)
 |t=>t.names
theorem zB8:∀(t:Tr) (x:Str),x∈t.fv []->x∈t.wrds
 |.say a,x,h=>zB8 a x h
 |.bin _ a b,x,h=>by
  simp only[Tr.fv,nJ] at h;simp only[Tr.wrds,nJ];exact h.imp (zB8 a x) (zB8 b x)
 |.ite a b c,x,h=>by
  simp only[Tr.fv,nJ] at h;simp only[Tr.wrds,nJ];exact h.imp (zB8 a x) (Or.imp (zB8 b x) (zB8 c x))
 |.lett n a b,x,h=>by
  simp only[Tr.fv,nJ,nQ] at h;simp only[Tr.wrds,nK,nJ];exact .inr (h.imp (zB8 a x) λ z=>zB8 b x ((zCj b [n] x).mp z).1)
 |.num _,x,h=>by simp[Tr.fv,Tr.names] at h
 |.name _,x,h=>by simpa[Tr.fv,Tr.wrds] using h
 |.ask _,x,h=>by simp[Tr.fv,Tr.names] at h
 |.stop _,x,h=>by simp[Tr.fv,Tr.names] at h
 |.gap _ _,x,h=>by simpa[Tr.fv,Tr.wrds] using h
structure Itm where
 t:Tr
 τ:Told
 bs:List Str
 cs:List Str
section
variable (G:Str->Prop)
def Atom.good:Atom->Prop
 |.name x=>G x|.num _=>True|.gap g=>G g
def Tr.good:Tr->Prop
 |.num _=>True|.name x=>G x|.ask x=>G x|.stop x=>G x
 |.gap g as=>G g/\as.length<=1000/\∀a∈as,a.good G
 |.say a=>a.good
 |.bin _ a b=>a.good/\b.good
 |.ite a b c=>a.good/\b.good/\c.good
 |.lett x a b=>G x/\a.good/\b.good
end
noncomputable def Tr.withP:Tr->List Tr->Tr
 |.say _,[a]=>.say a
 |.bin o _ _,[a,b]=>.bin o a b
 |.ite _ _ _,[a,b,c]=>.ite a b c
 |.lett x _ _,[a,b]=>.lett x a b
 |t,_=>t
noncomputable def Tr.dp:Tr->Nat
 |.say a=>a.dp+1|.bin _ a b=>max a.dp b.dp+1|.ite a b c=>max a.dp (max b.dp c.dp)+1|.lett _ a b=>max a.dp b.dp+1
 |_=>2
noncomputable def tot (l:List Itm):Nat:=(l.map λ q=>q.t.size).sum
noncomputable def atD (n:Nat):Dt:=.tup [.str "at", .int n]
abbrev Kno:=Str->Option Dt
noncomputable def setK (κ:Kno) (x:Str) (d:Dt):Kno:=λ z=>if z=x then some d else κ z
noncomputable def lvA (κ:Kno):Atom->Dt
 |.name x=>(κ x).getD (.tup [.str "name", .str x])
 |.num n=>.tup [.str "num", .int n]
 |.gap g=>.tup [.str "gap", .str g,.tup []]
noncomputable def blT (κ:Kno) (n:Nat):Tr->Dt
 |.num m=>.tup [.str "num", .int m]
 |.name x=>lvA κ (.name x)
 |.ask x=>.tup [.str "ask", .str x]
 |.stop x=>.tup [.str "stop", .str x]
 |.gap g as=>.tup [.str "gap", .str g,.tup (as.map (lvA κ))]
 |.say a=>.tup [.str "say", blT κ n a]
 |.bin o a b=>.tup [.str o.s,blT κ n a,blT κ n b]
 |.ite a b c=>.tup [.str "if", blT κ n a,blT κ n b,blT κ n c]
 |.lett x a b=>.tup [.str "let", blT κ n a,blT (setK κ x (atD n)) (n+1) b]
theorem tg {s s':Str}{l l':List Dt}(h:Dt.tup (.str s::l)=Dt.tup (.str s'::l')):s=s':=Dt.str.inj (List.cons.inj (Dt.tup.inj h)).1
theorem zCD {x z:Str}{a b:Tr}:z∈(Tr.lett x a b).fv []↔z∈a.fv []\/(z∈b.fv []/\z≠x):=by
 show z∈a.fv []++b.fv ([]++[x])↔_;rw[nJ,nQ,zCj b [x]];simp
theorem zF5 {κ1 κ2:Kno}{a:Atom}(h:∀x∈a.names,κ1 x=κ2 x):lvA κ1 a=lvA κ2 a:=by
 cases a with
 |name x=>show (κ1 x).getD _=(κ2 x).getD _;rw[h x (by simp[Atom.names])]
 |_=>rfl
theorem zJc (x:Str):(Tr.name x).fv []=[x]:=by simp[Tr.fv,Tr.names]
theorem zMu (g:Str) (as:List Atom):(Tr.gap g as).fv []=as.flatMap Atom.names:=by simp[Tr.fv,Tr.names]
theorem zBp:∀(t:Tr) (κ1 κ2:Kno) (n:Nat),(∀x∈t.fv [],κ1 x=κ2 x)->blT κ1 n t=blT κ2 n t
 |.num _,_,_,_,_=>rfl
 |.name x,κ1,κ2,n,h=>zF5 (a:=.name x) λ z hz=>h z (by rw[zJc];exact hz)
 |.ask _,_,_,_,_=>rfl
 |.stop _,_,_,_,_=>rfl
 |.gap g as,κ1,κ2,n,h=>by
  show Dt.tup [.str "gap", .str g,.tup (as.map (lvA κ1))] = .tup [.str "gap", .str g,.tup (as.map (lvA κ2))];rw[List.map_congr_left λ a ha=>zF5 λ x hx=>h x (by rw[zMu];exact mU.mpr ⟨a,ha,hx⟩)]
 |.say a,κ1,κ2,n,h=>by
  show Dt.tup [.str "say", blT κ1 n a] = .tup [.str "say", blT κ2 n a];rw[zBp a κ1 κ2 n h]
 |.bin o a b,κ1,κ2,n,h=>by
  show Dt.tup [.str o.s,blT κ1 n a,blT κ1 n b] = .tup [.str o.s,blT κ2 n a,blT κ2 n b];rw[zBp a κ1 κ2 n λ x hx=>h x (by simp only[Tr.fv,nJ];exact .inl hx),zBp b κ1 κ2 n λ x hx=>h x (by simp only[Tr.fv,nJ];exact .inr hx)]
 |.ite a b c,κ1,κ2,n,h=>by
  show Dt.tup [.str "if", blT κ1 n a,blT κ1 n b,blT κ1 n c] = .tup [.str "if", blT κ2 n a,blT κ2 n b,blT κ2 n c];rw[zBp a κ1 κ2 n λ x hx=>h x (by simp only[Tr.fv,nJ];exact .inl hx),zBp b κ1 κ2 n λ x hx=>h x (by simp only[Tr.fv,nJ];exact .inr (.inl hx)),zBp c κ1 κ2 n λ x hx=>h x (by simp only[Tr.fv,nJ];exact .inr (.inr hx))]
 |.lett x a b,κ1,κ2,n,h=>by
  show Dt.tup [.str "let", blT κ1 n a,blT (setK κ1 x (atD n)) (n+1) b] = .tup [.str "let", blT κ2 n a,blT (setK κ2 x (atD n)) (n+1) b];rw[zBp a κ1 κ2 n λ z hz=>h z (zCD.mpr (.inl hz)),zBp b _ (setK κ2 x (atD n)) (n+1) λ z hz=>?_];unfold setK
  by_cases e:z=x
  ·rw[if_pos e,if_pos e]
  ·rw[if_neg e,if_neg e]
   exact h z (zCD.mpr (.inr ⟨hz,e⟩))
noncomputable def bnd (x:Str):List 70->Option Str
 |[]=>none
 |p::r=>if p.2=x then some p.1 else bnd x r
def NoOth (t:Tr) (as:List Str) (rs:List 70):Prop:=∀x∈t.fv [],∀y,bnd x rs=some y->y∈as
noncomputable def atomD (k:Nat):Dt:=.tup [.str "atom", .int k]
noncomputable def lostD:Dt:=.tup [.str "lost", .int 0]
noncomputable def kapL (as:List Str) (rs:List 70):Kno:=λ x=>(bnd x rs).map λ y=>if y∈as then atomD (as.idxOf y) else lostD
noncomputable def kapN (ns:List Str):Kno:=λ x=>if x∈ns then some (atomD (ns.idxOf x)) else none
structure PN (t:Tr) (as:List Str) (rs:List (Str × Str)) (ns:List Str):Prop where
 len:ns.length=as.length
 nd:ns.Nodup
 at_:∀(i:Nat) (x a:Str),ns[i]?=some x->as[i]?=some a->bnd x rs=some a\/x∉t.wrds
 ex:∀(i:Nat) (a x:Str),as[i]?=some a->bnd x rs=some a->ns[i]?=some x
theorem zEg {ns:List Str}(nd:ns.Nodup) {i:Nat}{x:Str}(h:ns[i]?=some x):ns.idxOf x=i:=by
 obtain⟨hi,e⟩:=lI.mp h;subst e;exact nd.idxOf_getElem i hi
theorem zGq {ns:List Str}{x:Str}(h:x∈ns):ns[ns.idxOf x]?=some x:=by
 rw[nL (List.idxOf_lt_length_of_mem h),List.getElem_idxOf]
theorem zMY {t:Tr}{as ns:List Str}{rs:List 70}(h:PN t as rs ns) (no:NoOth t as rs):blT (kapN ns) 0 t=blT (kapL as rs) 0 t:=by
 refine zBp _ _ _ _ λ x hx=>?_;unfold kapN kapL;cases e:bnd x rs with
 |none =>
  rw[if_neg]
  ·rfl
  ·intro hm
   have hi:=zGq hm;have hl:=List.idxOf_lt_length_of_mem hm;rcases h.at_ _ _ _ hi (lV (by rw[←h.len];exact hl)) with z|z
   ·rw[e] at z;cases z
   ·exact z (zB8 t x hx)
 |some y =>
  have hy:=no x hx y e;have hx':=h.ex _ _ _ (zGq hy) e;rw[if_pos (List.mem_of_getElem? hx'),zEg h.nd hx'];show some _=some (if y∈as then _ else _);rw[if_pos hy]
noncomputable def bp (ns:List Str) (t:Tr):Tr:=ns.foldl (λ t n=>.lett n (.num 0) t) t
noncomputable def bpR:List Str->Tr->Tr
 |[],t=>t
 |n::r,t=>.lett n (.num 0) (bpR r t)
theorem zJz (ns:List Str) (t:Tr):bp ns t=bpR ns.reverse t:=by
 have:∀(a:List Str) (t:Tr) (b:List Str),a.foldl (λ t n=>Tr.lett n (.num 0) t) (bpR b t)=bpR (a.reverse++b) t:=λ a=>by
  induction a with
  |nil=>exact λ t b=>rfl
  |cons x a ih =>
   intro t b;rw[List.foldl_cons,List.reverse_cons,mV];exact ih t (x::b)
 have:=this ns t []
 rwa [nN] at this
theorem zHj:∀(r r':List Str) (t t':Tr) (bs bs':List Str),r.length=r'.length->(bare (bpR r t) bs=bare (bpR r' t') bs'↔bare t (bs++r)=bare t' (bs'++r'))
 |[],[],t,t',bs,bs',_=>by rw[nN,nN];rfl
 |x::r,y::r',t,t',bs,bs',h=>by
  have:=zHj r r' t t' (bs++[x]) (bs'++[y]) (by simpa using h);rw[mV,mV] at this;rw[←show (bs++([x]++r))=bs++x::r from rfl,←show (bs'++([y]++r'))=bs'++y::r' from rfl,←this];simp[bpR,bare]
 |[],_::_,_,_,_,_,h=>by cases h
 |_::_,[],_,_,_,_,h=>by cases h
theorem zHI:∀(r:List Str) (t:Tr),(bpR r t).size=t.size+2 * r.length
 |[],t=>rfl
 |x::r,t=>by
  have:=zHI r t;simp only[bpR,Tr.size,mK]
  lia
structure BB (bs cs:List Str) (κ κ':Kno) (m:Nat):Prop where
 nm:∀x y,keyB x bs.reverse=keyB y cs.reverse↔lvA κ (.name x)=lvA κ' (.name y)
 k1:∀x d,κ x=some d->(∃k,k<m/\d=atD k)\/∃k,d=atomD k
 k2:∀x d,κ' x=some d->(∃k,k<m/\d=atD k)\/∃k,d=atomD k
theorem zME {a b:Nat}(h:atD a=atD b):a=b:=by
 injection h with h;injection h with _ h;injection h with h _;injection h with h;exact Int.ofNat.inj h
theorem zJ0 {a b:Nat}(h:atomD a=atomD b):a=b:=by
 injection h with h;injection h with _ h;injection h with h _;injection h with h;exact Int.ofNat.inj h
theorem lv_at {κ:Kno}{m:Nat}(k1:∀x d,κ x=some d->(∃k,k<m/\d=atD k)\/∃k,d=atomD k) (x:Str):¬lvA κ (.name x)=atD m:=λ z=>by
 have z':(κ x).getD (.tup [.str "name", .str x])=atD m:=z;cases e:κ x with
 |none=>rw[e] at z';exact absurd (tg z') 80
 |some d =>
  rw[e] at z';rcases k1 x d e with ⟨k,hk,rfl⟩|⟨k,rfl⟩
  ·have:=zME z';lia
  ·exact absurd (tg z') 80
theorem zLM {κ:Kno}{x y:Str}{d:Dt}:lvA (setK κ x d) (.name y)=if y=x then d else lvA κ (.name y):=by
 show (setK κ x d y).getD _=_;unfold setK
 by_cases e:y=x
 ·rw[if_pos e,if_pos e];rfl
 ·rw[if_neg e,if_neg e];rfl
theorem BB.lett {bs cs:List Str}{κ κ':Kno}{m:Nat}(h:BB bs cs κ κ' m) (x y:Str):BB (bs++[x]) (cs++[y]) (setK κ x (atD m)) (setK κ' y (atD m)) (m+1):=by
 have up:∀{κ:Kno}{x:Str},(∀x d,κ x=some d->(∃k,k<m/\d=atD k)\/∃k,d=atomD k)->∀z d,setK κ x (atD m) z=some d->(∃k,k<m+1/\d=atD k)\/∃k,d=atomD k:=λ{κ x} k z d e=>by
  unfold setK at e
  by_cases c:z=x
  ·rw[if_pos c] at e;cases e;exact .inl ⟨m,Nat.lt_succ_self m,rfl⟩
  ·rw[if_neg c] at e
   exact(k z d e).imp (λ⟨k,hk,e⟩=>⟨k,Nat.lt_succ_of_lt hk,e⟩) id
 refine⟨λ p q=>?_,up h.k1,up h.k2⟩;rw[nT,nT,List.reverse_singleton,List.reverse_singleton,List.singleton_append,List.singleton_append,zDc,zDc,zLM,zLM]
 by_cases c:p=x<;>by_cases d:q=y
 ·rw[if_pos c.symm,if_pos d.symm,if_pos c,if_pos d];simp
 ·rw[if_pos c.symm,if_neg (Ne.symm d),if_pos c,if_neg d]
  refine⟨λ z=>?_,λ z=>absurd z.symm (lv_at h.k2 q)⟩;cases e:keyB q cs.reverse<;>rw[e] at z<;>cases z
 ·rw[if_neg (Ne.symm c),if_pos d.symm,if_neg c,if_pos d]
  refine⟨λ z=>?_,λ z=>absurd z (lv_at h.k1 p)⟩;cases e:keyB p bs.reverse<;>rw[e] at z<;>cases z
 ·rw[if_neg (Ne.symm c),if_neg (Ne.symm d),if_neg c,if_neg d,zE2]
  exact h.nm p q
theorem zLX {κ:Kno}{m:Nat}(k1:∀x d,κ x=some d->(∃k,k<m/\d=atD k)\/∃k,d=atomD k):∀(t:Tr) (n:Nat),∃s r,blT κ n t = .tup (.str s::r)/\((t.kd = .name/\(s = "at" \/ s = "atom" \/ s = "name"))\/(t.kd ≠ .name/\s=t.kd.s))
 |.num n,_=>88
 |.name x,n=>by
  show ∃s r,(κ x).getD (.tup [.str "name", .str x]) = .tup (.str s::r)/\_;cases e:κ x with
  |none=>exact⟨_,_,rfl,.inl ⟨rfl,.inr (.inr rfl)⟩⟩
  |some d =>
   rcases k1 x d e with ⟨k,hk,rfl⟩|⟨k,rfl⟩
   ·exact⟨_,_,rfl,.inl ⟨rfl,.inl rfl⟩⟩
   ·exact⟨_,_,rfl,.inl ⟨rfl,.inr (.inl rfl)⟩⟩
 |.ask n,_=>88
 |.stop n,_=>88
 |.gap n _,_=>88
 |.say n,_=>88
 |.bin o a b,_=>⟨_,_,rfl,.inr ⟨by cases o<;>nofun,(Bin.kd_s o).symm⟩⟩
 |.ite _ _ _,_=>88
 |.lett _ _ _,_=>88
theorem bl_kd {bs cs:List Str}{κ κ':Kno}{m:Nat}(h:BB bs cs κ κ' m) {t u:Tr}{n n':Nat}(e:blT κ n t=blT κ' n' u):t.kd=u.kd:=by
 obtain⟨s,r,e1,h1⟩:=zLX h.k1 t n;obtain⟨s',r',e2,h2⟩:=zLX h.k2 u n';rw[e1,e2] at e;have z:=tg e;subst z;have no:∀k:Kd,¬k = .name->¬(k.s = "at" \/ k.s = "atom" \/ k.s = "name"):=by intro k;cases k<;>right
 rcases h1 with ⟨k1,z1⟩|⟨k1,z1⟩<;>rcases h2 with ⟨k2,z2⟩|⟨k2,z2⟩
 ·rw[k1,k2]
 ·rw[z2] at z1;exact absurd z1 (no _ k2)
 ·rw[z1] at z2;exact absurd z2 (no _ k1)
 ·exact Kd.inj (z1.symm.trans z2)
def ngT:Tr->Prop
 |.gap _ _=>False
 |.say a=>ngT a
 |.bin _ a b=>ngT a/\ngT b
 |.ite a b c=>ngT a/\ngT b/\ngT c
 |.lett _ a b=>ngT a/\ngT b
 |_=>True
theorem zK6:∀(t u:Tr) (bs cs:List Str) (κ κ':Kno) (m:Nat),ngT t->BB bs cs κ κ' m->(bare t bs=bare u cs↔blT κ m t=blT κ' m u):=by
 intro t
 induction t with
 |num n =>
  intro u bs cs κ κ' m _ h
  by_cases hk:(Tr.num n).kd=u.kd
  ·obtain⟨k,rfl⟩:=kdS hk.symm;simp[bare,blT]
  ·exact⟨λ z=>absurd (zCX z) hk,λ z=>absurd (bl_kd h z) hk⟩
 |name x =>
  intro u bs cs κ κ' m _ h
  by_cases hk:(Tr.name x).kd=u.kd
  ·obtain⟨y,rfl⟩:=kdS hk.symm
   show keyD _=keyD _↔_;rw[zHV];exact h.nm x y
  ·exact⟨λ z=>absurd (zCX z) hk,λ z=>absurd (bl_kd h z) hk⟩
 |ask n =>
  intro u bs cs κ κ' m _ h
  by_cases hk:(Tr.ask n).kd=u.kd
  ·obtain⟨k,rfl⟩:=kdS hk.symm;simp[bare,blT]
  ·exact⟨λ z=>absurd (zCX z) hk,λ z=>absurd (bl_kd h z) hk⟩
 |stop n =>
  intro u bs cs κ κ' m _ h
  by_cases hk:(Tr.stop n).kd=u.kd
  ·obtain⟨k,rfl⟩:=kdS hk.symm;simp[bare,blT]
  ·exact⟨λ z=>absurd (zCX z) hk,λ z=>absurd (bl_kd h z) hk⟩
 |gap g as=>exact λ u bs cs κ κ' m n=>n.elim
 |say a ih =>
  intro u bs cs κ κ' m n h
  by_cases hk:(Tr.say a).kd=u.kd
  ·obtain⟨k,rfl⟩:=kdS hk.symm
   have:=ih k bs cs κ κ' m n h;simp[bare,blT,this]
  ·exact⟨λ z=>absurd (zCX z) hk,λ z=>absurd (bl_kd h z) hk⟩
 |bin o a b iha ihb =>
  intro u bs cs κ κ' m n h
  by_cases hk:(Tr.bin o a b).kd=u.kd
  ·have hu:∃c d,u = .bin o c d:=by cases o<;>exact kdS hk.symm
   obtain⟨c,d,rfl⟩:=hu;have h1:=iha c bs cs κ κ' m n.1 h;have h2:=ihb d bs cs κ κ' m n.2 h;simp[bare,blT,h1,h2]
  ·exact⟨λ z=>absurd (zCX z) hk,λ z=>absurd (bl_kd h z) hk⟩
 |ite a b c iha ihb ihc =>
  intro u bs cs κ κ' m n h
  by_cases hk:(Tr.ite a b c).kd=u.kd
  ·obtain⟨d,e,f,rfl⟩:=kdS hk.symm
   have h1:=iha d bs cs κ κ' m n.1 h;have h2:=ihb e bs cs κ κ' m n.2.1 h;have h3:=ihc f bs cs κ κ' m n.2.2 h;simp[bare,blT,h1,h2,h3]
  ·exact⟨λ z=>absurd (zCX z) hk,λ z=>absurd (bl_kd h z) hk⟩
 |lett x a b iha ihb =>
  intro u bs cs κ κ' m n h
  by_cases hk:(Tr.lett x a b).kd=u.kd
  ·obtain⟨y,c,d,rfl⟩:=kdS hk.symm
   have h1:=iha c bs cs κ κ' m n.1 h;have h2:=ihb d _ _ _ _ _ n.2 (h.lett x y);simp[bare,blT,h1,h2]
  ·exact⟨λ z=>absurd (zCX z) hk,λ z=>absurd (bl_kd h z) hk⟩
theorem zEa {x:Str}:∀{l:List Str},lookB x l=if x∈l then some (l.idxOf x) else none
 |[]=>rfl
 |y::r=>by
  rw[lookB,zEa (l:=r)]
  by_cases c:y=x
  ·rw[if_pos c,if_pos (by rw[c];exact lO),c];simp
  ·rw[if_neg c]
   by_cases d:x∈r
   ·rw[if_pos d,if_pos (List.mem_cons_of_mem _ d),List.idxOf_cons,show (y == x)=false from beq_eq_false_iff_ne.mpr c];rfl
   ·rw[if_neg d,if_neg (by simp[d,Ne.symm c])];rfl
theorem BB.start (ns ms:List Str):BB ns.reverse ms.reverse (kapN ns) (kapN ms) 0:=by
 have kk:∀{ns:List Str}(x:Str) (d:Dt),kapN ns x=some d->(∃k,k<0/\d=atD k)\/∃k,d=atomD k:=λ{ns} x d e=>by
  unfold kapN at e
  by_cases c:x∈ns
  ·rw[if_pos c] at e;cases e;exact .inr 72
  ·rw[if_neg c] at e;cases e
 refine⟨λ x y=>?_,kk,kk⟩;rw[List.reverse_reverse,List.reverse_reverse];show _↔(kapN ns x).getD _=(kapN ms y).getD _;unfold keyB kapN;rw[zEa,zEa]
 by_cases c:x∈ns<;>by_cases d:y∈ms
 ·rw[if_pos c,if_pos d,if_pos c,if_pos d]
  exact⟨λ z=>by rw[Sum.inl.inj z];rfl,λ z=>by rw[zJ0 z]⟩
 ·rw[if_pos c,if_neg d,if_pos c,if_neg d]
  exact⟨λ z=>(nomatch z),λ z=>absurd (tg z) 80⟩
 ·rw[if_neg c,if_pos d,if_neg c,if_pos d]
  exact⟨λ z=>(nomatch z),λ z=>absurd (tg z) 80⟩
 ·rw[if_neg c,if_neg d,if_neg c,if_neg d]
  simp
theorem zK5 {ns ms:List Str}{t u:Tr}(hl:ns.length=ms.length) (hg:ngT t):bare (bp ns t) []=bare (bp ms u) []↔blT (kapN ns) 0 t=blT (kapN ms) 0 u:=by
 rw[zJz,zJz,zHj _ _ _ _ _ _ (by rw[List.length_reverse,List.length_reverse];exact hl),nQ,nQ];exact zK6 t u _ _ _ _ 0 hg (BB.start ns ms)
theorem zAv {α:Type}{F:α->V->Prop}{as bs:List α}{us vs:List V}(h:Paired F as us) (k:Paired F bs vs):Paired F (as++bs) (us++vs):=by
 induction h with
 |nil=>exact k
 |cons r t ih=>exact .cons r ih
theorem zBD {α:Type}{F:α->V->Prop}{as:List α}{us:List V}(h:Paired F as us):us.length=as.length:=h.length.symm
section
variable {X:Cx}
def rCatF:R2:=λ x y H Q=>E6 λ(a b:Addr) (o1 o2:Obj) (xs ys:List V)=>A9 (x = .ref a) (y = .ref b) (H a=some (.frz o1 (.tup xs))) (o1.dict=none) (H b=some (.frz o2 (.tup ys))) (o2.dict=none) (ys≠[]) (xs.length+ys.length<=sizeLine) (∀p o H',Same H H'->o.dict=none->H' p=some (.frz o (.tup (xs++ys)))->Q (.ref p) H')
theorem zLt:OpR X (binaryOp .Add) rCatF:=by
 intro jP s σ H x y v u Q I rx ry h;obtain⟨a,b,o1,o2,xs,ys,rfl,rfl,ha,d1,hb,d2,hy,hz,q⟩:=h;have sa:SqT X.K H a xs:=.inl (.inr ⟨o1,ha⟩);have sb:SqT X.K H b ys:=.inl (.inr ⟨o2,hb⟩);cases rx;cases ry;obtain⟨its,r1,p1,_⟩:=I.tuple sa;obtain⟨its2,r2,p2,_⟩:=I.tuple sb
 by_cases hx:xs=[]
 ·subst hx
  have e0:its=[]:=r1.nil_iff.mpr rfl;subst e0;obtain⟨⟨cls,dd,data,sl⟩,ho,hc,n,hd⟩:=id p1;obtain⟨⟨cls2,dd2,data2,sl2⟩,ho2,hc2,n2,hd2⟩:=id p2;simp only at hc hd hc2 hd2;subst hc hd hc2 hd2;exact concat_meets ⟨_,ho,rfl⟩ ⟨_,ho2,rfl⟩ noFill_tuple_add seq_tuple_add PySem.F.slot_tuple_add PySem.F.entry_tuple_add (PySem.F.args_tuple_add_2 _ _) (tuple_addW0 a b _ _ n n2 dd dd2 sl sl2 rfl) ⟨ho,ho2,⟨.ref b,H,I,rfl,q b o2 H (.refl H) d2 (by rw[nQ];exact hb)⟩⟩
 ·refine HT.cat_tup p1 p2 (λ z=>hx (r1.nil_iff.mp z)) (λ z=>absurd (r2.nil_iff.mp z) hy) (λ z=>?_) (by rw[←r1.length,←r2.length];exact hz)
  have hf:=I.hok.fresh (lQ s.heap.objs.size);refine⟨.ref s.heap.objs.size,_,I.laid (t':=s.toks) (o:=.frz { cls:=.type "tuple", data:=.seq (its++its2).toArray } (.tup (xs++ys))) (λ b ob q=>lE _ q) (lQ _) ?_,rfl,q _ _ _ (zAC hf) rfl zAB⟩;exact⟨lG _ rfl,by rw[mI];exact hz,_,r1.append r2,IsTup.new _ _⟩
end
noncomputable def zE1:List V:=[.str "num", .str "name", .str "ask", .str "stop", .str "gap"]
def zEn (K:W.Frag) (lv:Addr):Prop:=∃(o:Obj) (its:Array Value) (n:Nat),K.lookup lv=some o/\o.cls = .type "tuple" /\ o.data = .seq its n/\its.size<=sizeLine/\Vals zE1 its.toList
theorem zHX (k:Kd):inV (.str k.s) zE1=k.leaf:=by cases k<;>right
theorem zKx (t:Tr):1<=t.head:=by cases t<;>simp[Tr.head]
theorem zHS:∀{ts:List Tr}{t:Tr},t∈ts->t.size<=(ts.map Tr.size).sum
 |a::ts,t,h=>by
  rw[mJ,List.sum_cons];rcases lM.mp h with rfl|h
  ·lia
  ·have:=zHS h
   lia
theorem zE7 (t:Tr):(t.parts.map Tr.size).sum+1=t.size:=by
 cases t<;>simp[Tr.parts,Tr.size]<;>lia
theorem zET {t p:Tr}(h:p∈t.parts):p.size+1<=t.size:=by
 have:=zHS h;have:=zE7 t
 lia
theorem zHw (t:Tr):1<=t.size:=by cases t<;>simp[Tr.size]
noncomputable def szT (ts:List Tr):Nat:=(ts.map Tr.size).sum
theorem zCZ (a b:List Tr):szT (a++b)=szT a+szT b:=by simp[szT]
theorem zG8 (a:Tr) (b:List Tr):szT (a::b)=a.size+szT b:=by simp[szT]
theorem zIX:∀ts:List Tr,ts.length<=szT ts
 |[]=>lQ _
 |t::ts=>by
  rw[zG8,mK];have:=zIX ts;have:=zHw t
  lia
theorem zKF (L:List Tr) (i:Nat):szT (L.take i)<=szT L:=by
 have e:szT L=szT (L.take i)+szT (L.drop i):=by rw[←zCZ,List.take_append_drop]
 lia
theorem zDQ (t:Tr):szT t.parts+1=t.size:=zE7 t
noncomputable def Tr.subs:Tr->List Tr
 |.say a=>.say a::a.subs
 |.bin o a b=>.bin o a b::(a.subs++b.subs)
 |.ite a b c=>.ite a b c::(a.subs++(b.subs++c.subs))
 |.lett x a b=>.lett x a b::(a.subs++b.subs)
 |t=>[t]
theorem zBT (t:Tr):t.subs=t::t.parts.flatMap Tr.subs:=by
 cases t<;>simp[Tr.subs,Tr.parts]
theorem zEG:∀L:List Tr,szT (L.flatMap Tr.parts)+L.length=szT L
 |[]=>rfl
 |t::L=>by
  have ih:=zEG L;have:=zDQ t;rw[rB,zCZ,zG8,mK]
  lia
theorem zJF {p:Tr}(L:List Tr):(∃q∈L,p∈q.subs)↔p∈L\/∃q∈L.flatMap Tr.parts,p∈q.subs:=by
 constructor
 ·rintro⟨q,hq,hp⟩
  rw[zBT] at hp;rcases lM.mp hp with rfl|hp
  ·exact .inl hq
  ·obtain⟨r,hr,hp⟩:=mU.mp hp
   exact .inr ⟨r,mU.mpr ⟨q,hq,hr⟩,hp⟩
 ·rintro (h|⟨r,hr,hp⟩)
  ·exact⟨p,h,by rw[zBT];exact lO⟩
  ·obtain⟨q,hq,hr⟩:=mU.mp hr
   exact⟨q,hq,by rw[zBT];exact lP _ (mU.mpr ⟨r,hr,hp⟩)⟩
def zDx (H:Hp) (p:Tr × List Str) (v:V):Prop:=∃a u b,v = .ref a/\H a=some (.tup [u,.ref b])/\Rep H p.1 u/\H b=some (.tup (p.2.map V.str))
theorem zDx.mono {H H':Hp}(k:Tk H H') {p:Tr × List Str}{v:V}:zDx H p v->zDx H' p v
 |⟨a,u,b,e,h,r,z⟩=>⟨a,u,b,e,k _ _ h,r.mono k,k _ _ z⟩
theorem zFW (x:Str) (bs:List Str):inV (.str x) (bs.map V.str)=decide (x∈bs):=by
 unfold inV;rw[Bool.eq_iff_iff,List.any_eq_true,decide_eq_true_iff];constructor
 ·rintro⟨v,hv,h⟩
  obtain⟨y,hy,rfl⟩:=mB.mp hv;rw[zJj] at h;exact h▸hy
 ·intro h
  exact⟨_,mB.mpr ⟨x,h,rfl⟩,(zJj _ _).mpr rfl⟩
theorem zJi (bs:List Str):(bs.map V.str).all flatV=true:=zJh bs
theorem zHT (l:List (Tr × List Str)):total (l.flatMap λ q=>kids q.1 q.2)+l.length=total l:=by
 induction l with
 |nil=>rfl
 |cons a r ih =>
  rw[rB,zCY,zDg,mK];have:=zE8 a.1 a.2
  lia
theorem zHv (l:List (Tr × List Str)) (i:Nat):total (l.take i)<=total l:=by
 have:=congrArg total (List.take_append_drop i l);rw[zCY] at this
 lia
noncomputable def abcS:Str := "abcdefghijklmnopqrstuvwxyz"
theorem zJ5:abcS.length=26:=by right
theorem zM2:∀i<26,abcS.cps.toList[i]?=some (97+i):=by right
noncomputable def keptS:List Str:=["let", "in", "if", "then", "else", "say", "ask", "stop", "where", "quiet", "number"]
noncomputable def keptV:List V:=keptS.map V.str
def KeptW (K:W.Frag) (kv:Addr):Prop:=∃(o:Obj) (its:Array Value) (n:Nat),K.lookup kv=some o/\o.cls = .type "tuple" /\ o.data = .seq its n/\its.size<=sizeLine/\Vals keptV its.toList
structure GW (x:Str):Prop where
 lo:1<=x.length
 hi:x.length<=8
 kp:x∉keptS
 ab:∀c∈x.cps.toList,97<=c/\c<=122
noncomputable def wrdN (n:Nat):Str:=if n<26 then ⟨#[97+n]⟩ else ⟨#[96+n / 26,97+n % 26]⟩
theorem zG3 (n:Nat):1<=(wrdN n).length/\(wrdN n).length<=8:=by
 unfold wrdN;split<;>simp[Str.length]
theorem zKB {n:Nat}(h:n<702):∀c∈(wrdN n).cps.toList,97<=c/\c<=122:=by
 unfold wrdN;split
 ·simp;lia
 ·intro c hc
  simp at hc
  lia
theorem zKA {n m:Nat}(hn:n<702) (hm:m<702) (h:wrdN n=wrdN m):n=m:=by
 unfold wrdN at h;split at h<;>split at h
 ·have:=congrArg (λ s:Str=>s.cps.toList) h
  simp at this;exact this
 ·have:=congrArg (λ s:Str=>s.cps.toList) h
  simp at this
 ·have:=congrArg (λ s:Str=>s.cps.toList) h
  simp at this
 ·have:=congrArg (λ s:Str=>s.cps.toList) h
  simp at this
  lia
theorem zJ9 {ks:List Str}{n:Nat}(h:∀j<n,wrdN j∈ks\/wrdN j∈keptS) (hn:n<=702):n<=ks.length+11:=by
 have nd:((List.range n).map wrdN).Nodup:=by
  refine List.pairwise_map.mpr (List.Pairwise.imp_of_mem (λ{a b} ha hb ne e=>?_) (List.nodup_range (n:=n)));have:=List.mem_range.mp ha;have:=List.mem_range.mp hb;exact ne (zKA 65 65 e)
 have:=zBg (ws:=ks++keptS) nd λ x hx=>by
  obtain⟨j,hj,rfl⟩:=mB.mp hx;exact lJ.mpr (h j (List.mem_range.mp hj))
 simpa[keptS] using this
theorem zKD (ks:List Str) (x:Str):(valV (kvOf ks) (Sum.inr x:Key)).isSome=decide (x∈ks):=by
 have e:∀l:List Str,valV (kvOf l) (Sum.inr x:Key)=if x∈l then some (.bl true) else none:=by
  intro l
  induction l with
  |nil=>rfl
  |cons a l ih =>
   unfold valV kvOf at ih ⊢;rw[mJ,List.find?_cons]
   by_cases h:a=x
   ·subst h;simp
   ·have h':¬((Sum.inr a:Key)=Sum.inr x):=λ z=>h (Sum.inr.inj z)
    have h2:¬x=a:=λ z=>h z.symm;simp only[h',decide_false,nK,h2,false_or];exact ih
 rw[e]
 by_cases h:x∈ks<;>simp[h]
noncomputable def wr1:Tr->List Str
 |.lett x _ _=>[x]
 |t=>t.names
theorem zIN {t:Tr}(h:¬t.kd = .lett):wr1 t=t.names:=by
 cases t with
 |lett x a b=>exact absurd rfl h
 |_=>rfl
theorem zBH:∀(t:Tr) (x:Str),x∈t.wrds↔∃p∈t.subs,x∈wr1 p
 |.say a,x=>by
  have:=zBH a x;simp[Tr.wrds,Tr.subs,wr1,Tr.names,this]
 |.bin o a b,x=>by
  have h1:=zBH a x;have h2:=zBH b x;simp only[Tr.wrds,Tr.subs,nJ,nK,h1,h2];constructor
  ·rintro (⟨p,hp,h⟩|⟨p,hp,h⟩)
   ·exact⟨p,.inr (.inl hp),h⟩
   ·exact⟨p,.inr (.inr hp),h⟩
  ·rintro⟨p,rfl|hp|hp,h⟩
   ·simp[wr1,Tr.names] at h
   ·exact .inl ⟨p,hp,h⟩
   ·exact .inr ⟨p,hp,h⟩
 |.ite a b c,x=>by
  have h1:=zBH a x;have h2:=zBH b x;have h3:=zBH c x;simp only[Tr.wrds,Tr.subs,nJ,nK,h1,h2,h3];constructor
  ·rintro (⟨p,hp,h⟩|⟨p,hp,h⟩|⟨p,hp,h⟩)
   ·exact⟨p,.inr (.inl hp),h⟩
   ·exact⟨p,.inr (.inr (.inl hp)),h⟩
   ·exact⟨p,.inr (.inr (.inr hp)),h⟩
  ·rintro⟨p,rfl|hp|hp|hp,h⟩
   ·simp[wr1,Tr.names] at h
   ·exact .inl ⟨p,hp,h⟩
   ·exact .inr (.inl ⟨p,hp,h⟩)
   ·exact .inr (.inr ⟨p,hp,h⟩)
 |.lett n a b,x=>by
  have h1:=zBH a x;have h2:=zBH b x;simp only[Tr.wrds,Tr.subs,nJ,nK,h1,h2];constructor
  ·rintro (h|⟨p,hp,h⟩|⟨p,hp,h⟩)
   ·exact⟨_,.inl rfl,by simp[wr1,h]⟩
   ·exact⟨p,.inr (.inl hp),h⟩
   ·exact⟨p,.inr (.inr hp),h⟩
  ·rintro⟨p,rfl|hp|hp,h⟩
   ·exact .inl (by simpa[wr1] using h)
   ·exact .inr (.inl ⟨p,hp,h⟩)
   ·exact .inr (.inr ⟨p,hp,h⟩)
 |.num _,x=>by simp[Tr.wrds,Tr.subs,wr1]
 |.name _,x=>by simp[Tr.wrds,Tr.subs,wr1]
 |.ask _,x=>by simp[Tr.wrds,Tr.subs,wr1]
 |.stop _,x=>by simp[Tr.wrds,Tr.subs,wr1]
 |.gap _ _,x=>by simp[Tr.wrds,Tr.subs,wr1]
def Sx (d:Addr) (H H':Hp):Prop:=∀b u,b≠d->H b=some u->H' b=some u
theorem Sx.back {d:Addr}{H H':Hp}{o:HO}(g:Sx d H H') (h:H d=some o):Same H (upd H' d o):=λ b u e=>by
 by_cases z:b=d
 ·subst z;rw[zAB,←h];exact e
 ·rw[zAR z];exact g b u z e
theorem viaS {G:Prop}{E:L2.St->Hp->Prop}(A:L2.St->Hp->Prop) (h:(∀σ H2,A σ H2->E σ H2)->G) (r:∀σ H2,A σ H2->E σ H2):G:=h r
def PrRep (H:Hp) (p:Str × Str) (v:V):Prop:=∃c,v = .ref c/\H c=some (.tup [.str p.1,.str p.2])
def PsRep (H:Hp) (ps:List 70) (b:Addr):Prop:=∃us,H b=some (.tup us)/\Paired (PrRep H) ps us
def PsW (H:Hp) (ps:List 70) (b:Addr):Prop:=∃us,(H b=some (.tup us)\/∃o,H b=some (.frz o (.tup us)))/\Paired (PrRep H) ps us
theorem PsRep.w {H:Hp}{ps:List 70}{b:Addr}:PsRep H ps b->PsW H ps b
 |⟨us,h,p⟩=>⟨us,.inl h,p⟩
theorem PrRep.mono {H H':Hp}(k:Tk H H') {p:Str × Str}{v:V}:PrRep H p v->PrRep H' p v
 |⟨c,e,h⟩=>⟨c,e,k _ _ h⟩
theorem PsRep.mono {H H':Hp}(k:Tk H H') {ps:List 70}{b:Addr}:PsRep H ps b->PsRep H' ps b
 |⟨us,h,p⟩=>⟨us,k _ _ h,Paired.mapP p λ Ω Ω z=>z.mono k⟩
theorem PsW.same {H H':Hp}(g:Same H H') {ps:List 70}{b:Addr}:PsW H ps b->PsW H' ps b
 |⟨us,h,p⟩=>⟨us,h.imp (g _ _) (λ⟨o,e⟩=>⟨o,g _ _ e⟩),Paired.mapP p λ Ω Ω z=>z.mono g.tk⟩
def zDw (H:Hp) (q:Trip) (v:V):Prop:=∃a u w b,v = .ref a/\H a=some (.tup [u,w,.ref b])/\Rep H q.1 u/\Rep H q.2.1 w/\PsRep H q.2.2 b
theorem zDw.mono {H H':Hp}(k:Tk H H') {q:Trip}{v:V}:zDw H q v->zDw H' q v
 |⟨a,u,w,b,e,h,r,s,z⟩=>⟨a,u,w,b,e,k _ _ h,r.mono k,s.mono k,z.mono k⟩
noncomputable def Lf.sg:Lf->Str
 |.name _ => "name" |.num _ => "num" |.gap _ => "gap" |.ask _ => "ask" |.stop _ => "stop"
theorem zIe {l:Lf}(h:decide (V.str l.sg=V.str "name")=true):∃x,l = .name x:=by
 have h':l.sg = "name" := V.str.inj (lS h);cases l with
 |name x=>exact⟨x,rfl⟩
 |num n=>exact absurd (show (("num" : Str)) = "name" from h') 80
 |gap n=>exact absurd (show (("gap" : Str)) = "name" from h') 80
 |ask n=>exact absurd (show (("ask" : Str)) = "name" from h') 80
 |stop n=>exact absurd (show (("stop" : Str)) = "name" from h') 80
theorem zGA {l:Lf}(h:l.isName=true):decide (V.str l.sg=V.str "name")=true:=by
 cases l with
 |name x=>exact lT rfl
 |_=>cases h
theorem zJ3 {α β γ:Type} [DecidableEq γ] (f:α->γ) (g:β->γ):∀(as:List α) (bs:List β),as.length=bs.length->((as.zip bs).map λ p=>decide (f p.1=g p.2)).all id=decide (as.map f=bs.map g)
 |[],[],_=>rfl
 |a::as,b::bs,h=>by
  have ih:=zJ3 f g as bs (by simpa using h);rw[List.zip_cons_cons,mJ,List.all_cons,ih];simp
 |[],_::_,h=>by simp at h
 |_::_,[],h=>by simp at h
theorem LfRep.all {H:Hp}:∀{l:Lf}{v:V},LfRep H l v->∃a r,v = .ref a/\H a=some (.tup (.str l.sg::r))
 |.name _,_,⟨a,e,h⟩=>⟨a,_,e,h⟩
 |.num _,_,⟨a,e,h⟩=>⟨a,_,e,h⟩
 |.gap _,_,⟨a,b,e,h,h'⟩=>⟨a,_,e,h⟩
 |.ask _,_,⟨a,e,h⟩=>⟨a,_,e,h⟩
 |.stop _,_,⟨a,e,h⟩=>⟨a,_,e,h⟩
theorem zGW (x y:Str):∀(rs:List 70) (i:Nat),(∀p∈rs.take i,p.1≠x/\p.2≠y)->sn x y rs=sn x y (rs.drop i)
 |rs,0,_=>rfl
 |[],i+1,_=>rfl
 |p::r,i+1,h=>by
  have h1:=h p 59;rw[sn,if_neg (by simp[h1.1,h1.2]),List.drop_succ_cons];exact zGW x y r i λ q hq=>h q (by simp[hq])
def SbD (d:Addr) (H H':Hp):Prop:=∀b o,b≠d->H b=some o->H' b=some o
theorem SbD.refl (d:Addr) (H:Hp):SbD d H H:=λ Ω Ω Ω h=>h
theorem SbD.trans {d:Addr}{H H1 H2:Hp}(a:SbD d H H1) (b:SbD d H1 H2):SbD d H H2:=λ c o n h=>b c o n (a c o n h)
theorem Same.sd {d:Addr}{H H':Hp}(h:Same H H'):SbD d H H':=λ b o Ω e=>h b o e
theorem SbD.set {d:Addr}{H:Hp}(o:HO):SbD d H (upd H d o):=λ b u n e=>by rw[zAR n];exact e
theorem SbD.tk {d:Addr}{H H':Hp}(h:SbD d H H') {kvs:List 90}(e:H d=some 92):Tk H H':=λ b xs hb=>h b _ (λ z=>by rw[z,e] at hb;cases hb) hb
noncomputable def loudV:List V:=[.str "say", .str "ask", .str "stop"]
noncomputable def Kd.loud:Kd->Bool
 |.say=>true|.ask=>true|.stop=>true|_=>false
theorem zJY (k:Kd):inV (.str k.s) loudV=k.loud:=by cases k<;>right
def zGT (K:W.Frag) (lv:Addr):Prop:=∃(o:Obj) (its:Array Value) (n:Nat),K.lookup lv=some o/\o.cls = .type "tuple" /\ o.data = .seq its n/\its.size<=sizeLine/\Vals loudV its.toList
def QuT (t:Tr):Prop:=∀p∈t.subs,p.kd.loud=false/\¬p.kd = .gap
structure FnD1 (P:Program) (w:World) (K:W.Frag) (mg:Str->Option Value) (base:Heap) (k:Nat) (x:Str) (f:Addr) (fd:FuncData) (ps:List Str) (sp:Sp):Prop where
 ok:FnOk P w K mg base CX0 k f fd ps sp
 bd0:Binds K fd ps []
 bd1:Binds K fd ps [.none]
 kp:W.keepIn K (.ref f)=true
 gl:mg x=some (.ref f)
theorem FnD1.up {P:Program}{w:World}{K:W.Frag}{mg:Str->Option Value}{base:Heap}{j k:Nat}{x:Str}{f:Addr}{fd:FuncData}{ps:List Str}{sp:Sp}(F:FnD1 P w K mg base j x f fd ps sp) (h:j<=k):FnD1 P w K mg base k x f fd ps sp:=⟨F.ok.mono h,F.bd0,F.bd1,F.kp,F.gl⟩
noncomputable def kdV (kds:List 70):List 90:=kds.map λ p=>((Sum.inr p.1:Key),V.str p.2)
def KdsAt (H:Hp) (ka:Addr) (kds:List 70):Prop:=∃(o:Obj) (ys:List V),H ka=some (.frz o (.tup ys))/\o.dict=none/\Paired (PrV H) ys (kdV kds)
def OfK (kd:V) (t:Tr):Prop:=kd = .non\/(kd = .str "quiet" /\ QuT t)\/(kd = .str "number" /\ t.kd = .num)
def NoG (t:Tr):Prop:=∀p∈t.subs,¬p.kd = .gap
def FzP (H:Hp) (ps:List 70) (b:Addr):Prop:=∃(o:Obj) (us:List V),H b=some (.frz o (.tup us))/\o.dict=none/\Paired (PrRep H) ps us
theorem FzP.w {H:Hp}{ps:List 70}{b:Addr}:FzP H ps b->PsW H ps b
 |⟨o,us,h,_,p⟩=>⟨us,.inr ⟨o,h⟩,p⟩
theorem FzP.same {H H':Hp}(g:Same H H') {ps:List 70}{b:Addr}:FzP H ps b->FzP H' ps b
 |⟨o,us,h,d,p⟩=>⟨o,us,g _ _ h,d,Paired.mapP p λ Ω Ω z=>z.mono g.tk⟩
noncomputable def opV:Option Str->V
 |none=>.non
 |some x=>.str x
theorem zFd (x:Str):∀(rs:List 70) (i:Nat),(∀p∈rs.take i,p.2≠x)->bnd x rs=bnd x (rs.drop i)
 |rs,0,_=>rfl
 |[],i+1,_=>rfl
 |p::r,i+1,h=>by
  have h1:=h p 59;rw[bnd,if_neg h1,List.drop_succ_cons];exact zFd x r i λ q hq=>h q (by simp[hq])
theorem zKR (o:Option Str):flatV (opV o)=true:=by cases o<;>rfl
theorem zJ4 (as:List Str):((as.map V.str)++[V.non]).all flatV=true:=by
 rw[List.all_append,List.all_map];simp[flatV,Function.comp]
theorem zMs (o:Option Str) (as:List Str):inV (opV o) ((as.map V.str)++[V.non])=decide (∀y,o=some y->y∈as):=by
 unfold inV;rw[List.any_append,Bool.eq_iff_iff,decide_eq_true_iff];cases o with
 |none=>simp[opV,eqV]
 |some x =>
  rw[List.any_map];simp only[Bool.or_eq_true,List.any_eq_true,Function.comp,opV,eqV];constructor
  ·rintro (⟨y,hy,e⟩|h)
   ·intro z hz;cases hz
    have:y=x:=by simpa using e
    rw[←this];exact hy
   ·simp at h
  ·intro h
   exact .inl ⟨x,h x rfl,by simp⟩
theorem zGw {x a:Str}:∀{rs:List 70},bnd x rs=some a->(a,x)∈rs
 |[],h=>by cases h
 |p::r,h=>by
  rw[bnd] at h
  by_cases c:p.2=x
  ·rw[if_pos c] at h
   cases h;rw[←c];exact lO
  ·rw[if_neg c] at h
   exact lP _ (zGw h)
noncomputable def kvP (ps:List 70):List 90:=ps.map λ p=>((Sum.inr p.1:Key),V.str p.2)
theorem zLK {ps:List 70}(nd:(ps.map (·.1)).Nodup) {a x y:Str}(h1:(a,x)∈ps) (h2:(a,y)∈ps):x=y:=by
 induction ps with
 |nil=>cases h1
 |cons p r ih =>
  rw[mJ,nY] at nd;rcases lM.mp h1 with z1|z1<;>rcases lM.mp h2 with z2|z2
  ·rw[←z1] at z2;exact(Prod.mk.inj z2).2.symm
  ·rw[←z1] at nd;exact absurd (mB.mpr ⟨_,z2,rfl⟩) nd.1
  ·rw[←z2] at nd;exact absurd (mB.mpr ⟨_,z1,rfl⟩) nd.1
  ·exact ih nd.2 z1 z2
theorem zIQ {ps:List 70}(nd:(ps.map (·.1)).Nodup) {a n:Str}(h:(a,n)∈ps):valV (zA5 [] (kvP ps)) (Sum.inr a:Key)=some (.str n):=by
 rw[zCl]
 have:∀l:List 70,(∀y,(a,y)∈l->y=n)->(a,n)∈l->valV (kvP l) (Sum.inr a:Key)=some (.str n):=λ l=>by
  induction l with
  |nil=>exact λ Ω h=>nomatch h
  |cons p r ih =>
   intro hu hm
   by_cases c:p.1=a
   ·have:p.2=n:=hu p.2 (by rw[←c];exact lO)
    rw[show kvP (p::r)=((Sum.inr p.1:Key),V.str p.2)::kvP r from rfl,zA0 (by rw[c]),this]
   ·rw[show kvP (p::r)=((Sum.inr p.1:Key),V.str p.2)::kvP r from rfl,zA1 (λ z=>c (Sum.inr.inj z))]
    refine ih (λ y hy=>hu y (lP _ hy)) ?_;rcases lM.mp hm with z|z
    ·rw[←z] at c;exact absurd rfl c
    ·exact z
 have e:(kvP ps).reverse=kvP ps.reverse:=by unfold kvP;rw[List.map_reverse]
 rw[e,this ps.reverse (λ y hy=>zLK nd (List.mem_reverse.mp hy) h) (List.mem_reverse.mpr h)]
structure Dn (t:Tr) (as:List Str) (rs:List (Str × Str)) (N:List Str) (i:Nat) (L:List Str):Prop where
 len:L.length=as.length
 rest:∀(j:Nat) (x:Str),i<=j->N[j]?=some x->L[j]?=some x
 at_:∀(j:Nat) (x a:Str),j<i->L[j]?=some x->as[j]?=some a->bnd x rs=some a\/x∉t.wrds
 kp:∀(j:Nat) (a n:Str),j<i->as[j]?=some a->N[j]?=some n->bnd n rs=some a->L[j]?=some n
 sep:∀(j k:Nat) (x y:Str),j<k->L[j]?=some x->L[k]?=some y->(k<i\/(j<i/\∃a,as[k]?=some a/\bnd y rs=some a))->x≠y
theorem Dn.zero {t:Tr}{as:List Str}{rs:List 70}{N:List Str}(h:N.length=as.length):Dn t as rs N 0 N :=
 ⟨h,λ Ω Ω Ω e=>e,λ Ω Ω Ω h=>absurd h (Nat.not_lt_zero _),λ Ω Ω Ω h=>absurd h (Nat.not_lt_zero _),λ j k x y Ω Ω Ω h=>by
  rcases h with h|⟨h,_⟩<;>exact absurd h (Nat.not_lt_zero _)⟩
theorem Dn.good {t:Tr}{as:List Str}{rs:List 70}{N L:List Str}{i:Nat}{n a:Str}(h:Dn t as rs N i L) (nd:as.Nodup) (en:N[i]?=some n) (ea:as[i]?=some a) (hb:bnd n rs=some a):Dn t as rs N (i+1) L:=by
 have el:=h.rest i n (lQ _) en;refine⟨h.len,λ j x hj e=>h.rest j x 65 e,λ j x b hj e1 e2=>?_,λ j b m hj e1 e2 e3=>?_,λ j k x y hjk e1 e2 e3=>?_⟩
 ·by_cases c:j=i
  ·subst c
   rw[el] at e1;rw[ea] at e2;cases e1;cases e2;exact .inl hb
  ·exact h.at_ j x b 65 e1 e2
 ·by_cases c:j=i
  ·subst c
   exact h.rest _ _ (lQ _) e2
  ·exact h.kp j b m 65 e1 e2 e3
 ·rcases e3 with e3|⟨e3,b,e4,e5⟩
  ·by_cases c:k=i
   ·subst c
    rw[el] at e2;cases e2;exact h.sep j k x n hjk e1 el (.inr ⟨hjk,a,ea,hb⟩)
   ·exact h.sep j k x y hjk e1 e2 (.inl 65)
  ·by_cases c:j=i
   ·subst c
    rw[el] at e1;cases e1;rintro rfl;rw[hb] at e5;cases e5;have h1:=zEg nd ea;have h2:=zEg nd e4
    lia
   ·exact h.sep j k x y hjk e1 e2 (.inr ⟨by lia,b,e4,e5⟩)
theorem Dn.bad {t:Tr}{as:List Str}{rs:List 70}{N L:List Str}{i:Nat}{n a m:Str}(h:Dn t as rs N i L) (en:N[i]?=some n) (ea:as[i]?=some a) (hb:¬bnd n rs=some a) (m1:m∉t.wrds) (m2:m∉L):Dn t as rs N (i+1) (L.set i m):=by
 have hi:i<L.length:=by rw[h.len];exact(lI.mp ea).1
 have es:(L.set i m)[i]?=some m:=by rw[rC hi]
 have eo:∀j,j≠i->(L.set i m)[j]?=L[j]?:=λ j hj=>by rw[List.getElem?_set_ne (Ne.symm hj)]
 refine⟨by rw[List.length_set];exact h.len,λ j x hj e=>?_,λ j x b hj e1 e2=>?_,λ j b x hj e1 e2 e3=>?_,λ j k x y hjk e1 e2 e3=>?_⟩
 ·rw[eo j 65]
  exact h.rest j x 65 e
 ·by_cases c:j=i
  ·subst c
   rw[es] at e1;cases e1;exact .inr m1
  ·rw[eo j c] at e1
   exact h.at_ j x b 65 e1 e2
 ·by_cases c:j=i
  ·subst c
   rw[ea] at e1;rw[en] at e2;cases e1;cases e2;exact absurd e3 hb
  ·rw[eo j c]
   exact h.kp j b x 65 e1 e2 e3
 ·by_cases c:j=i
  ·subst c
   rw[es] at e1;cases e1;rw[eo k 65] at e2;rintro rfl;exact m2 (lK e2)
  ·rw[eo j c] at e1
   by_cases d:k=i
   ·subst d
    rw[es] at e2;cases e2;rintro rfl;exact m2 (lK e1)
   ·rw[eo k d] at e2
    refine h.sep j k x y hjk e1 e2 ?_;rcases e3 with e3|⟨e3,e4⟩
    ·exact .inl 65
    ·exact .inr ⟨by lia,e4⟩
theorem Dn.pn {t:Tr}{as:List Str}{ps:List 70}{N L:List Str}(h:Dn t as ps.reverse N as.length L) (nd:(ps.map (·.1)).Nodup) (hN:∀(i:Nat) (a:Str),as[i]?=some a->∃n,N[i]?=some n/\(a,n)∈ps):PN t as ps.reverse L:=by
 refine⟨h.len,?_,λ i x a e1 e2=>h.at_ i x a (lI.mp e2).1 e1 e2,λ i a x e1 e2=>?_⟩
 ·rw[List.nodup_iff_pairwise_ne,List.pairwise_iff_getElem]
  intro i j hi hj hij;exact h.sep i j _ _ hij (lV hi) (lV hj) (.inl (by rw[←h.len];exact hj))
 ·obtain⟨n,en,hn⟩:=hN i a e1
  have:=zLK nd hn (List.mem_reverse.mp (zGw e2));subst this;exact h.kp i a n (lI.mp e1).1 e1 en e2
theorem zHR {ps:List 70}:∀{as:List Str},(∀x∈as,x∈ps.map (·.1))->∃N:List Str,N.length=as.length/\∀(i:Nat) (x:Str),as[i]?=some x->∃n,N[i]?=some n/\(x,n)∈ps
 |[],_=>⟨[],rfl,λ i a h=>by cases h⟩
 |x::r,hin=>by
  obtain⟨N,l,h⟩:=zHR (as:=r) λ y hy=>hin y (lP _ hy);obtain⟨p,hp,rfl⟩:=mB.mp (hin x lO);refine⟨p.2::N,by rw[mK,mK,l],λ i y hy=>?_⟩
  match i,hy with
  |0,hy=>cases hy;exact⟨_,rfl,hp⟩
  |i+1,hy=>exact h i y hy
theorem zMe (o:Option Str) (a:Str):(!decide (opV o=V.str a))=!decide (o=some a):=by
 cases o with
 |none=>simp[opV]
 |some x=>simp[opV]
structure FlG {α:Type}(R:α->V->Prop) (φ:List (Str × α)) (kvs:List (Key × V)):Prop where
 pr:Paired (λ(q:Str × α) (kv:Key × V)=>kv.1=Sum.inr q.1/\R q.2 kv.2) φ kvs
 nd:(φ.map (·.1)).Nodup
theorem FlG.imp {α:Type}{R R':α->V->Prop}{φ:List (Str × α)}{kvs:List 90}(h:FlG R φ kvs) (k:∀a v,R a v->R' a v):FlG R' φ kvs:=⟨Paired.mapP h.pr λ Ω Ω z=>⟨z.1,k _ _ z.2⟩,h.nd⟩
theorem zHa {α:Type}{R:α->V->Prop}{g:Str}{φ:List (Str × α)}{kvs:List 90}(h:Paired (λ(q:Str × α) (kv:Key × V)=>kv.1=Sum.inr q.1/\R q.2 kv.2) φ kvs) (e:valV kvs (Sum.inr g:Key)=none):∀u,(g,u)∉φ:=by
 induction h with
 |nil=>exact λ u m=>nomatch m
 | @cons q kv _ _ r _ ih =>
  intro u m
  by_cases c:kv.1=(Sum.inr g:Key)
  ·rw[zA0 c] at e
   cases e
  ·rw[zA1 c] at e
   rcases lM.mp m with z|z
   ·rw[←z] at r
    exact c r.1
   ·exact ih e u z
theorem zJg {α:Type}{R:α->V->Prop}{g:Str}{v:V}{φ:List (Str × α)}{kvs:List 90}(h:Paired (λ(q:Str × α) (kv:Key × V)=>kv.1=Sum.inr q.1/\R q.2 kv.2) φ kvs) (e:valV kvs (Sum.inr g:Key)=some v):∃t,(g,t)∈φ/\R t v:=by
 induction h with
 |nil=>cases e
 | @cons q kv _ _ r _ ih =>
  by_cases c:kv.1=(Sum.inr g:Key)
  ·rw[zA0 c] at e
   cases e;have:q.1=g:=Sum.inr.inj (r.1.symm.trans c);subst this;exact⟨q.2,lO,r.2⟩
  ·rw[zA1 c] at e
   obtain⟨t',m,p⟩:=ih e;exact⟨t',lP _ m,p⟩
theorem zGl {α:Type}{φ:List (Str × α)}(nd:(φ.map (·.1)).Nodup) {g:Str}{t u:α}(h:(g,t)∈φ) (k:(g,u)∈φ):t=u:=by
 induction φ with
 |nil=>cases h
 |cons p φ ih =>
  rw[mJ,nY] at nd;rcases lM.mp h with h1|h1<;>rcases lM.mp k with k1|k1
  ·rw[←h1] at k1
   exact(Prod.mk.inj k1).2.symm
  ·rw[←h1] at nd
   exact absurd (mB.mpr ⟨(g,u),k1,rfl⟩) nd.1
  ·rw[←k1] at nd
   exact absurd (mB.mpr ⟨(g,t),h1,rfl⟩) nd.1
  ·exact ih nd.2 h1 k1
theorem FlG.put {α:Type}{R:α->V->Prop}{φ:List (Str × α)}{kvs:List 90}(h:FlG R φ kvs) {g:Str}{t:α}{v:V}(e:valV kvs (Sum.inr g:Key)=none) (r:R t v):FlG R (φ++[(g,t)]) (putK kvs (Sum.inr g) v):=by
 rw[zFM _ e];refine⟨Paired.snoc h.pr ⟨rfl,r⟩,?_⟩;rw[mN,List.nodup_append];refine⟨h.nd,by simp,λ a ha b hb=>?_⟩;rw[mO.mp hb];rintro rfl;obtain⟨q,hq,rfl⟩:=mB.mp ha;exact zHa h.pr e _ hq
def PcR (H:Hp) (q:List Str × Tr) (v:V):Prop:=∃p nt u,v = .ref p/\H p=some (.tup [.ref nt,u])/\H nt=some (.tup (q.1.map V.str))/\Rep H q.2 u
theorem PcR.mono {H H':Hp}(k:Tk H H') {q:List Str × Tr}{v:V}:PcR H q v->PcR H' q v
 |⟨p,nt,u,e,h1,h2,r⟩=>⟨p,nt,u,e,k _ _ h1,k _ _ h2,r.mono k⟩
noncomputable def dueO (as:List Str) (ps:List 70) (t:Tr):Dt:=blT (kapL as ps.reverse) 0 t
inductive Oc3:Trip->Str->Dt->Prop
 |here {g:Str}{as:List Str}{t:Tr}{ps:List (Str × Str)}:Oc3 (.gap g (as.map Atom.name),t,ps) g (dueO as ps t)
 |part {s t:Tr}{ps:List (Str × Str)}{q:Trip}{g:Str}{d:Dt}:¬s.kd = .gap->q∈kids2 s t ps->Oc3 q g d->Oc3 (s,t,ps) g d
def OkG (κ:Str->V) (g:Str) (as:List Str) (t:Tr) (ps:List 70):Prop:=OfK (κ g) t/\NoOth t as ps.reverse
inductive Bd3 (κ:Str->V):Trip->Prop
 |gap {g:Str}{as:List Str}{t:Tr}{ps:List (Str × Str)}:¬OkG κ g as t ps->Bd3 κ (.gap g (as.map Atom.name),t,ps)
 |here {s t:Tr}{ps:List (Str × Str)}:¬s.kd = .gap->¬hdA s t ps=true->Bd3 κ (s,t,ps)
 |part {s t:Tr}{ps:List (Str × Str)}{q:Trip}:¬s.kd = .gap->q∈kids2 s t ps->Bd3 κ q->Bd3 κ (s,t,ps)
theorem zLJ {as bs:List Str}(h:as.map Atom.name=bs.map Atom.name):as=bs:=by
 induction as generalizing bs with
 |nil=>cases bs with
  |nil=>rfl
  |cons b bs=>cases h
 |cons a as ih=>cases bs with
  |nil=>cases h
  |cons b bs =>
   rw[mJ,mJ] at h;injection h with h1 h2
   injection h1 with h1
   rw[h1,ih h2]
theorem zF3 {g g':Str}{as:List Str}{t:Tr}{ps:List 70}{d:Dt}(h:Oc3 (.gap g (as.map Atom.name),t,ps) g' d):g'=g/\d=dueO as ps t:=by
 generalize e:((Tr.gap g (as.map Atom.name),t,ps):Trip)=x at h;cases h with
 |here =>
  injection e with e1 e2
  injection e1 with e1 e3
  injection e2 with e2 e4
  exact⟨e1.symm,by rw[zLJ e3,e2,e4]⟩
 |part n _ _ =>
  injection e with e1 e2
  rw[←e1] at n;exact absurd rfl n
theorem zM1 {κ:Str->V}{g:Str}{as:List Str}{t:Tr}{ps:List 70}(h:Bd3 κ (.gap g (as.map Atom.name),t,ps)):¬OkG κ g as t ps:=by
 generalize e:((Tr.gap g (as.map Atom.name),t,ps):Trip)=x at h;cases h with
 |gap n =>
  injection e with e1 e2
  injection e1 with e1 e3
  injection e2 with e2 e4
  rw[e1,zLJ e3,e2,e4];exact n
 |here n _=>injection e with e1 e2;rw[←e1] at n;exact absurd rfl n
 |part n _ _=>injection e with e1 e2;rw[←e1] at n;exact absurd rfl n
theorem oc_in {s t:Tr}{ps:List 70}{g:Str}{d:Dt}(n:¬s.kd = .gap):Oc3 (s,t,ps) g d↔∃x∈kids2 s t ps,Oc3 x g d:=by
 constructor
 ·intro h
  cases h with
  |here=>exact absurd rfl n
  |part _ m o=>exact⟨_,m,o⟩
 ·rintro⟨x,m,o⟩
  exact .part n m o
structure Jn3 (κ:Str->V) (P:List Trip) (φ:List (Str × Dt)):Prop where
 nb:∀x∈P,¬Bd3 κ x
 cs:∀x∈P,∀g d,Oc3 x g d->∀y∈P,∀d',Oc3 y g d'->d=d'
 cf:∀x∈P,∀g d,Oc3 x g d->∀d',(g,d')∈φ->d=d'
theorem Jn3.nil {κ:Str->V}{φ:List (Str × Dt)}:Jn3 κ [] φ:=⟨(λ x h=>nomatch h),(λ x h=>nomatch h),(λ x h=>nomatch h)⟩
theorem Jn3.mem {κ:Str->V}{P P':List Trip}{φ:List (Str × Dt)}(h:∀x,x∈P'->x∈P) (j:Jn3 κ P φ):Jn3 κ P' φ :=
 ⟨λ x hx=>j.nb x (h x hx),λ x hx g d o y hy=>j.cs x (h x hx) g d o y (h y hy),λ x hx=>j.cf x (h x hx)⟩
def OcP (P:List Trip) (φ:List (Str × Dt)) (g:Str) (d:Dt):Prop:=(g,d)∈φ\/∃x∈P,Oc3 x g d
theorem zHW {κ:Str->V}{s t:Tr}{ps:List 70}{P:List Trip}{φ:List (Str × Dt)}(n:¬s.kd = .gap) (h:¬hdA s t ps=true):¬Jn3 κ ((s,t,ps)::P) φ:=λ j=>j.nb _ lO (.here n h)
theorem zJR {κ:Str->V}{g:Str}{as:List Str}{t:Tr}{ps:List 70}{P:List Trip}{φ:List (Str × Dt)}(h:¬OkG κ g as t ps):¬Jn3 κ ((.gap g (as.map Atom.name),t,ps)::P) φ:=λ j=>j.nb _ lO (.gap h)
theorem zF8 {κ:Str->V}{g:Str}{as:List Str}{t:Tr}{ps:List 70}{P:List Trip}{φ:List (Str × Dt)}{d:Dt}(h:(g,d)∈φ) (n:¬dueO as ps t=d):¬Jn3 κ ((.gap g (as.map Atom.name),t,ps)::P) φ:=λ j=>n (j.cf _ lO g _ .here d h)
theorem zI5 {s t:Tr}{ps:List 70}{P:List Trip}(n:¬s.kd = .gap) (g:Str) (d:Dt):(∃x∈(s,t,ps)::P,Oc3 x g d)↔∃x∈P++kids2 s t ps,Oc3 x g d:=by
 constructor
 ·rintro⟨x,hx,o⟩
  rcases lM.mp hx with rfl|hx
  ·obtain⟨y,hy,o⟩:=(oc_in n).mp o
   exact⟨y,lZ _ hy,o⟩
  ·exact⟨x,mE _ hx,o⟩
 ·rintro⟨x,hx,o⟩
  rcases lJ.mp hx with hx|hx
  ·exact⟨x,lP _ hx,o⟩
  ·exact⟨_,lO,(oc_in n).mpr ⟨x,hx,o⟩⟩
theorem jn_in {κ:Str->V}{s t:Tr}{ps:List 70}{P:List Trip}{φ:List (Str × Dt)}(n:¬s.kd = .gap) (h:hdA s t ps=true):Jn3 κ ((s,t,ps)::P) φ↔Jn3 κ (P++kids2 s t ps) φ:=by
 have oc:=zI5 (P:=P) (t:=t) (ps:=ps) n
 have two:∀{P Q:List Trip},(∀g d,(∃x∈P,Oc3 x g d)↔∃x∈Q,Oc3 x g d)->(∀x∈Q,¬Bd3 κ x)->Jn3 κ P φ->Jn3 κ Q φ:=λ e nb j =>
  ⟨nb,λ x hx g d o z hz d' oz=>let ⟨y,hy,o'⟩:=(e g d).mpr ⟨x,hx,o⟩;let ⟨y2,hy2,o2⟩:=(e g d').mpr ⟨z,hz,oz⟩;j.cs y hy g d o' y2 hy2 d' o2,
  λ x hx g d o=>let ⟨y,hy,o'⟩:=(e g d).mpr ⟨x,hx,o⟩;j.cf y hy g d o'⟩
 constructor
 ·intro j
  refine two oc (λ x hx b=>?_) j;rcases lJ.mp hx with hx|hx
  ·exact j.nb x (lP _ hx) b
  ·exact j.nb _ lO (.part n hx b)
 ·intro j
  refine two (λ g d=>(oc g d).symm) (λ x hx b=>?_) j;rcases lM.mp hx with rfl|hx
  ·cases b with
   |gap _=>exact absurd rfl n
   |here _ nh=>exact nh h
   |part _ m b=>exact j.nb _ (lZ _ m) b
  ·exact j.nb x (mE _ hx) b
theorem zJS {κ:Str->V}{g:Str}{as:List Str}{t:Tr}{ps:List 70}{P:List Trip}{φ φ':List (Str × Dt)}(hk:OkG κ g as t ps) (hf:∀d,(g,d)∈φ->dueO as ps t=d) (h1:∀p∈φ,p∈φ') (h2:∀p∈φ',p∈φ\/p=(g,dueO as ps t)) (h3:(g,dueO as ps t)∈φ'):Jn3 κ ((.gap g (as.map Atom.name),t,ps)::P) φ↔Jn3 κ P φ':=by
 constructor
 ·intro j
  refine⟨λ x hx=>j.nb x (lP _ hx),λ x hx g d o y hy=>j.cs x (lP _ hx) g d o y (lP _ hy),λ x hx g' d o d' hd'=>?_⟩;rcases h2 _ hd' with z|z
  ·exact j.cf x (lP _ hx) g' d o d' z
  ·cases z
   exact j.cs x (lP _ hx) g d o _ lO _ .here
 ·intro j
  have one:∀x∈P,∀d,Oc3 x g d->d=dueO as ps t:=λ x hx d o=>j.cf x hx g d o _ h3;refine⟨λ x hx b=>?_,λ x hx g' d o y hy d' o'=>?_,λ x hx g' d o d' hd'=>?_⟩
  ·rcases lM.mp hx with rfl|hx
   ·exact zM1 b hk
   ·exact j.nb x hx b
  ·rcases lM.mp hx with rfl|hx1
   ·obtain⟨rfl,rfl⟩:=zF3 o
    rcases lM.mp hy with rfl|hy1
    ·exact(zF3 o').2.symm
    ·exact(one y hy1 d' o').symm
   ·rcases lM.mp hy with rfl|hy1
    ·obtain⟨rfl,rfl⟩:=zF3 o'
     exact one x hx1 d o
    ·exact j.cs x hx1 g' d o y hy1 d' o'
  ·rcases lM.mp hx with rfl|hx
   ·obtain⟨rfl,rfl⟩:=zF3 o
    exact hf d' hd'
   ·exact j.cf x hx g' d o d' (h1 _ hd')
theorem zGj {g:Str}{as:List Str}{t:Tr}{ps:List 70}{P:List Trip}{φ φ':List (Str × Dt)}(h1:∀p∈φ,p∈φ') (h2:∀p∈φ',p∈φ\/p=(g,dueO as ps t)) (h3:(g,dueO as ps t)∈φ') (g':Str) (d:Dt):OcP ((.gap g (as.map Atom.name),t,ps)::P) φ g' d↔OcP P φ' g' d:=by
 constructor
 ·rintro (h|⟨x,hx,o⟩)
  ·exact .inl (h1 _ h)
  ·rcases lM.mp hx with rfl|hx
   ·obtain⟨rfl,rfl⟩:=zF3 o
    exact .inl h3
   ·exact .inr ⟨x,hx,o⟩
 ·rintro (h|⟨x,hx,o⟩)
  ·rcases h2 _ h with z|z
   ·exact .inl z
   ·cases z
    exact .inr ⟨_,lO,.here⟩
  ·exact .inr ⟨x,lP _ hx,o⟩
theorem zF2 {s t:Tr}{ps:List 70}{P:List Trip}{φ:List (Str × Dt)}(n:¬s.kd = .gap) (g:Str) (d:Dt):OcP ((s,t,ps)::P) φ g d↔OcP (P++kids2 s t ps) φ g d:=or_congr Iff.rfl (zI5 n g d)
def Kf (H H':Hp):Prop:=Tk H H'/\∀b o u,H b=some (.frz o u)->H' b=some (.frz o u)
theorem Kf.refl (H:Hp):Kf H H:=⟨.refl _,λ Ω Ω Ω h=>h⟩
theorem Kf.trans {H H1 H2:Hp}(a:Kf H H1) (b:Kf H1 H2):Kf H H2:=⟨a.1.trans b.1,λ Ω Ω Ω h=>b.2 _ _ _ (a.2 _ _ _ h)⟩
theorem Same.kf {H H':Hp}(g:Same H H'):Kf H H':=⟨g.tk,λ Ω Ω Ω h=>g _ _ h⟩
theorem Kf.lst {H:Hp}{l:Addr}{xs ys:List V}(h:H l=some (.lst xs)):Kf H (upd H l (.lst ys)):=⟨Tk.lst h,λ b o u e=>by rw[zAR (λ z=>by rw[z,h] at e;cases e)];exact e⟩
theorem SbD.kf {d:Addr}{H H':Hp}(h:SbD d H H') {kvs:List 90}(e:H d=some 92):Kf H H':=⟨h.tk e,λ b o u hb=>h b _ (λ z=>by rw[z,e] at hb;cases hb) hb⟩
theorem FzP.mono {H H':Hp}(k:Kf H H') {ps:List 70}{b:Addr}:FzP H ps b->FzP H' ps b
 |⟨o,us,h,d,p⟩=>⟨o,us,k.2 _ _ _ h,d,Paired.mapP p λ Ω Ω z=>z.mono k.1⟩
def TripF (H:Hp) (q:Trip) (v:V):Prop:=∃a u w b,v = .ref a/\H a=some (.tup [u,w,.ref b])/\Rep H q.1 u/\Rep H q.2.1 w/\FzP H q.2.2 b
theorem TripF.mono {H H':Hp}(k:Kf H H') {q:Trip}{v:V}:TripF H q v->TripF H' q v
 |⟨a,u,w,b,e,h,r,s,z⟩=>⟨a,u,w,b,e,k.1 _ _ h,r.mono k.1,s.mono k.1,z.mono k⟩
theorem zCi {G:Str->Prop}{t p:Tr}(g:t.good G) (h:p∈t.parts):p.good G:=by
 cases t<;>simp only[Tr.parts,nK,mX,or_false] at h
 ·subst h;exact g
 ·rcases h with rfl|rfl
  ·exact g.1
  ·exact g.2
 ·rcases h with rfl|rfl|rfl
  ·exact g.1
  ·exact g.2.1
  ·exact g.2.2
 ·rcases h with rfl|rfl
  ·exact g.2.1
  ·exact g.2.2
theorem zIJ {G G':Str->Prop}(h:∀x,G x->G' x) {a:Atom}(g:a.good G):a.good G':=by
 cases a with
 |name x=>exact h x g
 |num x=>exact True.intro
 |gap x=>exact h x g
theorem zBX {G G':Str->Prop}(h:∀x,G x->G' x):∀{t:Tr},t.good G->t.good G'
 |.num _,_=>True.intro
 |.name x,g=>h x g
 |.ask x,g=>h x g
 |.stop x,g=>h x g
 |.gap x as,g=>⟨h x g.1,g.2.1,λ a ha=>zIJ h (g.2.2 a ha)⟩
 |.say a,g=>zBX h (t:=a) g
 |.bin _ a b,g=>⟨zBX h g.1,zBX h g.2⟩
 |.ite a b c,g=>⟨zBX h g.1,zBX h g.2.1,zBX h g.2.2⟩
 |.lett x a b,g=>⟨h x g.1,zBX h g.2.1,zBX h g.2.2⟩
theorem zBW {G:Str->Prop}:∀{t:Tr},t.good G->∀z∈t.wrds,G z
 |.num _,_,z,hz=>by simp[Tr.wrds,Tr.names] at hz
 |.name x,g,z,hz=>by
  have:z=x:=by simpa[Tr.wrds,Tr.names] using hz
  rw[this];exact g
 |.ask _,_,z,hz=>by simp[Tr.wrds,Tr.names] at hz
 |.stop _,_,z,hz=>by simp[Tr.wrds,Tr.names] at hz
 |.gap x as,g,z,hz=>by
  obtain⟨a,ha,hz⟩:=mU.mp (show z∈as.flatMap _ from hz);cases a with
  |name y =>
   have:z=y:=by simpa[Atom.names] using hz
   rw[this];exact g.2.2 _ ha
  |num y=>simp[Atom.names] at hz
  |gap y=>simp[Atom.names] at hz
 |.say a,g,z,hz=>zBW (t:=a) g z hz
 |.bin _ a b,g,z,hz=>by
  rcases lJ.mp (show z∈a.wrds++b.wrds from hz) with k|k
  ·exact zBW g.1 z k
  ·exact zBW g.2 z k
 |.ite a b c,g,z,hz=>by
  rcases lJ.mp (show z∈a.wrds++(b.wrds++c.wrds) from hz) with k|k
  ·exact zBW g.1 z k
  ·rcases lJ.mp k with k|k
   ·exact zBW g.2.1 z k
   ·exact zBW g.2.2 z k
 |.lett x a b,g,z,hz=>by
  rcases lM.mp (show z∈x::(a.wrds++b.wrds) from hz) with k|k
  ·rw[k];exact g.1
  ·rcases lJ.mp k with k|k
   ·exact zBW g.2.1 z k
   ·exact zBW g.2.2 z k
def LOk (cnt:Str->Nat):Tr->List Str->Prop
 |.gap g as,bs=>∃ns:List Str,as=ns.map Atom.name/\ns.Nodup/\(∀x∈ns,x∈bs)/\ns.length=cnt g
 |.name x,bs=>x∈bs
 |.say a,bs=>LOk cnt a bs
 |.bin _ a b,bs=>LOk cnt a bs/\LOk cnt b bs
 |.ite a b c,bs=>LOk cnt a bs/\LOk cnt b bs/\LOk cnt c bs
 |.lett x a b,bs=>x∉bs/\LOk cnt a bs/\LOk cnt b (bs++[x])
 |_,_=>True
structure Pok3 (cnt:Str->Nat) (W:List Str) (q:Trip):Prop where
 lo:LOk cnt q.1 (q.2.2.map (·.1))
 nd:(q.2.2.map (·.1)).Nodup
 gw:∀p∈q.2.2,p.2∈W
 ng:ngT q.2.1
 gd:q.2.1.good (λ x=>x∈W)
 sz:q.2.1.size<=300
 dp:q.2.2.length+q.1.size<=300
theorem Pok3.kids {cnt:Str->Nat}{W:List Str}{s t:Tr}{ps:List 70}(h:Pok3 cnt W (s,t,ps)) (hk:s.kd=t.kd) {q:Trip}(hq:q∈kids2 s t ps):Pok3 cnt W q:=by
 obtain⟨lo,nd,gw,ng,gd,sz,dp⟩:=h;dsimp only at lo nd gw ng gd sz dp;have mk:∀{a b:Tr},LOk cnt a (ps.map (·.1))->ngT b->b.good (λ x=>x∈W)->b.size<=t.size->a.size<=s.size->Pok3 cnt W (a,b,ps):=λ l n g z z2=>⟨l,nd,gw,n,g,mF z sz,by show ps.length+_<=300;lia⟩;rcases zBz hk with ⟨n,m,rfl,rfl⟩|⟨n,m,rfl,rfl⟩|⟨n,m,rfl,rfl⟩|⟨n,m,rfl,rfl⟩|⟨g,as,g',as',rfl,rfl⟩|⟨a,a',rfl,rfl⟩|⟨o,a,b,a',b',rfl,rfl⟩|⟨a,b,c,a',b',c',rfl,rfl⟩|⟨x,a,b,y,a',b',rfl,rfl⟩
 ·cases hq
 ·cases hq
 ·cases hq
 ·cases hq
 ·cases hq
 ·rw[mO.mp hq]
  exact mk lo ng gd (by simp only[Tr.size];lia) (by simp only[Tr.size];lia)
 ·rcases lM.mp hq with rfl|hq
  ·exact mk lo.1 ng.1 gd.1 (by simp only[Tr.size];lia) (by simp only[Tr.size];lia)
  ·rw[mO.mp hq]
   exact mk lo.2 ng.2 gd.2 (by simp only[Tr.size];lia) (by simp only[Tr.size];lia)
 ·rcases lM.mp hq with rfl|hq
  ·exact mk lo.1 ng.1 gd.1 (by simp only[Tr.size];lia) (by simp only[Tr.size];lia)
  ·rcases lM.mp hq with rfl|hq
   ·exact mk lo.2.1 ng.2.1 gd.2.1 (by simp only[Tr.size];lia) (by simp only[Tr.size];lia)
   ·rw[mO.mp hq]
    exact mk lo.2.2 ng.2.2 gd.2.2 (by simp only[Tr.size];lia) (by simp only[Tr.size];lia)
 ·rcases lM.mp hq with rfl|hq
  ·exact mk lo.2.1 ng.1 gd.2.1 (by simp only[Tr.size];lia) (by simp only[Tr.size];lia)
  ·rw[mO.mp hq]
   have hs:(Tr.lett x a b).size=a.size+b.size+1:=rfl;have ht:(Tr.lett y a' b').size=a'.size+b'.size+1:=rfl;refine⟨by rw[mN];exact lo.2.2,?_,λ p hp=>?_,ng.2,gd.2.2,by show b'.size<=300;lia,by show (ps++[(x,y)]).length+b.size<=300;rw[mI,List.length_singleton];lia⟩
   ·rw[mN,List.nodup_append]
    refine⟨nd,by simp,λ u hu v hv e=>?_⟩;have:v=x:=by simpa using hv
    rw[e,this] at hu;exact lo.1 hu
   ·rcases lJ.mp hp with h|h
    ·exact gw p h
    ·rw[mO.mp h];exact gd.1
theorem zDB:∀{t:Tr},ngT t->NoG t
 |.num _,_,p,hp=>by rw[mO.mp hp];nofun
 |.name _,_,p,hp=>by rw[mO.mp hp];nofun
 |.ask _,_,p,hp=>by rw[mO.mp hp];nofun
 |.stop _,_,p,hp=>by rw[mO.mp hp];nofun
 |.say a,h,p,hp=>by
  rcases lM.mp hp with rfl|hp
  ·nofun
  ·exact zDB (t:=a) h p hp
 |.bin o a b,h,p,hp=>by
  rcases lM.mp hp with rfl|hp
  ·cases o<;>nofun
  ·rcases lJ.mp hp with hp|hp
   ·exact zDB h.1 p hp
   ·exact zDB h.2 p hp
 |.ite a b c,h,p,hp=>by
  rcases lM.mp hp with rfl|hp
  ·nofun
  ·rcases lJ.mp hp with hp|hp
   ·exact zDB h.1 p hp
   ·rcases lJ.mp hp with hp|hp
    ·exact zDB h.2.1 p hp
    ·exact zDB h.2.2 p hp
 |.lett x a b,h,p,hp=>by
  rcases lM.mp hp with rfl|hp
  ·nofun
  ·rcases lJ.mp hp with hp|hp
   ·exact zDB h.1 p hp
   ·exact zDB h.2 p hp
noncomputable def kid3 (q:Trip):List Trip:=if q.1.kd = .gap then [] else kids2 q.1 q.2.1 q.2.2
theorem zG7 (L:List Trip):L.length<=tot2 L:=by
 induction L with
 |nil=>exact lQ _
 |cons q L ih =>
  have:=zAu q.1;rw[zBt,mK]
  lia
noncomputable def duP (q:Str × (List Str × Tr)):Str × Dt:=(q.1,blT (kapN q.2.1) 0 q.2.2)
structure FOk (cnt:Str->Nat) (W:List Str) (q:Str × (List Str × Tr)):Prop where
 ln:q.2.1.length=cnt q.1
 nd:q.2.1.Nodup
 gw:∀x∈q.2.1,GW x
 ng:ngT q.2.2
 gd:q.2.2.good (λ x=>x∈W)
 sz:q.2.2.size<=300
noncomputable def wKd (kds:List 70) (g:Str):V:=(valV (zA5 [] (kdV kds)) (Sum.inr g:Key)).getD .non
theorem SbD.put {d x:Addr}{H H':Hp}(h:SbD d H H') (hx:H x=none) (o:HO):SbD d H (upd H' x o):=λ b u n e=>by rw[zAR (zAL e hx)];exact h b u n e
noncomputable def numV (cs:List Nat):List V:=cs.map λ(n:Nat)=>V.int (n:Int)
theorem zEB:∀{ks T:List Str},ks.Nodup->(∀g∈ks,g∈T)->ks.length<=T.length
 |[],_,_,_=>lX _
 |k::ks,T,nd,h=>by
  obtain⟨n1,n2⟩:=nY.mp nd;have hk:=h k lO;have ih:=zEB (ks:=ks) (T:=T.erase k) n2 λ g hg=>(List.mem_erase_of_ne (λ e=>n1 (by rw[←e];exact hg))).mpr (h g (lP _ hg));rw[List.length_erase_of_mem hk] at ih;have:=List.length_pos_of_mem hk;rw[mK]
  lia
theorem zGB (x:Str) (ws:List Str):inV (V.str x) (ws.map V.str)=true↔x∈ws:=by
 unfold inV;rw[List.any_eq_true];constructor
 ·rintro⟨v,hv,e⟩
  obtain⟨y,hy,rfl⟩:=mB.mp hv;have:y=x\/x=y:=by first|exact .inl (by simpa using e)|exact .inr (by simpa using e)|(simp[eqV] at e;first|exact .inl e|exact .inr e)
  rcases this with rfl|rfl<;>exact hy
 ·intro h
  exact⟨_,mB.mpr ⟨x,h,rfl⟩,by first|simp|simp[eqV]⟩
theorem zGE {z:Array Nat}(hz:z=#[]):∀(r:List Nat) (acc:Array Nat),List.foldl (λ acc (p:Str)=>acc++z++p.cps) acc (r.map λ c=>(⟨#[c]⟩:Str))=acc++r.toArray
 |[],acc=>by simp
 |c::r,acc=>by
  rw[mJ,List.foldl_cons,zGE hz r];subst hz;simp
theorem zIF {z:Str}(hz:z.cps=#[]) (cs:List Nat):(Txt.join z (cs.map λ c=>(⟨#[c]⟩:Str))).cps=cs.toArray:=by
 unfold Txt.join Builtin.Str.glued;cases cs with
 |nil=>rfl
 |cons c r =>
  show List.foldl (λ acc (p:Str)=>acc++z.cps++p.cps) #[c] (r.map λ c=>(⟨#[c]⟩:Str))=_;rw[zGE hz];simp
noncomputable def ltD (L:Str) (n:Nat):Nat:=L.cps.toList.getD n 0
theorem zEE {α:Type}(p:α->Bool):∀l:List α,(l.filter p).length+(l.filter λ x=>!p x).length=l.length
 |[]=>rfl
 |a::l=>by
  have ih:=zEE p l;cases h:p a<;>simp[h]<;>lia
noncomputable def zBs (L:Str) (ns:List Nat) (p s k:Nat):Str:=⟨((ns.set p ((s+k+1) % 26)).map (ltD L)).toArray⟩
theorem zKC {L:Str}(hL:L.cps.toList.length=26) (nd:L.cps.toList.Nodup) {ns:List Nat}{p s i j:Nat}(hp:p<ns.length) (hi:i<26) (hj:j<26) (e:zBs L ns p s i=zBs L ns p s j):i=j:=by
 unfold zBs at e
 have e1:(ns.set p ((s+i+1) % 26)).map (ltD L)=(ns.set p ((s+j+1) % 26)).map (ltD L):=by
  have:=congrArg (λ x:Str=>x.cps.toList) e;simpa using this
 have e2:=congrArg (λ l=>l[p]?) e1;simp[hp] at e2;unfold ltD at e2;have h1:(s+i+1) % 26<L.cps.toList.length:=by lia
 have h2:(s+j+1) % 26<L.cps.toList.length:=by lia
 rw[List.getD_eq_getElem?_getD,List.getD_eq_getElem?_getD,nL h1,nL h2] at e2;simp only[Option.getD_some] at e2;have:=(List.getElem_inj nd).mp e2
 lia
noncomputable def kept11:List Str:=["let", "in", "if", "then", "else", "say", "ask", "stop", "where", "quiet", "number"]
theorem zKg (ns:List Nat) (p n:Nat):(numV ns).set p (.int (n:Int))=numV (ns.set p n):=by unfold numV;rw[List.map_set]
theorem pickS {L:List Str}{i:Int}(h0:0<=i) (h1:i<L.length):∃x,x∈L/\atI (L.map V.str) i=some (.str x):=by
 have hl:i.toNat<L.length:=by lia
 refine⟨L[i.toNat],List.getElem_mem hl,?_⟩;have:=zAc (xs:=L.map V.str) (j:=i.toNat) (v:=.str L[i.toNat]) (by rw[mH,nL hl];rfl)
 rwa [show ((i.toNat:Nat):Int)=i by lia] at this
theorem pickM {L:List Str}(z:Int) (hl:0<L.length):∃x,x∈L/\atI (L.map V.str) (z % (((L.map V.str).length:Nat):Int))=some (.str x)/\(0:Int)<(((L.map V.str).length:Nat):Int):=by
 rw[lC];have b0:=nW z (show ((L.length:Nat):Int)≠0 by lia);have b1:=nX z (show (0:Int)<((L.length:Nat):Int) by lia);obtain⟨x,hx,atx⟩:=pickS (L:=L) b0 b1;exact⟨x,hx,atx,by lia⟩
theorem cs_at {cs:List Nat}{j:Nat}(h:j<cs.length):atI (numV cs) (j:Int)=some (.int ((cs.getD j 0:Nat):Int)):=by
 refine zAc ?_;unfold numV;rw[mH,nL h,List.getD_eq_getElem?_getD,nL h];rfl
def CsOk (cs:List Nat):Prop:=cs.length=6/\∀x∈cs,x<=3
theorem CsOk.le {cs:List Nat}(h:CsOk cs) (j:Nat):cs.getD j 0<=3:=by
 rw[List.getD_eq_getElem?_getD];cases e:cs[j]? with
 |none=>exact lX _
 |some x=>exact h.2 x (lK e)
theorem zJr (cells:List Int):cutV (cells.map V.int) (some 1) none=(cells.drop 1).map V.int:=by
 cases cells with
 |nil=>rfl
 |cons c r =>
  have e1:HT.sIx ((c::r).map V.int).length 0 (some 1)=1:=by
   have:=HT.sIx_nat ((c::r).map V.int).length 0 1;rw[show ((1:Nat):Int)=1 from rfl] at this;rw[this];simp
  unfold cutV;rw[e1,HT.sIx_none];simp;exact mS 59
theorem zLW (xs:List Int) (i:Nat) (h:i<=xs.length):cutV (xs.map V.int) none (some (i:Int))=(xs.take i).map V.int:=by
 have e:HT.sIx (xs.map V.int).length 0 none=0:=rfl;unfold cutV;rw[e,HT.sIx_nat,lC,nV h];simp
theorem zJq (xs:List Int) (i:Nat) (h:i<=xs.length):cutV (xs.map V.int) (some (i:Int)) none=(xs.drop i).map V.int:=by
 unfold cutV;rw[HT.sIx_nat,HT.sIx_none,lC,nV h];rw[←List.map_drop];exact mS 59
theorem zJ1 (z:Int):∃v,v∈[V.str "ask", V.str "stop"]/\atI [V.str "ask", V.str "stop"] (z % 2)=some v:=by
 rcases (show z % 2=0\/z % 2=1 by lia) with e|e<;>rw[e]
 ·exact⟨_,by simp,rfl⟩
 ·exact⟨_,by simp,rfl⟩
theorem zJw {X:Cx}:CallR X (.builtin "len") (rLen1 X.K):=zD5
def CsL (cs:List Nat):Prop:=CsOk cs/\∀j,3<=j->cs.getD j 0=0
noncomputable def cntO (ws:List Str) (cs:List Nat) (g:Str):Nat:=cs.getD (ws.idxOf g) 0
noncomputable def nlet:Tr->Nat
 |.say a=>nlet a
 |.bin _ a b=>nlet a+nlet b
 |.ite a b c=>nlet a+nlet b+nlet c
 |.lett _ a b=>nlet a+nlet b+1
 |_=>0
theorem pickI {L:List Str}{i:Int}(h0:0<=i) (h1:i<L.length):∃x,L[i.toNat]?=some x/\atI (L.map V.str) i=some (.str x):=by
 have hl:i.toNat<L.length:=by lia
 refine⟨L[i.toNat],lV hl,?_⟩;have:=zAc (xs:=L.map V.str) (j:=i.toNat) (v:=.str L[i.toNat]) (by rw[mH,nL hl];rfl)
 rwa [show ((i.toNat:Nat):Int)=i by lia] at this
theorem zLb {L:List Str}(nd:L.Nodup) (z:Int) {n:Nat}(h:n<=L.length):∃ns:List Str,ns.length=n/\ns.Nodup/\∀j,j<n->∃x,ns[j]?=some x/\L[((z+(j:Int)) % (L.length:Int)).toNat]?=some x/\x∈L:=by
 have hx:∀j:Nat,j<n->((z+(j:Int)) % (L.length:Int)).toNat<L.length:=λ j hj=>by
  have b0:=nW (z+(j:Int)) (show (L.length:Int)≠0 by lia);have b1:=nX (z+(j:Int)) (show (0:Int)<(L.length:Int) by lia)
  lia
 refine⟨(List.range n).map λ(j:Nat)=>L.getD ((z+(j:Int)) % (L.length:Int)).toNat default,by simp,?_,λ j hj=>?_⟩
 ·rw[List.nodup_iff_pairwise_ne,List.pairwise_iff_getElem]
  intro i j hi hj hij e;simp only[lC,List.length_range] at hi hj;have h1:=hx i hi;have h2:=hx j hj;simp only[List.getElem_map,List.getElem_range] at e;rw[List.getD_eq_getElem?_getD,List.getD_eq_getElem?_getD,nL h1,nL h2] at e
  have e2:((z+(i:Int)) % (L.length:Int)).toNat=((z+(j:Int)) % (L.length:Int)).toNat:=by
   have e':L[((z+(i:Int)) % (L.length:Int)).toNat]=L[((z+(j:Int)) % (L.length:Int)).toNat]:=e;have a1:=zEg nd (lV h1);have a2:=zEg nd (lV h2);rw[e'] at a1;exact a1.symm.trans a2
  have b0:=nW (z+(i:Int)) (show (L.length:Int)≠0 by lia);have b1:=nW (z+(j:Int)) (show (L.length:Int)≠0 by lia);have e3:(z+(i:Int)) % (L.length:Int)=(z+(j:Int)) % (L.length:Int):=by lia
  have e4:((z+(j:Int)) - (z+(i:Int))) % (L.length:Int)=0:=Int.emod_eq_emod_iff_emod_sub_eq_zero.mp e3.symm
  have e5:(L.length:Int) ∣ (j:Int) - (i:Int):=by
   have:=Int.dvd_of_emod_eq_zero e4
   rwa [show (z+(j:Int)) - (z+(i:Int))=(j:Int) - (i:Int) by lia] at this
  have:=Int.le_of_dvd 65 e5
  lia
 ·have hl:=hx j hj
  refine⟨L[((z+(j:Int)) % (L.length:Int)).toNat],?_,lV hl,List.getElem_mem hl⟩;rw[mH,List.getElem?_range hj];show some (L.getD _ _)=_;rw[List.getD_eq_getElem?_getD,nL hl];rfl
theorem SbD.tkl {d:Addr}{H H':Hp}(h:SbD d H H') {xs:List V}(e:H d=some (.lst xs)):Tk H H':=λ b xs hb=>h b _ (λ z=>by rw[z,e] at hb;cases hb) hb
theorem zCT {cnt:Str->Nat}:∀{t:Tr}{bs bs':List Str},(∀x,x∈bs↔x∈bs')->LOk cnt t bs->LOk cnt t bs'
 |.gap g as,bs,bs',h,⟨ns,e,nd,hin,l⟩=>⟨ns,e,nd,λ x hx=>(h x).mp (hin x hx),l⟩
 |.name x,bs,bs',h,k=>(h x).mp k
 |.say a,bs,bs',h,k=>zCT (t:=a) h k
 |.bin _ a b,bs,bs',h,k=>⟨zCT h k.1,zCT h k.2⟩
 |.ite a b c,bs,bs',h,k=>⟨zCT h k.1,zCT h k.2.1,zCT h k.2.2⟩
 |.lett x a b,bs,bs',h,k=>⟨λ z=>k.1 ((h x).mpr z),zCT h k.2.1,zCT (λ y=>by rw[nJ,nJ,h y]) k.2.2⟩
 |.num _,_,_,_,_=>trivial
 |.ask _,_,_,_,_=>trivial
 |.stop _,_,_,_,_=>trivial
structure LfI (H:Hp) (wl bl pl cl:Addr) (ws bd pw:List Str) (cs:List Nat):Prop where
 hw:H wl=some (.lst (ws.map V.str))
 hb:H bl=some (.lst (bd.map V.str))
 hp:H pl=some (.lst (pw.map V.str))
 hc:H cl=some (.lst (numV cs))
 nw:wl≠pl
 nb:bl≠pl
 nc:cl≠pl
 co:CsL cs
 lw:ws.length=12
 wn:ws.Nodup
 bn:bd.Nodup
 ib:∀x∈bd,x∈ws
 pn:pw.Nodup
 ip:∀x∈pw,x∈ws/\x∉bd
theorem LfI.to {H H':Hp}{wl bl pl cl:Addr}{ws bd pw pw' more:List Str}{cs:List Nat}(h:LfI H wl bl pl cl ws bd pw cs) (sd:SbD pl H H') (e:H' pl=some (.lst (pw'.map V.str))) (i:pw=pw'++more):LfI H' wl bl pl cl ws bd pw' cs :=
 ⟨sd _ _ h.nw h.hw,sd _ _ h.nb h.hb,e,sd _ _ h.nc h.hc,h.nw,h.nb,h.nc,h.co,h.lw,h.wn,h.bn,h.ib,(List.nodup_append.mp (i▸h.pn)).1,λ x hx=>h.ip x (i▸mE _ hx)⟩
theorem LfI.same {H H':Hp}{wl bl pl cl:Addr}{ws bd pw:List Str}{cs:List Nat}(h:LfI H wl bl pl cl ws bd pw cs) (g:Same H H'):LfI H' wl bl pl cl ws bd pw cs:=h.to g.sd (g _ _ h.hp) (nN _).symm
noncomputable def Tr.dep:Tr->Nat
 |.gap _ []=>1
 |.gap _ (_::_)=>2
 |.say a=>a.dep+1
 |.bin _ a b=>max a.dep b.dep+1
 |.ite a b c=>max a.dep (max b.dep c.dep)+1
 |.lett _ a b=>max a.dep b.dep+1
 |_=>1
theorem zCV (t:Tr):1<=t.dep:=by
 cases t with
 |gap g as=>cases as<;>simp[Tr.dep]
 |_=>simp[Tr.dep]
theorem zB4 {t p:Tr}(h:p∈t.parts):p.dep+1<=t.dep:=by
 cases t<;>simp only[Tr.parts,nK,mX,or_false] at h
 ·subst h;simp[Tr.dep]
 ·rcases h with rfl|rfl<;>simp[Tr.dep]<;>lia
 ·rcases h with rfl|rfl|rfl<;>simp[Tr.dep]<;>lia
 ·rcases h with rfl|rfl<;>simp[Tr.dep]<;>lia
theorem zK0 (t:Tr):t.dep<=t.size+1:=by
 induction t with
 |gap g as=>cases as<;>simp[Tr.dep,Tr.size]
 |say a ih=>simp only[Tr.dep,Tr.size];lia
 |bin o a b iha ihb=>simp only[Tr.dep,Tr.size];lia
 |ite a b c iha ihb ihc=>simp only[Tr.dep,Tr.size];lia
 |lett x a b iha ihb=>simp only[Tr.dep,Tr.size];lia
 |_=>simp[Tr.dep,Tr.size]
theorem zEC {t:Tr}{ps:List Tr}{D:Nat}(ng:¬t.kd = .gap) (hl:ps.length=t.parts.length) (hD:1<=D) (h:∀p∈ps,p.dep+1<=D):(t.withP ps).dep<=D:=by
 cases t with
 |gap g as=>exact absurd rfl ng
 |say b=>match ps,hl with | [c],_=>have:=h c 59;simp only[Tr.withP,Tr.dep];lia
 |bin o b c=>match ps,hl with | [x,y],_=>have:=h x 59;have:=h y 59;simp only[Tr.withP,Tr.dep];lia
 |ite b c d=>match ps,hl with | [x,y,z],_=>have:=h x 59;have:=h y 59;have:=h z 59;simp only[Tr.withP,Tr.dep];lia
 |lett n b c=>match ps,hl with | [x,y],_=>have:=h x 59;have:=h y 59;simp only[Tr.withP,Tr.dep];lia
 |_=>match ps,hl with | [],_=>exact hD
theorem ng_kd {t:Tr}(h:ngT t):¬t.kd = .gap:=λ z=>by
 obtain⟨g,as,rfl⟩:=kdS (k:=.gap) z;exact h
theorem Rep.row {H:Hp}{t:Tr}{v:V}(h:Rep H t v) (ng:¬t.kd = .gap):∃(a:Addr) (hd us:List V),v = .ref a/\H a=some (.tup (hd++us))/\hd[0]?=some (.str t.kd.s)/\1<=hd.length/\hd.length<=2/\(∀x∈hd,(∃s,x = .str s)\/∃n,x = .int n)/\Paired (Rep H) t.parts us/\us.length<=3 /\
  ∀{H':Hp}{p:Addr}{ps:List Tr}{ws:List V},H' p=some (.tup (hd++ws))->Paired (Rep H') ps ws->ps.length=t.parts.length->Rep H' (t.withP ps) (.ref p):=by
 have one:∀{s x:V},((∃y,s=V.str y))->((∃y,x = .str y)\/∃n,x=V.int n)->∀z∈[s,x],(∃y,z = .str y)\/∃n,z=V.int n:=λ h1 h2 z hz=>by
  rcases lM.mp hz with rfl|hz
  ·exact .inl h1
  ·rw[mO.mp hz];exact h2
 have sing:∀{s:Str},∀z∈[V.str s],(∃y,z = .str y)\/∃n,z=V.int n:=λ z hz=>by rw[mO.mp hz];exact .inl 72
 cases t with
 |num n=>obtain⟨a,e,h⟩:=h;exact⟨a,[.str "num", .int n],[],e,h,rfl,by simp,by simp,one 72 (.inr 72),.nil,by simp,λ{H' p ps ws} e q l=>by cases ps with|nil=>cases q;exact⟨p,rfl,e⟩|cons _ _=>cases l⟩
 |name n=>obtain⟨a,e,h⟩:=h;exact⟨a,[.str "name", .str n],[],e,h,rfl,by simp,by simp,one 72 (.inl 72),.nil,by simp,λ{H' p ps ws} e q l=>by cases ps with|nil=>cases q;exact⟨p,rfl,e⟩|cons _ _=>cases l⟩
 |ask n=>obtain⟨a,e,h⟩:=h;exact⟨a,[.str "ask", .str n],[],e,h,rfl,by simp,by simp,one 72 (.inl 72),.nil,by simp,λ{H' p ps ws} e q l=>by cases ps with|nil=>cases q;exact⟨p,rfl,e⟩|cons _ _=>cases l⟩
 |stop n=>obtain⟨a,e,h⟩:=h;exact⟨a,[.str "stop", .str n],[],e,h,rfl,by simp,by simp,one 72 (.inl 72),.nil,by simp,λ{H' p ps ws} e q l=>by cases ps with|nil=>cases q;exact⟨p,rfl,e⟩|cons _ _=>cases l⟩
 |gap g as=>exact absurd rfl ng
 |say b =>
  obtain⟨a,u,e,h,r⟩:=h
  exact⟨a,[.str "say"],[u],e,h,rfl,by simp,by simp,sing,.cons r .nil,by simp,λ{H' p ps ws} e q l=>by
   match ps,l with
   |[c],_=>cases q with|cons r1 q=>cases q;exact⟨p,_,rfl,e,r1⟩⟩
 |bin o b c =>
  obtain⟨a,u,w,e,h,r,r'⟩:=h
  exact⟨a,[.str o.s],[u,w],e,h,by rw[show (Tr.bin o b c).kd.s=o.s from Bin.kd_s o];rfl,by simp,by simp,sing,.cons r (.cons r' .nil),by simp,λ{H' p ps ws} e q l=>by
   match ps,l with
   |[c1,c2],_=>cases q with|cons r1 q=>cases q with|cons r2 q=>cases q;exact⟨p,_,_,rfl,e,r1,r2⟩⟩
 |ite b c d =>
  obtain⟨a,u,w,z,e,h,r,r',r''⟩:=h
  exact⟨a,[.str "if"],[u,w,z],e,h,rfl,by simp,by simp,sing,.cons r (.cons r' (.cons r'' .nil)),by simp,λ{H' p ps ws} e q l=>by
   match ps,l with
   |[c1,c2,c3],_=>cases q with|cons r1 q=>cases q with|cons r2 q=>cases q with|cons r3 q=>cases q;exact⟨p,_,_,_,rfl,e,r1,r2,r3⟩⟩
 |lett x b c =>
  obtain⟨a,u,w,e,h,r,r'⟩:=h
  exact⟨a,[.str "let", .str x],[u,w],e,h,rfl,by simp,by simp,one 72 (.inl 72),.cons r (.cons r' .nil),by simp,λ{H' p ps ws} e q l=>by
   match ps,l with
   |[c1,c2],_=>cases q with|cons r1 q=>cases q with|cons r2 q=>cases q;exact⟨p,_,_,rfl,e,r1,r2⟩⟩
def RowP (H:Hp) (hd:List V) (i:Nat) (vs:List V) (ps:List Tr):Prop:=(i<=hd.length/\vs=hd.take i/\ps=[])\/(hd.length<=i/\∃ws,vs=hd++ws/\Paired (Rep H) ps ws/\ps.length+hd.length=i)
theorem RowP.zero {H:Hp}{hd:List V}:RowP H hd 0 [] []:=.inl ⟨lX _,rfl,rfl⟩
theorem RowP.mono {H H':Hp}(k:Tk H H') {hd:List V}{i:Nat}{vs:List V}{ps:List Tr}:RowP H hd i vs ps->RowP H' hd i vs ps:=Or.imp id λ⟨h,ws,e,p,l⟩=>⟨h,ws,e,Paired.mapP p λ Ω Ω z=>z.mono k,l⟩
theorem RowP.head {H:Hp}{hd:List V}{i:Nat}{vs:List V}{ps:List Tr}{x:V}(h:RowP H hd i vs ps) (e:hd[i]?=some x):RowP H hd (i+1) (vs++[x]) ps:=by
 have hi:=(lI.mp e).1;rcases h with ⟨h1,rfl,rfl⟩|⟨h1,_⟩
 ·exact .inl ⟨hi,(zAT e).symm,rfl⟩
 ·lia
theorem RowP.part {H:Hp}{hd:List V}{i:Nat}{vs:List V}{ps:List Tr}{p:Tr}{y:V}(h:RowP H hd i vs ps) (hi:hd.length<=i) (r:Rep H p y):RowP H hd (i+1) (vs++[y]) (ps++[p]):=by
 refine .inr ⟨by lia,?_⟩;rcases h with ⟨h1,rfl,rfl⟩|⟨h1,ws,rfl,q,l⟩
 ·have e:i=hd.length:=by lia
  rw[e,mM];exact⟨[y],rfl,.cons r .nil,Nat.add_comm _ _⟩
 ·exact⟨ws++[y],by simp,zDN q (.cons r .nil),by simp;lia⟩
theorem RowP.len {H:Hp}{hd:List V}{i:Nat}{vs:List V}{ps:List Tr}(h:RowP H hd i vs ps):vs.length=i:=by
 rcases h with ⟨h1,rfl,rfl⟩|⟨h1,ws,rfl,q,l⟩
 ·rw[mL];lia
 ·have:=q.length;rw[mI];lia
theorem RowP.full {H:Hp}{hd us:List V}{vs:List V}{ps:List Tr}(h:RowP H hd (hd++us).length vs ps):∃ws,vs=hd++ws/\Paired (Rep H) ps ws/\ps.length=us.length:=by
 rw[mI] at h;rcases h with ⟨h1,rfl,rfl⟩|⟨h1,ws,rfl,q,l⟩
 ·have:us.length=0:=by lia
  rw[nI] at this;subst this;exact⟨[],by simp,.nil,rfl⟩
 ·exact⟨ws,rfl,q,by lia⟩
theorem zC3 {hd us:List V}{i:Nat}{x:V}(h:(hd++us)[i]?=some x):hd[i]?=some x\/(hd.length<=i/\us[i - hd.length]?=some x):=by
 by_cases c:i<hd.length
 ·rw[mQ c] at h;exact .inl h
 ·rw[mR 65] at h;exact .inr ⟨by lia,h⟩
theorem zG4 {G:Str->Prop}{t:Tr}{ps:List Tr}(ng:ngT t) (gd:t.good G) (hl:ps.length=t.parts.length) (h:∀p∈ps,ngT p/\p.good G):ngT (t.withP ps)/\(t.withP ps).good G/\(t.withP ps).size=szT ps+1:=by
 cases t with
 |gap g as=>exact ng.elim
 |say b=>match ps,hl with | [c],_=>exact⟨(h c 59).1,(h c 59).2,by simp[Tr.withP,Tr.size,szT]⟩
 |bin o b c=>match ps,hl with | [x,y],_=>exact⟨⟨(h x 59).1,(h y 59).1⟩,⟨(h x 59).2,(h y 59).2⟩,by simp[Tr.withP,Tr.size,szT]⟩
 |ite b c d=>match ps,hl with | [x,y,z],_=>exact⟨⟨(h x 59).1,(h y 59).1,(h z 59).1⟩,⟨(h x 59).2,(h y 59).2,(h z 59).2⟩,by simp[Tr.withP,Tr.size,szT];lia⟩
 |lett n b c=>match ps,hl with | [x,y],_=>exact⟨⟨(h x (by simp)).1,(h y (by simp)).1⟩,⟨gd.1,(h x (by simp)).2,(h y (by simp)).2⟩,by simp[Tr.withP,Tr.size,szT]⟩
 |_=>match ps,hl with | [],_=>exact⟨ng,gd,rfl⟩
theorem zDr {t p:Tr}(h:ngT t) (hp:p∈t.parts):ngT p:=by
 cases t<;>simp only[Tr.parts,nK,mX,or_false] at hp
 ·subst hp;exact h
 ·rcases hp with rfl|rfl
  ·exact h.1
  ·exact h.2
 ·rcases hp with rfl|rfl|rfl
  ·exact h.1
  ·exact h.2.1
  ·exact h.2.2
 ·rcases hp with rfl|rfl
  ·exact h.1
  ·exact h.2
theorem cutT1 {xs:List V}(h:1<=xs.length):¬(HT.sIx xs.length 0 (some 1)=0/\HT.sIx xs.length xs.length none=xs.length)/\cutV xs (some 1) none=xs.drop 1:=by
 have e1:HT.sIx xs.length 0 (some 1)=1:=by
  have:=HT.sIx_nat xs.length 0 1;rw[show ((1:Nat):Int)=1 from rfl] at this;rw[this];exact nV h
 refine⟨λ z=>by rw[e1] at z;exact absurd z.1 66,?_⟩;unfold cutV;rw[e1,HT.sIx_none];exact mS (by rw[mT];exact lQ _)
theorem zLi {t:Tr}(ng:ngT t):QuT t↔t.kd.loud=false/\∀p∈t.parts,QuT p:=by
 have hG:=zDB ng;constructor
 ·intro h
  refine⟨(h t (by rw[zBT];exact lO)).1,λ p hp x hx=>h x ?_⟩;rw[zBT];exact lP _ (mU.mpr ⟨p,hp,hx⟩)
 ·rintro⟨h1,h2⟩ x hx
  rw[zBT] at hx;rcases lM.mp hx with rfl|hx
  ·exact⟨h1,hG _ (by rw[zBT];exact lO)⟩
  ·obtain⟨p,hp,hx⟩:=mU.mp hx
   exact h2 p hp x hx
noncomputable def bud (o:Nat) (j:Int):Nat:=if j<0 then 0 else o
noncomputable def gkv (cnt:Str->Nat) (ks:List Str):List 90:=ks.map λ g=>((Sum.inr g:Key),V.int (cnt g:Int))
theorem zFF (cnt:Str->Nat) {ks:List Str}{g:Str}:valV (gkv cnt ks) (Sum.inr g:Key)=if g∈ks then some (.int (cnt g:Int)) else none:=by
 induction ks with
 |nil=>rfl
 |cons x r ih =>
  show valV (((Sum.inr x:Key),V.int (cnt x:Int))::gkv cnt r) _=_
  by_cases c:x=g
  ·rw[zA0 (by rw[c]),if_pos (by rw[c];exact lO),c]
  ·rw[zA1 (λ z=>c (Sum.inr.inj z)),ih]
   by_cases d:g∈r
   ·rw[if_pos d,if_pos (List.mem_cons_of_mem _ d)]
   ·rw[if_neg d,if_neg (by simp[d,Ne.symm c])]
theorem zLj (cnt:Str->Nat) (ks:List Str) (g:Str):putK (gkv cnt ks) (Sum.inr g) (.int (cnt g:Int))=gkv cnt (addK ks g):=by
 unfold addK
 by_cases c:g∈ks
 ·rw[if_pos c]
  unfold putK;rw[if_pos (by rw[List.any_eq_true];exact⟨_,mB.mpr ⟨g,c,rfl⟩,lT rfl⟩)];unfold gkv;rw[nO];refine List.map_congr_left λ x hx=>?_;show (if ((Sum.inr x:Key)=Sum.inr g) then _ else _)=_
  by_cases e:x=g
  ·rw[if_pos (by rw[e]),e]
  ·rw[if_neg (λ z=>e (Sum.inr.inj z))]
 ·rw[if_neg c,zFM]
  ·unfold gkv;rw[mN];rfl
  ·rw[zFF,if_neg c]
def GIn (s:Tr) (ks:List Str):Prop:=∀g as,Tr.gap g as∈s.subs->g∈ks
theorem GIn.mono {s:Tr}{ks ks':List Str}(h:GIn s ks) (k:∀g∈ks,g∈ks'):GIn s ks':=λ g as m=>k g (h g as m)
theorem zJb {s:Tr}{ks:List Str}(n:¬s.kd = .gap) (h:∀p∈s.parts,GIn p ks):GIn s ks:=λ g as m=>by
 rw[zBT] at m;rcases lM.mp m with e|m
 ·rw[←e] at n;exact absurd rfl n
 ·obtain⟨p,hp,m⟩:=mU.mp m
  exact h p hp g as m
theorem GIn.part {s p:Tr}{ks:List Str}(h:GIn s ks) (hp:p∈s.parts):GIn p ks:=λ g as m=>h g as (by rw[zBT];exact lP _ (mU.mpr ⟨p,hp,m⟩))
theorem zKn {cnt:Str->Nat}{s p:Tr}{bs:List Str}(h:LOk cnt s bs) (n:¬s.kd = .lett) (hp:p∈s.parts):LOk cnt p bs:=by
 cases s<;>simp only[Tr.parts,nK,mX,or_false] at hp
 ·subst hp;exact h
 ·rcases hp with rfl|rfl
  ·exact h.1
  ·exact h.2
 ·rcases hp with rfl|rfl|rfl
  ·exact h.1
  ·exact h.2.1
  ·exact h.2.2
 ·exact absurd rfl n
def CnT (cnt:Str->Nat) (s:Tr):Prop:=∀g as,Tr.gap g as∈s.subs->as.length=cnt g
theorem zDa {cnt:Str->Nat}:∀{s:Tr}{bs:List Str},LOk cnt s bs->CnT cnt s
 |.gap g as,bs,⟨ns,e,_,_,l⟩,g',as',m=>by
  have:=mO.mp (show Tr.gap g' as'∈[Tr.gap g as] from m);injection this with e1 e2
  rw[e1,e2,e,lC,l]
 |.say a,bs,h,g',as',m=>by
  rcases lM.mp m with e|m
  ·cases e
  ·exact zDa (s:=a) h g' as' m
 |.bin o a b,bs,h,g',as',m=>by
  rcases lM.mp m with e|m
  ·cases e
  ·rcases lJ.mp m with m|m
   ·exact zDa h.1 g' as' m
   ·exact zDa h.2 g' as' m
 |.ite a b c,bs,h,g',as',m=>by
  rcases lM.mp m with e|m
  ·cases e
  ·rcases lJ.mp m with m|m
   ·exact zDa h.1 g' as' m
   ·rcases lJ.mp m with m|m
    ·exact zDa h.2.1 g' as' m
    ·exact zDa h.2.2 g' as' m
 |.lett x a b,bs,h,g',as',m=>by
  rcases lM.mp m with e|m
  ·cases e
  ·rcases lJ.mp m with m|m
   ·exact zDa h.2.1 g' as' m
   ·exact zDa h.2.2 g' as' m
 |.num _,_,_,g',as',m=>by cases mO.mp m
 |.name _,_,_,g',as',m=>by cases mO.mp m
 |.ask _,_,_,g',as',m=>by cases mO.mp m
 |.stop _,_,_,g',as',m=>by cases mO.mp m
theorem CnT.part {cnt:Str->Nat}{s p:Tr}(h:CnT cnt s) (hp:p∈s.parts):CnT cnt p:=λ g as m=>h g as (by rw[zBT];exact lP _ (mU.mpr ⟨p,hp,m⟩))
structure PcG (cnt:Str->Nat) (W:List Str) (g:Str) (q:List Str × Tr):Prop where
 ln:q.1.length<=20
 ng:ngT q.2
 gd:q.2.good (λ x=>x∈W)
 sz:q.2.size<=13
 dp:q.2.dep<=13
def PcsD (H:Hp) (cnt:Str->Nat) (W:List Str) (pkv:List 90) (ks:List Str):Prop:=∀g∈ks,∃v q,valV pkv (Sum.inr g:Key)=some v/\PcR H q v/\PcG cnt W g q
theorem PcsD.mono {H H':Hp}(k:Tk H H') {cnt:Str->Nat}{W:List Str}{pkv:List 90}{ks:List Str}(h:PcsD H cnt W pkv ks):PcsD H' cnt W pkv ks:=λ g hg=>let ⟨v,q,e,r,p⟩:=h g hg;⟨v,q,e,r.mono k,p⟩
theorem zH9 {s:Tr}(n:¬s.kd = .lett):(s.parts.map nlet).sum=nlet s:=by
 cases s with
 |lett x a b=>exact absurd rfl n
 |say a=>simp[Tr.parts,nlet]
 |bin o a b=>simp[Tr.parts,nlet]
 |ite a b c=>simp[Tr.parts,nlet];lia
 |_=>rfl
theorem zJC (l:List Tr) (i:Nat):((l.take i).map nlet).sum<=(l.map nlet).sum:=by
 conv=>rhs;rw[←List.take_append_drop i l]
 rw[mN,List.sum_append]
 lia
theorem zIO {G:Str->Prop}{t:Tr}{ps:List Tr}(ng:¬t.kd = .gap) (gd:t.good G) (hl:ps.length=t.parts.length) (h:∀p∈ps,ngT p/\p.good G):ngT (t.withP ps)/\(t.withP ps).good G/\(t.withP ps).size=szT ps+1:=by
 cases t with
 |gap g as=>exact absurd rfl ng
 |say b=>match ps,hl with | [c],_=>exact⟨(h c 59).1,(h c 59).2,by simp[Tr.withP,Tr.size,szT]⟩
 |bin o b c=>match ps,hl with | [x,y],_=>exact⟨⟨(h x 59).1,(h y 59).1⟩,⟨(h x 59).2,(h y 59).2⟩,by simp[Tr.withP,Tr.size,szT]⟩
 |ite b c d=>match ps,hl with | [x,y,z],_=>exact⟨⟨(h x 59).1,(h y 59).1,(h z 59).1⟩,⟨(h x 59).2,(h y 59).2,(h z 59).2⟩,by simp[Tr.withP,Tr.size,szT];lia⟩
 |lett n b c=>match ps,hl with | [x,y],_=>exact⟨⟨(h x (by simp)).1,(h y (by simp)).1⟩,⟨gd.1,(h x (by simp)).2,(h y (by simp)).2⟩,by simp[Tr.withP,Tr.size,szT]⟩
 |_=>match ps,hl with | [],_=>exact⟨trivial,gd,rfl⟩
def KnW (W:List Str) (kkv:List 90) (bs:List Str):Prop:=∀x∈bs,∃y,valV kkv (Sum.inr x:Key)=some (.str y)/\y∈W
theorem DRs.snoc {H:Hp}{ds:List Dt}{vs:List V}{d:Dt}{v:V}(h:DRs H ds vs) (r:DR H d v):DRs H (ds++[d]) (vs++[v]):=by
 induction ds generalizing vs with
 |nil=>cases h;exact .cons r .nil
 |cons a ds ih=>cases h with
  |cons h1 h2=>exact .cons h1 (ih h2)
def RelD (H:Hp):Option Dt->Option V->Prop
 |some d,some v=>DR H d v
 |none,none=>True
 |_,_=>False
def KnD (H:Hp) (κ:Kno) (kvs:List 90):Prop:=∀x,RelD H (κ x) (valV kvs (Sum.inr x:Key))
theorem KnD.mono {H H':Hp}(k:Tk H H') {κ:Kno}{kvs:List 90}(h:KnD H κ kvs):KnD H' κ kvs:=λ x=>by
 have:=h x;cases e:κ x<;>cases e2:valV kvs (Sum.inr x:Key)<;>rw[e,e2] at this
 ·exact True.intro
 ·exact this
 ·exact this
 ·exact DR.mono k this
theorem KnD.put {H:Hp}{κ:Kno}{kvs:List 90}(h:KnD H κ kvs) {x:Str}{d:Dt}{v:V}(r:DR H d v):KnD H (setK κ x d) (putK kvs (Sum.inr x:Key) v):=λ y=>by
 rw[zBc];unfold setK
 by_cases e:y=x
 ·rw[if_pos e,if_pos (by rw[e])]
  exact r
 ·rw[if_neg e,if_neg (λ z=>e (Sum.inr.inj z))]
  exact h y
noncomputable def rowD (g:Tr->Dt):Tr->List Dt
 |.num m=>[.str "num", .int m]
 |.name x=>[.str "name", .str x]
 |.ask x=>[.str "ask", .str x]
 |.stop x=>[.str "stop", .str x]
 |.say a=>[.str "say", g a]
 |.bin o a b=>[.str o.s,g a,g b]
 |.ite a b c=>[.str "if", g a,g b,g c]
 |_=>[]
theorem zLg {H:Hp}(g:Tr->Dt) {t:Tr}{v:V}(h:Rep H t v) (n1:¬t.kd = .gap) (n2:¬t.kd = .lett):∃a xs,v = .ref a/\H a=some (.tup xs)/\xs.length=(rowD g t).length/\xs.length<=4 /\
  ∀(i:Nat) (x:V),xs[i]?=some x->∃d,(rowD g t)[i]?=some d/\((∃s,x = .str s/\d = .str s)\/(∃j,x = .int j/\d = .int j)\/∃p∈t.parts,Rep H p x/\d=g p):=by
 have two:∀{s:Str}{u:V}{d:Dt},((∃s,u = .str s/\d = .str s)\/(∃j,u = .int j/\d = .int j)\/∃p∈t.parts,Rep H p u/\d=g p)->∀(i:Nat) (x:V),[V.str s,u][i]?=some x->∃d',[Dt.str s,d][i]?=some d'/\((∃s,x = .str s/\d' = .str s)\/(∃j,x = .int j/\d' = .int j)\/∃p∈t.parts,Rep H p x/\d'=g p):=λ{s u d} hu i x hx=>by
  match i,hx with
  |0,hx=>cases hx;exact⟨_,rfl,.inl ⟨_,rfl,rfl⟩⟩
  |1,hx=>cases hx;exact⟨_,rfl,hu⟩
  |_+2,hx=>cases hx
 cases t with
 |num m=>obtain⟨a,e,h⟩:=h;exact⟨a,_,e,h,rfl,(by show 2<=4;decide),two (.inr (.inl ⟨_,rfl,rfl⟩))⟩
 |name m=>obtain⟨a,e,h⟩:=h;exact⟨a,_,e,h,rfl,(by show 2<=4;decide),two (.inl ⟨_,rfl,rfl⟩)⟩
 |ask m=>obtain⟨a,e,h⟩:=h;exact⟨a,_,e,h,rfl,(by show 2<=4;decide),two (.inl ⟨_,rfl,rfl⟩)⟩
 |stop m=>obtain⟨a,e,h⟩:=h;exact⟨a,_,e,h,rfl,(by show 2<=4;decide),two (.inl ⟨_,rfl,rfl⟩)⟩
 |gap m as=>exact absurd rfl n1
 |lett x a b=>exact absurd rfl n2
 |say s=>obtain⟨a,u,e,h,r⟩:=h;exact⟨a,_,e,h,rfl,(by show 2<=4;decide),two (.inr (.inr ⟨s,by simp[Tr.parts],r,rfl⟩))⟩
 |bin o s t =>
  obtain⟨a,u,w,e,h,r1,r2⟩:=h;refine⟨a,_,e,h,rfl,(by show 3<=4;decide),λ i x hx=>?_⟩
  match i,hx with
  |0,hx=>cases hx;exact⟨_,rfl,.inl ⟨_,rfl,rfl⟩⟩
  |1,hx=>cases hx;exact⟨_,rfl,.inr (.inr ⟨s,by simp[Tr.parts],r1,rfl⟩)⟩
  |2,hx=>cases hx;exact⟨_,rfl,.inr (.inr ⟨t,by simp[Tr.parts],r2,rfl⟩)⟩
  |_+3,hx=>cases hx
 |ite r s t =>
  obtain⟨a,u,w,z,e,h,r1,r2,r3⟩:=h;refine⟨a,_,e,h,rfl,(by show 4<=4;decide),λ i x hx=>?_⟩
  match i,hx with
  |0,hx=>cases hx;exact⟨_,rfl,.inl ⟨_,rfl,rfl⟩⟩
  |1,hx=>cases hx;exact⟨_,rfl,.inr (.inr ⟨r,by simp[Tr.parts],r1,rfl⟩)⟩
  |2,hx=>cases hx;exact⟨_,rfl,.inr (.inr ⟨s,by simp[Tr.parts],r2,rfl⟩)⟩
  |3,hx=>cases hx;exact⟨_,rfl,.inr (.inr ⟨t,by simp[Tr.parts],r3,rfl⟩)⟩
  |_+4,hx=>cases hx
theorem zM0 {κ:Kno}{n:Nat}{t:Tr}(n1:¬t.kd = .gap) (n2:¬t.kd = .lett) (n3:¬t.kd = .name):blT κ n t = .tup (rowD (blT κ n) t):=by
 cases t<;>first|rfl|exact absurd rfl n1|exact absurd rfl n2|exact absurd rfl n3
theorem zJM {t:Tr}(h:t.kd = .lett):∃x a b,t = .lett x a b:=by
 cases t with
 |lett x a b=>exact⟨x,a,b,rfl⟩
 |bin o a b=>cases o<;>cases h
 |_=>cases h
theorem zL6 {t:Tr}(h:t.kd = .name):∃x,t = .name x:=by
 cases t with
 |name x=>exact⟨x,rfl⟩
 |bin o a b=>cases o<;>cases h
 |_=>cases h
open PySem.W
instance:DecidableEq Dt:=λ d e=>decidable_of_iff (Dt.beq d e=true) Dt.beq_iff
mutual
inductive DA (h:Heap):Dt->Value->Prop
 |int (i:Int) (t:Tok):DA h (.int i) (.int i t)
 |str (x:Str) (t:Tok):DA h (.str x) (.str x t)
 |tup {a:Addr}{items:Array Value}{ds:List Dt}:h.IsTuple a items->DAs h ds items.toList->DA h (.tup ds) (.ref a)
inductive DAs (h:Heap):List Dt->List Value->Prop
 |nil:DAs h [] []
 |cons {d:Dt}{u:Value}{ds:List Dt}{us:List Value}:DA h d u->DAs h ds us->DAs h (d::ds) (u::us)
end
mutual
noncomputable def Dt.hsh (w:World):Dt->Int
 |.int i=>hashInt i
 |.str x=>hashStr w x
 |.tup ds=>reduceHash (Builtin.Tuple.tupleHashOf (Dt.hshs w ds))
noncomputable def Dt.hshs (w:World):List Dt->List Int
 |[]=>[]
 |d::ds=>Dt.hsh w d::Dt.hshs w ds
end
mutual
noncomputable def Dt.draws:Dt->Nat
 |.int _=>1
 |.str _=>1
 |.tup ds=>Dt.drawss ds+1
noncomputable def Dt.drawss:List Dt->Nat
 |[]=>0
 |d::ds=>Dt.draws d+Dt.drawss ds
end
noncomputable def strLt (x y:Str):Bool:=decide (x.cps.toList<y.cps.toList)
mutual
noncomputable def Dt.lt:Dt->Dt->Bool
 |.int i,.int j=>decide (i<j)
 |.str x,.str y=>strLt x y
 |.tup ds,.tup es=>Dt.lts ds es
 |.int _,.str _=>true
 |.int _,.tup _=>true
 |.str _,.tup _=>true
 |.str _,.int _=>false
 |.tup _,.int _=>false
 |.tup _,.str _=>false
noncomputable def Dt.lts:List Dt->List Dt->Bool
 |[],[]=>false
 |[],_::_=>true
 |_::_,[]=>false
 |d::ds,e::es=>if Dt.beq d e=true then Dt.lts ds es else Dt.lt d e
end
inductive Ty where
 |int|str|many (t:Ty)|two (a b:Ty)
mutual
noncomputable def Dt.has:Ty->Dt->Bool
 |.int,.int _=>true
 |.str,.str _=>true
 |.many t,.tup ds=>Dt.hass t ds
 |.two a b,.tup ds=>Dt.hasp a b ds
 |_,_=>false
noncomputable def Dt.hass:Ty->List Dt->Bool
 |_,[]=>true
 |t,d::ds=>Dt.has t d && Dt.hass t ds
noncomputable def Dt.hasp:Ty->Ty->List Dt->Bool
 |a,b,d::es=>Dt.has a d && Dt.hasq b es
 |_,_,_=>false
noncomputable def Dt.hasq:Ty->List Dt->Bool
 |b,e::es=>Dt.has b e && (es.length == 0)
 |_,_=>false
end
mutual
noncomputable def Dt.cmp:Dt->Dt->Bool
 |.int _,.int _=>true
 |.str _,.str _=>true
 |.tup ds,.tup es=>Dt.cmps ds es
 |_,_=>false
noncomputable def Dt.cmps:List Dt->List Dt->Bool
 |[],_=>true
 |_::_,[]=>true
 |d::ds,e::es=>if Dt.beq d e=true then Dt.cmps ds es else Dt.cmp d e
end
open PySem.Calls
open AutoSeq1 (wpAny_loadPart')
section
variable {M:Model}{A:Around}{E:XQ}{s:Shared}{κ:SortKind}{G:Keyed->Prop}{R:Keyed->Keyed->Bool}
abbrev d0:Keyed:=(.none,.none)
end
section
variable {M:Model}{A:Around}{E:XQ}{s:Shared}{κ:SortKind}{G:Keyed->Prop}{R:Keyed->Keyed->Bool}
end
open Classical in
noncomputable def dtOf (h:Heap) (v:Value):Dt:=if e:∃d,DA h d v then e.choose else .tup []
abbrev XN:=List (Dt × Addr × V)
noncomputable def prs (xs:XN):List (Dt × V):=xs.map λ x=>(x.1,x.2.2)
end L2
namespace PySem
open Sem (wp)
end PySem
namespace PySem.W
open PySem
end PySem.W
namespace L2
open PySem PySem.Calls PySem.Spec PyProof.Rows PySem.W
end L2
namespace PyProof.Rows
open PySem PySem.Calls
end PyProof.Rows
namespace L2
open PySem PySem.Calls PySem.Spec PyProof.Rows PySem.W
theorem zL9 {x:Str}{g:TG}{tb:TS}{D:Ends}{σ:L2.St}{H:Hp}(Pv:Nat->L2.St->Hp->Prop) (h0:Pv 0 σ H)
  (hs:∀i c σ H,x.cps[i]?=some c->Pv i σ H->g (.str ⟨#[c]⟩) σ H λ σ2 H2=>tb { D with nx:=Pv (i+1),ct:=Pv (i+1),bk:=D.nx } σ2 H2) (hd:∀σ H,Pv x.cps.size σ H->D.nx σ H) :
  ∃W:Nat->Nat->L2.St->Hp->Prop,(∃m,W 0 m σ H)/\∀i m σ H,W i m σ H ->
   ((Its x).stop i H/\D.nx σ H)\/((Its x).go i H/\∃N:L2.St->Hp->Prop,75/\∀x' H',(Its x).yld i H x' H'->g x' σ H' λ σ2 H2=>tb { D with nx:=N,ct:=N,bk:=D.nx } σ2 H2):=by
 refine⟨λ i m σ H=>m=x.cps.size - i/\i<=x.cps.size/\Pv i σ H,⟨x.cps.size,by simp,lX _,h0⟩,?_⟩;rintro i m σ H ⟨rfl,hi,p⟩
 by_cases hlt:i<x.cps.size
 ·refine .inr ⟨hlt,Pv (i+1),λ σ' H' p'=>⟨x.cps.size - (i+1),by lia,rfl,hlt,p'⟩,λ v H' y=>?_⟩
  obtain⟨e,c,hc,ex⟩:=y;subst e ex;exact hs i c σ _ hc p
 ·have e:i=x.cps.size:=by lia
  subst e;exact .inl ⟨lQ _,hd σ H p⟩
section
variable {X:Cx}{pos apos cpos:Pos}{o e f k v:Expr}{ks:List (Option Expr)}{vs:List Expr}{td ty tx tk tv:TE}{trs:List (TE × TE)}
theorem zKN:Sd (PPs X pos [] [] []):=⟨zLm⟩
theorem zBw (hk:Sd (PE X k tk)) (hv:Sd (PE X v tv)) (hr:Sd (PPs X pos ks vs trs)):Sd (PPs X pos (some k::ks) (v::vs) ((tk,tv)::trs)):=⟨zKO hk.un hv.un hr.un⟩
theorem zKQ (h:Sd (PPs X pos ks vs trs)) (hall:ks.all (·.isSome)=true) (hl:ks.length=vs.length) (h0:ks≠[]) (h15:ks.length<=15):Sd (PE X (.Dict ks vs pos) (tDisp trs)):=⟨zLp h.un hall hl h0 h15⟩
end
theorem zMG:∀c,97<=c->c<=122->(Builtin.Str.occurrences "abcdefghijklmnopqrstuvwxyz" ⟨#[c]⟩ 0 (Str.ofString "abcdefghijklmnopqrstuvwxyz").length 1).isEmpty=false:=by
 have h:∀i<26,(Builtin.Str.occurrences "abcdefghijklmnopqrstuvwxyz" ⟨#[97+i]⟩ 0 (Str.ofString "abcdefghijklmnopqrstuvwxyz").length 1).isEmpty=false:=by right
 intro c h1 h2;have:=h (c - 97) 65
 rwa [show 97+(c - 97)=c by lia] at this
noncomputable def many:Kd->Nat
 |.say=>1|.ite=>3
 |_=>2
noncomputable def zEZ:List 90:=[(.inr "say", .int 1),(.inr "add", .int 2),(.inr "sub", .int 2),(.inr "mul", .int 2),(.inr "then", .int 2),(.inr "let", .int 2),(.inr "if", .int 3)]
theorem zKl {k:Kd}(h:k.leaf=false):(valV (zA5 [] zEZ) (Sum.inr k.s:Key)).getD .non = .int ((many k:Nat):Int):=by cases k<;>first|(cases h;done)|right
theorem zKk {t:Tr}(h:t.kd.leaf=false):t.parts.length=many t.kd:=by
 cases t with
 |bin o a b=>cases o<;>rfl
 |say a=>rfl
 |ite a b c=>rfl
 |lett x a b=>rfl
 |_=>cases h
theorem in3 (k:Kd):inV (.str k.s) [.str "name", .str "ask", .str "stop"]=decide (k = .name\/k = .ask\/k = .stop):=by cases k<;>right
theorem cut1 (v:V) (us:List V):cutV (v::us) (some 1) none=us:=by
 have e1:HT.sIx (v::us).length 0 (some ((1:Nat):Int))=1:=by rw[HT.sIx_nat];simp
 have e1':HT.sIx (v::us).length 0 (some (1:Int))=1:=e1;unfold cutV;rw[HT.sIx_none,e1'];simp
theorem cut2 (v w:V) (us:List V):cutV (v::w::us) (some 2) none=us:=by
 have e1:HT.sIx (v::w::us).length 0 (some ((2:Nat):Int))=2:=by rw[HT.sIx_nat];simp
 have e1':HT.sIx (v::w::us).length 0 (some (2:Int))=2:=e1;unfold cutV;rw[HT.sIx_none,e1'];simp
theorem zKi (v:V) (us:List V):¬HT.sIx (v::us).length 0 (some (1:Int))=0:=by
 have e1:HT.sIx (v::us).length 0 (some ((1:Nat):Int))=1:=by rw[HT.sIx_nat];simp
 have e1':HT.sIx (v::us).length 0 (some (1:Int))=1:=e1;rw[e1'];simp
theorem zKh (v w:V) (us:List V):¬HT.sIx (v::w::us).length 0 (some (2:Int))=0:=by
 have e1:HT.sIx (v::w::us).length 0 (some ((2:Nat):Int))=2:=by rw[HT.sIx_nat];simp
 have e1':HT.sIx (v::w::us).length 0 (some (2:Int))=2:=e1;rw[e1'];simp
theorem zKH {H:Hp}{t:Tr}{v:V}{G:Str->Prop}(hR:Rep H t v) (hg:t.good G) (h:t.kd = .name\/t.kd = .ask\/t.kd = .stop):∃a x,v = .ref a/\H a=some (.tup [.str t.kd.s,.str x])/\G x:=by
 cases t with
 |name x=>obtain⟨a,e,ha⟩:=hR;exact⟨a,x,e,ha,hg⟩
 |ask x=>obtain⟨a,e,ha⟩:=hR;exact⟨a,x,e,ha,hg⟩
 |stop x=>obtain⟨a,e,ha⟩:=hR;exact⟨a,x,e,ha,hg⟩
 |bin o a b=>exfalso;cases o<;>(rcases h with h|h|h<;>cases h)
 |_=>exfalso;rcases h with h|h|h<;>cases h
def KL (κ:Kno):Prop:=∀x d,κ x=some d->(∃k,d=atD k)\/(∃k,d=atomD k)\/d=lostD
theorem KL.lett {κ:Kno}(h:KL κ) (x:Str) (m:Nat):KL (setK κ x (atD m)):=λ z d e=>by
 unfold setK at e
 by_cases c:z=x
 ·rw[if_pos c] at e;cases e;exact .inl ⟨m,rfl⟩
 ·rw[if_neg c] at e;exact h z d e
def LostT (κ:Kno) (t:Tr):Prop:=∃x∈t.fv [],κ x=some lostD
noncomputable def kidsB (κ:Kno) (m:Nat):Tr->List (Kno × Nat × Tr)
 |.say a=>[(κ,m,a)]
 |.bin _ a b=>[(κ,m,a),(κ,m,b)]
 |.ite a b c=>[(κ,m,a),(κ,m,b),(κ,m,c)]
 |.lett x a b=>[(κ,m,a),(setK κ x (atD m),m+1,b)]
 |_=>[]
noncomputable def bl3 (q:Kno × Nat × Tr):Dt:=blT q.1 q.2.1 q.2.2
theorem zKt {κ:Kno}{m:Nat}{t:Tr}(hk:KL κ) (ng:ngT t):∀q∈kidsB κ m t,KL q.1/\ngT q.2.2/\q.2.2.dep+1<=t.dep:=by
 intro q hq;cases t with
 |say a=>rw[mO.mp hq];exact⟨hk,ng,by simp only[Tr.dep];lia⟩
 |bin o a b =>
  rcases lM.mp hq with rfl|hq
  ·exact⟨hk,ng.1,by simp only[Tr.dep];lia⟩
  ·rw[mO.mp hq];exact⟨hk,ng.2,by simp only[Tr.dep];lia⟩
 |ite a b c =>
  rcases lM.mp hq with rfl|hq
  ·exact⟨hk,ng.1,by simp only[Tr.dep];lia⟩
  ·rcases lM.mp hq with rfl|hq
   ·exact⟨hk,ng.2.1,by simp only[Tr.dep];lia⟩
   ·rw[mO.mp hq];exact⟨hk,ng.2.2,by simp only[Tr.dep];lia⟩
 |lett x a b =>
  rcases lM.mp hq with rfl|hq
  ·exact⟨hk,ng.1,by simp only[Tr.dep];lia⟩
  ·rw[mO.mp hq];exact⟨hk.lett x m,ng.2,by simp only[Tr.dep];lia⟩
 |_=>cases hq
theorem zKm {κ:Kno}{m:Nat}{t:Tr}(ng:ngT t):LostT κ t↔(∃x,t = .name x/\κ x=some lostD)\/∃q∈kidsB κ m t,LostT q.1 q.2.2:=by
 have nl:∀z,¬atD z=lostD:=λ z e=>absurd (tg e) 80;unfold LostT;cases t with
 |gap g as=>exact ng.elim
 |name x=>simp[kidsB,zJc]
 |num n=>simp[kidsB,Tr.fv,Tr.names]
 |ask n=>simp[kidsB,Tr.fv,Tr.names]
 |stop n=>simp[kidsB,Tr.fv,Tr.names]
 |say a=>simp[kidsB,Tr.fv]
 |bin o a b =>
  simp only[kidsB,Tr.fv,nJ,nK,mX,or_false,exists_eq_or_imp,exists_eq_left];constructor
  ·rintro⟨x,h|h,e⟩
   ·exact .inr (.inl ⟨x,h,e⟩)
   ·exact .inr (.inr ⟨x,h,e⟩)
  ·rintro (⟨x,h,_⟩|⟨x,h,e⟩|⟨x,h,e⟩)
   ·cases h
   ·exact⟨x,.inl h,e⟩
   ·exact⟨x,.inr h,e⟩
 |ite a b c =>
  simp only[kidsB,Tr.fv,nJ,nK,mX,or_false,exists_eq_or_imp,exists_eq_left];constructor
  ·rintro⟨x,h|h|h,e⟩
   ·exact .inr (.inl ⟨x,h,e⟩)
   ·exact .inr (.inr (.inl ⟨x,h,e⟩))
   ·exact .inr (.inr (.inr ⟨x,h,e⟩))
  ·rintro (⟨x,h,_⟩|⟨x,h,e⟩|⟨x,h,e⟩|⟨x,h,e⟩)
   ·cases h
   ·exact⟨x,.inl h,e⟩
   ·exact⟨x,.inr (.inl h),e⟩
   ·exact⟨x,.inr (.inr h),e⟩
 |lett y a b =>
  simp only[kidsB,nK,mX,or_false,exists_eq_or_imp,exists_eq_left];constructor
  ·rintro⟨x,h,e⟩
   rcases zCD.mp h with h|⟨h,n⟩
   ·exact .inr (.inl ⟨x,h,e⟩)
   ·exact .inr (.inr ⟨x,h,by unfold setK;rw[if_neg n];exact e⟩)
  ·rintro (⟨x,h,_⟩|⟨x,h,e⟩|⟨x,h,e⟩)
   ·cases h
   ·exact⟨x,zCD.mpr (.inl h),e⟩
   ·unfold setK at e
    by_cases c:x=y
    ·rw[if_pos c] at e;exact absurd (mD e) (nl m)
    ·rw[if_neg c] at e;exact⟨x,zCD.mpr (.inr ⟨h,c⟩),e⟩
theorem zGx {κ:Kno}{m:Nat}{t:Tr}(hk:KL κ) (ng:ngT t):∃(s:Str) (pl:List Dt),blT κ m t = .tup (.str s::(pl++(kidsB κ m t).map bl3))/\(∀d∈pl,(∃y,d = .str y)\/∃n,d = .int n)/\(s = "lost" ↔ ∃x,t = .name x/\κ x=some lostD):=by
 have one:∀{d:Dt},((∃y,d = .str y)\/∃n,d = .int n)->∀e∈[d],(∃y,e = .str y)\/∃n,e = .int n:=λ h e he=>by rw[mO.mp he];exact h
 have no:∀{s:Str}{t:Tr},s ≠ "lost" -> ¬t.kd = .name->(s = "lost" ↔ ∃x,t = .name x/\κ x=some lostD):=λ h1 h2=>⟨λ z=>absurd z h1,λ⟨x,e,_⟩=>by rw[e] at h2;exact absurd rfl h2⟩;cases t with
 |gap g as=>exact ng.elim
 |num n=>exact⟨"num", [.int n],rfl,one (.inr 72),no 80 nofun⟩
 |ask n=>exact⟨"ask", [.str n],rfl,one (.inl 72),no 80 nofun⟩
 |stop n=>exact⟨"stop", [.str n],rfl,one (.inl 72),no 80 nofun⟩
 |name x =>
  have nn:∀{d:Dt}{s:Str}{pl:List Dt},(κ x).getD (.tup [.str "name", .str x]) = .tup (.str s::pl)->blT κ m (.name x) = .tup (.str s::(pl++(kidsB κ m (.name x)).map bl3)):=λ e=>by
   show (κ x).getD _=_;rw[e];simp[kidsB]
  cases e:κ x with
  |none=>exact⟨"name", [.str x],nn (d:=.int 0) (by rw[e];rfl),one (.inl 72),⟨λ z=>absurd z 80,λ⟨y,h1,h2⟩=>by injection h1 with h1;rw[←h1,e] at h2;cases h2⟩⟩
  |some d =>
   rcases hk x d e with ⟨k,rfl⟩|⟨k,rfl⟩|rfl
   ·exact⟨"at", [.int k],nn (d:=.int 0) (by rw[e];rfl),one (.inr 72),⟨λ z=>absurd z 80,λ⟨y,h1,h2⟩=>by injection h1 with h1;rw[←h1,e] at h2;exact absurd (tg (mD h2)) 80⟩⟩
   ·exact⟨"atom", [.int k],nn (d:=.int 0) (by rw[e];rfl),one (.inr 72),⟨λ z=>absurd z 80,λ⟨y,h1,h2⟩=>by injection h1 with h1;rw[←h1,e] at h2;exact absurd (tg (mD h2)) 80⟩⟩
   ·exact⟨"lost", [.int 0],nn (d:=.int 0) (by rw[e];rfl),one (.inr 72),⟨λ Ω=>⟨x,rfl,e⟩,λ Ω=>rfl⟩⟩
 |say a=>exact⟨"say", [],rfl,(λ d hd=>nomatch hd),no 80 nofun⟩
 |bin o a b=>exact⟨o.s,[],rfl,(λ d hd=>nomatch hd),no (by cases o<;>right) (by cases o<;>nofun)⟩
 |ite a b c=>exact⟨"if", [],rfl,(λ d hd=>nomatch hd),no 80 nofun⟩
 |lett x a b=>exact⟨"let", [],rfl,(λ d hd=>nomatch hd),no (by right) nofun⟩
variable {X:Cx}
def zMV:V->List V->Hp->VK->Prop:=λ x vs H Q=>E4 λ(l:Addr) (ws:List Str) (y:Str) (j:Nat)=>A7 (x = .ref l) (vs=[.str y]) (H l=some (.lst (ws.map V.str))) (ws[j]?=some y) (∀m,m<j->ws[m]?≠some y) (ws.length<=1000) (Q (.int (j:Int)) H)
noncomputable def isS (y:Str):Value->Bool
 |.str x _=>x.cps.toList == y.cps.toList
 |_=>false
theorem zHq {ws:List Str}{its:List Value}(h:Vals (ws.map V.str) its):∀(m:Nat) (v:Value),its[m]?=some v->∃x t,ws[m]?=some x/\v = .str x t:=by
 intro m v hv
 obtain⟨u,hu,ru⟩:∃u,(ws.map V.str)[m]?=some u/\RelV u v:=by
  generalize ws.map V.str=us at h
  induction h generalizing m with
  |nil=>cases hv
  |cons r _ ih =>
   cases m with
   |zero=>cases hv;exact⟨_,rfl,r⟩
   |succ m=>exact ih m hv
 rw[mH] at hu;obtain⟨x,hx,rfl⟩:=lU.mp hu;obtain⟨t,e⟩:=(show ∃t,v=Value.str x t from ru);exact⟨x,t,hx,e⟩
theorem zKj:MtM X "list.index" zMV:=by
 intro jP s σ H x vs v us Q I rx rv h;obtain⟨l,ws,y,j,rfl,rfl,hH,hj,hn,hz,q⟩:=h;cases rx;obtain⟨u,rfl,ru⟩:=rv.one;obtain⟨t,rfl⟩:=(show ∃t,u=Value.str y t from ru);obtain⟨z,its,n,r,hl,e⟩:=I.lstM hH;have hs:=zHq r;have li:its.length=ws.length:=by have:=r.length;rw[lC] at this;lia
 have hjl:j<ws.length:=(lI.mp hj).1;have hat:∀(m:Nat) (hm:m<its.length),∃x t,ws[m]?=some x/\its[m] = .str x t:=λ m hm=>hs m _ (lV hm);refine call_meets F.slot_list_index ⟨_,e,rfl⟩ F.entry_list_index (F.args_list_index_2 _ _) (MeetsSeq.list_index l its.toArray n (.str y t) (isS y) (λ v hv=>?_) j (by rw[mG];lia) 65 ?_ (λ m hm hmj=>?_)) ⟨e,?_⟩
 ·obtain⟨m,hm,rfl⟩:=List.mem_iff_getElem.mp (List.mem_toArray.mp hv)
  obtain⟨x,t',_,e'⟩:=hat m hm;rw[e'];exact SeqRoads2.EqGives.str x y t' t
 ·obtain⟨x,t',e1,e2⟩:=hat j 65
  show isS y its[j]=true;rw[e2];rw[hj] at e1;cases e1;exact beq_self_eq_true _
 ·obtain⟨x,t',e1,e2⟩:=hat m 65
  show isS y its[m]=false;rw[e2];have:x≠y:=λ z=>hn m hmj (by rw[e1,z]);show (x.cps.toList == y.cps.toList)=false;refine beq_eq_false_iff_ne.mpr λ z=>this ?_;cases x;cases y;exact congrArg Str.mk (Array.toList_inj.mp z)
 ·exact⟨.int (j:Int),H,I.tok _,72,q⟩
section
variable {X:Cx}
def rInLD:R2:=λ x y H Q=>E4 λ(p:Addr) (xs:List V) (ds:List Dt) (dx:Dt)=>A6 (y = .ref p) (H p=some (.lst xs)) (DRs H ds xs) (DR H dx x) (Dt.deeps ds<=100) (Q (.bl (ds.any λ d=>Dt.beq d dx)) H)
theorem zGf (hu:X.A.units+150<cLine):OpR X (compareOp .In) rInLD:=by
 intro jP s σ H x y v u Q I rx ry h;obtain⟨p,xs,ds,dx,rfl,hp,hds,hx,hd,q⟩:=h;cases ry;obtain⟨its,r,pl,hz⟩:=I.list (SqL.of hp);refine SeqAt.in_listAt (eqW H dx) pl.isList (λ w hw=>zGo I rx hx (by first|(show X.A.in1.units+100<cLine;rw[show X.A.in1.units=X.A.units+1 from rfl];lia)|(show X.A.in1.in1.units+100<cLine;rw[show X.A.in1.in1.units=X.A.units+2 from rfl];lia)|lia) hds r hd w (by simpa using hw)) ⟨.bl _,H,I,rfl,?_⟩;rw[show its.toArray.any (eqW H dx)=its.any (eqW H dx) by simp,zGz hds r];exact q
end
structure OpD (okv:List (Key × V)) (ps:List (Str × Str)):Prop where
 ks:∀p∈okv,∃x y,p.1=(Sum.inr x:Key)/\bnd x ps.reverse=some y
 vl:∀x,valV okv (Sum.inr x:Key)=(bnd x ps.reverse).map V.str
 ln:okv.length<=100
theorem zJP (as:List Str) (rs:List 70):KL (kapL as rs):=λ x d e=>by
 unfold kapL at e;cases c:bnd x rs with
 |none=>rw[c] at e;cases e
 |some y =>
  rw[c] at e;have e':(if y∈as then atomD (as.idxOf y) else lostD)=d:=mD e
  by_cases h:y∈as
  ·rw[if_pos h] at e';exact .inr (.inl ⟨_,e'.symm⟩)
  ·rw[if_neg h] at e';exact .inr (.inr e'.symm)
theorem zJO {as:List Str}{rs:List 70}{t:Tr}:LostT (kapL as rs) t↔¬NoOth t as rs:=by
 have key:∀x,kapL as rs x=some lostD↔∃y,bnd x rs=some y/\y∉as:=λ x=>by
  unfold kapL;cases c:bnd x rs with
  |none=>exact⟨λ e=>(nomatch e),λ⟨y,e,_⟩=>(nomatch e)⟩
  |some y =>
   constructor
   ·intro e
    refine⟨y,rfl,λ h=>?_⟩;have e':(if y∈as then atomD (as.idxOf y) else lostD)=lostD:=mD e;rw[if_pos h] at e';exact absurd (tg e') 80
   ·rintro⟨z,e,h⟩
    cases e;show some (if y∈as then _ else _)=_;rw[if_neg h]
 unfold LostT NoOth;constructor
 ·rintro⟨x,hx,e⟩ h
  obtain⟨y,e1,e2⟩:=(key x).mp e;exact e2 (h x hx y e1)
 ·intro h
  refine mC λ n=>h λ x hx y e=>mC λ c=>n ⟨x,hx,(key x).mpr ⟨y,e,c⟩⟩
noncomputable def kdD (kds:List 70):List Dt:=kds.map λ p=>.tup [.str p.1,.str p.2]
theorem zJ2 (kds:List 70) (g kd:Str):(kdD kds).any (λ d=>Dt.beq d (.tup [.str g,.str kd]))=decide ((g,kd)∈kds):=by
 rw[Bool.eq_iff_iff,List.any_eq_true,decide_eq_true_iff];unfold kdD;constructor
 ·rintro⟨d,hd,h⟩
  obtain⟨p,hp,rfl⟩:=mB.mp hd;have:=Dt.beq_iff.mp h;simp at this;obtain⟨e1,e2⟩:=this;rw[←e1,←e2];exact hp
 ·intro h
  exact⟨_,mB.mpr ⟨_,h,rfl⟩,Dt.beq_iff.mpr rfl⟩
theorem zDd (kds:List 70):Dt.deeps (kdD kds)<=100:=by
 induction kds with
 |nil=>exact lX _
 |cons p r ih =>
  have:Dt.deeps (kdD (p::r))=max (Dt.deep (.tup [.str p.1,.str p.2])) (Dt.deeps (kdD r)):=rfl;rw[this];have:Dt.deep (.tup [.str p.1,.str p.2])<=100:=by simp[Dt.deep,Dt.deeps]
  lia
theorem zED {kds:List 70}(nd:(kds.map (·.1)).Nodup) {g kd:Str}:wKd kds g = .str kd↔(g,kd)∈kds:=by
 unfold wKd;constructor
 ·intro h
  cases e:valV (zA5 [] (kdV kds)) (Sum.inr g:Key) with
  |none=>rw[e] at h;cases h
  |some v =>
   rw[e] at h;have h':v = .str kd:=h;subst h';rw[zCl] at e;cases e2:valV (kdV kds).reverse (Sum.inr g:Key) with
   |none=>rw[e2] at e;cases e
   |some v2 =>
    rw[e2] at e;cases e;obtain⟨p,hp,ep⟩:=lU.mp (show ((kdV kds).reverse.find? λ kv=>decide (kv.1=(Sum.inr g:Key))).map (·.2)=some (.str kd) from e2);have h1:=List.find?_some hp;have h2:=List.mem_reverse.mp (List.mem_of_find?_eq_some hp);obtain⟨q,hq,rfl⟩:=mB.mp h2;have h3:q.1=g:=Sum.inr.inj (lS h1);have h4:q.2=kd:=V.str.inj ep;rw[←h3,←h4];exact hq
 ·intro h
  rw[show kdV kds=kvP kds from rfl,zIQ nd h];rfl
theorem zGp {kvs:List 90}{k:Key}{v:V}(h:(valV kvs k).isSome=true):(putK kvs k v).length=kvs.length:=by
 unfold putK;rw[if_pos,lC];rw[List.any_eq_true];cases e:kvs.find? (λ kv=>decide (kv.1=k)) with
 |none =>
  have:valV kvs k=none:=by show (kvs.find? λ kv=>decide (kv.1=k)).map (·.2)=_;rw[e];rfl
  rw[this] at h;cases h
 |some p=>have h1:=List.find?_some e;exact⟨p,List.mem_of_find?_eq_some e,h1⟩
theorem zJZ {x:Str}:∀{l:List Str}{m:Nat},m<l.idxOf x->l[m]?≠some x
 |[],m,_=>by simp
 |y::r,m,h=>by
  rw[List.idxOf_cons] at h;cases c:(y == x) with
  |true=>rw[c] at h;exact absurd h (Nat.not_lt_zero _)
  |false =>
   rw[c] at h
   match m with
   |0=>intro e;cases e;rw[beq_self_eq_true] at c;cases c
   |m+1=>exact zJZ (l:=r) (m:=m) (Nat.lt_of_succ_lt_succ h)
theorem zCW:∀(t:Tr) (κ:Kno) (n:Nat),ngT t->(∀x d,κ x=some d->d.deep<=2)->(blT κ n t).deep<=t.dep+2
 |.num _,κ,n,_,_=>by simp[blT,Tr.dep,Dt.deep,Dt.deeps]
 |.name x,κ,n,_,h=>by
  show ((κ x).getD (.tup [.str "name", .str x])).deep<=3;cases e:κ x with
  |none=>simp[Dt.deep,Dt.deeps]
  |some d=>have:=h x d e;simp only[Option.getD_some];lia
 |.ask _,κ,n,_,_=>by simp[blT,Tr.dep,Dt.deep,Dt.deeps]
 |.stop _,κ,n,_,_=>by simp[blT,Tr.dep,Dt.deep,Dt.deeps]
 |.gap _ _,κ,n,g,_=>g.elim
 |.say a,κ,n,g,h=>by
  have:=zCW a κ n g h;simp only[blT,Tr.dep,Dt.deep,Dt.deeps]
  lia
 |.bin o a b,κ,n,g,h=>by
  have:=zCW a κ n g.1 h;have:=zCW b κ n g.2 h;simp only[blT,Tr.dep,Dt.deep,Dt.deeps]
  lia
 |.ite a b c,κ,n,g,h=>by
  have:=zCW a κ n g.1 h;have:=zCW b κ n g.2.1 h;have:=zCW c κ n g.2.2 h;simp only[blT,Tr.dep,Dt.deep,Dt.deeps]
  lia
 |.lett x a b,κ,n,g,h=>by
  have:=zCW a κ n g.1 h
  have:=zCW b (setK κ x (atD n)) (n+1) g.2 λ y d e=>by
   unfold setK at e
   by_cases z:y=x
   ·rw[if_pos z] at e
    cases e;simp[atD,Dt.deep,Dt.deeps]
   ·rw[if_neg z] at e
    exact h y d e
  simp only[blT,Tr.dep,Dt.deep,Dt.deeps]
  lia
def DuOk (d:Dt):Prop:=∃ds,d = .tup ds/\(Dt.tup ds).deep<=62
theorem zJQ {as:List Str}{R:List 70}:∀x d,kapL as R x=some d->d.deep<=2:=λ x d e=>by
 unfold kapL at e;obtain⟨y,_,rfl⟩:=lU.mp e
 by_cases c:y∈as
 ·rw[if_pos c];simp[atomD,Dt.deep,Dt.deeps]
 ·rw[if_neg c];simp[lostD,Dt.deep,Dt.deeps]
theorem zLU {as:List Str}{ps:List 70}{t:Tr}(g:ngT t) (h:t.dep<=60):DuOk (dueO as ps t):=by
 obtain⟨s,pl,e,_,_⟩:=zGx (m:=0) (t:=t) (zJP as ps.reverse) g;have hd:=zCW t (kapL as ps.reverse) 0 g zJQ;refine⟨_,e,?_⟩;rw[←e]
 lia
theorem zMO {x y:Str}{rs:List 70}(nd:(rs.map (·.1)).Nodup) (hx:x∈rs.map (·.1)):sn x y rs=true↔bnd y rs=some x:=by
 induction rs with
 |nil=>cases hx
 |cons p r ih =>
  rw[mJ,nY] at nd;rw[mJ,nK] at hx;unfold sn bnd
  by_cases c2:p.2=y
  ·rw[if_pos (.inr c2),if_pos c2,decide_eq_true_iff]
   exact⟨λ h=>by rw[h.1],λ h=>⟨mD h,c2⟩⟩
  ·rw[if_neg c2]
   by_cases c1:p.1=x
   ·rw[if_pos (.inl c1),decide_eq_true_iff]
    refine⟨λ h=>absurd h.2 c2,λ h=>?_⟩;have:=zGw h;exact absurd (mB.mpr ⟨_,this,c1.symm⟩) nd.1
   ·rw[if_neg (λ h=>h.elim c1 c2)]
    exact ih nd.2 (hx.resolve_left λ e=>c1 e.symm)
theorem zFV {κ:Str->V}{x:Trip}{P:List Trip}{φ φ':List (Str × Dt)}(h:∀g e,(g,e)∈φ'↔OcP [x] φ g e):Jn3 κ (x::P) φ↔Jn3 κ [x] φ/\Jn3 κ P φ':=by
 constructor
 ·intro j
  refine⟨j.mem λ z hz=>by rw[mO.mp hz];exact lO,λ z hz=>j.nb z (lP _ hz),λ z hz g d o y hy=>j.cs z (lP _ hz) g d o y (lP _ hy),λ z hz g d o d' hd=>?_⟩;rcases (h g d').mp hd with m|⟨y,hy,oy⟩
  ·exact j.cf z (lP _ hz) g d o d' m
  ·rw[mO.mp hy] at oy
   exact j.cs z (lP _ hz) g d o x lO d' oy
 ·rintro⟨j1,j2⟩
  have m1:∀g d,Oc3 x g d->(g,d)∈φ':=λ g d o=>(h g d).mpr (.inr ⟨x,lO,o⟩);refine⟨λ z hz=>?_,λ z hz g d o y hy d' o'=>?_,λ z hz g d o d' hd=>?_⟩
  ·rcases lM.mp hz with rfl|m
   ·exact j1.nb _ lO
   ·exact j2.nb z m
  ·rcases lM.mp hz with rfl|m<;>rcases lM.mp hy with rfl|m'
   ·exact j1.cs _ lO g d o _ lO d' o'
   ·exact(j2.cf y m' g d' o' d (m1 g d o)).symm
   ·exact j2.cf z m g d o d' (m1 g d' o')
   ·exact j2.cs z m g d o y m' d' o'
  ·rcases lM.mp hz with rfl|m
   ·exact j1.cf _ lO g d o d' hd
   ·exact j2.cf z m g d o d' ((h g d').mpr (.inl hd))
theorem zF4 {x:Trip}{P:List Trip}{φ φ':List (Str × Dt)}(h:∀g e,(g,e)∈φ'↔OcP [x] φ g e) (g:Str) (e:Dt):OcP (x::P) φ g e↔OcP P φ' g e:=by
 unfold OcP;rw[h g e];unfold OcP;constructor
 ·rintro (m|⟨y,hy,o⟩)
  ·exact .inl (.inl m)
  ·rcases lM.mp hy with rfl|m
   ·exact .inl (.inr ⟨_,lO,o⟩)
   ·exact .inr ⟨y,m,o⟩
 ·rintro ((m|⟨y,hy,o⟩)|⟨y,hy,o⟩)
  ·exact .inl m
  ·rw[mO.mp hy] at o
   exact .inr ⟨x,lO,o⟩
  ·exact .inr ⟨y,lP _ hy,o⟩
theorem zLr {okv:List 90}{ps:List 70}{x y:Str}(h:OpD okv ps) (hl:okv.length<100):OpD (putK okv (Sum.inr y:Key) (.str x)) (ps++[(x,y)]):=by
 have hv:∀z,valV (putK okv (Sum.inr y:Key) (.str x)) (Sum.inr z:Key)=(bnd z (ps++[(x,y)]).reverse).map V.str:=λ z=>by
  rw[zBc,nT];show _=(if y=z then some x else bnd z ps.reverse).map V.str
  by_cases c:y=z
  ·rw[if_pos c,if_pos (by rw[c])];rfl
  ·rw[if_neg c,if_neg (λ e=>c (Sum.inr.inj e).symm)];exact h.vl z
 refine⟨λ p hp=>?_,hv,by have:=zAx okv (Sum.inr y:Key) (.str x);lia⟩
 have hb:∀z,bnd z ps.reverse≠none\/z=y->∃w,bnd z (ps++[(x,y)]).reverse=some w:=λ z hz=>by
  rw[nT];show ∃w,(if y=z then some x else bnd z ps.reverse)=some w
  by_cases c:y=z
  ·exact⟨x,if_pos c⟩
  ·rw[if_neg c]
   rcases hz with n|e
   ·exact Option.ne_none_iff_exists'.mp n
   ·exact absurd e.symm c
 have key:∃z,p.1=(Sum.inr z:Key)/\(bnd z ps.reverse≠none\/z=y):=by
  unfold putK at hp;split at hp
  ·obtain⟨q,hq,rfl⟩:=mB.mp hp
   obtain⟨z,w,e1,e2⟩:=h.ks q hq
   by_cases c:q.1=(Sum.inr y:Key)
   ·rw[if_pos c];exact⟨y,by first|rfl|exact c,.inr rfl⟩
   ·rw[if_neg c];exact⟨z,e1,.inl (by rw[e2];exact Option.some_ne_none _)⟩
  ·rcases lJ.mp hp with m|m
   ·obtain⟨z,w,e1,e2⟩:=h.ks p m
    exact⟨z,e1,.inl (by rw[e2];exact Option.some_ne_none _)⟩
   ·rw[mO.mp m];exact⟨y,rfl,.inr rfl⟩
 obtain⟨z,e,hz⟩:=key;obtain⟨w,ew⟩:=hb z hz;exact⟨z,w,e,ew⟩
def TailV (H:Hp) (s t:Tr) (ps:List 70) (xs ys:List V):Prop :=
 (∃c d,xs=[c]/\ys=[d]/\((∃n,c=V.int n)\/∃z,c=V.str z)/\scal c d=true/\(hdA s t ps=true↔c=d)/\kids2 s t ps=[])\/(hdA s t ps=true/\xs.length=(kids2 s t ps).length/\ys.length=(kids2 s t ps).length/\∀(i:Nat) (x y:V),xs[i]?=some x->ys[i]?=some y->∃q:Tr × Tr,(kids2 s t ps)[i]?=some (q.1,q.2,ps)/\Rep H q.1 x/\Rep H q.2 y)
theorem zIV {H:Hp}{s t:Tr}{ps:List 70}{a b:Addr}(hk:s.kd=t.kd) (n1:¬s.kd = .gap) (n2:¬s.kd = .name) (n3:¬s.kd = .lett) (hL:Rep H s (.ref a)) (hR:Rep H t (.ref b)):∃xs ys,H a=some (.tup (.str s.kd.s::xs))/\H b=some (.tup (.str t.kd.s::ys))/\xs.length<=3/\ys.length<=3/\TailV H s t ps xs ys:=by
 rcases zBz hk with ⟨n,m,rfl,rfl⟩|⟨n,m,rfl,rfl⟩|⟨n,m,rfl,rfl⟩|⟨n,m,rfl,rfl⟩|⟨_,_,_,_,rfl,rfl⟩|⟨a1,a2,rfl,rfl⟩|⟨o,a1,b1,a2,b2,rfl,rfl⟩|⟨a1,b1,c1,a2,b2,c2,rfl,rfl⟩|⟨_,_,_,_,_,_,rfl,rfl⟩
 ·obtain⟨_,e,ha⟩:=hL;cases e
  obtain⟨_,e,hb⟩:=hR;cases e;exact⟨_,_,ha,hb,by simp,by simp,.inl ⟨_,_,rfl,rfl,(by first|exact .inl 72|exact .inr 72),rfl,by simp[hdA,hdG,Tr.kd,Kd.leaf,bare],rfl⟩⟩
 ·exact absurd rfl n2
 ·obtain⟨_,e,ha⟩:=hL;cases e
  obtain⟨_,e,hb⟩:=hR;cases e;exact⟨_,_,ha,hb,by simp,by simp,.inl ⟨_,_,rfl,rfl,(by first|exact .inl 72|exact .inr 72),rfl,by simp[hdA,hdG,Tr.kd,Kd.leaf,bare],rfl⟩⟩
 ·obtain⟨_,e,ha⟩:=hL;cases e
  obtain⟨_,e,hb⟩:=hR;cases e;exact⟨_,_,ha,hb,by simp,by simp,.inl ⟨_,_,rfl,rfl,(by first|exact .inl 72|exact .inr 72),rfl,by simp[hdA,hdG,Tr.kd,Kd.leaf,bare],rfl⟩⟩
 ·exact absurd rfl n1
 ·obtain⟨_,u,e,ha,r1⟩:=hL;cases e
  obtain⟨_,u',e,hb,r2⟩:=hR;cases e;refine⟨_,_,ha,hb,by simp,by simp,.inr ⟨rfl,rfl,rfl,λ i x y hx hy=>?_⟩⟩
  match i with
  |0=>cases hx;cases hy;exact⟨(a1,a2),rfl,r1,r2⟩
  |i+1=>cases hx
 ·obtain⟨_,u,w,e,ha,r1,r2⟩:=hL;cases e
  obtain⟨_,u',w',e,hb,s1,s2⟩:=hR;cases e;refine⟨[u,w],[u',w'],by cases o<;>exact ha,by cases o<;>exact hb,by simp,by simp,.inr ⟨by cases o<;>rfl,rfl,rfl,λ i x y hx hy=>?_⟩⟩
  match i with
  |0=>cases hx;cases hy;exact⟨(a1,a2),rfl,r1,s1⟩
  |1=>cases hx;cases hy;exact⟨(b1,b2),rfl,r2,s2⟩
  |i+2=>cases hx
 ·obtain⟨_,u,w,z,e,ha,r1,r2,r3⟩:=hL;cases e
  obtain⟨_,u',w',z',e,hb,s1,s2,s3⟩:=hR;cases e;refine⟨_,_,ha,hb,by simp,by simp,.inr ⟨rfl,rfl,rfl,λ i x y hx hy=>?_⟩⟩
  match i with
  |0=>cases hx;cases hy;exact⟨(a1,a2),rfl,r1,s1⟩
  |1=>cases hx;cases hy;exact⟨(b1,b2),rfl,r2,s2⟩
  |2=>cases hx;cases hy;exact⟨(c1,c2),rfl,r3,s3⟩
  |i+3=>cases hx
 ·exact absurd rfl n3
theorem zKu {s t:Tr}{ps:List 70}{q:Trip}(hk:s.kd=t.kd) (h:q∈kids2 s t ps):q.2.1∈t.parts:=by
 rcases zBz hk with ⟨n,m,rfl,rfl⟩|⟨n,m,rfl,rfl⟩|⟨n,m,rfl,rfl⟩|⟨n,m,rfl,rfl⟩|⟨_,_,_,_,rfl,rfl⟩|⟨a1,a2,rfl,rfl⟩|⟨o,a1,b1,a2,b2,rfl,rfl⟩|⟨a1,b1,c1,a2,b2,c2,rfl,rfl⟩|⟨_,_,_,_,_,_,rfl,rfl⟩<;>simp[kids2] at h<;>first|(rcases h with rfl|rfl|rfl<;>simp[Tr.parts])|(rcases h with rfl|rfl<;>simp[Tr.parts])|(rcases h with rfl;simp[Tr.parts])
theorem bl_ge:∀(t:Tr) (κ:Kno) (n:Nat),ngT t->(∀x d,κ x=some d->1<=d.deep)->t.dep<=(blT κ n t).deep
 |.num _,κ,n,_,_=>by simp[blT,Tr.dep,Dt.deep,Dt.deeps]
 |.name x,κ,n,_,h=>by
  show 1<=((κ x).getD (.tup [.str "name", .str x])).deep;cases e:κ x with
  |none=>simp[Dt.deep,Dt.deeps]
  |some d=>exact h x d e
 |.ask _,κ,n,_,_=>by simp[blT,Tr.dep,Dt.deep,Dt.deeps]
 |.stop _,κ,n,_,_=>by simp[blT,Tr.dep,Dt.deep,Dt.deeps]
 |.gap _ _,κ,n,g,_=>g.elim
 |.say a,κ,n,g,h=>by
  have:=bl_ge a κ n g h;simp only[blT,Tr.dep,Dt.deep,Dt.deeps]
  lia
 |.bin o a b,κ,n,g,h=>by
  have:=bl_ge a κ n g.1 h;have:=bl_ge b κ n g.2 h;simp only[blT,Tr.dep,Dt.deep,Dt.deeps]
  lia
 |.ite a b c,κ,n,g,h=>by
  have:=bl_ge a κ n g.1 h;have:=bl_ge b κ n g.2.1 h;have:=bl_ge c κ n g.2.2 h;simp only[blT,Tr.dep,Dt.deep,Dt.deeps]
  lia
 |.lett x a b,κ,n,g,h=>by
  have:=bl_ge a κ n g.1 h
  have:=bl_ge b (setK κ x (atD n)) (n+1) g.2 λ y d e=>by
   unfold setK at e
   by_cases z:y=x
   ·rw[if_pos z] at e
    cases e;simp[atD,Dt.deep,Dt.deeps]
   ·rw[if_neg z] at e
    exact h y d e
  simp only[blT,Tr.dep,Dt.deep,Dt.deeps]
  lia
theorem zL7 {ns:List Str}:∀x d,kapN ns x=some d->1<=d.deep:=λ x d e=>by
 unfold kapN at e
 by_cases c:x∈ns
 ·rw[if_pos c] at e;cases e;simp[atomD,Dt.deep,Dt.deeps]
 ·rw[if_neg c] at e;cases e
theorem zJN {l:List Str}{x:Str}(h:x∉l) (z:Str):kapN (l++[x]) z=if z=x then some (atomD l.length) else kapN l z:=by
 unfold kapN
 by_cases c:z=x
 ·subst c
  rw[if_pos rfl,if_pos 59,List.idxOf_append,if_neg h];simp
 ·rw[if_neg c]
  by_cases m:z∈l
  ·rw[if_pos m,if_pos (by simp[m]),List.idxOf_append,if_pos m]
  ·rw[if_neg m,if_neg (by simp[m,c])]
end L2
namespace PySem
open Sem (wp)
end PySem
namespace PySem.W
open PySem
end PySem.W
namespace PySem
open Sem (wp)
section
variable {prog:Program}{w:World}{A:Around}{E:XQ}{s:Shared}
noncomputable def ddS (ks:List Str) (x:Str):List Str:=if x∈ks then ks else ks++[x]
noncomputable def dd (xs:List Str):List Str:=xs.foldl ddS []
end
end PySem
namespace L2
open PySem PySem.Spec PyProof.Rows
noncomputable def Itel (K:W.Frag) (a:Addr):It :=
 ⟨λ i H=>∃xs x,SqL K H a xs/\xs[i]?=some x,λ i H x H'=>∃T y,H T=none/\x = .ref T/\H'=upd H T (.tup [.int i,y])/\∀xs,SqL K H a xs->xs[i]?=some y,λ i H=>∃xs,SqL K H a xs/\xs.length<=i⟩
theorem zHt {P:Program}{w:World}{K:W.Frag}{es:List Expr}{k:Nat}{pos:Pos}(a e it:Addr) (hei:e≠it) :
  Turn P w K (.Tuple es k pos) (Itel K a) [e,it] e (λ i h=>(∃old,IsEnum h e it i old)/\h.IsListIter it a i) where
 mem:=by simp
 obj:=λ i h st b hb=>by
  obtain⟨⟨old,z⟩,o,e',c,d⟩:=st;rcases lM.mp hb with y|y
  ·subst y;exact⟨_,z,λ v q=>by have q':Data.fields _=Data.cell v:=q;cases q'⟩
  ·cases mO.mp y
   exact⟨o,e',λ v q=>by rw[d] at q;cases q⟩
 keep:=λ i h h' st k=>by
  obtain⟨⟨old,z⟩,o,e',r⟩:=st;exact⟨⟨old,k e 59 _ z⟩,o,k it 59 o e',r⟩
 item:=by
  intro X hP hw hK hc i jP s σ H E I hf st hg;subst hP hw hK;obtain⟨xs,x,hq,hx⟩:=hg;obtain⟨its,rv,p,hz⟩:=I.list hq;obtain⟨u,hu,ru⟩:=rv.get hx;obtain⟨⟨old,he⟩,hit⟩:=st;have p':s.heap.IsList a its.toArray:=p.isList
  have hai:a≠it:=λ z=>by
   obtain⟨o1,q1,c1,_⟩:=p';obtain⟨o2,q2,c2,_⟩:=hit;rw[z,q2] at q1;cases q1;rw[c2] at c1;injection c1 with c3;exact absurd c3 66
  have hae:a≠e:=λ z=>by
   obtain⟨o1,q1,c1,_⟩:=p';rw[z] at q1;have he':s.heap.get? e=some _:=he;rw[he'] at q1;cases q1;injection c1 with c3;exact absurd c3 66
  have hilt:i<its.toArray.size:=by
   have:=(lI.mp hu).1;simpa using this
  refine wpAny_pyNext_enum_itemD (Draws.list (A:=X.A.in1) (I.ok.hd hc) it a hai its.toArray) he ⟨hit,p'⟩ hilt hei (by simp[hei,Ne.symm hae]) λ y h1 tk hy ho hst hT hsz hk=>?_
  have hyu:y=u:=by
   have:(its.toArray)[i]?=some u:=by simpa using hu
   rw[hy] at this;exact mD this
  subst hyu;refine⟨_,rfl,?_⟩;have hn:H s.heap.objs.size=none:=I.fresh
  have I1:Inv X jP σ (upd H s.heap.objs.size (.tup [.int i,x])) { s with heap:=h1,toks:=tk+1 }:=I.turnedL (ch:=[e,it]) (λ b o hb q=>hk b o (λ z=>hb (by simp[z])) (λ z=>hb (by simp[z])) q) hf (lQ _)
   ⟨Nat.le_of_lt (zAO (show 2<=1000 by decide)),[.int i tk,y],.cons 72 (.cons ru .nil),_,hT,rfl,_,rfl⟩
  have neT:∀b∈[e,it],b≠s.heap.objs.size:=λ b hb=>by
   rcases lM.mp hb with z|z
   ·subst z;exact lR (lH (show s.heap.get? b=some _ from he))
   ·cases mO.mp z
    obtain⟨o2,q2,_⟩:=hit;exact lR (lH q2)
  refine wpAny_letOwnedTupleGo_enum (s:={ s with heap:=h1,toks:=tk+1 }) ho λ h2 he2 hs2=>⟨.ref s.heap.objs.size,_,?_,rfl,⟨_,x,hn,rfl,rfl,λ ys hy'=>by rw[I.list_inj hy' hq];exact hx⟩,⟨⟨_,he2⟩,?_⟩,λ b hb=>?_⟩
  ·refine I1.turnedN (t':=tk+1) (ch:=[e]) (λ b o hb q=>(hs2.2 b (λ z=>hb (by simp[z]))).trans q) λ b hb=>?_
   have eb:=mO.mp hb;subst eb;obtain⟨f0,f⟩:=hf b 59;exact⟨by rw[zAR (neT b 59)];exact f0,f⟩
  ·obtain⟨o2,q2,r2⟩:=hst.1
   exact⟨o2,(hs2.2 it hei.symm).trans q2,r2⟩
  ·rw[zAR (neT b hb)];exact(hf b hb).1
 done:=by
  intro X hP hw hK hc i jP s σ H E I hf st hg;subst hP hw hK;obtain⟨xs,hq,hx⟩:=hg;obtain⟨its,rv,p,hz⟩:=I.list hq;obtain⟨⟨old,he⟩,hit⟩:=st;have p':s.heap.IsList a its.toArray:=p.isList
  have hai:a≠it:=λ z=>by
   obtain⟨o1,q1,c1,_⟩:=p';obtain⟨o2,q2,c2,_⟩:=hit;rw[z,q2] at q1;cases q1;rw[c2] at c1;injection c1 with c3;exact absurd c3 66
  have hl:=rv.length;have hT:s.TypeIs (.ref e) "enumerate" := ⟨_,he,rfl⟩;unfold pyNext;refine lA 74;show wpAny _ _ (field (.ref e) 2 >>= _) _ _ _;refine lA (wpAny_field he rfl (x:=.ref it) rfl ?_);refine lA (wpAny_nextOf_list_end (I.ok.hd hc) hit p' (by simp;lia) λ h1 x hx1 ⟨o,ho,hc'⟩=>?_);refine lA (wpAny_isInstance (T := "StopIteration") (b:=true) ⟨o,ho,hc'⟩ isSubtype_stop ?_);exact lB ⟨rfl,I.turnedN (t':=s.toks) (ch:=[it]) (λ b o hb q=>hx1 b o (λ z=>hb (by simp[z])) q) λ b hb=>hf b (by simp at hb ⊢;exact .inr hb)⟩
 self:=λ Ω Ω Ω Ω Ω st h=>let ⟨⟨_,he⟩,_⟩:=st;wpAny_pyIter_enum he h
def zMt (K:W.Frag) (ta:TA):TI:=λ σ H R=>ta σ H λ vs H1=>∃a,vs=[.ref a]/\(∃xs,SqL K H1 a xs)/\R (Itel K a) H1
theorem zHK {X:Cx}{es:List Expr}{k:Nat}{tpos:Pos}{a:Expr}{ta:TA}{p pos:Pos}(hg:Gl X "enumerate") (hm:X.mg "enumerate" = none) (ha:PA X [a] ta) (hs:starEach [a] X.env=[(false,eval a X.env)]:=by rfl) :
  PI X (.Tuple es k tpos) (.Call (.Name "enumerate" p) [a] [] pos) (zMt X.K ta):=by
 intro jP s σ H R I h;refine Call_ (zDC I hg hm boot_enumerate (PyProof.Rows.callWith_type1 (thn (ha pos jP s σ H _ I h) λ us s1 ⟨vs,H1,I1,r1,q1⟩=>?_) hs rfl));obtain⟨b,e,⟨xs,hq⟩,q⟩:=q1;subst e;obtain⟨u,rfl,ru⟩:=vals1 r1;cases ru;obtain⟨its,rv,tp,hz⟩:=I1.list hq;refine call_enumerate_list tp.isList λ h' he hit hsz hk=>?_;refine wpAny_pyIter_enum he ⟨_,[s1.heap.objs.size+1,s1.heap.objs.size],_,_,H1,rfl,I1.kept (t':=s1.toks) hk,zHt b _ _ (Nat.succ_ne_self _),⟨⟨_,he⟩,hit⟩,λ c hc=>?_,q⟩
 have ge:s1.heap.objs.size<=c:=by
  rcases lM.mp hc with z|z
  ·rw[z];exact Nat.le_succ _
  ·rw[mO.mp z];exact lQ _
 exact I1.fpOk ge (I1.hok.fresh ge)
theorem zGD {K:W.Frag}{a:Addr}{xs:List V}{g:TG}{tb:TS}{D:Ends}{σ:St}{H:Hp}(Pv:Nat->St->Hp->Prop) (h0:Pv 0 σ H) (hl:∀i σ H,i<=xs.length->Pv i σ H->SqL K H a xs)
  (hs:∀i x T σ H,xs[i]?=some x->Pv i σ H->H T=none->g (.ref T) σ (upd H T (.tup [.int i,x])) λ σ2 H2=>tb { D with nx:=Pv (i+1),ct:=Pv (i+1),bk:=D.nx } σ2 H2) (hd:∀σ H,Pv xs.length σ H->D.nx σ H) :
  ∃W:Nat->Nat->St->Hp->Prop,(∃m,W 0 m σ H)/\∀i m σ H,W i m σ H ->
   ((Itel K a).stop i H/\D.nx σ H)\/((Itel K a).go i H/\∃N:St->Hp->Prop,75/\∀x H',(Itel K a).yld i H x H'->g x σ H' λ σ2 H2=>tb { D with nx:=N,ct:=N,bk:=D.nx } σ2 H2):=by
 refine⟨λ i m σ H=>m=xs.length - i/\i<=xs.length/\Pv i σ H,⟨xs.length,by simp,lX _,h0⟩,?_⟩;rintro i m σ H ⟨rfl,hi,p⟩;have q:=hl i σ H hi p
 by_cases hlt:i<xs.length
 ·refine .inr ⟨⟨xs,xs[i],q,by simp[hlt]⟩,Pv (i+1),λ σ' H' p'=>⟨xs.length - (i+1),by lia,rfl,hlt,p'⟩,λ x H' y=>?_⟩
  obtain⟨T,z,hT,ex,eH,y⟩:=y;subst ex eH;exact hs i z T σ H (y xs q) p hT
 ·have e:i=xs.length:=by lia
  subst e;exact .inl ⟨⟨xs,q,lQ _⟩,hd σ H p⟩
open PySem.Calls PySem.W
noncomputable def zCC {α:Type}(xs:List α) (lo hi st:Option Int):List α:=(sliceRange (sliceBounds lo hi st xs.length).1 (sliceBounds lo hi st xs.length).2.1 (sliceBounds lo hi st xs.length).2.2).filterMap (xs[·]?)
theorem zFN {α:Type}(xs:List α) (lo hi st:Option Int) (f:α->Value):(zCC xs lo hi st).length<=xs.length:=by
 have h:=slicePick_size_le (xs.map f).toArray lo hi st;unfold slicePick at h;rw[mG] at h;simp only[mG,lC] at h;refine mF (Nat.le_of_eq ?_) h;unfold zCC;generalize sliceRange (sliceBounds lo hi st xs.length).1 (sliceBounds lo hi st xs.length).2.1 (sliceBounds lo hi st xs.length).2.2=is
 induction is with
 |nil=>rfl
 |cons i is ih =>
  rw[List.filterMap_cons,List.filterMap_cons];have e:(xs.map f).toArray[i]?=(xs[i]?).map f:=by simp
  rw[e];cases xs[i]? with
  |none=>exact ih
  |some x=>simp only[Option.map_some,mK];rw[ih]
theorem zIP:∀{xs:List V}{us:List Value},Vals xs us->∀i:Nat,(xs[i]?=none/\us[i]?=none)\/∃x u,xs[i]?=some x/\us[i]?=some u/\RelV x u
 |_,_,.nil,i=>.inl ⟨by simp,by simp⟩
 |_,_,.cons h t,0=>.inr ⟨_,_,rfl,rfl,h⟩
 |_,_,.cons h t,i+1=>by simpa using zIP t i
theorem zDf {xs:List V}{us:List Value}(r:Vals xs us):∀is:List Nat,Vals (is.filterMap (xs[·]?)) (is.filterMap (us.toArray[·]?))
 |[]=>.nil
 |i::is=>by
  rw[List.filterMap_cons,List.filterMap_cons];have e:us.toArray[i]?=us[i]?:=by simp
  rw[e];rcases zIP r i with ⟨e1,e2⟩|⟨x,u,e1,e2,h⟩
  ·rw[e1,e2];exact zDf r is
  ·rw[e1,e2];exact .cons h (zDf r is)
def tSl3 (K:W.Frag) (te:TE) (tl th ts:TO):TE:=λ σ H Q=>te σ H λ x H1=>tl σ H1 λ l H2=>th σ H2 λ u H3=>ts σ H3 λ c H4=>∃a xs,x = .ref a/\c≠some 0/\SqL K H4 a xs/\∀p,H4 p=none->Q (.ref p) (upd H4 p (.lst (zCC xs l u c)))
theorem zMb {X:Cx}{e:Expr}{te:TE}{lo hi:Option Expr}{es:Expr}{tl th ts:TO}{pos p2:Pos}(he:PE X e te) (hl:PO X lo tl) (hu:PO X hi th) (hst:PO X (some es) ts):PE X (.Subscript e (.Slice lo hi (some es) p2) pos) (tSl3 X.K te tl th ts):=by
 intro jP s σ H Q I h;refine Subscript_ (thn (he jP s σ H _ I h) λ v s1 ⟨x,H1,I1,r1,q1⟩=>?_);refine wpAny_Slice (thn (hl jP s1 σ H1 _ I1 q1) λ vl s2 ⟨l,H2,I2,pl,q2⟩=>thn (hu jP s2 σ H2 _ I2 q2) λ vu s3 ⟨u,H3,I3,pu,q3⟩=>thn (hst jP s3 σ H3 _ I3 q3) λ vc s4 ⟨c,H4,I4,pc,a,xs,ex,hc,hx,q⟩=>?_);subst ex;cases r1;have I5:Inv X jP σ H4 { s4 with heap:=s4.heap.push { cls:=.type "slice", data:=.fields #[vl,vu,vc] } }:=I4.kept (t':=s4.toks) λ b ob q=>lE _ q;obtain⟨its,r,ht,hz⟩:=I5.list hx;have hlen:=r.length
 have hg:wpAny 67 X.A (getItem (.ref a) (.ref s4.heap.objs.size)) (EP X jP σ Q) X.xe { s4 with heap:=s4.heap.push { cls:=.type "slice", data:=.fields #[vl,vu,vc] } }:=by
  refine wpAny_getItem_list_slice ht.isList (Heap.IsSliceOf.new ..) pl pu pc hc ?_ (by rw[mG]<;>omega);refine⟨.ref _,_,I5.laid (t':=s4.toks) (o:=.lst (zCC xs l u c)) (λ b ob q=>lE _ q) (lQ _) ?_,rfl,q _ (I5.hok.fresh (lQ _))⟩;refine⟨mF (zFN xs l u c (λ Ω=>.none)) hz,(zCC its l u c),0,?_,?_⟩
  ·have:=zDf r (sliceRange (sliceBounds l u c xs.length).1 (sliceBounds l u c xs.length).2.1 (sliceBounds l u c xs.length).2.2)
   unfold zCC;rw[←hlen];simpa using this
  ·refine(lG _ rfl).trans ?_
   unfold slicePick zCC;simp
 show wpAny 67 X.A (subscriptTail e (.Slice lo hi (some es) p2) (.ref a) (.ref s4.heap.objs.size)) (EP X jP σ Q) X.xe { s4 with heap:=s4.heap.push { cls:=.type "slice", data:=.fields #[vl,vu,vc] } };exact tail_any (ops:=[.ref a,.ref s4.heap.objs.size]) ht.isList.typeIs slot_list_getitem.lookup hg (by with_unfolding_all rfl)
theorem zHy {α β:Type}(f:α->β) (xs:List α) (lo hi st:Option Int):zCC (xs.map f) lo hi st=(zCC xs lo hi st).map f:=by
 unfold zCC;rw[lC];generalize sliceRange (sliceBounds lo hi st xs.length).1 (sliceBounds lo hi st xs.length).2.1 (sliceBounds lo hi st xs.length).2.2=is
 induction is with
 |nil=>rfl
 |cons i is ih =>
  rw[List.filterMap_cons,List.filterMap_cons,mH];cases xs[i]? with
  |none=>exact ih
  |some x=>simp only[Option.map_some,mJ];rw[ih]
section
variable {X:Cx}
def zKK:R2:=λ x y H Q=>E4 λ(p:Addr) (xs:List V) (ds:List Dt) (dx:Dt)=>A6 (y = .ref p) (H p=some (.lst xs)) (DRs H ds xs) (DR H dx x) (Dt.deeps ds<=100) (Q (.bl (!(ds.any λ d=>Dt.beq d dx))) H)
theorem zHz (hu:X.A.units+150<cLine):OpR X (compareOp .NotIn) zKK:=by
 intro jP s σ H x y v u Q I rx ry h;obtain⟨p,xs,ds,dx,rfl,hp,hds,hx,hd,q⟩:=h;cases ry;obtain⟨its,r,pl,hz⟩:=I.list (SqL.of hp);refine SeqAt.notIn_listAt (eqW H dx) pl.isList (λ w hw=>zGo I rx hx (by first|(show X.A.in1.units+100<cLine;rw[show X.A.in1.units=X.A.units+1 from rfl];lia)|(show X.A.in1.in1.units+100<cLine;rw[show X.A.in1.in1.units=X.A.units+2 from rfl];lia)|lia) hds r hd w (by simpa using hw)) ⟨.bl _,H,I,rfl,?_⟩;rw[show its.toArray.any (eqW H dx)=its.any (eqW H dx) by simp,zGz hds r];exact q
end
theorem zMx {t:Tr}(g:ngT t):t.dep<=t.size:=by
 induction t with
 |gap g' as=>exact g.elim
 |say a ih=>have:=ih g;simp only[Tr.dep,Tr.size];lia
 |bin o a b iha ihb=>have:=iha g.1;have:=ihb g.2;simp only[Tr.dep,Tr.size];lia
 |ite a b c iha ihb ihc=>have:=iha g.1;have:=ihb g.2.1;have:=ihc g.2.2;simp only[Tr.dep,Tr.size];lia
 |lett x a b iha ihb=>have:=iha g.1;have:=ihb g.2;simp only[Tr.dep,Tr.size];lia
 |_=>simp[Tr.dep,Tr.size]
theorem cutS (ws:List Str) (a b:Nat) (h:a<=ws.length) (hb:b<=ws.length):cutV (ws.map V.str) (some (a:Int)) (some (b:Int))=((ws.drop a).take (b - a)).map V.str:=by
 unfold cutV;rw[HT.sIx_nat,HT.sIx_nat,lC,nV h,nV hb,List.map_take,List.map_drop]
theorem zMC (ws:List Str) (b:Nat) (hb:b<=ws.length):cutV (ws.map V.str) none (some (b:Int))=(ws.take b).map V.str:=by
 have e:HT.sIx (ws.map V.str).length 0 none=0:=rfl;unfold cutV;rw[e,HT.sIx_nat,lC,nV hb];simp
theorem zHd (ns:List Int) (lo hi:Option Int):∃ms:List Int,cutV (ns.map V.int) lo hi=ms.map V.int:=⟨_,by unfold cutV;rw[←List.map_drop,←List.map_take]⟩
theorem zK2 (xs:List V) (b:Nat):(cutV xs none (some (b:Int))).length<=b:=by
 unfold cutV;rw[HT.sIx_nat,mL]
 lia
theorem zMB (xs:List V) (a b:Nat):(cutV xs (some (a:Int)) (some (b:Int))).length<=b - a:=by
 unfold cutV;rw[HT.sIx_nat,HT.sIx_nat,mL]
 lia
theorem zHU (cnt:Str->Nat) (ks:List Str):(gkv cnt ks).map (·.1)=ks.map Sum.inr:=by unfold gkv;rw[nO];rfl
theorem zL5 {s t:Tr}{ps:List 70}{q:Trip}(h:q∈kids2 s t ps):q.1∈s.parts:=by
 unfold kids2 at h;split at h<;>simp at h<;>first|(rcases h with rfl|rfl|rfl<;>simp[Tr.parts])|(rcases h with rfl|rfl<;>simp[Tr.parts])|(rcases h with rfl;simp[Tr.parts])
theorem zMl {x:Trip}{g:Str}{d:Dt}{ks:List Str}(h:Oc3 x g d):GIn x.1 ks->g∈ks:=by
 induction h with
 |here=>exact λ k=>k _ _ (by rw[zBT];exact lO)
 |part n m _ ih=>exact λ k=>ih (k.part (zL5 m))
theorem zLF {H:Hp}{kds:List 70}{kvl:List V}(h:DRs H (kdD kds) kvl):Paired (PrV H) kvl (kdV kds):=by
 induction kds generalizing kvl with
 |nil=>cases h;exact .nil
 |cons p r ih =>
  cases h with
  |cons a b =>
   cases a with
   |tup e c =>
    cases c with
    |cons a1 c =>
     cases a1;cases c with
     |cons a2 c =>
      cases a2;cases c;exact .cons ⟨_,rfl,e⟩ (ih b)
theorem nd_pr {φ:List (Str × Dt)}(h:(φ.map (·.1)).Nodup):φ.Nodup:=List.Pairwise.of_map _ (λ a b n e=>n (congrArg _ e)) h
theorem zKo {φ ψ:List (Str × Dt)}(h1:(φ.map (·.1)).Nodup) (h2:(ψ.map (·.1)).Nodup) (h:∀g e,(g,e)∈φ↔(g,e)∈ψ):φ.length=ψ.length :=
 ((List.perm_ext_iff_of_nodup (nd_pr h1) (nd_pr h2)).mpr λ q=>h q.1 q.2).length_eq
theorem zMD {ws:List Str}{cs:List Nat}(h:CsL cs) (g:Str):cntO ws cs g<=3:=by
 unfold cntO;rw[List.getD_eq_getElem?_getD];cases e:cs[ws.idxOf g]? with
 |none=>exact lX _
 |some x=>exact h.1.2 x (lK e)
theorem six (a b c:Int):∃cs:List Nat,[V.int (a % 4),V.int (b % 4),V.int (c % 4),V.int 0,V.int 0,V.int 0]=numV cs/\CsL cs:=by
 have a0:=nW a (show (4:Int)≠0 by decide);have a1:=nX a (show (0:Int)<4 by decide);have b0:=nW b (show (4:Int)≠0 by decide);have b1:=nX b (show (0:Int)<4 by decide);have c0:=nW c (show (4:Int)≠0 by decide);have c1:=nX c (show (0:Int)<4 by decide);generalize a % 4=x at a0 a1;generalize b % 4=y at b0 b1;generalize c % 4=z at c0 c1;refine⟨[x.toNat,y.toNat,z.toNat,0,0,0],?_,⟨rfl,λ u hu=>?_⟩,λ j hj=>?_⟩
 ·show _=[V.int (x.toNat:Int),V.int (y.toNat:Int),V.int (z.toNat:Int),V.int 0,V.int 0,V.int 0]
  rw[Int.toNat_of_nonneg a0,Int.toNat_of_nonneg b0,Int.toNat_of_nonneg c0]
 ·simp only[nK,mX,or_false] at hu
  rcases hu with rfl|rfl|rfl|rfl|rfl|rfl<;>lia
 ·rcases Nat.lt_or_ge j 6 with h|h
  ·rcases (show j=3\/j=4\/j=5 by lia) with rfl|rfl|rfl<;>rfl
  ·rw[List.getD_eq_getElem?_getD,List.getElem?_eq_none (by simpa using h)];rfl
structure KdI (H H':Hp) (sl kl:Addr) (ss:List Str) (i:Nat) (kds:List (Str × Str)) (kvl:List V):Prop where
 g:Same H H'
 es:H' sl=some (.lst (ss.map V.str))
 ek:H' kl=some (.lst kvl)
 dk:DRs H' (kdD kds) kvl
 l1:kds.length<=i
 l2:kvl.length<=i
 nk:(kds.map (·.1)).Nodup
 mm:∀p∈kds,p.1∈ss.take i
 qk:∀p∈kds,p.2 = "quiet" \/ p.2 = "number"
theorem KdI.same {H H' H2:Hp}{sl kl:Addr}{ss:List Str}{i:Nat}{kds:List 70}{kvl:List V}(h:KdI H H' sl kl ss i kds kvl) (k:Same H' H2):KdI H H2 sl kl ss i kds kvl:=⟨h.g.trans k,k _ _ h.es,k _ _ h.ek,h.dk.mono k.tk,h.l1,h.l2,h.nk,h.mm,h.qk⟩
theorem KdI.skip {H H':Hp}{sl kl:Addr}{ss:List Str}{i:Nat}{kds:List 70}{kvl:List V}(h:KdI H H' sl kl ss i kds kvl):KdI H H' sl kl ss (i+1) kds kvl:=⟨h.g,h.es,h.ek,h.dk,Nat.le_succ_of_le h.l1,Nat.le_succ_of_le h.l2,h.nk,(λ p hp=>(List.take_sublist_take_left (Nat.le_succ i)).mem (h.mm p hp)),h.qk⟩
theorem KdI.put {H H':Hp}{sl kl:Addr}{ss:List Str}{i:Nat}{kds:List 70}{kvl:List V}(h:KdI H H' sl kl ss i kds kvl) {gx kd:Str}(hx:ss[i]?=some gx) (nss:ss.Nodup) (hkl:H kl=none) (nsk:sl≠kl) (hk:kd = "quiet" \/ kd = "number") {pt:Addr}(hpt:H' pt=none):KdI H (upd (upd H' pt (.tup [.str gx,.str kd])) kl (.lst (kvl++[.ref pt]))) sl kl ss (i+1) (kds++[(gx,kd)]) (kvl++[.ref pt]):=by
 have k2:=zAC (o:=.tup [.str gx,.str kd]) hpt;have tk:Tk (upd H' pt (.tup [.str gx,.str kd])) (upd (upd H' pt (.tup [.str gx,.str kd])) kl (.lst (kvl++[.ref pt]))):=Tk.lst (k2 _ _ h.ek)
 have hnew:gx∉ss.take i:=λ z=>by
  obtain⟨j,hj⟩:=List.getElem?_of_mem z
  have hji:j<i:=by
   have:=(lI.mp hj).1;rw[mL] at this
   lia
  rw[List.getElem?_take_of_lt hji] at hj;exact absurd (zFS nss hj hx) 65
 have l1:=h.l1;have l2:=h.l2;refine⟨zAY (h.g.trans k2) hkl,by rw[zAR nsk];exact k2 _ _ h.es,zAB,?_,by rw[mI,List.length_singleton];lia,by rw[mI,List.length_singleton];lia,?_,λ p hp=>?_,λ p hp=>?_⟩
 ·unfold kdD
  rw[mN];exact(h.dk.mono (k2.tk.trans tk)).snoc (.tup (tk _ _ zAB) 94)
 ·rw[mN,List.nodup_append]
  refine⟨h.nk,by simp,λ u hu v hv e=>?_⟩;have hv':v=gx:=by simpa using hv
  obtain⟨p,hp,rfl⟩:=mB.mp hu;exact hnew (hv'▸e▸h.mm p hp)
 ·rcases lJ.mp hp with z|z
  ·exact h.skip.mm p z
  ·rw[mO.mp z,zAT hx];exact lZ _ lO
 ·rcases lJ.mp hp with z|z
  ·exact h.qk p z
  ·rw[mO.mp z];exact hk
theorem zLR {α:Type}{R:α->V->Prop}{φ:List (Str × α)}{kvs:List 90}(h:FlG R φ kvs):kvs.length=φ.length:=h.pr.length.symm
theorem zJf {α:Type}{R:α->V->Prop}{φ:List (Str × α)}{kvs:List 90}(h:FlG R φ kvs) {g:Str}{q:α}(m:(g,q)∈φ):∃v,valV kvs (Sum.inr g:Key)=some v/\R q v:=by
 cases e:valV kvs (Sum.inr g:Key) with
 |none=>exact absurd m (zHa h.pr e q)
 |some v =>
  obtain⟨q',m',r⟩:=zJg h.pr e;rw[zGl h.nd m m'];exact⟨v,rfl,r⟩
theorem zDA {X:Cx}{a b:Expr}{ta tb:TE}{pos:Pos}{op:Operator}{r:R2}(ho:OpR X (binaryOp op) r) (ha:Sd (PE X a ta)) (hb:Sd (PE X b tb)):Sd (PE X (.BinOp a op b pos) (tOp r ta tb)):=⟨pe_op ho ha.un hb.un⟩
theorem pa_cS {X:Cx}{es:List Expr}{te:TE}{tA:TA}{c:Const}{k:Nat}{p:Pos}(ha:Sd (PE X (.Constant c k p) te)) (hr:Sd (PA X es tA)):Sd (PA X (.Constant c k p::es) (tCons te tA)):=⟨zAA ha.un hr.un rfl⟩
theorem pa_bS {X:Cx}{es:List Expr}{te:TE}{tA:TA}{a b:Expr}{op:Operator}{p:Pos}(ha:Sd (PE X (.BinOp a op b p) te)) (hr:Sd (PA X es tA)):Sd (PA X (.BinOp a op b p::es) (tCons te tA)):=⟨zAA ha.un hr.un rfl⟩
theorem zMQ {X:Cx}{st:List Stmt}{G:TS->Prop}(h:∃t,Sd (PSs X st t)/\G t):∃t,PSs X st t/\G t:=h.elim λ t ht=>⟨t,ht.1.un,ht.2⟩
theorem pa_tS {X:Cx}{es xs:List Expr}{te:TE}{tA:TA}{k:Nat}{p:Pos}(ha:Sd (PE X (.Tuple xs k p) te)) (hr:Sd (PA X es tA)):Sd (PA X (.Tuple xs k p::es) (tCons te tA)):=⟨zAA ha.un hr.un rfl⟩
theorem pa_nS {X:Cx}{es:List Expr}{te:TE}{tA:TA}{x:Str}{p:Pos}(ha:Sd (PE X (.Name x p) te)) (hr:Sd (PA X es tA)):Sd (PA X (.Name x p::es) (tCons te tA)):=⟨zAA ha.un hr.un rfl⟩
theorem pa_kS {X:Cx}{es xs:List Expr}{ks:List Keyword}{te:TE}{tA:TA}{f:Expr}{p:Pos}(ha:Sd (PE X (.Call f xs ks p) te)) (hr:Sd (PA X es tA)):Sd (PA X (.Call f xs ks p::es) (tCons te tA)):=⟨zAA ha.un hr.un rfl⟩
theorem zBM {X:Cx}{CX:CXT}{k:Nat}{f:Addr}{fd:FuncData}{ps:List Str}{sp:Sp}{ds:List Value}{dvs:List V}{E:XK}{x:Str}{p pos:Pos}{e:Expr}{es:List Expr}{t:TA}(F:FnOk X.prog X.w X.K X.mg X.base CX k f fd ps sp) (hr:Room k X.A) (hg:Gl X x) (hm:X.mg x=some (.ref f)) (hk:W.keepIn X.K (.ref f)=true) (hb:Binds X.K fd ps ds) (hd:Vals dvs ds) (hx:zHp CX X E)
  (ha:Sd (PA X (e::es) t)) (hdb:(x == ("__debug__" : Str))=false:=by decide) (he:starEach (e::es) X.env=(false,eval e X.env)::starEach es X.env:=by rfl) (hpl:(backTo pos (starEach es X.env)).any (·.1)=false:=by rfl) :
  Sd (PE X (.Call (.Name x p) (e::es) [] pos) (tCall sp dvs E t)):=⟨zGe F hr hg hm hk hb hd hx ha.un hdb he hpl⟩
end L2
namespace K13
open PySem PySem.Spec L2 PyProof.Rows
section
variable {P:Program}{w:World}{K:W.Frag}{mg:Str->Option Value}{base:Heap}{k n:Nat}{f g g1 g10 g2 g3 g4 g5 g6 g7 g8 g9 kv la lv:Addr}{fd gd gd1 gd10 gd2 gd3 gd4 gd5 gd6 gd7 gd8 gd9:FuncData}
def top (i:Nat):Stmt:=PySem.Challenge.pw_recastle_k13_fit_by_a_walk.main.body.getD i (.Pass ⟨0,0,0,0⟩)
abbrev zCM:Stmt:=top 2
theorem zEp:zAV ["tree"] ["tree"] (zAM zCM):=scI
abbrev zGa:Stmt:=top 3
theorem zKG:zAV ["tree"] ["tree"] (zAM zGa):=scI
abbrev zDL:Stmt:=top 4
theorem zBR:zAV ["tree", "found", "level", "deeper", "part"] ["tree"] (zAM zDL):=scI
abbrev zDn:Stmt:=top 8
theorem zGY:zAV ["part"] ["part"] (zAM zDn):=scI
abbrev zDp:Stmt:=top 9
theorem zGZ:zAV ["part", "number", "bound"] ["part", "number", "bound"] (zAM zDp):=scI
abbrev zCf:Stmt:=top 10
theorem zAl:zAV ["tree", "free", "level", "deeper", "part", "bound", "name", "number", "inner"] ["tree"] (zAM zCf):=scI
noncomputable def zEl (t:Tr):Int:=t.head
def zC7:Sp:=λ vs H Q Ω=>E2 λ t v=>A3 (vs=[v]) (Rep H t v) (Q (.int (zEl t)) H)
theorem zEt {k:Nat}{f:Addr}{fd:FuncData}{lv:Addr}(F:Fun K "parts_begin" "parts_begin" zCM f fd) (z_len:mg "len" = none) (zM4:mg "LEAF_SIGNS" = some (.ref lv)) (hL:zEn K lv) :
  FnOk P w K mg base CX0 (k+1) f fd ["tree"] zC7:=by
 refine F.ok zEp 69 58
 ·obtain⟨t,v,rfl,_⟩:=h
  rfl
 obtain⟨t,v,rfl,hR,q⟩:=h
 refine⟨_,(zAE (ps_if (zAJ (r:=rIn K false) zBy 57 (zDq (v:=.ref _) 84 zM4 84) rfl) (zAH (zAU (cL z_len (zAA (pv 0) zAD)))) zAK)
  (zAE (ps_if (zAJ op_eq 57 zAP 82) (zAH (zAU zAG)) zAK)
  (zAH (zAU zAG)))),?_⟩
 obtain⟨a,hs,us,rfl,ha,hl,hp⟩:=hR.all;have h0:atI (V.str t.kd.s::hs++us) 0=some (.str t.kd.s):=zAc (j:=0) rfl;refine⟨_,rfl,a,_,0,_,rfl,rfl,SqT.of ha,h0,lv,zE1,rfl,.inr (.inr hL),rfl,rfl,_,rfl,?_⟩;show if inV (.str t.kd.s) zE1=true then _ else _
 rw[zHX];refine ite2 77 77
 ·refine⟨_,rfl,a,_,rfl,.inr (SqT.of ha),?_⟩
  have e:((V.str t.sign::hs++us).length:Int)=zEl t:=by
   have hu:us.length=0:=by
    rw[←hp.length];cases t with
    |bin o a b=>cases o<;>cases c
    |_=>first|rfl|cases c
   rw[mI,mK,hu];unfold zEl
   lia
  rw[e];exact q
 ·refine⟨_,rfl,a,_,0,_,rfl,rfl,SqT.of ha,h0,rfl,_,rfl,?_⟩
  refine ite2 (λ d=>?_) (λ d=>?_)
  ·have z:t.kd = .lett:=Kd.eq_iff.mp (lS d)
   have e:zEl t=2:=by
    cases t with
    |lett x a b=>rfl
    |bin o a b=>cases o<;>cases z
    |_=>cases z
   rw[e] at q;exact q
  ·have e:zEl t=1:=by
    cases t with
    |lett x a b=>exact absurd rfl d
    |bin o a b=>rfl
    |ite a b c=>rfl
    |say a=>rfl
    |_=>exact absurd rfl c
   rw[e] at q;exact q
def zDS:Sp:=λ vs H Q Ω=>E2 λ t v=>A3 (vs=[v]) (Rep H t v) (∀p H' us,Same H H'->H' p=some (.tup us)->Paired (Rep H') t.parts us->Q (.ref p) H')
theorem zKW (F:Fun K "parts" "parts" zGa f fd) (zM5:FnB P w K mg base k "parts_begin" g gd ["tree"] zC7) :
  FnOk P w K mg base CX0 (k+1) f fd ["tree"] zDS:=by
 refine F.ok zKG 69 58
 ·obtain⟨t,v,rfl,_⟩:=h
  rfl
 obtain⟨t,v,rfl,hR,q⟩:=h;refine⟨_,(zAH (zAU (zAh zCE (pv 0) (zAf (pe_cl zM5 hr (zAA (pv 0) zAD))) zAy))),?_⟩;obtain⟨a,hs,us,rfl,ha,hl,hp⟩:=hR.all;have hn:(V.str t.sign::hs++us).length=t.head+us.length:=by rw[mI,mK];lia
 have h1:=zKx t
 have e1:HT.sIx (V.str t.sign::hs++us).length 0 (some (zEl t))=t.head:=by
  show HT.sIx _ 0 (some ((t.head:Nat):Int))=_;rw[HT.sIx_nat,hn]
  lia
 have e2:cutV (V.str t.sign::hs++us) (some (zEl t)) none=us:=by
  unfold cutV;rw[e1,HT.sIx_none,hn]
  have:(V.str t.sign::hs++us).drop t.head=us:=by
   rw[←hl];exact List.drop_left' rfl
  rw[this,mS 65]
 refine⟨_,rfl,_,rfl,t,_,rfl,hR,_,rfl,a,_,rfl,ha,λ z=>?_,λ p H' g e=>?_⟩
 ·rw[e1] at z
  lia
 ·rw[e2] at e
  exact q p H' us g e (Paired.mapP hp λ Ω Ω r=>r.mono g.tk)
def zDD:Sp:=λ vs H Q Ω=>E2 λ t v=>A3 (vs=[v]) (Rep H t v) (∀l H',Same H H'->H l=none->H' l=some (.lst (t.names.map V.str))->Q (.ref l) H')
theorem zGh (F:Fun K "names_at" "names_at" zDn f fd):FnOk P w K mg base CX0 (k+1) f fd ["part"] zDD:=by
 refine F.ok zGY 69 58
 ·obtain⟨t,v,rfl,_⟩:=h
  rfl
 obtain⟨t,v,rfl,hR,q⟩:=h
 refine⟨_,(zAE (ps_if (zAJ op_eq 57 zAP 82) (zAH (zAU (zBA (zAA 57 zAD):PE _ _ _))) zAK)
  (zAE (ps_if (zAJ op_eq 57 zAP 82) (zAH (zAU (zDY ["atom"] [none] rfl (zB1 57) (λ Ω Ω Ω Ω Ω=>(zBx (i:=0) (show List.Nodup (["atom"]:List Str) by right) rfl (Or.inl rfl))) (λ Ω Ω Ω Ω Ω=>(zLk (zAJ op_eq 57 zAP 82))) (λ Ω Ω Ω Ω Ω=>57) rfl))) zAK)
  (zAH (zAU (zBA zAD:PE _ _ _))))),?_⟩
 obtain⟨a,hs,us,rfl,ha,hl,hp⟩:=hR.all;have h0:atI (V.str t.kd.s::hs++us) 0=some (.str t.kd.s):=zAc (j:=0) rfl;refine⟨_,rfl,a,_,0,_,rfl,rfl,SqT.of ha,h0,rfl,_,rfl,?_⟩;refine ite2 77 77
 ·have z:t.kd = .name:=Kd.eq_iff.mp (lS c)
  cases t with
  |name x =>
   obtain⟨a,e,ha⟩:=hR;cases e;refine⟨_,rfl,a,_,1,_,rfl,rfl,SqT.of ha,rfl,(by show 1<=sizeLine;decide),λ l hn=>?_⟩;exact q l _ (zAC hn) hn zAB
  |bin o a b=>cases o<;>cases z
  |_=>cases z
 ·refine⟨_,rfl,a,_,0,_,rfl,rfl,SqT.of ha,h0,rfl,_,rfl,?_⟩
  refine ite2 (λ d=>?_) (λ d=>?_)
  ·have z:t.kd = .gap:=Kd.eq_iff.mp (lS d)
   cases t with
   |gap g as =>
    obtain⟨a,b,vs,e,ha,hb,hz,hp⟩:=hR;cases e;refine⟨_,rfl,a,_,2,_,rfl,rfl,SqT.of ha,rfl,b,rfl,⟨_,SqT.of hb⟩,λ acc hacc=>?_⟩;refine zK3 (xs:=vs) (λ i H'=>Same H H'/\H' acc=some (.lst (((as.take i).flatMap Atom.names).map V.str))) ?_ ?_ ?_ ?_
    ·exact⟨zAC hacc,zAB⟩
    ·exact λ i H' Ω p=>SqT.of (p.1 _ _ hb)
    ·intro i x H1 hx ⟨g1,e1⟩
     obtain⟨at_,ea,ra⟩:=zAW hp hx;have ra:=ra.mono g1.tk;have en:=zAT ea
     have small:((as.take i).flatMap Atom.names).length<=i:=by
      have:∀l:List Atom,(l.flatMap Atom.names).length<=l.length:=by
       intro l
       induction l with
       |nil=>simp
       |cons a r ih =>
        rw[rB,mI,mK];have:a.names.length<=1:=by cases a<;>simp[Atom.names]
        lia
      exact mF (this _) (by rw[mL];lia)
     have hi:i<vs.length:=(lI.mp hx).1;refine⟨.skip .nil,?_⟩;cases at_ with
     |name y =>
      obtain⟨c,rfl,hc⟩:=ra;refine⟨_,rfl,c,_,0,_,rfl,rfl,SqT.of hc,rfl,rfl,_,rfl,?_⟩;refine iteY rfl ?_;refine⟨_,rfl,c,_,1,_,rfl,rfl,SqT.of hc,rfl,_,e1,?_,zAY g1 hacc,?_⟩
      ·rw[lC];exact zAO 65
      ·rw[zAB,en,nH,mN];rfl
     |num n =>
      obtain⟨c,rfl,hc⟩:=ra;refine⟨_,rfl,c,_,0,_,rfl,rfl,SqT.of hc,rfl,rfl,_,rfl,?_⟩;refine iteN 80 ?_;exact⟨g1,by rw[e1,en,nH];simp[Atom.names]⟩
     |gap n =>
      obtain⟨c,d,rfl,hc,_⟩:=ra;refine⟨_,rfl,c,_,0,_,rfl,rfl,SqT.of hc,rfl,rfl,_,rfl,?_⟩;refine iteN 80 ?_;exact⟨g1,by rw[e1,en,nH];simp[Atom.names]⟩
    ·intro H1 ⟨g1,e1⟩
     refine q acc H1 g1 hacc ?_;rw[e1,←hp.length,mM];rfl
   |bin o a b=>cases o<;>cases z
   |_=>cases z
  ·refine⟨(by show 0<=sizeLine;decide),λ l hn=>?_⟩
   have e:t.names=[]:=by
    cases t with
    |name x=>exact absurd rfl c
    |gap g as=>exact absurd rfl d
    |_=>rfl
   refine q l _ (zAC hn) hn ?_;rw[e];exact zAB
def zEI:Sp:=λ vs H Q Ω=>E5 λ(t:Tr) (v:V) (i:Int) (b:Addr) (bs:List Str)=>A5 (vs=[v,.int i,.ref b]) (Rep H t v) (H b=some (.tup (bs.map V.str))) (bs.length<=900) (∀p H',Same H H'->H' p=some (.tup ((bIn t i bs).map V.str))->Q (.ref p) H')
theorem zGi (F:Fun K "bound_in" "bound_in" zDp f fd):FnOk P w K mg base CX0 (k+1) f fd ["part", "number", "bound"] zEI:=by
 refine F.ok zGZ 69 58
 ·obtain⟨t,v,i,b,bs,rfl,_⟩:=h
  rfl
 obtain⟨t,v,i,b,bs,rfl,hR,hb,hlen,q⟩:=h
 refine⟨_,(zAE (ps_if (zBk (zAJ op_eq 57 zAP 82) (zBE (zAJ op_eq 81 zAG 82))).pt (zAH (zAU (pe_op zIu (pv 2) (zAk (zAA 57 zAD):PE _ _ _)))) zAK)
  (zAH (zAU (pv 2)))),?_⟩
 obtain⟨a,hs,us,rfl,ha,hl,hp⟩:=hR.all;have h0:atI (V.str t.kd.s::hs++us) 0=some (.str t.kd.s):=zAc (j:=0) rfl;refine⟨_,rfl,a,_,0,_,rfl,rfl,SqT.of ha,h0,rfl,_,rfl,?_⟩;refine ite2 77 77
 ·have z:t.kd = .lett:=Kd.eq_iff.mp (lS c)
  refine⟨_,rfl,rfl,_,rfl,?_⟩;cases t with
  |lett x s t =>
   obtain⟨a',u,w',e,ha',_⟩:=hR;cases e;refine ite2 (λ d=>?_) (λ d=>?_)
   ·have d':i=1:=V.int.inj (lS d)
    subst d';refine⟨_,rfl,_,rfl,a,_,1,_,rfl,rfl,SqT.of ha',rfl,(by show 1<=sizeLine;decide),λ p hpn=>?_⟩;refine⟨b,p,_,[.str x],rfl,rfl,zAC hpn _ _ hb,zAB,zAw (by rw[lC];show bs.length+1<=1000;lia),λ r H' g e=>?_⟩;refine q r H' ((zAC hpn).trans g) ?_;rw[e];simp[bIn]
   ·have d':¬i=1:=λ z=>d (by rw[z];exact lT rfl)
    refine⟨_,rfl,q b H (.refl H) ?_⟩;rw[hb];simp[bIn,d']
  |bin o a b=>cases o<;>cases z
  |_=>cases z
 ·refine iteF ?_
  refine⟨_,rfl,q b H (.refl H) ?_⟩
  have e:bIn t i bs=bs:=by
   cases t with
   |lett x s t=>exact absurd rfl c
   |_=>rfl
  rw[hb,e]
abbrev zM3 (ss:List Str):Prop:=ss.Pairwise (λ a b=>ltCps b.cps.toList a.cps.toList=false)
def zMH (t:Tr) (H:Hp) (Q:VK):Prop:=∀(l:Addr) (H':Hp) (ss:List Str),Same H H'->H l=none->H' l=some (.lst (ss.map V.str))->ss.Nodup->zM3 ss->(∀x,x∈ss↔x∈t.fv [])->Q (.ref l) H'
def zDU:Sp:=λ vs H Q Ω=>E3 λ(t:Tr) (v:V) (ws:List Str)=>A6 (vs=[v]) (Rep H t v) (t.size<=500) (ws.length<64) (∀x∈t.fv [],x∈ws) (zMH t H Q)
theorem zFR (F:Fun K "free_names" "free_names" zCf f fd) (z_sorted:mg "sorted" = none) (z_enumerate:mg "enumerate" = none)
  (zM6:FnB P w K mg base k "parts" g1 gd1 ["tree"] zDS) (zM7:FnB P w K mg base k "names_at" g2 gd2 ["part"] zDD) (zM8:FnB P w K mg base k "bound_in" g3 gd3 ["part", "number", "bound"] zEI) :
  FnOk P w K mg base CX0 (k+1) f fd ["tree"] zDU:=by
 refine F.ok zAl 69 58
 ·obtain⟨t,v,ws,rfl,_⟩:=h
  rfl
 obtain⟨t,v,ws,rfl,hR,hsz,hws,hsub,q⟩:=h;have hu:=hu_of hr
 refine⟨_,(zAE (pS (i:=1) zAl.nd zBL)
  (zAE (pS (i:=2) zAl.nd (zBA (zAA (zAk (zAA (pv 0) (zAA (zAk zAD:PE _ _ _) zAD)):PE _ _ _) zAD):PE _ _ _))
  (zAE (zC4 PassesOwn.never (zB0 (pv 2) (λ Ω=>rfl)) (zAE (pS (i:=3) zAl.nd (zBA zAD:PE _ _ _))
  (zAE (zAj PassesOwn.never rfl (zBi (pv 2)) (zB2 rfl (zAa (pGn (i:=4) zAl.nd) (zAa (pGn (i:=5) zAl.nd) zBV))) (zAE (zAj PassesOwn.never rfl (zBi (pe_cl zM7 hr (zAA (pv 4) zAD))) (pGn (i:=6) zAl.nd) (zAH (ps_if (zAJ (r:=rIn K true) zB3 (pv 6) (pv 5) rfl) (zAH (zBF hu 81 (pv 6) pe_bl rfl)) zAK)))
  (zAH (zAj PassesOwn.never rfl (zGc 84 z_enumerate (zAA (pe_cl zM6 hr (zAA (pv 4) zAD)) zAD)) (zB2 rfl (zAa (pGn (i:=7) zAl.nd) (zAa (pGn (i:=8) zAl.nd) zBV))) (zAH (pAp (pv 3) (zAk (zAA (pv 8) (zAA (pe_cl zM8 hr (zAA (pv 4) (zAA (pv 7) (zAA (pv 5) zAD)))) zAD)):PE _ _ _)))))))
  (zAH (pS (i:=2) zAl.nd (pv 3))))))
  (zAH (zAU (zA2 (zCk rfl) 84 z_sorted PyProof.Rows.boot_sorted (zAA 81 zAD))))))),?_⟩
 refine λ d hd=>⟨_,rfl,(by show 0<=sizeLine;decide),λ e he=>⟨(by show 2<=sizeLine;decide),λ pr hpr=>⟨(by show 1<=sizeLine;decide),λ l hl=>?_⟩⟩⟩;have g1:Same H (upd H d (.dK [])):=zAC hd;have g2:Same (upd H d (.dK [])) _:=zAC (o:=.tup []) he;have g3:=zAC (o:=.tup [v,.ref e]) hpr;have g4:=zAC (o:=.lst [.ref pr]) hl;have gAll:=g1.trans (g2.trans (g3.trans g4));have hld:l≠d:=Ne.symm (zAL (g3 _ _ (g2 _ _ zAB)) hl);have hlH:H l=none:=(g1.trans (g2.trans g3)).free hl
 refine⟨(λ m σ' H'=>E10 λ(l:Addr) (ps:List V) (lev:List (Tr × List Str)) (ks:List Str) (s3 s4 s5 s6 s7 s8:Option V)=>A12 (σ'=[some v,some (.ref d),some (.ref l),s3,s4,s5,s6,s7,s8]) (Same H H') (H l=none) (l≠d) (H' d=some (.dK (kvOf ks))) (H' l=some (.lst ps)) (Paired (zDx H') lev ps) ks.Nodup (m=total lev) (total lev<=500) (∀q∈lev,q.2.length+q.1.size<=500) (∀x,(x∈ks\/∃q∈lev,x∈q.1.fv q.2)↔x∈t.fv [])),
  ⟨t.size,l,_,[(t,[])],[],none,none,none,none,none,none,rfl,gAll,hlH,hld,g4 _ _ (g3 _ _ (g2 _ _ zAB)),zAB,.cons ⟨pr,v,e,rfl,g4 _ _ zAB,hR.mono gAll.tk,g4 _ _ (g3 _ _ zAB)⟩ .nil,List.nodup_nil,by simp[total],by simpa[total] using hsz,by simpa using hsz,by simp⟩,?_⟩
 rintro m σ' Hw ⟨l,ps,lev,ks,s3,s4,s5,s6,s7,s8,rfl,gw,hl,hld,ed,el,hp,hnd,rfl,htot,hdeep,hset⟩;refine⟨_,rfl,_,.inl ⟨ps,SqL.of el,rfl⟩,?_⟩;refine ite2 77 77
 ·refine⟨_,λ Ω Ω h=>h,(by show 0<=sizeLine;decide),λ dp hdp=>⟨_,rfl,l,rfl,⟨ps,SqL.of (zAC hdp _ _ el)⟩,?_⟩⟩
  have gd:=zAC (o:=.lst []) hdp;have hdpH:H dp=none:=gw.free hdp;have ndd:dp≠d:=Ne.symm (zAL ed hdp);have ndl:dp≠l:=Ne.symm (zAL el hdp);refine zBo (xs:=ps) (λ i σ' H'=>E7 λ(dps:List V) (ks':List Str) (s4 s5 s6 s7 s8:Option V)=>A9 (σ'=[some v,some (.ref d),some (.ref l),some (.ref dp),s4,s5,s6,s7,s8]) (Same H H') (Tk Hw H') (H' d=some (.dK (kvOf ks'))) (H' l=some (.lst ps)) (H' dp=some (.lst dps)) (Paired (zDx H') ((lev.take i).flatMap λ q=>kids q.1 q.2) dps) ks'.Nodup (∀x,x∈ks'↔x∈ks\/∃q∈lev.take i,x∈q.1.names/\x∉q.2)) ?_ ?_ ?_ ?_
  ·exact⟨[],ks,s4,s5,s6,s7,s8,rfl,gw.trans gd,gd.tk,gd _ _ ed,gd _ _ el,zAB,.nil,hnd,by simp⟩
  ·rintro i σ1 H1 _ ⟨dps,ks1,s4,s5,s6,s7,s8,rfl,g1,k1,ed1,el1,edp1,hp1,n1,m1⟩
   exact SqL.of el1
  ·rintro i x σ1 H1 hx ⟨dps,ks1,s4,s5,s6,s7,s8,rfl,g1,k1,ed1,el1,edp1,hp1,n1,m1⟩
   obtain⟨⟨tq,bs⟩,eq,rq⟩:=zAW hp hx;have hmem:(tq,bs)∈lev:=lK eq;have hdq:=hdeep _ hmem;have spq:=zHH tq;dsimp only at hdq;obtain⟨a,u,b,rfl,ha,ru,hb⟩:=rq.mono k1;refine⟨a,_,rfl,SqT.of ha,rfl,_,_,rfl,_,_,rfl,rfl,?_⟩;refine⟨_,rfl,tq,u,rfl,ru,λ ln H2 g2 hln e2=>⟨ln,rfl,⟨_,SqL.of e2⟩,?_⟩⟩;have nlnd:ln≠d:=Ne.symm (zAL ed1 hln);have nlnl:ln≠l:=Ne.symm (zAL el1 hln);have nlnp:ln≠dp:=Ne.symm (zAL edp1 hln);refine zBo (xs:=tq.names.map V.str) (λ j σ' H'=>E2 λ(ks':List Str) (s6:Option V)=>A9 (σ'=[some v,some (.ref d),some (.ref l),some (.ref dp),some u,some (.ref b),s6,s7,s8]) (Same H H') (Tk H2 H') (H' d=some (.dK (kvOf ks'))) (H' l=some (.lst ps)) (H' dp=some (.lst dps)) (H' ln=some (.lst (tq.names.map V.str))) ks'.Nodup (∀x,x∈ks'↔x∈ks1\/(x∈tq.names.take j/\x∉bs))) ?_ ?_ ?_ ?_
   ·exact⟨ks1,s6,rfl,g1.trans g2,.refl _,g2 _ _ ed1,g2 _ _ el1,g2 _ _ edp1,e2,n1,by simp⟩
   ·rintro j σ2 H3 _ ⟨ks2,s6,rfl,g3,k3,ed3,el3,edp3,eln3,n3,m3⟩
    exact SqL.of eln3
   ·rintro j x σ2 H3 hx ⟨ks2,s6,rfl,g3,k3,ed3,el3,edp3,eln3,n3,m3⟩
    rw[mH] at hx;obtain⟨y,hy,rfl⟩:=lU.mp hx;have hb3:H3 b=some (.tup (bs.map V.str)):=k3 _ _ (g2.tk _ _ hb);refine⟨_,rfl,_,rfl,b,_,rfl,.inr (SqT.of hb3),rfl,zJi bs,_,rfl,?_⟩;show if (!inV (V.str y) (bs.map V.str))=true then _ else _
    rw[zFW];have et:=zAT hy
    have kle:ks2.length<=ws.length:=by
     refine zBg n3 λ z hz=>hsub z ((hset z).mp ?_);rcases (m3 z).mp hz with h|⟨h,h'⟩
     ·rcases (m1 z).mp h with h|⟨q',hq',h1,h2⟩
      ·exact .inl h
      ·exact .inr ⟨q',nB hq',(zEc _ _ _).mpr (.inl ⟨h1,h2⟩)⟩
     ·exact .inr ⟨(tq,bs),hmem,(zEc _ _ _).mpr (.inl ⟨nB h,h'⟩)⟩
    refine ite2 77 77
    ·have ny:y∉bs:=by simpa using c
     refine⟨_,rfl,_,rfl,d,_,rfl,DPut.k (k:=Sum.inr y) ed3 (zAO (by rw[show (kvOf ks2).length=ks2.length from lC _];lia)),?_⟩;refine⟨addK ks2 y,some (.str y),rfl,zAY g3 hd,k3.trans (Tk.dk ed3),by rw[zAB,zD8],by rw[zAR hld];exact el3,by rw[zAR ndd];exact edp3,by rw[zAR nlnd];exact eln3,zC6 n3,λ z=>?_⟩;rw[zA8,m3,et,nJ,mO];constructor
     ·rintro ((h|⟨h1,h2⟩)|h)
      ·exact .inl h
      ·exact .inr ⟨.inl h1,h2⟩
      ·exact .inr ⟨.inr h,h▸ny⟩
     ·rintro (h|⟨h1|h1,h2⟩)
      ·exact .inl (.inl h)
      ·exact .inl (.inr ⟨h1,h2⟩)
      ·exact .inr h1
    ·have ny:y∈bs:=by simpa using c
     refine⟨ks2,some (.str y),rfl,g3,k3,ed3,el3,edp3,eln3,n3,λ z=>?_⟩;rw[m3,et,nJ,mO];constructor
     ·rintro (h|⟨h1,h2⟩)
      ·exact .inl h
      ·exact .inr ⟨.inl h1,h2⟩
     ·rintro (h|⟨h1|h1,h2⟩)
      ·exact .inl h
      ·exact .inr ⟨h1,h2⟩
      ·exact absurd (h1▸ny) h2
   ·rintro σ2 H3 ⟨ks2,s6,rfl,g3,k3,ed3,el3,edp3,eln3,n3,m3⟩
    rw[lC,mM] at m3;have k13:Tk H1 H3:=g2.tk.trans k3;have ru3:=ru.mono k13;refine⟨_,rfl,tq,u,rfl,ru3,λ pt H4 us g4 e4 hus=>⟨pt,rfl,⟨us,SqT.of e4⟩,?_⟩⟩;have hk:=zKr tq bs;have hul:us.length=(kids tq bs).length:=by rw[hk,hus.length]
    have hb4:H4 b=some (.tup (bs.map V.str)):=g4.tk _ _ (k13 _ _ hb);have ru4:=ru3.mono g4.tk;refine zFX (xs:=us) (λ j σ' H'=>E3 λ(dps':List V) (s7 s8:Option V)=>A7 (σ'=[some v,some (.ref d),some (.ref l),some (.ref dp),some u,some (.ref b),s6,s7,s8]) (Same H H') (Tk H4 H') (H' d=some (.dK (kvOf ks2))) (H' l=some (.lst ps)) (H' dp=some (.lst dps')) (Paired (zDx H') (((lev.take i).flatMap λ q=>kids q.1 q.2)++(kids tq bs).take j) dps')) ?_ ?_ ?_ ?_
    ·exact⟨dps,s7,s8,rfl,g3.trans g4,.refl _,g4 _ _ ed3,g4 _ _ el3,g4 _ _ edp3,by
      rw[List.take_zero,nN];exact Paired.mapP hp1 λ Ω Ω z=>z.mono (k13.trans g4.tk)⟩
    ·rintro j σ3 H5 _ ⟨dps5,s7,s8,rfl,g5,k5,ed5,el5,edp5,hp5⟩
     exact SqT.of (k5 _ _ e4)
    ·rintro j x T σ3 H5 hx ⟨dps5,s7,s8,rfl,g5,k5,ed5,el5,edp5,hp5⟩ hT
     have gT:=zAC (o:=.tup [.int j,x]) hT;obtain⟨c,ec,rc⟩:=zAW hus hx;have kk:=zKs tq bs j c ec;have hj:j<us.length:=(lI.mp hx).1;refine⟨T,_,rfl,SqT.of zAB,rfl,_,_,rfl,_,_,rfl,rfl,?_⟩;have edp6:=gT _ _ edp5;refine⟨_,rfl,.inl ⟨rfl,_,SqL.of edp6⟩,_,rfl,_,rfl,_,rfl,_,rfl,tq,u,j,b,bs,rfl,ru4.mono (k5.trans gT.tk),gT.tk _ _ (k5 _ _ hb4),by lia,λ p H6 g6 e6=>⟨(by show 2<=sizeLine;decide),λ pq hpq=>?_⟩⟩;have gq:=zAC (o:=.tup [x,.ref p]) hpq;have gA:=gT.trans (g6.trans gq);have edp7:=gA _ _ edp5
     have tot:dps5.length<=500:=by
      rw[←hp5.length,mI,mL];have l1:=zEb ((lev.take i).flatMap λ q=>kids q.1 q.2);have l2:=zHT (lev.take i);have l3:total (lev.take (i+1))<=total lev:=zHv lev _;rw[zAT eq,zCY,zDg,zIU] at l3;have l4:=zE8 tq bs;have l5:=zEb (kids tq bs);dsimp only at l3
      lia
     refine⟨dp,_,_,rfl,rfl,edp7,zAO 65,?_⟩;have kset:Tk H5 (upd (upd H6 pq (.tup [x,.ref p])) dp (.lst (dps5++[.ref pq]))):=gA.tk.trans (Tk.lst edp7);refine⟨_,_,_,rfl,zAY (g5.trans gA) hdpH,k5.trans kset,by rw[zAR (Ne.symm ndd)];exact gA _ _ ed5,by rw[zAR (Ne.symm ndl)];exact gA _ _ el5,zAB,?_⟩;rw[zAT kk,←mV];refine zAv (Paired.mapP hp5 λ Ω Ω z=>z.mono kset) (.cons ⟨pq,x,p,rfl,Tk.lst edp7 _ _ zAB,rc.mono (k5.trans kset),Tk.lst edp7 _ _ (gq _ _ e6)⟩ .nil)
    ·rintro σ3 H5 ⟨dps5,s7,s8,rfl,g5,k5,ed5,el5,edp5,hp5⟩
     refine⟨dps5,ks2,some u,some (.ref b),s6,s7,s8,rfl,g5,k1.trans (k13.trans (g4.tk.trans k5)),ed5,el5,edp5,?_,n3,λ z=>?_⟩
     ·rw[hul,mM] at hp5
      rw[zAT eq,nH];simpa using hp5
     ·rw[m3,m1,zAT eq]
      simp only[nJ,mO];constructor
      ·rintro ((h|⟨q',hq',h⟩)|h)
       ·exact .inl h
       ·exact .inr ⟨q',.inl hq',h⟩
       ·exact .inr ⟨(tq,bs),.inr rfl,h⟩
      ·rintro (h|⟨q',hq'|hq',h⟩)
       ·exact .inl (.inl h)
       ·exact .inl (.inr ⟨q',hq',h⟩)
       ·subst hq';exact .inr h
  ·rintro σ1 H1 ⟨dps,ks1,s4,s5,s6,s7,s8,rfl,g1,k1,ed1,el1,edp1,hp1,n1,m1⟩
   have hlen:ps.length=lev.length:=hp.length.symm;rw[hlen,mM] at hp1 m1
   have pos:0<lev.length:=by
    rw[←hlen];cases ps with
    |nil=>simp at c
    |cons _ _=>simp
   have lk:=zHT lev;refine⟨_,rfl,_,?_,dp,dps,_,ks1,some (.ref dp),s4,s5,s6,s7,s8,rfl,g1,hdpH,ndd,ed1,edp1,hp1,n1,rfl,by lia,λ q' hq'=>?_,λ x=>?_⟩
   ·lia
   ·obtain⟨r,hr',hq''⟩:=mU.mp hq'
    exact zJJ r.1 r.2 500 (hdeep r hr') q' hq''
   ·rw[←hset,m1]
    constructor
    ·rintro ((h|⟨r,hr',h⟩)|⟨q',hq',h⟩)
     ·exact .inl h
     ·exact .inr ⟨r,hr',(zEc _ _ _).mpr (.inl h)⟩
     ·obtain⟨r,hr',hq''⟩:=mU.mp hq'
      exact .inr ⟨r,hr',(zEc _ _ _).mpr (.inr ⟨q',hq'',h⟩)⟩
    ·rintro (h|⟨r,hr',h⟩)
     ·exact .inl (.inl h)
     ·rcases (zEc _ _ _).mp h with h|⟨q',hq',h⟩
      ·exact .inl (.inr ⟨r,hr',h⟩)
      ·exact .inr ⟨q',mU.mpr ⟨r,hr',hq'⟩,h⟩
 ·have e0:ps=[]:=by
   cases ps with
   |nil=>rfl
   |cons _ _=>exact absurd rfl c
  subst e0;cases hp;have hk:∀x,x∈ks↔x∈t.fv []:=λ x=>by rw[←hset];simp
  refine⟨_,rfl,d,kvOf ks,ks,rfl,ed,by simp[kvOf,nO,Function.comp_def],?_,λ r ss hr' hperm hris=>?_⟩
  ·exact Nat.lt_of_le_of_lt (zBg hnd λ x hx=>hsub x ((hk x).mp hx)) hws
  ·exact q r _ ss (gw.trans (zAC hr')) (gw.free hr') zAB (hperm.nodup_iff.mpr hnd) hris λ x=>by rw[hperm.mem_iff,hk]
def zIa:Sp:=λ vs H Q Ω=>E2 λ(t:Tr) (v:V)=>A4 (vs=[v]) (Rep H t v) (t.size<=400) (∀(l:Addr) (us:List V) (F:List Tr) (H':Hp),Same H H'->H' l=some (.lst us)->Paired (Rep H') F us->(∀p,p∈F↔p∈t.subs)->Q (.ref l) H')
theorem zMk (F:Fun K "all_parts" "all_parts" zDL f fd) (zM6:FnB P w K mg base k "parts" g1 gd1 ["tree"] zDS):FnOk P w K mg base CX0 (k+1) f fd ["tree"] zIa:=by
 refine F.ok zBR 69 58
 ·obtain⟨t,v,rfl,_⟩:=h
  rfl
 obtain⟨t,v,rfl,hR,hsz,q⟩:=h
 refine⟨_,(zAE (pS (i:=1) zBR.nd (zBA zAD:PE _ _ _))
  (zAE (pS (i:=2) zBR.nd (zBA (zAA (pv 0) zAD):PE _ _ _))
  (zAE (zC4 PassesOwn.never (zB0 (pv 2) (λ Ω=>rfl)) (zAE (zES (pe_bm rM PySem.F.slot_list_extend PySem.F.type_list_extend zJE 81 87))
  (zAE (pS (i:=3) zBR.nd (zBA zAD:PE _ _ _))
  (zAE (zAj PassesOwn.never rfl (zBi (pv 2)) (pGn (i:=4) zBR.nd) (zAH (zES (pe_bm rM PySem.F.slot_list_extend PySem.F.type_list_extend zIA (pv 3) (zAA (pe_cl zM6 hr (zAA (pv 4) zAD)) zAD)))))
  (zAH (pS (i:=2) zBR.nd (pv 3)))))))
  (zAH (zAU 81))))),?_⟩
 refine⟨(by show 0<=sizeLine;decide),λ fo hfo=>⟨_,rfl,(by show 1<=sizeLine;decide),λ l hl=>?_⟩⟩;have g1:=zAC (o:=.lst []) hfo;have g2:=zAC (o:=.lst [v]) hl
 refine⟨(λ m σ' H'=>E7 λ(l:Addr) (ls fs:List V) (L Fd:List Tr) (s3 s4:Option V)=>A11 (σ'=[some v,some (.ref fo),some (.ref l),s3,s4]) (Same H H') (H l=none) (l≠fo) (H' fo=some (.lst fs)) (H' l=some (.lst ls)) (Paired (Rep H') Fd fs) (Paired (Rep H') L ls) (m=szT L) (∀p,(p∈Fd\/∃q∈L,p∈q.subs)↔p∈t.subs) (Fd.length+szT L<=t.size)),
  ⟨t.size,l,[v],[],[t],[],none,none,rfl,g1.trans g2,g1.free hl,Ne.symm (zAL (zAB (H:=H) (a:=fo) (o:=.lst [])) hl),g2 _ _ zAB,zAB,.nil,.cons (hR.mono (g1.trans g2).tk) .nil,by simp[szT],by simp,by simp[szT]⟩,?_⟩
 rintro m σ' Hw ⟨l,ls,fs,L,Fd,s3,s4,rfl,gw,hl,hlf,ef,el,pF,pL,rfl,hmem,hcnt⟩;have lL:ls.length=L.length:=zBD pL;have lF:fs.length=Fd.length:=zBD pF;have hZ:=zEG L;refine⟨_,rfl,_,.inl ⟨ls,SqL.of el,rfl⟩,?_⟩;refine ite2 77 77
 ·refine⟨_,λ Ω Ω h=>h,?_⟩
  refine⟨_,rfl,.inl ⟨rfl,_,SqL.of ef⟩,_,rfl,fo,l,fs,ls,rfl,rfl,ef,el,zAw 65,?_⟩;have ef1:=@zAB Hw fo (.lst (fs++ls));have el1:(upd Hw fo (.lst (fs++ls))) l=some (.lst ls):=by rw[zAR hlf];exact el
  have gw1:Same H (upd Hw fo (.lst (fs++ls))):=zAY gw hfo;have tk1:Tk Hw (upd Hw fo (.lst (fs++ls))):=Tk.lst ef;show tSeq _ _ _ _ (upd Hw fo (.lst (fs++ls)));generalize upd Hw fo _=H1 at ef1 el1 gw1 tk1 ⊢;refine⟨(by show 0<=sizeLine;decide),λ dp hdp=>?_⟩;have g4:=zAC (o:=.lst []) hdp;have hdpH:H dp=none:=gw1.free hdp;have ndf:dp≠fo:=Ne.symm (zAL ef1 hdp);have ndl:dp≠l:=Ne.symm (zAL el1 hdp);refine⟨_,rfl,l,rfl,⟨ls,SqL.of (g4 _ _ el1)⟩,?_⟩;refine zBo (xs:=ls) (λ i σ' H'=>E2 λ(dps:List V) (s4:Option V)=>A7 (σ'=[some v,some (.ref fo),some (.ref l),some (.ref dp),s4]) (Same H H') (Tk H1 H') (H' fo=some (.lst (fs++ls))) (H' l=some (.lst ls)) (H' dp=some (.lst dps)) (Paired (Rep H') ((L.take i).flatMap Tr.parts) dps)) ?_ ?_ ?_ ?_
  ·exact⟨[],s4,rfl,gw1.trans g4,g4.tk,g4 _ _ ef1,g4 _ _ el1,zAB,.nil⟩
  ·rintro i σ1 H2 _ ⟨dps,s4,rfl,g5,k5,ef5,el5,ed5,p5⟩
   exact SqL.of el5
  ·rintro i x σ1 H2 hx ⟨dps,s4,rfl,g5,k5,ef5,el5,ed5,p5⟩
   obtain⟨tq,eq,rq⟩:=zAW pL hx;refine⟨_,rfl,.inl ⟨rfl,_,SqL.of ed5⟩,_,rfl,tq,x,rfl,rq.mono (tk1.trans k5),λ pp H3 us g6 ep hus=>?_⟩
   have hflat:((L.take (i+1)).flatMap Tr.parts)=((L.take i).flatMap Tr.parts)++tq.parts:=by
    rw[zAT eq,nH];simp
   have hlen:dps.length+us.length<=1000:=by
    have z0:=zBD p5;have z1:=zBD hus;have z2:=zIX ((L.take (i+1)).flatMap Tr.parts);have z3:=zEG (L.take (i+1));have z4:=zKF L (i+1);rw[hflat,mI] at z2;rw[hflat] at z3
    lia
   have ed6:=g6 _ _ ed5;refine⟨dp,pp,dps,us,rfl,rfl,ed6,SqT.of ep,zAw hlen,?_⟩;have tkz:Tk H3 (upd H3 dp (.lst (dps++us))):=Tk.lst ed6;refine⟨dps++us,_,rfl,zAY (g5.trans g6) hdpH,k5.trans (g6.tk.trans tkz),by rw[zAR (Ne.symm ndf)];exact g6 _ _ ef5,by rw[zAR (Ne.symm ndl)];exact g6 _ _ el5,zAB,?_⟩;rw[hflat];exact zAv (Paired.mapP p5 λ Ω Ω z=>z.mono (g6.tk.trans tkz)) (Paired.mapP hus λ Ω Ω z=>z.mono tkz)
  ·rintro σ1 H2 ⟨dps,s4,rfl,g5,k5,ef5,el5,ed5,p5⟩
   rw[mS 65] at p5
   have hpos:0<L.length:=by
    rw[←lL];cases ls with
    |nil=>simp at c
    |cons _ _=>simp
   refine⟨_,rfl,szT (L.flatMap Tr.parts),by lia,dp,dps,fs++ls,L.flatMap Tr.parts,Fd++L,some (.ref dp),s4,rfl,g5,hdpH,ndf,ef5,ed5,zAv (Paired.mapP pF λ Ω Ω z=>z.mono (tk1.trans k5)) (Paired.mapP pL λ Ω Ω z=>z.mono (tk1.trans k5)),p5,rfl,λ p=>?_,?_⟩
   ·rw[←hmem p,zJF L,nJ,or_assoc]
   ·rw[mI]
    lia
 ·have e0:ls=[]:=by
   cases ls with
   |nil=>rfl
   |cons _ _=>simp at c
  have eL:L=[]:=by
   subst e0;cases L with
   |nil=>rfl
   |cons _ _=>simp at lL
  subst eL;refine⟨_,rfl,q fo fs Fd Hw gw ef pF λ p=>?_⟩;rw[←hmem p];simp
abbrev zEQ:Stmt:=top 17
theorem zCB:zAV ["number", "word", "rest"] ["number"] (zAM zEQ):=scI
abbrev zCJ:Stmt:=top 18
theorem zB6:zAV ["used", "number"] ["used"] (zAM zCJ):=scI
def zEy:Sp:=λ vs H Q Ω=>∃(n:Nat),A3 (vs=[.int (n:Int)]) (n<702) (Q (.str (wrdN n)) H)
theorem zH1 {k:Nat}{f:Addr}{fd:FuncData}{tk:Tok}(F:Fun K "word_of" "word_of" zEQ f fd) (zM9:mg "LETTERS" = some (.str abcS tk)):FnOk P w K mg base CX0 (k+1) f fd ["number"] zEy:=by
 refine F.ok zCB 69 58
 ·obtain⟨n,rfl,_⟩:=h
  rfl
 obtain⟨n,rfl,hn,q⟩:=h
 refine⟨_,(zAE (pS (i:=1) zCB.nd (pe_ix zJT (zDq (v:=.str abcS) 84 zM9 72) (pe_op zAb (pv 0) zAG) 73))
  (zAE (pS (i:=2) zCB.nd (pe_op zAZ (pv 0) zAG))
  (zAE (zC4 PassesOwn.never (zAJ op_gt (pv 2) zAG 82) (zAE (pS (i:=1) zCB.nd (pe_op zH0 (pe_ix zJT (zDq (v:=.str abcS) 84 zM9 72) (pe_op zAb (pe_op zFz (pv 2) zAG) zAG) 73) 81))
  (zAH (pS (i:=2) zCB.nd (pe_op zAZ (pe_op zFz (pv 2) zAG) zAG)))))
  (zAH (zAU 81))))),?_⟩
 have at_:∀i:Nat,i<26->atI abcS.cps.toList ((i:Nat):Int)=some (97+i):=λ i hi=>zAc (zM2 i hi);have e1:(n:Int) % 26=((n % 26:Nat):Int):=by lia
 have e2:(n:Int) / 26=((n / 26:Nat):Int):=by lia
 refine⟨_,rfl,_,_,rfl,rfl,(show (0:Int)<26 by decide),abcS,_,_,rfl,rfl,zAw (by rw[zJ5];decide),(by rw[e1];exact at_ _ 65),?_⟩;refine⟨_,rfl,_,_,rfl,rfl,⟨(show (0:Int)<26 by decide),(show (26:Int)<1073741824 by decide)⟩,?_⟩;refine⟨λ m σ' H'=>H'=H/\((σ'=[some (.int (n:Int)),some (.str ⟨#[97+n % 26]⟩),some (.int ((n:Int) / 26))]/\m=1)\/(26<=n/\σ'=[some (.int (n:Int)),some (.str ⟨#[96+n / 26,97+n % 26]⟩),some (.int 0)]/\m=0)),⟨1,rfl,.inl ⟨rfl,rfl⟩⟩,?_⟩;rintro m σ' H' ⟨rfl,⟨rfl,rfl⟩|⟨hb,rfl,rfl⟩⟩
 ·refine⟨_,rfl,_,_,rfl,rfl,_,rfl,?_⟩
  refine ite2 77 77
  ·have c':(0:Int)<(n:Int) / 26:=lS c
   have e3:((n:Int) / 26 - 1) % 26=((n / 26 - 1:Nat):Int):=by lia
   have e4:((n:Int) / 26 - 1) / 26=0:=by lia
   refine⟨_,λ Ω Ω h=>h,?_⟩;refine⟨_,rfl,_,_,rfl,rfl,_,_,rfl,rfl,(show (0:Int)<26 by decide),abcS,_,_,rfl,rfl,zAw (by rw[zJ5];decide),(by rw[e3];exact at_ _ 65),_,rfl,_,_,rfl,rfl,zAw (by show 1+1<=1000;decide),?_⟩;refine⟨_,rfl,_,_,rfl,rfl,_,_,rfl,rfl,⟨(show (0:Int)<26 by decide),(show (26:Int)<1073741824 by decide)⟩,?_⟩;refine⟨0,by decide,rfl,.inr ⟨by lia,?_,rfl⟩⟩;have e5:97+(n / 26 - 1)=96+n / 26:=by lia
   show [some (V.int (n:Int)),some (V.str ⟨#[97+(n / 26 - 1),97+n % 26]⟩),some (V.int (((n:Int) / 26 - 1) / 26))]=_;rw[e4,e5]
  ·have c':¬(0:Int)<(n:Int) / 26:=λ z=>c (lT z)
   have e:wrdN n=⟨#[97+n % 26]⟩:=by
    unfold wrdN;rw[if_pos 65,Nat.mod_eq_of_lt 65]
   rw[e] at q;exact⟨_,rfl,q⟩
 ·refine⟨_,rfl,_,_,rfl,rfl,_,rfl,?_⟩
  refine iteN 66 ?_
  have e:wrdN n=⟨#[96+n / 26,97+n % 26]⟩:=by
   unfold wrdN;rw[if_neg 65]
  rw[e] at q;exact⟨_,rfl,q⟩
def zFn:Sp:=λ vs H Q Ω=>E2 λ(u:Addr) (ks:List Str)=>A4 (vs=[.ref u]) (H u=some (.dK (kvOf ks))) (ks.length<=600) (∀m,m∉ks->GW m->Q (.str m) H)
theorem zIw (F:Fun K "unused_word" "unused_word" zCJ f fd) (zNA:mg "KEPT_WORDS" = some (.ref kv)) (hL:KeptW K kv) (zNB:FnB P w K mg base k "word_of" g1 gd1 ["number"] zEy):FnOk P w K mg base CX0 (k+1) f fd ["used"] zFn:=by
 refine F.ok zB6 69 58
 ·obtain⟨u,ks,rfl,_⟩:=h
  rfl
 obtain⟨u,ks,rfl,hd,hz,q⟩:=h;have hu:=hu_of hr
 refine⟨_,(zAE (pS (i:=1) zB6.nd zAG)
  (zAE (zC4 PassesOwn.never (pw_or (zAJ (zIt hu) (pe_cl zNB hr (zAA 81 zAD)) (pv 0) rfl) (zCg (zAJ (r:=rIn K false) zBy (pe_cl zNB hr (zAA 81 zAD)) (zDq (v:=.ref _) 84 zNA 84) rfl))).pt (zAH (zMX (i:=1) zB6.nd rfl (Or.inl rfl) zAG zMr)))
  (zAH (zAU (pe_cl zNB hr (zAA 81 zAD)))))),?_⟩
 have inK:∀x:Str,inV (.str x) keptV=decide (x∈keptS):=λ x=>zFW x keptS;have gd:∀n:Nat,DGet H u (.str (wrdN n)) (valV (kvOf ks) (Sum.inr (wrdN n):Key)):=λ n=>DGet.k (k:=Sum.inr (wrdN n)) hd;refine⟨λ m σ' H'=>H'=H/\∃n:Nat,σ'=[some (.ref u),some (.int (n:Int))]/\m=701 - n/\(∀j<n,wrdN j∈ks\/wrdN j∈keptS)/\n<=701,⟨701,rfl,0,rfl,rfl,(λ j hj=>absurd hj (Nat.not_lt_zero j)),by decide⟩,?_⟩;rintro m σ' H' ⟨rfl,n,rfl,rfl,hall,hn7⟩;have hn:n<=ks.length+11:=zJ9 hall 65;refine⟨_,rfl,n,rfl,by lia,_,rfl,u,_,rfl,gd n,_,rfl,?_⟩;rw[zKD];refine ite2 77 77
 ·have hin:wrdN n∈ks:=by simpa using c
  refine iteT ?_;refine⟨_,λ Ω Ω h=>h,?_⟩;refine⟨_,rfl,n,1,rfl,rfl,?_⟩;refine⟨701 - (n+1),by lia,rfl,n+1,rfl,rfl,λ j hj=>?_,by lia⟩;rcases Nat.lt_or_ge j n with h|h
  ·exact hall j h
  ·have:j=n:=by lia
   rw[this];exact .inl hin
 ·have hnin:wrdN n∉ks:=by simpa using c
  refine⟨_,rfl,n,rfl,by lia,kv,keptV,rfl,.inr (.inr hL),rfl,rfl,_,rfl,?_⟩;show if inV (.str (wrdN n)) keptV=true then _ else _
  rw[inK];refine ite2 (λ c2=>?_) (λ c2=>?_)
  ·have hin:wrdN n∈keptS:=by simpa using c2
   refine⟨_,λ Ω Ω h=>h,?_⟩;refine⟨_,rfl,n,1,rfl,rfl,?_⟩;refine⟨701 - (n+1),by lia,rfl,n+1,rfl,rfl,λ j hj=>?_,by lia⟩;rcases Nat.lt_or_ge j n with h|h
   ·exact hall j h
   ·have:j=n:=by lia
    rw[this];exact .inr hin
  ·have hnk:wrdN n∉keptS:=by simpa using c2
   refine⟨_,rfl,n,rfl,by lia,q _ hnin ⟨(zG3 n).1,(zG3 n).2,hnk,zKB 65⟩⟩
abbrev zCb:Stmt:=top 19
theorem zBB:zAV ["tree", "leaves", "used", "part", "name", "leaf"] ["tree", "leaves"] (zAM zCb):=scI
def zDR:Sp:=λ vs H Q Ω=>E4 λ(t:Tr) (v:V) (d:Addr) (W:List Str)=>A7 (vs=[v,.ref d]) (Rep H t v) (t.size<=400) (H d=some (.dK [])) (W.length<=400) (∀x∈t.wrds,x∈W) (∀(u:Addr) (ks:List Str) (H':Hp),Same H H'->H u=none->H' u=some (.dK (kvOf ks))->ks.Nodup->(∀x∈t.wrds,x∈ks)->(∀x∈ks,x∈W)->Q (.ref u) H')
theorem zFQ (F:Fun K "words_used" "words_used" zCb f fd) (zNC:FnB P w K mg base k "all_parts" g1 gd1 ["tree"] zIa) (zM7:FnB P w K mg base k "names_at" g2 gd2 ["part"] zDD) :
  FnOk P w K mg base CX0 (k+1) f fd ["tree", "leaves"] zDR:=by
 refine F.ok zBB 69 58
 ·obtain⟨t,v,d,W,rfl,_⟩:=h
  rfl
 obtain⟨t,v,d,W,rfl,hR,hsz,hd,hW,htW,q⟩:=h;have hu:=hu_of hr
 refine⟨_,(zAE (pS (i:=2) zBB.nd zBL)
  (zAE (zAj PassesOwn.never rfl (zBi (pe_cl zNC hr (zAA (pv 0) zAD))) (pGn (i:=3) zBB.nd) (zAE (ps_if (zAJ op_eq (iC (r:=rIxT K) zAN (pv 3)) zAP 82) (zAH (zBF hu (pv 2) (iC (r:=rIxT K) zAN (pv 3)) pe_bl rfl)) zAK)
  (zAH (zAj PassesOwn.never rfl (zBi (pe_cl zM7 hr (zAA (pv 3) zAD))) (pGn (i:=4) zBB.nd) (zAH (zBF hu (pv 2) (pv 4) pe_bl rfl))))))
  (zAE (zAj PassesOwn.never rfl (zLn (zIq rN PySem.F.slot_dict_values PySem.F.type_dict_values zJD 81)) (pGn (i:=5) zBB.nd) (zAH (zAj PassesOwn.never rfl (zBi (pe_cl zM7 hr (zAA (pv 5) zAD))) (pGn (i:=4) zBB.nd) (zAH (zBF hu (pv 2) (pv 4) pe_bl rfl)))))
  (zAH (zAU (zIp (pv 2))))))),?_⟩
 refine λ u hu0=>?_;have g0:=zAC (o:=.dK []) hu0;refine⟨_,rfl,t,v,rfl,hR.mono g0.tk,hsz,λ l us Fl H1 g1 el pF hmem=>⟨l,rfl,⟨us,SqL.of el⟩,?_⟩⟩
 have nul:u≠l:=λ z=>by
  have:=g1 u _ zAB;rw[z,el] at this;cases this
 have nud:u≠d:=Ne.symm (zAL hd hu0);have lF:us.length=Fl.length:=zBD pF
 have klen:∀ks:List Str,ks.Nodup->(∀x∈ks,x∈W)->(kvOf ks).length<sizeLine:=λ ks nd hs=>by
  have:=zBg nd hs;rw[show (kvOf ks).length=ks.length from lC _];exact zAO 65
 refine zBo (xs:=us) (λ i σ' H'=>E3 λ(ks:List Str) (s3 s4:Option V)=>A8 (σ'=[some v,some (.ref d),some (.ref u),s3,s4,none]) (Same H H') (Tk H1 H') (H' l=some (.lst us)) (H' u=some (.dK (kvOf ks))) ks.Nodup (∀x∈ks,x∈W) (∀p∈Fl.take i,∀x∈wr1 p,x∈ks)) ?_ ?_ ?_ ?_
 ·exact⟨[],none,none,rfl,g0.trans g1,.refl _,el,g1 _ _ zAB,List.nodup_nil,by simp,by simp⟩
 ·rintro i σ1 H2 _ ⟨ks,s3,s4,rfl,g2,k2,el2,eu2,nd,hin,hall⟩
  exact SqL.of el2
 ·rintro i x σ1 H2 hx ⟨ks,s3,s4,rfl,g2,k2,el2,eu2,nd,hin,hall⟩
  obtain⟨p,ep,rp⟩:=zAW pF hx;have rp:=rp.mono k2;have pin:p∈t.subs:=(hmem p).mp (lK ep);have pW:∀x∈wr1 p,x∈W:=λ x hx=>htW x ((zBH t x).mpr ⟨p,pin,hx⟩);have et:=zAT ep;obtain⟨a,hs,ws,rfl,ha,hl,hp⟩:=rp.all;have h0:atI (V.str p.kd.s::hs++ws) 0=some (.str p.kd.s):=zAc (j:=0) rfl;apply viaS (λ σ' H'=>∃(ks:List Str),A10 (σ'=[some v,some (.ref d),some (.ref u),some (.ref a),s4,none]) (Same H H') (Tk H1 H') (H' l=some (.lst us)) (H' u=some (.dK (kvOf ks))) (Rep H' p (.ref a)) ks.Nodup (∀x∈ks,x∈W) (∀p∈Fl.take i,∀x∈wr1 p,x∈ks) (p.kd = .lett->∀x∈wr1 p,x∈ks))
  ·intro rest
   refine⟨_,rfl,a,_,0,_,rfl,rfl,SqT.of ha,h0,rfl,_,rfl,?_⟩;refine ite2 77 (λ c=>rest _ _ ⟨ks,rfl,g2,k2,el2,eu2,rp,nd,hin,hall,λ z=>absurd (lT (Kd.eq_iff.mpr z)) c⟩);have z:p.kd = .lett:=Kd.eq_iff.mp (lS c);cases p with
   |lett y p1 p2 =>
    obtain⟨a',u1,u2,e',ha',r1,r2⟩:=rp;cases e';refine⟨_,rfl,_,rfl,a,_,1,_,rfl,rfl,SqT.of ha',rfl,u,_,rfl,DPut.k (k:=Sum.inr y) eu2 (klen ks nd hin),?_⟩;refine rest _ _ ⟨addK ks y,rfl,zAY g2 hu0,k2.trans (Tk.dk eu2),by rw[zAR (Ne.symm nul)];exact el2,by rw[zAB,zD8],(show Rep _ (.lett y p1 p2) _ from⟨a,u1,u2,rfl,ha',r1,r2⟩).mono (Tk.dk eu2),zC6 nd,λ x hx=>?_,λ p' hp' x hx=>zA8.mpr (.inl (hall p' hp' x hx)),λ Ω x hx=>?_⟩
    ·rcases zA8.mp hx with h|h
     ·exact hin x h
     ·exact pW x (by simp[wr1,h])
    ·exact zA8.mpr (.inr (by simpa[wr1] using hx))
   |bin o a b=>cases o<;>cases z
   |_=>cases z
  ·rintro σ' H3 ⟨ks3,rfl,g3,k3,el3,eu3,rp3,nd3,hin3,hall3,hlet3⟩
   refine⟨_,rfl,p,_,rfl,rp3,λ ln H4 g4 hln e4=>⟨ln,rfl,⟨_,SqL.of e4⟩,?_⟩⟩;have nln:ln≠u:=Ne.symm (zAL eu3 hln);refine zBo (xs:=p.names.map V.str) (λ j σ' H'=>E2 λ(ks:List Str) (s4:Option V)=>A10 (σ'=[some v,some (.ref d),some (.ref u),some (.ref a),s4,none]) (Same H H') (Tk H1 H') (H' l=some (.lst us)) (H' u=some (.dK (kvOf ks))) (H' ln=some (.lst (p.names.map V.str))) ks.Nodup (∀x∈ks,x∈W) (∀x∈ks3,x∈ks) (∀x∈p.names.take j,x∈ks)) ?_ ?_ ?_ ?_
   ·exact⟨ks3,s4,rfl,g3.trans g4,k3.trans g4.tk,g4 _ _ el3,g4 _ _ eu3,e4,nd3,hin3,λ x hx=>hx,by simp⟩
   ·rintro j σ2 H5 _ ⟨ks5,s4,rfl,g5,k5,el5,eu5,en5,nd5,hin5,up5,all5⟩
    exact SqL.of en5
   ·rintro j x σ2 H5 hx ⟨ks5,s4,rfl,g5,k5,el5,eu5,en5,nd5,hin5,up5,all5⟩
    rw[mH] at hx;obtain⟨y,hy,rfl⟩:=lU.mp hx;refine⟨_,rfl,_,rfl,u,_,rfl,DPut.k (k:=Sum.inr y) eu5 (klen ks5 nd5 hin5),?_⟩;refine⟨addK ks5 y,_,rfl,zAY g5 hu0,k5.trans (Tk.dk eu5),by rw[zAR (Ne.symm nul)];exact el5,by rw[zAB,zD8],by rw[zAR nln];exact en5,zC6 nd5,λ x hx=>?_,λ x hx=>zA8.mpr (.inl (up5 x hx)),λ x hx=>?_⟩
    ·rcases zA8.mp hx with h|h
     ·exact hin5 x h
     ·have hyn:y∈p.names:=lK hy
      have nl:¬p.kd = .lett:=λ z=>by
       cases p with
       |lett _ _ _=>simp[Tr.names] at hyn
       |bin o _ _=>cases o<;>cases z
       |_=>cases z
      exact pW x (by rw[zIN nl,h];exact hyn)
    ·rw[zAT hy] at hx
     rcases lJ.mp hx with h|h
     ·exact zA8.mpr (.inl (all5 x h))
     ·exact zA8.mpr (.inr (mO.mp h))
   ·rintro σ2 H5 ⟨ks5,s4',rfl,g5,k5,el5,eu5,en5,nd5,hin5,up5,all5⟩
    rw[lC,mM] at all5;refine⟨ks5,some (.ref a),s4',rfl,g5,k5,el5,eu5,nd5,hin5,λ p' hp' x hx=>?_⟩;rw[et] at hp';rcases lJ.mp hp' with h|h
    ·exact up5 x (hall3 p' h x hx)
    ·rw[mO.mp h] at hx
     by_cases z:p.kd = .lett
     ·exact up5 x (hlet3 z x hx)
     ·rw[zIN z] at hx
      exact all5 x hx
 ·rintro σ1 H2 ⟨ks,s3,s4,rfl,g2,k2,el2,eu2,nd,hin,hall⟩
  rw[lF,mM] at hall;have hd2:H2 d=some (.dK []):=g2 _ _ hd;refine⟨_,rfl,.inr (.inr (.inl ⟨rfl,.inl ⟨_,hd2⟩⟩)),d,[],rfl,rfl,hd2,λ vw hvw=>⟨vw,d,[],rfl,zAB,by rw[zAR (zAL hd2 hvw)];exact hd2,λ o=>?_⟩⟩;have nuv:u≠vw:=zAL eu2 hvw;have sd:Sx d H (upd (upd H2 vw (viewO vw d)) d (.frz o (.dK []))):=λ b x n e=>by rw[zAR n,zAR (zAL (g2 _ _ e) hvw)];exact g2 _ _ e
  have ed:=@zAB (upd H2 vw (viewO vw d)) d (.frz o (.dK []));have eu3:(upd (upd H2 vw (viewO vw d)) d (.frz o (.dK []))) u=some (.dK (kvOf ks)):=by rw[zAR nud,zAR nuv];exact eu2
  generalize upd (upd H2 vw _) d _=H3 at sd ed eu3 ⊢;refine zKy (o:=o) (a:=d) (kvs:=[]) (λ i σ' H'=>σ'=[some v,some (.ref d),some (.ref u),s3,s4,none]/\H'=H3) ?_ ?_ ?_ ?_
  ·exact⟨rfl,rfl⟩
  ·rintro i σ' H' _ ⟨rfl,rfl⟩
   exact ed
  ·rintro i p σ' H' hp _
   cases hp
  ·rintro σ' H' ⟨rfl,rfl⟩
   refine⟨_,rfl,d,o,[],ed,(λ o u z=>by
    have z':H d=some (.frz o u):=z;rw[hd] at z';cases z'),?_⟩
   refine q u ks _ (sd.back hd) hu0 (by rw[zAR nud];exact eu3) nd (λ x hx=>?_) hin;obtain⟨p,hp,h⟩:=(zBH t x).mp hx;exact hall p ((hmem p).mpr hp) x h
abbrev zDH:Stmt:=top 11
theorem zDz:zAV ["one", "other", "pairs", "pair"] ["one", "other", "pairs"] (zAM zDH):=scI
abbrev zB7:Stmt:=top 12
theorem zEP:zAV ["one", "other", "pairs"] ["one", "other", "pairs"] (zAM zB7):=scI
abbrev zCS:Stmt:=top 13
theorem zEs:zAV ["one", "other", "pairs"] ["one", "other", "pairs"] (zAM zCS):=scI
abbrev zCR:Stmt:=top 14
theorem zEr:zAV ["one", "other", "pairs"] ["one", "other", "pairs"] (zAM zCR):=scI
abbrev zCs:Stmt:=top 15
theorem zEK:zAV ["one", "other", "number", "pairs"] ["one", "other", "number", "pairs"] (zAM zCs):=scI
def zDy:Sp:=λ vs H Q Ω=>E4 λ(x y:Str) (b:Addr) (ps:List (Str × Str))=>A3 (vs=[.str x,.str y,.ref b]) (PsW H ps b) (∀H',Same H H'->Q (.bl (sn x y ps.reverse)) H')
theorem zF1 (F:Fun K "same_name" "same_name" zDH f fd) (z_reversed:mg "reversed" = none):FnOk P w K mg base CX0 (k+1) f fd ["one", "other", "pairs"] zDy:=by
 refine F.ok zDz 69 58
 ·obtain⟨x,y,b,ps,rfl,_⟩:=h
  rfl
 obtain⟨x,y,b,ps,rfl,⟨us,hb,hp⟩,q⟩:=h;have hu5:=hu150 hr
 refine⟨_,(zAE (zAj PassesOwn.never rfl (zIn 84 z_reversed 87) (pGn (i:=3) zDz.nd) (zAH (ps_if (pw_or (zAJ op_eq (iC (r:=rIxT K) zAN (pv 3)) (pv 0) 82) (zCg (zAJ op_eq (iC (r:=rIxT K) zAN (pv 3)) 81 82))).pt (zAH (zAU (zA6 (zHN hu5) (pv 3) (zAk (zAA (pv 0) (zAA 81 zAD)):PE _ _ _) 82))) zAK)))
  (zAH (zAU (zA6 op_eq (pv 0) 81 82)))),?_⟩
 refine⟨_,rfl,b,rfl,us,.inl hb,?_⟩;refine zJe (xs:=us) (λ i σ' H'=>∃s3,A3 (σ'=[some (.str x),some (.str y),some (.ref b),s3]) (H'=H) (∀p∈ps.reverse.take i,p.1≠x/\p.2≠y)) ?_ ?_ ?_ ?_
 ·exact⟨none,rfl,rfl,by simp⟩
 ·rintro i σ1 H1 _ ⟨s3,rfl,rfl,_⟩
  exact .inl hb
 ·rintro i v σ1 H1 hi hx ⟨s3,rfl,rfl,hall⟩
  obtain⟨p,ep,c,rfl,hc⟩:=zAW hp hx;have lp:=hp.length
  have er:ps.reverse[i]?=some p:=by
   rw[List.getElem?_reverse 65,lp];exact ep
  have dr:ps.reverse.drop i=p::ps.reverse.drop (i+1):=by
   obtain⟨hl,e⟩:=lI.mp er;rw[List.drop_eq_getElem_cons hl,e]
  have hsn:=zGW x y ps.reverse i hall;rw[dr,sn] at hsn
  have fin:(p.1=x\/p.2=y)->∀t,H1 t=none->rEqD false (.ref c) (.ref t) (upd H1 t (.tup [.str x,.str y])) Q:=by
   intro ho t ht;have g:=zAC (o:=.tup [.str x,.str y]) ht;refine⟨[.str p.1,.str p.2],[.str x,.str y],.tup (g _ _ hc) 94,.tup zAB 94,(by show 1<=150;decide),?_⟩;have q':=q _ g;rw[hsn,if_pos ho] at q'
   have e:Dt.beqs [.str p.1,.str p.2] [.str x,.str y]=decide (p.1=x/\p.2=y):=by
    rw[Bool.eq_iff_iff,Dt.beqs_iff,decide_eq_true_iff];simp
   rw[if_neg Bool.false_ne_true,e];exact q'
  refine⟨_,rfl,c,_,0,_,rfl,rfl,SqT.of hc,rfl,_,rfl,rfl,_,rfl,?_⟩;refine ite2 (λ d=>?_) (λ d=>?_)
  ·have d':p.1=x:=V.str.inj (lS d)
   refine iteT ⟨_,rfl,_,rfl,_,rfl,(by show 2<=sizeLine;decide),λ t ht=>?_⟩;exact fin (.inl d') t ht
  ·have d':p.1≠x:=λ z=>d (by rw[z];exact lT rfl)
   refine⟨_,rfl,c,_,1,_,rfl,rfl,SqT.of hc,rfl,_,rfl,rfl,_,rfl,?_⟩;refine ite2 (λ d2=>?_) (λ d2=>?_)
   ·have d3:p.2=y:=V.str.inj (lS d2)
    refine⟨_,rfl,_,rfl,_,rfl,(by show 2<=sizeLine;decide),λ t ht=>?_⟩;exact fin (.inr d3) t ht
   ·have d3:p.2≠y:=λ z=>d2 (by rw[z];exact lT rfl)
    refine⟨some (.ref c),rfl,rfl,λ r hr'=>?_⟩;rw[zAT er,nJ,mO] at hr';rcases hr' with h|h
    ·exact hall r h
    ·subst h;exact⟨d',d3⟩
 ·rintro σ1 H1 ⟨s3,rfl,rfl,hall⟩
  refine⟨_,rfl,_,rfl,rfl,?_⟩
  have e:sn x y ps.reverse=decide (x=y):=by
   rw[zGW x y ps.reverse us.length hall,List.drop_of_length_le (by rw[List.length_reverse,hp.length];exact lQ _)];rfl
  have q':=q H1 (.refl _);rw[e] at q';show Q (V.bl (decide (V.str x=V.str y))) H1;rw[zFa];exact q'
def zBu:Sp:=λ vs H Q Ω=>E6 λ(l m:Lf) (u v:V) (b:Addr) (ps:List (Str × Str))=>A5 (vs=[u,v,.ref b]) (LfRep H l u) (LfRep H m v) (PsW H ps b) (∀H',Same H H'->Q (.bl (decide (bareL l (ps.map Prod.fst)=bareL m (ps.map Prod.snd)))) H')
theorem zEX (F:Fun K "alike_leaves" "alike_leaves" zB7 f fd) (zND:FnB P w K mg base k "same_name" g1 gd1 ["one", "other", "pairs"] zDy):FnOk P w K mg base CX0 (k+1) f fd ["one", "other", "pairs"] zBu:=by
 refine F.ok zEP 69 58
 ·obtain⟨l,m,u,v,b,ps,rfl,_⟩:=h
  rfl
 obtain⟨l,m,u,v,b,ps,rfl,hl,hm,hb,q⟩:=h;have hu5:=hu150 hr
 refine⟨_,(zAE (ps_if (zBk (zAJ op_eq 57 zAP 82) (zBE (zAJ op_eq (iC (r:=rIxT K) zAN 81) zAP 82))).pt (zAH (zAU (pe_cl zND hr (zAA 57 (zAA (iC (r:=rIxT K) zAN 81) 87))))) zAK)
  (zAH (zAU (zA6 (zHN hu5) (pv 0) 81 82)))),?_⟩
 obtain⟨a1,r1,rfl,h1⟩:=hl.all;obtain⟨a2,r2,rfl,h2⟩:=hm.all
 have other:¬(l.isName=true/\m.isName=true)->rEqD false (.ref a1) (.ref a2) H Q:=by
  intro hn;refine⟨_,_,hl.dr,hm.dr,?_,?_⟩
  ·cases l<;>(first|(show 1<=150;decide)|(show 2<=150;decide))
  ·rw[if_neg Bool.false_ne_true,zK7 hn]
   exact q H (.refl H)
 refine⟨_,rfl,a1,_,0,_,rfl,rfl,SqT.of h1,(zAc (j:=0) rfl:atI (V.str l.sg::r1) 0=some (.str l.sg)),rfl,_,rfl,?_⟩;refine ite2 (λ d=>?_) (λ d=>?_)
 ·refine⟨_,rfl,a2,_,0,_,rfl,rfl,SqT.of h2,(zAc (j:=0) rfl:atI (V.str m.sg::r2) 0=some (.str m.sg)),rfl,_,rfl,?_⟩
  refine ite2 (λ d2=>?_) (λ d2=>?_)
  ·obtain⟨x,rfl⟩:=zIe d
   obtain⟨y,rfl⟩:=zIe d2;obtain⟨c1,e1,k1⟩:=hl;obtain⟨c2,e2,k2⟩:=hm;cases e1;cases e2;refine⟨_,rfl,_,_,1,_,rfl,rfl,SqT.of k1,rfl,_,rfl,_,_,1,_,rfl,rfl,SqT.of k2,rfl,_,rfl,x,y,b,ps,rfl,hb,λ H' g=>?_⟩;have q':=q H' g;rw[zIb];exact q'
  ·refine⟨_,rfl,_,rfl,other λ z=>?_⟩
   exact d2 (zGA z.2)
 ·refine iteF ⟨_,rfl,_,rfl,other λ z=>?_⟩
  exact d (zGA z.1)
def zC8:Sp:=λ vs H Q Ω=>E8 λ(as bs:List Atom) (a1 a2 b:Addr) (us ws:List V) (ps:List (Str × Str))=>A8 (vs=[.ref a1,.ref a2,.ref b]) (H a1=some (.tup us)) (Paired (AtRep H) as us) (us.length<=1000) (H a2=some (.tup ws)) (Paired (AtRep H) bs ws) (PsW H ps b) (∀H',Same H H'->Q (.bl (decide (as.map (bareA (ps.map Prod.fst))=bs.map (bareA (ps.map Prod.snd))))) H')
theorem zEv (F:Fun K "alike_atoms" "alike_atoms" zCS f fd) (z_len:mg "len" = none) (z_all:mg "all" = none) (z_zip:mg "zip" = none) (zNE:FnB P w K mg base k "alike_leaves" g1 gd1 ["one", "other", "pairs"] zBu):FnOk P w K mg base CX0 (k+1) f fd ["one", "other", "pairs"] zC8:=by
 refine F.ok zEs 69 58
 ·obtain⟨as,bs,a1,a2,b,us,ws,ps,rfl,_⟩:=h
  rfl
 obtain⟨as,bs,a1,a2,b,us,ws,ps,rfl,h1,p1,hz,h2,p2,hb,q⟩:=h;have l1:=p1.length;have l2:=p2.length
 refine⟨_,(zAE (ps_if (zAJ op_ne (cL z_len (zAA (pv 0) zAD)) (cL z_len (zAA 81 zAD)) 82) (zAH (zAU pe_bl)) zAK)
  (zAH (zAU (zA2 (zGH rfl) 84 z_all PyProof.Rows.boot_all (zAA (zDY ["mine", "its", "pairs"] [none,none,some 2] rfl (zIm 84 z_zip (zAA (pv 0) (zAA 81 zAD))) (λ Ω Ω Ω Ω Ω=>(zLo (K:=K) (n:=2) rfl rfl (zAa (zBx (i:=0) (show List.Nodup (["mine", "its", "pairs"]:List Str) by right) rfl (Or.inl rfl)) (zAa (zBx (i:=1) (show List.Nodup (["mine", "its", "pairs"]:List Str) by right) rfl (Or.inl rfl)) zBV)))) (λ Ω Ω Ω Ω Ω=>zCh) (λ Ω Ω Ω Ω Ω=>(pe_cl zNE hr (zAA (pv 0) (zAA 81 87)))) rfl) zAD))))),?_⟩
 refine⟨_,rfl,a1,_,rfl,.inr (SqT.of h1),_,rfl,a2,_,rfl,.inr (SqT.of h2),rfl,_,rfl,?_⟩;refine ite2 (λ d=>?_) (λ d=>?_)
 ·have ne:us.length≠ws.length:=λ z=>by rw[z] at d;simp at d
  have q':=q H (.refl H);have e:¬(as.map (bareA (ps.map Prod.fst))=bs.map (bareA (ps.map Prod.snd))):=λ z=>ne (by have:=congrArg List.length z;simpa[l1,l2] using this);rw[decide_eq_false e] at q';exact q'
 ·have eq:us.length=ws.length:=by
   by_cases z:us.length=ws.length
   ·exact z
   ·exact absurd (show (!decide (V.int (us.length:Int)=V.int (ws.length:Int)))=true by
     rw[decide_eq_false (λ y=>z (by have:=V.int.inj y;lia))];rfl) d
  refine⟨_,rfl,_,rfl,a1,a2,us,ws,rfl,h1,h2,λ acc hacc=>?_⟩;refine zJt (xs:=us) (ys:=ws) (λ i H'=>Same H H'/\H' acc=some (.lst ((((as.zip bs).take i).map λ p=>decide (bareA (ps.map Prod.fst) p.1=bareA (ps.map Prod.snd) p.2)).map V.bl))) ⟨zAC hacc,zAB⟩ (λ i H' Ω h=>⟨h.1 _ _ h1,h.1 _ _ h2⟩) ?_ ?_
  ·rintro j x y T Hx hx hy ⟨gx,ezs⟩ hT
   obtain⟨m,em,rm⟩:=zAW p1 hx;obtain⟨m',em',rm'⟩:=zAW p2 hy;have g8:=zAC (o:=.tup [x,y]) hT;have gz:=gx.trans g8;refine⟨T,_,rfl,SqT.of zAB,rfl,_,_,rfl,_,_,rfl,rfl,.skip (.skip (.keep .nil)),?_⟩;refine⟨_,rfl,_,rfl,_,rfl,m.lf,m'.lf,x,y,b,ps,rfl,(rm.mono gz.tk).lf,(rm'.mono gz.tk).lf,hb.same gz,λ H' g9=>?_⟩;have ga:=gz.trans g9;refine⟨_,g9 _ _ (g8 _ _ ezs),zAO ?_,zAY ga hacc,?_⟩
   ·simp only[lC,mL,List.length_zip]
    lia
   ·have ez:(as.zip bs)[j]?=some (m,m'):=by rw[List.getElem?_zip_eq_some];exact⟨em,em'⟩
    rw[zAB,zAT ez,mN,mN];rfl
  ·rintro H5 ⟨g5,e5⟩
   refine⟨acc,_,rfl,e5,?_⟩;rw[mS (by simp only[List.length_zip];lia),zJ3 _ _ _ _ 65];exact q H5 g5
abbrev zGb:Stmt:=top 16
theorem zBm:zAV ["one", "other", "level", "deeper", "mine", "its", "pairs", "number", "both"] ["one", "other"] (zAM zGb):=scI
def zB5:Sp:=λ vs H Q Ω=>E6 λ(t u:Tr) (v1 v2:V) (b:Addr) (ps:List (Str × Str))=>A5 (vs=[v1,v2,.ref b]) (Rep H t v1) (Rep H u v2) (PsW H ps b) (∀H',Same H H'->Q (.bl (hdA t u ps)) H')
theorem zEu (F:Fun K "alike_heads" "alike_heads" zCR f fd) (zM4:mg "LEAF_SIGNS" = some (.ref lv)) (hL:zEn K lv)
  (zNF:FnB P w K mg base k "alike_atoms" g1 gd1 ["one", "other", "pairs"] zC8) (zNE:FnB P w K mg base k "alike_leaves" g2 gd2 ["one", "other", "pairs"] zBu):FnOk P w K mg base CX0 (k+1) f fd ["one", "other", "pairs"] zB5:=by
 refine F.ok zEr 69 58
 ·obtain⟨t,u,v1,v2,b,ps,rfl,_⟩:=h
  rfl
 obtain⟨t,u,v1,v2,b,ps,rfl,hR,hS,hb,q⟩:=h
 refine⟨_,(zAE (ps_if (zAJ op_ne 57 (iC (r:=rIxT K) zAN 81) 82) (zAH (zAU pe_bl)) zAK)
  (zAE (ps_if (zAJ op_eq 57 zAP 82) (zAH (zAU (zFy (zA6 op_eq 57 (iC (r:=rIxT K) zAN 81) 82) (zD2 (pe_cl zNF hr (zAA 57 (zAA (iC (r:=rIxT K) zAN 81) 87))))))) zAK)
  (zAH (zAU (pe_or (zA6 (r:=rIn K true) zB3 57 (zDq (v:=.ref _) 84 zM4 84) rfl) (zD2 (pe_cl zNE hr (zAA (pv 0) (zAA 81 87))))))))),?_⟩
 obtain⟨a1,hs1,us1,rfl,h1,hl1,hp1⟩:=hR.all;obtain⟨a2,hs2,us2,rfl,h2,hl2,hp2⟩:=hS.all;have h01:atI (V.str t.kd.s::hs1++us1) 0=some (.str t.kd.s):=zAc (j:=0) rfl;have h02:atI (V.str u.kd.s::hs2++us2) 0=some (.str u.kd.s):=zAc (j:=0) rfl;refine⟨_,rfl,a1,_,0,_,rfl,rfl,SqT.of h1,h01,_,rfl,a2,_,0,_,rfl,rfl,SqT.of h2,h02,rfl,_,rfl,?_⟩;refine ite2 (λ d=>?_) (λ d=>?_)
 ·have ne:¬t.kd=u.kd:=λ z=>by rw[z] at d;simp at d
  have q':=q H (.refl H);unfold hdA at q';rw[decide_eq_false ne,Bool.false_and] at q';exact q'
 ·have hk:t.kd=u.kd:=by
   by_cases z:t.kd=u.kd
   ·exact z
   ·exact absurd (show (!decide (V.str t.kd.s=V.str u.kd.s))=true by rw[decide_eq_false (λ y=>z (Kd.eq_iff.mp y))];rfl) d
  have q0:∀H',Same H H'->Q (.bl (hdG t u ps)) H':=λ H' g=>by
   have q':=q H' g;unfold hdA at q';rw[decide_eq_true hk,Bool.true_and] at q';exact q'
  refine⟨_,rfl,a1,_,0,_,rfl,rfl,SqT.of h1,h01,rfl,_,rfl,?_⟩;refine ite2 77 77
  ·have z:t.kd = .gap:=Kd.eq_iff.mp (lS c)
   rcases zBz hk with ⟨n,m,rfl,rfl⟩|⟨n,m,rfl,rfl⟩|⟨n,m,rfl,rfl⟩|⟨n,m,rfl,rfl⟩|⟨g,as,g',as',rfl,rfl⟩|⟨a,a',rfl,rfl⟩|⟨o,a,b,a',b',rfl,rfl⟩|⟨a,b,c,a',b',c',rfl,rfl⟩|⟨x,a,b,y,a',b',rfl,rfl⟩
   ·cases z
   ·cases z
   ·cases z
   ·cases z
   ·obtain⟨c1,b1,us,e1,k1,k2,hz,hp⟩:=hR
    obtain⟨c2,b2,ws,e2,m1,m2,hz2,hp'⟩:=hS;cases e1;cases e2;refine⟨_,rfl,a1,_,1,_,rfl,rfl,SqT.of k1,rfl,_,rfl,a2,_,1,_,rfl,rfl,SqT.of m1,rfl,rfl,_,rfl,?_⟩;rw[zFa];refine ite2 (λ e=>?_) (λ e=>?_)
    ·refine⟨_,rfl,a1,_,2,_,rfl,rfl,SqT.of k1,rfl,_,rfl,a2,_,2,_,rfl,rfl,SqT.of m1,rfl,_,rfl,as,as',b1,b2,b,us,ws,ps,rfl,k2,hp,hz,m2,hp',hb,λ H' gg=>?_⟩
     have q':=q0 H' gg;unfold hdG at q';dsimp only at q';rw[show decide (g=g')=true by simpa using e,Bool.true_and] at q';exact q'
    ·have q':=q0 H (.refl H)
     unfold hdG at q';dsimp only at q';rw[show decide (g=g')=false by simpa using e,Bool.false_and] at q';exact q'
   ·cases z
   ·cases o<;>cases z
   ·cases z
   ·cases z
  ·have nz:t.kd ≠ .gap:=λ z=>c (by rw[z];exact lT rfl)
   refine⟨_,rfl,a1,_,0,_,rfl,rfl,SqT.of h1,h01,lv,zE1,rfl,.inr (.inr hL),rfl,rfl,_,rfl,?_⟩;show if (!inV (.str t.kd.s) zE1)=true then _ else _
   rw[zHX]
   have inner:t.kd.leaf=false->hdG t u ps=true:=by
    intro hlf;unfold hdG;split
    ·exact absurd rfl nz
    ·rw[hlf];rfl
   refine ite2 (λ e=>?_) (λ e=>?_)
   ·have hlf:t.kd.leaf=false:=by simpa using e
    have q':=q0 H (.refl H);rw[inner hlf] at q';exact q'
   ·have hlf:t.kd.leaf=true:=by simpa using e
    rcases zBz hk with ⟨n,m,rfl,rfl⟩|⟨n,m,rfl,rfl⟩|⟨n,m,rfl,rfl⟩|⟨n,m,rfl,rfl⟩|⟨g,as,g',as',rfl,rfl⟩|⟨a,a',rfl,rfl⟩|⟨o,a,b,a',b',rfl,rfl⟩|⟨a,b,c,a',b',c',rfl,rfl⟩|⟨x,a,b,y,a',b',rfl,rfl⟩
    ·exact⟨_,rfl,_,rfl,_,rfl,.num n,.num m,_,_,b,ps,rfl,hR,hS,hb,λ H' g=>q0 H' g⟩
    ·exact⟨_,rfl,_,rfl,_,rfl,.name n,.name m,_,_,b,ps,rfl,hR,hS,hb,λ H' g=>q0 H' g⟩
    ·exact⟨_,rfl,_,rfl,_,rfl,.ask n,.ask m,_,_,b,ps,rfl,hR,hS,hb,λ H' g=>q0 H' g⟩
    ·exact⟨_,rfl,_,rfl,_,rfl,.stop n,.stop m,_,_,b,ps,rfl,hR,hS,hb,λ H' g=>q0 H' g⟩
    ·exact absurd rfl nz
    ·cases hlf
    ·cases o<;>cases hlf
    ·cases hlf
    ·cases hlf
def zEH:Sp:=λ vs H Q Ω=>E7 λ(t u:Tr) (v1 v2:V) (i:Int) (b:Addr) (ps:List (Str × Str))=>A7 (vs=[v1,v2,.int i,.ref b]) (Rep H t v1) (Rep H u v2) (t.kd=u.kd) (PsRep H ps b) (ps.length<=900) (∀p H',Same H H'->PsRep H' (pIn t u i ps) p->Q (.ref p) H')
theorem zGg (F:Fun K "pairs_in" "pairs_in" zCs f fd):FnOk P w K mg base CX0 (k+1) f fd ["one", "other", "number", "pairs"] zEH:=by
 refine F.ok zEK 69 58
 ·obtain⟨t,u,v1,v2,i,b,ps,rfl,_⟩:=h
  rfl
 obtain⟨t,u,v1,v2,i,b,ps,rfl,hR,hS,hk,hb,hlen,q⟩:=h
 refine⟨_,(zAE (ps_if (zBk (zAJ op_eq 57 zAP 82) (zBE (zAJ op_eq (pv 2) zAG 82))).pt (zAH (zAU (pe_op zIu (pv 3) (zAk (zAA (zAk (zAA 57 (zAA (iC (r:=rIxT K) zAN 81) zAD)):PE _ _ _) zAD):PE _ _ _)))) zAK)
  (zAH (zAU (pv 3)))),?_⟩
 obtain⟨a,hs,us,rfl,ha,hl,hp⟩:=hR.all;have h0:atI (V.str t.kd.s::hs++us) 0=some (.str t.kd.s):=zAc (j:=0) rfl;refine⟨_,rfl,a,_,0,_,rfl,rfl,SqT.of ha,h0,rfl,_,rfl,?_⟩;refine ite2 77 77
 ·have z:t.kd = .lett:=Kd.eq_iff.mp (lS c)
  refine⟨_,rfl,rfl,_,rfl,?_⟩;rcases zBz hk with ⟨n,m,rfl,rfl⟩|⟨n,m,rfl,rfl⟩|⟨n,m,rfl,rfl⟩|⟨n,m,rfl,rfl⟩|⟨g,as,g',as',rfl,rfl⟩|⟨a,a',rfl,rfl⟩|⟨o,a,b,a',b',rfl,rfl⟩|⟨a,b,c,a',b',c',rfl,rfl⟩|⟨x,a',b',y,a'',b'',rfl,rfl⟩
  ·cases z
  ·cases z
  ·cases z
  ·cases z
  ·cases z
  ·cases z
  ·cases o<;>cases z
  ·cases z
  ·obtain⟨c1,u1,w1,e1,k1,_⟩:=hR
   obtain⟨c2,u2,w2,e2,k2,_⟩:=hS;cases e1;subst e2;refine ite2 (λ d=>?_) (λ d=>?_)
   ·have d':i=1:=V.int.inj (lS d)
    subst d';obtain⟨vs,hb1,hb2⟩:=hb;have lvs:=hb2.length;refine⟨_,rfl,_,rfl,a,_,1,_,rfl,rfl,SqT.of k1,rfl,_,rfl,c2,_,1,_,rfl,rfl,SqT.of k2,rfl,(by show 2<=sizeLine;decide),λ p hpn=>⟨(by show 1<=sizeLine;decide),λ p2 hp2=>?_⟩⟩;have g1:=zAC (o:=.tup [.str x,.str y]) hpn;have g2:=zAC (o:=.tup [.ref p]) hp2;have g12:=g1.trans g2;refine⟨b,p2,_,[.ref p],rfl,rfl,g12 _ _ hb1,zAB,zAw (by show vs.length+1<=1000;lia),λ r H' g e=>?_⟩;refine q r H' (g12.trans g) ⟨_,e,?_⟩;show Paired (PrRep H') (if (1:Int)=1 then ps++[(x,y)] else ps) _;rw[if_pos rfl];exact zAv (Paired.mapP hb2 λ Ω Ω z=>z.mono (g12.trans g).tk) (.cons ⟨p,rfl,g _ _ (g2 _ _ zAB)⟩ .nil)
   ·have d':¬i=1:=λ z=>d (by rw[z];exact lT rfl)
    refine⟨_,rfl,q b H (.refl H) ?_⟩;show PsRep H (if i=1 then ps++[(x,y)] else ps) b;rw[if_neg d'];exact hb
 ·refine iteF ?_
  refine⟨_,rfl,q b H (.refl H) ?_⟩
  have e:pIn t u i ps=ps:=by
   cases t with
   |lett x s t=>exact absurd rfl c
   |_=>rfl
  rw[e];exact hb
theorem zEF (l:List Trip) (h:∀q∈l,hdA q.1 q.2.1 q.2.2=true):tot2 (l.flatMap λ q=>kids2 q.1 q.2.1 q.2.2)+l.length=tot2 l:=by
 induction l with
 |nil=>rfl
 |cons a r ih =>
  rw[rB,zBZ,zBt,mK];have hk:a.1.kd=a.2.1.kd:=by have:=h a 59;unfold hdA at this;simp at this;exact this.1
  have:=zEd (ps:=a.2.2) hk;have:=ih λ q hq=>h q (by simp[hq])
  lia
theorem zFj (l:List Trip) (i:Nat):tot2 (l.take i)<=tot2 l:=by
 conv=>rhs;rw[←List.take_append_drop i l]
 rw[zBZ]
 lia
theorem zFT:∀l:List Trip,l.length<=tot2 l
 |[]=>lQ _
 |q::l=>by
  have:=zAu q.1;have:=zFT l;rw[zBt,mK]
  lia
def zHG:Sp:=λ vs H Q Ω=>E4 λ(t u:Tr) (v1 v2:V)=>A5 (vs=[v1,v2]) (Rep H t v1) (Rep H u v2) (t.size<=500) (∀H',Same H H'->Q (.bl (decide (bare t []=bare u []))) H')
theorem zKf (F:Fun K "alike" "alike" zGb f fd) (z_enumerate:mg "enumerate" = none) (z_zip:mg "zip" = none)
  (zNG:FnB P w K mg base k "alike_heads" g1 gd1 ["one", "other", "pairs"] zB5) (zM6:FnB P w K mg base k "parts" g2 gd2 ["tree"] zDS) (zNH:FnB P w K mg base k "pairs_in" g3 gd3 ["one", "other", "number", "pairs"] zEH):FnOk P w K mg base CX0 (k+1) f fd ["one", "other"] zHG:=by
 refine F.ok zBm 69 58
 ·obtain⟨t,u,v1,v2,rfl,_⟩:=h
  rfl
 obtain⟨t,u,v1,v2,rfl,hR,hS,hsz,q⟩:=h
 have qA:∀(b:Bool) H',Same H H'->(b=true↔Alk (t,u,[]))->Q (.bl b) H':=λ b H' g hb=>by
  have q':=q H' g
  have e:decide (bare t []=bare u [])=b:=by
   rw[Bool.eq_iff_iff,decide_eq_true_iff,hb];rfl
  rw[e] at q';exact q'
 refine⟨_,(zAE (pS (i:=2) zBm.nd (zBA (zAA (zAk (zAA (pv 0) (zAA 81 (zAA (zAk zAD:PE _ _ _) zAD))):PE _ _ _) zAD):PE _ _ _))
  (zAE (zC4 PassesOwn.never (zB0 (pv 2) (λ Ω=>rfl)) (zAE (pS (i:=3) zBm.nd (zBA zAD:PE _ _ _))
  (zAE (zAj PassesOwn.never rfl (zBi (pv 2)) (zB2 rfl (zAa (pGn (i:=4) zBm.nd) (zAa (pGn (i:=5) zBm.nd) (zAa (pGn (i:=6) zBm.nd) zBV)))) (zAE (ps_if (zBS (zAp (pe_cl zNG hr (zAA (pv 4) (zAA (pv 5) (zAA (pv 6) zAD)))))) (zAH (zAU pe_bl)) zAK)
  (zAH (zAj PassesOwn.never rfl (zE6 84 z_enumerate 84 z_zip (zAA (pe_cl zM6 hr (zAA (pv 4) zAD)) (zAA (pe_cl zM6 hr (zAA (pv 5) zAD)) zAD))) (zB2 rfl (zAa (pGn (i:=7) zBm.nd) (zAa (pGn (i:=8) zBm.nd) zBV))) (zAH (pAp (pv 3) (zAk (zAA (iC (r:=rIxT K) zAN (pv 8)) (zAA (iC (r:=rIxT K) zAN (pv 8)) (zAA (pe_cl zNH hr (zAA (pv 4) (zAA (pv 5) (zAA (pv 7) (zAA (pv 6) zAD))))) zAD))):PE _ _ _)))))))
  (zAH (pS (i:=2) zBm.nd (pv 3))))))
  (zAH (zAU pe_bl)))),?_⟩
 refine⟨_,rfl,_,rfl,(by show 0<=sizeLine;decide),λ e he=>⟨(by show 3<=sizeLine;decide),λ pr hpr=>⟨(by show 1<=sizeLine;decide),λ l hl=>?_⟩⟩⟩;have g2:=zAC (o:=.tup []) he;have g3:=zAC (o:=.tup [v1,v2,.ref e]) hpr;have g4:=zAC (o:=.lst [.ref pr]) hl;have gAll:=g2.trans (g3.trans g4);have hlH:H l=none:=(g2.trans g3).free hl
 refine⟨(λ m σ' H'=>E9 λ(l:Addr) (ps:List V) (lev:List Trip) (s3 s4 s5 s6 s7 s8:Option V)=>A9 (σ'=[some v1,some v2,some (.ref l),s3,s4,s5,s6,s7,s8]) (Same H H') (H l=none) (H' l=some (.lst ps)) (Paired (zDw H') lev ps) (m=tot2 lev) (tot2 lev<=500) (∀q∈lev,q.2.2.length+q.1.size<=500) ((∀q∈lev,Alk q)↔Alk (t,u,[]))),
  ⟨t.size,l,_,[(t,u,[])],none,none,none,none,none,none,rfl,gAll,hlH,zAB,.cons ⟨pr,v1,v2,e,rfl,g4 _ _ zAB,hR.mono gAll.tk,hS.mono gAll.tk,[],g4 _ _ (g3 _ _ zAB),.nil⟩ .nil,by simp[tot2],by simpa[tot2] using hsz,by simpa using hsz,by simp⟩,?_⟩
 rintro m σ' Hw ⟨l,ps,lev,s3,s4,s5,s6,s7,s8,rfl,gw,hl,el,hp,rfl,htot,hdeep,hset⟩;refine⟨_,rfl,_,.inl ⟨ps,SqL.of el,rfl⟩,?_⟩;refine ite2 77 77
 ·refine⟨_,λ Ω Ω h=>h,(by show 0<=sizeLine;decide),λ dp hdp=>⟨_,rfl,l,rfl,⟨ps,SqL.of (zAC hdp _ _ el)⟩,?_⟩⟩
  have gd:=zAC (o:=.lst []) hdp;have hdpH:H dp=none:=gw.free hdp;have ndl:dp≠l:=Ne.symm (zAL el hdp);refine zBo (xs:=ps) (λ i σ' H'=>E6 λ(dps:List V) (s4 s5 s6 s7 s8:Option V)=>A7 (σ'=[some v1,some v2,some (.ref l),some (.ref dp),s4,s5,s6,s7,s8]) (Same H H') (Tk Hw H') (H' l=some (.lst ps)) (H' dp=some (.lst dps)) (Paired (zDw H') ((lev.take i).flatMap λ q=>kids2 q.1 q.2.1 q.2.2) dps) (∀q∈lev.take i,hdA q.1 q.2.1 q.2.2=true)) ?_ ?_ ?_ ?_
  ·exact⟨[],s4,s5,s6,s7,s8,rfl,gw.trans gd,gd.tk,gd _ _ el,zAB,.nil,by simp⟩
  ·rintro i σ1 H1 _ ⟨dps,s4,s5,s6,s7,s8,rfl,g1,k1,el1,edp1,hp1,hh1⟩
   exact SqL.of el1
  ·rintro i x σ1 H1 hx ⟨dps,s4,s5,s6,s7,s8,rfl,g1,k1,el1,edp1,hp1,hh1⟩
   obtain⟨⟨tq,uq,pq⟩,eq,rq⟩:=zAW hp hx;have hmem:(tq,uq,pq)∈lev:=lK eq;have hdq:=hdeep _ hmem;have spq:=zAu tq;dsimp only at hdq;obtain⟨a,u1,w1,b,rfl,ha,ru,rw1,hb⟩:=rq.mono k1;refine⟨a,_,rfl,SqT.of ha,rfl,_,_,rfl,_,_,rfl,_,_,rfl,rfl,?_⟩;refine⟨_,rfl,_,rfl,_,rfl,tq,uq,u1,w1,b,pq,rfl,ru,rw1,hb.w,λ H2 g2=>⟨_,rfl,?_⟩⟩;refine ite2 (λ d=>?_) (λ d=>?_)
   ·have hd0:hdA tq uq pq=false:=by simpa using d
    refine qA false _ (g1.trans g2) ⟨λ z=>(nomatch z),λ z=>?_⟩
    have:=((zG0 tq uq pq).mp (hset.mpr z _ hmem)).1;rw[hd0] at this;exact this
   ·have hd1:hdA tq uq pq=true:=by simpa using d
    have hk:tq.kd=uq.kd:=by unfold hdA at hd1;simp at hd1;exact hd1.1
    refine⟨_,rfl,tq,u1,rfl,ru.mono g2.tk,λ pt H3 us g3 e3 hus=>⟨_,rfl,uq,w1,rfl,(rw1.mono g2.tk).mono g3.tk,λ pt2 H4 us2 g4 e4 hus2=>⟨pt,pt2,us,us2,rfl,g4 _ _ e3,e4,?_⟩⟩⟩;have g24:=g2.trans (g3.trans g4);have kl:=zF6 (ps:=pq) hk;have lus:=hus.length;have lus2:=hus2.length;have hb4:=hb.mono g24.tk;have ru4:=ru.mono g24.tk;have rw4:=rw1.mono g24.tk;refine zLQ (xs:=us) (ys:=us2) (λ j σ' H'=>E3 λ(dps':List V) (s7 s8:Option V)=>A6 (σ'=[some v1,some v2,some (.ref l),some (.ref dp),some u1,some w1,some (.ref b),s7,s8]) (Same H H') (Tk H4 H') (H' l=some (.lst ps)) (H' dp=some (.lst dps')) (Paired (zDw H') (((lev.take i).flatMap λ q=>kids2 q.1 q.2.1 q.2.2)++(kids2 tq uq pq).take j) dps')) ?_ ?_ ?_ ?_
    ·exact⟨dps,s7,s8,rfl,g1.trans g24,.refl _,g24 _ _ el1,g24 _ _ edp1,by
      rw[List.take_zero,nN];exact Paired.mapP hp1 λ Ω Ω z=>z.mono g24.tk⟩
    ·rintro j σ3 H5 _ ⟨dps5,s7,s8,rfl,g5,k5,el5,edp5,hp5⟩
     exact⟨k5 _ _ (g4 _ _ e3),k5 _ _ e4⟩
    ·rintro j x y T U σ3 H5 hx hy ⟨dps5,s7,s8,rfl,g5,k5,el5,edp5,hp5⟩ hU hT
     have gU:=zAC (o:=.tup [x,y]) hU;have gT:=zAC (o:=.tup [.int j,.ref U]) hT;have gUT:=gU.trans gT;obtain⟨cx,ecx,rcx⟩:=zAW hus hx;obtain⟨cy,ecy,rcy⟩:=zAW hus2 hy;have kk:=zF7 (ps:=pq) hk ecx ecy;have hj:j<us.length:=(lI.mp hx).1;refine⟨T,_,rfl,SqT.of zAB,rfl,_,_,rfl,_,_,rfl,rfl,?_⟩;have edp6:=gUT _ _ edp5;have hU6:(upd (upd H5 U (.tup [x,y])) T (.tup [.int j,.ref U])) U=some (.tup [x,y]):=gT _ _ zAB;refine⟨_,rfl,.inl ⟨rfl,_,SqL.of edp6⟩,_,rfl,U,_,0,_,rfl,rfl,SqT.of hU6,rfl,_,rfl,U,_,1,_,rfl,rfl,SqT.of hU6,rfl,_,rfl,_,rfl,_,rfl,_,rfl,tq,uq,u1,w1,j,b,pq,rfl,ru4.mono (k5.trans gUT.tk),rw4.mono (k5.trans gUT.tk),hk,hb4.mono (k5.trans gUT.tk),by lia,λ p H6 g6 e6=>⟨(by show 3<=sizeLine;decide),λ pr hpr=>?_⟩⟩;have gq:=zAC (o:=.tup [x,y,.ref p]) hpr;have gA:=gUT.trans (g6.trans gq);have edp7:=gA _ _ edp5
     have tot:dps5.length<=500:=by
      rw[←hp5.length,mI,mL];have l1:=zFT ((lev.take i).flatMap λ q=>kids2 q.1 q.2.1 q.2.2);have l2:=zEF (lev.take i) hh1;have l3:tot2 (lev.take (i+1))<=tot2 lev:=zFj lev _;rw[zAT eq,zBZ,zBt] at l3;have l4:=zEd (ps:=pq) hk;have l5:=zFT (kids2 tq uq pq);dsimp only at l3
      lia
     refine⟨dp,_,_,rfl,rfl,edp7,zAO 65,?_⟩;have kset:Tk H5 (upd (upd H6 pr (.tup [x,y,.ref p])) dp (.lst (dps5++[.ref pr]))):=gA.tk.trans (Tk.lst edp7);refine⟨_,_,_,rfl,zAY (g5.trans gA) hdpH,k5.trans kset,by rw[zAR (Ne.symm ndl)];exact gA _ _ el5,zAB,?_⟩;rw[zAT kk,←mV];refine zAv (Paired.mapP hp5 λ Ω Ω z=>z.mono kset) (.cons ⟨pr,x,y,p,rfl,Tk.lst edp7 _ _ zAB,(rcx.mono g4.tk).mono (k5.trans kset),rcy.mono (k5.trans kset),(e6.mono gq.tk).mono (Tk.lst edp7)⟩ .nil)
    ·rintro σ3 H5 ⟨dps5,s7,s8,rfl,g5,k5,el5,edp5,hp5⟩
     refine⟨dps5,some u1,some w1,some (.ref b),s7,s8,rfl,g5,k1.trans (g24.tk.trans k5),el5,edp5,?_,λ z hz=>?_⟩
     ·rw[show min us.length us2.length=(kids2 tq uq pq).length by lia,mM] at hp5
      rw[zAT eq,nH];simpa using hp5
     ·rw[zAT eq,nJ,mO] at hz
      rcases hz with h|h
      ·exact hh1 z h
      ·subst h;exact hd1
  ·rintro σ1 H1 ⟨dps,s4,s5,s6,s7,s8,rfl,g1,k1,el1,edp1,hp1,hh1⟩
   have hlen:ps.length=lev.length:=hp.length.symm;rw[hlen,mM] at hp1 hh1
   have pos:0<lev.length:=by
    rw[←hlen];cases ps with
    |nil=>simp at c
    |cons _ _=>simp
   have lk:=zEF lev hh1;refine⟨_,rfl,_,?_,dp,dps,_,some (.ref dp),s4,s5,s6,s7,s8,rfl,g1,hdpH,edp1,hp1,rfl,by lia,λ q' hq'=>?_,?_⟩
   ·lia
   ·obtain⟨r,hr',hq''⟩:=mU.mp hq'
    have hk:r.1.kd=r.2.1.kd:=by have:=hh1 r hr';unfold hdA at this;simp at this;exact this.1
    exact zIE hk (hdeep r hr') q' hq''
   ·rw[←hset]
    constructor
    ·intro h q' hq'
     exact(zG0 q'.1 q'.2.1 q'.2.2).mpr ⟨hh1 q' hq',λ r hr'=>h r (mU.mpr ⟨q',hq',hr'⟩)⟩
    ·intro h q' hq'
     obtain⟨r,hr',hq''⟩:=mU.mp hq';exact((zG0 r.1 r.2.1 r.2.2).mp (h r hr')).2 q' hq''
 ·have e0:ps=[]:=by
   cases ps with
   |nil=>rfl
   |cons _ _=>exact absurd rfl c
  subst e0;cases hp;exact qA true _ gw ⟨λ Ω=>hset.mp 59,λ Ω=>rfl⟩
abbrev zAt:Stmt:=top 22
theorem zDG:zAV ["tree", "kinds", "told", "part"] ["tree", "kinds"] (zAM zAt):=scI
abbrev zDK:Stmt:=top 24
theorem zFt:zAV ["tree", "kinds"] ["tree", "kinds"] (zAM zDK):=scI
abbrev zCe:Stmt:=top 25
theorem zFJ:zAV ["tree", "kind", "kinds"] ["tree", "kind", "kinds"] (zAM zCe):=scI
def zHC (K:W.Frag):Sp:=λ vs H Q Ω=>E3 λ(t:Tr) (v:V) (b:Addr)=>A6 (vs=[v,.ref b]) (Rep H t v) (t.size<=300) (NoG t) (SqT K H b []) (∀(z:Bool) (H':Hp),Same H H'->(z=true↔QuT t)->Q (.bl z) H')
theorem zKV (F:FunD K "is_quiet" "is_quiet" zAt f fd [.none]) (z_dict:mg "dict" = none) (zNI:mg "LOUD_SIGNS" = some (.ref la)) (hL:zGT K la) (zNC:FnB P w K mg base k "all_parts" g1 gd1 ["tree"] zIa):FnOk P w K mg base CX0 (k+1) f fd ["tree", "kinds"] (zHC K):=by
 refine F.ok zDG 69 58
 ·obtain⟨t,v,b,rfl,_⟩:=h
  rfl
 obtain⟨t,v,b,rfl,hR,hsz,hG,hb,q⟩:=h;have hu:=hu_of hr
 refine⟨_,(zAE (pS (i:=2) zDG.nd (zBK (zDu rfl) 84 z_dict rH (zAA (zLG 81 (zD2 (zFP zAD))) zAD)))
  (zAE (zAj PassesOwn.never rfl (zBi (pe_cl zNC hr (zAA (pv 0) zAD))) (pGn (i:=3) zDG.nd) (zAH (ps_if (pw_or (zAJ (r:=rIn K false) zBy (iC (r:=rIxT K) zAN (pv 3)) (zDq (v:=.ref _) 84 zNI 84) rfl) (zCg (zBk (zAJ op_eq (iC (r:=rIxT K) zAN (pv 3)) zAP 82) (zBE (zAJ (zIs hu) (iC (r:=rIxT K) zAN (pv 3)) (pv 2) rfl))).pt)).pt (zAH (zAU pe_bl)) zAK)))
  (zAH (zAU pe_bl)))),?_⟩
 refine⟨_,rfl,false,.inr (.inl ⟨[],hb,rfl⟩),iteF ⟨lX _,λ p o hp ho=>?_⟩⟩;refine⟨p,o,[],[],rfl,zAB,ho,.nil,lX _,λ d hd=>?_⟩;have g1:=(zAC (o:=.frz o (.tup [])) hp).trans (zAC (o:=.dK (zA5 [] [])) hd);refine⟨_,rfl,t,v,rfl,hR.mono g1.tk,by lia,λ l us F H2 g2 el pF hF=>⟨l,rfl,⟨us,SqL.of el⟩,?_⟩⟩;have g12:=g1.trans g2;refine zBo (xs:=us) (λ i σ' H'=>∃(s3:Option V),A3 (σ'=[some v,some (.ref b),some (.ref d),s3]) (Same H2 H') (∀p∈F.take i,p.kd.loud=false)) ⟨none,rfl,.refl _,λ p hp=>absurd hp 59⟩ ?_ ?_ ?_
 ·rintro i σ' H' _ ⟨s3,rfl,g,_⟩
  exact SqL.of (g _ _ el)
 ·rintro i x σ' H' hx ⟨s3,rfl,g,hq⟩
  obtain⟨tq,eq,rq⟩:=zAW pF hx;have hmem:tq∈t.subs:=(hF _).mp (lK eq);have q2:=hG tq hmem;obtain⟨pa,hs,us',rfl,hpa,hhl,hparts⟩:=(rq.mono g.tk).all;have at0:atI (V.str tq.kd.s::hs++us') 0=some (.str tq.kd.s):=zAc (j:=0) rfl;refine⟨_,rfl,pa,_,0,_,rfl,rfl,SqT.of hpa,at0,la,loudV,rfl,.inr (.inr hL),rfl,rfl,_,rfl,?_⟩;show if inV (.str tq.kd.s) loudV=true then _ else _
  rw[zJY];refine ite2 (λ c=>iteT (q false _ (g12.trans g) ⟨(λ z=>nomatch z),λ z=>?_⟩)) 77
  ·have:=(z tq hmem).1
   rw[this] at c;cases c
  refine⟨_,rfl,pa,_,0,_,rfl,rfl,SqT.of hpa,at0,rfl,_,rfl,ite2 (λ c2=>?_) (λ c2=>?_)⟩
  ·exact absurd (Kd.eq_iff.mp (lS c2)) q2
  ·refine iteF ⟨_,rfl,g,λ p hp=>?_⟩
   rw[zAT eq] at hp;rcases lJ.mp hp with h|h
   ·exact hq p h
   ·rw[mO.mp h]
    simpa using c
 ·rintro σ' H' ⟨s3,rfl,g,hq⟩
  have lu:us.length=F.length:=zBD pF;rw[lu,mM] at hq;exact q true _ (g12.trans g) ⟨λ Ω p hp=>⟨hq p ((hF _).mpr hp),hG p hp⟩,λ Ω=>rfl⟩
def zHF:Sp:=λ vs H Q Ω=>E3 λ(t:Tr) (v kv:V)=>A4 (vs=[v,kv]) (Rep H t v) (¬t.kd = .gap) (Q (.bl (decide (t.kd = .num))) H)
theorem zKe (F:Fun K "is_number" "is_number" zDK f fd):FnOk P w K mg base CX0 (k+1) f fd ["tree", "kinds"] zHF:=by
 refine F.ok zFt 69 58
 ·obtain⟨t,v,kv,rfl,_⟩:=h
  rfl
 obtain⟨t,v,kv,rfl,hR,hg,q⟩:=h;obtain⟨a,hs,us,rfl,ha,_,_⟩:=hR.all;have at0:atI (V.str t.kd.s::hs++us) 0=some (.str t.kd.s):=zAc (j:=0) rfl
 refine⟨_,(zAE (ps_if (zAJ op_eq 57 zAP 82) zIj zAK)
  (zAH (zAU (zA6 op_eq 57 zAP 82)))),?_⟩
 refine⟨_,rfl,a,_,0,_,rfl,rfl,SqT.of ha,at0,rfl,_,rfl,ite2 77 91⟩
 ·exact absurd (Kd.eq_iff (b:=.gap) |>.mp (lS c)) hg
 refine⟨_,rfl,a,_,0,_,rfl,rfl,SqT.of ha,at0,rfl,?_⟩
 have e:decide (V.str t.kd.s=V.str "num")=decide (t.kd = .num):=by
  rw[decide_eq_decide];exact Kd.eq_iff (b:=.num)
 rw[e];exact q
def KdV (kd:V):Prop:=kd = .non\/kd = .str "quiet" \/ kd = .str "number"
def zFq (K:W.Frag):Sp:=λ vs H Q Ω=>E4 λ(t:Tr) (v kd:V) (b:Addr)=>A7 (vs=[v,kd,.ref b]) (Rep H t v) (t.size<=300) (NoG t) (KdV kd) (SqT K H b []) (∀(z:Bool) (H':Hp),Same H H'->(z=true↔OfK kd t)->Q (.bl z) H')
theorem zIz (F:Fun K "is_of_kind" "is_of_kind" zCe f fd) (zNJ:FnB P w K mg base k "is_number" g1 gd1 ["tree", "kinds"] zHF) (zNK:FnD1 P w K mg base k "is_quiet" g2 gd2 ["tree", "kinds"] (zHC K)):FnOk P w K mg base CX0 (k+1) f fd ["tree", "kind", "kinds"] (zFq K):=by
 refine F.ok zFJ 69 58
 ·obtain⟨t,v,kd,b,rfl,_⟩:=h
  rfl
 obtain⟨t,v,kd,b,rfl,hR,hsz,hG,hk,hb,q⟩:=h;have ht:t∈t.subs:=by rw[zBT];exact lO
 refine⟨_,(zAE (ps_if (zAJ op_eq 81 zAP 82) (zAH (zAU (pe_cl zNJ hr (zAA (pv 0) 87)))) zAK)
  (zAH (zAU (pe_or (zA6 op_ne 81 zAP 82) (zD2 (zGe zNK.ok hr 84 zNK.gl zNK.kp zNK.bd0 .nil pass0 (zAA (pv 0) 87))))))),?_⟩
 have nq:¬(V.str (Str.ofString "quiet")=V.str (Str.ofString "number")):=λ z=>absurd (V.str.inj z) 80;rcases hk with rfl|rfl|rfl
 ·refine⟨_,rfl,rfl,_,rfl,ite2 77 91⟩
  ·exact absurd (lS c) (λ z=>nomatch z)
  ·exact⟨_,rfl,rfl,_,rfl,iteT (q true _ (.refl _) ⟨λ Ω=>.inl rfl,λ Ω=>rfl⟩)⟩
 ·refine⟨_,rfl,rfl,_,rfl,ite2 77 91⟩
  ·exact absurd (V.str.inj (lS c)) 80
  ·refine⟨_,rfl,rfl,_,rfl,ite2 77 91⟩
   ·rw[decide_eq_true rfl] at c
    cases c
   ·refine⟨_,rfl,_,rfl,t,v,b,rfl,hR,hsz,hG,hb,λ z H' g hz=>q z H' g ⟨λ y=>.inr (.inl ⟨rfl,hz.mp y⟩),λ y=>?_⟩⟩
    rcases y with y|⟨_,y⟩|⟨y,_⟩
    ·cases y
    ·exact hz.mpr y
    ·exact absurd y nq
 ·refine⟨_,rfl,rfl,_,rfl,ite2 91 77⟩
  ·refine⟨_,rfl,_,rfl,t,v,.ref b,rfl,hR,hG t ht,q _ _ (.refl _) ⟨λ y=>.inr (.inr ⟨rfl,lS y⟩),λ y=>?_⟩⟩
   rcases y with y|⟨y,_⟩|⟨_,y⟩
   ·cases y
   ·exact absurd y.symm nq
   ·exact lT y
  ·exact absurd (lT rfl) c
abbrev zFK:Stmt:=top 26
theorem zFu:zAV ["name", "pairs", "pair"] ["name", "pairs"] (zAM zFK):=scI
abbrev zBO:Stmt:=top 27
theorem zBj:zAV ["tree", "atoms", "pairs", "told"] ["tree", "atoms", "pairs"] (zAM zBO):=scI
abbrev zCc:Stmt:=top 28
theorem zCF:zAV ["tree", "names", "used", "name"] ["tree", "names"] (zAM zCc):=scI
def zEJ:Sp:=λ vs H Q Ω=>E3 λ(x:Str) (b:Addr) (ps:List (Str × Str))=>A3 (vs=[.str x,.ref b]) (PsW H ps b) (Q (opV (bnd x ps.reverse)) H)
theorem zI3 (F:Fun K "binder" "binder" zFK f fd) (z_reversed:mg "reversed" = none):FnOk P w K mg base CX0 (k+1) f fd ["name", "pairs"] zEJ:=by
 refine F.ok zFu 69 58
 ·obtain⟨x,b,ps,rfl,_⟩:=h
  rfl
 obtain⟨x,b,ps,rfl,⟨us,hb,hp⟩,q⟩:=h
 refine⟨_,(zAE (zAj PassesOwn.never rfl (zIn 84 z_reversed (zAA 81 zAD)) (pGn (i:=2) zFu.nd) (zAH (ps_if (zAJ op_eq (iC (r:=rIxT K) zAN (pv 2)) (pv 0) 82) (zAH (zAU (iC (r:=rIxT K) zAN (pv 2)))) zAK)))
  (zAH (zAU zD3))),?_⟩
 refine⟨_,rfl,b,rfl,us,.inl hb,?_⟩;refine zJe (xs:=us) (λ i σ' H'=>∃s2,A3 (σ'=[some (.str x),some (.ref b),s2]) (H'=H) (∀p∈ps.reverse.take i,p.2≠x)) ?_ ?_ ?_ ?_
 ·exact⟨none,rfl,rfl,by simp⟩
 ·rintro i σ1 H1 _ ⟨s2,rfl,rfl,_⟩
  exact .inl hb
 ·rintro i v σ1 H1 hi hx ⟨s2,rfl,rfl,hall⟩
  obtain⟨p,ep,c,rfl,hc⟩:=zAW hp hx;have lp:=hp.length
  have er:ps.reverse[i]?=some p:=by
   rw[List.getElem?_reverse 65,lp];exact ep
  have dr:ps.reverse.drop i=p::ps.reverse.drop (i+1):=by
   obtain⟨hl,e⟩:=lI.mp er;rw[List.drop_eq_getElem_cons hl,e]
  have hsn:=zFd x ps.reverse i hall;rw[dr,bnd] at hsn;refine⟨_,rfl,c,_,1,_,rfl,rfl,SqT.of hc,rfl,_,rfl,rfl,_,rfl,?_⟩;refine ite2 (λ d=>?_) (λ d=>?_)
  ·have d':p.2=x:=V.str.inj (lS d)
   rw[hsn,if_pos d'] at q;exact⟨_,rfl,c,_,0,_,rfl,rfl,SqT.of hc,rfl,q⟩
  ·have d':p.2≠x:=λ z=>d (by rw[z];exact lT rfl)
   refine⟨some (.ref c),rfl,rfl,λ r hr'=>?_⟩;rw[zAT er,nJ,mO] at hr';rcases hr' with h|h
   ·exact hall r h
   ·subst h;exact d'
 ·rintro σ1 H1 ⟨s2,rfl,rfl,hall⟩
  rw[zFd x ps.reverse us.length hall,List.drop_of_length_le (by rw[List.length_reverse,hp.length];exact lQ _)] at q;exact q
def zLB (K:W.Frag):Sp:=λ vs H Q Ω=>E8 λ(t:Tr) (v:V) (a b:Addr) (as:List Str) (us:List V) (ps:List (Str × Str)) (ws:List Str)=>A10 (vs=[v,.ref a,.ref b]) (Rep H t v) (t.size<=500) (ws.length<64) (∀x∈t.fv [],x∈ws) (H a=some (.tup us)) (Paired (AtRep H) (as.map Atom.name) us) (as.length<=100) (PsW H ps b) (∀(z:Bool) (H':Hp),Same H H'->(z=true↔NoOth t as ps.reverse)->Q (.bl z) H')
theorem zMi (F:Fun K "has_no_other_name" "has_no_other_name" zBO f fd) (z_all:mg "all" = none) (zNL:FnB P w K mg base k "binder" g1 gd1 ["name", "pairs"] zEJ) (zNM:FnB P w K mg base k "free_names" g2 gd2 ["tree"] zDU):FnOk P w K mg base CX0 (k+1) f fd ["tree", "atoms", "pairs"] (zLB K):=by
 refine F.ok zBj 69 58
 ·obtain⟨t,v,a,b,as,us,ps,ws,rfl,_⟩:=h
  rfl
 obtain⟨t,v,a,b,as,us,ps,ws,rfl,hR,hsz,hws,hfv,ha,hpa,hal,hb,q⟩:=h;have hu5:=hu150 hr
 refine⟨_,(zAE (ps_if (zBS (zB0 (pv 2) (λ Ω=>rfl))) (zAH (zAU pe_bl)) zAK)
  (zAE (zFw (i:=3) zBj.nd rfl (Or.inr rfl) (pe_op zHO (zDY ["atom"] [none] rfl (zB1 81) (λ Ω Ω Ω Ω Ω=>(zBx (i:=0) (show List.Nodup (["atom"]:List Str) by right) rfl (Or.inl rfl))) (λ Ω Ω Ω Ω Ω=>zCh) (λ Ω Ω Ω Ω Ω=>57) rfl) (zBA (zAA zD3 zAD):PE _ _ _)))
  (zAH (zAU (zA2 (zGH rfl) 84 z_all PyProof.Rows.boot_all (zAA (zDY ["name", "told", "pairs"] [none,some 3,some 2] rfl (zBi (pe_cl zNM hr (zAA (pv 0) zAD))) (λ Ω Ω Ω Ω Ω=>(zBx (i:=0) (show List.Nodup (["name", "told", "pairs"]:List Str) by right) rfl (Or.inl rfl))) (λ Ω Ω Ω Ω Ω=>zCh) (λ Ω Ω Ω Ω Ω=>(zA6 (r:=rIn K false) zBy (pe_cl zNL hr (zAA (pv 0) 87)) 81 rfl)) rfl) zAD)))))),?_⟩
 obtain⟨ub,hb',hpb⟩:=hb;have lpb:=hpb.length;refine⟨_,rfl,_,.inr (.inl ⟨ub,.inl hb',rfl⟩),ite2 77 91⟩
 ·have e:ub=[]:=by simpa using c
  have ep:ps=[]:=nI.mp (by rw[lpb,e];rfl);refine q true H (.refl _) ⟨λ Ω x Ω y hy=>?_,λ Ω=>rfl⟩;rw[ep] at hy;cases hy
 have lpa:=hpa.length;rw[lC] at lpa;refine⟨_,rfl,a,rfl,⟨_,SqT.of ha⟩,λ acc hacc=>?_⟩;refine zEi (xs:=us) (λ i H'=>Same H H'/\H' acc=some (.lst ((as.take i).map V.str))) ⟨zAC hacc,zAB⟩ (λ i H' Ω p=>SqT.of (p.1 _ _ ha)) ?_ ?_
 ·intro i x H1 hx ⟨g1,e1⟩
  obtain⟨at_,ea,ra⟩:=zAW hpa hx;rw[mH] at ea;obtain⟨y,ey,rfl⟩:=lU.mp ea;obtain⟨c,rfl,hc⟩:=ra.mono g1.tk;have hi:i<us.length:=(lI.mp hx).1;refine⟨.skip .nil,_,rfl,c,_,1,_,rfl,rfl,SqT.of hc,rfl,_,e1,?_,zAY g1 hacc,?_⟩
  ·rw[lC,mL];exact zAO 65
  ·rw[zAB,zAT ey,mN];rfl
 rintro H1 ⟨g1,e1⟩;rw[←lpa,mM] at e1;refine⟨(by show 1<=sizeLine;decide),λ n1 hn1=>?_⟩;have g2:=g1.trans (zAC (o:=.lst [.non]) hn1);have e2:=@zAB H1 n1 (.lst [.non]);have e12:=zAC (o:=.lst [.non]) hn1 _ _ e1;generalize upd H1 n1 _=H2 at g2 e2 e12 ⊢;refine⟨acc,n1,_,_,rfl,rfl,e12,e2,zAw (by rw[lC];show as.length+1<=1000;lia),λ tl htl=>?_⟩;have g3:=g2.trans (zAC (o:=.lst (as.map V.str++[.non])) htl);have e3:=@zAB H2 tl (.lst (as.map V.str++[.non]));generalize upd H2 tl _=H3 at g3 e3 ⊢;refine⟨_,rfl,t,v,ws,rfl,hR.mono g3.tk,hsz,hws,hfv,λ l H4 ss g4 hl el nd Ω hss=>?_⟩;have g34:=g3.trans g4
 have hlen:ss.length<64:=by
  have:=zBg nd (λ x hx=>hfv x ((hss x).mp hx))
  lia
 refine⟨l,rfl,⟨_,SqL.of el⟩,λ ac2 hac2=>?_⟩;refine zFA (xs:=ss.map V.str) (λ i H'=>Same H4 H'/\∃bs:List Bool,H' ac2=some (.lst (bs.map V.bl))/\bs.length=i/\(bs.all id=true↔∀x∈ss.take i,∀y,bnd x ps.reverse=some y->y∈as)) ⟨zAC hac2,[],zAB,rfl,by simp⟩ (λ i H' Ω h=>SqL.of (h.1 _ _ el)) ?_ ?_
 ·rintro i x H5 hx ⟨g5,bs,e5,lb,hbs⟩
  rw[mH] at hx;obtain⟨y,ey,rfl⟩:=lU.mp hx;have hi:i<ss.length:=(lI.mp ey).1;have g05:=g34.trans g5;refine⟨.skip (.keep (.keep .nil)),_,rfl,_,rfl,y,b,ps,rfl,(PsW.same g05 ⟨ub,hb',hpb⟩),_,rfl,tl,_,rfl,.inl (SqL.of (g4.trans g5 _ _ e3)),zKR _,zJ4 as,?_⟩;refine⟨_,e5,zAO (by rw[lC];lia),zAY g5 hac2,bs++[decide (∀z,bnd y ps.reverse=some z->z∈as)],?_,by simp[lb],?_⟩
  ·rw[zAB,mN]
   show some (HO.lst (_++[V.bl (inV (opV _) _)]))=_;rw[zMs];rfl
  ·rw[List.all_append,Bool.and_eq_true,hbs,zAT ey]
   simp only[List.all_cons,List.all_nil,Bool.and_true,id,decide_eq_true_iff,nJ,mO];constructor
   ·rintro⟨h1,h2⟩ x (hx|rfl)
    ·exact h1 x hx
    ·exact h2
   ·exact λ h=>⟨λ x hx=>h x (.inl hx),h y (.inr rfl)⟩
 ·rintro H5 ⟨g5,bs,e5,lb,hbs⟩
  rw[lC,mM] at hbs;exact⟨ac2,bs,rfl,e5,q _ H5 (g34.trans g5) (hbs.trans ⟨λ h x hx=>h x ((hss x).mpr hx),λ h x hx=>h x ((hss x).mp hx)⟩)⟩
def zFm:Sp:=λ vs H Q Ω=>E5 λ(t:Tr) (v:V) (l:Addr) (ns W:List Str)=>A8 (vs=[v,.ref l]) (Rep H t v) (t.size<=400) (H l=some (.lst (ns.map V.str))) (ns.length<=100) (W.length<=400) (∀x∈t.wrds,x∈W) (∀(m:Str) (H':Hp),Same H H'->m∉t.wrds->m∉ns->GW m->Q (.str m) H')
theorem zIv (F:Fun K "word_apart" "word_apart" zCc f fd) (zNN:FnB P w K mg base k "unused_word" g1 gd1 ["used"] zFn) (zNO:FnB P w K mg base k "words_used" g2 gd2 ["tree", "leaves"] zDR):FnOk P w K mg base CX0 (k+1) f fd ["tree", "names"] zFm:=by
 refine F.ok zCF 69 58
 ·obtain⟨t,v,l,ns,W,rfl,_⟩:=h
  rfl
 obtain⟨t,v,l,ns,W,rfl,hR,hsz,hl,hn,hW,hw,q⟩:=h;have hu:=hu_of hr
 refine⟨_,(zAE (pS (i:=2) zCF.nd (pe_cl zNO hr (zAA (pv 0) (zAA zBL zAD))))
  (zAE (zAj PassesOwn.never rfl (zBi 81) (pGn (i:=3) zCF.nd) (zAH (zBF hu (pv 2) (pv 3) pe_bl rfl)))
  (zAH (zAU (pe_cl zNN hr 87))))),?_⟩
 refine⟨_,rfl,λ d hd=>?_⟩;have g1:=zAC (o:=.dK []) hd;have e1:=@zAB H d (.dK []);generalize upd H d _=H1 at g1 e1 ⊢;refine⟨t,v,d,W,rfl,hR.mono g1.tk,hsz,e1,hW,hw,λ u ks H2 g2 hu2 eu nd hks hin=>?_⟩;have g12:=g1.trans g2;have hkl:=zBg nd hin
 have huH:H u=none:=by
  cases e:H u with
  |none=>rfl
  |some o=>rw[g1 _ _ e] at hu2;cases hu2
 have nul:u≠l:=λ z=>by rw[z,hl] at huH;cases huH
 refine⟨_,rfl,l,rfl,⟨_,SqL.of (g12 _ _ hl)⟩,?_⟩;refine zBo (xs:=ns.map V.str) (λ i σ' H'=>E2 λ(ks':List Str) (s3:Option V)=>A7 (σ'=[some v,some (.ref l),some (.ref u),s3]) (Same H H') (H' l=some (.lst (ns.map V.str))) (H' u=some (.dK (kvOf ks'))) (ks'.length<=ks.length+i) (∀x∈ks,x∈ks') (∀x∈ns.take i,x∈ks')) ?_ ?_ ?_ ?_
 ·exact⟨ks,none,rfl,g12,g12 _ _ hl,eu,lQ _,λ x hx=>hx,by simp⟩
 ·rintro i σ' H' _ ⟨ks',s3,rfl,g,el,eu',lk,up,al⟩
  exact SqL.of el
 ·rintro i x σ' H' hx ⟨ks',s3,rfl,g,el,eu',lk,up,al⟩
  rw[mH] at hx;obtain⟨y,ey,rfl⟩:=lU.mp hx;have hi:i<ns.length:=(lI.mp ey).1;refine⟨_,rfl,_,rfl,u,_,rfl,DPut.k (k:=Sum.inr y) eu' (zAO (by rw[show (kvOf ks').length=ks'.length from lC _];lia)),?_⟩;refine⟨addK ks' y,_,rfl,zAY g huH,by rw[zAR (Ne.symm nul)];exact el,by rw[zAB,zD8],?_,λ x hx=>zA8.mpr (.inl (up x hx)),λ x hx=>?_⟩
  ·have:=zKp ks' y
   lia
  ·rw[zAT ey] at hx
   rcases lJ.mp hx with h|h
   ·exact zA8.mpr (.inl (al x h))
   ·exact zA8.mpr (.inr (mO.mp h))
 ·rintro σ' H' ⟨ks',s3,rfl,g,el,eu',lk,up,al⟩
  rw[lC] at lk al;rw[mM] at al;exact⟨_,rfl,u,ks',rfl,eu',by lia,λ m hm gm=>q m H' g (λ z=>hm (up m (hks m z))) (λ z=>hm (al m z)) gm⟩
abbrev zCL:Stmt:=top 29
theorem zBI:zAV ["tree", "atoms", "pairs", "bound", "names", "number", "atom"] ["tree", "atoms", "pairs"] (zAM zCL):=scI
abbrev zDm:Stmt:=top 30
theorem zGX:zAV ["gap", "tree", "pairs"] ["gap", "tree", "pairs"] (zAM zDm):=scI
abbrev zCQ:Stmt:=top 31
theorem zBe:zAV ["piece", "tree", "name"] ["piece"] (zAM zCQ):=scI
abbrev zCK:Stmt:=top 32
theorem zEo:zAV ["filling", "gap", "piece"] ["filling", "gap", "piece"] (zAM zCK):=scI
def zFo:Sp:=λ vs H Q Ω=>E8 λ(t:Tr) (v:V) (a b:Addr) (as W:List Str) (us:List V) (ps:List (Str × Str))=>A14 (vs=[v,.ref a,.ref b]) (Rep H t v) (t.size<=400) (W.length<=400) (∀x∈t.wrds,x∈W) (H a=some (.tup us)) (Paired (AtRep H) (as.map Atom.name) us) (as.length<=100) as.Nodup (FzP H ps b) (ps.length<=900) ((ps.map (·.1)).Nodup) (∀x∈as,x∈ps.map (·.1)) ((∀p∈ps,GW p.2)/\∀p ns H',Same H H'->H' p=some (.tup (ns.map V.str))->PN t as ps.reverse ns->(∀x∈ns,GW x)->Q (.ref p) H')
theorem zIx (F:Fun K "piece_names" "piece_names" zCL f fd) (z_dict:mg "dict" = none) (z_enumerate:mg "enumerate" = none) (z_tuple:mg "tuple" = none) (zNL:FnB P w K mg base k "binder" g1 gd1 ["name", "pairs"] zEJ) (zNP:FnB P w K mg base k "word_apart" g2 gd2 ["tree", "names"] zFm):FnOk P w K mg base CX0 (k+1) f fd ["tree", "atoms", "pairs"] zFo:=by
 refine F.ok zBI 69 58
 ·obtain⟨t,v,a,b,as,W,us,ps,rfl,_⟩:=h
  rfl
 obtain⟨t,v,a,b,as,W,us,ps,rfl,hR,hsz,hW,hw,ha,hpa,hal,and,hb,hpl,pnd,hin,hgw,q⟩:=h;have hu:=hu_of hr
 refine⟨_,(zAE (zFw (i:=3) zBI.nd rfl (Or.inr rfl) (zBK (zDu rfl) 84 z_dict rH 87))
  (zAE (zD9 (jj:=4) ["atom", "bound"] [none,some 3] rfl (zB1 81) (λ Ω Ω Ω Ω Ω=>(zBx (i:=0) (show List.Nodup (["atom", "bound"]:List Str) by right) rfl (Or.inl rfl))) (λ Ω Ω Ω Ω Ω=>zCh) (λ Ω Ω Ω Ω Ω=>(zBb hu 81 57 73)) rfl zBI.nd rfl (Or.inl rfl) (Or.inr rfl))
  (zAE (zAj PassesOwn.never rfl (zGc 84 z_enumerate (zAA 81 zAD)) (zB2 rfl (zAa (pGn (i:=5) zBI.nd) (zAa (pGn (i:=6) zBI.nd) zBV))) (zAH (ps_if (zAJ op_ne (pe_cl zNL hr (zAA (pe_ix (r:=rIxL K) zAd (pv 4) (pv 5) 73) 87)) (iC (r:=rIxT K) zAN (pv 6)) 82) (zAH (zFx (pe_cl zNP hr (zAA (pv 0) (zAA (pv 4) zAD))) (zHL (pv 4) (pv 5) zD7))) zAK)))
  (zAH (zAU (zBK zA3 84 z_tuple rF (zAA (pv 4) zAD))))))),?_⟩
 obtain⟨o,ub,hb',ho,hpb⟩:=id hb;have lpa:=hpa.length;rw[lC] at lpa
 have prv:Paired (PrV H) ub (kvP ps):=by
  unfold kvP;clear hb hb' pnd hin hgw hpl q
  induction hpb with
  |nil=>exact .nil
  |cons r _ ih=>exact .cons r ih
 refine⟨_,rfl,b,o,ub,kvP ps,rfl,hb',ho,prv,by unfold kvP;rw[lC];lia,λ d hd=>?_⟩;have g1:=zAC (o:=.dK (zA5 [] (kvP ps))) hd;have e1:=@zAB H d (.dK (zA5 [] (kvP ps)));dsimp only[gName];generalize upd H d _=H1 at g1 e1 ⊢;obtain⟨N,lN,hN⟩:=zHR hin
 have gN:∀x∈N,GW x:=λ x hx=>by
  obtain⟨i,hi,e⟩:=List.getElem_of_mem hx;obtain⟨n,en,hn⟩:=hN i _ (lV (by rw[←lN];exact hi));rw[nL hi,e] at en;cases en;exact hgw _ hn
 refine⟨_,rfl,a,rfl,⟨us,SqT.of (g1 _ _ ha)⟩,λ acc hacc=>?_⟩;refine zEi (xs:=us) (λ i H'=>Same H1 H'/\H' acc=some (.lst ((N.take i).map V.str))) ⟨zAC hacc,zAB⟩ (λ i H' Ω h=>SqT.of (h.1 _ _ (g1 _ _ ha))) ?_ ?_
 ·rintro j y Hx hy ⟨gx,ex⟩
  obtain⟨at_,ea,ra⟩:=zAW hpa hy;rw[mH] at ea;obtain⟨z,ez,rfl⟩:=lU.mp ea;obtain⟨c,rfl,hc⟩:=ra.mono (g1.trans gx).tk;obtain⟨n,en,hn⟩:=hN j z ez;have hj:j<us.length:=(lI.mp hy).1;have dg:DGet Hx d (.str z) (some (.str n)):=zIQ pnd hn▸DGet.k (k:=Sum.inr z) (gx _ _ e1);refine⟨.skip (.keep .nil),_,rfl,_,rfl,c,_,1,_,rfl,rfl,SqT.of hc,rfl,d,_,rfl,dg,_,ex,zAO (by rw[lC,mL];lia),zAY gx hacc,?_⟩;rw[zAB,zAT en,mN];rfl
 rintro H2 ⟨g2,e2⟩;rw[←lpa,←lN,mM] at e2
 have haccH:H acc=none:=by
  cases e:H acc with
  |none=>rfl
  |some o=>rw[g1 _ _ e] at hacc;cases hacc
 have g12:=g1.trans g2;refine⟨_,rfl,a,rfl,⟨us,SqT.of (g12 _ _ ha)⟩,?_⟩;refine zFX (xs:=us) (λ i σ' H'=>E3 λ(L:List Str) (s5 s6:Option V)=>A5 (σ'=[some v,some (.ref a),some (.ref b),some (.ref d),some (.ref acc),s5,s6]) (Same H H') (H' acc=some (.lst (L.map V.str))) (Dn t as ps.reverse N i L) (∀x∈L,GW x)) ⟨N,none,none,rfl,g12,e2,Dn.zero lN,gN⟩ ?_ ?_ ?_
 ·rintro i σ1 H3 _ ⟨L,s5,s6,rfl,g3,e3,hD,hL⟩
  exact SqT.of (g3 _ _ ha)
 ·rintro i y T σ1 H3 hy ⟨L,s5,s6,rfl,g3,e3,hD,hL⟩ hT
  have k3:=zAC (o:=.tup [.int i,y]) hT;have eT:=@zAB H3 T (.tup [.int i,y]);have g4:=g3.trans k3;have e4:=k3 _ _ e3;generalize upd H3 T _=H4 at g4 e4 eT ⊢;obtain⟨at_,ea,ra⟩:=zAW hpa hy;rw[mH] at ea;obtain⟨z,ez,rfl⟩:=lU.mp ea;obtain⟨c,rfl,hc⟩:=ra.mono g4.tk;obtain⟨n,en,hn⟩:=hN i z ez;have el:=hD.rest i n (lQ _) en;have hi:i<L.length:=(lI.mp el).1;refine⟨T,_,rfl,SqT.of eT,rfl,_,_,rfl,_,_,rfl,rfl,?_⟩;have bi:atI (L.map V.str) (i:Int)=some (.str n):=zAc (by rw[mH,el];rfl);refine⟨_,rfl,_,rfl,acc,_,_,_,rfl,rfl,SqL.of e4,bi,_,rfl,n,b,ps,rfl,(hb.same g4).w,_,rfl,c,_,1,_,rfl,rfl,SqT.of hc,rfl,?_⟩;have sc:scal (opV (bnd n ps.reverse)) (.str z)=true:=by cases bnd n ps.reverse<;>rfl
  refine⟨sc,_,rfl,?_⟩;rw[zMe];refine ite2 77 77
  ·have hbad:¬bnd n ps.reverse=some z:=by simpa using c
   refine⟨_,rfl,_,rfl,t,v,acc,L,W,rfl,hR.mono g4.tk,hsz,e4,by rw[hD.len];exact hal,hW,hw,λ m H5 g5 m1 m2 gm=>?_⟩;refine⟨_,rfl,_,rfl,acc,_,_,i,rfl,rfl,g5 _ _ e4,?_,L.set i m,_,_,rfl,zAY (g4.trans g5) haccH,?_,hD.bad en ez hbad m1 m2,λ x hx=>?_⟩
   ·rw[lC]
    unfold ixN;rw[if_pos (Int.natCast_nonneg _),if_pos 65,Int.toNat_natCast]
   ·rw[zAB,List.map_set]
   ·rcases List.mem_or_eq_of_mem_set hx with h|h
    ·exact hL x h
    ·rw[h];exact gm
  ·have hgood:bnd n ps.reverse=some z:=by simpa using c
   exact⟨L,_,_,rfl,g4,e4,hD.good and en ez hgood,hL⟩
 ·rintro σ1 H3 ⟨L,s5,s6,rfl,g3,e3,hD,hL⟩
  rw[←lpa] at hD;exact⟨_,rfl,acc,_,rfl,.inl ⟨SqL.of e3,λ p hp=>q p L _ (g3.trans (zAC hp)) zAB (hD.pn pnd hN) hL⟩⟩
def zLA:Sp:=λ vs H Q Ω=>E9 λ(t:Tr) (g:Str) (gv v:V) (b:Addr) (as W ws:List Str) (ps:List (Str × Str))=>A16 (vs=[gv,v,.ref b]) (Rep H (.gap g (as.map Atom.name)) gv) (Rep H t v) (t.size<=400) (W.length<=400) (∀x∈t.wrds,x∈W) (ws.length<64) (∀x∈t.fv [],x∈ws) (as.length<=100) as.Nodup (FzP H ps b) (ps.length<=900) ((ps.map (·.1)).Nodup) (∀x∈as,x∈ps.map (·.1)) (∀p∈ps,GW p.2) ((∀H',Same H H'->¬NoOth t as ps.reverse->Q .non H')/\∀p nt ns H',Same H H'->H' p=some (.tup [.ref nt,v])->H' nt=some (.tup (ns.map V.str))->NoOth t as ps.reverse->PN t as ps.reverse ns->(∀x∈ns,GW x)->Q (.ref p) H')
theorem zMf (F:Fun K "piece_of" "piece_of" zDm f fd) (zNQ:FnB P w K mg base k "has_no_other_name" g1 gd1 ["tree", "atoms", "pairs"] (zLB K)) (zNR:FnB P w K mg base k "piece_names" g2 gd2 ["tree", "atoms", "pairs"] zFo):FnOk P w K mg base CX0 (k+1) f fd ["gap", "tree", "pairs"] zLA:=by
 refine F.ok zGX 69 58
 ·obtain⟨t,g,gv,v,b,as,W,ws,ps,rfl,_⟩:=h
  rfl
 obtain⟨t,g,gv,v,b,as,W,ws,ps,rfl,hG,hR,hsz,hW,hw,hws,hfv,hal,and,hb,hpl,pnd,hin,hgw,q1,q2⟩:=h;obtain⟨a,x,us,rfl,ha,hx,_,pas⟩:=hG
 refine⟨_,(zAE (ps_if (zAp (pe_cl zNQ hr (zAA 81 (zAA 57 87)))) (zAH (zAU (zAk (zAA (pe_cl zNR hr (zAA 81 (zAA 57 87))) (zAA 81 zAD)):PE _ _ _))) zAK)
  (zAH (zAU zD3))),?_⟩
 refine⟨_,rfl,_,rfl,a,_,2,_,rfl,rfl,SqT.of ha,rfl,_,rfl,t,v,x,b,as,us,ps,ws,rfl,hR,by lia,hws,hfv,hx,pas,hal,hb.w,λ z H1 g1 hz=>⟨z,rfl,?_⟩⟩;cases z with
 |false=>exact iteF (q1 H1 g1 λ y=>nomatch hz.mpr y)
 |true =>
  have hno:=hz.mp rfl;refine iteT ⟨_,rfl,_,rfl,a,_,2,_,rfl,rfl,SqT.of (g1 _ _ ha),rfl,_,rfl,t,v,x,b,as,W,us,ps,rfl,hR.mono g1.tk,hsz,hW,hw,g1 _ _ hx,Paired.mapP pas (λ Ω Ω z=>z.mono g1.tk),hal,and,hb.same g1,hpl,pnd,hin,hgw,λ nt ns H2 g2 e2 pn gns=>⟨_,rfl,(by show 2<=sizeLine;decide),λ p hp=>?_⟩⟩;exact q2 p nt ns _ (g1.trans (g2.trans (zAC hp))) zAB (zAC hp _ _ e2) hno pn gns
def zFr:Sp:=λ vs H Q Ω=>E5 λ(t:Tr) (p nt:Addr) (u:V) (ns:List Str)=>A5 (vs=[.ref p]) (H p=some (.tup [.ref nt,u])) (H nt=some (.tup (ns.map V.str))) (Rep H t u) (∀v' H',Same H H'->Rep H' (bp ns t) v'->Q v' H')
theorem zI2 (F:Fun K "bound_piece" "bound_piece" zCQ f fd):FnOk P w K mg base CX0 (k+1) f fd ["piece"] zFr:=by
 refine F.ok zBe 69 58
 ·obtain⟨t,p,nt,u,ns,rfl,_⟩:=h
  rfl
 obtain⟨t,p,nt,u,ns,rfl,hp,hn,hR,q⟩:=h
 refine⟨_,(zAE (pS (i:=1) zBe.nd 57)
  (zAE (zAj PassesOwn.never rfl (zB1 57) (pGn (i:=2) zBe.nd) (zAH (pS (i:=1) zBe.nd (zAk (zAA zAP (zAA (pv 2) (zAA (zAk (zAA zAP (zAA zAG zAD)):PE _ _ _) (zAA 81 zAD)))):PE _ _ _))))
  (zAH (zAU 81)))),?_⟩
 refine⟨_,rfl,p,_,1,_,rfl,rfl,SqT.of hp,rfl,?_⟩;refine⟨_,rfl,p,_,0,_,rfl,rfl,SqT.of hp,rfl,nt,rfl,⟨_,SqT.of hn⟩,?_⟩;refine zB9 (xs:=ns.map V.str) (λ i σ' H'=>E2 λ(v':V) (s2:Option V)=>A3 (σ'=[some (.ref p),some v',s2]) (Same H H') (Rep H' (bp (ns.take i) t) v')) ⟨u,none,rfl,.refl _,hR⟩ ?_ ?_ ?_
 ·rintro i σ' H' _ ⟨v',s2,rfl,g,r⟩
  exact SqT.of (g _ _ hn)
 ·rintro i x σ' H' hx ⟨v',s2,rfl,g,r⟩
  rw[mH] at hx;obtain⟨y,ey,rfl⟩:=lU.mp hx;refine⟨_,rfl,(by show 2<=sizeLine;decide),λ c hc=>⟨_,rfl,(by show 4<=sizeLine;decide),λ c2 hc2=>?_⟩⟩;have k1:=zAC (o:=.tup [.str "num", .int 0]) hc;have k2:=zAC (o:=.tup [.str "let", .str y,.ref c,v']) hc2;refine⟨_,_,rfl,g.trans (k1.trans k2),?_⟩;rw[zAT ey];unfold bp;rw[List.foldl_append];exact⟨c2,.ref c,v',rfl,zAB,⟨c,rfl,k2 _ _ zAB⟩,r.mono (k1.trans k2).tk⟩
 ·rintro σ' H' ⟨v',s2,rfl,g,r⟩
  rw[lC,mM] at r;exact⟨_,rfl,q v' H' g r⟩
def zHA:Sp:=λ vs H Q Ω=>E5 λ(d:Addr) (g:Str) (v:V) (φ:List (Str × (List Str × Tr))) (kvs:List (Key × V))=>A5 (vs=[.ref d,.str g,v]) (H d=some 92) (FlG (PcR H) φ kvs) (φ.length<=300) ((v = .non/\Q (.bl false) H)\/∃(ns:List Str) (t:Tr),PcR H (ns,t) v/\ngT t/\t.size<=300/\ns.length<=100/\(∀q,(g,q)∈φ->q.1.length=ns.length/\ngT q.2/\q.2.size<=300) /\
 (∀q z H',(g,q)∈φ->Same H H'->(z=true↔blT (kapN ns) 0 t=blT (kapN q.1) 0 q.2)->Q (.bl z) H')/\((∀u,(g,u)∉φ)->FlG (PcR H) (φ++[(g,(ns,t))]) (putK kvs (Sum.inr g) v)->Q (.bl true) (upd H d (.dK (putK kvs (Sum.inr g) v)))))
theorem zKT (F:Fun K "takes_piece" "takes_piece" zCK f fd) (zNS:FnB P w K mg base k "alike" g1 gd1 ["one", "other"] zHG) (zNT:FnB P w K mg base k "bound_piece" g2 gd2 ["piece"] zFr):FnOk P w K mg base CX0 (k+1) f fd ["filling", "gap", "piece"] zHA:=by
 refine F.ok zEo 69 58
 ·obtain⟨d,g,v,φ,kvs,rfl,_⟩:=h
  rfl
 obtain⟨d,g,v,φ,kvs,rfl,hd,hF,lφ,h⟩:=h;have hu:=hu_of hr;have lk:kvs.length=φ.length:=by have:=hF.pr.length;lia
 refine⟨_,(zAE (ps_if (zAJ zLI (pv 2) zD3 82) (zAH (zAU pe_bl)) zAK)
  (zAE (ps_if (zAJ (zIt hu) 81 (pv 0) rfl) (zAH (zAU (pe_cl zNS hr (zAA (pe_cl zNT hr (zAA (zBb hu (pv 0) 81 73) zAD)) (zAA (pe_cl zNT hr 87) zAD))))) zAK)
  (zAE (zBF hu (pv 0) 81 (pv 2) rfl)
  (zAH (zAU pe_bl))))),?_⟩
 rcases h with ⟨rfl,q0⟩|⟨ns,t,hp,hg,hz,hl,hsm,q1,q2⟩
 ·exact⟨_,rfl,rfl,_,rfl,iteY rfl q0⟩
 have hp0:=hp;obtain⟨p,nt,u,rfl,e1,e2,ru⟩:=hp;refine⟨_,rfl,rfl,_,rfl,iteN (λ z=>nomatch z) ?_⟩
 refine⟨_,rfl,_,rfl,d,_,rfl,DGet.k (k:=Sum.inr g) hd,_,rfl,ite2 77 77⟩
 ·cases ev:valV kvs (Sum.inr g:Key) with
  |none=>rw[ev] at c;cases c
  |some v0 =>
   obtain⟨q0,m0,hp00⟩:=zJg hF.pr ev;obtain⟨p0,nt0,u0,rfl,f1,f2,r0⟩:=hp00;obtain⟨s1,s2,s3⟩:=hsm q0 m0;refine⟨_,rfl,_,rfl,d,.ref p0,rfl,?_,?_⟩
   ·have:=DGet.k (H:=H) (k:=Sum.inr g) hd
    rw[ev] at this;exact this
   refine⟨q0.2,p0,nt0,u0,q0.1,rfl,f1,f2,r0,λ w1 H1 g1 b1=>⟨_,rfl,t,p,nt,u,ns,rfl,g1 _ _ e1,g1 _ _ e2,ru.mono g1.tk,λ w2 H2 g2 b2=>?_⟩⟩;refine⟨bp q0.1 q0.2,bp ns t,w1,w2,rfl,b1.mono g2.tk,b2,?_,λ H3 g3=>?_⟩
   ·rw[zJz,zHI,List.length_reverse];lia
   refine q1 q0 _ H3 m0 (g1.trans (g2.trans g3)) ?_;rw[decide_eq_true_iff,zK5 s1 s2];exact⟨Eq.symm,Eq.symm⟩
 ·have ev:valV kvs (Sum.inr g:Key)=none:=by
   cases ev:valV kvs (Sum.inr g:Key) with
   |none=>rfl
   |some v0=>rw[ev] at c;exact absurd rfl c
  refine⟨_,rfl,_,rfl,_,rfl,d,_,rfl,DPut.k (k:=Sum.inr g) hd (zAO 65),?_⟩;exact q2 (zHa hF.pr ev) (hF.put ev hp0)
def zFp:Sp:=λ vs H Q Ω=>E7 λ(t u:Tr) (v1 v2:V) (i:Int) (b:Addr) (ps:List (Str × Str))=>A7 (vs=[v1,v2,.int i,.ref b]) (Rep H t v1) (Rep H u v2) (t.kd=u.kd) (FzP H ps b) (ps.length<=900) (∀p H',Same H H'->FzP H' (pIn t u i ps) p->Q (.ref p) H')
theorem zIy (F:Fun K "pairs_in" "pairs_in" zCs f fd):FnOk P w K mg base CX0 (k+1) f fd ["one", "other", "number", "pairs"] zFp:=by
 refine F.ok zEK 69 58
 ·obtain⟨t,u,v1,v2,i,b,ps,rfl,_⟩:=h
  rfl
 obtain⟨t,u,v1,v2,i,b,ps,rfl,hR,hS,hk,hb,hlen,q⟩:=h
 refine⟨_,(zAE (ps_if (zBk (zAJ op_eq 57 zAP 82) (zBE (zAJ op_eq (pv 2) zAG 82))).pt (zAH (zAU (pe_op zLt (pv 3) (zFP (zAA (zAk (zAA 57 (zAA (iC (r:=rIxT K) zAN 81) zAD)):PE _ _ _) zAD))))) zAK)
  (zAH (zAU (pv 3)))),?_⟩
 obtain⟨a,hs,us,rfl,ha,hl,hp⟩:=hR.all;have h0:atI (V.str t.kd.s::hs++us) 0=some (.str t.kd.s):=zAc (j:=0) rfl;refine⟨_,rfl,a,_,0,_,rfl,rfl,SqT.of ha,h0,rfl,_,rfl,?_⟩;refine ite2 77 77
 ·have z:t.kd = .lett:=Kd.eq_iff.mp (lS c)
  refine⟨_,rfl,rfl,_,rfl,?_⟩;rw[z] at hk;obtain⟨x,t1,t2,rfl⟩:=kdS z;obtain⟨y,u1,u2,rfl⟩:=kdS hk.symm;obtain⟨c1,x1,w1,e1,k1,_⟩:=hR;obtain⟨c2,x2,w2,e2,k2,_⟩:=hS;cases e1;subst e2;refine ite2 (λ d=>?_) (λ d=>?_)
  ·have d':i=1:=V.int.inj (lS d)
   subst d';obtain⟨o,vs,hb1,ho,hb2⟩:=hb;have lvs:=hb2.length;refine⟨_,rfl,_,rfl,a,_,1,_,rfl,rfl,SqT.of k1,rfl,_,rfl,c2,_,1,_,rfl,rfl,SqT.of k2,rfl,(by show 2<=sizeLine;decide),λ p hpn=>⟨(by show 1<=sizeLine;decide),λ p2 o2 hp2 ho2=>?_⟩⟩;have g1:=zAC (o:=.tup [.str x,.str y]) hpn;have g2:=zAC (o:=.frz o2 (.tup [.ref p])) hp2;have g12:=g1.trans g2;refine⟨b,p2,o,o2,_,[.ref p],rfl,rfl,g12 _ _ hb1,ho,zAB,ho2,(λ z=>nomatch z),zAw (by show vs.length+1<=1000;lia),λ r o3 H' g ho3 e=>?_⟩
   refine q r H' (g12.trans g) ⟨o3,_,e,ho3,?_⟩;show Paired (PrRep H') (if (1:Int)=1 then ps++[(x,y)] else ps) _;rw[if_pos rfl];exact zAv (Paired.mapP hb2 λ Ω Ω z=>z.mono (g12.trans g).tk) (.cons ⟨p,rfl,g _ _ (g2 _ _ zAB)⟩ .nil)
  ·have d':¬i=1:=λ z=>d (by rw[z];exact lT rfl)
   refine⟨_,rfl,q b H (.refl H) ?_⟩;show FzP H (if i=1 then ps++[(x,y)] else ps) b;rw[if_neg d'];exact hb
 ·refine iteF ?_
  refine⟨_,rfl,q b H (.refl H) ?_⟩
  have e:pIn t u i ps=ps:=by
   cases t with
   |lett x s t=>exact absurd rfl c
   |_=>rfl
  rw[e];exact hb
abbrev s_fit:Stmt:=top 33
theorem zCa:zAV ["rule", "tree", "kinds", "wanted", "filling", "level", "deeper", "shape", "part", "pairs", "number", "both"] ["rule", "tree", "kinds"] (zAM s_fit):=scI
def zLC:Sp:=λ vs H Q Ω=>E10 λ(r ka:Addr) (lv rv tv:V) (s t:Tr) (kds:List (Str × Str)) (cnt:Str->Nat) (W:List Str)=>A14 (vs=[.ref r,tv,.non]) (H r=some (.tup [lv,rv,.ref ka])) (KdsAt H ka kds) (kds.length<=300) (∀g,KdV (wKd kds g)) (Rep H s lv) (s.size<=200) (Rep H t tv) (Pok3 cnt W (s,t,[])) (∀g,cnt g<=100) (W.length<64) (∀x∈W,GW x) (Jn3 (wKd kds) [(s,t,[])] []->∀d kvs φ H',Same H H'->H' d=some 92->FlG (PcR H') φ kvs->(∀q∈φ,FOk cnt W q)->(∀g e,Oc3 (s,t,[]) g e↔(g,e)∈φ.map duP)->Q (.ref d) H') (¬Jn3 (wKd kds) [(s,t,[])] []->∀H',Same H H'->Q .non H')
theorem zMj (F:FunD K "fit" "fit" s_fit f fd [.none]) (z_dict:mg "dict" = none) (z_enumerate:mg "enumerate" = none) (z_zip:mg "zip" = none)
  (zNU:FnB P w K mg base k "is_of_kind" g1 gd1 ["tree", "kind", "kinds"] (zFq K)) (zNV:FnB P w K mg base k "piece_of" g2 gd2 ["gap", "tree", "pairs"] zLA) (zNW:FnB P w K mg base k "takes_piece" g3 gd3 ["filling", "gap", "piece"] zHA)
  (zNG:FnB P w K mg base k "alike_heads" g4 gd4 ["one", "other", "pairs"] zB5) (zM6:FnB P w K mg base k "parts" g5 gd5 ["tree"] zDS) (zNH:FnB P w K mg base k "pairs_in" g6 gd6 ["one", "other", "number", "pairs"] zFp):FnOk P w K mg base CX0 (k+1) f fd ["rule", "tree", "kinds"] zLC:=by
 refine F.ok zCa 69 58
 ·obtain⟨r,ka,lv,rv,tv,s,t,kds,cnt,W,rfl,_⟩:=h
  rfl
 obtain⟨r,ka,lv,rv,tv,sh,tr,kds,cnt,W,rfl,hr0,⟨ok,ys,hka,hod,pk⟩,lkd,hkv,rl,hsz,rt,hpk,hcn,hW,hWg,qy,qn⟩:=h;have hu:=hu_of hr
 refine⟨_,(zAE (pS (i:=3) zCa.nd (zBK (zDu rfl) 84 z_dict rH (zAA 57 zAD)))
  (zAE (pS (i:=4) zCa.nd zBL)
  (zAE (pS (i:=5) zCa.nd (zBA (zAA (zAk (zAA 57 (zAA 81 (zAA (zFP zAD) zAD))):PE _ _ _) zAD):PE _ _ _))
  (zAE (zC4 PassesOwn.never (zB0 (pv 5) (λ Ω=>rfl)) (zAE (pS (i:=6) zCa.nd (zBA zAD:PE _ _ _))
  (zAE (zAj PassesOwn.never rfl (zBi (pv 5)) (zB2 rfl (zAa (pGn (i:=7) zCa.nd) (zAa (pGn (i:=8) zCa.nd) (zAa (pGn (i:=9) zCa.nd) zBV)))) (zAH (ps_if (zAJ op_eq (iC (r:=rIxT K) zAN (pv 7)) zAP 82) (zAE (ps_if (zBS (zAp (pe_cl zNU hr (zAA (pv 8) (zAA (zEA hu (pv 3) (iC (r:=rIxT K) zAN (pv 7)) ⟨rfl,rfl,rfl,rfl⟩) (zAA (zLG (pv 2) (zD2 (zFP zAD))) zAD)))))) (zAH (zAU zD3)) zAK)
  (zAH (ps_if (zBS (zAp (pe_cl zNW hr (zAA (pv 4) (zAA (iC (r:=rIxT K) zAN (pv 7)) (zAA (pe_cl zNV hr (zAA (pv 7) (zAA (pv 8) (zAA (pv 9) zAD)))) zAD)))))) (zAH (zAU zD3)) zAK))) (zAH (ps_if (zBS (zAp (pe_cl zNG hr (zAA (pv 7) (zAA (pv 8) (zAA (pv 9) zAD)))))) (zAH (zAU zD3)) (zAH (zAj PassesOwn.never rfl (zE6 84 z_enumerate 84 z_zip (zAA (pe_cl zM6 hr (zAA (pv 7) zAD)) (zAA (pe_cl zM6 hr (zAA (pv 8) zAD)) zAD))) (zB2 rfl (zAa (pGn (i:=10) zCa.nd) (zAa (pGn (i:=11) zCa.nd) zBV))) (zAH (pAp (pv 6) (zAk (zAA (iC (r:=rIxT K) zAN (pv 11)) (zAA (iC (r:=rIxT K) zAN (pv 11)) (zAA (pe_cl zNH hr (zAA (pv 7) (zAA (pv 8) (zAA (pv 10) (zAA (pv 9) zAD))))) zAD))):PE _ _ _))))))))))
  (zAH (pS (i:=5) zCa.nd (pv 6))))))
  (zAH (zAU (pv 4))))))),?_⟩
 refine⟨_,rfl,r,_,2,_,rfl,rfl,SqT.of hr0,rfl,ka,ok,ys,kdV kds,rfl,hka,hod,pk,by unfold kdV;rw[lC];lia,λ wd hwd=>?_⟩;have gA:=zAC (o:=.dK (zA5 [] (kdV kds))) hwd;have ewd:=@zAB H wd (.dK (zA5 [] (kdV kds)));dsimp only[gName];generalize upd H wd _=Ha at gA ewd ⊢;refine λ d hd=>?_;have gB:=zAC (o:=.dK []) hd;have ed:=@zAB Ha d (.dK []);have hdH:H d=none:=gA.free hd;have nwd:wd≠d:=λ z=>by rw[z,hd] at ewd;cases ewd
 dsimp only[gName];generalize upd Ha d _=Hb at gB ed ⊢;have gAB:=gA.trans gB;have ewd2:=gB _ _ ewd;refine⟨_,rfl,r,_,0,_,rfl,rfl,SqT.of (gAB _ _ hr0),rfl,_,rfl,lX _,λ b ob hb hob=>?_⟩;have gC:=zAC (o:=.frz ob (.tup [])) hb;have nb:FzP (upd Hb b (.frz ob (.tup []))) [] b:=⟨ob,[],zAB,hob,.nil⟩;have ed0:=gC _ _ ed;have ewd0:=gC _ _ ewd2;have gH0:=gAB.trans gC;generalize upd Hb b _=H0 at gC nb ed0 ewd0 gH0 ⊢;clear gA gB gC gAB ewd ewd2 ed hd hwd;have outH:∀H',SbD d H0 H'->Same H H':=λ H' sb c u e=>sb c u (zAL e hdH) (gH0 c u e);refine⟨(by show 3<=sizeLine;decide),λ pr hpr=>⟨(by show 1<=sizeLine;decide),λ l hl=>?_⟩⟩;have g3:=zAC (o:=.tup [lv,tv,.ref b]) hpr;have g4:=zAC (o:=.lst [.ref pr]) hl;have g34:=g3.trans g4;have hlH:H0 l=none:=g3.free hl;have gall:=gH0.trans g34
 refine⟨(λ m σ' H'=>E11 λ(l:Addr) (ps:List V) (lev:List Trip) (kvs:List (Key × V)) (φ:List (Str × (List Str × Tr))) (s6 s7 s8 s9 s10 s11:Option V)=>A13 (σ'=[some (.ref r),some tv,some .non,some (.ref wd),some (.ref d),some (.ref l),s6,s7,s8,s9,s10,s11]) (SbD d H0 H') (H0 l=none) (H' l=some (.lst ps)) (Paired (TripF H') lev ps) (m=tot2 lev) (∀q∈lev,Pok3 cnt W q) (H' d=some 92) (FlG (PcR H') φ kvs) (∀q∈φ,FOk cnt W q) (φ.length+tot2 lev<=200) (Jn3 (wKd kds) [(sh,tr,[])] []↔Jn3 (wKd kds) lev (φ.map duP)) (∀g e,Oc3 (sh,tr,[]) g e↔OcP lev (φ.map duP) g e)),
  ⟨tot2 [(sh,tr,[])],l,_,[(sh,tr,[])],[],[],none,none,none,none,none,none,rfl,g34.sd,hlH,zAB,.cons ⟨pr,lv,tv,b,rfl,g4 _ _ zAB,rl.mono gall.tk,rt.mono gall.tk,nb.same g34⟩ .nil,rfl,by simpa using hpk,g34 _ _ ed0,⟨.nil,List.nodup_nil⟩,(λ p hp=>nomatch hp),by simp[tot2];lia,Iff.rfl,λ g e=>by simp[OcP]⟩,?_⟩
 clear g3 g4 g34 gall hpr hlH;rintro m σ' Hw ⟨l,ps,lev,kvs,φ,s6,s7,s8,s9,s10,s11,rfl,sw,hl,el,hp,rfl,hlg,ekw,fdw,fow,lSw,cov,ocv⟩;have nld:l≠d:=λ z=>by rw[z,ed0] at hl;cases hl
 refine⟨_,rfl,_,.inl ⟨ps,SqL.of el,rfl⟩,?_⟩;refine ite2 77 77
 ·refine⟨_,λ Ω Ω h=>h,(by show 0<=sizeLine;decide),λ dp hdp=>⟨_,rfl,l,rfl,⟨ps,SqL.of (zAC hdp _ _ el)⟩,?_⟩⟩
  have gd:=zAC (o:=.lst []) hdp
  have hdpH:H0 dp=none:=by
   cases e:H0 dp with
   |none=>rfl
   |some o =>
    by_cases z:dp=d
    ·rw[z,ekw] at hdp;cases hdp
    ·rw[sw _ _ z e] at hdp;cases hdp
  have ndl:dp≠l:=Ne.symm (zAL el hdp);have ndd:dp≠d:=λ z=>by rw[z,ekw] at hdp;cases hdp
  refine zBo (xs:=ps) (λ i σ' H'=>E8 λ(dps:List V) (kvs:List (Key × V)) (φ:List (Str × (List Str × Tr))) (s7 s8 s9 s10 s11:Option V)=>A14 (σ'=[some (.ref r),some tv,some .non,some (.ref wd),some (.ref d),some (.ref l),some (.ref dp),s7,s8,s9,s10,s11]) (SbD d H0 H') (Kf Hw H') (H' l=some (.lst ps)) (H' dp=some (.lst dps)) (Paired (TripF H') ((lev.take i).flatMap kid3) dps) (H' d=some 92) (FlG (PcR H') φ kvs) (∀q∈φ,FOk cnt W q) (φ.length+tot2 (lev.drop i)+tot2 ((lev.take i).flatMap kid3)<=200) (∀q∈(lev.take i).flatMap kid3,Pok3 cnt W q) (tot2 ((lev.take i).flatMap kid3)+i+tot2 (lev.drop i)<=tot2 lev) (Jn3 (wKd kds) [(sh,tr,[])] []↔Jn3 (wKd kds) (lev.drop i++(lev.take i).flatMap kid3) (φ.map duP)) (∀g e,Oc3 (sh,tr,[]) g e↔OcP (lev.drop i++(lev.take i).flatMap kid3) (φ.map duP) g e)) ?_ ?_ ?_ ?_
  ·exact⟨[],kvs,φ,s7,s8,s9,s10,s11,rfl,sw.trans gd.sd,gd.kf,gd _ _ el,zAB,.nil,gd _ _ ekw,fdw.imp (λ Ω Ω z=>z.mono gd.tk),fow,by simpa[tot2] using lSw,by simp,by simp[tot2],by simpa using cov,by simpa using ocv⟩
  ·rintro i σ1 H1 _ ⟨dps,kv1,φ1,s7,s8,s9,s10,s11,rfl,sb1,k1,el1,_⟩
   exact SqL.of el1
  ·rintro i x σ1 H1 hx ⟨dps,kv1,φ1,s7,s8,s9,s10,s11,rfl,sb1,k1,el1,edp1,hp1,ek1,fd1,fo1,lS1,pk1,ms1,cov1,ocv1⟩
   obtain⟨⟨sq,tq,pq⟩,eq,rq⟩:=zAW hp hx;have hmem:(sq,tq,pq)∈lev:=lK eq;have hlq:=hlg _ hmem;obtain⟨lo,pnd,pgw,png,pgd,psz,pdp⟩:=id hlq;dsimp only at lo pnd pgw png pgd psz pdp;obtain⟨a,u1,w1,b1,rfl,ha,ru,rw1,hb1⟩:=rq.mono k1;obtain⟨hil,eil⟩:=lI.mp eq;have hdr:lev.drop i=(sq,tq,pq)::lev.drop (i+1):=by rw[List.drop_eq_getElem_cons hil,eil]
   have htk:(lev.take (i+1)).flatMap kid3=(lev.take i).flatMap kid3++kid3 (sq,tq,pq):=by rw[zAT eq,nH];simp
   rw[hdr] at lS1 cov1 ms1 ocv1;rw[zBt] at lS1 ms1;dsimp only at lS1 ms1 ru rw1 hb1;have ewd1:=sb1 _ _ nwd ewd0;have out1:=outH H1 sb1;refine⟨a,_,rfl,SqT.of ha,rfl,_,_,rfl,_,_,rfl,_,_,rfl,rfl,?_⟩;have ru0:Rep H1 sq u1:=ru;obtain⟨a0,hs0,us0,e0,ha0,hl0,hp0⟩:=ru0.all;have at0:atI (V.str sq.kd.s::hs0++us0) 0=some (.str sq.kd.s):=zAc (j:=0) rfl;subst e0;refine⟨_,rfl,a0,_,0,_,rfl,rfl,SqT.of ha0,at0,rfl,_,rfl,ite2 (λ cg=>?_) (λ cg=>?_)⟩
   ·have z:sq.kd = .gap:=Kd.eq_iff.mp (lS cg)
    obtain⟨g,as0,rfl⟩:=kdS (k:=.gap) z;obtain⟨as,rfl,asnd,asin,asl⟩:=lo;obtain⟨a',b',us2,e',ha',hb',hl2,pas⟩:=id ru0;cases e';have kz:kid3 (.gap g (as.map Atom.name),tq,pq)=[]:=if_pos rfl;rw[kz,nN] at htk;have gsz:(Tr.gap g (as.map Atom.name)).size=1:=rfl;have wW:∀x∈tq.wrds,x∈W:=zBW pgd;have hcg:=hcn g;refine⟨_,rfl,_,rfl,wd,rfl,.inl ⟨_,.inl ewd1⟩,_,rfl,a0,_,1,_,rfl,rfl,SqT.of ha',rfl,_,DGet.k (k:=Sum.inr g) ewd1,_,rfl,false,rfl,iteF ⟨lX _,λ b2 o2 hb2 ho2=>?_⟩⟩;have g2:=zAC (o:=.frz o2 (.tup [])) hb2;have n2:SqT K (upd H1 b2 (.frz o2 (.tup []))) b2 []:=.inl (.inr ⟨o2,zAB⟩);generalize upd H1 b2 _=H2 at g2 n2 ⊢;refine⟨tq,w1,_,b2,rfl,rw1.mono g2.tk,psz,zDB png,hkv g,n2,λ z3 H3 g3 hz3=>⟨z3,rfl,?_⟩⟩;have g13:=g2.trans g3;cases z3 with
    |false=>exact iteT (qn (λ hf=>zJR (λ y=>nomatch hz3.mpr y.1) (cov1.mp hf)) H3 (out1.trans g13))
    |true =>
     have hok:OfK (wKd kds g) tq:=hz3.mp rfl;refine iteF ?_;refine⟨_,rfl,_,rfl,a0,_,1,_,rfl,rfl,SqT.of (g13 _ _ ha'),rfl,_,rfl,_,rfl,_,rfl,tq,g,.ref a0,w1,b1,as,W,W,pq,rfl,ru0.mono g13.tk,rw1.mono g13.tk,by lia,by lia,wW,hW,λ x hx=>wW x (zB8 tq x hx),by lia,asnd,hb1.same g13,by lia,pnd,asin,λ p hp=>hWg _ (pgw p hp),λ H4 g4 hno=>?_,λ p nt ns H4 g4 e4 e4n hno pn gns=>?_⟩
     ·have g14:=g13.trans g4
      exact⟨d,g,.non,φ1,kv1,rfl,g14 _ _ ek1,fd1.imp (λ Ω Ω z=>z.mono g14.tk),by lia,.inl ⟨rfl,false,rfl,iteT (qn (λ hf=>zJR (λ y=>hno y.2) (cov1.mp hf)) H4 (out1.trans g14))⟩⟩
     have g14:=g13.trans g4;have hdu:blT (kapN ns) 0 tq=dueO as pq tq:=zMY pn hno;have lns:ns.length=cnt g:=pn.len.trans asl;have hokG:OkG (wKd kds) g as tq pq:=⟨hok,hno⟩;refine⟨d,g,.ref p,φ1,kv1,rfl,g14 _ _ ek1,fd1.imp (λ Ω Ω z=>z.mono g14.tk),by lia,.inr ⟨ns,tq,⟨p,nt,w1,rfl,e4,e4n,rw1.mono g14.tk⟩,png,psz,by lia,λ q hq=>⟨(fo1 _ hq).ln.trans lns.symm,(fo1 _ hq).ng,(fo1 _ hq).sz⟩,λ q z5 H5 mu g5 hz5=>⟨z5,rfl,?_⟩,λ hno5 hF5=>⟨true,rfl,iteF ?_⟩⟩⟩
     ·have g15:=g14.trans g5
      rw[hdu] at hz5;have mu':(g,blT (kapN q.1) 0 q.2)∈φ1.map duP:=mB.mpr ⟨_,mu,rfl⟩;cases z5 with
      |false=>exact iteT (qn (λ hf=>zF8 mu' (λ y=>nomatch hz5.mpr y) (cov1.mp hf)) H5 (out1.trans g15))
      |true =>
       have hb5:=hz5.mp rfl;rw[←hb5] at mu';refine iteF ?_;refine⟨dps,kv1,φ1,_,_,_,_,_,rfl,sb1.trans g15.sd,k1.trans g15.kf,g15 _ _ el1,g15 _ _ edp1,?_,g15 _ _ ek1,fd1.imp (λ Ω Ω z=>z.mono g15.tk),fo1,?_,?_,?_,?_,?_⟩
       ·rw[htk];exact Paired.mapP hp1 λ Ω Ω z=>z.mono g15.kf
       ·rw[htk];lia
       ·rw[htk];exact pk1
       ·rw[htk];lia
       ·rw[htk]
        refine cov1.trans (zJS hokG (λ e he=>?_) (λ Ω h=>h) (λ Ω h=>.inl h) mu');obtain⟨q',hq',eq'⟩:=mB.mp he;have:q'.1=g:=congrArg Prod.fst eq';have e2:q'.2=q:=zGl fd1.nd (this▸hq':(g,q'.2)∈φ1) mu;have e3:blT (kapN q'.2.1) 0 q'.2.2=e:=congrArg Prod.snd eq';rw[hb5,←e3,e2]
       ·rw[htk]
        exact λ g' e=>(ocv1 g' e).trans (zGj (λ Ω h=>h) (λ Ω h=>.inl h) mu' g' e)
     ·have sb5:SbD d H4 (upd H4 d (.dK (putK kv1 (Sum.inr g) (.ref p)))):=SbD.set _
      have tk5:=sb5.kf (g14 _ _ ek1);have sb15:=g14.sd.trans sb5;have em:(φ1++[(g,(ns,tq))]).map duP=φ1.map duP++[(g,dueO as pq tq)]:=by rw[mN];show _++[(g,blT (kapN ns) 0 tq)]=_;rw[hdu]
      refine⟨dps,_,φ1++[(g,(ns,tq))],_,_,_,_,_,rfl,sb1.trans sb15,k1.trans (g14.kf.trans tk5),sb15 _ _ nld el1,sb15 _ _ ndd edp1,?_,zAB,hF5.imp (λ Ω Ω z=>z.mono tk5.1),?_,?_,?_,?_,?_,?_⟩
      ·rw[htk];exact Paired.mapP hp1 λ Ω Ω z=>z.mono (g14.kf.trans tk5)
      ·intro q hq
       rcases lJ.mp hq with h|h
       ·exact fo1 q h
       ·rw[mO.mp h]
        exact⟨lns,pn.nd,gns,png,pgd,psz⟩
      ·rw[htk,mI,List.length_singleton];lia
      ·rw[htk];exact pk1
      ·rw[htk];lia
      ·rw[htk,em]
       refine cov1.trans (zJS hokG (λ e he=>?_) (λ Ω h=>mE _ h) (λ q hq=>(lJ.mp hq).imp id λ z=>mO.mp z) (lZ _ lO));obtain⟨q',hq',eq'⟩:=mB.mp he;have:q'.1=g:=congrArg Prod.fst eq';exact absurd (this▸hq':(g,q'.2)∈φ1) (hno5 _)
      ·rw[htk,em]
       exact λ g' e=>(ocv1 g' e).trans (zGj (λ Ω h=>mE _ h) (λ q hq=>(lJ.mp hq).imp id λ z=>mO.mp z) (lZ _ lO) g' e)
   ·have z:¬sq.kd = .gap:=λ z=>cg (lT (by rw[z];rfl))
    have kz:kid3 (sq,tq,pq)=kids2 sq tq pq:=if_neg z;rw[kz] at htk;refine⟨_,rfl,_,rfl,_,rfl,sq,tq,.ref a0,w1,b1,pq,rfl,ru0,rw1,hb1.w,λ H2 g2=>⟨_,rfl,?_⟩⟩;cases hz3:hdA sq tq pq with
    |false=>exact iteT (qn (λ hf=>zHW z (λ y=>by rw[hz3] at y;cases y) (cov1.mp hf)) H2 (out1.trans g2))
    |true =>
    have hk:sq.kd=tq.kd:=by unfold hdA at hz3;rw[Bool.and_eq_true] at hz3;exact lS hz3.1
    have hsz2:=zEd (ps:=pq) hk;refine iteF ?_;refine⟨_,rfl,sq,.ref a0,rfl,ru0.mono g2.tk,λ pt H3 us g3 e3 hus=>⟨_,rfl,tq,w1,rfl,rw1.mono (g2.trans g3).tk,λ pt2 H4 us2 g4 e4 hus2=>⟨pt,pt2,us,us2,rfl,g4 _ _ e3,e4,?_⟩⟩⟩;have g24:=g2.trans (g3.trans g4);have lus:=hus.length;have lus2:=hus2.length;have ru4:=ru0.mono g24.tk;have rw4:=rw1.mono g24.tk;have hb4:=hb1.same g24;refine zLQ (xs:=us) (ys:=us2) (λ j σ' H'=>E3 λ(dps':List V) (s10 s11:Option V)=>A7 (σ'=[some (.ref r),some tv,some .non,some (.ref wd),some (.ref d),some (.ref l),some (.ref dp),some (.ref a0),some w1,some (.ref b1),s10,s11]) (SbD d H0 H') (Kf H4 H') (H' l=some (.lst ps)) (H' dp=some (.lst dps')) (Paired (TripF H') (((lev.take i).flatMap kid3)++(kids2 sq tq pq).take j) dps') (H' d=some (.dK kv1))) ?_ ?_ ?_ ?_
    ·exact⟨dps,s10,s11,rfl,sb1.trans g24.sd,.refl _,g24 _ _ el1,g24 _ _ edp1,by
      rw[List.take_zero,nN];exact Paired.mapP hp1 λ Ω Ω z=>z.mono g24.kf,g24 _ _ ek1⟩
    ·rintro j σ3 H5 _ ⟨dps5,s10,s11,rfl,sb5,k5,el5,edp5,hp5,ek5⟩
     exact⟨k5.1 _ _ (g4 _ _ e3),k5.1 _ _ e4⟩
    ·rintro j x y T U σ3 H5 hx hy ⟨dps5,s10,s11,rfl,sb5,k5,el5,edp5,hp5,ek5⟩ hU hT
     have gU:=zAC (o:=.tup [x,y]) hU;have gT:=zAC (o:=.tup [.int j,.ref U]) hT;have gUT:=gU.trans gT;obtain⟨cx,ecx,rcx⟩:=zAW hus hx;obtain⟨cy,ecy,rcy⟩:=zAW hus2 hy;have ez:=zF7 (ps:=pq) hk ecx ecy;have hj:j<us.length:=(lI.mp hx).1;refine⟨T,_,rfl,SqT.of zAB,rfl,_,_,rfl,_,_,rfl,rfl,?_⟩;have edp6:=gUT _ _ edp5;have hU6:(upd (upd H5 U (.tup [x,y])) T (.tup [.int j,.ref U])) U=some (.tup [x,y]):=gT _ _ zAB;have k6:=k5.trans gUT.kf;have sb6:=sb5.trans gUT.sd;have el6:=gUT _ _ el5;have ek6:=gUT _ _ ek5;have hp6:Paired (TripF (upd (upd H5 U (.tup [x,y])) T (.tup [.int j,.ref U]))) (((lev.take i).flatMap kid3)++(kids2 sq tq pq).take j) dps5:=Paired.mapP hp5 λ Ω Ω z=>z.mono gUT.kf;generalize upd (upd H5 U _) T _=H6 at edp6 hU6 k6 sb6 el6 ek6 hp6 ⊢;refine⟨_,rfl,.inl ⟨rfl,_,SqL.of edp6⟩,_,rfl,U,_,0,_,rfl,rfl,SqT.of hU6,rfl,_,rfl,U,_,1,_,rfl,rfl,SqT.of hU6,rfl,_,rfl,_,rfl,_,rfl,_,rfl,sq,tq,.ref a0,w1,j,b1,pq,rfl,ru4.mono k6.1,rw4.mono k6.1,hk,hb4.mono k6,by lia,λ bq H7 g7 hbq=>⟨(by show 3<=sizeLine;decide),λ pr hpr=>?_⟩⟩;have gq:=g7.trans (zAC (o:=.tup [x,y,.ref bq]) hpr);have edp7:=gq _ _ edp6;have epr:=@zAB H7 pr (.tup [x,y,.ref bq]);have hbq8:=hbq.same (zAC (o:=.tup [x,y,.ref bq]) hpr);generalize upd H7 pr _=H8 at gq edp7 epr hbq8 ⊢
     have tot:dps5.length<=500:=by
      rw[←hp5.length,mI,mL];have l1:=zG7 ((lev.take i).flatMap kid3);have l5:=zG7 (kids2 sq tq pq)
      lia
     refine⟨dp,_,_,rfl,rfl,edp7,zAO 65,?_⟩;have kset:Kf H8 (upd H8 dp (.lst (dps5++[.ref pr]))):=Kf.lst edp7;have k68:=gq.kf.trans kset;refine⟨_,_,_,rfl,(sb6.trans gq.sd).put hdpH _,k6.trans k68,by rw[zAR (Ne.symm ndl)];exact gq _ _ el6,zAB,?_,by rw[zAR (Ne.symm ndd)];exact gq _ _ ek6⟩;rw[zAT ez,←mV];exact zAv (Paired.mapP hp6 λ Ω Ω z=>z.mono k68) (.cons ⟨pr,x,y,bq,rfl,kset.1 _ _ epr,(rcx.mono g4.tk).mono (k6.trans k68).1,rcy.mono (k6.trans k68).1,hbq8.mono kset⟩ .nil)
    ·rintro σ3 H5 ⟨dps5,s10,s11,rfl,sb5,k5,el5,edp5,hp5,ek5⟩
     have hkl:=zF6 (ps:=pq) hk;have lz:(kids2 sq tq pq).length=min us.length us2.length:=by rw[hkl.1,←lus,←lus2,←hkl.2];simp
     rw[←lz,mM] at hp5;refine⟨dps5,kv1,φ1,_,_,_,s10,s11,rfl,sb5,k1.trans (g24.kf.trans k5),el5,edp5,by rw[htk];exact hp5,ek5,fd1.imp (λ Ω Ω z=>z.mono (g24.kf.trans k5).1),fo1,?_,?_,?_,?_,?_⟩
     ·rw[htk,zBZ];lia
     ·rw[htk]
      intro q hq;rcases lJ.mp hq with h|h
      ·exact pk1 q h
      ·exact hlq.kids hk h
     ·rw[htk,zBZ];lia
     ·rw[htk,←mV]
      exact cov1.trans (jn_in z hz3)
     ·rw[htk,←mV]
      exact λ g' e=>(ocv1 g' e).trans (zF2 z g' e)
  ·rintro σ1 H1 ⟨dps,kv1,φ1,s7,s8,s9,s10,s11,rfl,sb1,k1,el1,edp1,hp1,ek1,fd1,fo1,lS1,pk1,ms1,cov1,ocv1⟩
   have lps:ps.length=lev.length:=zBD hp;rw[lps,List.drop_length,mM,nQ] at cov1 ocv1;rw[lps,mM] at hp1 pk1;rw[lps,mM,List.drop_length] at lS1 ms1
   have hpos:0<lev.length:=by
    rw[←lps];cases ps with
    |nil=>simp at c
    |cons _ _=>simp
   have z0:tot2 []=0:=rfl;refine⟨_,rfl,tot2 (lev.flatMap kid3),by lia,dp,dps,lev.flatMap kid3,kv1,φ1,some (.ref dp),s7,s8,s9,s10,s11,rfl,sb1,hdpH,edp1,hp1,rfl,pk1,ek1,fd1,fo1,by lia,cov1,ocv1⟩
 ·have e0:ps=[]:=by
   cases ps with
   |nil=>rfl
   |cons _ _=>simp at c
  subst e0
  have eL:lev=[]:=by
   cases hp;rfl
  subst eL;refine⟨_,rfl,qy (cov.mpr Jn3.nil) d kvs φ Hw (outH Hw sw) ekw fdw fow λ g e=>(ocv g e).trans ?_⟩;unfold OcP;exact⟨λ h=>h.elim id (λ⟨x,hx,_⟩=>nomatch hx),.inl⟩
abbrev zCP:Stmt:=top 35
theorem zEq:zAV ["_law_script", "_law_k"] ["_law_script", "_law_k"] (zAM zCP):=scI
def zDl (K:W.Frag):Sp:=λ vs H Q Ω=>E3 λ(a:Addr) (ns:List Int) (k:Int)=>A4 (vs=[.ref a,.int k]) (SqL K H a (ns.map V.int)) (0<=k) (Q (.int (ns.getD k.toNat 0)) H)
theorem zH3 (F:Fun K "_law_cell_at" "_law_cell_at" zCP f fd) (z_len:mg "len" = none):FnOk P w K mg base CX0 (k+1) f fd ["_law_script", "_law_k"] (zDl K):=by
 refine F.ok zEq 69 58
 ·obtain⟨a,ns,k,rfl,_⟩:=h
  rfl
 obtain⟨a,ns,k,rfl,hS,h0,q⟩:=h
 refine⟨_,(zAE (ps_if (zAJ op_lt 81 (cL z_len (zAA (pv 0) zAD)) 82) (zAH (zAU (pe_ix (r:=rIxL K) zAd (pv 0) 81 73))) zAK)
  (zAH (zAU zAG))),?_⟩
 refine⟨_,rfl,_,rfl,a,_,rfl,.inl hS,_,_,rfl,rfl,_,rfl,?_⟩;refine ite2 77 77
 ·have c':k<((ns.map V.int).length:Int):=lS c
  rw[lC] at c';have hl:k.toNat<ns.length:=by lia
  have e:((k.toNat:Nat):Int)=k:=by lia
  have at_:=zAc (xs:=ns.map V.int) (j:=k.toNat) (v:=.int ns[k.toNat]) (by simp[hl]);rw[e] at at_;refine⟨_,rfl,_,rfl,a,_,k,_,rfl,rfl,hS,at_,?_⟩;have e2:ns.getD k.toNat 0=ns[k.toNat]:=by rw[List.getD_eq_getElem?_getD,nL hl,Option.getD_some]
  rw[←e2];exact q
 ·have c':¬k<((ns.map V.int).length:Int):=λ z=>c (lT z)
  rw[lC] at c'
  have e2:ns.getD k.toNat 0=0:=by
   rw[List.getD_eq_getElem?_getD,List.getElem?_eq_none 65];rfl
  rw[e2] at q;exact q
abbrev zDI:Stmt:=top 36
theorem zAn:zAV ["_law_cell", "_law_many_here", "_law_letters", "_law_long", "_law_at", "_law_rest", "_law_signs", "_law_k", "_law_words_here", "_law_word"] ["_law_cell", "_law_many_here"] (zAM zDI):=scI
def zG9:Sp:=λ vs H Q Ω=>∃(c:Int),vs=[.int c,.int 12]/\∀(l:Addr) (H':Hp) (ws:List Str),Same H H'->H' l=some (.lst (ws.map V.str))->ws.length=12->ws.Nodup->(∀x∈ws,GW x)->Q (.ref l) H'
theorem zKS (F:Fun K "_law_words" "_law_words" zDI f fd) (z_range:mg "range" = none):FnOk P w K mg base CX0 (k+1) f fd ["_law_cell", "_law_many_here"] zG9:=by
 refine F.ok zAn 69 58
 ·obtain⟨c,rfl,_⟩:=h
  rfl
 obtain⟨c,rfl,q⟩:=h
 refine⟨_,(zAE (zFw (i:=2) zAn.nd rfl (Or.inr rfl) zAP)
  (zAE (pS (i:=3) zAn.nd (pe_op zBl zAG (pe_op zAb (pv 0) zAG)))
  (zAE (pS (i:=4) zAn.nd (pe_op zAb (pe_op zAZ (pv 0) zAG) (pv 3)))
  (zAE (pS (i:=5) zAn.nd (pe_op zAb (pe_op zAZ (pv 0) zAG) (pe_op zEW zAG zAG)))
  (zAE (pS (i:=6) zAn.nd (zBA zAD:PE _ _ _))
  (zAE (zAj PassesOwn.never rfl (zDX 84 z_range (zAA (pv 3) zAD)) (pGn (i:=7) zAn.nd) (zAE (pAp (pv 6) (pe_op zAb (pv 5) zAG))
  (zAH (pS (i:=5) zAn.nd (pe_op zAZ (pv 5) zAG)))))
  (zAE (pS (i:=8) zAn.nd (zBA zAD:PE _ _ _))
  (zAE (zAj PassesOwn.never rfl (zDX 84 z_range (zAA zAG zAD)) (pGn (i:=7) zAn.nd) (zAE (zFx (pe_op zAb (pe_op zBl (pe_ix (r:=rIxL K) zAd (pv 6) (pv 4) 73) zAG) zAG) (zHL (pv 6) (pv 4) zD7))
  (zAE (pS (i:=9) zAn.nd (pe_bm PySem.F.plainAttrs_str PySem.F.slot_str_join PySem.F.type_str_join zL3 zAP (zAA (zDY ["_law_sign", "_law_letters"] [none,some 2] rfl (zBi (pv 6)) (λ Ω Ω Ω Ω Ω=>(zBx (i:=0) (show List.Nodup (["_law_sign", "_law_letters"]:List Str) by right) rfl (Or.inl rfl))) (λ Ω Ω Ω Ω Ω=>zCh) (λ Ω Ω Ω Ω Ω=>(pe_ix zJT 81 (pv 0) 73)) rfl) zAD)))
  (zAH (ps_if (zAJ (r:=rIn K true) zB3 (pv 9) (zFO [.str "let", .str "in", .str "if", .str "then", .str "else", .str "say", .str "ask", .str "stop", .str "where", .str "quiet", .str "number"] 84:PE _ _ _) rfl) (zAH (pAp (pv 8) (pv 9))) zAK)))))
  (zAH (zAU (zAh (r:=rSlL K) zBU (pv 8) zAy (zAf 81)))))))))))),?_⟩
 generalize hL:Str.ofString "etaoinshrdlucmfwypvbgkqjxz" = L;have hLlen:L.cps.toList.length=26:=by rw[←hL];right
 have hLl:L.length<=1000:=by rw[←hL];right
 have hLn:L.cps.toList.Nodup:=by rw[←hL];right
 have hLab:∀n<26,97<=ltD L n/\ltD L n<=122:=by rw[←hL];right
 have n0:=nW c (show (8:Int)≠0 by decide);have n1:=nX c (show (0:Int)<8 by decide);refine⟨_,rfl,_,_,rfl,rfl,(show (0:Int)<8 by decide),_,_,rfl,rfl,?_⟩;refine⟨_,rfl,_,_,rfl,rfl,⟨(show (0:Int)<8 by decide),(show (8:Int)<1073741824 by decide)⟩,_,rfl,_,_,rfl,rfl,(show (0:Int)<1+c % 8 by lia),?_⟩;have a0:=nW (c / 8) (show 1+c % 8≠0 by lia);have a1:=nX (c / 8) (show (0:Int)<1+c % 8 by lia);refine⟨_,rfl,_,_,rfl,rfl,⟨(show (0:Int)<64 by decide),(show (64:Int)<1073741824 by decide)⟩,_,_,rfl,rfl,⟨by decide,by decide,by decide⟩,_,_,rfl,rfl,(show (0:Int)<26 ^ 8 by decide),?_⟩;dsimp only;generalize c / 64 % 26 ^ (8:Int).toNat=rest0;obtain⟨pn,epn⟩:∃pn:Nat,(pn:Int)=c / 8 % (1+c % 8):=⟨(c / 8 % (1+c % 8)).toNat,by lia⟩;obtain⟨N,eN⟩:∃N:Nat,(N:Int)=1+c % 8:=⟨(1+c % 8).toNat,by lia⟩;rw[←epn,←eN];have hpN:pn<N:=by lia
 have hN8:N<=8:=by lia
 refine⟨(by show 0<=sizeLine;decide),λ sg hsg=>?_⟩;have g0:=zAC (o:=.lst []) hsg;have es0:=@zAB H sg (.lst []);show tSeq _ _ _ _ (upd H sg (.lst []));generalize upd H sg _=H0 at g0 es0 ⊢;refine⟨_,rfl,(N:Int),rfl,by lia,by lia,?_⟩;refine zGC (n:=((N:Nat):Int).toNat) (λ i σ' H'=>E3 λ(rest:Int) (ns:List Nat) (s7:Option V)=>A5 (σ'=[some (.int c),some (.int 12),some (.str L),some (.int (N:Int)),some (.int (pn:Int)),some (.int rest),some (.ref sg),s7,none,none]) (Same H H') (H' sg=some (.lst (numV ns))) (ns.length=i) (∀x∈ns,x<26)) ⟨rest0,[],none,rfl,g0,es0,rfl,(λ x hx=>nomatch hx)⟩ ?_ ?_
 ·rintro i σ' H' hi ⟨rest,ns,s7,rfl,g,es,ln,hx⟩
  have hi':i<N:=by simpa using hi
  have m0:=nW rest (show (26:Int)≠0 by decide);have m1:=nX rest (show (0:Int)<26 by decide);obtain⟨rn,ern⟩:∃rn:Nat,(rn:Int)=rest % 26:=⟨(rest % 26).toNat,by lia⟩;refine⟨_,rfl,.inl ⟨rfl,_,SqL.of es⟩,_,rfl,_,_,rfl,rfl,(show (0:Int)<26 by decide),sg,_,_,rfl,rfl,es,zAO (by unfold numV;rw[lC];lia),?_⟩;refine⟨_,rfl,_,_,rfl,rfl,⟨(show (0:Int)<26 by decide),(show (26:Int)<1073741824 by decide)⟩,?_⟩;refine⟨_,ns++[rn],_,rfl,zAY g hsg,?_,by simp[ln],λ x hx'=>?_⟩
  ·rw[zAB]
   unfold numV;rw[mN];show some (HO.lst (_++[V.int (rest % 26)]))=_;rw[←ern];rfl
  ·rcases lJ.mp hx' with h|h
   ·exact hx x h
   ·rw[mO.mp h];lia
 rintro σ' H1 ⟨rest,ns,s7,rfl,g1,es1,ln,hx⟩;have ln':ns.length=N:=by rw[ln];simp
 have hx0:=hx;refine⟨(by show 0<=sizeLine;decide),λ wo hwo=>?_⟩;have g2:=zAC (o:=.lst []) hwo;have ew0:=@zAB H1 wo (.lst []);have es2:=g2 _ _ es1;have hwoH:H wo=none:=g1.free hwo;have nsw:sg≠wo:=λ z=>by rw[←z,es1] at hwo;cases hwo
 show tSeq _ _ _ _ (upd H1 wo (.lst []));generalize upd H1 wo _=H2 at g2 ew0 es2 ⊢;obtain⟨s0,es00⟩:∃s0,ns[pn]?=some s0:=⟨_,lV 65⟩;have hs0:s0<26:=hx s0 (lK es00)
 have hset:ns.set pn ((s0+0) % 26)=ns:=by
  rw[Nat.add_zero,Nat.mod_eq_of_lt hs0];apply List.ext_getElem?;intro j;rw[List.getElem?_set]
  by_cases e:pn=j
  ·subst e
   rw[if_pos rfl,if_pos 65,es00]
  ·rw[if_neg e]
 refine⟨26,rfl,by decide,by decide,?_⟩;refine zGC (n:=(26:Int).toNat) (λ i σ' H'=>E2 λ(s7 s9:Option V)=>A4 (σ'=[some (.int c),some (.int 12),some (.str L),some (.int (N:Int)),some (.int (pn:Int)),some (.int rest),some (.ref sg),s7,some (.ref wo),s9]) (Same H H') (H' sg=some (.lst (numV (ns.set pn ((s0+i) % 26))))) (H' wo=some (.lst ((((List.range i).map (zBs L ns pn s0)).filter λ x=>!kept11.contains x).map V.str)))) ?_ ?_ ?_
 ·exact⟨_,none,rfl,g1.trans g2,by rw[hset];exact es2,ew0⟩
 ·rintro i σ' H' hi ⟨s7,s9,rfl,g,es,ew⟩
  have hi26:i<26:=by simpa using hi
  obtain⟨vv,evv⟩:∃vv,vv=(s0+i) % 26:=72;rw[←evv] at es
  have atp:atI (numV (ns.set pn vv)) (pn:Int)=some (.int (vv:Int)):=by
   refine zAc ?_;unfold numV;rw[mH,rC 65];rfl
  have lset:(numV (ns.set pn vv)).length=N:=by unfold numV;rw[lC,List.length_set,ln']
  have hix:ixN (numV (ns.set pn vv)).length (pn:Int)=some pn:=by
   rw[lset];unfold ixN;rw[if_pos 65,if_pos 65];simp
  have enew:((vv:Int)+1) % 26=(((s0+(i+1)) % 26:Nat):Int):=by lia
  refine⟨_,rfl,_,rfl,sg,_,_,_,rfl,rfl,SqL.of es,atp,_,_,rfl,rfl,_,_,rfl,rfl,(show (0:Int)<26 by decide),_,rfl,_,rfl,sg,_,_,pn,rfl,rfl,es,hix,?_⟩;obtain⟨ms,ems⟩:∃ms,ms=ns.set pn ((s0+(i+1)) % 26):=72;have eset:(numV (ns.set pn vv)).set pn (.int (((vv:Int)+1) % 26))=numV ms:=by rw[enew,zKg,List.set_set,ems]
  show tSeq _ _ _ _ (upd H' sg (.lst ((numV (ns.set pn vv)).set pn (.int (((vv:Int)+1) % 26)))));rw[eset];have g3:Same H (upd H' sg (.lst (numV ms))):=zAY g hsg;have es3:=@zAB H' sg (.lst (numV ms));have ew3:(upd H' sg (.lst (numV ms))) wo=some (.lst ((((List.range i).map (zBs L ns pn s0)).filter λ x=>!kept11.contains x).map V.str)):=by rw[zAR (Ne.symm nsw)];exact ew
  generalize upd H' sg _=H3 at g3 es3 ew3 ⊢;have lms:ms.length=N:=by rw[ems,List.length_set,ln']
  have hms:∀x∈ms,x<26:=λ x hx'=>by
   rw[ems] at hx';rcases List.mem_or_eq_of_mem_set hx' with h|h
   ·exact hx x h
   ·lia
  refine⟨rfl,_,rfl,sg,rfl,⟨_,SqL.of es3⟩,λ acc hacc=>?_⟩;refine zFA (xs:=numV ms) (λ j H'=>Same H3 H'/\H' acc=some (.lst (((ms.take j).map λ n=>(⟨#[ltD L n]⟩:Str)).map V.str))) ⟨zAC hacc,zAB⟩ (λ j H' Ω h=>SqL.of (h.1 _ _ es3)) ?_ ?_
  ·rintro j x Hx hxj ⟨gx,ex⟩
   obtain⟨n,hn,rfl⟩:∃n,ms[j]?=some n/\x=V.int (n:Int):=by
    unfold numV at hxj;rw[mH] at hxj;obtain⟨n,h1,h2⟩:=lU.mp hxj;exact⟨n,h1,h2.symm⟩
   have hj:j<ms.length:=(lI.mp hn).1;have hn26:=hms n (lK hn)
   have atl:atI L.cps.toList (n:Int)=some (ltD L n):=by
    refine zAc ?_;unfold ltD;rw[List.getD_eq_getElem?_getD,nL 65];rfl
   refine⟨.skip (.keep .nil),_,rfl,_,rfl,L,_,_,rfl,rfl,zAw hLl,atl,_,ex,zAO (by simp;lia),zAY gx hacc,?_⟩;rw[zAB,zAT hn,mN,mN];rfl
  rintro H4 ⟨g4,e4⟩;have lnm:(numV ms).length=ms.length:=by unfold numV;rw[lC]
  rw[lnm,mM] at e4;have eys:(ms.map λ n=>(⟨#[ltD L n]⟩:Str))=(ms.map (ltD L)).map λ c=>(⟨#[c]⟩:Str):=by rw[nO];rfl
  have eW:∀z:Str,z.cps=#[]->Txt.join z (ms.map λ n=>(⟨#[ltD L n]⟩:Str))=zBs L ns pn s0 i:=λ z hz=>by
   have h1:=zIF hz (ms.map (ltD L));rw[←eys] at h1;unfold zBs;rw[show s0+i+1=s0+(i+1) by lia,←ems,←h1]
  have hsum:((ms.map λ n=>(⟨#[ltD L n]⟩:Str)).map (·.length)).sum+(ms.map λ n=>(⟨#[ltD L n]⟩:Str)).length<=1048576:=by
   have key:∀l:List Nat,((l.map λ n=>(⟨#[ltD L n]⟩:Str)).map (·.length)).sum=l.length:=by
    intro l
    induction l with
    |nil=>rfl
    |cons a l ih =>
     rw[mJ,mJ,List.sum_cons,ih,mK];show 1+l.length=_
     lia
   rw[key,lC]
   lia
  refine⟨_,acc,_,rfl,rfl,e4,by right,hsum,?_⟩;rw[eW _ 80];generalize hwd:zBs L ns pn s0 i=wd0;have g34:=g3.trans g4;have es4:=g4 _ _ es3;have ew4:=g4 _ _ ew3;refine⟨_,rfl,(by show 11<=sizeLine;decide),λ pt hpt=>⟨pt,kept11.map V.str,rfl,.inr (SqT.of zAB),rfl,rfl,_,rfl,?_⟩⟩;have k5:=zAC (o:=.tup (kept11.map V.str)) hpt;have es5:=k5 _ _ es4;have ew5:=k5 _ _ ew4;have hcon:(kept11.contains wd0=true)↔inV (.str wd0) (kept11.map V.str)=true:=by rw[zGB,List.contains_iff_mem]
  have hrange:((List.range (i+1)).map (zBs L ns pn s0)).filter (λ x=>!kept11.contains x)=(((List.range i).map (zBs L ns pn s0)).filter λ x=>!kept11.contains x)++(if kept11.contains wd0=true then [] else [wd0]):=by
   rw[List.range_succ,mN,List.filter_append,mJ,List.map_nil,hwd];congr 1
   by_cases h:kept11.contains wd0=true
   ·rw[if_pos h,List.filter_cons_of_neg (by rw[h];decide)]
    rfl
   ·have h':kept11.contains wd0=false:=by
     cases e:kept11.contains wd0 with
     |true=>exact absurd e h
     |false=>rfl
    rw[if_neg h,List.filter_cons_of_pos (by rw[h'];rfl)];rfl
  refine ite2 (λ c1=>?_) (λ c1=>?_)
  ·have nc:¬kept11.contains wd0=true:=λ z=>by
    rw[hcon.mp z] at c1;cases c1
   have lfl:((((List.range i).map (zBs L ns pn s0)).filter λ x=>!kept11.contains x).map V.str).length<=i:=by
    rw[lC];have:=List.length_filter_le (λ x=>!kept11.contains x) ((List.range i).map (zBs L ns pn s0));simpa using this
   refine⟨_,rfl,.inl ⟨rfl,_,SqL.of ew5⟩,_,rfl,wo,_,_,rfl,rfl,ew5,zAO 65,?_⟩;refine⟨_,_,rfl,zAY (g34.trans k5) hwoH,by rw[zAR nsw,←ems];exact es5,?_⟩;rw[zAB,hrange,if_neg nc,mN];rfl
  ·have yc:kept11.contains wd0=true:=by
    refine hcon.mpr ?_;cases h:inV (.str wd0) (kept11.map V.str) with
    |true=>rfl
    |false=>exact absurd (by rw[h];rfl) c1
   refine⟨_,_,rfl,g34.trans k5,by rw[←ems];exact es5,?_⟩;rw[hrange,if_pos yc,nN];exact ew5
 ·rintro σ' H' ⟨s7,s9,rfl,g,es,ew⟩
  obtain⟨all,eall⟩:∃all,all=(List.range 26).map (zBs L ns pn s0):=72;have hall:H' wo=some (.lst ((all.filter λ x=>!kept11.contains x).map V.str)):=by rw[eall];exact ew
  have nda:all.Nodup:=by
   rw[eall];refine List.pairwise_map.mpr ?_;refine List.Pairwise.imp_of_mem ?_ List.nodup_range;intro a b ha hb hab e;exact hab (zKC hLlen hLn 65 (List.mem_range.mp ha) (List.mem_range.mp hb) e)
  have la:all.length=26:=by rw[eall];simp
  have h15:12<=(all.filter λ x=>!kept11.contains x).length:=by
   have h1:=zEE (λ x=>kept11.contains x) all
   have h2:=zEB (T:=kept11) (nda.filter (λ x=>kept11.contains x)) λ g hg=>by
    have:=(List.mem_filter.mp hg).2;exact List.contains_iff_mem.mp this
   have h3:kept11.length=11:=rfl
   lia
  refine⟨_,rfl,_,rfl,12,rfl,wo,_,rfl,SqL.of hall,λ p hp=>?_⟩
  have ecut:cutV ((all.filter λ x=>!kept11.contains x).map V.str) none (some 12)=((all.filter λ x=>!kept11.contains x).take 12).map V.str:=by
   have e:HT.sIx ((all.filter λ x=>!kept11.contains x).map V.str).length 0 none=0:=rfl;have e2:=HT.sIx_nat ((all.filter λ x=>!kept11.contains x).map V.str).length ((all.filter λ x=>!kept11.contains x).map V.str).length 12;rw[show ((12:Nat):Int)=12 from rfl] at e2;unfold cutV;rw[e,e2,lC,nV h15];simp
  rw[ecut];refine q p _ ((all.filter λ x=>!kept11.contains x).take 12) (g.trans (zAC hp)) zAB (by rw[mL];lia) ((nda.filter _).take) (λ x hx=>?_);obtain⟨hx',hx2⟩:=List.mem_filter.mp (nB hx);rw[eall] at hx';obtain⟨i,_,rfl⟩:=mB.mp hx'
  have l1:(zBs L ns pn s0 i).length=N:=by
   show ((ns.set pn ((s0+i+1) % 26)).map (ltD L)).toArray.size=N;simp
   lia
  refine⟨by lia,by lia,λ z=>?_,λ cc hcc=>?_⟩
  ·have:kept11.contains (zBs L ns pn s0 i)=true:=List.contains_iff_mem.mpr z
   rw[this] at hx2;cases hx2
  ·have hcc':cc∈(ns.set pn ((s0+i+1) % 26)).map (ltD L):=by
    have:cc∈(((ns.set pn ((s0+i+1) % 26)).map (ltD L)).toArray).toList:=hcc;simpa using this
   obtain⟨n,hn,rfl⟩:=mB.mp hcc'
   have hn26:n<26:=by
    rcases List.mem_or_eq_of_mem_set hn with h|h
    ·exact hx0 n h
    ·lia
   exact hLab n hn26
abbrev zDo:Stmt:=top 37
theorem zEN:zAV ["_law_cell", "_law_words_here", "_law_loud_here", "_law_way"] ["_law_cell", "_law_words_here", "_law_loud_here"] (zAM zDo):=scI
abbrev zCt:Stmt:=top 38
theorem zBN:zAV ["_law_cells", "_law_words_here", "_law_loud_here", "_law_cell", "_law_rest", "_law_sign", "_law_cut", "_law_one", "_law_other"] ["_law_cells", "_law_words_here", "_law_loud_here"] (zAM zCt):=scI
def OutT (W:List Str) (n:Nat) (H:Hp) (Q:VK):Prop:=∀(t:Tr) (v:V) (H':Hp),Same H H'->Rep H' t v->t.size<=n->t.good (λ x=>x∈W)->ngT t->Q v H'
def zFH:Sp:=λ vs H Q Ω=>E5 λ(c:Int) (wl:Addr) (b:Bool) (ws W:List Str)=>A5 (vs=[.int c,.ref wl,.bl b]) (H wl=some (.lst (ws.map V.str))) (0<ws.length) (∀x∈ws,x∈W) (OutT W 1 H Q)
theorem zKb (F:Fun K "_law_leaf" "_law_leaf" zDo f fd) (z_len:mg "len" = none):FnOk P w K mg base CX0 (k+1) f fd ["_law_cell", "_law_words_here", "_law_loud_here"] zFH:=by
 refine F.ok zEN 69 58
 ·obtain⟨c,wl,b,ws,W,rfl,_⟩:=h
  rfl
 obtain⟨c,wl,b,ws,W,rfl,hw,lw,hin,qq⟩:=h
 refine⟨_,(zAE (pS (i:=3) zEN.nd (pe_op zAb (pv 0) zAG))
  (zAE (ps_if (zAJ op_eq (pv 3) zAG 82) (zAH (zAU (zAk (zAA zAP (zAA (pe_op zAb (pe_op zAZ (pv 0) zAG) (pe_op zEW zAG zAG)) zAD)):PE _ _ _))) zAK)
  (zAE (ps_if (zBk (zAJ op_eq (pv 3) zAG 82) (zBE (zB0 (pv 2) (λ Ω=>rfl)))).pt (zAH (zAU (zAk (zAA (pe_ix (r:=rIxL K) zAd (zBA (zAA zAP (zAA zAP zAD)):PE _ _ _) (pe_op zAb (pe_op zAZ (pv 0) zAG) zAG) 73) (zAA (pe_ix (r:=rIxL K) zAd 81 (pe_op zAb (pe_op zAZ (pv 0) zAG) (cL z_len (zAA 81 zAD))) 73) zAD)):PE _ _ _))) zAK)
  (zAE (ps_if (zAJ op_eq (pv 3) zAG 82) (zAH (zAU (zAk (zAA zAP (zAA (pe_op zAb (pe_op zAZ (pv 0) zAG) zAG) zAD)):PE _ _ _))) zAK)
  (zAH (zAU (zAk (zAA zAP (zAA (pe_ix (r:=rIxL K) zAd 81 (pe_op zAb (pe_op zAZ (pv 0) zAG) (cL z_len (zAA 81 zAD))) 73) zAD)):PE _ _ _))))))),?_⟩
 have d2:2<=sizeLine:=by decide
 have f5:(0:Int)<5/\(5:Int)<1073741824:=85;have f10:(0:Int)<10/\(10:Int)<1073741824:=85;have one:1<=1:=lQ _;refine⟨_,rfl,_,_,rfl,rfl,(show (0:Int)<5 by decide),?_⟩;refine⟨_,rfl,rfl,_,rfl,ite2 91 91⟩
 ·refine⟨_,rfl,_,_,rfl,rfl,f5,_,_,rfl,rfl,⟨by decide,by decide,by decide⟩,_,_,rfl,rfl,(show (0:Int)<10 ^ 30 by decide),d2,λ pt hpt=>?_⟩
  exact qq (.num _) _ _ (zAC hpt) ⟨pt,rfl,zAB⟩ one trivial trivial
 have rest:∀D:Prop,D->D:=λ Ω h=>h;refine⟨_,rfl,rfl,_,rfl,ite2 (λ Ω=>⟨_,rfl,b,rfl,ite2 91 91⟩) 91⟩
 ·obtain⟨v,hv,ev⟩:=zJ1 (c / 5)
  obtain⟨x,hx,atx,lp⟩:=pickM (L:=ws) (c / 10) lw;refine⟨d2,λ p0 hp0=>⟨_,rfl,_,_,rfl,rfl,f5,_,_,rfl,rfl,(show (0:Int)<2 by decide),p0,_,_,_,rfl,rfl,SqL.of zAB,ev,?_⟩⟩;have k2:=zAC (o:=.lst [.str "ask", .str "stop"]) hp0;have hw2:=k2 _ _ hw;refine⟨_,rfl,_,rfl,_,_,rfl,rfl,f10,_,rfl,wl,_,rfl,.inl (SqL.of hw2),_,_,rfl,rfl,lp,wl,_,_,_,rfl,rfl,SqL.of hw2,atx,d2,λ pt hpt=>?_⟩;simp only[nK,mX,or_false] at hv;rcases hv with rfl|rfl
  ·exact qq (.ask x) _ _ (k2.trans (zAC hpt)) ⟨pt,rfl,zAB⟩ one (hin x hx) trivial
  ·exact qq (.stop x) _ _ (k2.trans (zAC hpt)) ⟨pt,rfl,zAB⟩ one (hin x hx) trivial
 all_goals
  refine⟨_,rfl,rfl,_,rfl,ite2 91 91⟩
  ·refine⟨_,rfl,_,_,rfl,rfl,f5,_,_,rfl,rfl,(show (0:Int)<2 by decide),d2,λ pt hpt=>?_⟩
   exact qq (.num _) _ _ (zAC hpt) ⟨pt,rfl,zAB⟩ one trivial trivial
  obtain⟨x,hx,atx,lp⟩:=pickM (L:=ws) (c / 5) lw;refine⟨_,rfl,_,rfl,_,_,rfl,rfl,f5,_,rfl,wl,_,rfl,.inl (SqL.of hw),_,_,rfl,rfl,lp,wl,_,_,_,rfl,rfl,SqL.of hw,atx,d2,λ pt hpt=>?_⟩;exact qq (.name x) _ _ (zAC hpt) ⟨pt,rfl,zAB⟩ one (hin x hx) trivial
theorem zIc (z:Int):∃s:Str,atI [V.str "let", .str "add", .str "if", .str "mul", .str "say", .str "sub", .str "then", .str "let"] (z % 8)=some (.str s)/\((∃o:Bin,s=o.s)\/s = "if" \/ s = "say" \/ s = "let"):=by
 have h0:=nW z (show (8:Int)≠0 by decide);have h1:=nX z (show (0:Int)<8 by decide);have h:z % 8=0\/z % 8=1\/z % 8=2\/z % 8=3\/z % 8=4\/z % 8=5\/z % 8=6\/z % 8=7:=by lia
 rcases h with h|h|h|h|h|h|h|h<;>rw[h]<;>refine⟨_,rfl,?_⟩<;>first|exact .inr (.inr (.inr rfl))|exact .inr (.inl rfl)|exact .inr (.inr (.inl rfl))|exact .inl ⟨.add,rfl⟩|exact .inl ⟨.mul,rfl⟩|exact .inl ⟨.thn,rfl⟩|exact .inl ⟨.sub,rfl⟩
def zCm (K:W.Frag) (n:Nat):Sp:=λ vs H Q Ω=>E6 λ(a wl:Addr) (b:Bool) (cells:List Int) (ws W:List Str)=>A9 (vs=[.ref a,.ref wl,.bl b]) (SqL K H a (cells.map V.int)) (1<=cells.length) (cells.length<=n) (n<=12) (H wl=some (.lst (ws.map V.str))) (4<=ws.length) (∀x∈ws,x∈W) (OutT W (2 * cells.length - 1) H Q)
theorem zKX (F:Fun K "_law_tree" "_law_tree" zCt f fd) (z_len:mg "len" = none) (zNX:FnB P w K mg base k "_law_leaf" g1 gd1 ["_law_cell", "_law_words_here", "_law_loud_here"] zFH)
  (zNY:FnB P w K mg base k "_law_tree" f fd ["_law_cells", "_law_words_here", "_law_loud_here"] (zCm K n)):FnOk P w K mg base CX0 (k+1) f fd ["_law_cells", "_law_words_here", "_law_loud_here"] (zCm K (n+1)):=by
 refine F.ok zBN 69 58
 ·obtain⟨a,wl,b,cells,ws,W,rfl,_⟩:=h
  rfl
 obtain⟨a,wl,b,cells,ws,W,rfl,hS,h1,hn,h12,hw,lw4,iw,qq⟩:=h;have lw:0<ws.length:=by lia
 refine⟨_,(Sd.un (zAF (pSS (i:=3) zBN.nd (zBY (r:=rIxL K) zAd ⟨pv 0⟩ ⟨zAG⟩ 73))
  (zAF (pSS (i:=4) zBN.nd ⟨zAh (r:=rSlL K) zBU (pv 0) (zAf zAG) zAy⟩)
  (zAF (zAe ⟨zAJ op_eq (cL z_len (zAA (pv 4) zAD)) zAG 82⟩ (zAS (zAX ⟨pe_cl zNX hr (zAA (pv 3) (zAA 81 87))⟩)) ⟨zAK⟩)
  (zAF (pSS (i:=5) zBN.nd (zBY (r:=rIxL K) zAd ⟨zGd [.str "let", .str "add", .str "if", .str "mul", .str "say", .str "sub", .str "then", .str "let"] 84⟩ ⟨pe_op zAb (pv 3) zAG⟩ 73))
  (zAF (zAe ⟨(pw_or (zAJ op_eq (cL z_len (zAA (pv 4) zAD)) zAG 82) (zCg (zAJ op_eq (pv 5) zAP 82))).pt⟩ (zAF (zAe ⟨zB0 (pv 2) (λ Ω=>rfl)⟩ (zAS (zAX (zAg (zAI ⟨zAP⟩ (zAI ⟨pe_cl zNY hr (zAA (pv 4) (zAA 81 87))⟩ ⟨zAD⟩))))) ⟨zAK⟩)
  (zAS (zAX (zAg (zAI ⟨zAP⟩ (zAI (zAg (zAI ⟨zAP⟩ (zAI (zBY (r:=rIxL K) zAd ⟨pv 1⟩ ⟨pe_op zAb (pe_op zAZ (pv 3) zAG) (cL z_len (zAA 81 zAD))⟩ 73) ⟨zAD⟩))) (zAI ⟨pe_cl zNY hr (zAA (pv 4) (zAA 81 87))⟩ ⟨zAD⟩))))))) ⟨zAK⟩)
  (zAF (pSS (i:=6) zBN.nd ⟨pe_op zBl zAG (pe_op zAb (pe_op zAZ (pv 3) zAG) (pe_op zFz (cL z_len (zAA (pv 4) zAD)) zAG))⟩)
  (zAF (pSS (i:=7) zBN.nd ⟨pe_cl zNY hr (zAA (zAh (r:=rSlL K) zBU (pv 4) zAy (zAf (pv 6))) (zAA 81 87))⟩)
  (zAF (pSS (i:=8) zBN.nd ⟨pe_cl zNY hr (zAA (zAh (r:=rSlL K) zBU (pv 4) (zAf (pv 6)) zAy) (zAA 81 87))⟩)
  (zAF (zAe ⟨zAJ op_eq (pv 5) zAP 82⟩ (zAS (zAX (zAg (zAI ⟨zAP⟩ (zAI (zBY (r:=rIxL K) zAd ⟨pv 1⟩ ⟨pe_op zAb (pe_op zAZ (pv 3) zAG) zAG⟩ 73) (zAI ⟨pv 7⟩ (zAI ⟨pv 8⟩ ⟨zAD⟩))))))) ⟨zAK⟩)
  (zAF (zAe ⟨zAJ op_eq (pv 5) zAP 82⟩ (zAS (zAX (zAg (zAI ⟨zAP⟩ (zAI ⟨pv 7⟩ (zAI (zAg (zAI ⟨zAP⟩ (zAI (zBY (r:=rIxL K) zAd ⟨pv 1⟩ ⟨pe_op zAb (pe_op zAZ (pv 3) zAG) (cL z_len (zAA 81 zAD))⟩ 73) ⟨zAD⟩))) (zAI ⟨pv 8⟩ ⟨zAD⟩))))))) ⟨zAK⟩)
  (zAS (zAX (zAg (zAI ⟨pv 5⟩ (zAI ⟨pv 7⟩ (zAI ⟨pv 8⟩ ⟨zAD⟩))))))))))))))))),?_⟩
 have d2:2<=sizeLine:=by decide
 have d3:3<=sizeLine:=by decide
 have d4:4<=sizeLine:=by decide
 have f8:(0:Int)<8/\(8:Int)<1073741824:=85;have f64:(0:Int)<64/\(64:Int)<1073741824:=85;have fK:(0:Int)<1000/\(1000:Int)<1073741824:=85
 obtain⟨c,rest,rfl⟩:∃c rest,cells=c::rest:=by
  cases cells with
  |nil=>simp at h1
  |cons c r=>exact⟨c,r,rfl⟩
 have at0:atI ((c::rest).map V.int) 0=some (.int c):=zAc (j:=0) rfl;refine⟨_,rfl,a,_,0,_,rfl,rfl,hS,at0,?_⟩;refine⟨_,rfl,1,rfl,a,_,rfl,hS,λ pr hpr=>?_⟩;rw[zJr];have k1:=zAC (o:=.lst (rest.map V.int)) hpr;have er:=@zAB H pr (.lst (rest.map V.int));show tSeq _ _ _ _ (upd H pr (.lst (rest.map V.int)));generalize upd H pr _=H1 at k1 er ⊢;rw[mK] at hn;rw[mK] at qq;refine⟨_,rfl,pr,_,rfl,.inl (SqL.of er),rfl,_,rfl,ite2 (λ e0=>?_) (λ e0=>?_)⟩
 ·exact⟨_,rfl,_,rfl,_,rfl,c,wl,b,ws,W,rfl,k1 _ _ hw,lw,iw,λ t v H2 g2 r2 s2 a2 b2=>qq t v H2 (k1.trans g2) r2 65 a2 b2⟩
 have hr1:1<=rest.length:=by
  rcases Nat.eq_zero_or_pos rest.length with h|h
  ·exact absurd (lT (by rw[lC,h];rfl)) e0
  ·exact h
 obtain⟨sg,atsg,hsg⟩:=zIc c;refine⟨(by show 8<=sizeLine;decide),λ pl hpl=>?_⟩;have k2:=zAC (o:=.lst [.str "let", .str "add", .str "if", .str "mul", .str "say", .str "sub", .str "then", .str "let"]) hpl;refine⟨_,rfl,_,_,rfl,rfl,(show (0:Int)<8 by decide),pl,_,_,_,rfl,rfl,SqL.of zAB,atsg,?_⟩;have k12:=k1.trans k2;have er2:=k2 _ _ er;show tSeq _ _ _ _ (upd H1 pl _);generalize upd H1 pl _=H2 at k12 er2 ⊢;have hw2:=k12 _ _ hw;have n12:n<=12:=by lia
 obtain⟨x8,hx8,atx8,lp8⟩:=pickM (L:=ws) (c / 8) lw;obtain⟨x64,hx64,atx64,lp64⟩:=pickM (L:=ws) (c / 64) lw;obtain⟨y64,hy64,aty64⟩:=pickS (L:=ws) (i:=c / 64 % 4) (nW _ 66) (by have:=nX (c / 64) (show (0:Int)<4 by decide);lia)
 have sayG:∀(pn:Addr),H2 pn=none->∀(t1:Tr) (v1:V) (H4:Hp),Same (upd H2 pn (.tup [.str "name", .str x8])) H4->Rep H4 t1 v1->t1.size<=2 * rest.length - 1->t1.good (λ x=>x∈W)->ngT t1->3<=sizeLine/\∀pt,H4 pt=none->Q (.ref pt) (upd H4 pt (.tup [.str "sub", .ref pn,v1])):=λ pn hpn t1 v1 H4 g4 r1 s1 a1 b1=>⟨d3,λ pt hpt=>by
  have k7:=zAC (o:=.tup [.str "sub", .ref pn,v1]) hpt;refine qq (.bin .sub (.name x8) t1) _ _ (k12.trans ((zAC hpn).trans (g4.trans k7))) ⟨pt,.ref pn,v1,rfl,zAB,⟨pn,rfl,k7 _ _ (g4 _ _ zAB)⟩,r1.mono k7.tk⟩ ?_ ⟨iw _ hx8,a1⟩ ⟨trivial,b1⟩;show 1+t1.size+1<=_
  lia⟩
 refine⟨_,rfl,pr,_,rfl,.inl (SqL.of er2),rfl,_,rfl,ite2 (λ Ω=>iteT ?_) (λ e1=>⟨_,rfl,rfl,_,rfl,ite2 91 (λ e2=>?_)⟩)⟩
 iterate 2
  refine⟨_,rfl,b,rfl,ite2 91 91⟩
  ·refine⟨_,rfl,_,rfl,_,rfl,pr,wl,b,rest,ws,W,rfl,SqL.of er2,hr1,by lia,n12,hw2,lw4,iw,λ t1 v1 H4 g4 r1 s1 a1 b1=>⟨d2,λ pt hpt=>?_⟩⟩
   have k7:=zAC (o:=.tup [.str "say", v1]) hpt;refine qq (.say t1) _ _ (k12.trans (g4.trans k7)) ⟨pt,v1,rfl,zAB,r1.mono k7.tk⟩ ?_ a1 b1;show t1.size+1<=_
   lia
  ·refine⟨_,rfl,_,rfl,_,_,rfl,rfl,f8,_,rfl,wl,_,rfl,.inl (SqL.of hw2),_,_,rfl,rfl,lp8,wl,_,_,_,rfl,rfl,SqL.of hw2,atx8,d2,λ pn hpn=>?_⟩
   have kn:=zAC (o:=.tup [.str "name", .str x8]) hpn;exact⟨_,rfl,_,rfl,_,rfl,pr,wl,b,rest,ws,W,rfl,SqL.of (kn _ _ er2),hr1,by lia,n12,kn _ _ hw2,lw4,iw,sayG pn hpn⟩
 have hr2:2<=rest.length:=by
  rcases Nat.lt_or_ge rest.length 2 with h|h
  ·exact absurd (lT (by rw[lC,show rest.length=1 by lia];rfl)) e1
  ·exact h
 have hns:sg ≠ "say" := λ z=>e2 (lT (by rw[z]));have m0:=nW (c / 8) (show (rest.length:Int) - 1≠0 by lia);have m1:=nX (c / 8) (show (0:Int)<(rest.length:Int) - 1 by lia);obtain⟨cn,ecn⟩:∃cn:Nat,(cn:Int)=1+c / 8 % ((rest.length:Int) - 1):=⟨(1+c / 8 % ((rest.length:Int) - 1)).toNat,by lia⟩;have lm:((rest.map V.int).length:Int)=(rest.length:Int):=by rw[lC]
 refine⟨_,rfl,_,_,rfl,rfl,f8,_,rfl,pr,_,rfl,.inl (SqL.of er2),_,_,rfl,rfl,_,_,rfl,rfl,(by show (0:Int)<((rest.map V.int).length:Int) - 1;lia),_,_,rfl,rfl,?_⟩;dsimp only;rw[lm,←ecn];have c1:1<=cn:=by lia
 have c2:cn+1<=rest.length:=by lia
 refine⟨_,rfl,_,rfl,_,rfl,pr,_,rfl,SqL.of er2,λ p1 hp1=>?_⟩;rw[zLW rest cn 65];have k3:=zAC (o:=.lst ((rest.take cn).map V.int)) hp1;have e3:=@zAB H2 p1 (.lst ((rest.take cn).map V.int));generalize upd H2 p1 _=H3 at k3 e3 ⊢;refine⟨_,rfl,_,rfl,p1,wl,b,rest.take cn,ws,W,rfl,SqL.of e3,by simp;lia,by simp;lia,n12,k3 _ _ hw2,lw4,iw,λ t1 v1 H4 g4 r1 s1 a1 b1=>?_⟩;have g24:=k3.trans g4;rw[mL,nV 65] at s1;refine⟨_,rfl,_,rfl,_,rfl,pr,_,rfl,SqL.of (g24 _ _ er2),λ p2 hp2=>?_⟩;rw[zJq rest cn 65];have k5:=zAC (o:=.lst ((rest.drop cn).map V.int)) hp2;have e5:=@zAB H4 p2 (.lst ((rest.drop cn).map V.int));generalize upd H4 p2 _=H5 at k5 e5 ⊢;have g25:=g24.trans k5;refine⟨_,rfl,_,rfl,p2,wl,b,rest.drop cn,ws,W,rfl,SqL.of e5,by simp;lia,by simp;lia,n12,g25 _ _ hw2,lw4,iw,λ t2 v2 H6 g6 r2 s2 a2 b2=>?_⟩;rw[mT] at s2;have g26:=g25.trans g6;have r1':=r1.mono (k5.trans g6).tk;have G:=k12.trans g26;have hw6:=g26 _ _ hw2;refine⟨_,rfl,rfl,_,rfl,ite2 91 (λ nl=>?_)⟩
 ·refine⟨_,rfl,_,rfl,_,_,rfl,rfl,f64,_,_,rfl,rfl,(show (0:Int)<4 by decide),wl,_,_,_,rfl,rfl,SqL.of hw6,aty64,_,rfl,_,rfl,d4,λ pt hpt=>?_⟩
  have k7:=zAC (o:=.tup [.str "let", .str y64,v1,v2]) hpt;refine qq (.lett y64 t1 t2) _ _ (G.trans k7) ⟨pt,v1,v2,rfl,zAB,r1'.mono k7.tk,r2.mono k7.tk⟩ ?_ ⟨iw _ hy64,a1,a2⟩ ⟨b1,b2⟩;show t1.size+t2.size+1<=_
  lia
 refine⟨_,rfl,rfl,_,rfl,ite2 91 (λ ni=>?_)⟩
 ·refine⟨_,rfl,_,rfl,_,rfl,_,_,rfl,rfl,f64,_,rfl,wl,_,rfl,.inl (SqL.of hw6),_,_,rfl,rfl,lp64,wl,_,_,_,rfl,rfl,SqL.of hw6,atx64,d2,λ pn hpn=>⟨_,rfl,d4,λ pt hpt=>?_⟩⟩
  have k7:=zAC (o:=.tup [.str "name", .str x64]) hpn;have k9:=zAC (o:=.tup [.str "if", v1,.ref pn,v2]) hpt;have kA:=k7.trans k9;refine qq (.ite t1 (.name x64) t2) _ _ (G.trans kA) ⟨pt,v1,.ref pn,v2,rfl,zAB,r1'.mono kA.tk,⟨pn,rfl,k9 _ _ zAB⟩,r2.mono kA.tk⟩ ?_ ⟨a1,iw _ hx64,a2⟩ ⟨b1,trivial,b2⟩;show t1.size+1+t2.size+1<=_
  lia
 ·obtain⟨o,rfl⟩:∃o:Bin,sg=o.s:=by
   rcases hsg with h|h|h|h
   ·exact h
   ·exact absurd (lT (by rw[h])) ni
   ·exact absurd h hns
   ·exact absurd (lT (by rw[h])) nl
  refine⟨_,rfl,_,rfl,_,rfl,d3,λ pt hpt=>?_⟩;have k7:=zAC (o:=.tup [.str o.s,v1,v2]) hpt;refine qq (.bin o t1 t2) _ _ (G.trans k7) ⟨pt,v1,v2,rfl,zAB,r1'.mono k7.tk,r2.mono k7.tk⟩ ?_ ⟨a1,a2⟩ ⟨b1,b2⟩;show t1.size+t2.size+1<=_
  lia
theorem zH4 {k:Nat}{f:Addr}{fd:FuncData}:FnOk P w K mg base CX0 k f fd ["_law_cells", "_law_words_here", "_law_loud_here"] (zCm K 0):=by
 have no:∀vs H Q E,¬zCm K 0 vs H Q E:=λ vs H Q E h=>by
  obtain⟨a,wl,b,cells,ws,W,_,_,h1,h0,_⟩:=h
  lia
 exact⟨λ vs H Q E h=>absurd h (no vs H Q E),λ A outer s H args us vs Q E Ω Ω Ω Ω h=>absurd h (no vs H Q E)⟩
theorem zGO (F:Fun K "_law_tree" "_law_tree" zCt f fd) (b:Binds K fd ["_law_cells", "_law_words_here", "_law_loud_here"] []) (m:mg "_law_tree" = some (.ref f)) (z_len:mg "len" = none) (G:FnB P w K mg base k "_law_leaf" g1 gd1 ["_law_cell", "_law_words_here", "_law_loud_here"] zFH):∀n:Nat,FnB P w K mg base (k+n) "_law_tree" f fd ["_law_cells", "_law_words_here", "_law_loud_here"] (zCm K n)
 |0=>⟨zH4,b,F.kp,m⟩
 |n+1=>⟨zKX F z_len (G.up (Nat.le_add_right _ _)) (zGO F b m z_len G n),b,F.kp,m⟩
abbrev zBv:Stmt:=top 39
theorem zA4:zAV ["_law_cell", "_law_words_here", "_law_bound", "_law_counts", "_law_way", "_law_k", "_law_atoms"] ["_law_cell", "_law_words_here", "_law_bound", "_law_counts"] (zAM zBv):=scI
def OutL (ws:List Str) (cs:List Nat) (bd:List Str) (n:Nat) (H:Hp) (Q:VK):Prop:=∀(t:Tr) (v:V) (H':Hp),Same H H'->Rep H' t v->t.size<=n->t.good (λ x=>x∈ws)->LOk (cntO ws cs) t bd->nlet t=0->Q v H'
def zGV:Sp:=λ vs H Q Ω=>E7 λ(c:Int) (wl bl cl:Addr) (ws bd:List Str) (cs:List Nat)=>A11 (vs=[.int c,.ref wl,.ref bl,.ref cl]) (H wl=some (.lst (ws.map V.str))) (H bl=some (.lst (bd.map V.str))) (H cl=some (.lst (numV cs))) (CsL cs) (ws.length=12) ws.Nodup bd.Nodup (bd.length<=30) (∀x∈bd,x∈ws) (OutL ws cs bd 1 H Q)
theorem zLy (F:Fun K "_law_left_leaf" "_law_left_leaf" zBv f fd) (z_len:mg "len" = none) (z_range:mg "range" = none) (z_tuple:mg "tuple" = none):FnOk P w K mg base CX0 (k+1) f fd ["_law_cell", "_law_words_here", "_law_bound", "_law_counts"] zGV:=by
 refine F.ok zA4 69 58
 ·obtain⟨c,wl,bl,cl,ws,bd,cs,rfl,_⟩:=h
  rfl
 obtain⟨c,wl,bl,cl,ws,bd,cs,rfl,hw,hb,hc,hcs,lw,wnd,bnd_,lb,ib,qq⟩:=h
 refine⟨_,(Sd.un (zAF (pSS (i:=4) zA4.nd ⟨pe_op zAb (pv 0) zAG⟩)
  (zAF (zAe ⟨zAJ op_eq (pv 4) zAG 82⟩ (zAS (zAX (zAg (zAI ⟨zAP⟩ (zAI ⟨pe_op zAb (pe_op zAZ (pv 0) zAG) (pe_op zEW zAG zAG)⟩ ⟨zAD⟩))))) ⟨zAK⟩)
  (zAF (zAe ⟨(zBk (zAJ op_eq (pv 4) zAG 82) (zBE (zAJ op_eq (pe_op zAb (pe_op zAZ (pv 0) zAG) zAG) zAG 82))).pt⟩ (zAS (zAX (zAg (zAI (zBY (r:=rIxL K) zAd (zDM (zAI ⟨zAP⟩ (zAI ⟨zAP⟩ ⟨zAD⟩))) ⟨pe_op zAb (pe_op zAZ (pv 0) zAG) zAG⟩ 73) (zAI (zBY (r:=rIxL K) zAd ⟨pv 1⟩ ⟨pe_op zAb (pe_op zAZ (pv 0) zAG) zAG⟩ 73) ⟨zAD⟩))))) ⟨zAK⟩)
  (zAF (zAe ⟨(zBk (zAJ op_lt (pv 4) zAG 82) (zBE (zAJ op_gt (cL z_len 87) zAG 82))).pt⟩ (zAS (zAX (zAg (zAI ⟨zAP⟩ (zAI (zBY (r:=rIxL K) zAd ⟨pv 2⟩ ⟨pe_op zAb (pe_op zAZ (pv 0) zAG) (cL z_len 87)⟩ 73) ⟨zAD⟩))))) ⟨zAK⟩)
  (zAF (pSS (i:=5) zA4.nd ⟨pe_op zAb (pe_op zAZ (pv 0) zAG) zAG⟩)
  (zAF (zAe ⟨zAJ op_gt (pe_ix (r:=rIxL K) zAd (pv 3) (pv 5) 73) (cL z_len 87) 82⟩ (zAS (pSS (i:=5) zA4.nd ⟨pe_op zBl zAG (pe_op zAb (pv 5) zAG)⟩)) ⟨zAK⟩)
  (zAF ⟨zD9 (jj:=6) ["_law_j", "_law_bound", "_law_cell"] [none,some 2,some 0] rfl (zDX 84 z_range (zAA (pe_ix (r:=rIxL K) zAd (pv 3) (pv 5) 73) zAD)) (λ Ω Ω Ω Ω Ω=>(zBx (i:=0) (show List.Nodup (["_law_j", "_law_bound", "_law_cell"]:List Str) by right) rfl (Or.inl rfl))) (λ Ω Ω Ω Ω Ω=>zCh) (λ Ω Ω Ω Ω Ω=>(zAk (zAA zAP (zAA (pe_ix (r:=rIxL K) zAd 81 (pe_op zAb (pe_op zBl (pe_op zAZ (pv 2) zAG) (pv 0)) (zA2 (r:=rLen1 K) zJw 84 z_len rL (zAA 81 zAD))) 73) zAD)):PE _ _ _)) rfl zA4.nd rfl (Or.inl rfl) (Or.inr rfl)⟩
  (zAS (zAX (zAg (zAI ⟨zAP⟩ (zAI (zBY (r:=rIxL K) zAd ⟨pv 1⟩ ⟨pv 5⟩ 73) (zAI (zBq zA3 84 z_tuple rF (zAI ⟨pv 6⟩ ⟨zAD⟩)) ⟨zAD⟩)))))))))))))),?_⟩
 have d2:2<=sizeLine:=by decide
 have d3:3<=sizeLine:=by decide
 have f8:(0:Int)<8/\(8:Int)<1073741824:=85;have f16:(0:Int)<16/\(16:Int)<1073741824:=85;have f32:(0:Int)<32/\(32:Int)<1073741824:=85;have f48:(0:Int)<48/\(48:Int)<1073741824:=85;have one:1<=1:=lQ _;refine⟨_,rfl,_,_,rfl,rfl,(show (0:Int)<8 by decide),?_⟩;refine⟨_,rfl,rfl,_,rfl,ite2 91 91⟩
 ·refine⟨_,rfl,_,_,rfl,rfl,f8,_,_,rfl,rfl,⟨by decide,by decide,by decide⟩,_,_,rfl,rfl,(show (0:Int)<10 ^ 30 by decide),d2,λ pt hpt=>?_⟩
  exact qq (.num _) _ _ (zAC hpt) ⟨pt,rfl,zAB⟩ one trivial trivial rfl
 apply viaS (λ σ' H'=>σ'=[some (.int c),some (.ref wl),some (.ref bl),some (.ref cl),some (.int (c % 8)),none,none]/\H'=H)
 ·intro rest
  refine⟨_,rfl,rfl,_,rfl,ite2 (λ Ω=>⟨_,rfl,_,_,rfl,rfl,f8,_,_,rfl,rfl,(show (0:Int)<2 by decide),rfl,_,rfl,ite2 91 (λ Ω=>rest _ _ ⟨rfl,rfl⟩)⟩) (λ Ω=>iteF (rest _ _ ⟨rfl,rfl⟩))⟩;obtain⟨v,hv,ev⟩:=zJ1 (c / 16);obtain⟨x,hx,atx⟩:=pickS (L:=ws) (i:=c / 32 % 12) (nW _ 66) (by have:=nX (c / 32) (show (0:Int)<12 by decide);lia);refine⟨d2,λ p0 hp0=>⟨_,rfl,_,_,rfl,rfl,f16,_,_,rfl,rfl,(show (0:Int)<2 by decide),p0,_,_,_,rfl,rfl,SqL.of zAB,ev,?_⟩⟩;have k2:=zAC (o:=.lst [.str "ask", .str "stop"]) hp0;refine⟨_,rfl,_,rfl,_,_,rfl,rfl,f32,_,_,rfl,rfl,(show (0:Int)<12 by decide),wl,_,_,_,rfl,rfl,SqL.of (k2 _ _ hw),atx,d2,λ pt hpt=>?_⟩;simp only[nK,mX,or_false] at hv;rcases hv with rfl|rfl
  ·exact qq (.ask x) _ _ (k2.trans (zAC hpt)) ⟨pt,rfl,zAB⟩ one hx trivial rfl
  ·exact qq (.stop x) _ _ (k2.trans (zAC hpt)) ⟨pt,rfl,zAB⟩ one hx trivial rfl
 rintro σ' H' ⟨rfl,rfl⟩;apply viaS (λ σ' H''=>σ'=[some (.int c),some (.ref wl),some (.ref bl),some (.ref cl),some (.int (c % 8)),none,none]/\H''=H')
 ·intro rest
  refine⟨_,rfl,_,_,rfl,rfl,_,rfl,ite2 (λ Ω=>⟨_,rfl,bl,_,rfl,.inl (SqL.of hb),_,_,rfl,rfl,_,rfl,ite2 (λ hlt=>?_) (λ Ω=>rest _ _ ⟨rfl,rfl⟩)⟩) (λ Ω=>iteF (rest _ _ ⟨rfl,rfl⟩))⟩
  have lb0:0<bd.length:=by
   have:=lS hlt;rw[lC] at this
   lia
  obtain⟨x,hx,atx,lp⟩:=pickM (L:=bd) (c / 8) lb0;refine⟨_,rfl,_,rfl,_,_,rfl,rfl,f8,_,rfl,bl,_,rfl,.inl (SqL.of hb),_,_,rfl,rfl,lp,bl,_,_,_,rfl,rfl,SqL.of hb,atx,d2,λ pt hpt=>?_⟩;exact qq (.name x) _ _ (zAC hpt) ⟨pt,rfl,zAB⟩ one (ib x hx) hx rfl
 rintro σ' H'' ⟨rfl,rfl⟩;have lcs:cs.length=6:=hcs.1.1;obtain⟨j0,ej0⟩:∃j0:Nat,(j0:Int)=c / 8 % 6:=⟨(c / 8 % 6).toNat,by have:=nW (c / 8) (show (6:Int)≠0 by decide);lia⟩;have hj0:j0<6:=by have:=nX (c / 8) (show (0:Int)<6 by decide);lia
 refine⟨_,rfl,_,_,rfl,rfl,f8,_,_,rfl,rfl,(show (0:Int)<6 by decide),?_⟩;dsimp only;rw[←ej0];apply viaS (λ σ' H2=>∃(j:Nat),A4 (j<6) (cs.getD j 0<=bd.length) (σ'=[some (.int c),some (.ref wl),some (.ref bl),some (.ref cl),some (.int (c % 8)),some (.int (j:Int)),none]) (H2=H''))
 ·intro rest
  refine⟨_,rfl,_,rfl,cl,_,_,_,rfl,rfl,SqL.of hc,cs_at 65,_,rfl,bl,_,rfl,.inl (SqL.of hb),_,_,rfl,rfl,_,rfl,ite2 91 (λ hle=>rest _ _ ⟨j0,hj0,?_,rfl,rfl⟩)⟩
  ·refine⟨_,rfl,_,_,rfl,rfl,(show (0:Int)<3 by decide),_,_,rfl,rfl,rest _ _ ⟨3+j0 % 3,by lia,?_,?_,rfl⟩⟩
   ·rw[hcs.2 _ 65];exact lX _
   ·show _=[_,_,_,_,_,some (V.int ((3+j0 % 3:Nat):Int)),_]
    rw[show ((3+j0 % 3:Nat):Int)=3+(j0:Int) % 3 by lia];rfl
  ·have:¬(((bd.map V.str).length:Nat):Int)<((cs.getD j0 0:Nat):Int):=λ z=>hle (lT z)
   rw[lC] at this
   lia
 rintro σ' H2 ⟨j,hj,hjb,rfl,rfl⟩;obtain⟨ns,lns,nnd,hns⟩:=zLb bnd_ (c / 48) hjb;have hc3:=hcs.1.le j;refine⟨_,rfl,_,rfl,cl,_,_,_,rfl,rfl,SqL.of hc,cs_at 65,_,rfl,by lia,by lia,λ acc hacc=>?_⟩;refine zEj (n:=((cs.getD j 0:Nat):Int).toNat) (λ i H'=>Same H2 H'/\∃us:List V,H' acc=some (.lst us)/\Paired (AtRep H') ((ns.take i).map Atom.name) us/\us.length=i) ⟨zAC hacc,[],zAB,.nil,rfl⟩ ?_ ?_
 ·rintro i Hx hi ⟨gx,us,ex,px,lx⟩
  rw[Int.toNat_natCast] at hi;obtain⟨x,ex1,ex2,hxb⟩:=hns i hi;have hbl:0<bd.length:=by lia
  have b0:=nW (c / 48+(i:Int)) (show (bd.length:Int)≠0 by lia);have b1:=nX (c / 48+(i:Int)) (show (0:Int)<(bd.length:Int) by lia);obtain⟨y,ey,aty⟩:=pickI (L:=bd) b0 b1;rw[ex2] at ey;cases ey;have aty':atI (bd.map V.str) ((c / 48+(0+(i:Int))) % (((bd.map V.str).length:Nat):Int))=some (.str x):=by rw[lC,Int.zero_add];exact aty
  refine⟨.skip (.keep (.keep .nil)),_,rfl,_,rfl,_,_,rfl,rfl,f48,_,rfl,_,_,rfl,rfl,_,rfl,bl,_,rfl,.inl (SqL.of (gx _ _ hb)),_,_,rfl,rfl,(by rw[lC];lia),bl,_,_,_,rfl,rfl,SqL.of (gx _ _ hb),aty',d2,λ pt hpt=>?_⟩;have kp:=zAC (o:=.tup [.str "name", .str x]) hpt;have ep:=kp _ _ ex;have ept:=@zAB Hx pt (.tup [.str "name", .str x]);have gp:=gx.trans kp;have pp:=Paired.mapP px λ Ω Ω z=>z.mono kp.tk;generalize upd Hx pt _=Hy at ep ept gp pp ⊢;refine⟨_,ep,zAO 65,zAY gp hacc,us++[.ref pt],zAB,?_,by simp[lx]⟩;rw[zAT ex1,mN];have tk:Tk Hy (upd Hy acc (.lst (us++[.ref pt]))):=Tk.lst ep;exact zDN (Paired.mapP pp λ Ω Ω z=>z.mono tk) (.cons ⟨pt,rfl,tk _ _ ept⟩ .nil)
 rintro H3 ⟨g3,us,eu,pu,lu⟩;rw[Int.toNat_natCast] at pu lu;rw[←lns,mM] at pu;have hj12:j<ws.length:=by lia
 have atj:atI (ws.map V.str) (j:Int)=some (.str ws[j]):=zAc (by rw[mH,nL hj12];rfl);refine⟨_,rfl,_,rfl,wl,_,_,_,rfl,rfl,SqL.of (g3 _ _ hw),atj,_,rfl,acc,_,rfl,.inl ⟨SqL.of eu,λ pa hpa=>⟨d3,λ pt hpt=>?_⟩⟩⟩;have k4:=zAC (o:=.tup us) hpa;have k5:=zAC (o:=.tup [.str "gap", .str ws[j],.ref pa]) hpt;have k45:=k4.trans k5;have eix:ws.idxOf ws[j]=j:=zEg wnd (lV hj12);refine qq (.gap ws[j] (ns.map Atom.name)) _ _ (g3.trans k45) ⟨pt,pa,us,rfl,zAB,k5 _ _ zAB,by lia,Paired.mapP pu λ Ω Ω z=>z.mono k45.tk⟩ one ⟨List.getElem_mem hj12,?_,λ a ha=>?_⟩ ⟨ns,rfl,nnd,λ x hx=>?_,?_⟩ rfl
 ·rw[lC];lia
 ·obtain⟨x,hx,rfl⟩:=mB.mp ha
  obtain⟨i,hi,e⟩:=List.getElem_of_mem hx;obtain⟨y,e1,_,e3⟩:=hns i 65;rw[nL hi,e] at e1;cases e1;exact ib x e3
 ·obtain⟨i,hi,e⟩:=List.getElem_of_mem hx
  obtain⟨y,e1,_,e3⟩:=hns i 65;rw[nL hi,e] at e1;cases e1;exact e3
 ·unfold cntO
  rw[eix,lns]
abbrev zCy:Stmt:=top 40
theorem zA9:zAV ["_law_cells", "_law_words_here", "_law_bound", "_law_pool", "_law_counts", "_law_cell", "_law_rest", "_law_sign", "_law_cut", "_law_one", "_law_name", "_law_other"] ["_law_cells", "_law_words_here", "_law_bound", "_law_pool", "_law_counts"] (zAM zCy):=scI
theorem zId (z:Int):∃s:Str,atI [V.str "let", .str "add", .str "if", .str "let", .str "let", .str "say", .str "sub", .str "then"] (z % 8)=some (.str s)/\((∃o:Bin,s=o.s)\/s = "if" \/ s = "say" \/ s = "let"):=by
 have h0:=nW z (show (8:Int)≠0 by decide);have h1:=nX z (show (0:Int)<8 by decide);have h:z % 8=0\/z % 8=1\/z % 8=2\/z % 8=3\/z % 8=4\/z % 8=5\/z % 8=6\/z % 8=7:=by lia
 rcases h with h|h|h|h|h|h|h|h<;>rw[h]<;>refine⟨_,rfl,?_⟩<;>first|exact .inr (.inr (.inr rfl))|exact .inr (.inl rfl)|exact .inr (.inr (.inl rfl))|exact .inl ⟨.add,rfl⟩|exact .inl ⟨.mul,rfl⟩|exact .inl ⟨.thn,rfl⟩|exact .inl ⟨.sub,rfl⟩
def OutQ (pl:Addr) (ws:List Str) (cs:List Nat) (bd pw:List Str) (n:Nat) (H:Hp) (Q:VK):Prop:=∀(t:Tr) (v:V) (H':Hp) (pw' more:List Str),SbD pl H H'->H' pl=some (.lst (pw'.map V.str))->pw=pw'++more->more.length=nlet t->Rep H' t v->t.size<=n->t.good (λ x=>x∈ws)->LOk (cntO ws cs) t bd->Q v H'
def zDj (K:W.Frag) (n:Nat):Sp:=λ vs H Q Ω=>E10 λ(a wl bl pl cl:Addr) (cells:List Int) (ws bd pw:List Str) (cs:List Nat)=>A8 (vs=[.ref a,.ref wl,.ref bl,.ref pl,.ref cl]) (SqL K H a (cells.map V.int)) (1<=cells.length) (cells.length<=n) (n<=12) (bd.length+n<=30) (LfI H wl bl pl cl ws bd pw cs) (OutQ pl ws cs bd pw (2 * cells.length - 1) H Q)
theorem zLx (F:Fun K "_law_left" "_law_left" zCy f fd) (z_len:mg "len" = none) (z_int:mg "int" = none) (zNZ:FnB P w K mg base k "_law_left_leaf" g1 gd1 ["_law_cell", "_law_words_here", "_law_bound", "_law_counts"] zGV)
  (zNa:FnB P w K mg base k "_law_left" f fd ["_law_cells", "_law_words_here", "_law_bound", "_law_pool", "_law_counts"] (zDj K n)):FnOk P w K mg base CX0 (k+1) f fd ["_law_cells", "_law_words_here", "_law_bound", "_law_pool", "_law_counts"] (zDj K (n+1)):=by
 refine F.ok zA9 69 58
 ·obtain⟨a,wl,bl,pl,cl,cells,ws,bd,pw,cs,rfl,_⟩:=h
  rfl
 obtain⟨a,wl,bl,pl,cl,cells,ws,bd,pw,cs,rfl,hS,h1,hn,h12,hbn,I0,qq⟩:=h
 refine⟨_,(Sd.un (zAF (pSS (i:=5) zA9.nd (zBY (r:=rIxL K) zAd ⟨pv 0⟩ ⟨zAG⟩ 73))
  (zAF (pSS (i:=6) zA9.nd ⟨zAh (r:=rSlL K) zBU (pv 0) (zAf zAG) zAy⟩)
  (zAF (zAe ⟨zAJ op_eq (cL z_len (zAA (pv 6) zAD)) zAG 82⟩ (zAS (zAX ⟨pe_cl zNZ hr (zAA (pv 5) (zAA 81 (zAA (pv 2) (zAA (pv 4) zAD))))⟩)) ⟨zAK⟩)
  (zAF (pSS (i:=7) zA9.nd (zBY (r:=rIxL K) zAd ⟨zGd [.str "let", .str "add", .str "if", .str "let", .str "let", .str "say", .str "sub", .str "then"] 84⟩ ⟨pe_op zAb (pv 5) zAG⟩ 73))
  (zAF (zAe ⟨(pw_or (zAJ op_eq (cL z_len (zAA (pv 6) zAD)) zAG 82) (zCg (zAJ op_eq (pv 7) zAP 82))).pt⟩ (zAF (zAe ⟨zAJ op_eq (pe_op zAb (pe_op zAZ (pv 5) zAG) zAG) zAG 82⟩ (zAS (zAX (zAg (zAI ⟨zAP⟩ (zAI ⟨pe_cl zNa hr (zAA (pv 6) (zAA 81 (zAA (pv 2) (zAA (pv 3) (zAA (pv 4) zAD)))))⟩ ⟨zAD⟩))))) ⟨zAK⟩)
  (zAS (zAX (zAg (zAI ⟨zAP⟩ (zAI (zAg (zAI ⟨zAP⟩ (zAI (zBY (r:=rIxL K) zAd ⟨pv 1⟩ ⟨pe_op zBl zAG (pe_op zAb (pe_op zAZ (pv 5) zAG) zAG)⟩ 73) (zAI (zAg ⟨zAD⟩) ⟨zAD⟩)))) (zAI ⟨pe_cl zNa hr (zAA (pv 6) (zAA 81 (zAA (pv 2) (zAA (pv 3) (zAA (pv 4) zAD)))))⟩ ⟨zAD⟩))))))) ⟨zAK⟩)
  (zAF (pSS (i:=8) zA9.nd ⟨pe_op zBl zAG (pe_op zAb (pe_op zAZ (pv 5) zAG) (pe_op zFz (cL z_len (zAA (pv 6) zAD)) zAG))⟩)
  (zAF (pSS (i:=9) zA9.nd ⟨pe_cl zNa hr (zAA (zAh (r:=rSlL K) zBU (pv 6) zAy (zAf (pv 8))) (zAA 81 (zAA (pv 2) (zAA (pv 3) (zAA (pv 4) zAD)))))⟩)
  (zAF (zAe ⟨(zBk (zAJ op_eq (pv 7) zAP 82) (zBE (zAJ op_gt (cL z_len (zAA (pv 3) zAD)) zAG 82))).pt⟩ (zAF (pSS (i:=10) zA9.nd ⟨zIq rM PySem.F.slot_list_pop PySem.F.type_list_pop zLL (pv 3)⟩)
  (zAS (zAX (zAg (zAI ⟨zAP⟩ (zAI ⟨pv 10⟩ (zAI ⟨pv 9⟩ (zAI ⟨pe_cl zNa hr (zAA (zAh (r:=rSlL K) zBU (pv 6) (zAf (pv 8)) zAy) (zAA 81 (zAA (pe_op zHO (zBA (zAA (pv 10) zAD):PE _ _ _) (pv 2)) (zAA (pv 3) (zAA (pv 4) zAD)))))⟩ ⟨zAD⟩)))))))) ⟨zAK⟩)
  (zAF (pSS (i:=11) zA9.nd ⟨pe_cl zNa hr (zAA (zAh (r:=rSlL K) zBU (pv 6) (zAf (pv 8)) zAy) (zAA 81 (zAA (pv 2) (zAA (pv 3) (zAA (pv 4) zAD)))))⟩)
  (zAF (zAe ⟨zAJ op_eq (pv 7) zAP 82⟩ (zAS (zAX (zAg (zAI ⟨zAP⟩ (zAI ⟨pv 9⟩ (zAI (zAg (zAI ⟨zAP⟩ (zAI (zBY (r:=rIxL K) zAd ⟨pv 1⟩ ⟨pe_op zBl zAG (pe_op zAb (pe_op zAZ (pv 5) zAG) zAG)⟩ 73) (zAI (zAg ⟨zAD⟩) ⟨zAD⟩)))) (zAI ⟨pv 11⟩ ⟨zAD⟩))))))) ⟨zAK⟩)
  (zAS (zAX (zAg (zAI (zBY (r:=rIxL K) zAd (zDM (zAI ⟨pv 7⟩ (zAI ⟨zAP⟩ ⟨zAD⟩))) (zBq zJy 84 z_int PyProof.Rows.boot_int (zAI ⟨zA6 op_eq (pv 7) zAP 82⟩ ⟨zAD⟩)) 73) (zAI ⟨pv 9⟩ (zAI ⟨pv 11⟩ ⟨zAD⟩))))))))))))))))),?_⟩
 have z0:0<=sizeLine:=lX _;have d2:2<=sizeLine:=by decide
 have d3:3<=sizeLine:=by decide
 have d4:4<=sizeLine:=by decide
 have f8:(0:Int)<8/\(8:Int)<1073741824:=85;have f16:(0:Int)<16/\(16:Int)<1073741824:=85;have f64:(0:Int)<64/\(64:Int)<1073741824:=85;have lw:=I0.lw
 have gapc:∀z:Int,∃x,x∈ws/\atI (ws.map V.str) (3+z % 3)=some (.str x)/\cntO ws cs x=0:=λ z=>by
  have b0:=nW z (show (3:Int)≠0 by decide);have b1:=nX z (show (0:Int)<3 by decide);obtain⟨x,ex,atx⟩:=pickI (L:=ws) (i:=3+z % 3) 65 65;refine⟨x,lK ex,atx,?_⟩;unfold cntO;rw[zEg I0.wn ex];exact I0.co.2 _ 65
 have gapL:∀{x:Str}(bd:List Str),cntO ws cs x=0->LOk (cntO ws cs) (.gap x []) bd:=λ bd h=>⟨[],rfl,List.nodup_nil,(λ y hy=>nomatch hy),h.symm⟩
 obtain⟨c,rest,rfl⟩:∃c rest,cells=c::rest:=by
  cases cells with
  |nil=>simp at h1
  |cons c r=>exact⟨c,r,rfl⟩
 have at0:atI ((c::rest).map V.int) 0=some (.int c):=zAc (j:=0) rfl;refine⟨_,rfl,a,_,0,_,rfl,rfl,hS,at0,?_⟩;refine⟨_,rfl,1,rfl,a,_,rfl,hS,λ pr hpr=>?_⟩;rw[zJr];have k1:=zAC (o:=.lst (rest.map V.int)) hpr;have er:=@zAB H pr (.lst (rest.map V.int));have npr:pr≠pl:=λ z=>by rw[z,I0.hp] at hpr;cases hpr
 show tSeq _ _ _ _ (upd H pr (.lst (rest.map V.int)));generalize upd H pr _=H1 at k1 er ⊢;rw[mK] at hn;rw[mK] at qq;have I1:=I0.same k1;refine⟨_,rfl,pr,_,rfl,.inl (SqL.of er),rfl,_,rfl,ite2 (λ e0=>?_) (λ e0=>?_)⟩
 ·exact⟨_,rfl,_,rfl,_,rfl,_,rfl,c,wl,bl,cl,ws,bd,cs,rfl,I1.hw,I1.hb,I1.hc,I1.co,I1.lw,I1.wn,I1.bn,by lia,I1.ib,λ t v H2 g2 r2 s2 a2 b2 n2=>qq t v H2 pw [] (k1.trans g2).sd (g2 _ _ I1.hp) (nN _).symm n2.symm r2 65 a2 b2⟩
 have hr1:1<=rest.length:=by
  rcases Nat.eq_zero_or_pos rest.length with h|h
  ·exact absurd (lT (by rw[lC,h];rfl)) e0
  ·exact h
 obtain⟨sg,atsg,hsg⟩:=zId c;refine⟨(by show 8<=sizeLine;decide),λ pq hpq=>?_⟩;have k2:=zAC (o:=.lst [.str "let", .str "add", .str "if", .str "let", .str "let", .str "say", .str "sub", .str "then"]) hpq;refine⟨_,rfl,_,_,rfl,rfl,(show (0:Int)<8 by decide),pq,_,_,_,rfl,rfl,SqL.of zAB,atsg,?_⟩;have k12:=k1.trans k2;have er2:=k2 _ _ er;show tSeq _ _ _ _ (upd H1 pq _);generalize upd H1 pq _=H2 at k12 er2 ⊢;have I2:=I0.same k12;have n12:n<=12:=by lia
 refine⟨_,rfl,pr,_,rfl,.inl (SqL.of er2),rfl,_,rfl,ite2 (λ Ω=>iteT ?_) (λ e1=>⟨_,rfl,rfl,_,rfl,ite2 91 (λ e2=>?_)⟩)⟩
 iterate 2
  refine⟨_,rfl,_,_,rfl,rfl,f8,_,_,rfl,rfl,(show (0:Int)<2 by decide),rfl,_,rfl,ite2 91 91⟩
  ·refine⟨_,rfl,_,rfl,_,rfl,_,rfl,_,rfl,pr,wl,bl,pl,cl,rest,ws,bd,pw,cs,rfl,SqL.of er2,hr1,by lia,n12,by lia,I2,λ t1 v1 H4 pw' more g4 e4 i4 n4 r1 s1 a1 b1=>⟨d2,λ pt hpt=>?_⟩⟩
   have k7:=zAC (o:=.tup [.str "say", v1]) hpt;refine qq (.say t1) _ _ pw' more (k12.sd.trans (g4.trans k7.sd)) (k7 _ _ e4) i4 n4 ⟨pt,v1,rfl,zAB,r1.mono k7.tk⟩ ?_ a1 b1;show t1.size+1<=_
   lia
  ·obtain⟨x,hx,atx,cx⟩:=gapc (c / 16)
   refine⟨_,rfl,_,rfl,_,_,rfl,rfl,f16,_,_,rfl,rfl,(show (0:Int)<3 by decide),_,_,rfl,rfl,wl,_,_,_,rfl,rfl,SqL.of I2.hw,atx,z0,λ pa hpa=>⟨d3,λ pg hpg=>?_⟩⟩;have kg:=(zAC (o:=.tup []) hpa).trans (zAC (o:=.tup [.str "gap", .str x,.ref pa]) hpg);have epa:(upd (upd H2 pa (.tup [])) pg (.tup [.str "gap", .str x,.ref pa])) pa=some (.tup []):=zAC hpg _ _ zAB;have epg:=@zAB (upd H2 pa (.tup [])) pg (.tup [.str "gap", .str x,.ref pa]);generalize upd (upd H2 pa _) pg _=H3 at kg epa epg ⊢;have rg:Rep H3 (.gap x []) (.ref pg):=⟨pg,pa,[],rfl,epg,epa,by decide,.nil⟩;refine⟨_,rfl,_,rfl,_,rfl,_,rfl,_,rfl,pr,wl,bl,pl,cl,rest,ws,bd,pw,cs,rfl,SqL.of (kg _ _ er2),hr1,by lia,n12,by lia,I2.same kg,λ t1 v1 H4 pw' more g4 e4 i4 n4 r1 s1 a1 b1=>⟨d3,λ pt hpt=>?_⟩⟩;have k7:=zAC (o:=.tup [.str "mul", .ref pg,v1]) hpt;refine qq (.bin .mul (.gap x []) t1) _ _ pw' more ((k12.trans kg).sd.trans (g4.trans k7.sd)) (k7 _ _ e4) i4 (by simp[nlet,n4]) ⟨pt,.ref pg,v1,rfl,zAB,rg.mono ((g4.tkl (I2.same kg).hp).trans k7.tk),r1.mono k7.tk⟩ ?_ ⟨⟨hx,lX _,(λ y hy=>nomatch hy)⟩,a1⟩ ⟨gapL bd cx,b1⟩
   show 1+t1.size+1<=_
   lia
 have hr2:2<=rest.length:=by
  rcases Nat.lt_or_ge rest.length 2 with h|h
  ·exact absurd (lT (by rw[lC,show rest.length=1 by lia];rfl)) e1
  ·exact h
 have hns:sg ≠ "say" := λ z=>e2 (lT (by rw[z]));have m0:=nW (c / 8) (show (rest.length:Int) - 1≠0 by lia);have m1:=nX (c / 8) (show (0:Int)<(rest.length:Int) - 1 by lia);obtain⟨cn,ecn⟩:∃cn:Nat,(cn:Int)=1+c / 8 % ((rest.length:Int) - 1):=⟨(1+c / 8 % ((rest.length:Int) - 1)).toNat,by lia⟩;have lm:((rest.map V.int).length:Int)=(rest.length:Int):=by rw[lC]
 refine⟨_,rfl,_,_,rfl,rfl,f8,_,rfl,pr,_,rfl,.inl (SqL.of er2),_,_,rfl,rfl,_,_,rfl,rfl,(by show (0:Int)<((rest.map V.int).length:Int) - 1;lia),_,_,rfl,rfl,?_⟩;dsimp only;rw[lm,←ecn];have c1:1<=cn:=by lia
 have c2:cn+1<=rest.length:=by lia
 refine⟨_,rfl,_,rfl,_,rfl,pr,_,rfl,SqL.of er2,λ p1 hp1=>?_⟩;rw[zLW rest cn 65];have k3:=zAC (o:=.lst ((rest.take cn).map V.int)) hp1;have e3:=@zAB H2 p1 (.lst ((rest.take cn).map V.int));generalize upd H2 p1 _=H3 at k3 e3 ⊢;refine⟨_,rfl,_,rfl,_,rfl,_,rfl,p1,wl,bl,pl,cl,rest.take cn,ws,bd,pw,cs,rfl,SqL.of e3,by simp;lia,by simp;lia,n12,by lia,I2.same k3,λ t1 v1 H4 pw4 mo4 g4 ep4 i4 n4 r1 s1 a1 b1=>?_⟩;have I4:=(I2.same k3).to g4 ep4 i4;have er4:H4 pr=_:=g4 _ _ npr (k3 _ _ er2);have G4:SbD pl H H4:=(k12.trans k3).sd.trans g4;clear g4 ep4;rw[mL,nV 65] at s1;have lp4:(((pw4.map V.str).length:Nat):Int)=(pw4.length:Int):=by rw[lC]
 refine⟨_,rfl,rfl,_,rfl,ite2 (λ Ω=>⟨_,rfl,pl,_,rfl,.inl (SqL.of I4.hp),_,_,rfl,rfl,_,rfl,ite2 (λ hlt=>?_) 91⟩) 91⟩
 ·have lb:0<pw4.length:=by
   have:=lS hlt;rw[lC] at this
   lia
  obtain⟨init,x,rfl⟩:∃init x,pw4=init++[x]:=by
   rcases List.eq_nil_or_concat pw4 with h|⟨i,x,h⟩
   ·rw[h] at lb;cases lb
   ·exact⟨i,x,by rw[h,List.concat_eq_append]⟩
  have hlast:((init++[x]).map V.str)[((init++[x]).map V.str).length - 1]?=some (.str x):=by simp
  have hdrop:((init++[x]).map V.str).dropLast=init.map V.str:=by simp
  obtain⟨hx,hxb⟩:=I4.ip x 59
  have hxi:x∉init:=λ z=>by
   have:=(List.nodup_append.mp I4.pn).2.2 x z x 59;exact this rfl
  refine⟨_,rfl,.inl ⟨rfl,_,SqL.of I4.hp⟩,pl,_,_,rfl,rfl,I4.hp,hlast,?_⟩;rw[hdrop];have I5:=I4.to (pw':=init) (more:=[x]) (SbD.set (H:=H4) (.lst (init.map V.str))) zAB rfl;have tk5:Tk H4 (upd H4 pl (.lst (init.map V.str))):=Tk.lst I4.hp;have er5:(upd H4 pl (.lst (init.map V.str))) pr=_:=(SbD.set (H:=H4) (.lst (init.map V.str))) _ _ npr er4;have G5:=G4.trans (SbD.set (H:=H4) (.lst (init.map V.str)));have r15:=r1.mono tk5;clear tk5;generalize upd H4 pl _=H5 at I5 er5 G5 r15 ⊢;refine⟨_,rfl,_,rfl,_,rfl,_,rfl,_,rfl,pr,_,rfl,SqL.of er5,λ p2 hp2=>?_⟩;rw[zJq rest cn 65];have k6:=zAC (o:=.lst ((rest.drop cn).map V.int)) hp2;have e6:=@zAB H5 p2 (.lst ((rest.drop cn).map V.int));generalize upd H5 p2 _=H6 at k6 e6 ⊢;have I6:=I5.same k6;refine⟨_,rfl,_,rfl,(by show 1<=sizeLine;decide),λ b1' hb1=>?_⟩;have k7:=zAC (o:=.lst [.str x]) hb1;have e7:=@zAB H6 b1' (.lst [.str x]);generalize upd H6 b1' _=H7 at k7 e7 ⊢;have I7:=I6.same k7;refine⟨_,rfl,b1',bl,_,_,rfl,rfl,e7,I7.hb,zAw (by simp;lia),λ b2' hb2=>?_⟩;have eL : [V.str x]++bd.map V.str=(x::bd).map V.str:=rfl;rw[eL];have nb2:b2'≠pl:=λ z=>by rw[z,I7.hp] at hb2;cases hb2
  have k8:=zAC (o:=.lst ((x::bd).map V.str)) hb2;have e8:=@zAB H7 b2' (.lst ((x::bd).map V.str));generalize upd H7 b2' _=H8 at k8 e8 ⊢;have k68:=k6.trans (k7.trans k8);have I8':=I7.same k8;have I8:LfI H8 wl b2' pl cl ws (x::bd) init cs:=⟨I8'.hw,e8,I8'.hp,I8'.hc,I8'.nw,nb2,I8'.nc,I8'.co,I8'.lw,I8'.wn,nY.mpr ⟨hxb,I8'.bn⟩,λ y hy=>(lM.mp hy).elim (λ z=>z▸hx) (I8'.ib y),I8'.pn,λ y hy=>⟨(I8'.ip y hy).1,λ z=>(lM.mp z).elim (λ e=>hxi (e▸hy)) (I8'.ip y hy).2⟩⟩;have r18:=r15.mono k68.tk;refine⟨_,rfl,_,rfl,p2,wl,b2',pl,cl,rest.drop cn,ws,x::bd,init,cs,rfl,SqL.of ((k7.trans k8) _ _ e6),by simp;lia,by simp;lia,n12,by simp;lia,I8,λ t2 v2 H9 pw9 mo9 g9 ep9 i9 n9 r2 s2 a2 b2=>⟨d4,λ pt hpt=>?_⟩⟩;rw[mT] at s2;have k10:=zAC (o:=.tup [.str "let", .str x,v1,v2]) hpt;refine qq (.lett x t1 t2) _ _ pw9 (mo9++([x]++mo4)) (G5.trans (k68.sd.trans (g9.trans k10.sd))) (k10 _ _ ep9) (by rw[i4,i9];simp) (by simp[nlet,n4,n9];lia) ⟨pt,v1,v2,rfl,zAB,r18.mono ((g9.tkl I8.hp).trans k10.tk),r2.mono k10.tk⟩ ?_ ⟨hx,a1,a2⟩ ⟨hxb,b1,zCT (λ y=>by simp[or_comm]) b2⟩;show t1.size+t2.size+1<=_
  lia
 all_goals
  refine⟨_,rfl,_,rfl,_,rfl,pr,_,rfl,SqL.of er4,λ p2 hp2=>?_⟩;rw[zJq rest cn 65];have k5:=zAC (o:=.lst ((rest.drop cn).map V.int)) hp2;have e5:=@zAB H4 p2 (.lst ((rest.drop cn).map V.int));generalize upd H4 p2 _=H5 at k5 e5 ⊢;have I5:=I4.same k5;refine⟨_,rfl,_,rfl,_,rfl,_,rfl,p2,wl,bl,pl,cl,rest.drop cn,ws,bd,pw4,cs,rfl,SqL.of e5,by simp;lia,by simp;lia,n12,by lia,I5,λ t2 v2 H6 pw6 mo6 g6 ep6 i6 n6 r2 s2 a2 b2=>?_⟩;have I6:=I5.to g6 ep6 i6;have r16:=r1.mono (k5.tk.trans (g6.tkl I5.hp));have G6:=G4.trans (k5.sd.trans g6);clear g6;have i46:pw=pw6++(mo6++mo4):=by rw[i4,i6];simp
  have n46:(mo6++mo4).length=nlet t1+nlet t2:=by rw[mI,n4,n6];lia
  rw[mT] at s2;refine⟨_,rfl,rfl,_,rfl,ite2 91 (λ ni=>?_)⟩
  ·obtain⟨x,hx,atx,cx⟩:=gapc (c / 64)
   refine⟨_,rfl,_,rfl,_,rfl,_,_,rfl,rfl,f64,_,_,rfl,rfl,(show (0:Int)<3 by decide),_,_,rfl,rfl,wl,_,_,_,rfl,rfl,SqL.of I6.hw,atx,z0,λ pa hpa=>⟨d3,λ pg hpg=>⟨_,rfl,d4,λ pt hpt=>?_⟩⟩⟩;have kg1:=zAC (o:=.tup []) hpa;have kg2:=zAC (o:=.tup [.str "gap", .str x,.ref pa]) hpg;have k8:=zAC (o:=.tup [.str "if", v1,.ref pg,v2]) hpt;have k78:=kg1.trans (kg2.trans k8);refine qq (.ite t1 (.gap x []) t2) _ _ pw6 (mo6++mo4) (G6.trans k78.sd) (k78 _ _ ep6) i46 (by simp only[nlet];lia) ⟨pt,v1,.ref pg,v2,rfl,zAB,r16.mono k78.tk,⟨pg,pa,[],rfl,k8 _ _ zAB,(kg2.trans k8) _ _ zAB,by decide,.nil⟩,r2.mono k78.tk⟩ ?_ ⟨a1,⟨hx,lX _,(λ y hy=>nomatch hy)⟩,a2⟩ ⟨b1,gapL bd cx,b2⟩
   show t1.size+1+t2.size+1<=_
   lia
  ·obtain⟨o,eo⟩:∃o:Bin,atI [V.str sg,V.str "then"] (if decide (V.str sg=V.str "let")=true then 1 else 0)=some (.str o.s):=by
    rcases hsg with ⟨o,rfl⟩|h|h|h
    ·have:¬decide (V.str o.s=V.str "let")=true:=by cases o<;>right
     rw[if_neg this];exact⟨o,rfl⟩
    ·exact absurd (lT (by rw[h])) ni
    ·exact absurd h hns
    ·rw[if_pos (decide_eq_true (by rw[h]))]
     exact⟨.thn,rfl⟩
   refine⟨_,rfl,d2,λ pz hpz=>⟨_,rfl,rfl,.inr ⟨_,rfl,pz,_,_,_,rfl,rfl,SqL.of zAB,eo,_,rfl,_,rfl,d3,λ pt hpt=>?_⟩⟩⟩;have k7:=zAC (o:=.lst [.str sg,.str "then"]) hpz;have k8:=zAC (o:=.tup [.str o.s,v1,v2]) hpt;have k78:=k7.trans k8;refine qq (.bin o t1 t2) _ _ pw6 (mo6++mo4) (G6.trans k78.sd) (k78 _ _ ep6) i46 n46 ⟨pt,v1,v2,rfl,zAB,r16.mono k78.tk,r2.mono k78.tk⟩ ?_ ⟨a1,a2⟩ ⟨b1,b2⟩;show t1.size+t2.size+1<=_
   lia
theorem zI9 {k:Nat}{f:Addr}{fd:FuncData}:FnOk P w K mg base CX0 k f fd ["_law_cells", "_law_words_here", "_law_bound", "_law_pool", "_law_counts"] (zDj K 0):=by
 have no:∀vs H Q E,¬zDj K 0 vs H Q E:=λ vs H Q E h=>by
  obtain⟨a,wl,bl,pl,cl,cells,ws,bd,pw,cs,_,_,h1,h0,_⟩:=h
  lia
 exact⟨λ vs H Q E h=>absurd h (no vs H Q E),λ A outer s H args us vs Q E Ω Ω Ω Ω h=>absurd h (no vs H Q E)⟩
theorem zHn (F:Fun K "_law_left" "_law_left" zCy f fd) (b:Binds K fd ["_law_cells", "_law_words_here", "_law_bound", "_law_pool", "_law_counts"] []) (m:mg "_law_left" = some (.ref f)) (z_len:mg "len" = none) (z_int:mg "int" = none)
  (G:FnB P w K mg base k "_law_left_leaf" g1 gd1 ["_law_cell", "_law_words_here", "_law_bound", "_law_counts"] zGV):∀n:Nat,FnB P w K mg base (k+n) "_law_left" f fd ["_law_cells", "_law_words_here", "_law_bound", "_law_pool", "_law_counts"] (zDj K n)
 |0=>⟨zI9,b,F.kp,m⟩
 |n+1=>⟨zLx F z_len z_int (G.up (Nat.le_add_right _ _)) (zHn F b m z_len z_int G n),b,F.kp,m⟩
abbrev zDV:Stmt:=top 42
theorem zCr:zAV ["_law_tree_here", "_law_put_here", "_law_some", "_law_part"] ["_law_tree_here", "_law_put_here"] (zAM zDV):=scI
def WkD (W:List Str) (kvs:List 90):Prop:=∀x v,valV kvs (Sum.inr x:Key)=some v->∃y,v = .str y/\y∈W
def zDE (n:Nat):Sp:=λ vs H Q Ω=>E5 λ(t:Tr) (v:V) (d:Addr) (kvs:List (Key × V)) (W:List Str)=>A8 (vs=[v,.ref d]) (t.size<=n) (Rep H t v) (ngT t) (t.good (λ x=>x∈W)) (H d=some 92) (WkD W kvs) (∀t' v' H',Same H H'->Rep H' t' v'->ngT t'->t'.good (λ x=>x∈W)->t'.size=t.size->t'.dep<=t.dep->Q v' H')
theorem zLv (F:Fun K "_law_put" "_law_put" zDV f fd) (z_isinstance:mg "isinstance" = none) (z_tuple:mg "tuple" = none)
  (zNb:FnB P w K mg base k "_law_put" f fd ["_law_tree_here", "_law_put_here"] (zDE n)):FnOk P w K mg base CX0 (k+1) f fd ["_law_tree_here", "_law_put_here"] (zDE (n+1)):=by
 refine F.ok zCr 69 58
 ·obtain⟨t,v,d,kvs,W,rfl,_⟩:=h
  rfl
 obtain⟨t,v,d,kvs,W,rfl,hn,hR,hg,hG,hd,hk,q⟩:=h;have hu:=hu_of hr
 refine⟨_,(zAE (ps_if (zAJ op_eq 57 zAP 82) (zAH (zAU (zAk (zAA zAP (zAA (zHM hu 81 57 57 ⟨rfl,rfl,rfl,rfl⟩) zAD)):PE _ _ _))) zAK)
  (zAE (pS (i:=2) zCr.nd (zBA zAD:PE _ _ _))
  (zAE (zAj PassesOwn.never rfl (zB1 (pv 0)) (pGn (i:=3) zCr.nd) (zAE (ps_if (zAp (cI z_isinstance z_tuple rF (pv 3))) (zAH (pS (i:=3) zCr.nd (pe_cl zNb hr (zAA (pv 3) (zAA 81 zAD))))) zAK)
  (zAH (pAp (pv 2) (pv 3)))))
  (zAH (zAU (zBK zA3 84 z_tuple rF 87)))))),?_⟩
 have d0:0<=sizeLine:=by decide
 have d2:2<=sizeLine:=by decide
 obtain⟨a,hd_,us,rfl,ha,h0,h1,h2,hpl,hps,hus,build⟩:=hR.row (ng_kd hg);have at0:atI (hd_++us) 0=some (.str t.kd.s):=zAc (j:=0) (by rw[mQ 65];exact h0);refine⟨_,rfl,a,_,0,_,rfl,rfl,SqT.of ha,at0,rfl,_,rfl,ite2 77 77⟩
 ·obtain⟨x,rfl⟩:=kdS (k:=.name) (Kd.eq_iff.mp (lS c))
  obtain⟨a',e',ha'⟩:=hR;cases e';refine⟨_,rfl,d,rfl,.inl ⟨kvs,.inl hd⟩,_,rfl,a,_,1,_,rfl,rfl,SqT.of ha',rfl,_,rfl,a,_,1,_,rfl,rfl,SqT.of ha',rfl,_,DGet.k (k:=Sum.inr x) hd,d2,λ pt hpt=>?_⟩
  obtain⟨y,ey,hy⟩:∃y,(valV kvs (Sum.inr x:Key)).getD (.str x) = .str y/\y∈W:=by
   cases e:valV kvs (Sum.inr x:Key) with
   |none=>exact⟨x,rfl,hG⟩
   |some v=>obtain⟨y,rfl,hy⟩:=hk x v e;exact⟨y,rfl,hy⟩
  rw[ey];exact q (.name y) _ _ (zAC hpt) ⟨pt,rfl,zAB⟩ trivial hy rfl (lQ _)
 refine⟨d0,λ sl hsl=>?_⟩;have g0:=zAC (o:=.lst []) hsl;have es0:=@zAB H sl (.lst []);show tSeq _ _ _ _ (upd H sl (.lst []));generalize upd H sl _=H0 at g0 es0 ⊢;refine⟨_,rfl,a,rfl,⟨_,SqT.of (g0 _ _ ha)⟩,?_⟩;refine zB9 (xs:=hd_++us) (λ i σ' H'=>E3 λ(s3:Option V) (vs:List V) (ps:List Tr)=>A6 (σ'=[some (.ref a),some (.ref d),some (.ref sl),s3]) (Same H H') (H' sl=some (.lst vs)) (RowP H' hd_ i vs ps) (∀p∈ps,(ngT p/\p.good (λ x=>x∈W))/\p.dep+1<=t.dep) (szT ps=szT (t.parts.take (i - hd_.length)))) ⟨none,[],[],rfl,g0,es0,RowP.zero,(λ p hp=>nomatch hp),by rw[Nat.zero_sub];rfl⟩ ?_ ?_ ?_
 ·rintro i σ' H' _ ⟨s3,vs,ps,rfl,g,es,rp,hp,sz⟩
  exact SqT.of (g _ _ ha)
 ·rintro i x σ' H' hx ⟨s3,vs,ps,rfl,g,es,rp,hp,sz⟩
  have hi:i<(hd_++us).length:=(lI.mp hx).1;rw[mI] at hi;have lvs:=rp.len;rcases zC3 hx with hx|⟨hge,hx⟩
  ·have hi2:=(lI.mp hx).1
   have sz2:szT ps=szT (t.parts.take (i+1 - hd_.length)):=by rw[sz,show i - hd_.length=0 by lia,show i+1 - hd_.length=0 by lia]
   rcases hpl x (lK hx) with ⟨y,rfl⟩|⟨y,rfl⟩
   ·refine⟨_,rfl,_, "tuple", _,false,rfl,.str y,rfl,_,rfl,iteF ?_⟩
    refine⟨_,rfl,.inl ⟨rfl,_,SqL.of es⟩,_,rfl,sl,_,_,rfl,rfl,es,zAO 65,?_⟩;exact⟨_,_,ps,rfl,zAY g hsl,zAB,(rp.head hx).mono (Tk.lst es),hp,sz2⟩
   ·refine⟨_,rfl,_, "tuple", _,false,rfl,.int y,rfl,_,rfl,iteF ?_⟩
    refine⟨_,rfl,.inl ⟨rfl,_,SqL.of es⟩,_,rfl,sl,_,_,rfl,rfl,es,zAO 65,?_⟩;exact⟨_,_,ps,rfl,zAY g hsl,zAB,(rp.head hx).mono (Tk.lst es),hp,sz2⟩
  ·obtain⟨p,ep,rp0⟩:=zAW hps hx
   have pm:=lK ep;have psz:=zET pm;have rp':=rp0.mono g.tk;obtain⟨ai,hsi,usi,rfl,hai,_,_⟩:=id rp'.all;refine⟨_,rfl,_, "tuple", _,true,rfl,.tup hai,rfl,_,rfl,iteT ?_⟩;refine⟨_,rfl,_,rfl,p,_,d,kvs,W,rfl,by lia,rp',zDr hg pm,zCi hG pm,g _ _ hd,hk,λ p2 v5 H5 g5 r5 n5 gd5 sz5 dp5=>?_⟩;have es5:=g5 _ _ es;refine⟨_,rfl,.inl ⟨rfl,_,SqL.of es5⟩,_,rfl,sl,_,_,rfl,rfl,es5,zAO 65,?_⟩;have tk:Tk H5 (upd H5 sl (.lst (vs++[v5]))):=Tk.lst es5;refine⟨_,_,ps++[p2],rfl,zAY (g.trans g5) hsl,zAB,((rp.mono (g5.tk.trans tk)).part hge (r5.mono tk)),λ z hz=>?_,?_⟩
   ·rcases lJ.mp hz with h|h
    ·exact hp z h
    ·rw[mO.mp h];exact⟨⟨n5,gd5⟩,by have:=zB4 pm;lia⟩
   ·rw[show i+1 - hd_.length=i - hd_.length+1 by lia,zAT ep,zCZ,zCZ,sz]
    show _+(p2.size+0)=_+(p.size+0);rw[sz5]
 ·rintro σ' H' ⟨s3,vs,ps,rfl,g,es,rp,hp,sz⟩
  obtain⟨ws,rfl,pw,lp⟩:=rp.full;have lps:=hps.length;refine⟨_,rfl,sl,_,rfl,.inl ⟨SqL.of es,λ p hp'=>?_⟩⟩;have k9:=zAC (o:=.tup (hd_++ws)) hp';obtain⟨o1,o2,o3⟩:=zG4 (ps:=ps) hg hG 65 (λ p h=>(hp p h).1);refine q (t.withP ps) _ _ (g.trans k9) (build zAB (Paired.mapP pw λ Ω Ω z=>z.mono k9.tk) 65) o1 o2 ?_ (zEC (ng_kd hg) 65 (zCV t) (λ p h=>(hp p h).2));rw[o3,sz,mI,Nat.add_sub_cancel_left,←lps,mM];exact zDQ t
theorem zI7 {k:Nat}{f:Addr}{fd:FuncData}:FnOk P w K mg base CX0 k f fd ["_law_tree_here", "_law_put_here"] (zDE 0):=by
 have no:∀vs H Q E,¬zDE 0 vs H Q E:=λ vs H Q E h=>by
  obtain⟨t,v,d,kvs,W,_,h0,_⟩:=h;have:=zAu t
  lia
 exact⟨λ vs H Q E h=>absurd h (no vs H Q E),λ A outer s H args us vs Q E Ω Ω Ω Ω h=>absurd h (no vs H Q E)⟩
theorem zHl (F:Fun K "_law_put" "_law_put" zDV f fd) (b:Binds K fd ["_law_tree_here", "_law_put_here"] []) (m:mg "_law_put" = some (.ref f)) (z_isinstance:mg "isinstance" = none) (z_tuple:mg "tuple" = none):∀n:Nat,FnB P w K mg base (k+n) "_law_put" f fd ["_law_tree_here", "_law_put_here"] (zDE n)
 |0=>⟨zI7,b,F.kp,m⟩
 |n+1=>⟨zLv F z_isinstance z_tuple (zHl F b m z_isinstance z_tuple n),b,F.kp,m⟩
abbrev zCu:Stmt:=top 45
theorem zCG:zAV ["_law_tree_here", "_law_many_here", "_law_part"] ["_law_tree_here"] (zAM zCu):=scI
abbrev zCw:Stmt:=top 46
theorem zEL:zAV ["_law_tree_here", "_law_part"] ["_law_tree_here"] (zAM zCw):=scI
abbrev zCz:Stmt:=top 44
theorem zCH:zAV ["_law_tree_here", "_law_at", "_law_other", "_law_some", "_law_part"] ["_law_tree_here", "_law_at", "_law_other"] (zAM zCz):=scI
def zCn (n:Nat):Sp:=λ vs H Q Ω=>E2 λ(t:Tr) (v:V)=>A5 (vs=[v]) (t.dep<=n) (Rep H t v) (ngT t) (∀(m:Int) H',Same H H'->1<=m->Q (.int m) H')
theorem zKZ (F:Fun K "_law_many" "_law_many" zCu f fd) (z_isinstance:mg "isinstance" = none) (z_tuple:mg "tuple" = none)
  (zNc:FnB P w K mg base k "_law_many" f fd ["_law_tree_here"] (zCn n)):FnOk P w K mg base CX0 (k+1) f fd ["_law_tree_here"] (zCn (n+1)):=by
 refine F.ok zCG 69 58
 ·obtain⟨t,v,rfl,_⟩:=h
  rfl
 obtain⟨t,v,rfl,hn,hR,hg,q⟩:=h
 refine⟨_,(zAE (pS (i:=1) zCG.nd zAG)
  (zAE (zAj PassesOwn.never rfl (zB1 (zAh zCE (pv 0) (zAf zAG) zAy)) (pGn (i:=2) zCG.nd) (zAH (ps_if (zAp (cI z_isinstance z_tuple rF (pv 2))) (zAH (pS (i:=1) zCG.nd (pe_op zBl 81 (pe_cl zNc hr 87)))) zAK)))
  (zAH (zAU 81)))),?_⟩
 obtain⟨a,hd,us,rfl,ha,h0,h1,h2,hpl,hps,hus,_⟩:=hR.row (ng_kd hg);obtain⟨hc,ec⟩:=cutT1 (xs:=hd++us) (by rw[mI];lia);refine⟨_,rfl,1,rfl,a,_,rfl,ha,hc,λ p H1 g1 e1=>?_⟩;rw[ec] at e1;refine⟨p,rfl,⟨_,SqT.of e1⟩,?_⟩;refine zB9 (xs:=(hd++us).drop 1) (λ i σ' H'=>E2 λ(m:Int) (s2:Option V)=>A3 (σ'=[some (.ref a),some (.int m),s2]) (Same H1 H') (1<=m)) ⟨1,none,rfl,.refl _,by decide⟩ ?_ ?_ ?_
 ·rintro i σ' H' _ ⟨m,s2,rfl,g,hm⟩
  exact SqT.of (g _ _ e1)
 ·rintro i x σ' H' hx ⟨m,s2,rfl,g,hm⟩
  rw[List.getElem?_drop] at hx;rcases zC3 hx with hx|⟨hge,hx⟩
  ·rcases hpl x (lK hx) with ⟨y,rfl⟩|⟨y,rfl⟩
   ·exact⟨_,rfl,_, "tuple", _,false,rfl,.str y,rfl,_,rfl,iteF ⟨m,_,rfl,g,hm⟩⟩
   ·exact⟨_,rfl,_, "tuple", _,false,rfl,.int y,rfl,_,rfl,iteF ⟨m,_,rfl,g,hm⟩⟩
  ·obtain⟨p',ep,rp0⟩:=zAW hps hx
   have pm:=lK ep;have psz:=zB4 pm;have rp':=rp0.mono (g1.trans g).tk;obtain⟨ai,hsi,usi,rfl,hai,_,_⟩:=id rp'.all;refine⟨_,rfl,_, "tuple", _,true,rfl,.tup hai,rfl,_,rfl,iteT ?_⟩;exact⟨_,rfl,_,rfl,p',_,rfl,by lia,rp',zDr hg pm,λ m2 H2 g2 hm2=>⟨_,_,rfl,rfl,m+m2,_,rfl,g.trans g2,by lia⟩⟩
 ·rintro σ' H' ⟨m,s2,rfl,g,hm⟩
  exact⟨_,rfl,q m H' (g1.trans g) hm⟩
theorem zH5 {k:Nat}{f:Addr}{fd:FuncData}:FnOk P w K mg base CX0 k f fd ["_law_tree_here"] (zCn 0):=by
 have no:∀vs H Q E,¬zCn 0 vs H Q E:=λ vs H Q E h=>by
  obtain⟨t,v,_,h0,_⟩:=h;have:=zCV t
  lia
 exact⟨λ vs H Q E h=>absurd h (no vs H Q E),λ A outer s H args us vs Q E Ω Ω Ω Ω h=>absurd h (no vs H Q E)⟩
theorem zGP (F:Fun K "_law_many" "_law_many" zCu f fd) (b:Binds K fd ["_law_tree_here"] []) (m:mg "_law_many" = some (.ref f)) (z_isinstance:mg "isinstance" = none) (z_tuple:mg "tuple" = none):∀n:Nat,FnB P w K mg base (k+n) "_law_many" f fd ["_law_tree_here"] (zCn n)
 |0=>⟨zH5,b,F.kp,m⟩
 |n+1=>⟨zKZ F z_isinstance z_tuple (zGP F b m z_isinstance z_tuple n),b,F.kp,m⟩
def zCo (n:Nat):Sp:=λ vs H Q Ω=>E2 λ(t:Tr) (v:V)=>A5 (vs=[v]) (t.dep<=n) (Rep H t v) (ngT t) (∀(z:Bool) H',Same H H'->(z=false↔QuT t)->Q (.bl z) H')
theorem zKa (F:Fun K "_law_loud" "_law_loud" zCw f fd) (z_isinstance:mg "isinstance" = none) (z_tuple:mg "tuple" = none)
  (zNd:FnB P w K mg base k "_law_loud" f fd ["_law_tree_here"] (zCo n)):FnOk P w K mg base CX0 (k+1) f fd ["_law_tree_here"] (zCo (n+1)):=by
 refine F.ok zEL 69 58
 ·obtain⟨t,v,rfl,_⟩:=h
  rfl
 obtain⟨t,v,rfl,hn,hR,hg,q⟩:=h
 refine⟨_,(zAE (ps_if (zAJ (r:=rIn K false) zBy 57 (zFO [.str "say", .str "ask", .str "stop"] 84:PE _ _ _) rfl) (zAH (zAU pe_bl)) zAK)
  (zAE (zAj PassesOwn.never rfl (zB1 (zAh zCE (pv 0) (zAf zAG) zAy)) (pGn (i:=1) zEL.nd) (zAH (ps_if (zBk (zAp (cI z_isinstance z_tuple rF 81)) (zBE (zAp (pe_cl zNd hr (zAA 81 zAD))))).pt (zAH (zAU pe_bl)) zAK)))
  (zAH (zAU pe_bl)))),?_⟩
 obtain⟨a,hd,us,rfl,ha,h0,h1,h2,hpl,hps,hus,_⟩:=hR.row (ng_kd hg);have at0:atI (hd++us) 0=some (.str t.kd.s):=zAc (j:=0) (by rw[mQ 65];exact h0);have hq:=zLi hg;refine⟨_,rfl,a,_,0,_,rfl,rfl,SqT.of ha,at0,(by show 3<=sizeLine;decide),λ pt hpt=>⟨pt,loudV,rfl,.inr (SqT.of zAB),rfl,rfl,_,rfl,?_⟩⟩;have g0:=zAC (o:=.tup [.str "say", .str "ask", .str "stop"]) hpt;show (if inV (.str t.kd.s) loudV=true then _ else _);rw[zJY];refine ite2 (λ c=>q true _ g0 ⟨(λ z=>nomatch z),λ z=>?_⟩) 77
 ·rw[(hq.mp z).1] at c;cases c
 have hl:t.kd.loud=false:=by simpa using c
 have ha1:=g0 _ _ ha;generalize upd H pt _=H0 at g0 ha1 ⊢;obtain⟨hc,ec⟩:=cutT1 (xs:=hd++us) (by rw[mI];lia);refine⟨_,rfl,1,rfl,a,_,rfl,ha1,hc,λ p H1 g1 e1=>?_⟩;rw[ec] at e1;refine⟨p,rfl,⟨_,SqT.of e1⟩,?_⟩;refine zB9 (xs:=(hd++us).drop 1) (λ i σ' H'=>∃(s2:Option V),A3 (σ'=[some (.ref a),s2]) (Same H1 H') (∀x∈t.parts.take (i+1 - hd.length),QuT x)) ⟨none,rfl,.refl _,λ x hx=>by rw[show 0+1 - hd.length=0 by lia] at hx;cases hx⟩ ?_ ?_ ?_
 ·rintro i σ' H' _ ⟨s2,rfl,g,hm⟩
  exact SqT.of (g _ _ e1)
 ·rintro i x σ' H' hx ⟨s2,rfl,g,hm⟩
  rw[List.getElem?_drop] at hx;rcases zC3 hx with hx|⟨hge,hx⟩
  ·have hi2:=(lI.mp hx).1
   have hm2:∀x∈t.parts.take (i+1+1 - hd.length),QuT x:=λ x hx=>by rw[show i+1+1 - hd.length=0 by lia] at hx;cases hx
   rcases hpl x (lK hx) with ⟨y,rfl⟩|⟨y,rfl⟩
   ·exact⟨_,rfl,_, "tuple", _,false,rfl,.str y,rfl,_,rfl,iteF (iteF ⟨_,rfl,g,hm2⟩)⟩
   ·exact⟨_,rfl,_, "tuple", _,false,rfl,.int y,rfl,_,rfl,iteF (iteF ⟨_,rfl,g,hm2⟩)⟩
  ·obtain⟨p',ep,rp0⟩:=zAW hps hx
   have pm:=lK ep;have psz:=zB4 pm;have rp':=rp0.mono (g0.trans (g1.trans g)).tk;obtain⟨ai,hsi,usi,rfl,hai,_,_⟩:=id rp'.all;refine⟨_,rfl,_, "tuple", _,true,rfl,.tup hai,rfl,_,rfl,iteT ?_⟩;refine⟨_,rfl,p',_,rfl,by lia,rp',zDr hg pm,λ z H2 g2 hz=>⟨z,rfl,?_⟩⟩;cases z with
   |true=>exact iteT (q true H2 (g0.trans (g1.trans (g.trans g2))) ⟨(λ z=>nomatch z),λ y=>nomatch hz.mpr ((hq.mp y).2 _ pm)⟩)
   |false =>
    refine iteF ⟨_,rfl,g.trans g2,λ x hx=>?_⟩;rw[show i+1+1 - hd.length=1+i - hd.length+1 by lia,zAT ep] at hx;rcases lJ.mp hx with h|h
    ·exact hm x (by rwa [show 1+i=i+1 by lia] at h)
    ·rw[mO.mp h];exact hz.mp rfl
 ·rintro σ' H' ⟨s2,rfl,g,hm⟩
  have lps:=hps.length;rw[mT,mI,show hd.length+us.length - 1+1 - hd.length=us.length by lia,←lps,mM] at hm;exact q false H' (g0.trans (g1.trans g)) ⟨λ Ω=>hq.mpr ⟨hl,hm⟩,λ Ω=>rfl⟩
theorem zH6 {k:Nat}{f:Addr}{fd:FuncData}:FnOk P w K mg base CX0 k f fd ["_law_tree_here"] (zCo 0):=by
 have no:∀vs H Q E,¬zCo 0 vs H Q E:=λ vs H Q E h=>by
  obtain⟨t,v,_,h0,_⟩:=h;have:=zCV t
  lia
 exact⟨λ vs H Q E h=>absurd h (no vs H Q E),λ A outer s H args us vs Q E Ω Ω Ω Ω h=>absurd h (no vs H Q E)⟩
theorem zGQ (F:Fun K "_law_loud" "_law_loud" zCw f fd) (b:Binds K fd ["_law_tree_here"] []) (m:mg "_law_loud" = some (.ref f)) (z_isinstance:mg "isinstance" = none) (z_tuple:mg "tuple" = none):∀n:Nat,FnB P w K mg base (k+n) "_law_loud" f fd ["_law_tree_here"] (zCo n)
 |0=>⟨zH6,b,F.kp,m⟩
 |n+1=>⟨zKa F z_isinstance z_tuple (zGQ F b m z_isinstance z_tuple n),b,F.kp,m⟩
def zDk (n:Nat):Sp:=λ vs H Q Ω=>E7 λ(t o:Tr) (v ov:V) (al:Addr) (j:Int) (W:List Str)=>A10 (vs=[v,.ref al,ov]) (t.dep<=n) (Rep H t v) (ngT t) (t.good (λ x=>x∈W)) (Rep H o ov) (ngT o) (o.good (λ x=>x∈W)) (H al=some (.lst [.int j])) (∀t' v' (j':Int) H',SbD al H H'->H' al=some (.lst [.int j'])->Rep H' t' v'->ngT t'->t'.good (λ x=>x∈W)->t'.size+bud o.size j'<=t.size+bud o.size j->t'.dep<=t.dep+o.dep->Q v' H')
theorem zLz (F:Fun K "_law_laid" "_law_laid" zCz f fd) (z_isinstance:mg "isinstance" = none) (z_tuple:mg "tuple" = none)
  (zNe:FnB P w K mg base k "_law_laid" f fd ["_law_tree_here", "_law_at", "_law_other"] (zDk n)):FnOk P w K mg base CX0 (k+1) f fd ["_law_tree_here", "_law_at", "_law_other"] (zDk (n+1)):=by
 refine F.ok zCH 69 58
 ·obtain⟨t,o,v,ov,al,j,W,rfl,_⟩:=h
  rfl
 obtain⟨t,o,v,ov,al,j,W,rfl,hn,hR,hg,hG,oR,og,oG,hal,q⟩:=h
 refine⟨_,(zAE (ps_if (zAJ op_eq (iC (r:=rIxL K) zAd 81) zAG 82) (zAE (zFx (pe_un zMI zAG) (zHL 81 zAG zD7))
  (zAH (zAU (pv 2)))) zAK)
  (zAE (zFx (pe_op zFz (iC (r:=rIxL K) zAd 81) zAG) (zHL 81 zAG zD7))
  (zAE (pS (i:=3) zCH.nd (zBA zAD:PE _ _ _))
  (zAE (zAj PassesOwn.never rfl (zB1 (pv 0)) (pGn (i:=4) zCH.nd) (zAE (ps_if (zAp (cI z_isinstance z_tuple rF (pv 4))) (zAH (pS (i:=4) zCH.nd (pe_cl zNe hr (zAA (pv 4) (zAA 81 87))))) zAK)
  (zAH (pAp (pv 3) (pv 4)))))
  (zAH (zAU (zBK zA3 84 z_tuple rF (zAA (pv 3) zAD)))))))),?_⟩
 have d0:0<=sizeLine:=by decide
 obtain⟨a,hd,us,rfl,ha,h0,h1,h2,hpl,hps,hus,build⟩:=hR.row (ng_kd hg);have ix0:∀z:Int,ixN [V.int z].length 0=some 0:=λ z=>rfl;refine⟨_,rfl,al,_,0,_,rfl,rfl,SqL.of hal,rfl,rfl,_,rfl,ite2 77 77⟩
 ·have e:j=0:=V.int.inj (lS c)
  subst e;refine⟨_,rfl,_,rfl,al,_,0,0,rfl,rfl,hal,rfl,_,rfl,?_⟩;have sb:SbD al H (upd H al (.lst [.int (-1)])):=SbD.set _;exact q o ov (-1) _ sb zAB (oR.mono (Tk.lst hal)) og oG (by simp[bud]) 65
 have hj:j≠0:=λ z=>c (by rw[z];exact lT rfl)
 have hbud:bud o.size (j - 1)=bud o.size j:=by
  unfold bud
  by_cases c:j<0
  ·rw[if_pos c,if_pos 65]
  ·rw[if_neg c,if_neg 65]
 refine⟨_,rfl,al,_,0,_,rfl,rfl,SqL.of hal,rfl,_,_,rfl,rfl,_,rfl,al,_,0,0,rfl,rfl,hal,rfl,?_⟩;have nal:a≠al:=λ z=>by rw[z,hal] at ha;cases ha
 have sb1:SbD al H (upd H al (.lst [.int (j - 1)])):=SbD.set _;have e1:=@zAB H al (.lst [.int (j - 1)]);show tSeq _ _ _ _ (upd H al (.lst [.int (j - 1)]));generalize upd H al _=H1 at sb1 e1 ⊢;refine⟨d0,λ sl hsl=>?_⟩;have nsl:sl≠al:=λ z=>by rw[z,e1] at hsl;cases hsl
 have g0:=zAC (o:=.lst []) hsl;have es0:=@zAB H1 sl (.lst []);have e2:=g0 _ _ e1;have sb2:=sb1.trans (g0.sd (d:=al))
 have hslH:H sl=none:=by
  cases e:H sl with
  |none=>rfl
  |some o=>rw[sb1 _ _ nsl e] at hsl;cases hsl
 show tSeq _ _ _ _ (upd H1 sl (.lst []));generalize upd H1 sl _=H2 at g0 es0 e2 sb2 ⊢;refine⟨_,rfl,a,rfl,⟨_,SqT.of (sb2 _ _ nal ha)⟩,?_⟩;refine zB9 (xs:=hd++us) (λ i σ' H'=>E4 λ(s3:Option V) (vs:List V) (ps:List Tr) (j':Int)=>A7 (σ'=[some (.ref a),some (.ref al),some ov,some (.ref sl),s3]) (SbD al H H') (H' al=some (.lst [.int j'])) (H' sl=some (.lst vs)) (RowP H' hd i vs ps) (∀p∈ps,(ngT p/\p.good (λ x=>x∈W))/\p.dep+1<=t.dep+o.dep) (szT ps+bud o.size j'<=szT (t.parts.take (i - hd.length))+bud o.size j)) ⟨none,[],[],j - 1,rfl,sb2,e2,es0,RowP.zero,(λ p hp=>nomatch hp),by rw[Nat.zero_sub,hbud];exact lQ _⟩ ?_ ?_ ?_
 ·rintro i σ' H' _ ⟨s3,vs,ps,j',rfl,g,ea,es,rp,hp,sz⟩
  exact SqT.of (g _ _ nal ha)
 ·rintro i x σ' H' hx ⟨s3,vs,ps,j',rfl,g,ea,es,rp,hp,sz⟩
  have hi:i<(hd++us).length:=(lI.mp hx).1;rw[mI] at hi;have lvs:=rp.len;rcases zC3 hx with hx|⟨hge,hx⟩
  ·have hi2:=(lI.mp hx).1
   have sz2:szT ps+bud o.size j'<=szT (t.parts.take (i+1 - hd.length))+bud o.size j:=by rw[show i - hd.length=0 by lia] at sz;rw[show i+1 - hd.length=0 by lia];exact sz
   rcases hpl x (lK hx) with ⟨y,rfl⟩|⟨y,rfl⟩
   ·refine⟨_,rfl,_, "tuple", _,false,rfl,.str y,rfl,_,rfl,iteF ?_⟩
    refine⟨_,rfl,.inl ⟨rfl,_,SqL.of es⟩,_,rfl,sl,_,_,rfl,rfl,es,zAO 65,?_⟩;exact⟨_,_,ps,j',rfl,g.put hslH _,by rw[zAR (Ne.symm nsl)];exact ea,zAB,(rp.head hx).mono (Tk.lst es),hp,sz2⟩
   ·refine⟨_,rfl,_, "tuple", _,false,rfl,.int y,rfl,_,rfl,iteF ?_⟩
    refine⟨_,rfl,.inl ⟨rfl,_,SqL.of es⟩,_,rfl,sl,_,_,rfl,rfl,es,zAO 65,?_⟩;exact⟨_,_,ps,j',rfl,g.put hslH _,by rw[zAR (Ne.symm nsl)];exact ea,zAB,(rp.head hx).mono (Tk.lst es),hp,sz2⟩
  ·obtain⟨p,ep,rp0⟩:=zAW hps hx
   have pm:=lK ep;have psz:=zB4 pm;have gtk:=g.tkl hal;have rp':=rp0.mono gtk;obtain⟨ai,hsi,usi,rfl,hai,_,_⟩:=id rp'.all;refine⟨_,rfl,_, "tuple", _,true,rfl,.tup hai,rfl,_,rfl,iteT ?_⟩;refine⟨_,rfl,_,rfl,_,rfl,p,o,_,ov,al,j',W,rfl,by lia,rp',zDr hg pm,zCi hG pm,oR.mono gtk,og,oG,ea,λ p2 v5 j5 H5 g5 ea5 r5 n5 gd5 sz5 dp5=>?_⟩;have es5:=g5 _ _ nsl es;refine⟨_,rfl,.inl ⟨rfl,_,SqL.of es5⟩,_,rfl,sl,_,_,rfl,rfl,es5,zAO 65,?_⟩;have tk:Tk H5 (upd H5 sl (.lst (vs++[v5]))):=Tk.lst es5;refine⟨_,_,ps++[p2],j5,rfl,(g.trans g5).put hslH _,by rw[zAR (Ne.symm nsl)];exact ea5,zAB,((rp.mono ((g5.tkl ea).trans tk)).part hge (r5.mono tk)),λ z hz=>?_,?_⟩
   ·rcases lJ.mp hz with h|h
    ·exact hp z h
    ·rw[mO.mp h];exact⟨⟨n5,gd5⟩,by lia⟩
   ·rw[show i+1 - hd.length=i - hd.length+1 by lia,zAT ep,zCZ,zCZ]
    show szT ps+(p2.size+0)+_<=szT _+(p.size+0)+_
    lia
 ·rintro σ' H' ⟨s3,vs,ps,j',rfl,g,ea,es,rp,hp,sz⟩
  obtain⟨ws,rfl,pw,lp⟩:=rp.full;have lps:=hps.length;refine⟨_,rfl,sl,_,rfl,.inl ⟨SqL.of es,λ p hp'=>?_⟩⟩;have k9:=zAC (o:=.tup (hd++ws)) hp';obtain⟨o1,o2,o3⟩:=zG4 (ps:=ps) hg hG 65 (λ p h=>(hp p h).1);refine q (t.withP ps) _ j' _ (g.trans (k9.sd)) (k9 _ _ ea) (build zAB (Paired.mapP pw λ Ω Ω z=>z.mono k9.tk) 65) o1 o2 ?_ (zEC (ng_kd hg) 65 (by have:=zCV t;lia) (λ p h=>(hp p h).2));rw[mI,Nat.add_sub_cancel_left,←lps,mM] at sz;have:=zDQ t
  lia
theorem zJA {k:Nat}{f:Addr}{fd:FuncData}:FnOk P w K mg base CX0 k f fd ["_law_tree_here", "_law_at", "_law_other"] (zDk 0):=by
 have no:∀vs H Q E,¬zDk 0 vs H Q E:=λ vs H Q E h=>by
  obtain⟨t,o,v,ov,al,j,W,_,h0,_⟩:=h;have:=zCV t
  lia
 exact⟨λ vs H Q E h=>absurd h (no vs H Q E),λ A outer s H args us vs Q E Ω Ω Ω Ω h=>absurd h (no vs H Q E)⟩
theorem zHo (F:Fun K "_law_laid" "_law_laid" zCz f fd) (b:Binds K fd ["_law_tree_here", "_law_at", "_law_other"] []) (m:mg "_law_laid" = some (.ref f)) (z_isinstance:mg "isinstance" = none) (z_tuple:mg "tuple" = none):∀n:Nat,FnB P w K mg base (k+n) "_law_laid" f fd ["_law_tree_here", "_law_at", "_law_other"] (zDk n)
 |0=>⟨zJA,b,F.kp,m⟩
 |n+1=>⟨zLz F z_isinstance z_tuple (zHo F b m z_isinstance z_tuple n),b,F.kp,m⟩
abbrev zC0:Stmt:=top 41
theorem zEO:zAV ["_law_shape", "_law_found", "_law_part"] ["_law_shape", "_law_found"] (zAM zC0):=scI
def zCp (n:Nat):Sp:=λ vs H Q Ω=>E6 λ(s:Tr) (v:V) (d:Addr) (ks W:List Str) (cnt:Str->Nat)=>A10 (vs=[v,.ref d]) (s.size<=n) (Rep H s v) (CnT cnt s) (s.good (λ x=>x∈W)) (W.length<=100) (H d=some (.dK (gkv cnt ks))) ks.Nodup (∀g∈ks,g∈W) (∀ks' H',SbD d H H'->H' d=some (.dK (gkv cnt ks'))->ks'.Nodup->(∀g∈ks',g∈W)->(∀g∈ks,g∈ks')->GIn s ks'->Q .non H')
theorem zKc (F:Fun K "_law_gaps" "_law_gaps" zC0 f fd) (z_isinstance:mg "isinstance" = none) (z_tuple:mg "tuple" = none) (z_len:mg "len" = none)
  (zNf:FnB P w K mg base k "_law_gaps" f fd ["_law_shape", "_law_found"] (zCp n)):FnOk P w K mg base CX0 (k+1) f fd ["_law_shape", "_law_found"] (zCp (n+1)):=by
 refine F.ok zEO 69 58
 ·obtain⟨s,v,d,ks,W,cnt,rfl,_⟩:=h
  rfl
 obtain⟨s,v,d,ks,W,cnt,rfl,hn,hR,hc,hG,hW,hd,knd,kin,q⟩:=h;have hu:=hu_of hr;refine⟨_,(zAH (ps_if (zAJ op_eq 57 zAP 82) (zAH (zBF hu 81 57 (cL z_len (zAA 57 zAD)) rfl)) (zAH (zAj PassesOwn.never rfl (zB1 (zAh zCE (pv 0) (zAf zAG) zAy)) (pGn (i:=2) zEO.nd) (zAH (ps_if (zAp (cI z_isinstance z_tuple rF (pv 2))) (zAH (zES (pe_cl zNf hr (zAA (pv 2) (zAA 81 zAD))))) zAK)))))),?_⟩
 by_cases hk:s.kd = .gap
 ·obtain⟨g,as,rfl⟩:=kdS (k:=.gap) hk
  obtain⟨a,b,us,rfl,ha,hb,hl,hp⟩:=hR;have lk:=zBg knd kin;refine⟨_,rfl,a,_,0,_,rfl,rfl,SqT.of ha,rfl,rfl,_,rfl,iteT ?_⟩;have lus:us.length=cnt g:=by rw[←hp.length];exact hc g as (by rw[zBT];exact lO)
  refine⟨_,rfl,a,_,2,_,rfl,rfl,SqT.of ha,rfl,b,us,rfl,.inr (SqT.of hb),_,rfl,_,rfl,a,_,1,_,rfl,rfl,SqT.of ha,rfl,d,_,rfl,DPut.k (k:=Sum.inr g) hd (zAO (by unfold gkv;rw[lC];lia)),?_⟩;rw[lus,zLj]
  exact q (addK ks g) _ (SbD.set _) zAB (zC6 knd) (λ x hx=>(zA8.mp hx).elim (kin x) (λ e=>e▸hG.1)) (λ x hx=>zA8.mpr (.inl hx)) (λ g' as' m=>by
   have:=mO.mp (show Tr.gap g' as'∈[Tr.gap g as] from m);injection this with e1 e2
   exact zA8.mpr (.inr e1))
 obtain⟨a,hd_,us,rfl,ha,h0,h1,h2,hpl,hps,hus,_⟩:=hR.row hk;have at0:atI (hd_++us) 0=some (.str s.kd.s):=zAc (j:=0) (by rw[mQ 65];exact h0);obtain⟨hc1,ec⟩:=cutT1 (xs:=hd_++us) (by rw[mI];lia);have nad:a≠d:=λ z=>by rw[z,hd] at ha;cases ha
 refine⟨_,rfl,a,_,0,_,rfl,rfl,SqT.of ha,at0,rfl,_,rfl,ite2 (λ c=>absurd (Kd.eq_iff (b:=.gap) |>.mp (lS c)) hk) 91⟩;refine⟨_,rfl,1,rfl,a,_,rfl,ha,hc1,λ p H1 g1 e1=>?_⟩;rw[ec] at e1;have npd:p≠d:=λ z=>by have:=g1 _ _ hd;rw[←z,e1] at this;cases this
 refine⟨p,rfl,⟨_,SqT.of e1⟩,?_⟩;refine zB9 (xs:=(hd_++us).drop 1) (λ i σ' H'=>E2 λ(s2:Option V) (ks':List Str)=>A7 (σ'=[some (.ref a),some (.ref d),s2]) (SbD d H1 H') (H' d=some (.dK (gkv cnt ks'))) ks'.Nodup (∀g∈ks',g∈W) (∀g∈ks,g∈ks') (∀x∈s.parts.take (i+1 - hd_.length),GIn x ks')) ⟨none,ks,rfl,SbD.refl _ _,g1 _ _ hd,knd,kin,λ g hg=>hg,λ x hx=>by rw[show 0+1 - hd_.length=0 by lia] at hx;cases hx⟩ ?_ ?_ ?_
 ·rintro i σ' H' _ ⟨s2,ks',rfl,g,ed,nd,hin,up,hall⟩
  exact SqT.of (g _ _ npd e1)
 ·rintro i x σ' H' hx ⟨s2,ks',rfl,g,ed,nd,hin,up,hall⟩
  rw[List.getElem?_drop] at hx;rcases zC3 hx with hx|⟨hge,hx⟩
  ·have hi2:=(lI.mp hx).1
   have hm2:∀x∈s.parts.take (i+1+1 - hd_.length),GIn x ks':=λ x hx=>by rw[show i+1+1 - hd_.length=0 by lia] at hx;cases hx
   rcases hpl x (lK hx) with ⟨y,rfl⟩|⟨y,rfl⟩
   ·exact⟨_,rfl,_, "tuple", _,false,rfl,.str y,rfl,_,rfl,iteF ⟨_,ks',rfl,g,ed,nd,hin,up,hm2⟩⟩
   ·exact⟨_,rfl,_, "tuple", _,false,rfl,.int y,rfl,_,rfl,iteF ⟨_,ks',rfl,g,ed,nd,hin,up,hm2⟩⟩
  ·obtain⟨p',ep,rp0⟩:=zAW hps hx
   have pm:=lK ep;have psz:=zET pm;have gtk:=g.tk (g1 _ _ hd);have rp':=rp0.mono (g1.tk.trans gtk);obtain⟨ai,hsi,usi,rfl,hai,_,_⟩:=id rp'.all;refine⟨_,rfl,_, "tuple", _,true,rfl,.tup hai,rfl,_,rfl,iteT ?_⟩;refine⟨_,rfl,_,rfl,p',_,d,ks',W,cnt,rfl,by lia,rp',hc.part pm,zCi hG pm,hW,ed,nd,hin,λ ks2 H2 g2 ed2 nd2 hin2 up2 gi2=>?_⟩;refine⟨_,ks2,rfl,g.trans g2,ed2,nd2,hin2,λ g hg=>up2 g (up g hg),λ x hx=>?_⟩;rw[show i+1+1 - hd_.length=1+i - hd_.length+1 by lia,zAT ep] at hx;rcases lJ.mp hx with h|h
   ·exact(hall x (by rwa [show 1+i=i+1 by lia] at h)).mono up2
   ·rw[mO.mp h];exact gi2
 ·rintro σ' H' ⟨s2,ks',rfl,g,ed,nd,hin,up,hall⟩
  have lps:=hps.length;rw[mT,mI,show hd_.length+us.length - 1+1 - hd_.length=us.length by lia,←lps,mM] at hall;exact q ks' H' (g1.sd.trans g) ed nd hin up (zJb hk hall)
theorem zH7 {k:Nat}{f:Addr}{fd:FuncData}:FnOk P w K mg base CX0 k f fd ["_law_shape", "_law_found"] (zCp 0):=by
 have no:∀vs H Q E,¬zCp 0 vs H Q E:=λ vs H Q E h=>by
  obtain⟨s,v,d,ks,W,cnt,_,h0,_⟩:=h;have:=zAu s
  lia
 exact⟨λ vs H Q E h=>absurd h (no vs H Q E),λ A outer s H args us vs Q E Ω Ω Ω Ω h=>absurd h (no vs H Q E)⟩
theorem zGR (F:Fun K "_law_gaps" "_law_gaps" zC0 f fd) (b:Binds K fd ["_law_shape", "_law_found"] []) (m:mg "_law_gaps" = some (.ref f)) (z_isinstance:mg "isinstance" = none) (z_tuple:mg "tuple" = none) (z_len:mg "len" = none):∀n:Nat,FnB P w K mg base (k+n) "_law_gaps" f fd ["_law_shape", "_law_found"] (zCp n)
 |0=>⟨zH7,b,F.kp,m⟩
 |n+1=>⟨zKc F z_isinstance z_tuple z_len (zGR F b m z_isinstance z_tuple z_len n),b,F.kp,m⟩
abbrev zCv:Stmt:=top 43
theorem zAr:zAV ["_law_shape", "_law_pieces_here", "_law_known", "_law_others", "_law_names", "_law_tree_here", "_law_put_here", "_law_name", "_law_atom", "_law_inner", "_law_one", "_law_some", "_law_part"] ["_law_shape", "_law_pieces_here", "_law_known", "_law_others"] (zAM zCv):=scI
def zDh (n:Nat):Sp:=λ vs H Q Ω=>E12 λ(s:Tr) (v:V) (pd kd ol:Addr) (pkv kkv:List (Key × V)) (os W ks bs:List Str) (cnt:Str->Nat)=>A16 (vs=[v,.ref pd,.ref kd,.ref ol]) (s.size<=n) (n<=60) (Rep H s v) (LOk cnt s bs) (s.good (λ x=>x∈W)) (GIn s ks) (H pd=some (.dK pkv)) (PcsD H cnt W pkv ks) (H kd=some (.dK kkv)) (KnW W kkv bs) (kkv.length+s.size<=200) (H ol=some (.lst (os.map V.str))) (nlet s<=os.length) (∀x∈os,x∈W) (∀(t':Tr) (v':V) (os':List Str) (H':Hp),SbD ol H H'->H' ol=some (.lst (os'.map V.str))->os'.length+nlet s=os.length->(∀x∈os',x∈W)->Rep H' t' v'->ngT t'->t'.good (λ x=>x∈W)->t'.size<=13 * s.size->t'.dep<=s.dep+12->Q v' H')
theorem zLu (F:Fun K "_law_made" "_law_made" zCv f fd) (z_isinstance:mg "isinstance" = none) (z_tuple:mg "tuple" = none) (z_zip:mg "zip" = none) (z_dict:mg "dict" = none) (zNb:FnB P w K mg base k "_law_put" g1 gd1 ["_law_tree_here", "_law_put_here"] (zDE 13))
  (zNg:FnB P w K mg base k "_law_made" f fd ["_law_shape", "_law_pieces_here", "_law_known", "_law_others"] (zDh n)):FnOk P w K mg base CX0 (k+1) f fd ["_law_shape", "_law_pieces_here", "_law_known", "_law_others"] (zDh (n+1)):=by
 refine F.ok zAr 69 58
 ·obtain⟨s,v,pd,kd,ol,pkv,kkv,os,W,ks,bs,cnt,rfl,_⟩:=h
  rfl
 obtain⟨s,v,pd,kd,ol,pkv,kkv,os,W,ks,bs,cnt,rfl,hn,hn60,hR,hL,hG,hI,hpd,hP,hkd,hK,hkl,hol,hos,hoW,q⟩:=h;have hu:=hu_of hr
 refine⟨_,(Sd.un (zAF (zAe ⟨zAJ op_eq 57 zAP 82⟩ (zAS (zAX (zAg (zAI ⟨zAP⟩ (zAI ⟨zBb hu (pv 2) 57 73⟩ ⟨zAD⟩))))) ⟨zAK⟩)
  (zAF (zAe ⟨zAJ op_eq 57 zAP 82⟩ (zAF ⟨zFx (zBb hu 81 57 73) (zB2 rfl (zAa (pGn (i:=4) zAr.nd) (zAa (pGn (i:=5) zAr.nd) zBV)))⟩
  (zAF (pSS (i:=6) zAr.nd ⟨zBL⟩)
  (zAF ⟨zAj PassesOwn.never rfl (zIm 84 z_zip (zAA (pv 4) (zAA 57 zAD))) (zB2 rfl (zAa (pGn (i:=7) zAr.nd) (zAa (pGn (i:=8) zAr.nd) zBV))) (zAH (zBF hu (pv 6) (pv 7) (zBb hu (pv 2) (iC (r:=rIxT K) zAN (pv 8)) 73) rfl))⟩
  (zAS (zAX ⟨pe_cl zNb hr (zAA (pv 5) (zAA (pv 6) zAD))⟩))))) ⟨zAK⟩)
  (zAF (zAe ⟨zAJ op_eq 57 zAP 82⟩ (zAF (pSS (i:=9) zAr.nd (zBq zDv 84 z_dict rH (zAI ⟨pv 2⟩ ⟨zAD⟩)))
  (zAF ⟨zBF hu (pv 9) 57 (zIq rM PySem.F.slot_list_pop PySem.F.type_list_pop zLL (pv 3)) rfl⟩
  (zAF (pSS (i:=10) zAr.nd ⟨pe_cl zNg hr (zAA 57 (zAA 81 (zAA (pv 2) (zAA (pv 3) zAD))))⟩)
  (zAS (zAX (zAg (zAI ⟨zAP⟩ (zAI ⟨zBb hu (pv 9) 57 73⟩ (zAI ⟨pv 10⟩ (zAI ⟨pe_cl zNg hr (zAA 57 (zAA 81 (zAA (pv 9) (zAA (pv 3) zAD))))⟩ ⟨zAD⟩)))))))))) ⟨zAK⟩)
  (zAF (pSS (i:=11) zAr.nd (zDM ⟨zAD⟩))
  (zAF ⟨zAj PassesOwn.never rfl (zB1 (pv 0)) (pGn (i:=12) zAr.nd) (zAE (ps_if (zAp (cI z_isinstance z_tuple rF (pv 12))) (zAH (pS (i:=12) zAr.nd (pe_cl zNg hr (zAA (pv 12) (zAA 81 (zAA (pv 2) (zAA (pv 3) zAD))))))) zAK)
  (zAH (pAp (pv 11) (pv 12))))⟩
  (zAS (zAX (zBq zA3 84 z_tuple rF (zAI ⟨pv 11⟩ ⟨zAD⟩)))))))))),?_⟩
 have d0:0<=sizeLine:=by decide
 have d2:2<=sizeLine:=by decide
 have d4:4<=sizeLine:=by decide
 have spos:=zAu s;have npo:pd≠ol:=λ z=>by rw[z,hol] at hpd;cases hpd
 have nko:kd≠ol:=λ z=>by rw[z,hol] at hkd;cases hkd
 obtain⟨a,hs0,us0,rfl,ha,hl0,hp0⟩:=id hR.all;have at0:atI (V.str s.kd.s::hs0++us0) 0=some (.str s.kd.s):=zAc (j:=0) rfl;refine⟨_,rfl,a,_,0,_,rfl,rfl,SqT.of ha,at0,rfl,_,rfl,ite2 77 77⟩
 ·obtain⟨x,rfl⟩:=kdS (k:=.name) (Kd.eq_iff.mp (lS c))
  obtain⟨a',e',ha'⟩:=hR;cases e';obtain⟨y,ey,hy⟩:=hK x hL;have dg:DGet H kd (.str x) (some (.str y)):=ey▸DGet.k (k:=Sum.inr x) hkd;refine⟨_,rfl,_,rfl,a,_,1,_,rfl,rfl,SqT.of ha',rfl,kd,_,rfl,dg,d2,λ pt hpt=>?_⟩;have k9:=zAC (o:=.tup [.str "name", .str y]) hpt;exact q (.name y) _ os _ k9.sd (k9 _ _ hol) rfl hoW ⟨pt,rfl,zAB⟩ trivial hy (by simp[Tr.size]) (by simp[Tr.dep])
 have n3:¬s.kd = .name:=λ z=>c (lT (by rw[z];rfl));refine⟨_,rfl,a,_,0,_,rfl,rfl,SqT.of ha,at0,rfl,_,rfl,ite2 (λ c1=>?_) (λ c1=>?_)⟩
 ·obtain⟨g,as0,rfl⟩:=kdS (k:=.gap) (Kd.eq_iff.mp (lS c1))
  obtain⟨as,rfl,asnd,asin,asl⟩:=hL;obtain⟨a',b',us2,e',ha',hb',hl2,pas⟩:=hR;cases e';obtain⟨v1,pc,ev1,⟨p,nt,u,rfl,hp,hnt,ru⟩,pg⟩:=hP g (hI g _ (by rw[zBT];exact lO));have dg:DGet H pd (.str g) (some (.ref p)):=ev1▸DGet.k (k:=Sum.inr g) hpd;refine⟨_,rfl,_,rfl,a,_,1,_,rfl,rfl,SqT.of ha',rfl,pd,_,rfl,dg,?_⟩;refine⟨p,_,rfl,SqT.of hp,rfl,_,_,rfl,_,_,rfl,rfl,?_⟩;refine λ dz hdz=>?_;have g0:=zAC (o:=.dK []) hdz;have ez0:=@zAB H dz (.dK []);show tSeq _ _ _ _ (upd H dz (.dK []));generalize upd H dz _=H0 at g0 ez0 ⊢;refine⟨_,rfl,_,rfl,a,_,2,_,rfl,rfl,SqT.of (g0 _ _ ha'),rfl,nt,b',pc.1.map V.str,us2,rfl,g0 _ _ hnt,g0 _ _ hb',?_⟩;have lpc:=pg.ln;have pz3:=zCV (Tr.gap g (as.map Atom.name));refine zGr (xs:=pc.1.map V.str) (ys:=us2) (λ i σ' H'=>E3 λ(s7 s8:Option V) (kv2:List (Key × V))=>A5 (σ'=[some (.ref a),some (.ref pd),some (.ref kd),some (.ref ol),some (.ref nt),some u,some (.ref dz),s7,s8,none,none,none,none]) (Same H H') (H' dz=some (.dK kv2)) (kv2.length<=i) (WkD W kv2)) ?_ ?_ ?_ ?_
  ·exact⟨none,none,[],rfl,g0,ez0,lQ _,λ x v e=>by cases e⟩
  ·rintro i σ' H' _ ⟨s7,s8,kv2,rfl,g,ez,lz,hW2⟩
   exact⟨g _ _ hnt,g _ _ hb'⟩
  ·rintro i x y T σ' H' hx hy ⟨s7,s8,kv2,rfl,g,ez,lz,hW2⟩ hT
   rw[mH] at hx;obtain⟨nm,hnm,rfl⟩:=lU.mp hx;obtain⟨am,hmA,ram⟩:=zAW pas hy;rw[mH] at hmA;obtain⟨z,ez',rfl⟩:=lU.mp hmA;have kT:=zAC (o:=.tup [V.str nm,y]) hT;have gT:=g.trans kT;have hi:i<pc.1.length:=(lI.mp hnm).1;obtain⟨y',ey,hy'⟩:=hK z (asin z (lK ez'));obtain⟨cz,rfl,hcz⟩:=ram.mono gT.tk;have ezT:=kT _ _ ez;refine⟨T,[V.str nm,.ref cz],rfl,SqT.of zAB,rfl,_,_,rfl,_,_,rfl,rfl,?_⟩;have dk:DGet (upd H' T (.tup [V.str nm,.ref cz])) kd (.str z) (some (.str y')):=ey▸DGet.k (k:=Sum.inr z) (gT _ _ hkd);refine⟨_,rfl,_,rfl,cz,_,1,_,rfl,rfl,SqT.of hcz,rfl,kd,_,rfl,dk,_,rfl,_,rfl,dz,_,rfl,DPut.k (k:=Sum.inr nm) ezT (zAO 65),?_⟩;refine⟨_,_,_,rfl,zAY gT hdz,zAB,by have:=zAx kv2 (Sum.inr nm:Key) (.str y');lia,λ x v e=>?_⟩;rw[zBc] at e
   by_cases hx:(Sum.inr x:Key)=Sum.inr nm
   ·rw[if_pos hx] at e;cases e;exact⟨y',rfl,hy'⟩
   ·rw[if_neg hx] at e;exact hW2 x v e
  ·rintro σ' H' ⟨s7,s8,kv2,rfl,g,ez,lz,hW2⟩
   refine⟨_,rfl,_,rfl,pc.2,u,dz,kv2,W,rfl,pg.sz,ru.mono g.tk,pg.ng,pg.gd,ez,hW2,λ t' v' H5 g5 r5 n5 gd5 sz5 dp5=>?_⟩;have pz:=pg.sz;have pz2:=pg.dp;exact q t' v' os H5 (g.trans g5).sd ((g.trans g5) _ _ hol) rfl hoW r5 n5 gd5 (by show _<=13 * 1;lia) 65
 have n1:¬s.kd = .gap:=λ z=>c1 (lT (by rw[z];rfl));refine⟨_,rfl,a,_,0,_,rfl,rfl,SqT.of ha,at0,rfl,_,rfl,ite2 (λ c2=>?_) (λ c2=>?_)⟩
 ·obtain⟨x,sa,sb,rfl⟩:=kdS (k:=.lett) (Kd.eq_iff.mp (lS c2))
  obtain⟨a',ua,ub,e',ha',ra,rb⟩:=hR;cases e';have hsz:(Tr.lett x sa sb).size=sa.size+sb.size+1:=rfl;have hnl:nlet (Tr.lett x sa sb)=nlet sa+nlet sb+1:=rfl;have hIa:GIn sa ks:=hI.part (by simp[Tr.parts]);have hIb:GIn sb ks:=hI.part (by simp[Tr.parts])
  obtain⟨init,y,rfl⟩:∃init y,os=init++[y]:=by
   rcases List.eq_nil_or_concat os with h|⟨i,x,h⟩
   ·rw[h] at hos;simp at hos;lia
   ·exact⟨i,x,by rw[h,List.concat_eq_append]⟩
  have hyW:y∈W:=hoW y 59;have hiW:∀z∈init,z∈W:=λ z hz=>hoW z (by simp[hz]);have loi:(init++[y]).length=init.length+1:=by simp
  have hlast:((init++[y]).map V.str)[((init++[y]).map V.str).length - 1]?=some (.str y):=by simp
  have hdrop:((init++[y]).map V.str).dropLast=init.map V.str:=by simp
  refine⟨_,rfl,kd,kkv,rfl,hkd,λ d' hd'=>?_⟩;have g1:=zAC (o:=.dK kkv) hd';have e1:=@zAB H d' (.dK kkv);have ndo:d'≠ol:=λ z=>by rw[z,hol] at hd';cases hd'
  have hol1:=g1 _ _ hol;show tSeq _ _ _ _ (upd H d' (.dK kkv));generalize upd H d' _=H1 at g1 e1 hol1 ⊢;refine⟨_,rfl,.inl ⟨rfl,_,SqL.of hol1⟩,ol,_,_,rfl,rfl,hol1,hlast,?_⟩;rw[hdrop];have sb2:SbD ol H (upd H1 ol (.lst (init.map V.str))):=g1.sd.trans (SbD.set _);have e2:(upd H1 ol (.lst (init.map V.str))) d'=some (.dK kkv):=by rw[zAR ndo];exact e1
  have o2:=@zAB H1 ol (.lst (init.map V.str));generalize upd H1 ol _=H2 at sb2 e2 o2 ⊢;have nao:a≠ol:=λ z=>by rw[z,hol] at ha';cases ha'
  refine⟨_,rfl,_,rfl,a,_,1,_,rfl,rfl,SqT.of (sb2 _ _ nao ha'),rfl,d',_,rfl,DPut.k (k:=Sum.inr x) e2 (zAO 65),?_⟩;have sb3:SbD ol H (upd H2 d' (.dK (putK kkv (Sum.inr x) (.str y)))):=sb2.put hd' _;have e3:=@zAB H2 d' (.dK (putK kkv (Sum.inr x) (.str y)));have o3:(upd H2 d' (.dK (putK kkv (Sum.inr x) (.str y)))) ol=some (.lst (init.map V.str)):=by rw[zAR (Ne.symm ndo)];exact o2
  have hlp:=zAx kkv (Sum.inr x:Key) (.str y);have ek3:valV (putK kkv (Sum.inr x:Key) (.str y)) (Sum.inr x:Key)=some (.str y):=by rw[zBc,if_pos rfl]
  have hK3:KnW W (putK kkv (Sum.inr x) (.str y)) (bs++[x]):=λ z hz=>by
   rw[zBc]
   by_cases c:z=x
   ·rw[if_pos (by rw[c])];exact⟨y,rfl,hyW⟩
   ·rw[if_neg (λ e=>c (Sum.inr.inj e))]
    rcases lJ.mp hz with h|h
    ·exact hK z h
    ·exact absurd (mO.mp h) c
  show tSeq _ _ _ _ (upd H2 d' (.dK (putK kkv (Sum.inr x) (.str y))));generalize upd H2 d' _=H3 at sb3 e3 o3 ⊢;generalize putK kkv (Sum.inr x:Key) (.str y)=kk3 at e3 hlp hK3 ek3;have tk3:=sb3.tkl hol;refine⟨_,rfl,a,_,2,_,rfl,rfl,SqT.of (sb3 _ _ nao ha'),rfl,_,rfl,_,rfl,_,rfl,sa,ua,pd,kd,ol,pkv,kkv,init,W,ks,bs,cnt,rfl,by lia,by lia,ra.mono tk3,hL.2.1,hG.2.1,hIa,sb3 _ _ npo hpd,hP.mono tk3,sb3 _ _ nko hkd,hK,by lia,o3,by lia,hiW,λ t1 v1 os1 H4 g4 o4 l4 w4 r4 n4 gd4 z4 dp4=>?_⟩;have sb4:=sb3.trans g4;have e4:=g4 _ _ ndo e3;have tk4:=sb4.tkl hol;refine⟨_,rfl,_,rfl,a,_,1,_,rfl,rfl,SqT.of (sb4 _ _ nao ha'),rfl,d',.str y,rfl,?_,_,rfl,_,rfl,a,_,3,_,rfl,rfl,SqT.of (sb4 _ _ nao ha'),rfl,_,rfl,_,rfl,_,rfl,sb,ub,pd,d',ol,pkv,kk3,os1,W,ks,bs++[x],cnt,rfl,by lia,by lia,rb.mono tk4,hL.2.2,hG.2.2,hIb,sb4 _ _ npo hpd,hP.mono tk4,e4,hK3,by lia,o4,by lia,w4,λ t2 v2 os2 H5 g5 o5 l5 w5 r5 n5 gd5 z5 dp5=>⟨d4,λ pt hpt=>?_⟩⟩
  ·rw[←ek3]
   exact DGet.k (k:=Sum.inr x) e4
  have k9:=zAC (o:=.tup [.str "let", .str y,v1,v2]) hpt;refine q (.lett y t1 t2) _ os2 _ (sb4.trans (g5.trans k9.sd)) (k9 _ _ o5) 65 w5 ⟨pt,v1,v2,rfl,zAB,r4.mono ((g5.tkl o4).trans k9.tk),r5.mono k9.tk⟩ ⟨n4,n5⟩ ⟨hyW,gd4,gd5⟩ ?_ (by simp only[Tr.dep];lia);show t1.size+t2.size+1<=_
  lia
 have n2:¬s.kd = .lett:=λ z=>c2 (lT (by rw[z];rfl));obtain⟨a',hd,us,e',ha',h0,h1,h2,hpl,hps,hus,build⟩:=hR.row n1;cases e';have nao:a≠ol:=λ z=>by rw[z,hol] at ha';cases ha'
 refine⟨d0,λ sl hsl=>?_⟩;have nsl:sl≠ol:=λ z=>by rw[z,hol] at hsl;cases hsl
 have g0:=zAC (o:=.lst []) hsl;have es0:=@zAB H sl (.lst []);have o0:=g0 _ _ hol;show tSeq _ _ _ _ (upd H sl (.lst []));generalize upd H sl _=H2 at g0 es0 o0 ⊢;refine⟨_,rfl,a,rfl,⟨_,SqT.of (g0 _ _ ha')⟩,?_⟩;have hnp:=zH9 n2;refine zB9 (xs:=hd++us) (λ i σ' H'=>E4 λ(s3:Option V) (vs:List V) (ps:List Tr) (os':List Str)=>A9 (σ'=[some (.ref a),some (.ref pd),some (.ref kd),some (.ref ol),none,none,none,none,none,none,none,some (.ref sl),s3]) (SbD ol H H') (H' ol=some (.lst (os'.map V.str))) (os'.length+((s.parts.take (i - hd.length)).map nlet).sum=os.length) (∀x∈os',x∈W) (H' sl=some (.lst vs)) (RowP H' hd i vs ps) (∀p∈ps,(ngT p/\p.good (λ x=>x∈W))/\p.dep+1<=s.dep+12) (szT ps<=13 * szT (s.parts.take (i - hd.length)))) ⟨none,[],[],os,rfl,g0.sd,o0,by rw[Nat.zero_sub];rfl,hoW,es0,RowP.zero,(λ p hp=>nomatch hp),lX _⟩ ?_ ?_ ?_
 ·rintro i σ' H' _ ⟨s3,vs,ps,os',rfl,g,ea,lo,ow,es,rp,hp,sz⟩
  exact SqT.of (g _ _ nao ha')
 ·rintro i x σ' H' hx ⟨s3,vs,ps,os',rfl,g,ea,lo,ow,es,rp,hp,sz⟩
  have hi:i<(hd++us).length:=(lI.mp hx).1;rw[mI] at hi;have lvs:=rp.len;rcases zC3 hx with hx|⟨hge,hx⟩
  ·have hi2:=(lI.mp hx).1
   rw[show i - hd.length=0 by lia] at lo sz;have z0:i+1 - hd.length=0:=by lia
   rcases hpl x (lK hx) with ⟨y,rfl⟩|⟨y,rfl⟩
   ·refine⟨_,rfl,_, "tuple", _,false,rfl,.str y,rfl,_,rfl,iteF ?_⟩
    refine⟨_,rfl,.inl ⟨rfl,_,SqL.of es⟩,_,rfl,sl,_,_,rfl,rfl,es,zAO 65,?_⟩;exact⟨_,_,ps,os',rfl,g.put hsl _,by rw[zAR (Ne.symm nsl)];exact ea,by rw[z0];exact lo,ow,zAB,(rp.head hx).mono (Tk.lst es),hp,by rw[z0];exact sz⟩
   ·refine⟨_,rfl,_, "tuple", _,false,rfl,.int y,rfl,_,rfl,iteF ?_⟩
    refine⟨_,rfl,.inl ⟨rfl,_,SqL.of es⟩,_,rfl,sl,_,_,rfl,rfl,es,zAO 65,?_⟩;exact⟨_,_,ps,os',rfl,g.put hsl _,by rw[zAR (Ne.symm nsl)];exact ea,by rw[z0];exact lo,ow,zAB,(rp.head hx).mono (Tk.lst es),hp,by rw[z0];exact sz⟩
  ·obtain⟨p,ep,rp0⟩:=zAW hps hx
   have pm:=lK ep;have psz:=zET pm;have gtk:=g.tkl hol;have rp':=rp0.mono gtk;have et:=zAT ep;have hle:=zJC s.parts (i - hd.length+1);rw[et,mN,List.sum_append] at hle;have e1:([p].map nlet).sum=nlet p:=by simp
   obtain⟨ai,hsi,usi,rfl,hai,_,_⟩:=id rp'.all;refine⟨_,rfl,_, "tuple", _,true,rfl,.tup hai,rfl,_,rfl,iteT ?_⟩;refine⟨_,rfl,_,rfl,_,rfl,_,rfl,p,_,pd,kd,ol,pkv,kkv,os',W,ks,bs,cnt,rfl,by lia,by lia,rp',zKn hL n2 pm,zCi hG pm,hI.part pm,g _ _ npo hpd,hP.mono gtk,g _ _ nko hkd,hK,by lia,ea,by lia,ow,λ p2 v5 os5 H5 g5 ea5 l5 w5 r5 n5 gd5 sz5 dp5=>?_⟩;have es5:=g5 _ _ nsl es;refine⟨_,rfl,.inl ⟨rfl,_,SqL.of es5⟩,_,rfl,sl,_,_,rfl,rfl,es5,zAO 65,?_⟩;have tk:Tk H5 (upd H5 sl (.lst (vs++[v5]))):=Tk.lst es5;refine⟨_,_,ps++[p2],os5,rfl,(g.trans g5).put hsl _,by rw[zAR (Ne.symm nsl)];exact ea5,?_,w5,zAB,((rp.mono ((g5.tkl ea).trans tk)).part hge (r5.mono tk)),λ z hz=>?_,?_⟩
   ·rw[show i+1 - hd.length=i - hd.length+1 by lia,et,mN,List.sum_append,e1]
    lia
   ·rcases lJ.mp hz with h|h
    ·exact hp z h
    ·rw[mO.mp h];exact⟨⟨n5,gd5⟩,by have:=zB4 pm;lia⟩
   ·rw[show i+1 - hd.length=i - hd.length+1 by lia,et,zCZ,zCZ]
    show szT ps+(p2.size+0)<=13 * (szT _+(p.size+0))
    lia
 ·rintro σ' H' ⟨s3,vs,ps,os',rfl,g,ea,lo,ow,es,rp,hp,sz⟩
  obtain⟨ws,rfl,pw,lp⟩:=rp.full;have lps:=hps.length;rw[mI,Nat.add_sub_cancel_left,←lps,mM] at lo sz;refine⟨_,rfl,sl,_,rfl,.inl ⟨SqL.of es,λ p hp'=>?_⟩⟩;have k9:=zAC (o:=.tup (hd++ws)) hp';obtain⟨o1,o2,o3⟩:=zIO (ps:=ps) n1 hG 65 (λ p h=>(hp p h).1);refine q (s.withP ps) _ os' _ (g.trans (k9.sd)) (k9 _ _ ea) 65 ow (build zAB (Paired.mapP pw λ Ω Ω z=>z.mono k9.tk) 65) o1 o2 ?_ (zEC n1 65 65 (λ p h=>(hp p h).2));have:=zDQ s
  lia
theorem zI6 {k:Nat}{f:Addr}{fd:FuncData}:FnOk P w K mg base CX0 k f fd ["_law_shape", "_law_pieces_here", "_law_known", "_law_others"] (zDh 0):=by
 have no:∀vs H Q E,¬zDh 0 vs H Q E:=λ vs H Q E h=>by
  obtain⟨s,v,pd,kd,ol,pkv,kkv,os,W,ks,bs,cnt,_,h0,_⟩:=h;have:=zAu s
  lia
 exact⟨λ vs H Q E h=>absurd h (no vs H Q E),λ A outer s H args us vs Q E Ω Ω Ω Ω h=>absurd h (no vs H Q E)⟩
theorem zHk (F:Fun K "_law_made" "_law_made" zCv f fd) (b:Binds K fd ["_law_shape", "_law_pieces_here", "_law_known", "_law_others"] []) (m:mg "_law_made" = some (.ref f)) (z_isinstance:mg "isinstance" = none) (z_tuple:mg "tuple" = none) (z_zip:mg "zip" = none) (z_dict:mg "dict" = none) (G:FnB P w K mg base k "_law_put" g1 gd1 ["_law_tree_here", "_law_put_here"] (zDE 13)):∀n:Nat,FnB P w K mg base (k+n) "_law_made" f fd ["_law_shape", "_law_pieces_here", "_law_known", "_law_others"] (zDh n)
 |0=>⟨zI6,b,F.kp,m⟩
 |n+1=>⟨zLu F z_isinstance z_tuple z_zip z_dict (G.up (Nat.le_add_right _ _)) (zHk F b m z_isinstance z_tuple z_zip z_dict G n),b,F.kp,m⟩
abbrev zC2:Stmt:=top 47
theorem zBa:zAV ["_law_tree_here", "_law_known", "_law_deep", "_law_inner", "_law_one", "_law_some", "_law_part"] ["_law_tree_here", "_law_known", "_law_deep"] (zAM zC2):=scI
def zDF (n:Nat):Sp:=λ vs H Q Ω=>E6 λ(t:Tr) (v:V) (d:Addr) (kvs:List (Key × V)) (κ:Kno) (m:Nat)=>A8 (vs=[v,.ref d,.int (m:Int)]) (t.dep<=n) (Rep H t v) (ngT t) (H d=some 92) (kvs.length+n<=900) (KnD H κ kvs) (∀v' H',Same H H'->DR H' (blT κ m t) v'->Q v' H')
theorem zL0 (F:Fun K "_law_bare" "_law_bare" zC2 f fd) (z_isinstance:mg "isinstance" = none) (z_tuple:mg "tuple" = none) (z_dict:mg "dict" = none)
  (zNh:FnB P w K mg base k "_law_bare" f fd ["_law_tree_here", "_law_known", "_law_deep"] (zDF n)):FnOk P w K mg base CX0 (k+1) f fd ["_law_tree_here", "_law_known", "_law_deep"] (zDF (n+1)):=by
 refine F.ok zBa 69 58
 ·obtain⟨t,v,d,kvs,κ,m,rfl,_⟩:=h
  rfl
 obtain⟨t,v,d,kvs,κ,m,rfl,hn,hR,hg,hd,hl,hk,q⟩:=h;have hu:=hu_of hr
 refine⟨_,(zAE (ps_if (zAJ op_eq 57 zAP 82) (zAH (zAU (zHM hu 81 57 (pv 0) ⟨rfl,rfl,rfl,rfl⟩))) zAK)
  (zAE (ps_if (zAJ op_eq 57 zAP 82) (zAE (pS (i:=3) zBa.nd (zBK zDv 84 z_dict rH (zAA 81 zAD)))
  (zAE (zBF hu (pv 3) 57 (zAk (zAA zAP 87):PE _ _ _) rfl)
  (zAE (pS (i:=4) zBa.nd (pe_cl zNh hr (zAA 57 (zAA 81 87))))
  (zAH (zAU (zAk (zAA zAP (zAA (pv 4) (zAA (pe_cl zNh hr (zAA 57 (zAA (pv 3) (zAA (pe_op zBl (pv 2) zAG) zAD)))) zAD))):PE _ _ _)))))) zAK)
  (zAE (pS (i:=5) zBa.nd (zBA zAD:PE _ _ _))
  (zAE (zAj PassesOwn.never rfl (zB1 (pv 0)) (pGn (i:=6) zBa.nd) (zAE (ps_if (zAp (cI z_isinstance z_tuple rF (pv 6))) (zAH (pS (i:=6) zBa.nd (pe_cl zNh hr (zAA (pv 6) (zAA 81 87))))) zAK)
  (zAH (pAp (pv 5) (pv 6)))))
  (zAH (zAU (zBK zA3 84 z_tuple rF (zAA (pv 5) zAD)))))))),?_⟩
 have d0:0<=sizeLine:=by decide
 have d2:2<=sizeLine:=by decide
 have d3:3<=sizeLine:=by decide
 obtain⟨a0,hs0,us0,rfl,ha0,hl0,hp0⟩:=id hR.all;have at0:atI (V.str t.kd.s::hs0++us0) 0=some (.str t.kd.s):=zAc (j:=0) rfl;refine⟨_,rfl,a0,_,0,_,rfl,rfl,SqT.of ha0,at0,rfl,_,rfl,ite2 77 77⟩
 ·obtain⟨x,rfl⟩:=zL6 (Kd.eq_iff.mp (lS c))
  obtain⟨a',e',ha'⟩:=hR;cases e';refine⟨_,rfl,d,rfl,.inl ⟨kvs,.inl hd⟩,_,rfl,a0,_,1,_,rfl,rfl,SqT.of ha',rfl,_,rfl,_,DGet.k (k:=Sum.inr x) hd,q _ _ (.refl _) ?_⟩;have hx:=hk x;show DR H ((κ x).getD (.tup [.str "name", .str x])) _;cases e:κ x with
  |none =>
   rw[e] at hx;cases e2:valV kvs (Sum.inr x:Key) with
   |none=>exact .tup ha' 94
   |some v=>rw[e2] at hx;exact hx.elim
  |some dd =>
   rw[e] at hx;cases e2:valV kvs (Sum.inr x:Key) with
   |none=>rw[e2] at hx;exact hx.elim
   |some v=>rw[e2] at hx;exact hx
 have n3:¬t.kd = .name:=λ z=>c (lT (by rw[z];rfl));refine⟨_,rfl,a0,_,0,_,rfl,rfl,SqT.of ha0,at0,rfl,_,rfl,ite2 (λ c2=>?_) (λ c2=>?_)⟩
 ·obtain⟨x,ta,tb,rfl⟩:=zJM (Kd.eq_iff.mp (lS c2))
  obtain⟨a',ua,ub,e',ha',ra,rb⟩:=hR;cases e';have dn:max ta.dep tb.dep<=n:=by simp only[Tr.dep] at hn;lia
  refine⟨_,rfl,d,kvs,rfl,hd,λ d' hd'=>?_⟩;have g1:=zAC (o:=.dK kvs) hd';have e1:=@zAB H d' 92;show tSeq _ _ _ _ (upd H d' 92);generalize upd H d' _=H1 at g1 e1 ⊢;refine⟨_,rfl,d2,λ tp htp=>?_⟩;have k2:=zAC (o:=.tup [.str "at", .int (m:Int)]) htp;have e2:=@zAB H1 tp (.tup [.str "at", .int (m:Int)]);generalize upd H1 tp _=H2 at k2 e2 ⊢;have g2:=g1.trans k2;have ed2:=k2 _ _ e1;refine⟨_,rfl,_,rfl,a0,_,1,_,rfl,rfl,SqT.of (g2 _ _ ha'),rfl,d',_,rfl,DPut.k (k:=Sum.inr x) ed2 (zAO 65),?_⟩;have k3:Same H (upd H2 d' (.dK (putK kvs (Sum.inr x:Key) (.ref tp)))):=zAY g2 hd';have tk3:Tk H2 (upd H2 d' (.dK (putK kvs (Sum.inr x:Key) (.ref tp)))):=Tk.dk ed2;have e3:=@zAB H2 d' (.dK (putK kvs (Sum.inr x:Key) (.ref tp)));have hk3:KnD (upd H2 d' (.dK (putK kvs (Sum.inr x:Key) (.ref tp)))) (setK κ x (atD m)) (putK kvs (Sum.inr x:Key) (.ref tp)):=(hk.mono k3.tk).put (.tup (tk3 _ _ e2) (.cons (.str _) (.cons (.int _) .nil)));have hlp:=zAx kvs (Sum.inr x:Key) (.ref tp);show tSeq _ _ _ _ (upd H2 d' (.dK (putK kvs (Sum.inr x:Key) (.ref tp))));clear tk3;generalize upd H2 d' _=H3 at k3 e3 hk3 ⊢;generalize putK kvs (Sum.inr x:Key) (.ref tp)=kv3 at e3 hk3 hlp;refine⟨_,rfl,a0,_,2,_,rfl,rfl,SqT.of (k3 _ _ ha'),rfl,_,rfl,_,rfl,ta,ua,d,kvs,κ,m,rfl,by lia,ra.mono k3.tk,hg.1,k3 _ _ hd,by lia,hk.mono k3.tk,λ v4 H4 g4 r4=>?_⟩;have g04:=k3.trans g4;refine⟨_,rfl,_,rfl,a0,_,3,_,rfl,rfl,SqT.of (g04 _ _ ha'),rfl,_,rfl,_,rfl,_,_,rfl,rfl,tb,ub,d',kv3,setK κ x (atD m),m+1,rfl,by lia,rb.mono g04.tk,hg.2,g4 _ _ e3,by lia,hk3.mono g4.tk,λ v5 H5 g5 r5=>⟨d3,λ pt hpt=>?_⟩⟩;have k6:=zAC (o:=.tup [.str "let", v4,v5]) hpt;exact q _ _ (g04.trans (g5.trans k6)) (.tup zAB (.cons (.str _) (.cons (r4.mono (g5.trans k6).tk) (.cons (r5.mono k6.tk) .nil))))
 have n2:¬t.kd = .lett:=λ z=>c2 (lT (by rw[z];rfl));obtain⟨a,xs,e1,ha,lx,lx4,hrow⟩:=zLg (blT κ m) hR (ng_kd hg) n2;have e2:a=a0:=by cases e1;rfl
 subst e2;rw[zM0 (ng_kd hg) n2 n3] at q;generalize rowD (blT κ m) t=D at q lx hrow;refine⟨d0,λ sl hsl=>?_⟩;have g0:=zAC (o:=.lst []) hsl;have es0:=@zAB H sl (.lst []);show tSeq _ _ _ _ (upd H sl (.lst []));generalize upd H sl _=H0 at g0 es0 ⊢;refine⟨_,rfl,a,rfl,⟨_,SqT.of (g0 _ _ ha)⟩,?_⟩;refine zB9 (xs:=xs) (λ i σ' H'=>E2 λ(s6:Option V) (vs:List V)=>A4 (σ'=[some (.ref a),some (.ref d),some (.int (m:Int)),none,none,some (.ref sl),s6]) (Same H H') (H' sl=some (.lst vs)) (DRs H' (D.take i) vs)) ⟨none,[],rfl,g0,es0,.nil⟩ ?_ ?_ ?_
 ·rintro i σ' H' _ ⟨s6,vs,rfl,g,es,pv⟩
  exact SqT.of (g _ _ ha)
 ·rintro i x σ' H' hx ⟨s6,vs,rfl,g,es,pv⟩
  obtain⟨dt,hdt,hc⟩:=hrow i x hx;have hi:i<xs.length:=(lI.mp hx).1
  have lvs:vs.length<=4:=by
   rw[←pv.length,mL]
   lia
  rcases hc with ⟨y,rfl,rfl⟩|⟨y,rfl,rfl⟩|⟨p,hp,rp,rfl⟩
  ·refine⟨_,rfl,_, "tuple", _,false,rfl,.str y,rfl,_,rfl,iteF ?_⟩
   refine⟨_,rfl,.inl ⟨rfl,_,SqL.of es⟩,_,rfl,sl,_,_,rfl,rfl,es,zAO 65,?_⟩;exact⟨_,_,rfl,zAY g hsl,zAB,by rw[zAT hdt];exact(pv.mono (Tk.lst es)).snoc (.str y)⟩
  ·refine⟨_,rfl,_, "tuple", _,false,rfl,.int y,rfl,_,rfl,iteF ?_⟩
   refine⟨_,rfl,.inl ⟨rfl,_,SqL.of es⟩,_,rfl,sl,_,_,rfl,rfl,es,zAO 65,?_⟩;exact⟨_,_,rfl,zAY g hsl,zAB,by rw[zAT hdt];exact(pv.mono (Tk.lst es)).snoc (.int y)⟩
  ·have rp':=rp.mono g.tk
   obtain⟨ai,hsi,usi,rfl,hai,_,_⟩:=id rp'.all;refine⟨_,rfl,_, "tuple", _,true,rfl,.tup hai,rfl,_,rfl,iteT ?_⟩;have hdp:=zB4 hp;refine⟨_,rfl,_,rfl,_,rfl,p,_,d,kvs,κ,m,rfl,by lia,rp',zDr hg hp,g _ _ hd,by lia,hk.mono g.tk,λ v5 H5 g5 r5=>?_⟩;have es5:=g5 _ _ es;refine⟨_,rfl,.inl ⟨rfl,_,SqL.of es5⟩,_,rfl,sl,_,_,rfl,rfl,es5,zAO 65,?_⟩;have tk:Tk H5 (upd H5 sl (.lst (vs++[v5]))):=Tk.lst es5;exact⟨_,_,rfl,zAY (g.trans g5) hsl,zAB,by rw[zAT hdt];exact(pv.mono (g5.tk.trans tk)).snoc (r5.mono tk)⟩
 ·rintro σ' H' ⟨s6,vs,rfl,g,es,pv⟩
  rw[lx,mM] at pv;refine⟨_,rfl,sl,_,rfl,.inl ⟨SqL.of es,λ p hp'=>?_⟩⟩;have k9:=zAC (o:=.tup vs) hp';exact q _ _ (g.trans k9) (.tup zAB (pv.mono k9.tk))
theorem zJB {k:Nat}{f:Addr}{fd:FuncData}:FnOk P w K mg base CX0 k f fd ["_law_tree_here", "_law_known", "_law_deep"] (zDF 0):=by
 have no:∀vs H Q E,¬zDF 0 vs H Q E:=λ vs H Q E h=>by
  obtain⟨t,v,d,kvs,κ,m,_,h0,_⟩:=h;have:=zCV t
  lia
 exact⟨λ vs H Q E h=>absurd h (no vs H Q E),λ A outer s H args us vs Q E Ω Ω Ω Ω h=>absurd h (no vs H Q E)⟩
theorem zFe (F:Fun K "_law_bare" "_law_bare" zC2 f fd) (b:Binds K fd ["_law_tree_here", "_law_known", "_law_deep"] []) (m:mg "_law_bare" = some (.ref f)) (z_isinstance:mg "isinstance" = none) (z_tuple:mg "tuple" = none) (z_dict:mg "dict" = none):∀n:Nat,FnB P w K mg base (k+n) "_law_bare" f fd ["_law_tree_here", "_law_known", "_law_deep"] (zDF n)
 |0=>⟨zJB,b,F.kp,m⟩
 |n+1=>⟨zL0 F z_isinstance z_tuple z_dict (zFe F b m z_isinstance z_tuple z_dict n),b,F.kp,m⟩
abbrev zCO:Stmt:=top 51
theorem zC9:zAV ["_law_word", "_law_sign"] ["_law_word"] (zAM zCO):=scI
abbrev zBn:Stmt:=top 52
theorem zBJ:zAV ["_law_tree_here", "_law_some", "_law_many_here", "_law_part"] ["_law_tree_here"] (zAM zBn):=scI
def zDT:Sp:=λ vs H Q Ω=>∃(x:Str),A3 (vs=[.str x]) (GW x) (∀H',Same H H'->Q (.bl true) H')
theorem zI0 (F:Fun K "_law_is_word" "_law_is_word" zCO f fd) (z_isinstance:mg "isinstance" = none) (z_str:mg "str" = none) (z_len:mg "len" = none):FnOk P w K mg base CX0 (k+1) f fd ["_law_word"] zDT:=by
 refine F.ok zC9 69 58
 ·obtain⟨x,rfl,_⟩:=h
  rfl
 obtain⟨x,rfl,gx,q⟩:=h
 refine⟨_,(zAE (ps_if (pw_or (zBS (zAp (cI z_isinstance z_str PyProof.Rows.boot_str (pv 0)))) (pw_or (zAJ op_lt (zA2 zD4 84 z_len rL (zAA (pv 0) zAD)) zAG 82) (zCg (zAJ op_gt (zA2 zD4 84 z_len rL (zAA (pv 0) zAD)) zAG 82)))).pt (zAH (zAU pe_bl)) zAK)
  (zAE (zAj PassesOwn.never rfl (zMZ (pv 0)) (pGn (i:=1) zC9.nd) (zAH (ps_if (zAJ zF0 81 zAP rfl) (zAH (zAU pe_bl)) zAK)))
  (zAH (zAU (zA6 (r:=rIn K true) zB3 (pv 0) (zFO [.str "let", .str "in", .str "if", .str "then", .str "else", .str "say", .str "ask", .str "stop", .str "where", .str "quiet", .str "number"] 84:PE _ _ _) rfl))))),?_⟩
 have lx:=gx.lo;have hx:=gx.hi;refine⟨_,rfl,.str x, "str", _,true,rfl,.str x,rfl,_,rfl,iteF ?_⟩;refine⟨_,rfl,x,rfl,zAw 65,_,_,rfl,rfl,_,rfl,ite2 77 91⟩
 ·have:(x.length:Int)<1:=lS c
  lia
 refine⟨_,rfl,x,rfl,zAw 65,_,_,rfl,rfl,_,rfl,ite2 77 91⟩
 ·have:(8:Int)<(x.length:Int):=lS c
  lia
 refine⟨_,rfl,x,rfl,?_⟩;refine zL9 (x:=x) (λ i σ' H'=>∃s1:Option V,σ'=[some (.str x),s1]/\H'=H) ⟨none,rfl,rfl⟩ ?_ ?_
 ·rintro i c σ' H' hc ⟨s1,rfl,rfl⟩
  have hcm:=gx.ab c (by
   have:=lK (l:=x.cps.toList) (i:=i) (a:=c) (by rw[Array.getElem?_toList];exact hc);exact this)
  refine⟨_,rfl,_,_,rfl,rfl,_,rfl,?_⟩;rw[zMG c hcm.1 hcm.2];exact iteF ⟨_,rfl,rfl⟩
 ·rintro σ' H' ⟨s1,rfl,rfl⟩
  refine⟨_,rfl,(by show 11<=sizeLine;decide),λ p hp=>⟨p,keptS.map V.str,rfl,.inr (SqT.of zAB),rfl,rfl,?_⟩⟩
  have:inV (.str x) (keptS.map V.str)=false:=by
   cases h:inV (.str x) (keptS.map V.str) with
   |false=>rfl
   |true=>exact absurd ((zGB _ _).mp h) gx.kp
  rw[this];exact q _ (zAC hp)
def zCA (n:Nat):Sp:=λ vs H Q Ω=>E2 λ(t:Tr) (v:V)=>A6 (vs=[v]) (Rep H t v) (t.dep<=n) (t.good GW) (ngT t) (∀H',Same H H'->Q (.bl true) H')
theorem zI1 (F:Fun K "_law_is_tree" "_law_is_tree" zBn f fd) (z_isinstance:mg "isinstance" = none) (z_str:mg "str" = none) (z_len:mg "len" = none) (z_tuple:mg "tuple" = none) (z_int:mg "int" = none) (z_bool:mg "bool" = none)
  (zNi:FnB P w K mg base k "_law_is_word" g1 gd1 ["_law_word"] zDT) (zNj:FnB P w K mg base k "_law_is_tree" f fd ["_law_tree_here"] (zCA n)):FnOk P w K mg base CX0 (k+1) f fd ["_law_tree_here"] (zCA (n+1)):=by
 refine F.ok zBJ 69 58
 ·obtain⟨t,v,rfl,_⟩:=h
  rfl
 obtain⟨t,v,rfl,hR,hn,hg,hng,q⟩:=h;have hu:=hu_of hr
 refine⟨_,(Sd.un (zAF (zAe ⟨(pw_or (zBS (zAp (cI z_isinstance z_tuple rF (pv 0)))) (pw_or (zAJ op_lt (cL z_len (zAA (pv 0) zAD)) zAG 82) (zCg (zBS (zAp (cI z_isinstance z_str PyProof.Rows.boot_str 57)))))).pt⟩ (zAS (zAX ⟨pe_bl⟩)) ⟨zAK⟩)
  (zAF (zAe ⟨zAJ op_eq 57 zAP 82⟩ (zAS (zAX ⟨zFy (zA6 op_eq (cL z_len (zAA (pv 0) zAD)) zAG 82) (zFy (cI z_isinstance z_int PyProof.Rows.boot_int 57) (zD2 (zMc (cI z_isinstance z_bool PyProof.Rows.boot_bool 57))))⟩)) ⟨zAK⟩)
  (zAF (zAe ⟨zAJ (r:=rIn K false) zBy 57 (zFO [.str "name", .str "ask", .str "stop"] 84:PE _ _ _) rfl⟩ (zAS (zAX ⟨zFy (zA6 op_eq (cL z_len (zAA (pv 0) zAD)) zAG 82) (zD2 (pe_cl zNi hr (zAA 57 zAD)))⟩)) ⟨zAK⟩)
  (zAF (pSS (i:=1) zBJ.nd ⟨zAh zCE (pv 0) (zAf zAG) zAy⟩)
  (zAF (zAe ⟨zAJ op_eq 57 zAP 82⟩ (zAF (zAe ⟨zBS (zAp (pe_cl zNi hr (zAA 57 zAD)))⟩ (zAS (zAX ⟨pe_bl⟩)) ⟨zAK⟩)
  (zAS (pSS (i:=1) zBJ.nd ⟨zAh zCE (pv 0) (zAf zAG) zAy⟩))) ⟨zAK⟩)
  (zAF (pSS (i:=2) zBJ.nd (zKQ (zBw ⟨zAP⟩ ⟨zAG⟩ (zBw ⟨zAP⟩ ⟨zAG⟩ (zBw ⟨zAP⟩ ⟨zAG⟩ (zBw ⟨zAP⟩ ⟨zAG⟩ (zBw ⟨zAP⟩ ⟨zAG⟩ (zBw ⟨zAP⟩ ⟨zAG⟩ (zBw ⟨zAP⟩ ⟨zAG⟩ zKN))))))) rfl rfl 59 66))
  (zAF (zAe ⟨zAJ op_ne (zEA hu (pv 2) 57 ⟨rfl,rfl,rfl,rfl⟩) (cL z_len (zAA 81 zAD)) 82⟩ (zAS (zAX ⟨pe_bl⟩)) ⟨zAK⟩)
  (zAF ⟨zAj PassesOwn.never rfl (zB1 81) (pGn (i:=3) zBJ.nd) (zAH (ps_if (zBS (zAp (pe_cl zNj hr (zAA (pv 3) zAD)))) (zAH (zAU pe_bl)) zAK))⟩
  (zAS (zAX ⟨pe_bl⟩))))))))))),?_⟩
 obtain⟨a,hs,us,rfl,ha,hl,hp⟩:=id hR.all;have h0:atI (V.str t.kd.s::hs++us) 0=some (.str t.kd.s):=zAc (j:=0) rfl;have lus:=zBD hp
 have hlen:2<=(V.str t.sign::hs++us).length:=by
  rw[mI,mK];have:2<=t.head+t.parts.length:=by cases t<;>simp[Tr.head,Tr.parts]
  lia
 refine⟨_,rfl,.ref a, "tuple", _,true,rfl,.tup ha,rfl,_,rfl,iteF ?_⟩;refine⟨_,rfl,a,_,rfl,.inr (SqT.of ha),_,_,rfl,rfl,_,rfl,ite2 77 91⟩
 ·have:((V.str t.sign::hs++us).length:Int)<2:=lS c
  lia
 refine⟨_,rfl,a,_,0,_,rfl,rfl,SqT.of ha,h0,.str t.kd.s, "str", _,true,rfl,.str _,rfl,_,rfl,iteF ?_⟩;refine⟨_,rfl,a,_,0,_,rfl,rfl,SqT.of ha,h0,rfl,_,rfl,ite2 77 (λ cn=>?_)⟩
 ·have z:t.kd = .num:=Kd.eq_iff.mp (lS c)
  cases t with
  |num i =>
   obtain⟨a',e,ha'⟩:=hR;cases e;refine⟨_,rfl,a,_,rfl,.inr (SqT.of ha'),rfl,_,rfl,iteT ?_⟩;refine⟨_,rfl,a,_,1,_,rfl,rfl,SqT.of ha',rfl,.int i, "int", _,true,rfl,.int i,rfl,_,rfl,?_⟩;refine iteT ⟨_,rfl,a,_,1,_,rfl,rfl,SqT.of ha',rfl,.int i, "bool", _,false,rfl,.int i,rfl,_,rfl,q _ (.refl _)⟩
  |bin o a b=>cases o<;>cases z
  |_=>cases z
 have nnum:t.kd ≠ .num:=λ z=>cn (lT (Kd.eq_iff.mpr z));refine⟨_,rfl,a,_,0,_,rfl,rfl,SqT.of ha,h0,(by show 3<=sizeLine;decide),λ pc hpc=>⟨pc,_,rfl,.inr (SqT.of zAB),rfl,rfl,_,rfl,?_⟩⟩;have gc:=zAC (o:=.tup [.str "name", .str "ask", .str "stop"]) hpc;show if inV (.str t.kd.s) [.str "name", .str "ask", .str "stop"]=true then _ else _
 rw[in3];have r1:=hR.mono gc.tk;have ha1:=gc _ _ ha;have hp1:=Paired.mapP hp λ Ω Ω z=>Rep.mono gc.tk z;generalize upd H pc _=H1 at gc r1 ha1 hp1 ⊢;refine ite2 (λ c3=>?_) (λ c3=>?_)
 ·obtain⟨a',x,e,h3,gx⟩:=zKH r1 hg (lS c3)
  cases e;refine⟨_,rfl,a,_,rfl,.inr (SqT.of h3),rfl,_,rfl,iteT ?_⟩;exact⟨_,rfl,a,_,1,_,rfl,rfl,SqT.of h3,rfl,x,rfl,gx,λ H4 g4=>q _ (gc.trans g4)⟩
 have nw:¬(t.kd = .name\/t.kd = .ask\/t.kd = .stop):=λ z=>c3 (lT z)
 have hlf:t.kd.leaf=false:=by
  have n1:=ng_kd hng;cases h:t.kd with
  |num=>exact absurd h nnum
  |name=>exact absurd (.inl h) nw
  |ask=>exact absurd (.inr (.inl h)) nw
  |stop=>exact absurd (.inr (.inr h)) nw
  |gap=>exact absurd h n1
  |_=>rfl
 refine⟨_,rfl,1,rfl,a,_,rfl,ha1,(λ z=>zKi _ _ z.1),λ p1 H2 g2 e2=>?_⟩;have e2':H2 p1=some (.tup (hs++us)):=by rw[e2];exact congrArg (λ x=>some (HO.tup x)) (cut1 _ _)
 have ga2:=gc.trans g2;have ha2:=g2 _ _ ha1;have r2:=r1.mono g2.tk
 have pr2:¬t.kd = .lett->Paired (Rep H2) t.parts (hs++us):=λ n2=>by
  have hh:hs=[]:=by
   have:t.head=1:=by
    cases t with
    |lett x a b=>exact absurd rfl n2
    |say a=>rfl
    |bin o a b=>rfl
    |ite a b c=>rfl
    |_=>cases hlf
   exact nI.mp 65
  subst hh;exact Paired.mapP hp1 λ Ω Ω z=>Rep.mono g2.tk z
 apply viaS (λ σ' H'=>E2 λ(pI:Addr) (inn:List V)=>A5 (σ'=[some (.ref a),some (.ref pI),none,none]) (Same H H') (H' a=some (.tup (.str t.sign::hs++us))) (H' pI=some (.tup inn)) (Paired (Rep H') t.parts inn))
 ·intro rest
  refine⟨_,rfl,a,_,0,_,rfl,rfl,SqT.of ha2,h0,rfl,_,rfl,ite2 77 (λ c=>rest _ _ ⟨p1,hs++us,rfl,ga2,ha2,e2',pr2 λ z=>c (lT (Kd.eq_iff.mpr z))⟩)⟩;obtain⟨x,ta,tb,et⟩:=zJM (Kd.eq_iff.mp (lS c));have r2':=r2;have hg':=hg;rw[et] at r2' hg';obtain⟨a',ua,ub,e',h3,ra,rb⟩:=r2';cases e';refine⟨_,rfl,a,_,1,_,rfl,rfl,SqT.of h3,rfl,x,rfl,hg'.1,λ H4 g4=>⟨_,rfl,iteF ?_⟩⟩;have h4:=g4 _ _ h3;refine⟨_,rfl,2,rfl,a,_,rfl,h4,(λ z=>zKh _ _ _ z.1),λ p5 H5 g5 e5=>?_⟩;rw[cut2] at e5;have g45:=g4.trans g5;exact rest _ _ ⟨p5,[ua,ub],rfl,ga2.trans g45,g45 _ _ ha2,e5,by rw[et];exact .cons (ra.mono g45.tk) (.cons (rb.mono g45.tk) .nil)⟩
 rintro σ' H5 ⟨pI,inn,rfl,g5,ha5,e5,hin5⟩;have linn:inn.length=many t.kd:=by rw[zBD hin5,zKk hlf]
 refine λ pd hpd=>⟨zAB,zEZ,rfl,by decide,?_⟩;have e0:upd (upd H5 pd (.dK [])) pd (.dK (zA5 [] zEZ))=upd H5 pd (.dK (zA5 [] zEZ)):=zLZ;rw[e0];have g6:=zAC (o:=.dK (zA5 [] zEZ)) hpd;have ha6:=g6 _ _ ha5;have e6:=g6 _ _ e5;have ed6:=@zAB H5 pd (.dK (zA5 [] zEZ));show tSeq _ _ _ _ (upd H5 pd (.dK (zA5 [] zEZ)));generalize upd H5 pd _=H6 at g6 ha6 e6 ed6 ⊢;have hin6:=Paired.mapP hin5 λ Ω Ω z=>Rep.mono g6.tk z;refine⟨_,rfl,pd,rfl,.inl ⟨_,.inl ed6⟩,_,rfl,a,_,0,_,rfl,rfl,SqT.of ha6,h0,_,DGet.k (k:=Sum.inr t.kd.s) ed6,?_⟩;rw[zKl hlf];refine⟨_,rfl,pI,_,rfl,.inr (SqT.of e6),rfl,_,rfl,ite2 77 91⟩
 ·rw[linn] at c
  simp at c
 refine⟨_,rfl,pI,rfl,⟨inn,SqT.of e6⟩,?_⟩;refine zB9 (xs:=inn) (λ i σ' H'=>∃s3,σ'=[some (.ref a),some (.ref pI),some (.ref pd),s3]/\Same H6 H') ⟨none,rfl,.refl _⟩ ?_ ?_ ?_
 ·rintro i σ1 H7 _ ⟨s3,rfl,g7⟩
  exact SqT.of (g7 _ _ e6)
 ·rintro i x σ1 H7 hx ⟨s3,rfl,g7⟩
  obtain⟨p,ep,rp⟩:=zAW hin6 hx;have pm:=lK ep;have hd:=zB4 pm;exact⟨_,rfl,p,x,rfl,rp.mono g7.tk,by lia,zCi hg pm,zDr hng pm,λ H8 g8=>⟨_,rfl,iteF ⟨_,rfl,g7.trans g8⟩⟩⟩
 ·rintro σ1 H7 ⟨s3,rfl,g7⟩
  exact q _ (g5.trans (g6.trans g7))
theorem zGk {k:Nat}{f:Addr}{fd:FuncData}:FnOk P w K mg base CX0 k f fd ["_law_tree_here"] (zCA 0):=by
 have no:∀vs H Q E,¬zCA 0 vs H Q E:=λ vs H Q E h=>by
  obtain⟨t,v,_,_,h1,_⟩:=h;have:=zCV t
  lia
 exact⟨λ vs H Q E h=>absurd h (no vs H Q E),λ A outer s H args us vs Q E Ω Ω Ω Ω h=>absurd h (no vs H Q E)⟩
theorem zFE (F:Fun K "_law_is_tree" "_law_is_tree" zBn f fd) (b:Binds K fd ["_law_tree_here"] []) (m:mg "_law_is_tree" = some (.ref f)) (z_isinstance:mg "isinstance" = none) (z_str:mg "str" = none) (z_len:mg "len" = none) (z_tuple:mg "tuple" = none) (z_int:mg "int" = none) (z_bool:mg "bool" = none)
  (G:FnB P w K mg base k "_law_is_word" g1 gd1 ["_law_word"] zDT):∀n:Nat,FnB P w K mg base (k+n) "_law_is_tree" f fd ["_law_tree_here"] (zCA n)
 |0=>⟨zGk,b,F.kp,m⟩
 |n+1=>⟨zI1 F z_isinstance z_str z_len z_tuple z_int z_bool (G.up (Nat.le_add_right _ _)) (zFE F b m z_isinstance z_str z_len z_tuple z_int z_bool G n),b,F.kp,m⟩
abbrev zCx:Stmt:=top 48
theorem zEM:zAV ["_law_tree_here", "_law_part"] ["_law_tree_here"] (zAM zCx):=scI
def zDi (n:Nat):Sp:=λ vs H Q Ω=>E4 λ(t:Tr) (v:V) (κ:Kno) (m:Nat)=>A6 (vs=[v]) (t.dep<=n) (DR H (blT κ m t) v) (ngT t) (KL κ) (∀(z:Bool) H',Same H H'->(z=true↔LostT κ t)->Q (.bl z) H')
theorem zLw (F:Fun K "_law_lost" "_law_lost" zCx f fd) (z_isinstance:mg "isinstance" = none) (z_tuple:mg "tuple" = none)
  (zNk:FnB P w K mg base k "_law_lost" f fd ["_law_tree_here"] (zDi n)):FnOk P w K mg base CX0 (k+1) f fd ["_law_tree_here"] (zDi (n+1)):=by
 refine F.ok zEM 69 58
 ·obtain⟨t,v,κ,m,rfl,_⟩:=h
  rfl
 obtain⟨t,v,κ,m,rfl,hn,hD,hg,hk,q⟩:=h
 refine⟨_,(zAE (ps_if (zAJ op_eq 57 zAP 82) (zAH (zAU pe_bl)) zAK)
  (zAE (zAj PassesOwn.never rfl (zB1 (zAh zCE (pv 0) (zAf zAG) zAy)) (pGn (i:=1) zEM.nd) (zAH (ps_if (zBk (zAp (cI z_isinstance z_tuple rF 81)) (zBE (zAp (pe_cl zNk hr (zAA 81 zAD))))).pt (zAH (zAU pe_bl)) zAK)))
  (zAH (zAU pe_bl)))),?_⟩
 obtain⟨sg,pl,ev,hpl,hsg⟩:=zGx (m:=m) hk hg;have hli:=zKm (κ:=κ) (m:=m) hg;have hko:=zKt (m:=m) hk hg;rw[ev] at hD
 obtain⟨a,vs0,rfl,ha,rs⟩:∃a vs0,v = .ref a/\H a=some (.tup (.str sg::vs0))/\DRs H (pl++(kidsB κ m t).map bl3) vs0:=by
  cases hD with
  |tup ha hds=>cases hds with
   |cons r0 rs=>cases r0;exact⟨_,_,rfl,ha,rs⟩
 have at0:atI (V.str sg::vs0) 0=some (.str sg):=zAc (j:=0) rfl;refine⟨_,rfl,a,_,0,_,rfl,rfl,SqT.of ha,at0,rfl,_,rfl,ite2 77 77⟩
 ·exact q true H (.refl _) ⟨λ Ω=>hli.mpr (.inl (hsg.mp (V.str.inj (lS c)))),λ Ω=>rfl⟩
 have nsg:¬sg = "lost" := λ z=>c (lT (by rw[z]));obtain⟨hc1,ec⟩:=cutT1 (xs:=V.str sg::vs0) 59;refine⟨_,rfl,1,rfl,a,_,rfl,ha,hc1,λ p H1 g1 e1=>?_⟩;rw[ec] at e1;refine⟨p,rfl,⟨_,SqT.of e1⟩,?_⟩;refine zB9 (xs:=vs0) (λ i σ' H'=>∃(s2:Option V),A3 (σ'=[some (.ref a),s2]) (Same H1 H') (∀x∈(kidsB κ m t).take (i - pl.length),¬LostT x.1 x.2.2)) ⟨none,rfl,.refl _,λ x hx=>by rw[Nat.zero_sub] at hx;cases hx⟩ ?_ ?_ ?_
 ·rintro i σ' H' _ ⟨s2,rfl,g,hall⟩
  exact SqT.of (g _ _ e1)
 ·rintro i x σ' H' hx ⟨s2,rfl,g,hall⟩
  obtain⟨d,ed,rd⟩:=rs.get hx
  by_cases c:i<pl.length
  ·rw[mQ c] at ed
   have hm2:∀x∈(kidsB κ m t).take (i+1 - pl.length),¬LostT x.1 x.2.2:=λ x hx=>by rw[show i+1 - pl.length=0 by lia] at hx;cases hx
   rcases hpl d (lK ed) with ⟨y,rfl⟩|⟨y,rfl⟩
   ·cases rd;exact⟨_,rfl,_, "tuple", _,false,rfl,.str y,rfl,_,rfl,iteF (iteF ⟨_,rfl,g,hm2⟩)⟩
   ·cases rd;exact⟨_,rfl,_, "tuple", _,false,rfl,.int y,rfl,_,rfl,iteF (iteF ⟨_,rfl,g,hm2⟩)⟩
  ·rw[mR 65,mH] at ed
   obtain⟨kq,ekq,rfl⟩:=lU.mp ed;have km:=lK ekq;obtain⟨k1,k2,k3⟩:=hko kq km;have rd':=rd.mono (g1.trans g).tk;obtain⟨sg2,pl2,ev2,_⟩:=zGx (m:=kq.2.1) k1 k2
   obtain⟨ai,vi,rfl,hai⟩:∃ai vi,x = .ref ai/\H' ai=some (.tup vi):=by
    have rd2:=rd';unfold bl3 at rd2;rw[ev2] at rd2;cases rd2 with
    |tup h _=>exact⟨_,_,rfl,h⟩
   refine⟨_,rfl,_, "tuple", _,true,rfl,.tup hai,rfl,_,rfl,iteT ?_⟩;refine⟨_,rfl,kq.2.2,_,kq.1,kq.2.1,rfl,by lia,rd',k2,k1,λ z H2 g2 hz=>⟨z,rfl,?_⟩⟩;cases z with
   |true=>exact iteT (q true H2 (g1.trans (g.trans g2)) ⟨λ Ω=>hli.mpr (.inr ⟨kq,km,hz.mp rfl⟩),λ Ω=>rfl⟩)
   |false =>
    refine iteF ⟨_,rfl,g.trans g2,λ x hx=>?_⟩;rw[show i+1 - pl.length=i - pl.length+1 by lia,zAT ekq] at hx;rcases lJ.mp hx with h|h
    ·exact hall x h
    ·rw[mO.mp h];exact λ y=>nomatch hz.mpr y
 ·rintro σ' H' ⟨s2,rfl,g,hall⟩
  have lr:=rs.length;rw[mI,lC] at lr;rw[←lr,Nat.add_sub_cancel_left,mM] at hall;refine q false H' (g1.trans g) ⟨(λ z=>nomatch z),λ z=>?_⟩
  rcases hli.mp z with z|⟨x,hx,hz⟩
  ·exact absurd (hsg.mpr z) nsg
  ·exact absurd hz (hall x hx)
theorem zI8 {k:Nat}{f:Addr}{fd:FuncData}:FnOk P w K mg base CX0 k f fd ["_law_tree_here"] (zDi 0):=by
 have no:∀vs H Q E,¬zDi 0 vs H Q E:=λ vs H Q E h=>by
  obtain⟨t,v,κ,m,_,h0,_⟩:=h;have:=zCV t
  lia
 exact⟨λ vs H Q E h=>absurd h (no vs H Q E),λ A outer s H args us vs Q E Ω Ω Ω Ω h=>absurd h (no vs H Q E)⟩
theorem zHm (F:Fun K "_law_lost" "_law_lost" zCx f fd) (b:Binds K fd ["_law_tree_here"] []) (m:mg "_law_lost" = some (.ref f)) (z_isinstance:mg "isinstance" = none) (z_tuple:mg "tuple" = none):∀n:Nat,FnB P w K mg base (k+n) "_law_lost" f fd ["_law_tree_here"] (zDi n)
 |0=>⟨zI8,b,F.kp,m⟩
 |n+1=>⟨zLw F z_isinstance z_tuple (zHm F b m z_isinstance z_tuple n),b,F.kp,m⟩
abbrev zDJ:Stmt:=top 49
theorem zBf:zAV ["_law_gap", "_law_tree_here", "_law_opened", "_law_pieces_here", "_law_kinds", "_law_atoms", "_law_put_here", "_law_name", "_law_due"] ["_law_gap", "_law_tree_here", "_law_opened", "_law_pieces_here", "_law_kinds"] (zAM zDJ):=scI
def zIZ:Sp:=λ vs H Q Ω=>∃(g:Str) (as:List Str) (t:Tr) (gv tv:V) (od pd kl:Addr) (okv pkv:List 90) (kvl:List V) (ps kds:List 70) (φ:List (Str × Dt)),vs=[gv,tv,.ref od,.ref pd,.ref kl]/\Rep H (.gap g (as.map Atom.name)) gv/\as.length<=100/\Rep H t tv/\ngT t/\t.dep<=60/\H od=some (.dK okv)/\OpD okv ps/\H pd=some (.dK pkv)/\FlG (DR H) φ pkv/\φ.length<=300/\(∀q∈φ,DuOk q.2)/\od≠pd/\H kl=some (.lst kvl)/\DRs H (kdD kds) kvl/\(kds.map (·.1)).Nodup/\(∀g,KdV (wKd kds g)) /\
 (∀H',SbD pd H H'->(¬OkG (wKd kds) g as t ps\/∃d,(g,d)∈φ/\¬dueO as ps t=d)->Q (.bl false) H') /\
 (∀pkv' φ' H',SbD pd H H'->H' pd=some (.dK pkv')->FlG (DR H') φ' pkv'->OkG (wKd kds) g as t ps->(∀d,(g,d)∈φ->dueO as ps t=d)->((φ'=φ/\(g,dueO as ps t)∈φ)\/φ'=φ++[(g,dueO as ps t)])->Q (.bl true) H')
theorem zMg (F:Fun K "_law_takes" "_law_takes" zDJ f fd) (zNh:FnB P w K mg base k "_law_bare" g1 gd1 ["_law_tree_here", "_law_known", "_law_deep"] (zDF 60)) (zNk:FnB P w K mg base k "_law_lost" g2 gd2 ["_law_tree_here"] (zDi 60)) (zNd:FnB P w K mg base k "_law_loud" g3 gd3 ["_law_tree_here"] (zCo 60)):FnOk P w K mg base CX0 (k+1) f fd ["_law_gap", "_law_tree_here", "_law_opened", "_law_pieces_here", "_law_kinds"] zIZ:=by
 refine F.ok zBf 69 58
 ·obtain⟨g,as,t,gv,tv,od,pd,kl,okv,pkv,kvl,ps,kds,φ,rfl,_⟩:=h
  rfl
 obtain⟨g,as,t,gv,tv,od,pd,kl,okv,pkv,kvl,ps,kds,φ,rfl,hG,hal,hR,hg,hdp,hod,hop,hpd,hF,lφ,hφd,nop,hkl,hkd,knd,hkv,qn,qy⟩:=h;have hu:=hu_of hr;have hu5:=hu150 hr
 refine⟨_,(Sd.un (zAF ⟨zD9 (jj:=5) ["_law_atom"] [none] rfl (zB1 57) (λ Ω Ω Ω Ω Ω=>(zBx (i:=0) (show List.Nodup (["_law_atom"]:List Str) by right) rfl (Or.inl rfl))) (λ Ω Ω Ω Ω Ω=>zCh) (λ Ω Ω Ω Ω Ω=>57) rfl zBf.nd rfl (Or.inl rfl) (Or.inr rfl)⟩
  (zAF (pSS (i:=6) zBf.nd ⟨zBL⟩)
  (zAF ⟨zAj PassesOwn.never rfl (zIo (pv 2)) (pGn (i:=7) zBf.nd) (zAE (zBF hu (pv 6) (pv 7) (zAk (zAA zAP (zAA zAG zAD)):PE _ _ _) rfl)
  (zAH (ps_if (zAJ (r:=rIn K false) zBy (zBb hu (pv 2) (pv 7) 73) (pv 5) rfl) (zAH (zBF hu (pv 6) (pv 7) (zAk (zAA zAP (zAA (pe_bm rM PySem.F.slot_list_index PySem.F.type_list_index zKj (pv 5) (zAA (zBb hu (pv 2) (pv 7) 73) zAD)) zAD)):PE _ _ _) rfl)) zAK)))⟩
  (zAF (pSS (i:=8) zBf.nd ⟨zIp (pe_cl zNh hr (zAA 81 (zAA (pv 6) (zAA zAG zAD))))⟩)
  (zAF (zAe ⟨zAp (pe_cl zNk hr (zAA (pv 8) zAD))⟩ (zAS (zAX ⟨pe_bl⟩)) ⟨zAK⟩)
  (zAF (zAe ⟨(zBk (zAJ (zGf hu5) (zAk (zAA 57 (zAA zAP zAD)):PE _ _ _) (pv 4) rfl) (zBE (zAJ op_ne (iC (r:=rIxT K) zAN 81) zAP 82))).pt⟩ (zAS (zAX ⟨pe_bl⟩)) ⟨zAK⟩)
  (zAF (zAe ⟨(zBk (zAJ (zGf hu5) (zAk (zAA 57 (zAA zAP zAD)):PE _ _ _) (pv 4) rfl) (zBE (zAp (pe_cl zNd hr (zAA 81 zAD))))).pt⟩ (zAS (zAX ⟨pe_bl⟩)) ⟨zAK⟩)
  (zAF (zAe ⟨zAJ (zIt hu) 57 (pv 3) rfl⟩ (zAS (zAX ⟨zA6 (zHN hu5) (zBb hu (pv 3) 57 73) (pv 8) 82⟩)) ⟨zAK⟩)
  (zAF ⟨zBF hu (pv 3) 57 (pv 8) rfl⟩
  (zAS (zAX ⟨pe_bl⟩)))))))))))),?_⟩
 have d2:2<=sizeLine:=by decide
 obtain⟨a,x,us,rfl,ha,hx,_,pas⟩:=hG;have lpa:=pas.length;rw[lC] at lpa;refine⟨_,rfl,a,_,2,_,rfl,rfl,SqT.of ha,rfl,x,rfl,⟨us,SqT.of hx⟩,λ acc hacc=>?_⟩;refine zEi (xs:=us) (λ i H'=>Same H H'/\H' acc=some (.lst ((as.take i).map V.str))) ⟨zAC hacc,zAB⟩ (λ i H' Ω h=>SqT.of (h.1 _ _ hx)) ?_ ?_
 ·rintro j y Hx hy ⟨gx,ex⟩
  obtain⟨at_,ea,ra⟩:=zAW pas hy;rw[mH] at ea;obtain⟨z,ez,rfl⟩:=lU.mp ea;obtain⟨c,rfl,hc⟩:=ra.mono gx.tk;have hj:j<us.length:=(lI.mp hy).1;refine⟨.skip .nil,_,rfl,c,_,1,_,rfl,rfl,SqT.of hc,rfl,_,ex,zAO (by rw[lC,mL];lia),zAY gx hacc,?_⟩;rw[zAB,zAT ez,mN];rfl
 rintro H1 ⟨g1,e1⟩;rw[←lpa,mM] at e1;refine λ dz hdz=>?_;have g2:=zAC (o:=.dK []) hdz;have ez0:=@zAB H1 dz (.dK []);have e12:=g2 _ _ e1;have g12:=g1.trans g2;have hdzH:H dz=none:=g1.free hdz;show tSeq _ _ _ _ (upd H1 dz (.dK []));generalize upd H1 dz _=H2 at g2 ez0 e12 g12 ⊢;have hod2:=g12 _ _ hod;refine⟨_,rfl,od,okv,rfl,.inr ⟨hod2,λ o=>?_⟩⟩;have ndo:dz≠od:=Ne.symm (zAL hod hdzH);have nao:acc≠od:=Ne.symm (zAL hod hacc);have nda:dz≠acc:=Ne.symm (zAL e1 hdz);have sb3:SbD od H (upd H2 od (.frz o (.dK okv))):=g12.sd.trans (SbD.set _);have eo3:=@zAB H2 od (.frz o (.dK okv));have ez3:(upd H2 od (.frz o (.dK okv))) dz=some (.dK []):=by rw[zAR ndo];exact ez0
 have ea3:(upd H2 od (.frz o (.dK okv))) acc=some (.lst (as.map V.str)):=by rw[zAR nao];exact e12
 generalize upd H2 od _=H3 at sb3 eo3 ez3 ea3 ⊢;have lokv:=hop.ln;refine zHZ (o:=o) (a:=od) (kvs:=okv) (λ i σ' H'=>E2 λ(s7:Option V) (zkv:List (Key × V))=>A8 (σ'=[some (.ref a),some tv,some (.ref od),some (.ref pd),some (.ref kl),some (.ref acc),some (.ref dz),s7,none]) (SbD od H H') (H' od=some (.frz o (.dK okv))) (H' dz=some (.dK zkv)) (H' acc=some (.lst (as.map V.str))) (zkv.length<=i) (∀x,(∃p∈okv.take i,p.1=(Sum.inr x:Key))->RelD H' (kapL as ps.reverse x) (valV zkv (Sum.inr x:Key))) (∀x,¬(∃p∈okv.take i,p.1=(Sum.inr x:Key))->valV zkv (Sum.inr x:Key)=none)) ⟨none,[],rfl,sb3,eo3,ez3,ea3,lQ _,(λ x ⟨p,hp,_⟩=>nomatch hp),λ x Ω=>rfl⟩ ?_ ?_ ?_
 ·rintro i σ' H' _ ⟨s7,zkv,rfl,sb,eo,ez,ea,lz,hy,hn⟩
  exact eo
 ·rintro i p σ' H' hp ⟨s7,zkv,rfl,sb,eo,ez,ea,lz,hy,hn⟩
  obtain⟨xk,yk,ek,eb⟩:=hop.ks p (lK hp);have ekv:kV p.1 = .str xk:=by rw[ek];rfl
  rw[ekv];have hi:i<okv.length:=(lI.mp hp).1
  have htk:∀z,(∃q∈okv.take (i+1),q.1=(Sum.inr z:Key))↔(∃q∈okv.take i,q.1=(Sum.inr z:Key))\/z=xk:=λ z=>by
   rw[zAT hp];constructor
   ·rintro⟨q,hq,e⟩
    rcases lJ.mp hq with h|h
    ·exact .inl ⟨q,h,e⟩
    ·rw[mO.mp h,ek] at e;exact .inr (Sum.inr.inj e).symm
   ·rintro (⟨q,hq,e⟩|rfl)
    ·exact⟨q,mE _ hq,e⟩
    ·exact⟨p,lZ _ lO,ek⟩
  have fin:∀(H5:Hp) (pv:Addr) (dd:Dt) (zk:List 90),kapL as ps.reverse xk=some dd->DR H5 dd (.ref pv)->Tk H' H5->zk.length<=i+1->(∀z,valV zk (Sum.inr z:Key)=if z=xk then some (.ref pv) else valV zkv (Sum.inr z:Key))->(∀x,(∃p∈okv.take (i+1),p.1=(Sum.inr x:Key))->RelD H5 (kapL as ps.reverse x) (valV zk (Sum.inr x:Key)))/\∀x,¬(∃p∈okv.take (i+1),p.1=(Sum.inr x:Key))->valV zk (Sum.inr x:Key)=none:=λ H5 pv dd zk hk hd tk Ω hv=>by
   refine⟨λ z hz=>?_,λ z hz=>?_⟩
   ·rw[hv z]
    by_cases c:z=xk
    ·rw[if_pos c,c,hk];exact hd
    ·rw[if_neg c]
     rcases (htk z).mp hz with h|h
     ·have:=hy z h
      cases e1:kapL as ps.reverse z<;>cases e2:valV zkv (Sum.inr z:Key)<;>rw[e1,e2] at this
      ·exact True.intro
      ·exact this.elim
      ·exact this.elim
      ·exact DR.mono tk this
     ·exact absurd h c
   ·rw[hv z,if_neg (λ c=>hz ((htk z).mpr (.inr c)))]
    exact hn z λ h=>hz ((htk z).mpr (.inl h))
  have dgo:∀{H5:Hp},H5 od=some (.frz o (.dK okv))->DGet H5 od (.str xk) (some (.str yk)):=λ{H5} h=>.inl ⟨okv,Sum.inr xk,.inr ⟨o,h⟩,rfl,by rw[hop.vl,eb];rfl⟩;refine⟨d2,λ pl hpl=>?_⟩;have k4:=zAC (o:=.tup [.str "lost", .int 0]) hpl;have epl:=@zAB H' pl (.tup [.str "lost", .int 0]);have ez4:=k4 _ _ ez;have eo4:=k4 _ _ eo;have ea4:=k4 _ _ ea;have sb4:=sb.trans (k4.sd (d:=od));generalize upd H' pl _=H4 at k4 epl ez4 eo4 ea4 sb4 ⊢;refine⟨_,rfl,_,rfl,dz,_,rfl,DPut.k (k:=Sum.inr xk) ez4 (zAO 65),?_⟩;have tk5:Tk H4 (upd H4 dz (.dK (putK zkv (Sum.inr xk) (.ref pl)))):=Tk.dk ez4;have sb5:SbD od H (upd H4 dz (.dK (putK zkv (Sum.inr xk) (.ref pl)))):=sb4.put hdzH _;have ez5:=@zAB H4 dz (.dK (putK zkv (Sum.inr xk) (.ref pl)));have eo5:(upd H4 dz (.dK (putK zkv (Sum.inr xk) (.ref pl)))) od=some (.frz o (.dK okv)):=by rw[zAR (Ne.symm ndo)];exact eo4
  have ea5:(upd H4 dz (.dK (putK zkv (Sum.inr xk) (.ref pl)))) acc=some (.lst (as.map V.str)):=by rw[zAR (Ne.symm nda)];exact ea4
  have hv5:∀z,valV (putK zkv (Sum.inr xk:Key) (.ref pl)) (Sum.inr z:Key)=if z=xk then some (.ref pl) else valV zkv (Sum.inr z:Key):=λ z=>by
   rw[zBc]
   by_cases c:z=xk
   ·rw[if_pos c,if_pos (by rw[c])]
   ·rw[if_neg c,if_neg (λ e=>c (Sum.inr.inj e))]
  have lz5:=zAx zkv (Sum.inr xk:Key) (.ref pl);have epl5:=tk5 _ _ epl;have tk45:=k4.tk.trans tk5;clear tk5;generalize upd H4 dz _=H5 at tk45 sb5 ez5 eo5 ea5 epl5 ⊢;generalize putK zkv (Sum.inr xk:Key) (.ref pl)=zk5 at ez5 hv5 lz5;refine⟨_,rfl,_,rfl,od,_,rfl,dgo eo5,_,rfl,acc,_,rfl,.inl (SqL.of ea5),rfl,zJi as,_,rfl,?_⟩;show (if inV (.str yk) (as.map V.str)=true then _ else _);rw[zFW];refine ite2 77 77
  ·have hm:yk∈as:=lS c
   have hix:=zGq hm
   have hkap:kapL as ps.reverse xk=some (atomD (as.idxOf yk)):=by
    unfold kapL;rw[eb];show some (if yk∈as then _ else _)=_;rw[if_pos hm]
   have hmin:∀m,m<as.idxOf yk->as[m]?≠some yk:=λ m hm'=>zJZ hm';refine⟨_,rfl,.inl ⟨rfl,_,SqL.of ea5⟩,_,rfl,_,rfl,od,_,rfl,dgo eo5,acc,as,yk,as.idxOf yk,rfl,rfl,ea5,hix,hmin,by lia,d2,λ pa hpa=>?_⟩;have k6:=zAC (o:=.tup [.str "atom", .int (as.idxOf yk:Int)]) hpa;have epa:=@zAB H5 pa (.tup [.str "atom", .int (as.idxOf yk:Int)]);have ez6:=k6 _ _ ez5;have eo6:=k6 _ _ eo5;have ea6:=k6 _ _ ea5;have sb6:=sb5.trans (k6.sd (d:=od));generalize upd H5 pa _=H6 at k6 epa ez6 eo6 ea6 sb6 ⊢;refine⟨_,rfl,_,rfl,dz,_,rfl,DPut.k (k:=Sum.inr xk) ez6 (zAO 65),?_⟩;have tk7:Tk H6 (upd H6 dz (.dK (putK zk5 (Sum.inr xk) (.ref pa)))):=Tk.dk ez6
   have hv7:∀z,valV (putK zk5 (Sum.inr xk:Key) (.ref pa)) (Sum.inr z:Key)=if z=xk then some (.ref pa) else valV zkv (Sum.inr z:Key):=λ z=>by
    rw[zBc]
    by_cases c:z=xk
    ·rw[if_pos c,if_pos (by rw[c])]
    ·rw[if_neg c,if_neg (λ e=>c (Sum.inr.inj e)),hv5,if_neg c]
   have lz7:(putK zk5 (Sum.inr xk:Key) (.ref pa)).length<=i+1:=by
    have:(valV zk5 (Sum.inr xk:Key)).isSome=true:=by rw[hv5,if_pos rfl];rfl
    rw[zGp this]
    lia
   obtain⟨f1,f2⟩:=fin _ pa (atomD (as.idxOf yk)) _ hkap (.tup (tk7 _ _ epa) (.cons (.str _) (.cons (.int _) .nil))) (tk45.trans (k6.tk.trans tk7)) lz7 hv7;exact⟨_,_,rfl,sb6.put hdzH _,by rw[zAR (Ne.symm ndo)];exact eo6,zAB,by rw[zAR (Ne.symm nda)];exact ea6,lz7,f1,f2⟩
  ·have hm:yk∉as:=λ z=>c (lT z)
   have hkap:kapL as ps.reverse xk=some lostD:=by
    unfold kapL;rw[eb];show some (if yk∈as then _ else _)=_;rw[if_neg hm]
   obtain⟨f1,f2⟩:=fin H5 pl lostD zk5 hkap (.tup epl5 (.cons (.str _) (.cons (.int _) .nil))) tk45 65 hv5;exact⟨_,zk5,rfl,sb5,eo5,ez5,ea5,by lia,f1,f2⟩
 ·rintro σ' H' ⟨s7,zkv,rfl,sb,eo,ez,ea,lz,hy,hn⟩
  rw[mM] at hy hn
  have hK:KnD H' (kapL as ps.reverse) zkv:=λ x=>by
   by_cases c:∃p∈okv,p.1=(Sum.inr x:Key)
   ·exact hy x c
   ·rw[hn x c]
    have:kapL as ps.reverse x=none:=by
     unfold kapL;cases e:bnd x ps.reverse with
     |none=>rfl
     |some y =>
      exfalso;have hv:=hop.vl x;rw[e] at hv;obtain⟨p,hp,ep⟩:=lU.mp (show (okv.find? λ kv=>decide (kv.1=(Sum.inr x:Key))).map (·.2)=some (.str y) from hv);have h1:=List.find?_some hp;exact c ⟨p,List.mem_of_find?_eq_some hp,lS h1⟩
    rw[this];exact True.intro
  have tkH:Tk H H':=sb.tk hod;refine⟨_,rfl,_,rfl,t,tv,dz,zkv,kapL as ps.reverse,0,rfl,hdp,hR.mono tkH,hg,ez,by lia,hK,λ dv H4 g4 r4=>?_⟩;have eo4:=g4 _ _ eo
  refine⟨od,o,okv,eo4,(λ o u z=>by
   have z':H od=some (.frz o u):=z;rw[hod] at z';cases z'),?_⟩
  have s5:Same H (upd H4 od (.dK okv)):=Sx.back (show Sx od H H4 from sb.trans g4.sd) hod;have r5:DR (upd H4 od (.dK okv)) (blT (kapL as ps.reverse) 0 t) dv:=r4.mono (λ b xs e=>by rw[zAR (λ z=>by rw[z,eo4] at e;cases e)];exact e);generalize upd H4 od _=H5 at s5 r5 ⊢;have hdue:blT (kapL as ps.reverse) 0 t=dueO as ps t:=rfl;refine⟨_,rfl,t,dv,kapL as ps.reverse,0,rfl,hdp,r5,hg,zJP _ _,λ z H6 g6 hz=>⟨z,rfl,?_⟩⟩;rw[zJO] at hz;have s6:=s5.trans g6;cases z with
  |true=>exact iteT (qn H6 s6.sd (.inl λ y=>hz.mp rfl y.2))
  |false =>
  have hno:NoOth t as ps.reverse:=mC λ n=>nomatch hz.mpr n
  refine iteF ?_;have r6:=r5.mono g6.tk;rw[hdue] at r6;obtain⟨at_,hs0,us0,etv,hat,_,_⟩:=id (hR.mono s6.tk).all;subst etv;have at0:atI (V.str t.kd.s::hs0++us0) 0=some (.str t.kd.s):=zAc (j:=0) rfl;apply viaS (λ σ' H7=>σ'=[some (.ref a),some (.ref at_),some (.ref od),some (.ref pd),some (.ref kl),some (.ref acc),some (.ref dz),s7,some dv]/\Same H6 H7/\((g,("number" : Str))∈kds->t.kd = .num))
  ·intro rest
   refine⟨_,rfl,a,_,1,_,rfl,rfl,SqT.of (s6 _ _ ha),rfl,d2,λ pn hpn=>?_⟩;have k7:=zAC (o:=.tup [.str g,.str "number"]) hpn;refine⟨_,rfl,kl,kvl,kdD kds,.tup [.str g,.str "number"],rfl,(s6.trans k7) _ _ hkl,hkd.mono (s6.trans k7).tk,.tup zAB 94,zDd kds,_,rfl,?_⟩;rw[zJ2];refine ite2 77 (λ c=>iteF (rest _ _ ⟨rfl,k7,λ y=>absurd (lT y) c⟩));refine⟨_,rfl,at_,_,0,_,rfl,rfl,SqT.of (k7 _ _ hat),at0,rfl,_,rfl,ite2 (λ c2=>?_) (λ c2=>rest _ _ ⟨rfl,k7,λ Ω=>?_⟩)⟩
   ·refine qn _ (s6.trans k7).sd (.inl λ y=>?_)
    have hm:=(zED knd).mpr (lS c);rcases y.1 with e|⟨e,_⟩|⟨_,e⟩
    ·rw[hm] at e;cases e
    ·rw[hm] at e;exact absurd (V.str.inj e) 80
    ·rw[e] at c2;simp at c2;exact c2 rfl
   ·by_cases e:t.kd = .num
    ·exact e
    ·have:¬V.str t.kd.s=V.str "num" := λ y=>e (Kd.eq_iff (b:=.num) |>.mp y)
     exact absurd (by simp[this]) c2
  rintro σ' H7 ⟨rfl,g7,hnum⟩;have s7':=s6.trans g7;apply viaS (λ σ' H8=>σ'=[some (.ref a),some (.ref at_),some (.ref od),some (.ref pd),some (.ref kl),some (.ref acc),some (.ref dz),s7,some dv]/\Same H7 H8/\((g,("quiet" : Str))∈kds->QuT t))
  ·intro rest
   refine⟨_,rfl,a,_,1,_,rfl,rfl,SqT.of (s7' _ _ ha),rfl,d2,λ pn hpn=>?_⟩;have k7:=zAC (o:=.tup [.str g,.str "quiet"]) hpn;refine⟨_,rfl,kl,kvl,kdD kds,.tup [.str g,.str "quiet"],rfl,(s7'.trans k7) _ _ hkl,hkd.mono (s7'.trans k7).tk,.tup zAB 94,zDd kds,_,rfl,?_⟩;rw[zJ2];refine ite2 77 (λ c=>iteF (rest _ _ ⟨rfl,k7,λ y=>absurd (lT y) c⟩));refine⟨_,rfl,t,.ref at_,rfl,hdp,(hR.mono (s7'.trans k7).tk),hg,λ z H8 g8 hz8=>?_⟩;cases z with
   |true =>
    refine⟨_,rfl,iteT (qn _ ((s7'.trans k7).trans g8).sd (.inl λ y=>?_))⟩;have hm:=(zED knd).mpr (lS c);rcases y.1 with e|⟨_,e⟩|⟨e,_⟩
    ·rw[hm] at e;cases e
    ·exact nomatch hz8.mpr e
    ·rw[hm] at e;exact absurd (V.str.inj e) 80
   |false=>exact⟨_,rfl,iteF (rest _ _ ⟨rfl,k7.trans g8,λ Ω=>hz8.mp rfl⟩)⟩
  rintro σ' H8 ⟨rfl,g8,hqui⟩;have s8:=s7'.trans g8
  have hofk:OfK (wKd kds g) t:=by
   rcases hkv g with e|e|e
   ·exact .inl e
   ·exact .inr (.inl ⟨e,hqui ((zED knd).mp e)⟩)
   ·exact .inr (.inr ⟨e,hnum ((zED knd).mp e)⟩)
  have hok:OkG (wKd kds) g as t ps:=⟨hofk,hno⟩;have r8:=r6.mono (g7.trans g8).tk;have hF8:=hF.imp λ Ω Ω z=>DR.mono s8.tk z;have hpd8:=s8 _ _ hpd;have ha8:=s8 _ _ ha;obtain⟨es,ees,_⟩:=zLU (as:=as) (ps:=ps) hg hdp;have at1:atI [V.str (Str.ofString "gap"),V.str g,V.ref x] 1=some (.str g):=rfl;cases ev:valV pkv (Sum.inr g:Key) with
  |some v =>
   obtain⟨d0,hd0,rd0⟩:=zJg hF8.pr ev;obtain⟨ds,rfl,dd⟩:=hφd _ hd0;have dgp:DGet H8 pd (.str g) (some v):=.inl ⟨pkv,Sum.inr g,.inl hpd8,rfl,ev.symm⟩;refine⟨_,rfl,a,_,1,_,rfl,rfl,SqT.of ha8,at1,_,rfl,pd,some v,rfl,dgp,_,rfl,iteT ?_⟩;refine⟨_,rfl,_,rfl,a,_,1,_,rfl,rfl,SqT.of ha8,at1,pd,v,rfl,dgp,_,rfl,ds,es,rd0,ees▸r8,mF dd 66,?_⟩;show Q (.bl (Dt.beqs ds es)) H8;cases eb:Dt.beqs ds es with
   |true =>
    have e:=Dt.beqs_iff.mp eb;subst e;refine qy pkv φ H8 s8.sd hpd8 hF8 hok (λ d hd=>?_) (.inl ⟨rfl,ees▸hd0⟩);rw[ees];exact zGl hF8.nd hd0 hd
   |false =>
    refine qn H8 s8.sd (.inr ⟨_,hd0,λ e=>?_⟩);rw[ees] at e;rw[Dt.beqs_iff.mpr (Dt.tup.inj e).symm] at eb;cases eb
  |none =>
   have dgp:DGet H8 pd (.str g) none:=.inl ⟨pkv,Sum.inr g,.inl hpd8,rfl,ev.symm⟩;have hnot:=zHa hF8.pr ev;have lp:=hF8.pr.length;refine⟨_,rfl,a,_,1,_,rfl,rfl,SqT.of ha8,at1,_,rfl,pd,none,rfl,dgp,_,rfl,iteF ?_⟩;refine⟨_,rfl,_,rfl,_,rfl,a,_,1,_,rfl,rfl,SqT.of ha8,at1,pd,_,rfl,DPut.k (k:=Sum.inr g) hpd8 (zAO 65),?_⟩;have tk9:Tk H8 (upd H8 pd (.dK (putK pkv (Sum.inr g) dv))):=Tk.dk hpd8;refine qy _ (φ++[(g,dueO as ps t)]) _ (s8.sd.trans (SbD.set _)) zAB ((hF8.imp λ Ω Ω z=>DR.mono tk9 z).put ev (r8.mono tk9)) hok (λ d hd=>absurd hd (hnot d)) (.inr rfl)
abbrev zC1:Stmt:=top 50
theorem zCI:zAV ["_law_left_here", "_law_tree_here", "_law_opened", "_law_pieces_here", "_law_kinds", "_law_inner", "_law_one", "_law_other"] ["_law_left_here", "_law_tree_here", "_law_opened", "_law_pieces_here", "_law_kinds"] (zAM zC1):=scI
def zCq (n:Nat):Sp:=λ vs H Q Ω=>∃(s t:Tr) (lv tv:V) (od pd kl:Addr) (okv pkv:List 90) (kvl:List V) (ps kds:List 70) (φ:List (Str × Dt)) (cnt:Str->Nat) (W:List Str),vs=[lv,tv,.ref od,.ref pd,.ref kl]/\s.size<=n/\Rep H s lv/\Rep H t tv/\Pok3 cnt W (s,t,ps)/\(∀g,cnt g<=100)/\t.dep<=60/\H od=some (.dK okv)/\OpD okv ps/\okv.length+s.size<=100/\H pd=some (.dK pkv)/\FlG (DR H) φ pkv/\φ.length+s.size<=300/\(∀q∈φ,DuOk q.2)/\od≠pd/\H kl=some (.lst kvl)/\DRs H (kdD kds) kvl/\(kds.map (·.1)).Nodup/\(∀g,KdV (wKd kds g)) /\
 (∀H',SbD pd H H'->¬Jn3 (wKd kds) [(s,t,ps)] φ->Q (.bl false) H') /\
 (∀pkv' φ' H',SbD pd H H'->H' pd=some (.dK pkv')->FlG (DR H') φ' pkv'->φ'.length<=φ.length+s.size->(∀q∈φ',DuOk q.2)->Jn3 (wKd kds) [(s,t,ps)] φ->(∀g e,(g,e)∈φ'↔OcP [(s,t,ps)] φ g e)->Q (.bl true) H')
theorem zKd (F:Fun K "_law_fits" "_law_fits" zC1 f fd) (z_isinstance:mg "isinstance" = none) (z_tuple:mg "tuple" = none) (z_dict:mg "dict" = none) (z_zip:mg "zip" = none) (zNl:FnB P w K mg base k "_law_fits" f fd ["_law_left_here", "_law_tree_here", "_law_opened", "_law_pieces_here", "_law_kinds"] (zCq n)) (zNm:FnB P w K mg base k "_law_takes" g2 gd2 ["_law_gap", "_law_tree_here", "_law_opened", "_law_pieces_here", "_law_kinds"] zIZ):FnOk P w K mg base CX0 (k+1) f fd ["_law_left_here", "_law_tree_here", "_law_opened", "_law_pieces_here", "_law_kinds"] (zCq (n+1)):=by
 refine F.ok zCI 69 (λ cdv A outer s0 H vs Q E hr h=>?_)
 ·obtain⟨s,t,lv,tv,od,pd,kl,okv,pkv,kvl,ps,kds,φ,cnt,W,rfl,_⟩:=h
  rfl
 obtain⟨s,t,lv,tv,od,pd,kl,okv,pkv,kvl,ps,kds,φ,cnt,W,rfl,hsz,hL,hR,hP,hcn,hdp,hod,hop,lo,hpd,hF,lφ,hφd,nop,hkl,hkd,knd,hkv,qn,qy⟩:=h;have hu:=hu_of hr
 refine⟨_,(Sd.un (zAF (zAe ⟨zAJ op_eq 57 zAP 82⟩ (zAS (zAX ⟨pe_cl zNm hr (zAA (pv 0) (zAA 81 (zAA (pv 2) (zAA (pv 3) (zAA (pv 4) zAD)))))⟩)) ⟨zAK⟩)
  (zAF (zAe ⟨zAJ op_ne 57 (iC (r:=rIxT K) zAN 81) 82⟩ (zAS (zAX ⟨pe_bl⟩)) ⟨zAK⟩)
  (zAF (zAe ⟨zAJ op_eq 57 zAP 82⟩ (zAS (zAX ⟨zA6 op_eq (zEA hu (pv 2) (iC (r:=rIxT K) zAN 81) ⟨rfl,rfl,rfl,rfl⟩) 57 82⟩)) ⟨zAK⟩)
  (zAF (zAe ⟨zAJ op_eq 57 zAP 82⟩ (zAF (pSS (i:=5) zCI.nd (zBq zDv 84 z_dict rH (zAI ⟨pv 2⟩ ⟨zAD⟩)))
  (zAF ⟨zBF hu (pv 5) (iC (r:=rIxT K) zAN 81) 57 rfl⟩
  (zAF (zAe ⟨zBS (zAp (pe_cl zNl hr (zAA 57 (zAA (iC (r:=rIxT K) zAN 81) (zAA (pv 2) (zAA (pv 3) (zAA (pv 4) zAD)))))))⟩ (zAS (zAX ⟨pe_bl⟩)) ⟨zAK⟩)
  (zAS (zAX ⟨pe_cl zNl hr (zAA 57 (zAA (iC (r:=rIxT K) zAN 81) (zAA (pv 5) (zAA (pv 3) (zAA (pv 4) zAD)))))⟩))))) ⟨zAK⟩)
  (zAF ⟨zAj PassesOwn.never rfl (zIm 84 z_zip (zAA (zAh zCE (pv 0) (zAf zAG) zAy) (zAA (zAh zCE 81 (zAf zAG) zAy) zAD))) (zB2 rfl (zAa (pGn (i:=6) zCI.nd) (zAa (pGn (i:=7) zCI.nd) zBV))) (zAE (ps_if (zBk (zBS (zAp (cI z_isinstance z_tuple rF (pv 6)))) (zBE (zAJ op_ne (pv 6) (pv 7) 82))).pt (zAH (zAU pe_bl)) zAK)
  (zAH (ps_if (zBk (zAp (cI z_isinstance z_tuple rF (pv 6))) (zBE (zBS (zAp (pe_cl zNl hr (zAA (pv 6) (zAA (pv 7) (zAA (pv 2) (zAA (pv 3) (zAA (pv 4) zAD)))))))))).pt (zAH (zAU pe_bl)) zAK)))⟩
  (zAS (zAX ⟨pe_bl⟩)))))))),?_⟩
 obtain⟨a,hs0,us0,elv,hla,_,_⟩:=id hL.all;subst elv;have at0:atI (V.str s.kd.s::hs0++us0) 0=some (.str s.kd.s):=zAc (j:=0) rfl;refine⟨_,rfl,a,_,0,_,rfl,rfl,SqT.of hla,at0,rfl,_,rfl,ite2 77 77⟩
 ·
  have hk:s.kd = .gap:=Kd.eq_iff (b:=.gap) |>.mp (lS c);cases s with
  |gap g as0 =>
   obtain⟨as,rfl,nda,_,hlen⟩:=hP.lo;refine⟨_,rfl,_,rfl,_,rfl,_,rfl,_,rfl,g,as,t,.ref a,tv,od,pd,kl,okv,pkv,kvl,ps,kds,φ,rfl,hL,by rw[hlen];exact hcn g,hR,hP.ng,hdp,hod,hop,hpd,hF,by lia,hφd,nop,hkl,hkd,knd,hkv,λ H' sd h=>qn H' sd ?_,λ pkv' φ' H' sd e1 e2 ok cf h=>?_⟩
   ·rcases h with h|⟨d,h1,h2⟩
    ·exact zJR h
    ·exact zF8 h1 h2
   ·have h1:∀p∈φ,p∈φ':=λ p hp=>by
     rcases h with ⟨rfl,_⟩|rfl
     ·exact hp
     ·exact mE _ hp
    have h2:∀p∈φ',p∈φ\/p=(g,dueO as ps t):=λ p hp=>by
     rcases h with ⟨rfl,_⟩|rfl
     ·exact .inl hp
     ·exact(lJ.mp hp).imp id mO.mp
    have h3:(g,dueO as ps t)∈φ':=by
     rcases h with ⟨rfl,h⟩|rfl
     ·exact h
     ·exact lZ _ lO
    refine qy pkv' φ' H' sd e1 e2 ?_ (λ q hq=>?_) ((zJS ok cf h1 h2 h3).mpr .nil) λ g' e=>?_
    ·have:φ'.length<=φ.length+1:=by
      rcases h with ⟨rfl,h⟩|rfl
      ·lia
      ·rw[mI];exact lQ _
     have:=zAu (.gap g (as.map Atom.name))
     lia
    ·rcases h2 q hq with m|rfl
     ·exact hφd q m
     ·exact zLU hP.ng hdp
    ·rw[zGj h1 h2 h3]
     exact⟨.inl,λ z=>z.elim id λ⟨_,m,_⟩=>nomatch m⟩
  |bin o a b=>cases o<;>cases hk
  |_=>cases hk
 have ng:¬s.kd = .gap:=λ e=>c (lT (by rw[e];rfl));obtain⟨b,hs1,us1,etv,hta,_,_⟩:=id hR.all;subst etv;have bt0:atI (V.str t.kd.s::hs1++us1) 0=some (.str t.kd.s):=zAc (j:=0) rfl;refine⟨_,rfl,a,_,0,_,rfl,rfl,SqT.of hla,at0,_,rfl,b,_,0,_,rfl,rfl,SqT.of hta,bt0,rfl,_,rfl,ite2 (λ c2=>?_) (λ c2=>?_)⟩
 ·refine qn H (.refl _ _) (zHW ng λ e=>?_)
  unfold hdA at e;rw[Bool.and_eq_true] at e;have:=lS e.1;rw[this] at c2;simp at c2
 have hsk:s.kd=t.kd:=mC λ n=>c2 (by
  have:¬V.str s.kd.s=V.str t.kd.s:=λ y=>n (Kd.eq_iff.mp y);simp[this])
 have hdG:hdA s t ps=hdG s t ps:=by unfold hdA;rw[decide_eq_true hsk,Bool.true_and]
 refine⟨_,rfl,a,_,0,_,rfl,rfl,SqT.of hla,at0,rfl,_,rfl,ite2 (λ c3=>?_) (λ c3=>?_)⟩
 ·have hk:s.kd = .name:=Kd.eq_iff (b:=.name) |>.mp (lS c3)
  obtain⟨x,rfl⟩:=kdS hk;obtain⟨y,rfl⟩:=kdS (hsk.symm.trans hk);obtain⟨_,ea,ha⟩:=hL;cases ea;obtain⟨_,eb,hb⟩:=hR;cases eb;have hv:=hop.vl y;have dg:DGet H od (.str y) (valV okv (Sum.inr y:Key)):=.inl ⟨okv,Sum.inr y,.inl hod,rfl,rfl⟩
  have hsn:hdA (.name x) (.name y) ps=true↔bnd y ps.reverse=some x:=by
   rw[hdG,←zMO (by rw[List.map_reverse];exact(List.reverse_perm _).symm.nodup hP.nd) (by rw[List.map_reverse];exact List.mem_reverse.mpr hP.lo),zIb];show decide (bare (.name x) _=bare (.name y) _)=true↔_;rw[decide_eq_true_iff,decide_eq_true_iff];exact Iff.rfl
  have key:(decide ((valV okv (Sum.inr y:Key)).getD .non = .str x))=true↔bnd y ps.reverse=some x:=by
   rw[hv,decide_eq_true_iff];cases bnd y ps.reverse with
   |none=>exact⟨(λ z=>nomatch z),(λ z=>nomatch z)⟩
   |some z=>exact⟨λ e=>by rw[V.str.inj e],λ e=>by rw[Option.some.inj e];rfl⟩
  have sc:scal ((valV okv (Sum.inr y:Key)).getD .non) (.str x)=true:=by
   rw[hv];cases bnd y ps.reverse<;>rfl
  refine⟨_,rfl,od,rfl,.inl ⟨_,.inl hod⟩,_,rfl,b,_,1,_,rfl,rfl,SqT.of hb,rfl,_,dg,_,rfl,a,_,1,_,rfl,rfl,SqT.of ha,rfl,sc,?_⟩
  have jk:hdA (.name x) (.name y) ps=true->(Jn3 (wKd kds) [(.name x,.name y,ps)] φ/\∀g e,(g,e)∈φ↔OcP [(.name x,.name y,ps)] φ g e):=λ h=>⟨(jn_in ng h).mpr .nil,λ g e=>by
   rw[zF2 ng];exact⟨.inl,λ z=>z.elim id λ⟨_,m,_⟩=>nomatch m⟩⟩
  generalize decide ((valV okv (Sum.inr y:Key)).getD .non = .str x)=z at key;cases z with
  |true =>
   obtain⟨j1,j2⟩:=jk (hsn.mpr (key.mp rfl));exact qy pkv φ H (.refl _ _) hpd hF (Nat.le_add_right _ _) hφd j1 j2
  |false=>exact qn H (.refl _ _) (zHW ng λ h=>nomatch key.mpr (hsn.mp h))
 refine⟨_,rfl,a,_,0,_,rfl,rfl,SqT.of hla,at0,rfl,_,rfl,ite2 (λ c4=>?_) (λ c4=>?_)⟩
 ·have hk:s.kd = .lett:=Kd.eq_iff (b:=.lett) |>.mp (lS c4)
  obtain⟨x,a1,b1,rfl⟩:=kdS hk;obtain⟨y,a2,b2,rfl⟩:=kdS (hsk.symm.trans hk);have hh:hdA (.lett x a1 b1) (.lett y a2 b2) ps=true:=by rw[hdG];rfl
  have p1:Pok3 cnt W (a1,a2,ps):=hP.kids hsk (lO);have p2:Pok3 cnt W (b1,b2,ps++[(x,y)]):=hP.kids hsk (lP _ lO);obtain⟨_,u1,w1,ea,ha,hu1,hw1⟩:=hL;cases ea;obtain⟨_,u2,w2,eb,hb,hu2,hw2⟩:=hR;cases eb;have esz:(Tr.lett x a1 b1).size=a1.size+b1.size+1:=by simp only[Tr.size]
  have edp:a2.dep+1<=(Tr.lett y a2 b2).dep/\b2.dep+1<=(Tr.lett y a2 b2).dep:=by simp only[Tr.dep];lia
  rw[esz] at hsz lo lφ;refine⟨_,rfl,od,okv,rfl,hod,λ p hp=>?_⟩;have k1:=zAC (o:=.dK okv) hp;have e1:=@zAB H p (.dK okv);show tSeq _ _ _ _ (upd H p (.dK okv));generalize upd H p _=H1 at k1 e1 ⊢;refine⟨_,rfl,a,_,1,_,rfl,rfl,SqT.of (k1 _ _ ha),rfl,_,rfl,_,rfl,b,_,1,_,rfl,rfl,SqT.of (k1 _ _ hb),rfl,p,_,rfl,DPut.k (k:=Sum.inr y) e1 (zAO 65),?_⟩;have k2:Same H (upd H1 p (.dK (putK okv (Sum.inr y) (.str x)))):=zAY k1 hp;have e2:=@zAB H1 p (.dK (putK okv (Sum.inr y) (.str x)));generalize upd H1 p _=H2 at k2 e2 ⊢;have lp:=zAx okv (Sum.inr y:Key) (.str x);have npd:p≠pd:=Ne.symm (zAL hpd hp);refine⟨_,rfl,a,_,2,_,rfl,rfl,SqT.of (k2 _ _ ha),rfl,_,rfl,b,_,2,_,rfl,rfl,SqT.of (k2 _ _ hb),rfl,_,rfl,_,rfl,_,rfl,a1,a2,u1,u2,od,pd,kl,okv,pkv,kvl,ps,kds,φ,cnt,W,rfl,by lia,hu1.mono k2.tk,hu2.mono k2.tk,p1,hcn,by lia,k2 _ _ hod,hop,by lia,k2 _ _ hpd,hF.imp (λ Ω Ω z=>DR.mono k2.tk z),by lia,hφd,nop,k2 _ _ hkl,hkd.mono k2.tk,knd,hkv,λ H3 sd hj=>?_,λ pkv3 φ3 H3 sd ep3 hF3 l3 hd3 hj1 ho1=>?_⟩
  ·refine⟨_,rfl,iteT (qn H3 (k2.sd.trans sd) λ j=>hj ?_)⟩
   exact((jn_in ng hh).mp j).mem λ z hz=>by rw[mO.mp hz];exact lO
  ·have tk3:=sd.tk (k2 _ _ hpd)
   have nkp:kl≠pd:=λ z=>by rw[z,hpd] at hkl;cases hkl
   refine⟨_,rfl,iteF ?_⟩;refine⟨_,rfl,a,_,3,_,rfl,rfl,SqT.of (tk3 _ _ (k2 _ _ ha)),rfl,_,rfl,b,_,3,_,rfl,rfl,SqT.of (tk3 _ _ (k2 _ _ hb)),rfl,_,rfl,_,rfl,_,rfl,b1,b2,w1,w2,p,pd,kl,_,pkv3,kvl,ps++[(x,y)],kds,φ3,cnt,W,rfl,by lia,(hw1.mono k2.tk).mono tk3,(hw2.mono k2.tk).mono tk3,p2,hcn,by lia,sd _ _ npd e2,zLr hop (by have:=zAu b1;lia),by have:=zAu a1;lia,ep3,hF3,by lia,hd3,npd,sd _ _ nkp (k2 _ _ hkl),(hkd.mono k2.tk).mono tk3,knd,hkv,λ H4 sd4 hj=>?_,λ pkv4 φ4 H4 sd4 ep4 hF4 l4 hd4 hj2 ho2=>?_⟩
   ·refine qn H4 ((k2.sd.trans sd).trans sd4) λ j=>hj ?_
    exact((zFV ho1).mp ((jn_in ng hh).mp j)).2
   ·refine qy pkv4 φ4 H4 ((k2.sd.trans sd).trans sd4) ep4 hF4 (by rw[esz];lia) hd4 ((jn_in ng hh).mpr ((zFV ho1).mpr ⟨hj1,hj2⟩)) λ g e=>?_
    rw[zF2 ng];exact(ho2 g e).trans (zF4 ho1 g e).symm
 have nn:¬s.kd = .name:=λ e=>c3 (lT (by rw[e];rfl));have nl:¬s.kd = .lett:=λ e=>c4 (lT (by rw[e];rfl));obtain⟨xs,ys,ha,hb,lx,ly,tv⟩:=zIV (ps:=ps) hsk ng nn nl hL hR;refine⟨_,rfl,_,rfl,a,_,rfl,ha,by simp[HT.sIx],λ pa Ha ga epa=>?_⟩;refine⟨_,rfl,_,rfl,b,_,rfl,ga _ _ hb,by simp[HT.sIx],λ pb Hb gb epb=>?_⟩;have cut1:∀(v:V) (l:List V),cutV (v::l) (some 1) none=l:=λ v l=>by simp[cutV,HT.sIx]
 rw[cut1] at epa epb;have epa':=gb _ _ epa;have gab:=ga.trans gb;refine⟨pa,pb,xs,ys,rfl,epa',epb,?_⟩;rcases tv with ⟨cx,dx,rfl,rfl,nr,hsc,hcd,hk0⟩|⟨hh,lxk,lyk,hget⟩
 ·refine zGr (xs:=[cx]) (ys:=[dx]) (λ i σ' H'=>E2 λ(s6 s7:Option V)=>A3 (σ'=[some (.ref a),some (.ref b),some (.ref od),some (.ref pd),some (.ref kl),none,s6,s7]) (Same Hb H') (i=1->cx=dx)) ⟨none,none,rfl,.refl _,λ z=>nomatch z⟩ ?_ ?_ ?_
  ·rintro i σ1 H1 _ ⟨s2,s3,rfl,g,_⟩
   exact⟨g _ _ epa',g _ _ epb⟩
  ·rintro i x y T σ1 H1 hx hy ⟨s2,s3,rfl,g,_⟩ hT
   match i with
   |i+1=>cases hx
   |0 =>
   cases hx;cases hy;have g1:=g.trans (zAC (o:=.tup [cx,dx]) hT);have eT:=@zAB H1 T (.tup [cx,dx]);refine⟨T,[cx,dx],rfl,SqT.of zAB,rfl,_,_,rfl,_,_,rfl,rfl,?_⟩;generalize upd H1 T _=H2 at g1 eT ⊢;have g2:=gab.trans g1;have fin:cx≠dx->Q (.bl false) H2:=λ n=>qn H2 g2.sd (zHW ng λ h=>n (hcd.mp h));rcases nr with ⟨n,rfl⟩|⟨z,rfl⟩
   ·refine⟨_,rfl,.int n, "tuple", _,false,rfl,.int n,rfl,_,rfl,?_⟩
    refine iteT ⟨_,rfl,_,rfl,hsc,_,rfl,ite2 (λ c5=>fin λ e=>?_) (λ c5=>?_)⟩
    ·rw[e] at c5;simp at c5
    ·refine⟨_,rfl,.int n, "tuple", _,false,rfl,.int n,rfl,_,rfl,iteF ⟨_,_,rfl,g1,λ Ω=>?_⟩⟩
     exact mC λ m=>c5 (by simp[m])
   ·refine⟨_,rfl,.str z, "tuple", _,false,rfl,.str z,rfl,_,rfl,?_⟩
    refine iteT ⟨_,rfl,_,rfl,hsc,_,rfl,ite2 (λ c5=>fin λ e=>?_) (λ c5=>?_)⟩
    ·rw[e] at c5;simp at c5
    ·refine⟨_,rfl,.str z, "tuple", _,false,rfl,.str z,rfl,_,rfl,iteF ⟨_,_,rfl,g1,λ Ω=>?_⟩⟩
     exact mC λ m=>c5 (by simp[m])
  ·rintro σ1 H1 ⟨s2,s3,rfl,g,e⟩
   have hh:=hcd.mpr (e rfl);have g3:=gab.trans g;refine qy pkv φ H1 g3.sd (g3 _ _ hpd) (hF.imp λ Ω Ω z=>DR.mono g3.tk z) (Nat.le_add_right _ _) hφd ((jn_in ng hh).mpr (by rw[hk0];exact .nil)) λ g e=>?_;rw[zF2 ng,hk0];exact⟨.inl,λ z=>z.elim id λ⟨_,m,_⟩=>nomatch m⟩
 ·have tl:tot2 (kids2 s t ps)+1=s.size:=by
   have:=zEF [(s,t,ps)] (λ q hq=>by rw[mO.mp hq];exact hh);rw[rB,List.flatMap_nil,nN,zBt] at this;exact this
  refine zGr (xs:=xs) (ys:=ys) (λ i σ' H'=>E4 λ(s6 s7:Option V) (pkv':List (Key × V)) (φ':List (Str × Dt))=>A8 (σ'=[some (.ref a),some (.ref b),some (.ref od),some (.ref pd),some (.ref kl),none,s6,s7]) (SbD pd Hb H') (H' pd=some (.dK pkv')) (FlG (DR H') φ' pkv') (φ'.length<=φ.length+tot2 ((kids2 s t ps).take i)) (∀q∈φ',DuOk q.2) (Jn3 (wKd kds) (kids2 s t ps) φ↔Jn3 (wKd kds) ((kids2 s t ps).drop i) φ') (∀g e,OcP (kids2 s t ps) φ g e↔OcP ((kids2 s t ps).drop i) φ' g e)) ⟨none,none,pkv,φ,rfl,.refl _ _,gab _ _ hpd,hF.imp (λ Ω Ω z=>DR.mono gab.tk z),Nat.le_add_right _ _,hφd,Iff.rfl,λ Ω Ω=>Iff.rfl⟩ ?_ ?_ ?_
  ·rintro i σ1 H1 _ ⟨s2,s3,pkv',φ',rfl,sd,_⟩
   have tk:=sd.tk (gab _ _ hpd);exact⟨tk _ _ epa',tk _ _ epb⟩
  ·rintro i x y T σ1 H1 hx hy ⟨s2,s3,pkv',φ',rfl,sd,ep,hF',l',hd',hj,ho⟩ hT
   obtain⟨⟨p1,p2⟩,hq,r1,r2⟩:=hget i x y hx hy;have hP1:Pok3 cnt W (p1,p2,ps):=hP.kids hsk (lK hq);have tk:=sd.tk (gab _ _ hpd);have g1:=zAC (o:=.tup [x,y]) hT;refine⟨T,[x,y],rfl,SqT.of zAB,rfl,_,_,rfl,_,_,rfl,rfl,?_⟩;generalize upd H1 T _=H2 at g1 ⊢;have tk2:Tk H H2:=(gab.tk.trans tk).trans g1.tk;obtain⟨ax,hs2,us2,rfl,hax,_,_⟩:=id (r1.mono tk2).all;refine⟨_,rfl,.ref ax, "tuple", _,true,rfl,.tup hax,rfl,_,rfl,iteF ?_⟩;refine⟨_,rfl,.ref ax, "tuple", _,true,rfl,.tup hax,rfl,_,rfl,iteT ?_⟩;have nkp:kl≠pd:=λ z=>by rw[z,hpd] at hkl;cases hkl
   have sd2:SbD pd H H2:=(gab.sd.trans sd).trans g1.sd
   have hdr:(kids2 s t ps).drop i=(p1,p2,ps)::(kids2 s t ps).drop (i+1):=by
    rw[List.drop_eq_getElem_cons (List.getElem?_eq_some_iff.mp hq).1,(List.getElem?_eq_some_iff.mp hq).2]
   have htk:tot2 ((kids2 s t ps).take (i+1))=tot2 ((kids2 s t ps).take i)+p1.size:=by
    rw[zAT hq,zBZ,zBt];rfl
   have hle:=zFj (kids2 s t ps) (i+1);have hdq:p2.dep<=60:=by have:=zB4 (zKu hsk (lK hq));lia
   refine⟨_,rfl,_,rfl,_,rfl,_,rfl,_,rfl,p1,p2,.ref ax,y,od,pd,kl,okv,pkv',kvl,ps,kds,φ',cnt,W,rfl,by lia,r1.mono tk2,r2.mono tk2,hP1,hcn,hdq,sd2 _ _ nop hod,hop,by lia,g1 _ _ ep,hF'.imp (λ Ω Ω z=>DR.mono g1.tk z),by lia,hd',nop,sd2 _ _ nkp hkl,hkd.mono tk2,knd,hkv,λ H3 sd3 hj3=>?_,λ pkv3 φ3 H3 sd3 ep3 hF3 l3 hd3 hj3 ho3=>?_⟩
   ·refine⟨_,rfl,iteT (qn H3 (sd2.trans sd3) λ j=>hj3 ?_)⟩
    have:=hj.mp ((jn_in ng hh).mp j);rw[hdr] at this;exact this.mem λ z hz=>by rw[mO.mp hz];exact lO
   ·refine⟨_,rfl,iteF ⟨_,_,pkv3,φ3,rfl,(sd.trans g1.sd).trans sd3,ep3,hF3,by lia,hd3,?_,λ g e=>?_⟩⟩
    ·rw[hj,hdr,zFV ho3]
     exact⟨λ h=>h.2,λ h=>⟨hj3,h⟩⟩
    ·rw[ho g e,hdr]
     exact zF4 ho3 g e
  ·rintro σ1 H1 ⟨s2,s3,pkv',φ',rfl,sd,ep,hF',l',hd',hj,ho⟩
   have em:(kids2 s t ps).drop (min xs.length ys.length)=[]:=by rw[lxk,lyk,Nat.min_self,List.drop_length]
   have et:(kids2 s t ps).take (min xs.length ys.length)=kids2 s t ps:=by rw[lxk,lyk,Nat.min_self,mM]
   rw[em] at hj ho;rw[et] at l';refine qy pkv' φ' H1 (gab.sd.trans sd) ep hF' 65 hd' ((jn_in ng hh).mpr (hj.mpr .nil)) λ g e=>?_;rw[zF2 ng];refine Iff.trans ?_ (ho g e).symm;exact⟨.inl,λ z=>z.elim id λ⟨_,m,_⟩=>nomatch m⟩
theorem zH8 {k:Nat}{f:Addr}{fd:FuncData}:FnOk P w K mg base CX0 k f fd ["_law_left_here", "_law_tree_here", "_law_opened", "_law_pieces_here", "_law_kinds"] (zCq 0):=by
 have no:∀vs H Q E,¬zCq 0 vs H Q E:=λ vs H Q E h=>by
  obtain⟨s,t,lv,tv,od,pd,kl,okv,pkv,kvl,ps,kds,φ,cnt,W,_,h0,_⟩:=h;have:=zAu s
  lia
 exact⟨λ vs H Q E h=>absurd h (no vs H Q E),λ A outer s H args us vs Q E Ω Ω Ω Ω h=>absurd h (no vs H Q E)⟩
theorem zGS (F:Fun K "_law_fits" "_law_fits" zC1 f fd) (b:Binds K fd ["_law_left_here", "_law_tree_here", "_law_opened", "_law_pieces_here", "_law_kinds"] []) (m:mg "_law_fits" = some (.ref f)) (z_isinstance:mg "isinstance" = none) (z_tuple:mg "tuple" = none) (z_dict:mg "dict" = none) (z_zip:mg "zip" = none) (G:∀n:Nat,FnB P w K mg base (k+n) "_law_takes" g2 gd2 ["_law_gap", "_law_tree_here", "_law_opened", "_law_pieces_here", "_law_kinds"] zIZ):∀n:Nat,FnB P w K mg base (k+n) "_law_fits" f fd ["_law_left_here", "_law_tree_here", "_law_opened", "_law_pieces_here", "_law_kinds"] (zCq n)
 |0=>⟨zH8,b,F.kp,m⟩
 |n+1=>⟨zKd F z_isinstance z_tuple z_dict z_zip (zGS F b m z_isinstance z_tuple z_dict z_zip G n) (G n),b,F.kp,m⟩
abbrev zBh:Stmt:=top 53
theorem zBC:zAV ["_law_piece", "_law_many_here", "_law_due", "_law_known", "_law_k", "_law_name"] ["_law_piece", "_law_many_here", "_law_due"] (zAM zBh):=scI
def zHD:Sp:=λ vs H Q Ω=>E5 λ(ns:List Str) (u:Tr) (pv dv:V) (d:Dt)=>A11 (vs=[pv,.int ns.length,dv]) (PcR H (ns,u) pv) ns.Nodup (ns.length<=100) (∀x∈ns,GW x) (ngT u) (u.good GW) (DR H d dv) (DuOk d) (blT (kapN ns) 0 u=d) (∀H',Same H H'->Q (.bl true) H')
theorem zKY (F:Fun K "_law_piece_told" "_law_piece_told" zBh f fd) (z_isinstance:mg "isinstance" = none) (z_tuple:mg "tuple" = none) (z_len:mg "len" = none) (z_enumerate:mg "enumerate" = none) (zNh:FnB P w K mg base k "_law_bare" g1 gd1 ["_law_tree_here", "_law_known", "_law_deep"] (zDF 62)) (zNj:FnB P w K mg base k "_law_is_tree" g2 gd2 ["_law_tree_here"] (zCA 62)) (zNi:FnB P w K mg base k "_law_is_word" g3 gd3 ["_law_word"] zDT):FnOk P w K mg base CX0 (k+1) f fd ["_law_piece", "_law_many_here", "_law_due"] zHD:=by
 refine F.ok zBC 69 58
 ·obtain⟨ns,u,pv,dv,d,rfl,_⟩:=h
  rfl
 obtain⟨ns,u,pv,dv,d,rfl,⟨p,nt,uv,rfl,hp,hnt,hu1⟩,nd,ln,hgw,hng,hgd,hd,hdu,hbl,q⟩:=h;have hu:=hu_of hr;have hu5:=hu150 hr
 refine⟨_,(Sd.un (zAF (zAe ⟨(pw_or (zBS (zAp (cI z_isinstance z_tuple rF (pv 0)))) (pw_or (zAJ op_ne (cL z_len (zAA (pv 0) zAD)) zAG 82) (zCg (zBS (zAp (cI z_isinstance z_tuple rF 57)))))).pt⟩ (zAS (zAX ⟨pe_bl⟩)) ⟨zAK⟩)
  (zAF (zAe ⟨(pw_or (zAJ op_ne (cL z_len (zAA 57 zAD)) 81 82) (zCg (zBS (zAp (pe_cl zNj hr (zAA 57 zAD)))))).pt⟩ (zAS (zAX ⟨pe_bl⟩)) ⟨zAK⟩)
  (zAF (pSS (i:=3) zBC.nd ⟨zBL⟩)
  (zAF ⟨zAj PassesOwn.never rfl (zGc 84 z_enumerate (zAA 57 zAD)) (zB2 rfl (zAa (pGn (i:=4) zBC.nd) (zAa (pGn (i:=5) zBC.nd) zBV))) (zAE (ps_if (zBS (zAp (pe_cl zNi hr (zAA (pv 5) zAD)))) (zAH (zAU pe_bl)) zAK)
  (zAH (zBF hu (pv 3) (pv 5) (zAk (zAA zAP (zAA (pv 4) zAD)):PE _ _ _) rfl)))⟩
  (zAS (zAX ⟨zFy (zA6 op_eq (zA2 zC5 84 z_len rL (zAA (pv 3) zAD)) 81 82) (zD2 (zA6 (zHN hu5) (pe_cl zNh hr (zAA 57 (zAA (pv 3) (zAA zAG zAD)))) (pv 2) 82))⟩))))))),?_⟩
 have hdep:u.dep<=62:=by
  obtain⟨ds,e,l⟩:=hdu;have:=bl_ge u (kapN ns) 0 hng zL7;rw[hbl,e] at this;exact mF this l
 refine⟨_,rfl,.ref p, "tuple", _,true,rfl,.tup hp,rfl,_,rfl,iteF ?_⟩;refine⟨_,rfl,p,_,rfl,.inr (SqT.of hp),rfl,_,rfl,iteF ?_⟩;refine⟨_,rfl,p,_,0,_,rfl,rfl,SqT.of hp,rfl,.ref nt, "tuple", _,true,rfl,.tup hnt,rfl,_,rfl,iteF ?_⟩;refine⟨_,rfl,p,_,0,_,rfl,rfl,SqT.of hp,rfl,nt,_,rfl,.inr (SqT.of hnt),_,rfl,rfl,_,rfl,?_⟩;have el:((ns.map V.str).length:Int)=(ns.length:Int):=by rw[lC]
 rw[el];refine ite2 (λ c=>by simp at c) 91;have d2:2<=sizeLine:=by decide
 refine⟨_,rfl,p,_,1,_,rfl,rfl,SqT.of hp,rfl,u,uv,rfl,hu1,hdep,hgd,hng,λ H1 g1=>⟨true,rfl,iteF ?_⟩⟩;refine λ dz hdz=>?_;have g2:=zAC (o:=.dK []) hdz;have ez0:=@zAB H1 dz (.dK []);have g12:=g1.trans g2;have hdzH:H dz=none:=g1.free hdz;dsimp only[gName];generalize upd H1 dz _=H2 at g2 ez0 g12 ⊢;refine⟨_,rfl,p,_,0,_,rfl,rfl,SqT.of (g12 _ _ hp),rfl,nt,rfl,⟨_,SqT.of (g12 _ _ hnt)⟩,?_⟩;refine zFX (xs:=ns.map V.str) (λ i σ' H'=>E3 λ(s4 s5:Option V) (zkv:List (Key × V))=>A5 (σ'=[some (.ref p),some (.int ns.length),some dv,some (.ref dz),s4,s5]) (Same H H') (H' dz=some (.dK zkv)) (zkv.length=i) (KnD H' (kapN (ns.take i)) zkv)) ⟨none,none,[],rfl,g12,ez0,rfl,λ z=>True.intro⟩ ?_ ?_ ?_
 ·rintro i σ' H' _ ⟨s4,s5,zkv,rfl,g,ez,lz,hK⟩
  exact SqT.of (g _ _ hnt)
 ·rintro i y T σ' H' hy ⟨s4,s5,zkv,rfl,g,ez,lz,hK⟩ hT
  rw[mH] at hy;obtain⟨x,hx,rfl⟩:=lU.mp hy;have hi:i<ns.length:=(lI.mp hx).1;have hxm:x∈ns:=lK hx
  have hnew:x∉ns.take i:=λ z=>by
   obtain⟨j,hj⟩:=List.getElem?_of_mem z
   have hji:j<i:=by
    have:=(lI.mp hj).1;rw[mL] at this
    lia
   rw[List.getElem?_take_of_lt hji] at hj;exact absurd (zFS nd hj hx) 65
  have k3:=zAC (o:=.tup [.int i,.str x]) hT;have eT:=@zAB H' T (.tup [.int i,.str x]);generalize upd H' T _=H4 at k3 eT ⊢;refine⟨T,_,rfl,SqT.of eT,rfl,_,_,rfl,_,_,rfl,rfl,?_⟩;refine⟨_,rfl,x,rfl,hgw x hxm,λ H5 g5=>⟨true,rfl,iteF ?_⟩⟩;refine⟨_,rfl,d2,λ pa hpa=>?_⟩;have k6:=zAC (o:=.tup [.str "atom", .int (i:Int)]) hpa;have epa:=@zAB H5 pa (.tup [.str "atom", .int (i:Int)]);have k46:=k3.trans (g5.trans k6);generalize upd H5 pa _=H6 at k6 epa k46 ⊢;have ez6:=k46 _ _ ez;refine⟨_,rfl,_,rfl,dz,_,rfl,DPut.k (k:=Sum.inr x) ez6 (zAO 65),?_⟩;have tk7:Tk H6 (upd H6 dz (.dK (putK zkv (Sum.inr x) (.ref pa)))):=Tk.dk ez6
  have hvn:valV zkv (Sum.inr x:Key)=none:=by
   have:=hK x;unfold kapN at this;rw[if_neg hnew] at this;cases e:valV zkv (Sum.inr x:Key) with
   |none=>rfl
   |some v=>rw[e] at this;exact this.elim
  refine⟨_,_,_,rfl,zAY (g.trans k46) hdzH,zAB,?_,λ z=>?_⟩
  ·rw[zFM _ hvn,mI,List.length_singleton,lz]
  ·rw[zBc,zAT hx,zJN hnew]
   have lt:(ns.take i).length=i:=by rw[mL];lia
   by_cases c:z=x
   ·rw[if_pos c,if_pos (by rw[c]),lt]
    exact .tup (tk7 _ _ epa) (.cons (.str _) (.cons (.int _) .nil))
   ·rw[if_neg c,if_neg (λ e=>c (Sum.inr.inj e))]
    have:=hK z;cases e1:kapN (ns.take i) z<;>cases e2:valV zkv (Sum.inr z:Key)<;>rw[e1,e2] at this
    ·exact True.intro
    ·exact this.elim
    ·exact this.elim
    ·exact DR.mono (k46.tk.trans tk7) this
 ·rintro σ' H' ⟨s4,s5,zkv,rfl,g,ez,lz,hK⟩
  rw[lC] at lz hK;rw[mM] at hK;obtain⟨ds,rfl,dd⟩:=hdu;refine⟨_,rfl,dz,zkv,rfl,.inl ez,_,rfl,rfl,_,rfl,?_⟩;rw[lz];refine ite2 91 (λ c=>absurd (lT rfl) c);refine⟨_,rfl,p,_,1,_,rfl,rfl,SqT.of (g _ _ hp),rfl,_,rfl,u,uv,dz,zkv,kapN ns,0,rfl,hdep,hu1.mono g.tk,hng,ez,by lia,hK,λ v' H8 g8 r8=>?_⟩;rw[hbl] at r8;refine⟨_,rfl,ds,ds,r8,hd.mono (g.trans g8).tk,by lia,?_⟩;rw[if_neg 66,Dt.beqs_iff.mpr rfl];exact q H8 (g.trans g8)
abbrev zCN:Stmt:=top 55
theorem zBd:zAV ["_law_tree_here", "_law_cell", "_law_words_here", "_law_other"] ["_law_tree_here", "_law_cell", "_law_words_here"] (zAM zCN):=scI
def zHB (n:Nat):Sp:=λ vs H Q Ω=>E5 λ(t:Tr) (v:V) (c:Int) (wl:Addr) (ws:List Str)=>A8 (vs=[v,.int c,.ref wl]) (t.dep<=n) (Rep H t v) (ngT t) (t.good (λ x=>x∈ws)) (H wl=some (.lst (ws.map V.str))) (ws.length=12) (∀t' v' H',Same H H'->Rep H' t' v'->ngT t'->t'.good (λ x=>x∈ws)->t'.size<=t.size+3->t'.dep<=t.dep+2->Q v' H')
theorem zKU (F:Fun K "_law_spoiled" "_law_spoiled" zCN f fd) (zNe:FnB P w K mg base k "_law_laid" g1 gd1 ["_law_tree_here", "_law_at", "_law_other"] (zDk n)) (zNc:FnB P w K mg base k "_law_many" g2 gd2 ["_law_tree_here"] (zCn n)):FnOk P w K mg base CX0 (k+1) f fd ["_law_tree_here", "_law_cell", "_law_words_here"] (zHB n):=by
 refine F.ok zBd 69 58
 ·obtain⟨t,v,c,wl,ws,rfl,_⟩:=h
  rfl
 obtain⟨t,v,c,wl,ws,rfl,hn,hR,hg,hG,hw,lw,q⟩:=h
 refine⟨_,(Sd.un (zAF (pSS (i:=3) zBd.nd (zAg (zAI ⟨zAP⟩ (zAI ⟨pe_op zAb (pe_op zAZ 81 zAG) (pe_op zEW zAG zAG)⟩ ⟨zAD⟩))))
  (zAF (zAe ⟨zAJ op_eq (pe_op zAb (pe_op zAZ 81 zAG) zAG) zAG 82⟩ (zAS (pSS (i:=3) zBd.nd (zAg (zAI ⟨zAP⟩ (zAI (zBY (r:=rIxL K) zAd ⟨pv 2⟩ ⟨pe_op zAb (pe_op zAZ 81 zAG) zAG⟩ 73) ⟨zAD⟩))))) ⟨zAK⟩)
  (zAF (zAe ⟨zAJ op_eq (pe_op zAb (pe_op zAZ 81 zAG) zAG) zAG 82⟩ (zAS (pSS (i:=3) zBd.nd (zAg (zAI ⟨zAP⟩ (zAI (zBY (r:=rIxL K) zAd ⟨pv 2⟩ ⟨pe_op zAb (pe_op zAZ 81 zAG) zAG⟩ 73) (zAI (zAg (zAI ⟨zAP⟩ (zAI (zBY (r:=rIxL K) zAd ⟨pv 2⟩ ⟨zAG⟩ 73) ⟨zAD⟩))) (zAI (zAg (zAI ⟨zAP⟩ (zAI (zBY (r:=rIxL K) zAd ⟨pv 2⟩ ⟨pe_op zAb (pe_op zAZ 81 zAG) zAG⟩ 73) ⟨zAD⟩))) ⟨zAD⟩))))))) ⟨zAK⟩)
  (zAS (zAX ⟨pe_cl zNe hr (zAA (pv 0) (zAA (zBA (zAA (pe_op zAb (pe_op zAb 81 zAG) (pe_cl zNc hr (zAA (pv 0) zAD))) zAD):PE _ _ _) (zAA (pv 3) zAD)))⟩)))))),?_⟩
 have d1:1<=sizeLine:=by decide
 have d2:2<=sizeLine:=by decide
 have d4:4<=sizeLine:=by decide
 have f3:(0:Int)<1000/\(1000:Int)<1073741824:=85;have f4:(0:Int)<4000/\(4000:Int)<1073741824:=85;have f5:(0:Int)<48000/\(48000:Int)<1073741824:=85
 have pick:∀z:Int,∃x,x∈ws/\atI (ws.map V.str) (z % 12)=some (.str x):=λ z=>by
  obtain⟨x,hx,atx,_⟩:=pickM (L:=ws) z 65;rw[lC,lw] at atx;exact⟨x,hx,atx⟩
 refine⟨_,rfl,_,_,rfl,rfl,f3,_,_,rfl,rfl,⟨by decide,by decide,by decide⟩,_,_,rfl,rfl,(show (0:Int)<10 ^ 30 by decide),d2,λ p0 hp0=>?_⟩;have k1:=zAC (o:=.tup [.str "num", .int (c / 1000 % 10 ^ (30:Int).toNat)]) hp0;have e1:Rep (upd H p0 (.tup [.str "num", .int (c / 1000 % 10 ^ (30:Int).toNat)])) (.num (c / 1000 % 10 ^ (30:Int).toNat)) (.ref p0):=⟨p0,rfl,zAB⟩;dsimp only[gName];generalize upd H p0 _=H1 at k1 e1 ⊢;apply viaS (λ σ' H2=>E2 λ(o:Tr) (ov:V)=>A7 (σ'=[some v,some (.int c),some (.ref wl),some ov]) (Same H H2) (Rep H2 o ov) (ngT o) (o.good (λ x=>x∈ws)) (o.size<=3) (o.dep<=2))
 ·intro rest
  refine⟨_,rfl,_,_,rfl,rfl,f3,_,_,rfl,rfl,(show (0:Int)<4 by decide),rfl,_,rfl,ite2 91 91⟩
  ·obtain⟨x,hx,atx⟩:=pick (c / 4000)
   refine⟨_,rfl,_,rfl,_,_,rfl,rfl,f4,_,_,rfl,rfl,(show (0:Int)<12 by decide),wl,_,_,_,rfl,rfl,SqL.of (k1 _ _ hw),atx,d2,λ p1 hp1=>?_⟩;exact rest _ _ ⟨.name x,_,rfl,k1.trans (zAC hp1),⟨p1,rfl,zAB⟩,trivial,hx,(show 1<=3 by decide),(show 1<=2 by decide)⟩
  ·exact rest _ _ ⟨_,_,rfl,k1,e1,trivial,trivial,(show 1<=3 by decide),(show 1<=2 by decide)⟩
 rintro σ' H2 ⟨o,ov,rfl,k2,oR,og,oG,os,od⟩;apply viaS (λ σ' H3=>E2 λ(o:Tr) (ov:V)=>A7 (σ'=[some v,some (.int c),some (.ref wl),some ov]) (Same H H3) (Rep H3 o ov) (ngT o) (o.good (λ x=>x∈ws)) (o.size<=3) (o.dep<=2))
 ·intro rest
  refine⟨_,rfl,_,_,rfl,rfl,f3,_,_,rfl,rfl,(show (0:Int)<4 by decide),rfl,_,rfl,ite2 91 (λ Ω=>rest _ _ ⟨o,ov,rfl,k2,oR,og,oG,os,od⟩)⟩
  ·obtain⟨x,hx,atx⟩:=pick (c / 4000)
   obtain⟨y,hy,aty⟩:=pick (c / 48000);obtain⟨z,hz,atz⟩:=pick 0;refine⟨_,rfl,_,rfl,_,_,rfl,rfl,f4,_,_,rfl,rfl,(show (0:Int)<12 by decide),wl,_,_,_,rfl,rfl,SqL.of (k2 _ _ hw),atx,_,rfl,wl,_,_,_,rfl,rfl,SqL.of (k2 _ _ hw),atz,d2,λ p1 hp1=>?_⟩;have k3:=zAC (o:=.tup [.str "ask", .str z]) hp1;have e3:Rep (upd H2 p1 (.tup [.str "ask", .str z])) (.ask z) (.ref p1):=⟨p1,rfl,zAB⟩;generalize upd H2 p1 _=H3 at k3 e3 ⊢;have k23:=k2.trans k3;refine⟨_,rfl,_,rfl,_,_,rfl,rfl,f5,_,_,rfl,rfl,(show (0:Int)<12 by decide),wl,_,_,_,rfl,rfl,SqL.of (k23 _ _ hw),aty,d2,λ p2 hp2=>⟨d4,λ p3 hp3=>?_⟩⟩;have k4:=zAC (o:=.tup [.str "name", .str y]) hp2;have k5:=zAC (o:=.tup [.str "let", .str x,.ref p1,.ref p2]) hp3;exact rest _ _ ⟨.lett x (.ask z) (.name y),_,rfl,k23.trans (k4.trans k5),⟨p3,_,_,rfl,zAB,e3.mono (k4.trans k5).tk,⟨p2,rfl,k5 _ _ zAB⟩⟩,⟨trivial,trivial⟩,⟨hx,hz,hy⟩,(show 3<=3 by decide),(show 2<=2 by decide)⟩
 clear oR og oG os od;rintro σ' H3 ⟨o,ov,rfl,k3,oR,og,oG,os,od⟩;refine⟨_,rfl,_,rfl,_,_,rfl,rfl,(show (0:Int)<1000 by decide),_,rfl,t,v,rfl,hn,hR.mono k3.tk,hg,λ m H4 k4 hm=>⟨_,_,rfl,rfl,(show (0:Int)<m by lia),d1,λ al hal=>?_⟩⟩;have k5:=zAC (o:=.lst [.int (c % 1000 % m)]) hal;have e5:=@zAB H4 al (.lst [.int (c % 1000 % m)]);have halH:H al=none:=(k3.trans k4).free hal;generalize upd H4 al _=H5 at k5 e5 ⊢;have k05:=k3.trans (k4.trans k5);refine⟨_,rfl,t,o,v,ov,al,c % 1000 % m,ws,rfl,hn,hR.mono k05.tk,hg,hG,oR.mono (k4.trans k5).tk,og,oG,e5,λ t' v' j' H6 sb e6 r6 g6 G6 s6 p6=>?_⟩;have hb:bud o.size (c % 1000 % m)<=3:=by unfold bud;split<;>lia
 exact q t' v' H6 (λ b u hb=>sb b u (zAL hb halH) (k05 b u hb)) r6 g6 G6 65 65
abbrev zCd:Stmt:=top 54
theorem zAo:zAV ["_law_script", "_law_words_here", "_law_gaps_here", "_law_kinds", "_law_pieces_here", "_law_k", "_law_gap", "_law_cells", "_law_names", "_law_tree_here"] ["_law_script", "_law_words_here", "_law_gaps_here", "_law_kinds"] (zAM zCd):=scI
def zEz (K:W.Frag):Sp:=λ vs H Q Ω=>E10 λ(a wl gd kl:Addr) (ns:List Int) (ws ks:List Str) (kds:List (Str × Str)) (kvl:List V) (cnt:Str->Nat)=>A11 (vs=[.ref a,.ref wl,.ref gd,.ref kl]) (SqL K H a (ns.map V.int)) (H wl=some (.lst (ws.map V.str))) (ws.length=12) (H gd=some (.dK (gkv cnt ks))) ks.Nodup (∀g∈ks,g∈ws) (∀g,cnt g<=3) (H kl=some (.lst kvl)) (DRs H (kdD kds) kvl) (∀pd pkv H',Same H H'->H' pd=some (.dK pkv)->PcsD H' cnt ws pkv ks->Q (.ref pd) H')
theorem zH2 (F:Fun K "_law_pieces" "_law_pieces" zCd f fd) (z_len:mg "len" = none) (z_enumerate:mg "enumerate" = none) (z_sorted:mg "sorted" = none) (z_tuple:mg "tuple" = none) (zNn:FnB P w K mg base k "_law_cell_at" g1 gd1 ["_law_script", "_law_k"] (zDl K)) (zNY:FnB P w K mg base k "_law_tree" g2 gd2 ["_law_cells", "_law_words_here", "_law_loud_here"] (zCm K 7)):FnOk P w K mg base CX0 (k+1) f fd ["_law_script", "_law_words_here", "_law_gaps_here", "_law_kinds"] (zEz K):=by
 refine F.ok zAo 69 58
 ·obtain⟨a,wl,gd,kl,ns,ws,ks,kds,kvl,cnt,rfl,_⟩:=h
  rfl
 obtain⟨a,wl,gd,kl,ns,ws,ks,kds,kvl,cnt,rfl,hS,hw,lw,hgd,ndk,hks,hcn,hkl,hkd,q⟩:=h;have hu:=hu_of hr;have hu5:=hu150 hr
 refine⟨_,(Sd.un (zAF (pSS (i:=4) zAo.nd ⟨zBL⟩)
  (zAF ⟨zAj PassesOwn.never rfl (zHK 84 z_enumerate (zAA (zA2 (zCk rfl) 84 z_sorted PyProof.Rows.boot_sorted 87) zAD)) (zB2 rfl (zAa (pGn (i:=5) zAo.nd) (zAa (pGn (i:=6) zAo.nd) zBV))) (zAE (pS (i:=7) zAo.nd (zAh (r:=rSlL K) zBU (zMb (pv 0) (zAf (pe_op zBl zAG (pv 5))) zAy (zAf (zA2 zC5 84 z_len rL 87))) zAy (zAf zAG)))
  (zAE (ps_if (zAJ op_eq (cL z_len (zAA (pv 7) zAD)) zAG 82) (zAH (pS (i:=7) zAo.nd (zBA (zAA (pe_op zAZ (pe_cl zNn hr (zAA (pv 0) (zAA zAG zAD))) (pe_op zBl (pv 5) zAG)) zAD):PE _ _ _))) zAK)
  (zAE (pS (i:=8) zAo.nd (zAh (r:=rSlL K) zBU 81 (zAf zAG) (zAf (pe_op zBl zAG (zBb hu (pv 2) (pv 6) 73)))))
  (zAE (pS (i:=9) zAo.nd (pe_cl zNY hr (zAA (pv 7) (zAA (pe_op zHO (pe_op zHO (zAh (r:=rSlL K) zBU 81 zAy (zAf zAG)) (pv 8)) (pv 8)) (zAA (zA6 (zHz hu5) (zAk (zAA (pv 6) (zAA zAP zAD)):PE _ _ _) (pv 3) rfl) zAD)))))
  (zAE (ps_if (zAJ (zGf hu5) (zAk (zAA (pv 6) (zAA zAP zAD)):PE _ _ _) (pv 3) rfl) (zAH (pS (i:=9) zAo.nd (zAk (zAA zAP (zAA (pe_op zAb (iC (r:=rIxL K) zAd (pv 7)) (pe_op zEW zAG zAG)) zAD)):PE _ _ _))) zAK)
  (zAH (zBF hu (pv 4) (pv 6) (zAk (zAA (zBK zA3 84 z_tuple rF (zAA (pv 8) zAD)) (zAA (pv 9) zAD)):PE _ _ _) rfl)))))))⟩
  (zAS (zAX ⟨pv 4⟩))))),?_⟩
 have d1:1<=sizeLine:=by decide
 have d2:2<=sizeLine:=by decide
 have lks:ks.length<=12:=by
  have:=zEB (T:=ws) ndk hks
  lia
 refine λ pd hpd=>?_;have g1:=zAC (o:=.dK []) hpd;have ep0:=@zAB H pd (.dK []);dsimp only[gName];generalize upd H pd _=H1 at g1 ep0 ⊢;refine⟨_,rfl,gd,_,ks,rfl,g1 _ _ hgd,zHU cnt ks,by lia,λ sl ss hsl perm Ω=>⟨sl,rfl,⟨_,SqL.of zAB⟩,?_⟩⟩;have k2:=zAC (o:=.lst (ss.map V.str)) hsl;have esl:=@zAB H1 sl (.lst (ss.map V.str));have g12:=g1.trans k2;have ep2:=k2 _ _ ep0;have hslH:H sl=none:=g1.free hsl;have nsp:sl≠pd:=Ne.symm (zAL ep0 hsl);generalize upd H1 sl _=H2 at k2 esl g12 ep2 ⊢;have lss:ss.length=ks.length:=perm.length_eq;have nss:ss.Nodup:=perm.nodup_iff.mpr ndk;have mss:∀g∈ss,g∈ks:=λ g hg=>perm.mem_iff.mp hg;refine zGD (xs:=ss.map V.str) (λ i σ' H'=>E6 λ(s5 s6 s7 s8 s9:Option V) (pkv:List (Key × V))=>A6 (σ'=[some (.ref a),some (.ref wl),some (.ref gd),some (.ref kl),some (.ref pd),s5,s6,s7,s8,s9]) (Same H H') (H' sl=some (.lst (ss.map V.str))) (H' pd=some (.dK pkv)) (pkv.length<=i) (PcsD H' cnt ws pkv (ss.take i))) ⟨none,none,none,none,none,[],rfl,g12,esl,ep2,lQ _,(λ g hg=>nomatch hg)⟩ ?_ ?_ ?_
 ·rintro i σ' H' _ ⟨s5,s6,s7,s8,s9,pkv,rfl,g,es,ep,lp,hP⟩
  exact SqL.of es
 ·rintro i y T σ' H' hy ⟨s5,s6,s7,s8,s9,pkv,rfl,g,es,ep,lp,hP⟩ hT
  rw[mH] at hy;obtain⟨gx,hx,rfl⟩:=lU.mp hy;have hi:i<ss.length:=(lI.mp hx).1;have hx':=hx;have hgx:gx∈ks:=mss gx (lK hx);have kT:=zAC (o:=.tup [.int (i:Int),.str gx]) hT;have eT:=@zAB H' T (.tup [.int (i:Int),.str gx]);show gTup _ _ _ _ _ (upd H' T (.tup [.int (i:Int),.str gx])) _;generalize upd H' T _=HT at kT eT ⊢;refine⟨T,_,rfl,SqT.of eT,rfl,_,_,rfl,_,_,rfl,rfl,?_⟩;have gT:=g.trans kT
  have hg0:(some ((gkv cnt ks).length:Int))≠some 0:=λ z=>by
   have z':=mD z;have:=List.length_pos_of_mem hgx;unfold gkv at z';rw[lC] at z'
   lia
  refine⟨_,rfl,_,rfl,_,_,rfl,rfl,_,rfl,_,rfl,gd,_,rfl,.inl (gT _ _ hgd),_,rfl,a,_,rfl,hg0,gT.seq hS,λ p1 hp1=>?_⟩;rw[zHy];have k1:=zAC (o:=.lst ((zCC ns (some (13+(i:Int))) none (some ((gkv cnt ks).length:Int))).map V.int)) hp1;have e1:=@zAB HT p1 (.lst ((zCC ns (some (13+(i:Int))) none (some ((gkv cnt ks).length:Int))).map V.int));generalize zCC ns (some (13+(i:Int))) none (some ((gkv cnt ks).length:Int))=pki at k1 e1 ⊢;generalize upd HT p1 _=Ha at k1 e1 ⊢;refine⟨7,rfl,p1,_,rfl,SqL.of e1,λ p2 hp2=>?_⟩;obtain⟨cs1,ecs1⟩:=zHd pki none (some 7)
  have lcs1:cs1.length<=7:=by
   have:=zK2 (pki.map V.int) 7;rw[show ((7:Nat):Int)=7 from rfl,ecs1,lC] at this;exact this
  rw[ecs1];have k2:=zAC (o:=.lst (cs1.map V.int)) hp2;have e2:=@zAB Ha p2 (.lst (cs1.map V.int));have kb:=kT.trans (k1.trans k2);dsimp only[gName];generalize upd Ha p2 _=Hb at k2 e2 kb ⊢;clear k1 k2 e1 eT gT kT;apply viaS (λ σ' Hc=>E2 λ(l7:Addr) (cs2:List Int)=>A5 (σ'=[some (.ref a),some (.ref wl),some (.ref gd),some (.ref kl),some (.ref pd),some (.int (i:Int)),some (.str gx),some (.ref l7),s8,s9]) (Same H' Hc) (Hc l7=some (.lst (cs2.map V.int))) (1<=cs2.length) (cs2.length<=7))
  ·intro rest
   refine⟨_,rfl,p2,_,rfl,.inl (SqL.of e2),rfl,_,rfl,ite2 91 77⟩
   ·refine⟨_,rfl,a,ns,2,rfl,(g.trans kb).seq hS,by decide,_,rfl,_,_,rfl,rfl,_,_,rfl,rfl,⟨(by show (0:Int)<(i:Int)+1;lia),(by show (i:Int)+1<1073741824;lia)⟩,d1,λ p3 hp3=>?_⟩
    exact rest _ _ ⟨p3,[_],rfl,kb.trans (zAC hp3),zAB,lQ 1,(show 1<=7 by decide)⟩
   ·refine rest _ _ ⟨p2,cs1,rfl,kb,e2,?_,lcs1⟩
    rcases Nat.eq_zero_or_pos cs1.length with h|h
    ·exact absurd (lT (by rw[lC,h];rfl)) c
    ·exact h
  rintro σ3 Hc ⟨l7,cs2,rfl,kc,ec,lc1,lc7⟩;clear kb e2 ecs1 lcs1;have gc:=g.trans kc
  have dg:DGet Hc gd (.str gx) (some (.int (cnt gx:Int))):=by
   have:=DGet.k (k:=Sum.inr gx) (gc _ _ hgd);rw[zFF,if_pos hgx] at this;exact this
  have hc3:=hcn gx;refine⟨_,rfl,8,rfl,_,rfl,_,rfl,gd,_,rfl,dg,_,_,rfl,rfl,_,rfl,wl,_,rfl,SqL.of (gc _ _ hw),λ nl hnl=>?_⟩
  have ecn:cutV (ws.map V.str) (some 8) (some (8+(cnt gx:Int)))=((ws.drop 8).take (cnt gx)).map V.str:=by
   have:=cutS ws 8 (8+cnt gx) 65 65;rw[Nat.add_sub_cancel_left] at this;exact this
  rw[ecn];obtain⟨nms,enm,hnm,lnm⟩:∃nms:List Str,(ws.drop 8).take (cnt gx)=nms/\(∀x∈nms,x∈ws)/\nms.length<=3:=⟨_,rfl,λ x hx=>List.mem_of_mem_drop (nB hx),by rw[mL];lia⟩;rw[enm];have kd:=zAC (o:=.lst (nms.map V.str)) hnl;have ed:=@zAB Hc nl (.lst (nms.map V.str));dsimp only[gName];generalize upd Hc nl _=Hd at kd ed ⊢;have gd':=gc.trans kd;have kcd:=kc.trans kd;have ec':=kd _ _ ec;clear dg ecn enm gc kc kd ec hnl;refine⟨_,rfl,_,rfl,4,rfl,wl,_,rfl,SqL.of (gd' _ _ hw),λ q1 hq1=>?_⟩;rw[show cutV (ws.map V.str) none (some 4)=(ws.take 4).map V.str from zMC ws 4 65];have k1:=zAC (o:=.lst ((ws.take 4).map V.str)) hq1;have e1:=@zAB Hd q1 (.lst ((ws.take 4).map V.str));generalize upd Hd q1 _=He at k1 e1 ⊢;have l4:(ws.take 4).length=4:=by rw[mL];lia
  have m4:∀x∈ws.take 4,x∈ws:=λ x hx=>nB hx;generalize ws.take 4=w4 at e1 l4 m4;refine⟨_,rfl,q1,nl,_,_,rfl,rfl,e1,k1 _ _ ed,zAw (by simp;lia),λ q2 hq2=>?_⟩;rw[←mN];have k2:=zAC (o:=.lst ((w4++nms).map V.str)) hq2;have e2:=@zAB He q2 (.lst ((w4++nms).map V.str));generalize upd He q2 _=Hf at k2 e2 ⊢;refine⟨_,rfl,q2,nl,_,_,rfl,rfl,e2,(k1.trans k2) _ _ ed,zAw (by simp;lia),λ q3 hq3=>?_⟩;rw[←mN];have k3:=zAC (o:=.lst ((w4++nms++nms).map V.str)) hq3;have e3:=@zAB Hf q3 (.lst ((w4++nms++nms).map V.str));generalize upd Hf q3 _=Hg at k3 e3 ⊢;have k13:=k1.trans (k2.trans k3);clear k1 k2 k3 e1 e2;refine⟨_,rfl,d2,λ pn hpn=>?_⟩;have k4:=zAC (o:=.tup [.str gx,.str "quiet"]) hpn;have e4:=@zAB Hg pn (.tup [.str gx,.str "quiet"]);generalize upd Hg pn _=Hh at k4 e4 ⊢;have k14:=k13.trans k4;have g4:=gd'.trans k14;refine⟨_,rfl,kl,kvl,kdD kds,.tup [.str gx,.str "quiet"],rfl,g4 _ _ hkl,hkd.mono g4.tk,.tup e4 94,zDd kds,?_⟩
  refine⟨l7,q3,_,cs2,w4++nms++nms,ws,rfl,SqL.of (k14 _ _ ec'),lc1,lc7,by decide,k4 _ _ e3,by simp;lia,(λ x hx=>by
   rcases lJ.mp hx with h|h
   ·rcases lJ.mp h with h|h
    ·exact m4 x h
    ·exact hnm x h
   ·exact hnm x h),λ t v Hi ki rt st gt ng=>?_⟩
  have kdi:=k14.trans ki;have gi:=gd'.trans kdi;have kci:=kcd.trans kdi;have ei:=kdi _ _ ed;have eci:=kdi _ _ ec';clear k13 k4 k14 g4 e3 e4 ki ed ec';have st':t.size<=13:=by lia
  clear st;apply viaS (λ σ' Hj=>E2 λ(t:Tr) (v:V)=>A6 (σ'=[some (.ref a),some (.ref wl),some (.ref gd),some (.ref kl),some (.ref pd),some (.int (i:Int)),some (.str gx),some (.ref l7),some (.ref nl),some v]) (Same Hi Hj) (Rep Hj t v) (t.size<=13) (t.good (λ x=>x∈ws)) (ngT t))
  ·intro rest
   refine⟨_,rfl,d2,λ pn hpn=>?_⟩;have k7:=zAC (o:=.tup [.str gx,.str "number"]) hpn;refine⟨_,rfl,kl,kvl,kdD kds,.tup [.str gx,.str "number"],rfl,(gi.trans k7) _ _ hkl,hkd.mono (gi.trans k7).tk,.tup zAB 94,zDd kds,_,rfl,ite2 91 (λ Ω=>rest _ _ ⟨t,v,rfl,k7,rt.mono k7.tk,st',gt,ng⟩)⟩
   obtain⟨c0,hc0⟩:∃c0:Int,atI (cs2.map V.int) 0=some (.int c0):=by
    cases cs2 with
    |nil=>exact absurd lc1 66
    |cons c r=>exact⟨c,zAc (j:=0) rfl⟩
   refine⟨_,rfl,l7,_,0,_,rfl,rfl,SqL.of (k7 _ _ eci),hc0,_,_,rfl,rfl,⟨by decide,by decide,by decide⟩,_,_,rfl,rfl,(show (0:Int)<10 ^ 30 by decide),d2,λ p8 hp8=>?_⟩;exact rest _ _ ⟨.num _,_,rfl,k7.trans (zAC hp8),⟨p8,rfl,zAB⟩,(show 1<=13 by decide),trivial,trivial⟩
  rintro σ' Hj ⟨t2,v2,rfl,kj,rt2,st2,gt2,ng2⟩;have kcj:=kci.trans kj;refine⟨_,rfl,nl,_,rfl,.inl ⟨SqL.of (kj _ _ ei),λ nt hnt=>?_⟩⟩;have k8:=zAC (o:=.tup (nms.map V.str)) hnt;have e8:=@zAB Hj nt (.tup (nms.map V.str));generalize upd Hj nt _=Hk at k8 e8 ⊢;refine⟨_,rfl,d2,λ pt hpt=>?_⟩;have k9:=zAC (o:=.tup [.ref nt,v2]) hpt;have e9:=@zAB Hk pt (.tup [.ref nt,v2]);generalize upd Hk pt _=Hl at k9 e9 ⊢;have k89:=k8.trans k9;have kcl:=kcj.trans k89;have epl:=kcl _ _ ep;refine⟨_,rfl,_,rfl,pd,_,rfl,DPut.k (k:=Sum.inr gx) epl (zAO 65),?_⟩;have tk:Tk Hl (upd Hl pd (.dK (putK pkv (Sum.inr gx) (.ref pt)))):=Tk.dk epl;refine⟨_,_,_,_,_,_,rfl,zAY (g.trans kcl) hpd,by rw[zAR nsp];exact kcl _ _ es,zAB,?_,λ x hx=>?_⟩
  ·have:=zAx pkv (Sum.inr gx:Key) (.ref pt)
   lia
  ·rw[zBc]
   by_cases c:x=gx
   ·rw[if_pos (by rw[c])]
    have:=zMx ng2;exact⟨_,(nms,t2),rfl,⟨pt,nt,v2,rfl,tk _ _ e9,tk _ _ (k9 _ _ e8),rt2.mono (k89.tk.trans tk)⟩,⟨(show nms.length<=20 by lia),ng2,gt2,st2,(show t2.dep<=13 by lia)⟩⟩
   ·rw[if_neg (λ z=>c (Sum.inr.inj z))]
    rw[zAT hx'] at hx;rcases lJ.mp hx with h|h
    ·obtain⟨v',q',e',r',p'⟩:=hP x h
     exact⟨v',q',e',r'.mono (kcl.tk.trans tk),p'⟩
    ·exact absurd (mO.mp h) c
 ·rintro σ' H' ⟨s5,s6,s7,s8,s9,pkv,rfl,g,es,ep,lp,hP⟩
  rw[lC,mM] at hP;exact⟨_,rfl,q pd pkv H' g ep λ x hx=>hP x (perm.mem_iff.mpr hx)⟩
theorem zMq {kds:List 70}(h:∀p∈kds,p.2 = "quiet" \/ p.2 = "number") (nd:(kds.map (·.1)).Nodup) (g:Str):KdV (wKd kds g):=by
 by_cases c:∃kd,(g,kd)∈kds
 ·obtain⟨kd,hm⟩:=c
  rw[(zED nd).mpr hm];rcases h _ hm with z|z
  ·exact .inr (.inl (congrArg V.str z))
  ·exact .inr (.inr (congrArg V.str z))
 ·left
  have:valV (zA5 [] (kdV kds)) (Sum.inr g:Key)=none:=by
   rw[zCl];cases e2:valV (kdV kds).reverse (Sum.inr g:Key) with
   |none=>rfl
   |some v =>
    exfalso;obtain⟨p,hp,_⟩:=lU.mp (show ((kdV kds).reverse.find? λ kv=>decide (kv.1=(Sum.inr g:Key))).map (·.2)=some v from e2);have h1:=List.find?_some hp;obtain⟨q,hq,rfl⟩:=mB.mp (List.mem_reverse.mp (List.mem_of_find?_eq_some hp));have h3:q.1=g:=Sum.inr.inj (lS h1);exact c ⟨q.2,by rw[←h3];exact hq⟩
  unfold wKd;rw[this];rfl
abbrev s_law:Stmt:=top 56
theorem zBQ:zAV ["_law_script", "_law_words_here", "_law_cell", "_law_cells", "_law_left_here", "_law_gaps_here", "_law_kinds", "_law_k", "_law_gap", "_law_kind", "_law_rule", "_law_others", "_law_tree_here", "_law_due", "_law_fits_here", "_law_found"] ["_law_script"] (zAM s_law):=scI
def zHE (K:W.Frag):Sp:=λ vs H Q Ω=>E2 λ(a:Addr) (ns:List Int)=>A3 (vs=[.ref a]) (SqL K H a (ns.map V.int)) (∀H',Q (.bl true) H')
theorem zMh (F:Fun K "law" "law" s_law f fd) (z_len:mg "len" = none) (z_enumerate:mg "enumerate" = none) (z_sorted:mg "sorted" = none) (z_tuple:mg "tuple" = none) (z_range:mg "range" = none) (z_isinstance:mg "isinstance" = none) (z_dict:mg "dict" = none)
  (zNo:FnB P w K mg base k "_law_words" g1 gd1 ["_law_cell", "_law_many_here"] zG9) (zNn:FnB P w K mg base k "_law_cell_at" g2 gd2 ["_law_script", "_law_k"] (zDl K))
  (zNa:FnB P w K mg base k "_law_left" g3 gd3 ["_law_cells", "_law_words_here", "_law_bound", "_law_pool", "_law_counts"] (zDj K 9)) (zNf:FnB P w K mg base k "_law_gaps" g4 gd4 ["_law_shape", "_law_found"] (zCp 17))
  (zNg:FnB P w K mg base k "_law_made" g5 gd5 ["_law_shape", "_law_pieces_here", "_law_known", "_law_others"] (zDh 17)) (zNp:FnB P w K mg base k "_law_pieces" g6 gd6 ["_law_script", "_law_words_here", "_law_gaps_here", "_law_kinds"] (zEz K))
  (zNq:FnB P w K mg base k "_law_spoiled" g7 gd7 ["_law_tree_here", "_law_cell", "_law_words_here"] (zHB 30)) (zNl:FnB P w K mg base k "_law_fits" g8 gd8 ["_law_left_here", "_law_tree_here", "_law_opened", "_law_pieces_here", "_law_kinds"] (zCq 17))
  (G_fit:FnD1 P w K mg base k "fit" g9 gd9 ["rule", "tree", "kinds"] zLC) (zNr:FnB P w K mg base k "_law_piece_told" g10 gd10 ["_law_piece", "_law_many_here", "_law_due"] zHD) :
  FnOk P w K mg base CX0 (k+1) f fd ["_law_script"] (zHE K):=by
 refine F.ok zBQ 69 58
 ·obtain⟨a,ns,rfl,_⟩:=h
  rfl
 obtain⟨a,ns,rfl,hS,qf⟩:=h;have hu:=hu_of hr
 refine zMQ ⟨_,(zAF (zIk (i:=1) zBQ.nd rfl (Or.inr rfl) (zBM zNo.ok hr 84 zNo.gl zNo.kp zNo.bd .nil pass0 (pa_kS (zBM zNn.ok hr 84 zNn.gl zNn.kp zNn.bd .nil pass0 (pa_nS ⟨pv 0⟩ (zAI ⟨zAG⟩ ⟨zAD⟩))) (zAI ⟨zAG⟩ ⟨zAD⟩))))
  (zAF (pSS (i:=2) zBQ.nd (zBM zNn.ok hr 84 zNn.gl zNn.kp zNn.bd .nil pass0 (pa_nS ⟨pv 0⟩ (zAI ⟨zAG⟩ ⟨zAD⟩))))
  (zAF (pSS (i:=3) zBQ.nd ⟨zAh (r:=rSlL K) zBU (pv 0) (zAf zAG) (zAf zAG)⟩)
  (zAF (zAe ⟨zAJ op_lt (cL z_len (zAA (pv 3) zAD)) zAG 82⟩ (zAS (pSS (i:=3) zBQ.nd (zDM (pa_nS ⟨pv 2⟩ (pa_kS (zBM zNn.ok hr 84 zNn.gl zNn.kp zNn.bd .nil pass0 (pa_nS ⟨pv 0⟩ (zAI ⟨zAG⟩ ⟨zAD⟩))) ⟨zAD⟩))))) ⟨zAK⟩)
  (zAF (pSS (i:=4) zBQ.nd (zBM zNa.ok hr 84 zNa.gl zNa.kp zNa.bd .nil pass0 (pa_nS ⟨pv 3⟩ (pa_nS ⟨pv 1⟩ (zAI (zDM ⟨zAD⟩) (zAI ⟨zAh (r:=rSlL K) zBU 81 (zAf zAG) (zAf zAG)⟩ (zAI (zDM (pa_bS (zDA zAb ⟨pv 2⟩ ⟨zAG⟩) (pa_bS (zDA zAb (zDA zAZ ⟨pv 2⟩ ⟨zAG⟩) ⟨zAG⟩) (pa_bS (zDA zAb (zDA zAZ ⟨pv 2⟩ ⟨zAG⟩) ⟨zAG⟩) (zAI ⟨zAG⟩ (zAI ⟨zAG⟩ (zAI ⟨zAG⟩ ⟨zAD⟩))))))) ⟨zAD⟩)))))))
  (zAF (pSS (i:=5) zBQ.nd ⟨zBL⟩)
  (zAF (zKM (zBM zNf.ok hr 84 zNf.gl zNf.kp zNf.bd .nil pass0 (pa_nS ⟨pv 4⟩ (pa_nS ⟨pv 5⟩ ⟨zAD⟩))))
  (zAF (pSS (i:=6) zBQ.nd (zDM ⟨zAD⟩))
  (zAF ⟨zAj PassesOwn.never rfl (zHK 84 z_enumerate (zAA (zA2 (zCk rfl) 84 z_sorted PyProof.Rows.boot_sorted (zAA (pv 5) zAD)) zAD)) (zB2 rfl (zAa (pGn (i:=7) zBQ.nd) (zAa (pGn (i:=8) zBQ.nd) zBV))) (zAE (pS (i:=9) zBQ.nd (pe_ix (r:=rIxL K) zAd (zGd [.str "", .str "quiet", .str "number", .str ""] 84:PE _ _ _) (pe_op zAb (pe_op zAZ (pv 2) (pe_op zBl zAG (pe_op zMd zAG (pv 7)))) zAG) 73))
  (zAH (ps_if (pw_or (zAJ op_eq (pv 9) zAP 82) (zCg (zBk (zAJ op_eq (pv 9) zAP 82) (zBE (zAJ op_eq (zBb hu (pv 5) (pv 8) 73) zAG 82))).pt)).pt (zAH (pAp (pv 6) (zAk (zAA (pv 8) (zAA (pv 9) zAD)):PE _ _ _))) zAK)))⟩
  (zAF (pSS (i:=10) zBQ.nd (zAg (pa_nS ⟨pv 4⟩ (pa_tS (zAg (pa_cS ⟨zAP⟩ (pa_bS (zDA zAb ⟨pv 2⟩ (zDA zEW ⟨zAG⟩ ⟨zAG⟩)) ⟨zAD⟩))) (pa_kS (zBq zGv 84 z_tuple rF (pa_nS ⟨pv 6⟩ ⟨zAD⟩)) ⟨zAD⟩)))))
  (zAF (pSS (i:=11) zBQ.nd ⟨zAh (r:=rSlL K) zBU 81 (zAf zAG) (zAf zAG)⟩)
  (zAF (zAe ⟨zAJ op_eq (pe_op zAb (pe_cl zNn hr (zAA (pv 0) (zAA zAG zAD))) zAG) zAG 82⟩ (zAS ⟨zD9 (jj:=11) ["_law_k", "_law_words_here", "_law_script"] [none,some 1,some 0] rfl (zDX 84 z_range (zAA zAG zAD)) (λ Ω Ω Ω Ω Ω=>(zBx (i:=0) (show List.Nodup (["_law_k", "_law_words_here", "_law_script"]:List Str) by right) rfl (Or.inl rfl))) (λ Ω Ω Ω Ω Ω=>zCh) (λ Ω Ω Ω Ω Ω=>(pe_ix (r:=rIxL K) zAd 81 (pe_op zBl zAG (pe_op zAb (pe_op zAZ (pe_op zAZ (pe_cl zNn hr (zAA (pv 2) (zAA zAG zAD))) zAG) (pe_op zBl (pv 0) zAG)) zAG)) 73)) rfl zBQ.nd rfl (Or.inl rfl) (Or.inr rfl)⟩) ⟨zAK⟩)
  (zAF (pSS (i:=12) zBQ.nd (zBM zNg.ok hr 84 zNg.gl zNg.kp zNg.bd .nil pass0 (pa_nS ⟨pv 4⟩ (pa_kS (zBM zNp.ok hr 84 zNp.gl zNp.kp zNp.bd .nil pass0 (pa_nS ⟨pv 0⟩ (pa_nS ⟨pv 1⟩ (pa_nS ⟨pv 5⟩ (pa_nS ⟨pv 6⟩ ⟨zAD⟩))))) (zAI ⟨zBL⟩ (pa_nS ⟨pv 11⟩ ⟨zAD⟩))))))
  (zAF (zAe ⟨zAJ op_eq (pe_op zAb (pe_cl zNn hr (zAA (pv 0) (zAA zAG zAD))) zAG) zAG 82⟩ (zAS (pSS (i:=12) zBQ.nd (zBM zNq.ok hr 84 zNq.gl zNq.kp zNq.bd .nil pass0 (pa_nS ⟨pv 12⟩ (pa_bS (zDA zAb (zDA zAZ (zBM zNn.ok hr 84 zNn.gl zNn.kp zNn.bd .nil pass0 (pa_nS ⟨pv 0⟩ (zAI ⟨zAG⟩ ⟨zAD⟩))) ⟨zAG⟩) (zDA zEW ⟨zAG⟩ ⟨zAG⟩)) (pa_nS ⟨pv 1⟩ ⟨zAD⟩)))))) ⟨zAK⟩)
  (zAF (pSS (i:=13) zBQ.nd ⟨zBL⟩)
  (zAF (pSS (i:=14) zBQ.nd (zBM zNl.ok hr 84 zNl.gl zNl.kp zNl.bd .nil pass0 (pa_nS ⟨pv 4⟩ (pa_nS ⟨pv 12⟩ (zAI ⟨zBL⟩ (pa_nS ⟨pv 13⟩ (pa_nS ⟨pv 6⟩ ⟨zAD⟩)))))))
  (zAF (pSS (i:=15) zBQ.nd (zBM G_fit.ok hr 84 G_fit.gl G_fit.kp G_fit.bd1 zLY pass0 (pa_nS ⟨pv 10⟩ (pa_nS ⟨pv 12⟩ ⟨zAD⟩))))
  (zAF (zAe ⟨zBS (zB0 (pv 14) (λ Ω=>rfl))⟩ (zAS (zAX ⟨zA6 zLI (pv 15) zD3 82⟩)) ⟨zAK⟩)
  (zAF (zAe ⟨(pw_or (zBS (zAp (zA2 zJx 84 z_isinstance PyProof.Rows.boot_isinstance (zAA (pv 15) (zAA (zIr (v:=.ty _) 84 z_dict rH 84) zAD))))) (zCg (zAJ op_ne (zA2 zC5 84 z_len rL (zAA (pv 15) zAD)) (zA2 zC5 84 z_len rL (zAA (pv 13) zAD)) 82))).pt⟩ (zAS (zAX ⟨pe_bl⟩)) ⟨zAK⟩)
  (zAF ⟨zAj PassesOwn.never rfl (zIo (pv 13)) (pGn (i:=8) zBQ.nd) (zAH (ps_if (zBS (zAp (pe_cl zNr hr (zAA (zEA hu (pv 15) (pv 8) ⟨rfl,rfl,rfl,rfl⟩) (zAA (zBb hu (pv 5) (pv 8) 73) (zAA (zBb hu (pv 13) (pv 8) 73) zAD)))))) (zAH (zAU pe_bl)) zAK))⟩
  (zAS (zAX ⟨pe_bl⟩)))))))))))))))))))))),?_⟩
 have d0:0<=sizeLine:=by decide
 have d2:2<=sizeLine:=by decide
 have d3:3<=sizeLine:=by decide
 have d4:4<=sizeLine:=by decide
 have d6:6<=sizeLine:=by decide
 have z4:(0:Int)<4:=by decide
 have f4:(0:Int)<4/\(4:Int)<1073741824:=85;have f16:(0:Int)<16/\(16:Int)<1073741824:=85;refine⟨_,rfl,a,ns,0,rfl,hS,by decide,_,rfl,λ wl H1 ws k1 hw lw nw gw=>?_⟩;refine⟨_,rfl,a,ns,1,rfl,k1.seq hS,by decide,?_⟩;dsimp only[gName];generalize ns.getD (1:Int).toNat 0=c1;refine⟨_,rfl,4,rfl,13,rfl,a,_,rfl,k1.seq hS,λ ca hca=>?_⟩;obtain⟨cs0,ecs0⟩:=zHd ns (some 4) (some 13)
 have lcs0:cs0.length<=9:=by
  have:=zMB (ns.map V.int) 4 13;rw[show ((4:Nat):Int)=4 from rfl,show ((13:Nat):Int)=13 from rfl,ecs0,lC] at this;exact this
 rw[ecs0];have k2:=zAC (o:=.lst (cs0.map V.int)) hca;have eca:=@zAB H1 ca (.lst (cs0.map V.int));have k02:=k1.trans k2;have hw2:=k2 _ _ hw;dsimp only[gName];generalize upd H1 ca _=H2 at k2 eca k02 hw2 ⊢;clear k2;apply viaS (λ σ' H'=>E2 λ(c3:Addr) (cells:List Int)=>A6 (σ'=[some (.ref a),some (.ref wl),some (.int c1),some (.ref c3),none,none,none,none,none,none,none,none,none,none,none,none]) (Same H H') (H' wl=some (.lst (ws.map V.str))) (H' c3=some (.lst (cells.map V.int))) (1<=cells.length) (cells.length<=9))
 ·intro rest
  refine⟨_,rfl,ca,_,rfl,.inl (SqL.of eca),_,_,rfl,rfl,_,rfl,ite2 91 (λ c=>rest _ _ ⟨ca,cs0,rfl,k02,hw2,eca,?_,lcs0⟩)⟩
  ·refine⟨_,rfl,_,rfl,a,ns,2,rfl,k02.seq hS,by decide,d2,λ cb hcb=>?_⟩
   have k3:=zAC (o:=.lst ([c1,ns.getD (2:Int).toNat 0].map V.int)) hcb;exact rest _ _ ⟨cb,[_,_],rfl,k02.trans k3,k3 _ _ hw2,zAB,(show 1<=2 by decide),(show 2<=9 by decide)⟩
  ·have c':¬(((cs0.map V.int).length:Nat):Int)<2:=λ z=>c (lT z)
   rw[lC] at c'
   lia
 rintro σ3 H3 ⟨c3,cells,rfl,k03,hw3,ec3,lc1,lc9⟩;clear k02 hw2 eca lcs0 ecs0 k1 hw;refine⟨_,rfl,_,rfl,d0,λ bl hbl=>?_⟩;have k4:=zAC (o:=.lst []) hbl;have eb4:=@zAB H3 bl (.lst []);have hbH:=k03.free hbl;generalize upd H3 bl _=H4 at k4 eb4 ⊢;refine⟨_,rfl,6,rfl,10,rfl,wl,_,rfl,SqL.of (k4 _ _ hw3),λ pl hpl=>?_⟩;rw[show cutV (ws.map V.str) (some 6) (some 10)=((ws.drop 6).take 4).map V.str from cutS ws 6 10 65 65];obtain⟨pw,epw⟩:∃pw,(ws.drop 6).take 4=pw:=72;have npw:pw.Nodup:=epw▸(List.take_sublist _ _).nodup ((List.drop_sublist _ _).nodup nw);have ipw:∀x∈pw,x∈ws:=λ x hx=>List.mem_of_mem_drop (nB (epw▸hx));have lpw:pw.length=4:=by rw[←epw,mL,mT];lia
 rw[epw];have k5:=zAC (o:=.lst (pw.map V.str)) hpl;have ep5:=@zAB H4 pl (.lst (pw.map V.str));have hpl3:=k4.free hpl;have nbp:bl≠pl:=zAL eb4 hpl;generalize upd H4 pl _=H5 at k5 ep5 ⊢;refine⟨_,rfl,_,_,rfl,rfl,z4,_,rfl,_,_,rfl,rfl,f4,_,_,rfl,rfl,z4,_,rfl,_,_,rfl,rfl,f16,_,_,rfl,rfl,z4,d6,λ cl hcl=>?_⟩;obtain⟨cs,ecs,hcs⟩:=six c1 (c1 / 4) (c1 / 16);rw[ecs];have k6:=zAC (o:=.lst (numV cs)) hcl;have ec6:=@zAB H5 cl (.lst (numV cs));have ncp:cl≠pl:=Ne.symm (zAL ep5 hcl);generalize upd H5 cl _=H6 at k6 ec6 ⊢;have k36:=k4.trans (k5.trans k6);refine⟨c3,wl,bl,pl,cl,cells,ws,[],pw,cs,rfl,SqL.of (k36 _ _ ec3),lc1,lc9,by decide,(show 0+9<=30 by decide),⟨k36 _ _ hw3,(k5.trans k6) _ _ eb4,k6 _ _ ep5,ec6,zAL hw3 hpl3,nbp,ncp,hcs,lw,nw,List.nodup_nil,(λ x hx=>nomatch hx),npw,λ x hx=>⟨ipw x hx,λ z=>nomatch z⟩⟩,λ t tv H7 pw' more sd Ω epw' hmo rt st gt lo=>?_⟩
 have k37:Same H3 H7:=λ b o hb=>sd b o (zAL hb hpl3) (k36 b o hb);have k07:=k03.trans k37;have hw7:=k37 _ _ hw3;have st17:t.size<=17:=by lia
 have nl4:nlet t<=4:=by
  have:=congrArg List.length epw';rw[mI] at this
  lia
 have hcn:∀g,cntO ws cs g<=3:=zMD hcs;have hlc:=zDa lo;dsimp only[gName];generalize cntO ws cs=cnt at lo hcn hlc;clear k4 k5 k6 k36 eb4 hbH hpl3 nbp ncp ec6 ep5 hbl hpl hcl sd epw' hmo epw npw ipw lpw k03 k37 hw3 ec3 lc1 lc9 st ecs hcs;refine λ gd hgd=>?_;refine⟨_,rfl,_,rfl,t,tv,gd,[],ws,cnt,rfl,st17,rt.mono (zAC hgd).tk,hlc,gt,by lia,zAB,List.nodup_nil,(λ g hg=>nomatch hg),λ ks H8 sd8 egd nks hks Ω gin=>?_⟩
 have k78:Same H7 H8:=λ b o hb=>sd8 b o (zAL hb hgd) (zAC hgd b o hb);have k08:=k07.trans k78;have hw8:=k78 _ _ hw7;have rt8:=rt.mono k78.tk;clear k78 hw7 rt k07 sd8 hgd hlc
 have lks:ks.length<=12:=by
  have:=zEB (T:=ws) nks hks
  lia
 refine⟨d0,λ kl hkl=>?_⟩;have k9:=zAC (o:=.lst []) hkl;have ek9:=@zAB H8 kl (.lst []);dsimp only[gName];generalize upd H8 kl _=H9 at k9 ek9 ⊢;refine⟨_,rfl,gd,_,ks,rfl,k9 _ _ egd,zHU cnt ks,by lia,λ sl ss hsl perm Ω=>⟨sl,rfl,⟨_,SqL.of zAB⟩,?_⟩⟩;have k10:=zAC (o:=.lst (ss.map V.str)) hsl;have es10:=@zAB H9 sl (.lst (ss.map V.str));have ek10:=k10 _ _ ek9;have k810:=k9.trans k10;have nsk:sl≠kl:=Ne.symm (zAL ek9 hsl);generalize upd H9 sl _=H10 at k10 es10 ek10 k810 ⊢;clear k9 k10 ek9 hsl;have lss:ss.length=ks.length:=perm.length_eq;have nss:ss.Nodup:=perm.nodup_iff.mpr nks;have mss:∀g,g∈ss↔g∈ks:=λ g=>perm.mem_iff;refine zGD (xs:=ss.map V.str) (λ i σ' H'=>E5 λ(s7 s8 s9:Option V) (kds:List (Str × Str)) (kvl:List V)=>σ'=[some (.ref a),some (.ref wl),some (.int c1),some (.ref c3),some tv,some (.ref gd),some (.ref kl),s7,s8,s9,none,none,none,none,none,none]/\KdI H8 H' sl kl ss i kds kvl) ⟨none,none,none,[],[],rfl,k810,es10,ek10,.nil,lQ _,lQ _,List.nodup_nil,(λ p hp=>nomatch hp),(λ p hp=>nomatch hp)⟩ ?_ ?_ ?_
 ·rintro i σ' H' _ ⟨s7,s8,s9,kds,kvl,rfl,I⟩
  exact SqL.of I.es
 ·rintro i y T σ' H' hy ⟨s7,s8,s9,kds,kvl,rfl,I⟩ hT
  rw[mH] at hy;obtain⟨gx,hx,rfl⟩:=lU.mp hy;have hi:i<ss.length:=(lI.mp hx).1;have hgx:gx∈ks:=(mss gx).mp (lK hx);have kT:=zAC (o:=.tup [.int (i:Int),.str gx]) hT;have eT:=@zAB H' T (.tup [.int (i:Int),.str gx]);show gTup _ _ _ _ _ (upd H' T (.tup [.int (i:Int),.str gx])) _;generalize upd H' T _=HT at kT eT ⊢;refine⟨T,_,rfl,SqT.of eT,rfl,_,_,rfl,_,_,rfl,rfl,?_⟩
  obtain⟨kd,atk,hkd⟩:∃kd:Str,atI [V.str "", .str "quiet", .str "number", .str ""] (c1 / (64+97 * (i:Int)) % 4)=some (.str kd)/\(kd = "" \/ kd = "quiet" \/ kd = "number"):=by
   rcases (show c1 / (64+97 * (i:Int)) % 4=0\/c1 / (64+97 * (i:Int)) % 4=1\/c1 / (64+97 * (i:Int)) % 4=2\/c1 / (64+97 * (i:Int)) % 4=3 by lia) with e|e|e|e<;>rw[e]
   ·exact⟨"", rfl,.inl rfl⟩
   ·exact⟨"quiet", rfl,.inr (.inl rfl)⟩
   ·exact⟨"number", rfl,.inr (.inr rfl)⟩
   ·exact⟨"", rfl,.inl rfl⟩
  refine⟨d4,λ pl hpl=>⟨_,rfl,_,rfl,_,_,rfl,rfl,.inl 85,_,_,rfl,rfl,_,_,rfl,rfl,⟨(by show (0:Int)<64+97 * (i:Int);lia),(by show (64:Int)+97 * (i:Int)<1073741824;lia)⟩,_,_,rfl,rfl,z4,pl,_,_,_,rfl,rfl,SqL.of zAB,atk,?_⟩⟩;have kP:=kT.trans (zAC (o:=.lst [V.str "", .str "quiet", .str "number", .str ""]) hpl);dsimp only[gName];generalize upd HT pl _=HP at kP ⊢;clear kT eT hpl;have IP:=I.same kP
  have dg:DGet HP gd (.str gx) (some (.int (cnt gx:Int))):=by
   have:=DGet.k (k:=Sum.inr gx) (IP.g _ _ egd);rw[zFF,if_pos hgx] at this;exact this
  clear kP I hT;have l2:=IP.l2;refine⟨_,rfl,rfl,_,rfl,ite2 77 (λ Ω=>⟨_,rfl,rfl,_,rfl,ite2 (λ c=>⟨_,rfl,_,rfl,gd,_,rfl,dg,rfl,_,rfl,ite2 91 (λ Ω=>⟨_,_,_,kds,kvl,rfl,IP.skip⟩)⟩) (λ Ω=>⟨_,_,_,kds,kvl,rfl,IP.skip⟩)⟩)⟩
  ·have hk:kd = "quiet" := V.str.inj (lS c)
   exact⟨_,rfl,.inl ⟨rfl,_,SqL.of IP.ek⟩,_,rfl,_,rfl,d2,λ pt hpt=>⟨kl,_,_,rfl,rfl,zAC hpt _ _ IP.ek,zAO 65,_,_,_,_,_,rfl,IP.put hx nss hkl nsk (.inl hk) hpt⟩⟩
  ·have hk:kd = "number" := V.str.inj (lS c)
   exact⟨_,rfl,.inl ⟨rfl,_,SqL.of IP.ek⟩,_,rfl,_,rfl,d2,λ pt hpt=>⟨kl,_,_,rfl,rfl,zAC hpt _ _ IP.ek,zAO 65,_,_,_,_,_,rfl,IP.put hx nss hkl nsk (.inr hk) hpt⟩⟩
 rintro σ9 H11 ⟨s7,s8,s9,kds,kvl,rfl,I⟩;have l1:=I.l1;rw[lC] at l1;have g11:=I.g;have ek:=I.ek;have dk:=I.dk;have nk:=I.nk;have hkv:=zMq I.qk I.nk;clear I es10 ek10 k810 nsk;have k11:=k08.trans g11;have hw11:=g11 _ _ hw8;have rt11:=rt8.mono g11.tk;have egd11:=g11 _ _ egd;have lk12:kds.length<=12:=by lia
 clear g11 hw8 rt8 egd k08 hkl l1;refine⟨_,rfl,_,rfl,_,_,rfl,rfl,⟨by decide,by decide,by decide⟩,_,_,rfl,rfl,(show (0:Int)<10 ^ 30 by decide),d2,λ rn hrn=>?_⟩;have kA:=zAC (o:=.tup [.str "num", .int (c1 % 10 ^ (30:Int).toNat)]) hrn;generalize upd H11 rn _=HA at kA ⊢;refine⟨_,rfl,kl,kvl,rfl,SqL.of (kA _ _ ek),λ ka ob hka hob=>⟨d3,λ r hr2=>?_⟩⟩;have kB:=zAC (o:=.frz ob (.tup kvl)) hka;have kC:=zAC (o:=.tup [tv,.ref rn,.ref ka]) hr2;have kAC:=kA.trans (kB.trans kC);have er:=@zAB (upd HA ka (.frz ob (.tup kvl))) r (.tup [tv,.ref rn,.ref ka]);have eka:=kC _ _ (zAB (H:=HA) (a:=ka) (o:=.frz ob (.tup kvl)));dsimp only[gName];generalize upd (upd HA ka _) r _=H12 at kAC er eka ⊢;have k12:=k11.trans kAC;have hw:=kAC _ _ hw11;have rt:=rt11.mono kAC.tk;have egd:=kAC _ _ egd11;have ek2:=kAC _ _ ek;have dk2:=dk.mono kAC.tk;clear kA kB kC kAC hrn hka hr2 k11 hw11 rt11 egd11 ek dk;refine⟨_,rfl,4,rfl,8,rfl,wl,_,rfl,SqL.of hw,λ ol hol=>?_⟩;rw[show cutV (ws.map V.str) (some 4) (some 8)=((ws.drop 4).take 4).map V.str from cutS ws 4 8 65 65];obtain⟨os0,eos,los0,ios0⟩:∃os0,(ws.drop 4).take 4=os0/\os0.length=4/\∀x∈os0,x∈ws:=⟨_,rfl,by rw[mL,mT];lia,λ x hx=>List.mem_of_mem_drop (nB hx)⟩;rw[eos];have k13:=zAC (o:=.lst (os0.map V.str)) hol;have eo13:=@zAB H12 ol (.lst (os0.map V.str));dsimp only[gName];generalize upd H12 ol _=H13 at k13 eo13 ⊢;apply viaS (λ σ' H'=>E2 λ(ol:Addr) (os:List Str)=>A6 (σ'=[some (.ref a),some (.ref wl),some (.int c1),some (.ref c3),some tv,some (.ref gd),some (.ref kl),s7,s8,s9,some (.ref r),some (.ref ol),none,none,none,none]) (Same H12 H') (H12 ol=none) (H' ol=some (.lst (os.map V.str))) (os.length=4) (∀x∈os,x∈ws))
 ·intro rest
  refine⟨_,rfl,a,ns,2,rfl,(k12.trans k13).seq hS,by decide,_,_,rfl,rfl,(show (0:Int)<3 by decide),rfl,_,rfl,ite2 91 (λ Ω=>rest _ _ ⟨ol,os0,rfl,k13,hol,eo13,los0,ios0⟩)⟩;refine⟨4,rfl,by decide,by decide,λ acc hacc=>?_⟩;refine zEj (n:=(4:Int).toNat) (λ i H'=>Same H13 H'/\∃os:List Str,H' acc=some (.lst (os.map V.str))/\os.length=i/\∀x∈os,x∈ws) ⟨zAC hacc,[],zAB,rfl,(λ x hx=>nomatch hx)⟩ ?_ ?_
  ·rintro i Hx hi ⟨gx,os,ex,lx,ix⟩
   have b0:=nW (ns.getD (2:Int).toNat 0 / 3 / (0+(i:Int)+1)) (show (2:Int)≠0 by decide);have b1:=nX (ns.getD (2:Int).toNat 0 / 3 / (0+(i:Int)+1)) (show (0:Int)<2 by decide);obtain⟨x,hx,atx⟩:=pickS (L:=ws) (i:=4+ns.getD (2:Int).toNat 0 / 3 / (0+(i:Int)+1) % 2) 65 65;refine⟨.skip (.keep (.keep .nil)),_,rfl,_,rfl,a,ns,2,rfl,(k12.trans (k13.trans gx)).seq hS,by decide,_,_,rfl,rfl,85,_,rfl,_,_,rfl,rfl,_,_,rfl,rfl,⟨(by show (0:Int)<0+(i:Int)+1;lia),(by show (0:Int)+(i:Int)+1<1073741824;lia)⟩,_,_,rfl,rfl,(show (0:Int)<2 by decide),_,_,rfl,rfl,wl,_,_,_,rfl,rfl,SqL.of ((k13.trans gx) _ _ hw),atx,?_⟩;refine⟨_,ex,zAO (by rw[lC];lia),zAY gx hacc,os++[x],?_,by simp[lx],λ y hy=>?_⟩
   ·rw[zAB,mN]
    rfl
   ·rcases lJ.mp hy with h|h
    ·exact ix y h
    ·rw[mO.mp h];exact hx
  ·rintro H' ⟨g',os,eo,lo',io⟩
   exact rest _ _ ⟨acc,os,rfl,k13.trans g',k13.free hacc,eo,lo',io⟩
 clear eo13 k13 hol eos los0 ios0;rintro σ' H14 ⟨ol,os,rfl,k14,holn,eo,los,ios⟩;have k014:=k12.trans k14;refine⟨_,rfl,_,rfl,_,rfl,_,rfl,_,rfl,a,wl,gd,kl,ns,ws,ks,kds,kvl,cnt,rfl,k014.seq hS,k14 _ _ hw,lw,k14 _ _ egd,nks,hks,hcn,k14 _ _ ek2,dk2.mono k14.tk,λ pd pkv H15 k15 ep hP=>λ kd hkd=>?_⟩;have k16:=zAC (o:=.dK []) hkd;have ekd:=@zAB H15 kd (.dK []);generalize upd H15 kd _=H16 at k16 ekd ⊢;have k146:=k15.trans k16;have k126:=k14.trans k146;refine⟨_,rfl,t,tv,pd,kd,ol,pkv,[],os,ws,ks,[],cnt,rfl,st17,by decide,rt.mono k126.tk,lo,gt,gin,k16 _ _ ep,hP.mono k16.tk,ekd,(λ x hx=>nomatch hx),(by show 0+t.size<=200;lia),k146 _ _ eo,by lia,ios,λ u uv os' H17 sd17 Ω Ω Ω ru ng gu su du=>?_⟩
 have k17:Same H12 H17:=λ b o hb=>sd17 b o (zAL hb holn) (k126 b o hb);clear k14 k014 k15 ep hP hkd k16 ekd k146 k126 sd17 eo los ios holn;have tdp:=zK0 t;dsimp only[gName];apply viaS (λ σ' H'=>E2 λ(u:Tr) (uv:V)=>A7 (σ'=[some (.ref a),some (.ref wl),some (.int c1),some (.ref c3),some tv,some (.ref gd),some (.ref kl),s7,s8,s9,some (.ref r),some (.ref ol),some uv,none,none,none]) (Same H12 H') (Rep H' u uv) (ngT u) (u.good (λ x=>x∈ws)) (u.size<=224) (u.dep<=32))
 ·intro rest
  refine⟨_,rfl,a,ns,3,rfl,(k12.trans k17).seq hS,by decide,_,_,rfl,rfl,(show (0:Int)<2 by decide),rfl,_,rfl,ite2 91 (λ Ω=>rest _ _ ⟨u,uv,rfl,k17,ru,ng,gu,by lia,by lia⟩)⟩;refine⟨_,rfl,_,rfl,a,ns,3,rfl,(k12.trans k17).seq hS,by decide,_,_,rfl,rfl,85,_,_,rfl,rfl,⟨by decide,by decide,by decide⟩,_,_,rfl,rfl,(show (0:Int)<10 ^ 40 by decide),_,rfl,u,uv,_,wl,ws,rfl,by lia,ru,ng,gu,k17 _ _ hw,lw,λ u' v' H' k' r' n' g' s' d'=>rest _ _ ⟨u',v',rfl,k17.trans k',r',n',g',by lia,by lia⟩⟩
 clear ru ng gu su du k17;rintro σ' H18 ⟨u,uv,rfl,k18,ru,ng,gu,su,du⟩;refine λ dd hdd=>?_;have k19:=zAC (o:=.dK []) hdd;have edd:=@zAB H18 dd (.dK []);dsimp only[gName];generalize upd H18 dd _=H19 at k19 edd ⊢;refine⟨_,rfl,_,rfl,λ od hod=>?_⟩;have k20:=zAC (o:=.dK []) hod;have eod:=@zAB H19 od (.dK []);have nod:od≠dd:=Ne.symm (zAL edd hod);generalize upd H19 od _=H20 at k20 eod ⊢;have k1820:=k19.trans k20;have k120:=k18.trans k1820;have pok:Pok3 cnt ws (t,u,[]):=⟨lo,List.nodup_nil,(λ p hp=>nomatch hp),ng,gu,(show u.size<=300 by lia),(show 0+t.size<=300 by lia)⟩
 have hc100:∀g,cnt g<=100:=λ g=>mF (hcn g) 66;refine⟨_,rfl,_,rfl,t,u,tv,uv,od,dd,kl,[],[],kvl,[],kds,[],cnt,ws,rfl,st17,rt.mono k120.tk,ru.mono k1820.tk,pok,hc100,by lia,eod,⟨(λ p hp=>nomatch hp),λ x=>rfl,lX _⟩,(by show 0+t.size<=100;lia),k20 _ _ edd,⟨.nil,List.nodup_nil⟩,(by show 0+t.size<=300;lia),(λ q hq=>nomatch hq),nod,k120 _ _ ek2,dk2.mono k120.tk,nk,hkv,λ H21 sd nj=>?_,λ pkv φ H21 sd epk hF lφ hφd jn hiff=>?_⟩
 ·have k21:Same H18 H21:=λ b o hb=>sd b o (zAL hb hdd) (k1820 b o hb)
  have k121:=k18.trans k21;dsimp only[gName];refine⟨_,rfl,_,rfl,r,ka,tv,.ref rn,uv,t,u,kds,cnt,ws,rfl,k121 _ _ er,⟨ob,kvl,k121 _ _ eka,hob,zLF (dk2.mono k121.tk)⟩,by lia,hkv,rt.mono k121.tk,by lia,ru.mono k21.tk,pok,hc100,by lia,gw,(λ j=>absurd j nj),λ Ω H22 k22=>?_⟩;exact⟨_,rfl,false,rfl,iteT ⟨_,rfl,rfl,qf _⟩⟩
 have k21:Same H18 H21:=λ b o hb=>sd b o (zAL hb hdd) (k1820 b o hb);have k121:=k18.trans k21;dsimp only[gName];refine⟨_,rfl,_,rfl,r,ka,tv,.ref rn,uv,t,u,kds,cnt,ws,rfl,k121 _ _ er,⟨ob,kvl,k121 _ _ eka,hob,zLF (dk2.mono k121.tk)⟩,by lia,hkv,rt.mono k121.tk,by lia,ru.mono k21.tk,pok,hc100,by lia,gw,(λ _ fa fkv ψ H22 k22 efa hG hO hI=>?_),λ j=>absurd jn j⟩
 have hm:∀g e,(g,e)∈φ↔(g,e)∈ψ.map duP:=λ g e=>by
  rw[hiff,←hI];constructor
  ·rintro (h|⟨x,hx,h⟩)
   ·exact nomatch h
   ·rw[mO.mp hx] at h;exact h
  ·exact λ h=>.inr ⟨_,lO,h⟩
 have nψ:((ψ.map duP).map (·.1)).Nodup:=by rw[nO];exact hG.nd
 have ln:fkv.length=pkv.length:=by
  rw[zLR hG,zLR hF,zKo hF.nd nψ hm,lC]
 have edd22:=k22 _ _ epk;have hF22:=hF.imp λ Ω Ω z=>DR.mono k22.tk z;have egd22:=k22 _ _ (k121 _ _ egd);dsimp only[gName];refine⟨_,rfl,true,rfl,iteF ?_⟩;refine⟨_,rfl,fa,fkv, "dict", true,rfl,.inl efa,rfl,_,rfl,iteF ?_⟩;refine⟨_,rfl,fa,fkv,rfl,.inl efa,_,rfl,dd,pkv,rfl,.inl edd22,rfl,_,rfl,ite2 77 91⟩
 ·rw[ln] at c
  simp at c
 refine⟨_,rfl,dd,pkv,rfl,.inr ⟨edd22,λ o=>?_⟩⟩;have efz:=@zAB H22 dd (.frz o (.dK pkv));have sdz:SbD dd H22 (upd H22 dd (.frz o (.dK pkv))):=SbD.set _;generalize upd H22 dd _=H23 at efz sdz ⊢;have tkz:=sdz.tk edd22;have ngd:gd≠dd:=zAL (k18 _ _ egd) hdd;have egz:=sdz _ _ ngd egd22
 have rfa:∀H',Same H23 H'->Rd H' fa (.dK fkv):=λ H' k=>by
  by_cases c:fa=dd
  ·subst c
   have:fkv=pkv:=by
    rw[efa] at edd22;cases edd22;rfl
   rw[this];exact .inr ⟨o,k _ _ efz⟩
  ·exact .inl (k _ _ (sdz _ _ c efa))
 refine zHZ (o:=o) (a:=dd) (kvs:=pkv) (λ i σ' H'=>∃(x8:Option V),σ'=[some (.ref a),some (.ref wl),some (.int c1),some (.ref c3),some tv,some (.ref gd),some (.ref kl),s7,x8,s9,some (.ref r),some (.ref ol),some uv,some (.ref dd),some (.bl true),some (.ref fa)]/\Same H23 H') ⟨s8,rfl,.refl _⟩ ?_ ?_ ?_
 ·rintro i σ' H' _ ⟨x8,rfl,g'⟩
  exact g' _ _ efz
 ·rintro i p σ' H' hp ⟨x8,rfl,g'⟩
  obtain⟨⟨gx,e⟩,hq,ek,rd⟩:=zEV hF22.pr hp;have hmem:(gx,e)∈φ:=lK hq;have ekv:kV p.1 = .str gx:=by rw[ek];rfl
  rw[ekv];obtain⟨⟨gx',nu⟩,hψ,eq⟩:=mB.mp ((hm gx e).mp hmem);obtain⟨rfl,ebl⟩:gx'=gx/\blT (kapN nu.1) 0 nu.2=e:=⟨congrArg Prod.fst eq,congrArg Prod.snd eq⟩;obtain⟨v,ev,rv⟩:=zJf hG hψ;obtain⟨v2,ev2,rv2⟩:=zJf hF22 hmem;have fo:=hO _ hψ;have hgk:gx'∈ks:=zMl ((hI gx' e).mpr ((hm gx' e).mp hmem)) gin;have tk':=tkz.trans g'.tk
  have dgd:DGet H' gd (.str gx') (some (.int (nu.1.length:Int))):=by
   have:=DGet.k (k:=Sum.inr gx') (g' _ _ egz);rw[zFF,if_pos hgk,←fo.ln] at this;exact this
  refine⟨_,rfl,fa,rfl,.inl ⟨fkv,rfa H' g'⟩,_,rfl,some v,.inl ⟨fkv,Sum.inr gx',rfa H' g',rfl,ev.symm⟩,_,rfl,_,rfl,gd,_,rfl,dgd,_,rfl,_,rfl,dd,_,rfl,.inl ⟨pkv,Sum.inr gx',.inr ⟨o,g' _ _ efz⟩,rfl,ev2.symm⟩,?_⟩;refine⟨nu.1,nu.2,v,v2,e,rfl,rv.mono tk',fo.nd,?_,fo.gw,fo.ng,zBX gw fo.gd,rv2.mono tk',hφd _ hmem,ebl,λ H5 g5=>⟨true,rfl,iteF ⟨_,rfl,g'.trans g5⟩⟩⟩;rw[fo.ln];exact hc100 gx'
 ·rintro σ' H' _
  exact qf _
theorem zFU {K:W.Frag}{f:Addr}{oc:Value}{od:Option Addr}{fd:FuncData}{sl:Array (Option Value)}(l:K.lookup f=some ⟨oc,od,.func fd,sl⟩):W.keepIn K (.ref f)=true:=by unfold W.keepIn;dsimp only;rw[l]
def DfA (K:W.Frag) (x:Str) (s:Stmt) (f:Addr):Prop:=∃fd,W.nsIn K mainGlobals x=some (some (.ref f))/\Fun K x x s f fd
theorem dfa {K:W.Frag}{x:Str}{st:Stmt}{f:Addr}{oc:Value}{od an:Option Addr}{osl:Array (Option Value)}{kV doc pm cdv ct:Value}(a:W.nsIn K mainGlobals x=some (some (.ref f))) (l:K.lookup f=some ⟨oc,od,.func (W.fnOf x x (zBG st) (zA7 st) (zAM st) .none kV doc pm an cdv ct),osl⟩) (c:W.codeIn K cdv x=true):DfA K x st f:=⟨_,a,zLP l c (zFU l)⟩
theorem DfA.go {K:W.Frag}{x:Str}{s:Stmt}{f:Addr}{h:Heap}{mg:Str->Option Value}(d:DfA K x s f) (X:K.In h) (G:h.Ns mainGlobals mg):∃fd,Fun K x x s f fd/\mg x=some (.ref f):=d.elim λ fd h=>⟨fd,h.2,W.mg_of X G h.1⟩
theorem us1 {p:List Value->Prop}(h:∀a,p [a]):∀us:List Value,us.length=1->p us:=λ us q=>by
 obtain _|⟨a,us⟩:=us
 ·cases q
 obtain _|⟨z,us⟩:=us
 ·exact h a
 ·simp at q
theorem us2 {p:List Value->Prop}(h:∀a b,p [a,b]):∀us:List Value,us.length=2->p us:=λ us q=>by
 obtain _|⟨a,us⟩:=us
 ·cases q
 obtain _|⟨b,us⟩:=us
 ·cases q
 obtain _|⟨z,us⟩:=us
 ·exact h a b
 ·simp at q
theorem us3 {p:List Value->Prop}(h:∀a b c,p [a,b,c]):∀us:List Value,us.length=3->p us:=λ us q=>by
 obtain _|⟨a,us⟩:=us
 ·cases q
 obtain _|⟨b,us⟩:=us
 ·cases q
 obtain _|⟨c,us⟩:=us
 ·cases q
 obtain _|⟨z,us⟩:=us
 ·exact h a b c
 ·simp at q
theorem us4 {p:List Value->Prop}(h:∀a b c d,p [a,b,c,d]):∀us:List Value,us.length=4->p us:=λ us q=>by
 obtain _|⟨a,us⟩:=us
 ·cases q
 obtain _|⟨b,us⟩:=us
 ·cases q
 obtain _|⟨c,us⟩:=us
 ·cases q
 obtain _|⟨d,us⟩:=us
 ·cases q
 obtain _|⟨z,us⟩:=us
 ·exact h a b c d
 ·simp at q
theorem us5 {p:List Value->Prop}(h:∀a b c d e,p [a,b,c,d,e]):∀us:List Value,us.length=5->p us:=λ us q=>by
 obtain _|⟨a,us⟩:=us
 ·cases q
 obtain _|⟨b,us⟩:=us
 ·cases q
 obtain _|⟨c,us⟩:=us
 ·cases q
 obtain _|⟨d,us⟩:=us
 ·cases q
 obtain _|⟨e,us⟩:=us
 ·cases q
 obtain _|⟨z,us⟩:=us
 ·exact h a b c d e
 ·simp at q
theorem ud1:∀{us:List Value},us.length=1->∃a,us=[a]
 |[a],_=>⟨a,rfl⟩
theorem ud2:∀{us:List Value},us.length=2->∃a b,us=[a,b]
 |[a,b],_=>⟨a,b,rfl⟩
theorem ud3:∀{us:List Value},us.length=3->∃a b c,us=[a,b,c]
 |[a,b,c],_=>⟨a,b,c,rfl⟩
theorem all_mk {l:W.OpenLaw}{w:World}{K:W.Frag}{h:Heap}{mg:Str->Option Value}{fa f0 f1 f2 f3 f4 f5 f6 f7 f8 f9 f10 f11 f12 f13 f14 f15 f16 f17 f18 f19 f20 f21 f22 f23 f24 f25 f26 f27 f28 f29 f30 f31 f32 f33 f34 f35 f36 f37 f38 f39 f40 f41 f42 f43 f44 f45 f46 f47 lv_LEAF_SIGNS lv_LOUD_SIGNS lv_KEPT_WORDS:Addr}(X:K.In h) (G:h.Ns mainGlobals mg) (hfa:mg "law" = some (.ref fa))
  {od15 an15:Option Addr}{sl15:Array (Option Value)}{oc15 kV15 dc15 pm15 cd15 ct15:Value}
  {dt15:Addr}{odT15:Option Addr}{slT15:Array (Option Value)}{ocT15:Value}{nT15:Nat}
  {od25 an25:Option Addr}{sl25:Array (Option Value)}{oc25 kV25 dc25 pm25 cd25 ct25:Value}
  {dt25:Addr}{odT25:Option Addr}{slT25:Array (Option Value)}{ocT25:Value}{nT25:Nat}
  {od47 an47:Option Addr}{sl47:Array (Option Value)}{oc47 kV47 dc47 pm47 cd47 ct47:Value}
  {odC0:Option Addr}{slC0:Array (Option Value)}{nC0:Nat}{tC0_0 tC0_1 tC0_2 tC0_3 tC0_4:Tok}
  {odC1:Option Addr}{slC1:Array (Option Value)}{nC1:Nat}{tC1_0 tC1_1 tC1_2:Tok}
  {odC2:Option Addr}{slC2:Array (Option Value)}{nC2:Nat}{tC2_0 tC2_1 tC2_2 tC2_3 tC2_4 tC2_5 tC2_6 tC2_7 tC2_8 tC2_9 tC2_10:Tok}
  {tkL:Tok}
  (a0:DfA K "parts_begin" zCM f0)
  (a1:DfA K "parts" zGa f1)
  (a2:DfA K "all_parts" zDL f2)
  (a3:DfA K "names_at" zDn f3)
  (a4:DfA K "bound_in" zDp f4)
  (a5:DfA K "free_names" zCf f5)
  (a6:DfA K "same_name" zDH f6)
  (a7:DfA K "alike_leaves" zB7 f7)
  (a8:DfA K "alike_atoms" zCS f8)
  (a9:DfA K "alike_heads" zCR f9)
  (a10:DfA K "pairs_in" zCs f10)
  (a11:DfA K "alike" zGb f11)
  (a12:DfA K "word_of" zEQ f12)
  (a13:DfA K "unused_word" zCJ f13)
  (a14:DfA K "words_used" zCb f14)
  (a15:W.nsIn K mainGlobals "is_quiet" = some (some (.ref f15)))
  (l15:K.lookup f15=some ⟨oc15,od15,.func (W.fnOf "is_quiet" "is_quiet" (zBG zAt) (zA7 zAt) (zAM zAt) (.ref dt15) kV15 dc15 pm15 an15 cd15 ct15),sl15⟩) (c15:W.codeIn K cd15 "is_quiet" = true)
  (lT15:K.lookup dt15=some ⟨ocT15,odT15,.seq #[.none] nT15,slT15⟩)
  (a16:DfA K "is_number" zDK f16)
  (a17:DfA K "is_of_kind" zCe f17)
  (a18:DfA K "binder" zFK f18)
  (a19:DfA K "has_no_other_name" zBO f19)
  (a20:DfA K "word_apart" zCc f20)
  (a21:DfA K "piece_names" zCL f21)
  (a22:DfA K "piece_of" zDm f22)
  (a23:DfA K "bound_piece" zCQ f23)
  (a24:DfA K "takes_piece" zCK f24)
  (a25:W.nsIn K mainGlobals "fit" = some (some (.ref f25)))
  (l25:K.lookup f25=some ⟨oc25,od25,.func (W.fnOf "fit" "fit" (zBG s_fit) (zA7 s_fit) (zAM s_fit) (.ref dt25) kV25 dc25 pm25 an25 cd25 ct25),sl25⟩) (c25:W.codeIn K cd25 "fit" = true)
  (lT25:K.lookup dt25=some ⟨ocT25,odT25,.seq #[.none] nT25,slT25⟩)
  (a26:DfA K "_law_cell_at" zCP f26)
  (a27:DfA K "_law_words" zDI f27)
  (a28:DfA K "_law_leaf" zDo f28)
  (a29:DfA K "_law_tree" zCt f29)
  (a30:DfA K "_law_left_leaf" zBv f30)
  (a31:DfA K "_law_left" zCy f31)
  (a32:DfA K "_law_gaps" zC0 f32)
  (a33:DfA K "_law_put" zDV f33)
  (a34:DfA K "_law_made" zCv f34)
  (a35:DfA K "_law_laid" zCz f35)
  (a36:DfA K "_law_many" zCu f36)
  (a37:DfA K "_law_loud" zCw f37)
  (a38:DfA K "_law_bare" zC2 f38)
  (a39:DfA K "_law_lost" zCx f39)
  (a40:DfA K "_law_takes" zDJ f40)
  (a41:DfA K "_law_fits" zC1 f41)
  (a42:DfA K "_law_is_word" zCO f42)
  (a43:DfA K "_law_is_tree" zBn f43)
  (a44:DfA K "_law_piece_told" zBh f44)
  (a45:DfA K "_law_pieces" zCd f45)
  (a46:DfA K "_law_spoiled" zCN f46)
  (a47:W.nsIn K mainGlobals "law" = some (some (.ref f47)))
  (l47:K.lookup f47=some ⟨oc47,od47,.func (W.fnOf "law" "law" (zBG s_law) (zA7 s_law) (zAM s_law) .none kV47 dc47 pm47 an47 cd47 ct47),sl47⟩) (c47:W.codeIn K cd47 "law" = true)
  (aC0:W.nsIn K mainGlobals "LEAF_SIGNS" = some (some (.ref lv_LEAF_SIGNS))) (lC0:K.lookup lv_LEAF_SIGNS=some ⟨.type "tuple", odC0,.seq #[.str "num" tC0_0,.str "name" tC0_1,.str "ask" tC0_2,.str "stop" tC0_3,.str "gap" tC0_4] nC0,slC0⟩)
  (aC1:W.nsIn K mainGlobals "LOUD_SIGNS" = some (some (.ref lv_LOUD_SIGNS))) (lC1:K.lookup lv_LOUD_SIGNS=some ⟨.type "tuple", odC1,.seq #[.str "say" tC1_0,.str "ask" tC1_1,.str "stop" tC1_2] nC1,slC1⟩)
  (aC2:W.nsIn K mainGlobals "KEPT_WORDS" = some (some (.ref lv_KEPT_WORDS))) (lC2:K.lookup lv_KEPT_WORDS=some ⟨.type "tuple", odC2,.seq #[.str "let" tC2_0,.str "in" tC2_1,.str "if" tC2_2,.str "then" tC2_3,.str "else" tC2_4,.str "say" tC2_5,.str "ask" tC2_6,.str "stop" tC2_7,.str "where" tC2_8,.str "quiet" tC2_9,.str "number" tC2_10] nC2,slC2⟩)
  (aLt:W.nsIn K mainGlobals "LETTERS" = some (some (.str "abcdefghijklmnopqrstuvwxyz" tkL)))
  (z_len:W.nsIn K mainGlobals "len" = some none)
  (z_range:W.nsIn K mainGlobals "range" = some none)
  (z_isinstance:W.nsIn K mainGlobals "isinstance" = some none)
  (z_int:W.nsIn K mainGlobals "int" = some none)
  (z_bool:W.nsIn K mainGlobals "bool" = some none)
  (z_str:W.nsIn K mainGlobals "str" = some none)
  (z_tuple:W.nsIn K mainGlobals "tuple" = some none)
  (z_all:W.nsIn K mainGlobals "all" = some none)
  (z_sorted:W.nsIn K mainGlobals "sorted" = some none)
  (z_enumerate:W.nsIn K mainGlobals "enumerate" = some none)
  (z_dict:W.nsIn K mainGlobals "dict" = some none)
  (z_zip:W.nsIn K mainGlobals "zip" = some none)
  (z_reversed:W.nsIn K mainGlobals "reversed" = some none)
  : ∃fd:FuncData,(∀(s:Shared) (v:Value),BindsTo s fd ⟨[v],[]⟩ [("_law_script", v)])/\∀base:Heap,K.In base->base.Ns mainGlobals mg->FnOk l.prog w K mg base CX0 79 fa fd ["_law_script"] (zHE K):=by
 have e:=hfa.symm.trans (W.mg_of X G a47);cases e;have z_len:=W.mg_none_of X G z_len;have z_range:=W.mg_none_of X G z_range;have z_isinstance:=W.mg_none_of X G z_isinstance;have z_int:=W.mg_none_of X G z_int;have z_bool:=W.mg_none_of X G z_bool;have z_str:=W.mg_none_of X G z_str;have z_tuple:=W.mg_none_of X G z_tuple;have z_all:=W.mg_none_of X G z_all;have z_sorted:=W.mg_none_of X G z_sorted;have z_enumerate:=W.mg_none_of X G z_enumerate;have z_dict:=W.mg_none_of X G z_dict;have z_zip:=W.mg_none_of X G z_zip;have z_reversed:=W.mg_none_of X G z_reversed;have zM4:=W.mg_of X G aC0;have h_LEAF_SIGNS:zEn K lv_LEAF_SIGNS:=⟨_,_,_,lC0,rfl,rfl,(by show 5<=sizeLine;decide),(.cons 72 (.cons 72 (.cons 72 (.cons 72 (.cons 72 .nil)))))⟩;have zNI:=W.mg_of X G aC1;have h_LOUD_SIGNS:zGT K lv_LOUD_SIGNS:=⟨_,_,_,lC1,rfl,rfl,(by show 3<=sizeLine;decide),(.cons 72 (.cons 72 (.cons 72 .nil)))⟩;have zNA:=W.mg_of X G aC2;have h_KEPT_WORDS:KeptW K lv_KEPT_WORDS:=⟨_,_,_,lC2,rfl,rfl,(by show 11<=sizeLine;decide),(.cons 72 (.cons 72 (.cons 72 (.cons 72 (.cons 72 (.cons 72 (.cons 72 (.cons 72 (.cons 72 (.cons 72 (.cons 72 .nil)))))))))))⟩;have zM9:mg "LETTERS" = some (.str abcS tkL):=W.mg_of X G aLt;obtain⟨_,F0,m0⟩:=a0.go X G;have b0:=F0.binds (ps:=["tree"]) λ Ω Ω Ω Ω Ω Ω=>us1 λ Ω=>rfl;obtain⟨_,F1,m1⟩:=a1.go X G;have b1:=F1.binds (ps:=["tree"]) λ Ω Ω Ω Ω Ω Ω=>us1 λ Ω=>rfl;obtain⟨_,F2,m2⟩:=a2.go X G;have b2:=F2.binds (ps:=["tree"]) λ Ω Ω Ω Ω Ω Ω=>us1 λ Ω=>rfl;obtain⟨_,F3,m3⟩:=a3.go X G;have b3:=F3.binds (ps:=["part"]) λ Ω Ω Ω Ω Ω Ω=>us1 λ Ω=>rfl;obtain⟨_,F4,m4⟩:=a4.go X G;have b4:=F4.binds (ps:=["part", "number", "bound"]) λ Ω Ω Ω Ω Ω Ω=>us3 λ Ω Ω Ω=>rfl;obtain⟨_,F5,m5⟩:=a5.go X G;have b5:=F5.binds (ps:=["tree"]) λ Ω Ω Ω Ω Ω Ω=>us1 λ Ω=>rfl;obtain⟨_,F6,m6⟩:=a6.go X G;have b6:=F6.binds (ps:=["one", "other", "pairs"]) λ Ω Ω Ω Ω Ω Ω=>us3 λ Ω Ω Ω=>rfl;obtain⟨_,F7,m7⟩:=a7.go X G;have b7:=F7.binds (ps:=["one", "other", "pairs"]) λ Ω Ω Ω Ω Ω Ω=>us3 λ Ω Ω Ω=>rfl;obtain⟨_,F8,m8⟩:=a8.go X G;have b8:=F8.binds (ps:=["one", "other", "pairs"]) λ Ω Ω Ω Ω Ω Ω=>us3 λ Ω Ω Ω=>rfl;obtain⟨_,F9,m9⟩:=a9.go X G;have b9:=F9.binds (ps:=["one", "other", "pairs"]) λ Ω Ω Ω Ω Ω Ω=>us3 λ Ω Ω Ω=>rfl;obtain⟨_,F10,m10⟩:=a10.go X G;have b10:=F10.binds (ps:=["one", "other", "number", "pairs"]) λ Ω Ω Ω Ω Ω Ω=>us4 λ Ω Ω Ω Ω=>rfl;obtain⟨_,F11,m11⟩:=a11.go X G;have b11:=F11.binds (ps:=["one", "other"]) λ Ω Ω Ω Ω Ω Ω=>us2 λ Ω Ω=>rfl;obtain⟨_,F12,m12⟩:=a12.go X G;have b12:=F12.binds (ps:=["number"]) λ Ω Ω Ω Ω Ω Ω=>us1 λ Ω=>rfl;obtain⟨_,F13,m13⟩:=a13.go X G;have b13:=F13.binds (ps:=["used"]) λ Ω Ω Ω Ω Ω Ω=>us1 λ Ω=>rfl;obtain⟨_,F14,m14⟩:=a14.go X G;have b14:=F14.binds (ps:=["tree", "leaves"]) λ Ω Ω Ω Ω Ω Ω=>us2 λ Ω Ω=>rfl;have k15:=zFU l15;have F15:=zJd (st:=zAt) (dvs:=[.none]) l15 c15 k15 lT15 rfl;have b150:Binds K (W.fnOf "is_quiet" "is_quiet" (zBG zAt) (zA7 zAt) (zAM zAt) (.ref dt15) kV15 dc15 pm15 an15 cd15 ct15) ["tree", "kinds"] []:=λ s us X hl=>by obtain⟨a,b,rfl⟩:=ud2 (us:=us) (by simpa using hl);first|exact .of_eq rfl|exact W.binds_K X rfl lT15 rfl rfl rfl
 have b151:Binds K (W.fnOf "is_quiet" "is_quiet" (zBG zAt) (zA7 zAt) (zAM zAt) (.ref dt15) kV15 dc15 pm15 an15 cd15 ct15) ["tree", "kinds"] [.none]:=λ s us X hl=>by obtain⟨a,rfl⟩:=ud1 (us:=us) (by simpa using hl);first|exact .of_eq rfl|exact W.binds_K X rfl lT15 rfl rfl rfl
 have m15:=W.mg_of X G a15;obtain⟨_,F16,m16⟩:=a16.go X G;have b16:=F16.binds (ps:=["tree", "kinds"]) λ Ω Ω Ω Ω Ω Ω=>us2 λ Ω Ω=>rfl;obtain⟨_,F17,m17⟩:=a17.go X G;have b17:=F17.binds (ps:=["tree", "kind", "kinds"]) λ Ω Ω Ω Ω Ω Ω=>us3 λ Ω Ω Ω=>rfl;obtain⟨_,F18,m18⟩:=a18.go X G;have b18:=F18.binds (ps:=["name", "pairs"]) λ Ω Ω Ω Ω Ω Ω=>us2 λ Ω Ω=>rfl;obtain⟨_,F19,m19⟩:=a19.go X G;have b19:=F19.binds (ps:=["tree", "atoms", "pairs"]) λ Ω Ω Ω Ω Ω Ω=>us3 λ Ω Ω Ω=>rfl;obtain⟨_,F20,m20⟩:=a20.go X G;have b20:=F20.binds (ps:=["tree", "names"]) λ Ω Ω Ω Ω Ω Ω=>us2 λ Ω Ω=>rfl;obtain⟨_,F21,m21⟩:=a21.go X G;have b21:=F21.binds (ps:=["tree", "atoms", "pairs"]) λ Ω Ω Ω Ω Ω Ω=>us3 λ Ω Ω Ω=>rfl;obtain⟨_,F22,m22⟩:=a22.go X G;have b22:=F22.binds (ps:=["gap", "tree", "pairs"]) λ Ω Ω Ω Ω Ω Ω=>us3 λ Ω Ω Ω=>rfl;obtain⟨_,F23,m23⟩:=a23.go X G;have b23:=F23.binds (ps:=["piece"]) λ Ω Ω Ω Ω Ω Ω=>us1 λ Ω=>rfl;obtain⟨_,F24,m24⟩:=a24.go X G;have b24:=F24.binds (ps:=["filling", "gap", "piece"]) λ Ω Ω Ω Ω Ω Ω=>us3 λ Ω Ω Ω=>rfl;have k25:=zFU l25;have F25:=zJd (st:=s_fit) (dvs:=[.none]) l25 c25 k25 lT25 rfl;have b250:Binds K (W.fnOf "fit" "fit" (zBG s_fit) (zA7 s_fit) (zAM s_fit) (.ref dt25) kV25 dc25 pm25 an25 cd25 ct25) ["rule", "tree", "kinds"] []:=λ s us X hl=>by obtain⟨a,b,c,rfl⟩:=ud3 (us:=us) (by simpa using hl);first|exact .of_eq rfl|exact W.binds_K X rfl lT25 rfl rfl rfl
 have b251:Binds K (W.fnOf "fit" "fit" (zBG s_fit) (zA7 s_fit) (zAM s_fit) (.ref dt25) kV25 dc25 pm25 an25 cd25 ct25) ["rule", "tree", "kinds"] [.none]:=λ s us X hl=>by obtain⟨a,b,rfl⟩:=ud2 (us:=us) (by simpa using hl);first|exact .of_eq rfl|exact W.binds_K X rfl lT25 rfl rfl rfl
 have m25:=W.mg_of X G a25;obtain⟨_,F26,m26⟩:=a26.go X G;have b26:=F26.binds (ps:=["_law_script", "_law_k"]) λ Ω Ω Ω Ω Ω Ω=>us2 λ Ω Ω=>rfl;obtain⟨_,F27,m27⟩:=a27.go X G;have b27:=F27.binds (ps:=["_law_cell", "_law_many_here"]) λ Ω Ω Ω Ω Ω Ω=>us2 λ Ω Ω=>rfl;obtain⟨_,F28,m28⟩:=a28.go X G;have b28:=F28.binds (ps:=["_law_cell", "_law_words_here", "_law_loud_here"]) λ Ω Ω Ω Ω Ω Ω=>us3 λ Ω Ω Ω=>rfl;obtain⟨_,F29,m29⟩:=a29.go X G;have b29:=F29.binds (ps:=["_law_cells", "_law_words_here", "_law_loud_here"]) λ Ω Ω Ω Ω Ω Ω=>us3 λ Ω Ω Ω=>rfl;obtain⟨_,F30,m30⟩:=a30.go X G;have b30:=F30.binds (ps:=["_law_cell", "_law_words_here", "_law_bound", "_law_counts"]) λ Ω Ω Ω Ω Ω Ω=>us4 λ Ω Ω Ω Ω=>rfl;obtain⟨_,F31,m31⟩:=a31.go X G;have b31:=F31.binds (ps:=["_law_cells", "_law_words_here", "_law_bound", "_law_pool", "_law_counts"]) λ Ω Ω Ω Ω Ω Ω=>us5 λ Ω Ω Ω Ω Ω=>rfl;obtain⟨_,F32,m32⟩:=a32.go X G;have b32:=F32.binds (ps:=["_law_shape", "_law_found"]) λ Ω Ω Ω Ω Ω Ω=>us2 λ Ω Ω=>rfl;obtain⟨_,F33,m33⟩:=a33.go X G;have b33:=F33.binds (ps:=["_law_tree_here", "_law_put_here"]) λ Ω Ω Ω Ω Ω Ω=>us2 λ Ω Ω=>rfl;obtain⟨_,F34,m34⟩:=a34.go X G;have b34:=F34.binds (ps:=["_law_shape", "_law_pieces_here", "_law_known", "_law_others"]) λ Ω Ω Ω Ω Ω Ω=>us4 λ Ω Ω Ω Ω=>rfl;obtain⟨_,F35,m35⟩:=a35.go X G;have b35:=F35.binds (ps:=["_law_tree_here", "_law_at", "_law_other"]) λ Ω Ω Ω Ω Ω Ω=>us3 λ Ω Ω Ω=>rfl;obtain⟨_,F36,m36⟩:=a36.go X G;have b36:=F36.binds (ps:=["_law_tree_here"]) λ Ω Ω Ω Ω Ω Ω=>us1 λ Ω=>rfl;obtain⟨_,F37,m37⟩:=a37.go X G;have b37:=F37.binds (ps:=["_law_tree_here"]) λ Ω Ω Ω Ω Ω Ω=>us1 λ Ω=>rfl;obtain⟨_,F38,m38⟩:=a38.go X G;have b38:=F38.binds (ps:=["_law_tree_here", "_law_known", "_law_deep"]) λ Ω Ω Ω Ω Ω Ω=>us3 λ Ω Ω Ω=>rfl;obtain⟨_,F39,m39⟩:=a39.go X G;have b39:=F39.binds (ps:=["_law_tree_here"]) λ Ω Ω Ω Ω Ω Ω=>us1 λ Ω=>rfl;obtain⟨_,F40,m40⟩:=a40.go X G;have b40:=F40.binds (ps:=["_law_gap", "_law_tree_here", "_law_opened", "_law_pieces_here", "_law_kinds"]) λ Ω Ω Ω Ω Ω Ω=>us5 λ Ω Ω Ω Ω Ω=>rfl;obtain⟨_,F41,m41⟩:=a41.go X G;have b41:=F41.binds (ps:=["_law_left_here", "_law_tree_here", "_law_opened", "_law_pieces_here", "_law_kinds"]) λ Ω Ω Ω Ω Ω Ω=>us5 λ Ω Ω Ω Ω Ω=>rfl;obtain⟨_,F42,m42⟩:=a42.go X G;have b42:=F42.binds (ps:=["_law_word"]) λ Ω Ω Ω Ω Ω Ω=>us1 λ Ω=>rfl;obtain⟨_,F43,m43⟩:=a43.go X G;have b43:=F43.binds (ps:=["_law_tree_here"]) λ Ω Ω Ω Ω Ω Ω=>us1 λ Ω=>rfl;obtain⟨_,F44,m44⟩:=a44.go X G;have b44:=F44.binds (ps:=["_law_piece", "_law_many_here", "_law_due"]) λ Ω Ω Ω Ω Ω Ω=>us3 λ Ω Ω Ω=>rfl;obtain⟨_,F45,m45⟩:=a45.go X G;have b45:=F45.binds (ps:=["_law_script", "_law_words_here", "_law_gaps_here", "_law_kinds"]) λ Ω Ω Ω Ω Ω Ω=>us4 λ Ω Ω Ω Ω=>rfl;obtain⟨_,F46,m46⟩:=a46.go X G;have b46:=F46.binds (ps:=["_law_tree_here", "_law_cell", "_law_words_here"]) λ Ω Ω Ω Ω Ω Ω=>us3 λ Ω Ω Ω=>rfl;have k47:=zFU l47;have F47:=zLP (st:=s_law) l47 c47 k47;have b47:=F47.binds (ps:=["_law_script"]) λ Ω Ω Ω Ω Ω Ω=>us1 λ Ω=>rfl;have m47:=W.mg_of X G a47;refine⟨W.fnOf "law" "law" (zBG s_law) (zA7 s_law) (zAM s_law) .none kV47 dc47 pm47 an47 cd47 ct47,λ s v=>.of_eq rfl,λ base Ω Ω=>?_⟩;have G0:FnB l.prog w K mg base 1 "parts_begin" f0 _ _ _:=⟨zEt (k:=0) F0 z_len zM4 h_LEAF_SIGNS,b0,F0.kp,m0⟩;have G1:FnB l.prog w K mg base 2 "parts" f1 _ _ _:=⟨zKW F1 (G0.up (k:=1) 66),b1,F1.kp,m1⟩;have G3:FnB l.prog w K mg base 1 "names_at" f3 _ _ _:=⟨zGh (k:=0) F3,b3,F3.kp,m3⟩;have G4:FnB l.prog w K mg base 1 "bound_in" f4 _ _ _:=⟨zGi (k:=0) F4,b4,F4.kp,m4⟩;have G5:FnB l.prog w K mg base 3 "free_names" f5 _ _ _:=⟨zFR F5 z_sorted z_enumerate (G1.up (k:=2) 66) (G3.up (k:=2) 66) (G4.up (k:=2) 66),b5,F5.kp,m5⟩;have G2:FnB l.prog w K mg base 3 "all_parts" f2 _ _ _:=⟨zMk F2 (G1.up (k:=2) 66),b2,F2.kp,m2⟩;have G12:FnB l.prog w K mg base 1 "word_of" f12 _ _ _:=⟨zH1 (k:=0) F12 zM9,b12,F12.kp,m12⟩;have G13:FnB l.prog w K mg base 2 "unused_word" f13 _ _ _:=⟨zIw F13 zNA h_KEPT_WORDS (G12.up (k:=1) 66),b13,F13.kp,m13⟩;have G14:FnB l.prog w K mg base 4 "words_used" f14 _ _ _:=⟨zFQ F14 (G2.up (k:=3) 66) (G3.up (k:=3) 66),b14,F14.kp,m14⟩;have G6:FnB l.prog w K mg base 1 "same_name" f6 _ _ _:=⟨zF1 (k:=0) F6 z_reversed,b6,F6.kp,m6⟩;have G7:FnB l.prog w K mg base 2 "alike_leaves" f7 _ _ _:=⟨zEX F7 (G6.up (k:=1) 66),b7,F7.kp,m7⟩;have G8:FnB l.prog w K mg base 3 "alike_atoms" f8 _ _ _:=⟨zEv F8 z_len z_all z_zip (G7.up (k:=2) 66),b8,F8.kp,m8⟩;have G9:FnB l.prog w K mg base 4 "alike_heads" f9 _ _ _:=⟨zEu F9 zM4 h_LEAF_SIGNS (G8.up (k:=3) 66) (G7.up (k:=3) 66),b9,F9.kp,m9⟩;have G10:FnB l.prog w K mg base 1 "pairs_in" f10 _ _ _:=⟨zGg (k:=0) F10,b10,F10.kp,m10⟩;have G11:FnB l.prog w K mg base 5 "alike" f11 _ _ _:=⟨zKf F11 z_enumerate z_zip (G9.up (k:=4) 66) (G1.up (k:=4) 66) (G10.up (k:=4) 66),b11,F11.kp,m11⟩;have G15:FnD1 l.prog w K mg base 4 "is_quiet" f15 _ _ _:=⟨zKV F15 z_dict zNI h_LOUD_SIGNS (G2.up (k:=3) 66),b150,b151,k15,m15⟩;have G16:FnB l.prog w K mg base 1 "is_number" f16 _ _ _:=⟨zKe (k:=0) F16,b16,F16.kp,m16⟩;have G17:FnB l.prog w K mg base 5 "is_of_kind" f17 _ _ _:=⟨zIz F17 (G16.up (k:=4) 66) (G15.up (k:=4) 66),b17,F17.kp,m17⟩;have G18:FnB l.prog w K mg base 1 "binder" f18 _ _ _:=⟨zI3 (k:=0) F18 z_reversed,b18,F18.kp,m18⟩;have G19:FnB l.prog w K mg base 4 "has_no_other_name" f19 _ _ _:=⟨zMi F19 z_all (G18.up (k:=3) 66) (G5.up (k:=3) 66),b19,F19.kp,m19⟩;have G20:FnB l.prog w K mg base 5 "word_apart" f20 _ _ _:=⟨zIv F20 (G13.up (k:=4) 66) (G14.up (k:=4) 66),b20,F20.kp,m20⟩;have G21:FnB l.prog w K mg base 6 "piece_names" f21 _ _ _:=⟨zIx F21 z_dict z_enumerate z_tuple (G18.up (k:=5) 66) (G20.up (k:=5) 66),b21,F21.kp,m21⟩;have G22:FnB l.prog w K mg base 7 "piece_of" f22 _ _ _:=⟨zMf F22 (G19.up (k:=6) 66) (G21.up (k:=6) 66),b22,F22.kp,m22⟩;have G23:FnB l.prog w K mg base 1 "bound_piece" f23 _ _ _:=⟨zI2 (k:=0) F23,b23,F23.kp,m23⟩;have G24:FnB l.prog w K mg base 6 "takes_piece" f24 _ _ _:=⟨zKT F24 (G11.up (k:=5) 66) (G23.up (k:=5) 66),b24,F24.kp,m24⟩;have G10:FnB l.prog w K mg base 1 "pairs_in" f10 _ _ _:=⟨zIy (k:=0) F10,b10,F10.kp,m10⟩;have G25:FnD1 l.prog w K mg base 8 "fit" f25 _ _ _:=⟨zMj F25 z_dict z_enumerate z_zip (G17.up (k:=7) 66) (G22.up (k:=7) 66) (G24.up (k:=7) 66) (G9.up (k:=7) 66) (G1.up (k:=7) 66) (G10.up (k:=7) 66),b250,b251,k25,m25⟩;have G26:FnB l.prog w K mg base 1 "_law_cell_at" f26 _ _ _:=⟨zH3 (k:=0) F26 z_len,b26,F26.kp,m26⟩;have G27:FnB l.prog w K mg base 1 "_law_words" f27 _ _ _:=⟨zKS (k:=0) F27 z_range,b27,F27.kp,m27⟩;have G28:FnB l.prog w K mg base 1 "_law_leaf" f28 _ _ _:=⟨zKb (k:=0) F28 z_len,b28,F28.kp,m28⟩;have G29:=zGO (P:=l.prog) (w:=w) (base:=base) (k:=1) F29 b29 m29 z_len (G28.up (k:=1) 66) 7;have G30:FnB l.prog w K mg base 1 "_law_left_leaf" f30 _ _ _:=⟨zLy (k:=0) F30 z_len z_range z_tuple,b30,F30.kp,m30⟩;have G31:=zHn (P:=l.prog) (w:=w) (base:=base) (k:=1) F31 b31 m31 z_len z_int (G30.up (k:=1) 66) 9;have G33:=zHl (P:=l.prog) (w:=w) (base:=base) (k:=0) F33 b33 m33 z_isinstance z_tuple 13;have G36:=zGP (P:=l.prog) (w:=w) (base:=base) (k:=0) F36 b36 m36 z_isinstance z_tuple 30;have G35:=zHo (P:=l.prog) (w:=w) (base:=base) (k:=0) F35 b35 m35 z_isinstance z_tuple 30;have G46:FnB l.prog w K mg base 31 "_law_spoiled" f46 _ _ _:=⟨zKU F46 (G35.up (k:=30) 66) (G36.up (k:=30) 66),b46,F46.kp,m46⟩;have G32:=zGR (P:=l.prog) (w:=w) (base:=base) (k:=0) F32 b32 m32 z_isinstance z_tuple z_len 17;have G34:=zHk (P:=l.prog) (w:=w) (base:=base) (k:=13) F34 b34 m34 z_isinstance z_tuple z_zip z_dict (G33.up (k:=13) 66) 17;have G37:=zGQ (P:=l.prog) (w:=w) (base:=base) (k:=0) F37 b37 m37 z_isinstance z_tuple 60;have G39:=zHm (P:=l.prog) (w:=w) (base:=base) (k:=0) F39 b39 m39 z_isinstance z_tuple 60;have G38:=zFe (P:=l.prog) (w:=w) (base:=base) (k:=0) F38 b38 m38 z_isinstance z_tuple z_dict 60;have G40:FnB l.prog w K mg base 61 "_law_takes" f40 _ _ _:=⟨zMg F40 (G38.up (k:=60) 66) (G39.up (k:=60) 66) (G37.up (k:=60) 66),b40,F40.kp,m40⟩;have G41:=zGS (P:=l.prog) (w:=w) (base:=base) (k:=61) F41 b41 m41 z_isinstance z_tuple z_dict z_zip (λ n=>(G40.up (k:=61) 66).up (Nat.le_add_right 61 n)) 17;have G42:FnB l.prog w K mg base 1 "_law_is_word" f42 _ _ _:=⟨zI0 (k:=0) F42 z_isinstance z_str z_len,b42,F42.kp,m42⟩;have G43:=zFE (P:=l.prog) (w:=w) (base:=base) (k:=1) F43 b43 m43 z_isinstance z_str z_len z_tuple z_int z_bool (G42.up (k:=1) 66) 62;have G38:=zFe (P:=l.prog) (w:=w) (base:=base) (k:=0) F38 b38 m38 z_isinstance z_tuple z_dict 62;have G44:FnB l.prog w K mg base 64 "_law_piece_told" f44 _ _ _:=⟨zKY F44 z_isinstance z_tuple z_len z_enumerate (G38.up (k:=63) 66) (G43.up (k:=63) 66) (G42.up (k:=63) 66),b44,F44.kp,m44⟩;have G45:FnB l.prog w K mg base 9 "_law_pieces" f45 _ _ _:=⟨zH2 F45 z_len z_enumerate z_sorted z_tuple (G26.up (k:=8) 66) (G29.up (k:=8) 66),b45,F45.kp,m45⟩;exact zMh F47 z_len z_enumerate z_sorted z_tuple z_range z_isinstance z_dict (G27.up (k:=78) 66) (G26.up (k:=78) 66) (G31.up (k:=78) 66) (G32.up (k:=78) 66) (G34.up (k:=78) 66) (G45.up (k:=78) 66) (G46.up (k:=78) 66) (G41.up (k:=78) 66) (G25.up (k:=78) 66) (G44.up (k:=78) 66)
theorem walk {l:W.OpenLaw}{q:Program}{loose:List Str}{XP:(Str->Option Value)->Heap->Prop}{YP:World->Heap->Prop}{d:DefRec}{K:Params->W.Frag}(hn:l.most=some 63) (hdf:d.params.defaults=[])
  (hY:∀(w:World) (h:Heap),YP w h->(K w.params).In h)
  (F:∀(w:World) (mg:Str->Option Value) (fa:Addr) (h:Heap),(K w.params).In h->h.Ns mainGlobals mg->mg d.name=some (.ref fa) ->
   ∃fd:FuncData,(∀(s:Shared) (u:Value),BindsTo s fd ⟨[u],[]⟩ [("_law_script", u)])/\∀base:Heap,(K w.params).In base->base.Ns mainGlobals mg->FnOk l.prog w (K w.params) mg base CX0 79 fa fd ["_law_script"] (zHE (K w.params))) :
  W.WalkO q loose XP YP l.row.toRowW d [] (λ f vs=>PySem.call f vs) :=
 L2.walk_of (n:=63) (k:=79) (x := "_law_script") (CX:=λ Ω=>CX0) (sp:=λ w=>zHE (K w.params)) hn 66 hdf ⟨rfl,by decide,by decide⟩ hY F (λ Ω Ω a ns hl Ω hS=>⟨a,ns,rfl,hS,λ Ω=>rfl⟩) λ Ω Ω Ω Ω Ω z=>z
end
end K13
namespace PySem.W.Fast
def tw5445197763451886385:Unit:=()
def tw16950552968491194761:Unit:=()
def tw5834756556878848844:Unit:=()
def tw5305097731257487979:Unit:=()
def tw998251075574685864:Unit:=()
def tw12782607839710449605:Unit:=()
def tw13485876137406913234:Unit:=()
def tw3864623055765285117:Unit:=()
def tw4676224577364375815:Unit:=()
def tw13623922544952586767:Unit:=()
def tw13137572339874672444:Unit:=()
def tw8346278722005558344:Unit:=()
def tw7458195975539158778:Unit:=()
def tw16840452532949788671:Unit:=()
def tw9662788182172213534:Unit:=()
def tw2759772121120218953:Unit:=()
def tw5517965299953249798:Unit:=()
def tw13616449662493730703:Unit:=()
def tw11013966429190275174:Unit:=()
def tw5801803723652246289:Unit:=()
def tw15306272740427171397:Unit:=()
def tw2042313780785469142:Unit:=()
def tw4318630933826350533:Unit:=()
def tw15164439787839074215:Unit:=()
def tw6577422091269945246:Unit:=()
def tw5835713105890791996:Unit:=()
def tw985629241992302850:Unit:=()
def tw15141083446075469779:Unit:=()
def tw3303247754469894056:Unit:=()
def tw13539890807064806810:Unit:=()
def tw16938207540176564724:Unit:=()
def tw16673520691201535478:Unit:=()
def tw8946630959417637349:Unit:=()
def tw9141396463112737201:Unit:=()
def tw13222867576046990343:Unit:=()
def tw13979389068546794782:Unit:=()
def tw5531536446853475940:Unit:=()
def tw16737436246604440299:Unit:=()
def tw15418275264175761589:Unit:=()
def tw10176036474196710572:Unit:=()
def tw16254129588197915215:Unit:=()
def tw12090625743075047514:Unit:=()
def tw102471881113429031:Unit:=()
def tw16189943440458724468:Unit:=()
def tw2044485265691684610:Unit:=()
def tw1036305648584653697:Unit:=()
def tw13345942975877715901:Unit:=()
def tw9257351611191462317:Unit:=()
def tw11963990499050383661:Unit:=()
def tw5114989278590638254:Unit:=()
def tw11245618909387271784:Unit:=()
def tw2656574794503673709:Unit:=()
def tw16854741419323671912:Unit:=()
def tw6552313534661762158:Unit:=()
def tw11051372909192430281:Unit:=()
def tw16821029672044776360:Unit:=()
def tw13888247436379696326:Unit:=()
def tw4004885792548854411:Unit:=()
def tw11322861085080433846:Unit:=()
def tw13868973874316882407:Unit:=()
def tw12280806129377084309:Unit:=()
def tw9561445182364957871:Unit:=()
def tw8054337007843364743:Unit:=()
def tw2950844948092650594:Unit:=()
def tw13376894926915104527:Unit:=()
def tw8293413449506047924:Unit:=()
def tw11893147987965658818:Unit:=()
def tw17185469931836452877:Unit:=()
def tw7657599457775926368:Unit:=()
def tw14558177950083738726:Unit:=()
def tw17532302633183097230:Unit:=()
def tw13642743749595622642:Unit:=()
def tw11324803037168098110:Unit:=()
def tw5628179438092131383:Unit:=()
def tw15666390411230980033:Unit:=()
def tw9376542051826723774:Unit:=()
def tw2544989130301992658:Unit:=()
def tw16481961052948418810:Unit:=()
def tw14826705417270597465:Unit:=()
def tw8302052375344283909:Unit:=()
def tw17915776118949198832:Unit:=()
def tw16528856868506759397:Unit:=()
def tw3465506988841359258:Unit:=()
def tw8776056180317978840:Unit:=()
def tw18122932052498811451:Unit:=()
def tw16240149188090253806:Unit:=()
def tw4748067391763428385:Unit:=()
def tw7867412455659126705:Unit:=()
def tw18056695524139730065:Unit:=()
def tw15373493798188987053:Unit:=()
def tw4674622897095230041:Unit:=()
def tw9337553341143216436:Unit:=()
def tw11060009410525978625:Unit:=()
def tw763544516369706411:Unit:=()
def tw17312530466638470532:Unit:=()
def tw5646871295601284281:Unit:=()
end PySem.W.Fast
open PySem PySem.W PyProof.Rows K13
set_option maxRecDepth 100000 in
set_option maxHeartbeats 0 in
theorem PySem.Challenge.cw_recastle_k13_fit_by_a_walk_holds : PySem.Challenge.rw_recastle_k13_fit_by_a_walk.Holds := by
 w_on;o_law;k_head;(case hw=>w_witness2)
 k_fill
 refine K13.walk (l:=PySem.Challenge.rw_recastle_k13_fit_by_a_walk) rfl rfl (λ w h Y=>W.kIn_of Y) ?F
 case F =>
  intro w mg fa h KX G hmg
  refine' K13.all_mk KX G hmg 76 76 76 76 76 76 76 76 76 76 76 76 76 76 76 ?a15 ?l15 ?c15 ?lT15 76 76 76 76 76 76 76 76 76 ?a25 ?l25 ?c25 ?lT25 76 76 76 76 76 76 76 76 76 76 76 76 76 76 76 76 76 76 76 76 76 ?a47 ?l47 ?c47 ?aC0 ?lC0 ?aC1 ?lC1 ?aC2 ?lC2 ?aLt ?z_len ?z_range ?z_isinstance ?z_int ?z_bool ?z_str ?z_tuple ?z_all ?z_sorted ?z_enumerate ?z_dict ?z_zip ?z_reversed
  all_goals try k_is
#print axioms PySem.Challenge.cw_recastle_k13_fit_by_a_walk_holds