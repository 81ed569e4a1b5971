import PyProof.Rows.All
import Wide.All
import OpenK.AllK
import Wide.FinOn
import Lean
import PyProof.EqAt
import PyProof.EqKinds
import PyProof.TupleCall
import PyProof.NeKinds
import PyProof.AttrMissHeap
import KE.KDictOf
import KE.KDictLaws
import KE.KSortTup
import PyProof.Rows.SortWalk
import PyProof.Rows.SortShellK
import PySem.Challenge.RW_recastle_k26_refused_to_turn
local macro_rules|`(tactic|symm)=>`(tactic|decide +kernel)
abbrev XQ:=PySem.Value->PySem.Shared->Prop
abbrev lC:=@List.length_map
abbrev mD:=@List.size_toArray
abbrev mI:=@List.getElem?_map
abbrev mK:=@List.length_append
abbrev mL:=@List.map_cons
abbrev mP:=@List.length_cons
abbrev mQ:=@List.length_take
abbrev mR:=@List.take_length
abbrev mU:=@List.map_append
abbrev mX:=@List.mem_singleton
abbrev mZ:=@List.getElem?_append_left
abbrev nA:=@List.getElem?_append_right
abbrev nB:=@List.take_of_length_le
abbrev nC:=@List.length_drop
abbrev nE:=@List.append_assoc
abbrev nG:=@List.not_mem_nil
abbrev nP:=@Array.getElem?_toList
abbrev nU:=@List.mem_cons
abbrev nV:=@List.getElem?_eq_getElem
abbrev nX:=@List.append_nil
abbrev nY:=@List.map_map
abbrev rF:=@List.reverse_append
abbrev rJ:=@Int.emod_nonneg
abbrev rK:=@Int.emod_lt_of_pos
abbrev rL:=@List.nodup_cons
abbrev rO:=@List.flatMap_cons
abbrev rP:=@List.getElem?_set_self
abbrev rT:=@PyProof.Rows.boot_isinstance
abbrev rV:=@PyProof.Rows.boot_dict
abbrev rZ:=@PySem.F.plainAttrs_list
abbrev tE:=@PySem.F.plainAttrs_dict
abbrev tH:=@PySem.F.slot_list_extend
abbrev tI:=@PySem.F.type_list_extend
abbrev lA:=@PySem.wpAny_bind
abbrev lB:=@PySem.wpAny_pure
abbrev lD:=@PySem.wpAny_holding
abbrev lE:=@PySem.Heap.get?_push_of_some
abbrev lG:=@PySem.Heap.get?_push_size
abbrev lH:=@PySem.Heap.lt_size
abbrev lI:=@List.getElem?_eq_some_iff
abbrev lJ:=@List.mem_append
abbrev lK:=@List.mem_of_getElem?
abbrev lN:=@List.mem_cons
abbrev lP:=@List.mem_cons_self
abbrev lQ:=@List.mem_cons_of_mem
abbrev lR:=@Nat.le_refl
abbrev lS:=@Nat.ne_of_lt
abbrev lT:=@of_decide_eq_true
abbrev lU:=@decide_eq_true
abbrev lV:=@Option.map_eq_some_iff
abbrev lW:=@List.getElem?_eq_getElem
abbrev lX:=@Bool.false_ne_true
abbrev lY:=@Nat.zero_le
abbrev lZ:=@Nat.lt_of_lt_of_le
abbrev mB:=@List.mem_append_right
abbrev mC:=@List.mem_map
abbrev mE:=@Option.some.inj
abbrev mG:=@List.mem_append_left
abbrev mH:=@Nat.le_trans
abbrev mJ:=@PySem.Heap.get?_update_self
set_option hygiene false
local macro_rules|`(31)=>`(by lia)|`(33)=>`(pS (i:=6) zAG.nd (zA7 (zAI (r:=rIsiX K) zAM (by rfl) z_isinstance rT (zAA (pv 5) (zAA (zAN (v:=.ref _) (by rfl) zMe (by rfl)) zAB))) (zAg (zAI (r:=rIsiX K) zAM (by rfl) z_isinstance rT (zAA (pv 5) (zAA (zA2 (v:=.ty _) (by rfl) z_ValueError zA9 (by rfl)) zAB))))))|`(37)=>`(by dsimp only;lia)|`(38)=>`(λ cdv A outer s H vs Q E hr h=>?_)|`(39)=>`(by rfl)|`(41)=>`(by simp)|`(42)=>`(wpS_mono (wpS_forRange (I:=λ i (c:Option (Option Nat) × Nat) st2=>st2=setArr st arr2/\c.1=none/\c.2=i/\1<=c.2/\c.2<=nrem/\SegO R arr2 lo (lo+c.2)) (Q:=λ c st2=>st2=setArr st arr2/\c.1=none/\1<=c.2/\c.2<=nrem/\SegO R arr2 lo (lo+c.2)/\(c.2<nrem->R (arr2.getD (lo+c.2) d0) (arr2.getD (lo+c.2 - 1) d0)=true)) ?_ ?_ ⟨rfl,rfl,rfl,37,37,sg2⟩) ?_)|`(43)=>`(⟨_,rfl⟩)|`(44)=>`(pS (i:=6) zAG.nd (zA7 (zAI (r:=rIsiG K) zAZ 39 z_isinstance rT (zAA (pv 5) (zAA (zAN (v:=.ref _) 39 zMe 39) zAB))) (zAg (zAI (r:=rIsiG K) zAZ 39 z_isinstance rT (zAA (pv 5) (zAA (zA2 (v:=.ty _) 39 z_ValueError zA9 39) zAB))))))|`(45)=>`(model prog w)|`(46)=>`(by decide)|`(48)=>`(model X.prog X.w)|`(49)=>`(zAH (pS (i:=4) zAG.nd (zAc (zAA zAQ (zAA zFA (zAA (pv 6) (zAA (pe_or (zAI (r:=rIsiX K) zAM 39 z_isinstance rT (zAA (pv 5) (zAA (zAN (v:=.ref _) 39 zMh 39) zAB))) (zAg (zAI (r:=rIsiX K) zAM 39 z_isinstance rT (zAA (pv 5) (zAA (zAN (v:=.ref _) 39 zMd 39) zAB))))) zAB)))):PE _ _ _)))|`(52)=>`(zAH (pS (i:=4) zAG.nd (zAc (zAA zAQ (zAA zAE (zAA (pv 6) (zAA (pe_or (zAI (r:=rIsiX K) zAM 39 z_isinstance rT (zAA (pv 5) (zAA (zAN (v:=.ref _) 39 zMh 39) zAB))) (zAg (zAI (r:=rIsiX K) zAM 39 z_isinstance rT (zAA (pv 5) (zAA (zAN (v:=.ref _) 39 zMf 39) zAB))))) zAB)))):PE _ _ _)))|`(53)=>`(zAH (pS (i:=4) zAG.nd (zAc (zAA zAQ (zAA zAE (zAA (pv 6) (zAA (pe_or (zAI (r:=rIsiX K) zAM 39 z_isinstance rT (zAA (pv 5) (zAA (zAN (v:=.ref _) 39 zMf 39) zAB))) (zAg (zAI (r:=rIsiX K) zAM 39 z_isinstance rT (zAA (pv 5) (zAA (zAN (v:=.ref _) 39 zMd 39) zAB))))) zAB)))):PE _ _ _)))|`(54)=>`(Addr × Obj)|`(55)=>`(λ vs H Q E h=>?_)|`(60)=>`(zA1 L (left:=true) (f:=λ i=>b.getD (kb+1+i) d0) hk (m.ga_at 31) (λ i hi=>zAS 31) (λ i hi=>m.gb_at 31) 31 (zCz L (m.ga_at 31) (λ i hi=>m.gb_at 31) (λ i j hij hj=>m.b_le L 31 31)) λ k1 hk1n hk11 hk12=>?_)|`(61)=>`(zA1 L (left:=true) (f:=λ i=>b.getD (0+i) d0) hk (m.ga_at 31) (λ i hi=>zAS 31) (λ i hi=>m.gb_at 31) 31 (zCz L (m.ga_at 31) (λ i hi=>m.gb_at 31) (λ i j hij hj=>m.b_le L 31 31)) λ k1 hk1n hk11 hk12=>?_)|`(65)=>`(⟨by decide,by decide⟩)|`(66)=>`(zAH (zAs (zA7 (pe_cl zMM hr (zAA (iC (r:=rIxT K) zA4 (pv 0)) (zAA (zAN (v:=.int 9) 39 zMK 43) zAB))) (zAg (zAI (zDw rfl) 39 z_all PyProof.Rows.boot_all (zAA (zCX ["times"] [none] rfl (zGM (zBB (r:=rSlT K) zE5 (pv 0) (zBM zAE) zBN)) (λ Ω Ω Ω Ω Ω=>(zBz (i:=0) (show List.Nodup (["times"]:List Str) by symm) rfl (Or.inl rfl))) (λ Ω Ω Ω Ω Ω=>zDe) (λ Ω Ω Ω Ω Ω=>(pe_cl zMM hr (zAA (pv 0) (zAA (zAN (v:=.int 3) 39 zML 43) zAB)))) rfl) zAB))))))|`(68)=>`((∀σ' H',N σ' H'->∃m',m'<m/\W (i+1) m' σ' H'))|`(69)=>`(⟨43,.inr ⟨rfl,hm5,37,37,37,37,by dsimp only;lia⟩⟩)|`(78)=>`(x == ("__debug__" : Str))|`(80)=>`(⟨43,.inl ⟨_,rfl,hm5.done (.inl (eq_of_beq e5))⟩⟩)
local macro_rules|`(82)=>`(zBh zMp.ok hr 39 zMp.gl zMp.kp zMp.bd .nil pass0 (pa_nS ⟨pv 0⟩ (zAU ⟨zAE⟩ ⟨zAB⟩)))|`(83)=>`(λ q=>hc (by simp[q]))|`(84)=>`(.dK kvs)|`(90)=>`(pv 1)|`(97)=>`(Key × V)
set_option Elab.async false
set_option tactic.hygienic false
set_option linter.all false
set_option maxRecDepth 100000
set_option maxHeartbeats 4000000
namespace L2
inductive A3(a b c:Prop):Prop
 |mk:a->b->c->A3 a b c
inductive A4(a b c d:Prop):Prop
 |mk:a->b->c->d->A4 a b c d
inductive A5(a b c d e:Prop):Prop
 |mk:a->b->c->d->e->A5 a b c d e
inductive A6(a b c d e f:Prop):Prop
 |mk:a->b->c->d->e->f->A6 a b c d e f
inductive A7(a b c d e f g:Prop):Prop
 |mk:a->b->c->d->e->f->g->A7 a b c d e f g
inductive A8(a b c d e f g h:Prop):Prop
 |mk:a->b->c->d->e->f->g->h->A8 a b c d e f g h
inductive A9(a b c d e f g h i:Prop):Prop
 |mk:a->b->c->d->e->f->g->h->i->A9 a b c d e f g h i
inductive A11(a b c d e f g h i j k:Prop):Prop
 |mk:a->b->c->d->e->f->g->h->i->j->k->A11 a b c d e f g h i j k
inductive A13(a b c d e f g h i j k l m:Prop):Prop
 |mk:a->b->c->d->e->f->g->h->i->j->k->l->m->A13 a b c d e f g h i j k l m
inductive E2{a b:Type}(p:a->b->Prop):Prop
 |mk:∀A B,p A B->E2 p
inductive E3{a b c:Type}(p:a->b->c->Prop):Prop
 |mk:∀A B C,p A B C->E3 p
inductive E4{a b c d:Type}(p:a->b->c->d->Prop):Prop
 |mk:∀A B C D,p A B C D->E4 p
inductive E5{a b c d e:Type}(p:a->b->c->d->e->Prop):Prop
 |mk:∀A B C D E,p A B C D E->E5 p
inductive E6{a b c d e f:Type}(p:a->b->c->d->e->f->Prop):Prop
 |mk:∀A B C D E F,p A B C D E F->E6 p
inductive E7{a b c d e f g:Type}(p:a->b->c->d->e->f->g->Prop):Prop
 |mk:∀A B C D E F G,p A B C D E F G->E7 p
inductive E8{a b c d e f g h:Type}(p:a->b->c->d->e->f->g->h->Prop):Prop
 |mk:∀A B C D E F G H,p A B C D E F G H->E8 p
inductive E9{a b c d e f g h i:Type}(p:a->b->c->d->e->f->g->h->i->Prop):Prop
 |mk:∀A B C D E F G H I,p A B C D E F G H I->E9 p
inductive E10{a b c d e f g h i j:Type}(p:a->b->c->d->e->f->g->h->i->j->Prop):Prop
 |mk:∀A B C D E F G H I J,p A B C D E F G H I J->E10 p
open PySem PySem.Spec PyProof.Rows
abbrev Key:=Sum Int Str
noncomputable def keyIs:Key->Value->Bool
 |.inl k,v=>Value.isInt k v
 |.inr x,v=>Value.isStrOf x v
noncomputable def keyH (w:World):Key->Int
 |.inl k=>hashInt k
 |.inr x=>hashStr w x
theorem zA3:∀{k:Key}{v:Value},keyIs k v=true->(∃i t,k=Sum.inl i/\v=Value.int i t)\/(∃x t,k=Sum.inr x/\v=Value.str x t)
 |.inl i,v,h=>by
  obtain⟨t,e⟩:=Value.isInt_shape (k:=i) (v:=v) h;exact .inl ⟨i,t,rfl,e⟩
 |.inr x,v,h=>by
  obtain⟨t,e⟩:=Value.isStrOf_shape (x:=x) (v:=v) h;exact .inr ⟨x,t,rfl,e⟩
theorem zDo (i:Int) (t:Tok):keyIs (.inl i) (.int i t)=true:=by simp[keyIs,Value.isInt]
theorem zDn (x:Str) (t:Tok):keyIs (.inr x) (.str x t)=true:=by simp[keyIs,Value.isStrOf]
theorem zL4 (a b:Int):decide ((Sum.inl a:Key)=Sum.inl b)=(a == b):=by
 by_cases e:a=b
 ·subst e;simp
 ·have h:¬(Sum.inl a:Key)=Sum.inl b:=λ q=>e (Sum.inl.inj q)
  rw[decide_eq_false h];exact(beq_eq_false_iff_ne.mpr e).symm
theorem zL1 (a b:Str):decide ((Sum.inr a:Key)=Sum.inr b)=decide (a=b):=by
 by_cases e:a=b
 ·subst e;simp
 ·have h:¬(Sum.inr a:Key)=Sum.inr b:=λ q=>e (Sum.inr.inj q)
  rw[decide_eq_false h,decide_eq_false e]
theorem zL3 (a:Int) (b:Str):decide ((Sum.inl a:Key)=Sum.inr b)=false:=decide_eq_false (λ q=>nomatch q)
theorem zL2 (a:Str) (b:Int):decide ((Sum.inr a:Key)=Sum.inl b)=false:=decide_eq_false (λ q=>nomatch q)
noncomputable def zAn (prog:Program) (w:World):PySem.KeyKind prog w Key where
 is:=keyIs
 hash:=keyH w
 inj:=λ v a b ha hb=>by
  rcases zA3 ha with ⟨i,t,rfl,rfl⟩|⟨x,t,rfl,rfl⟩
  ·rcases zA3 hb with ⟨j,u,rfl,e⟩|⟨y,u,rfl,e⟩
   ·injection e with e1 _;rw[e1]
   ·exact nomatch e
  ·rcases zA3 hb with ⟨j,u,rfl,e⟩|⟨y,u,rfl,e⟩
   ·exact nomatch e
   ·injection e with e1 _;rw[e1]
 byValue:=λ k v h=>by
  rcases zA3 h with ⟨i,t,rfl,rfl⟩|⟨x,t,rfl,rfl⟩<;>rfl
 pyHash:=λ hv h=>by
  rcases zA3 hv with ⟨i,t,rfl,rfl⟩|⟨x,t,rfl,rfl⟩
  ·exact wpAny_pyHash_int h
  ·exact wpAny_pyHash_str h
 eqBool:=λ hu hv h=>by
  rcases zA3 hu with ⟨i,t,rfl,rfl⟩|⟨x,t,rfl,rfl⟩
  ·rcases zA3 hv with ⟨j,u,rfl,rfl⟩|⟨y,u,rfl,rfl⟩
   ·rw[zL4] at h;exact wpAny_eqBool_int h
   ·rw[zL3] at h;exact SeqAt.EqAt.int_str i t y u _ _ _ _ h
  ·rcases zA3 hv with ⟨j,u,rfl,rfl⟩|⟨y,u,rfl,rfl⟩
   ·rw[zL2] at h;exact SeqAt.EqAt.str_int x t j u _ _ _ _ h
   ·rw[zL1] at h;exact wpAny_eqBool_str h
 «strs»:=λ k x t v h=>by
  rcases zA3 h with ⟨i,u,rfl,e⟩|⟨y,u,rfl,e⟩
  ·exact nomatch e
  ·injection e with e1 _
   subst e1;cases v<;>rfl
theorem zFn (prog:Program) (w:World) (i:Int) (t:Tok):(zAn prog w).is (.inl i) (.int i t)=true:=zDo i t
theorem zFm (prog:Program) (w:World) (x:Str) (t:Tok):(zAn prog w).is (.inr x) (.str x t)=true:=zDn x t
inductive V where
 |non|bl (b:Bool)|int (i:Int)|str (x:Str)|byt (b:Array UInt8)|flt (b:UInt64)|ref (a:Addr)|ty (n:String)
 deriving DecidableEq
def RelV:V->Value->Prop
 |.non,u=>u=Value.none
 |.bl b,u=>u=Value.bool b
 |.int i,u=>∃t,u=Value.int i t
 |.str x,u=>∃t,u=Value.str x t
 |.byt b,u=>∃t,u=Value.bytes b t
 |.flt b,u=>∃t,u=Value.float b t
 |.ref a,u=>u=Value.ref a
 |.ty n,u=>u=Value.type n
abbrev Vals:List V->List Value->Prop:=Paired RelV
theorem Vals.length {xs:List V}{us:List Value}(r:Vals xs us):xs.length=us.length:=Paired.length r
theorem Vals.get {xs:List V}{us:List Value}{i:Nat}{x:V}(h:Vals xs us):xs[i]?=some x->∃u,us[i]?=some u/\RelV x u:=by
 induction h generalizing i with
 |nil=>exact λ e=>nomatch e
 |cons h t ih=>cases i with
  |zero=>exact λ e=>⟨_,rfl,by cases e;exact h⟩
  |succ i=>exact λ e=>ih (i:=i) (by simpa using e)
theorem Vals.set {x:V}{u:Value}(r:RelV x u):∀{xs:List V}{us:List Value}(i:Nat),Vals xs us->Vals (xs.set i x) (us.set i u)
 |_,_,_,.nil=>.nil
 |_,_,0,.cons _ t=>.cons r t
 |_,_,i+1,.cons q t=>.cons q (Vals.set r i t)
theorem Vals.append {xs ys:List V}{us ws:List Value}(h:Vals xs us) (s:Vals ys ws):Vals (xs++ys) (us++ws):=by
 induction h with
 |nil=>exact s
 |cons r t ih=>exact .cons r ih
theorem Vals.take:∀{xs:List V}{us:List Value}(n:Nat),Vals xs us->Vals (xs.take n) (us.take n)
 |_,_,0,_=>.nil
 |_,_,_+1,.nil=>.nil
 |_,_,n+1,.cons r t=>.cons r (Vals.take n t)
theorem Vals.drop:∀{xs:List V}{us:List Value}(n:Nat),Vals xs us->Vals (xs.drop n) (us.drop n)
 |_,_,0,r=>r
 |_,_,_+1,.nil=>.nil
 |_,_,n+1,.cons _ t=>Vals.drop n t
def RelO:Option V->Option Value->Prop
 |some v,some u=>RelV v u
 |none,none=>True
 |_,_=>False
def KV {κ:Type}:List (κ × V)->List (κ × Value)->Prop:=Paired λ(p:κ × V) (q:κ × Value)=>p.1=q.1/\RelV p.2 q.2
noncomputable def kV:Key->V
 |.inl i=>.int i
 |.inr x=>.str x
inductive HO where
 |lst (xs:List V)
 |tup (xs:List V)
 |dK (kvs:List (Key × V))|dT (kvs:List (List Key × V))
 |set (S:Int->Bool) (n:Nat)
 |ins (C dx:Addr) (fs:List (Str × V))
 |own (x:Addr)
 |xd (fs:List (Str × V))
 |met (f x:Addr)
 |rng (lo hi:Int)
 |frz (o:Obj) (u:HO)
 |tbl (ps:Array Value)
 |ext (φ:Heap->Prop)
abbrev Hp:=Addr->Option HO
noncomputable def upd (H:Hp) (a:Addr) (o:HO):Hp:=λ b=>if b=a then some o else H b
theorem zAC {H:Hp}{a:Addr}{o:HO}:upd H a o a=some o:=by unfold upd;rw[if_pos rfl]
theorem zAO {H:Hp}{a b:Addr}{o:HO}(h:b≠a):upd H a o b=H b:=by unfold upd;rw[if_neg h]
theorem ne_of {H:Hp}{a b:Addr}{o u:HO}(h:H a=some o) (h':H b=some u) (d:o≠u):a≠b:=by
 intro e;subst e;rw[h] at h';exact d (mE h')
theorem zAR {H:Hp}{a b:Addr}{o:HO}(h:H a=some o) (h':H b=none):a≠b:=by
 intro e;subst e;rw[h] at h';cases h'
section
variable (P:Program) (w:World)
def ObjOk (H:Hp) (h:Heap) (a:Addr):HO->Prop
 |.lst xs=>xs.length<=sizeLine/\∃(its:List Value) (n:Nat),Vals xs its/\h.get? a=some { cls:=.type "list", data:=.seq its.toArray n }
 |.tup xs=>xs.length<=sizeLine/\∃its:List Value,Vals xs its/\IsTup h a its.toArray
 |.dK kvs=>kvs.length<=sizeLine/\(a == sysModules)=false/\∃vs,KV kvs vs/\h.DictOf (zAn P w) a vs
 |.dT kvs=>kvs.length<=sizeLine/\(a == sysModules)=false/\∃xs:List (List Key × Addr × Value),
   Paired (λ(p:List Key × V) (q:List Key × Addr × Value)=>p.1=q.1/\H q.2.1=some (.tup (p.1.map kV))/\RelV p.2 q.2.2) kvs xs /\
   ∃o es ep,h.get? a=some o/\o.ExactDict/\o.data = .dict es ep/\es.toList=xs.map (entryOfKey (tupleKind (zAn P w)))/\(xs.map (·.1)).Nodup
 |.set S n=>h.SetOf (intKind P w) a S n
 |.ins C dx fs=>H dx=some (.own a)/\fs.length<=1000/\dx≠a/\h.get? a=some (W.instObj C dx) /\
   ∃mA,h.Ns1 dx mA/\(∀f,RelO (fs.lookup f) (mA f))/\PySem.Within mA (fs.map (·.1))
 |.own _=>∃o,h.get? a=some o
 |.xd fs=>∃mA,h.Ns1 a mA/\∀f,RelO (fs.lookup f) (mA f)
 |.rng lo hi=>∃t u v,h.get? a=some { cls:=.type "range", data:=.fields #[.int lo t,.int hi u,.int 1 v] }
 |.frz o u=>h.get? a=some o/\ObjOk H h a u
 |.tbl ps=>h.get? a=some { cls:=.none,data:=.fields ps }
 |.met f x=>h.get? a=some (W.methodObj (.ref f) (.ref x))
 |.ext φ=>φ h/\(∃o,h.get? a=some o)/\∀h1 h2:Heap,φ h1->(∀o,h1.get? a=some o->h2.get? a=some o)->φ h2
def HOk (H:Hp) (h:Heap):Prop:=∀a o,H a=some o->ObjOk P w H h a o
end
section
variable {P:Program}{w:World}{H H':Hp}{h h':Heap}{a:Addr}{o:HO}
theorem ObjOk.lt (x:ObjOk P w H h a o):a<h.objs.size:=by
 cases o with
 |lst xs=>obtain⟨_,_,_,_,e⟩:=x;exact lH e
 |tup xs=>obtain⟨_,_,_,p⟩:=x;exact p.lt
 |dK kvs=>obtain⟨_,_,_,_,o,_,_,e,_⟩:=x;exact lH e
 |dT kvs=>obtain⟨_,_,_,_,o,_,_,e,_⟩:=x;exact lH e
 |set S n=>obtain⟨o,_,_,_,e,_⟩:=x;exact lH e
 |ins C dx fs=>obtain⟨_,_,_,e,_⟩:=x;exact lH e
 |own y=>obtain⟨_,e⟩:=x;exact lH e
 |xd fs=>obtain⟨_,⟨_,_,_,e,_⟩,_⟩:=x;exact lH e
 |rng lo hi=>obtain⟨_,_,_,e⟩:=x;exact lH e
 |frz ob u=>obtain⟨e,_⟩:=x;exact lH e
 |tbl ps=>exact lH (show h.get? a=some _ from x)
 |met f y=>exact lH (show h.get? a=some _ from x)
 |ext φ=>obtain⟨_,⟨_,e⟩,_⟩:=x;exact lH e
theorem Paired.mapP {α β:Type}{F G:α->β->Prop}{l₁:List α}{l₂:List β}(h:Paired F l₁ l₂) (f:∀a b,F a b->G a b):Paired G l₁ l₂:=by
 induction h with
 |nil=>exact .nil
 |cons r t ih=>exact .cons (f _ _ r) ih
theorem ObjOk.stay (x:ObjOk P w H h a o) (k:∀b u,(b=a\/H b=some (.own a))->h.get? b=some u->h'.get? b=some u)
  (ho:∀b,H b=some (.own a)->H' b=some (.own a)) (ht:∀b xs,H b=some (.tup xs)->H' b=some (.tup xs)):ObjOk P w H' h' a o:=by
 induction o with
 |lst xs=>obtain⟨z,its,n,r,e⟩:=x;exact⟨z,its,n,r,k _ _ (.inl rfl) e⟩
 |tup xs=>obtain⟨z,its,r,ob,e,c⟩:=x;exact⟨z,its,r,ob,k _ _ (.inl rfl) e,c⟩
 |dK kvs=>obtain⟨z,y,vs,r,ob,es,ep,e,c⟩:=x;exact⟨z,y,vs,r,ob,es,ep,k _ _ (.inl rfl) e,c⟩
 |dT kvs =>
  obtain⟨z,y,xs,r,ob,es,ep,e,c⟩:=x;exact⟨z,y,xs,Paired.mapP r λ p q z=>⟨z.1,ht _ _ z.2.1,z.2.2⟩,ob,es,ep,k _ _ (.inl rfl) e,c⟩
 |set S n=>obtain⟨ob,es,ep,t,e,c⟩:=x;exact⟨ob,es,ep,t,k _ _ (.inl rfl) e,c⟩
 |ins C dx fs =>
  obtain⟨d,z,ne,e,mA,⟨od,es,ep,e2,c⟩,r⟩:=x;exact⟨ho _ d,z,ne,k _ _ (.inl rfl) e,mA,⟨od,es,ep,k _ _ (.inr d) e2,c⟩,r⟩
 |own y=>obtain⟨ob,e⟩:=x;exact⟨ob,k _ _ (.inl rfl) e⟩
 |xd fs=>obtain⟨mA,⟨od,es,ep,e,c⟩,r⟩:=x;exact⟨mA,⟨od,es,ep,k _ _ (.inl rfl) e,c⟩,r⟩
 |rng lo hi=>obtain⟨t,u,v,e⟩:=x;exact⟨t,u,v,k _ _ (.inl rfl) e⟩
 |frz ob u ih=>obtain⟨e,q⟩:=x;exact⟨k _ _ (.inl rfl) e,ih q⟩
 |tbl ps =>
  have e:h.get? a=some { cls:=.none,data:=.fields ps }:=x;show h'.get? a=some { cls:=.none,data:=.fields ps };exact k a _ (.inl rfl) e
 |met f y =>
  have e:h.get? a=some (W.methodObj (.ref f) (.ref y)):=x;show h'.get? a=some (W.methodObj (.ref f) (.ref y));exact k a _ (.inl rfl) e
 |ext φ=>obtain⟨p,⟨o,e⟩,st⟩:=x;exact⟨st _ _ p λ o q=>k _ _ (.inl rfl) q,⟨o,k _ _ (.inl rfl) e⟩,st⟩
theorem HOk.lt (x:HOk P w H h) (e:H a=some o):a<h.objs.size:=(x a o e).lt
theorem HOk.fresh (x:HOk P w H h) (e:h.objs.size<=a):H a=none:=by
 cases q:H a with
 |none=>rfl
 |some u=>exact absurd (lZ (x.lt q) e) (Nat.lt_irrefl _)
theorem HOk.kept (x:HOk P w H h) (k:∀b u,h.get? b=some u->h'.get? b=some u):HOk P w H h':=λ a o e =>
 (x a o e).stay (λ b u Ω q=>k b u q) (λ Ω q=>q) λ Ω Ω q=>q
theorem HOk.laid (x:HOk P w H h) (k:∀b u,h.get? b=some u->h'.get? b=some u) (hp:h.objs.size<=a) (new:ObjOk P w (upd H a o) h' a o):HOk P w (upd H a o) h':=λ b u e=>by
 have hn:=x.fresh hp
 by_cases hb:b=a
 ·subst hb;rw[zAC] at e;cases e;exact new
 ·rw[zAO hb] at e
  exact(x b u e).stay (λ c v Ω q=>k c v q) (λ c q=>by rw[zAO (zAR q hn)];exact q) λ c xs q=>by rw[zAO (zAR q hn)];exact q
end
def Rd (H:Hp) (a:Addr) (u:HO):Prop:=H a=some u\/∃o,H a=some (.frz o u)
theorem Rd.ok {P:Program}{w:World}{H:Hp}{h:Heap}{a:Addr}{u:HO}(r:Rd H a u) (x:HOk P w H h):ObjOk P w H h a u:=by
 rcases r with r|⟨o,r⟩
 ·exact x a u r
 ·obtain⟨_,q⟩:=x a _ r
  exact q
def Mut:Option HO->Prop
 |some (.lst _)=>True
 |some (.dK _)=>True
 |some (.dT _)=>True
 |some (.set _ _)=>True
 |some (.ins _ _ _)=>True
 |some (.ext _)=>True
 |_=>False
section
variable {P:Program}{w:World}{H:Hp}{h h':Heap}{x e:Addr}{o':HO}
theorem HOk.write (ok:HOk P w H h) (mu:Mut (H x)) (he:e=x\/H e=some (.own x)) (k:∀b u,b≠e->h.get? b=some u->h'.get? b=some u) (heo:∃u,h'.get? e=some u)
  (new:ObjOk P w (upd H x o') h' x o'):HOk P w (upd H x o') h':=λ b u q=>by
 have nown:∀c y,H c=some (.own y)->c≠x:=λ c y r z=>by subst z;rw[r] at mu;exact mu
 have ntup:∀c xs,H c=some (.tup xs)->c≠x:=λ c xs r z=>by subst z;rw[r] at mu;exact mu
 by_cases hb:b=x
 ·subst hb;rw[zAC] at q;cases q;exact new
 ·rw[zAO hb] at q
  by_cases hbe:b=e
  ·have q':H b=some (.own x):=by
    rcases he with z|z
    ·exact absurd (hbe.trans z) hb
    ·rw[hbe];exact z
   rw[q] at q';cases q';obtain⟨v,hv⟩:=heo;exact⟨v,by rw[hbe];exact hv⟩
  ·refine(ok b u q).stay (λ c v hc r=>k c v ?_ r) (λ c r=>by rw[zAO (nown c b r)];exact r) λ c xs r=>by rw[zAO (ntup c xs r)];exact r
   rcases hc with rfl|hc
   ·exact hbe
   ·rintro rfl
    rcases he with z|z
    ·exact nown c b hc z
    ·rw[hc] at z;cases z;exact hb rfl
end
structure Un (fs ex:List Addr) (H H':Hp) (h h':Heap):Prop where
 keep:∀b o,h.get? b=some o->H b=none->b∉fs->b∉ex->h'.get? b=some o
 slot:∀b o,h.get? b=some o->H b=none->b∈fs->b∉ex->∃sl,h'.get? b=some { o with slots:=sl }
 free:∀b o,h.get? b=some o->H b=none->b∉ex->H' b=none
 there:∀b o,h.get? b=some o->b∉ex->∃o',h'.get? b=some o'
 tups:∀b xs,H b=some (.tup xs)->H' b=some (.tup xs)
 frzs:∀b o u,H b=some (.frz o u)->H' b=some (.frz o u)
 tbls:∀b ps,H b=some (.tbl ps)->∃more,H' b=some (.tbl (ps++more))
section
variable {fs fs' ex ex':List Addr}{H H1 H2:Hp}{h h1 h2 h':Heap}{a x e:Addr}{o:HO}
theorem Un.any (u:Un fs ex H H1 h h1) {b:Addr}{ob:Obj}(q:h.get? b=some ob) (n:H b=none) (hx:b∉ex):∃sl,h1.get? b=some { ob with slots:=sl }:=by
 by_cases hb:b∈fs
 ·exact u.slot b ob q n hb hx
 ·exact⟨ob.slots,u.keep b ob q n hb hx⟩
theorem Un.kept (k:∀b u,h.get? b=some u->h'.get? b=some u):Un fs ex H H h h' :=
 ⟨λ b ob q Ω Ω Ω=>k b ob q,λ b ob q Ω Ω Ω=>⟨ob.slots,k b ob q⟩,λ Ω Ω Ω n Ω=>n,λ b ob q Ω=>⟨ob,k b ob q⟩,λ Ω Ω q=>q,λ Ω Ω Ω q=>q,λ Ω ps q=>⟨#[],by rw[q];simp⟩⟩
theorem Un.refl:Un fs ex H H h h:=Un.kept λ Ω Ω q=>q
theorem Un.laid (k:∀b u,h.get? b=some u->h'.get? b=some u) (hp:h.objs.size<=a) (hn:H a=none):Un fs ex H (upd H a o) h h' where
 keep:=λ b u q Ω Ω Ω=>k b u q
 slot:=λ b u q Ω Ω Ω=>⟨u.slots,k b u q⟩
 free:=λ b u q n Ω=>by rw[zAO (Nat.ne_of_lt (Nat.lt_of_lt_of_le (Heap.lt_size q) hp))];exact n
 there:=λ b u q Ω=>⟨u,k b u q⟩
 tups:=λ b xs q=>by rw[zAO (zAR q hn)];exact q
 frzs:=λ b u xs q=>by rw[zAO (zAR q hn)];exact q
 tbls:=λ b ps q=>⟨#[],by rw[zAO (zAR q hn),q];simp⟩
theorem Un.write (mu:Mut (H x)) (he:e=x\/H e=some (.own x)) (k:∀b u,b≠e->h.get? b=some u->h'.get? b=some u) (heo:∃u,h'.get? e=some u):Un fs ex H (upd H x o) h h':=by
 have hx:∀b,H b=none->b≠x:=λ b n z=>by subst z;rw[n] at mu;exact mu
 have hb:∀b,H b=none->b≠e:=λ b n z=>by
  subst z;rcases he with r|r
  ·exact hx b n r
  ·rw[n] at r;cases r
 have hm:∀b u,H b=some u->¬Mut (some u)->b≠x:=λ b u q nm z=>by subst z;rw[q] at mu;exact nm mu
 refine⟨λ b u q n Ω Ω=>k b u (hb b n) q,λ b u q n Ω Ω=>⟨u.slots,k b u (hb b n) q⟩,λ b u q n Ω=>by rw[zAO (hx b n)];exact n,λ b u q Ω=>?_,
  λ b xs q=>by rw[zAO (hm b _ q λ z=>z)];exact q,λ b u xs q=>by rw[zAO (hm b _ q λ z=>z)];exact q,λ b ps q=>⟨#[],by rw[zAO (hm b _ q λ z=>z),q];simp⟩⟩
 by_cases hbe:b=e
 ·subst hbe;exact heo
 ·exact⟨u,k b u hbe q⟩
end
noncomputable def trk (h:Heap) (H:Hp):List Addr:=(List.range h.objs.size).filter λ a=>(H a).isSome
noncomputable def hidT (h:Heap) (H:Hp):Heap:=W.hideAll h (trk h H)
theorem zIB (h:Heap) (H:Hp):(hidT h H).objs.size=h.objs.size:=W.hideAll_size _ _
theorem zJS {h:Heap}{H:Hp}{b:Addr}{o:Obj}(e:h.get? b=some o) (n:H b=none):(hidT h H).get? b=some o :=
 W.hideAll_get _ e λ hm=>by
  have q:(H b).isSome=true:=(List.mem_filter.mp hm).2;rw[n] at q;simp at q
theorem zKl {h:Heap}{H:Hp}{b:Addr}{o:Obj}(e:(hidT h H).get? b=some o):h.get? b=some o/\H b=none:=by
 have e':h.get? b=some o:=W.of_hideAll (trk h H) e;refine⟨e',?_⟩;cases q:H b with
 |none=>rfl
 |some x =>
  have hm:b∈trk h H:=List.mem_filter.mpr ⟨List.mem_range.mpr (lH e'),by simp[q]⟩;have z:(hidT h H).get? b=none:=W.hideAll_none (trk h H) hm;rw[z] at e;cases e
noncomputable def zK1 (g h:Heap) (L:Addr):List 54:=(List.range h.objs.size).filterMap λ a=>if a=L\/(g.get? a).isSome=true then none else (h.get? a).map λ o=>(a,o)
noncomputable def rest (g h:Heap) (L d:Addr):List 54:=(zK1 g h L).filter λ p=>decide (p.1≠d)
structure Mod (K:W.Frag) (mg:Str->Option Value) (base:Heap):Prop where
 kin:K.In base
 glob:base.Ns mainGlobals mg
 blt:∃mb,base.Ns builtinsNs mb/\∀x:Str,x ≠ "__name__" -> mb x=bootBuiltins x
 nolimit:base.NoLimit
structure Cx where
 prog:Program
 w:World
 K:W.Frag
 mg:Str->Option Value
 base:Heap
 A:Around
 N:List Str
 s₀:Shared
 H₀:Hp
 env:Env
 outer:List Env
 stack:List Env
 ex:List Addr
 fn:Str->Bool
 calm:Bool
 pn:List 54
 xe:Value->Shared->Prop
def frs (l:List Env):List Addr:=l.filterMap (·.frame)
abbrev Cx.fs (X:Cx):List Addr:=frs X.outer
def Vis (sc:Scope) (x:Str):Prop:=sc.names.lookup x=some .local\/sc.names.lookup x=some .cell\/sc.names.lookup x=some .free
def Loc (sc:Scope) (x:Str):Prop:=sc.names.lookup x=some .local\/sc.names.lookup x=some .cell
def Look (env:Env) (h:Heap) (m:Str->Option Value) (x:Str) (u:Value):Prop :=
 (env.kindOf x=some .local/\m x=some u)\/((env.kindOf x=some .cell\/env.kindOf x=some .free)/\∃c,env.cells.lookup x=some c/\h.IsCell c (some u))
structure Cx.Ok (X:Cx):Prop where
 mod:Mod X.K X.mg X.base
 kind:X.env.scope.kind = .function
 glob:X.env.globals=mainGlobals
 blt:X.env.builtins=builtinsNs
 above:X.s₀.heap.objs.size<=X.env.locals
 inj:∀x y c,X.env.cells.lookup x=some c->X.env.cells.lookup y=some c->x=y
 has:∀x,(X.env.kindOf x=some .cell\/X.env.kindOf x=some .free)->∃c,X.env.cells.lookup x=some c
 cab:∀x c,X.fn x=true->X.env.cells.lookup x=some c->X.s₀.heap.objs.size<=c
 hd:X.calm=true->X.A.handled=none
 frames:X.A.frames=some X.stack
 stk:X.stack=X.outer\/(X.stack=X.env::X.outer/\X.env.frame=some X.env.locals)
 exf:∀b∈X.ex,b≠X.env.locals/\∀x c,X.env.cells.lookup x=some c->c≠b
 bs:∀b o,X.base.get? b=some o->X.s₀.heap.get? b=some o/\X.H₀ b=none
 bsz:X.base.objs.size<=X.s₀.heap.objs.size
 noex:∀b o,X.base.get? b=some o->b∉X.ex
 exfs:∀b∈X.ex,b∉X.fs
 funs:X.s₀.heap.FunFrames X.base X.outer
 frf:∀b∈X.fs,X.H₀ b=none
structure Inv (X:Cx) (jP:List (Addr × Obj)) (σ:List (Option V)) (H:Hp) (s:Shared):Prop where
 ok:X.Ok
 os:s.os=X.s₀.os
 bare:AllBare s.gens
 base:Un X.fs X.ex X.H₀ H X.s₀.heap s.heap
 loc:∃m,s.heap.Ns X.env.locals m/\∀(i:Nat) (x:Str) (v:V),X.N[i]?=some x->σ[i]?=some (some v)->Vis X.env.scope x->∃u,RelV v u/\Look X.env s.heap m x u
 cell:∀x c,X.env.cells.lookup x=some c->∃v,s.heap.IsCell c v
 free:H X.env.locals=none
 freeC:∀x c,X.env.cells.lookup x=some c->H c=none
 pin:∀p∈X.pn++jP,s.heap.get? p.1=some p.2/\H p.1=none/\p.1≠X.env.locals/\p.1∉X.fs/\∀v,p.2.data ≠ .cell v
 hok:HOk X.prog X.w H s.heap
 len:σ.length=X.N.length
section
variable {X:Cx}{jP:List (Addr × Obj)}{σ:List (Option V)}{H H':Hp}{s:Shared}{h':Heap}
theorem Cx.Ok.nofr (ok:X.Ok) {b:Addr}{o:Obj}(e:X.base.get? b=some o):b∉X.fs:=λ hb=>by
 have:=(ok.funs.mem hb).1;rw[e] at this;cases this
theorem Inv.bs (I:Inv X jP σ H s):∀b o,X.base.get? b=some o->s.heap.get? b=some o/\H b=none:=λ b o e =>
 ⟨I.base.keep b o (I.ok.bs b o e).1 (I.ok.bs b o e).2 (I.ok.nofr e) (I.ok.noex b o e),I.base.free b o (I.ok.bs b o e).1 (I.ok.bs b o e).2 (I.ok.noex b o e)⟩
theorem Inv.bk (I:Inv X jP σ H s):∀b o,X.base.get? b=some o->s.heap.get? b=some o:=λ b o e=>(I.bs b o e).1
theorem Inv.mod (I:Inv X jP σ H s):Mod X.K X.mg X.base:=I.ok.mod
theorem Inv.kIn (I:Inv X jP σ H s):X.K.In s.heap:=I.ok.mod.kin.keeps I.bk
theorem Inv.lt (I:Inv X jP σ H s):X.env.locals<s.heap.objs.size:=let ⟨_,hn,_⟩:=I.loc;hn.lt
theorem Inv.sz (I:Inv X jP σ H s):X.s₀.heap.objs.size<=s.heap.objs.size:=mH I.ok.above (Nat.le_of_lt I.lt)
theorem Inv.nofs (I:Inv X jP σ H s) {a:Addr}(h:s.heap.objs.size<=a):a∉X.fs:=λ hb=>by
 obtain⟨_,o,ho,_⟩:=I.ok.funs.mem hb;exact absurd (lZ (lH ho) (mH I.sz h)) (Nat.lt_irrefl _)
theorem Inv.cne (I:Inv X jP σ H s):∀x c,X.env.cells.lookup x=some c->c≠X.env.locals:=λ x c e z=>by
 obtain⟨v,o,ho,hd⟩:=I.cell x c e;obtain⟨m,⟨o',es,ep,ho',hd',_⟩,_⟩:=I.loc;rw[z,ho'] at ho;cases ho;rw[hd'] at hd;cases hd
theorem Inv.funs (I:Inv X jP σ H s):s.heap.FunFrames X.base X.outer:=by
 have all:∀(l:List Env),(∀b∈frs l,b∈X.fs)->X.s₀.heap.FunFrames X.base l->s.heap.FunFrames X.base l:=by
  intro l
  induction l with
  |nil=>intro _ _;trivial
  |cons env r ih =>
   intro hs hl;obtain⟨hk,⟨L,o,hf,hn,ho,hd⟩,hr⟩:=hl;have hL:L∈X.fs:=hs L (by unfold frs;rw[List.filterMap_cons,hf];exact lP);obtain⟨sl,e⟩:=I.base.slot L o ho (I.ok.frf L hL) hL λ z=>I.ok.exfs L z hL;exact⟨hk,⟨L,_,hf,hn,e,hd⟩,ih (λ b hb=>hs b (by unfold frs;rw[List.filterMap_cons,hf];exact lQ _ hb)) hr⟩
 exact all X.outer (λ Ω hb=>hb) I.ok.funs
theorem Inv.stack (I:Inv X jP σ H s):s.heap.FunFrames X.base X.stack:=by
 rcases I.ok.stk with e|⟨e,hf⟩
 ·rw[e];exact I.funs
 ·rw[e]
  obtain⟨m,hn,_⟩:=I.loc;refine .cons (by rw[I.ok.kind];decide) hf hn ?_ I.funs;exact Heap.get?_none_of_le (mH I.ok.bsz I.ok.above)
theorem Inv.stkSub (I:Inv X jP σ H s):∀b∈frs X.stack,b∈X.env.locals::X.fs:=λ b hb=>by
 rcases I.ok.stk with e|⟨e,hf⟩
 ·rw[e] at hb;exact lQ _ hb
 ·rw[e] at hb
  unfold frs at hb;rw[List.filterMap_cons,hf] at hb;exact hb
theorem Inv.stkFree (I:Inv X jP σ H s):∀b∈frs X.stack,H b=none:=λ b hb=>by
 rcases lN.mp (I.stkSub b hb) with e|hb
 ·rw[e];exact I.free
 ·obtain⟨_,o,ho,_⟩:=I.ok.funs.mem hb
  exact I.base.free b o ho (I.ok.frf b hb) λ z=>I.ok.exfs b z hb
theorem Inv.step {g':Array GenState}{t':Nat}{d':Drawn}{ch:List Addr}(I:Inv X jP σ H s)
  (hch:∀b∈ch,(b∈X.ex\/X.s₀.heap.objs.size<=b)/\b≠X.env.locals/\(∀x c,X.env.cells.lookup x=some c->c≠b)/\∀p∈X.pn++jP,p.1≠b)
  (keep:∀b o,b≠X.env.locals->b∉X.fs->b∉ch->s.heap.get? b=some o->H b=none->h'.get? b=some o)
  (slot:∀b o,b≠X.env.locals->b∈X.fs->b∉ch->s.heap.get? b=some o->H b=none->∃sl,h'.get? b=some { o with slots:=sl }) (free:∀b o,b∉ch->s.heap.get? b=some o->H b=none->H' b=none)
  (there:∀b o,b∉ch->s.heap.get? b=some o->∃o',h'.get? b=some o')
  (tups:∀b xs,H b=some (.tup xs)->H' b=some (.tup xs)) (frzs:∀b o u,H b=some (.frz o u)->H' b=some (.frz o u)) (tbls:∀b ps,H b=some (.tbl ps)->∃more,H' b=some (.tbl (ps++more)))
  (ns:∀m,s.heap.Ns X.env.locals m->h'.Ns X.env.locals m) (hok:HOk X.prog X.w H' h') (hg:AllBare g') :
  Inv X jP σ H' { s with heap:=h',gens:=g',drawn:=d',toks:=t' }:=by
 have neL:∀b o,X.s₀.heap.get? b=some o->b≠X.env.locals:=λ b o e=>lS (lZ (lH e) I.ok.above)
 have neC:∀b o,X.s₀.heap.get? b=some o->b∉X.ex->b∉ch:=λ b o e hx hb=>by
  rcases (hch b hb).1 with z|z
  ·exact hx z
  ·exact absurd (lZ (lH e) z) (Nat.lt_irrefl _)
 have cellK:∀x c,X.env.cells.lookup x=some c->∀v,s.heap.IsCell c v->h'.IsCell c v:=λ x c e v ⟨o,ho,hd⟩=>by
  have nch:c∉ch:=λ z=>(hch c z).2.2.1 x c e rfl
  by_cases hc:c∈X.fs
  ·obtain⟨sl,q⟩:=slot c o (I.cne x c e) hc nch ho (I.freeC x c e)
   exact⟨_,q,hd⟩
  ·exact⟨o,keep c o (I.cne x c e) hc nch ho (I.freeC x c e),hd⟩
 refine⟨I.ok,I.os,hg,⟨λ b o e n hb hx=>?_,λ b o e n hb hx=>?_,λ b o e n hx=>?_,λ b o e hx=>?_,λ b xs e=>tups b xs (I.base.tups b xs e),λ b o xs e=>frzs b o xs (I.base.frzs b o xs e),λ b ps e=>?_⟩,?_,λ x c e=>?_,?_,λ x c e=>?_,λ p hp=>?_,hok,I.len⟩
 ·exact keep b o (neL b o e) hb (neC b o e hx) (I.base.keep b o e n hb hx) (I.base.free b o e n hx)
 ·obtain⟨sl,e1⟩:=I.base.slot b o e n hb hx
  obtain⟨sl',e2⟩:=slot b _ (neL b o e) hb (neC b o e hx) e1 (I.base.free b o e n hx);exact⟨sl',e2⟩
 ·obtain⟨o',e1⟩:=I.base.there b o e hx
  exact free b o' (neC b o e hx) e1 (I.base.free b o e n hx)
 ·obtain⟨o',e1⟩:=I.base.there b o e hx
  exact there b o' (neC b o e hx) e1
 ·obtain⟨m1,e1⟩:=I.base.tbls b ps e
  obtain⟨m2,e2⟩:=tbls b _ e1;exact⟨m1++m2,by rw[e2,Array.append_assoc]⟩
 ·obtain⟨m,hn,hl⟩:=I.loc
  refine⟨m,ns m hn,λ i x v e1 e2 e3=>?_⟩;obtain⟨u,r,l⟩:=hl i x v e1 e2 e3;refine⟨u,r,?_⟩;rcases l with l|⟨k,c,e,z⟩
  ·exact .inl l
  ·exact .inr ⟨k,c,e,cellK x c e _ z⟩
 ·obtain⟨v,z⟩:=I.cell x c e
  exact⟨v,cellK x c e v z⟩
 ·obtain⟨m,⟨o,_,_,ho,_⟩,_⟩:=I.loc
  exact free _ o (λ z=>(hch _ z).2.1 rfl) ho I.free
 ·obtain⟨v,o,ho,hd⟩:=I.cell x c e
  exact free c o (λ z=>(hch c z).2.2.1 x c e rfl) ho (I.freeC x c e)
 ·obtain⟨e,n,ne,nf,d⟩:=I.pin p hp
  have nch:p.1∉ch:=λ z=>(hch p.1 z).2.2.2 p hp rfl;exact⟨keep p.1 p.2 ne nf nch e n,free p.1 p.2 nch e n,ne,nf,d⟩
theorem Inv.un {t':Nat}(I:Inv X jP σ H s) (u:Un X.fs [] H H' s.heap h') (hok:HOk X.prog X.w H' h'):Inv X jP σ H' { s with heap:=h',toks:=t' }:=by
 obtain⟨m,⟨o,es,ep,ho,r⟩,_⟩:=id I.loc;obtain⟨sl,hL⟩:=u.any ho I.free 41
 exact I.step (g':=s.gens) (d':=s.drawn) (ch:=[]) (λ Ω z=>nomatch z) (λ b o Ω hb Ω e n=>u.keep b o e n hb 41) (λ b o Ω hb Ω e n=>u.slot b o e n hb 41) (λ b o Ω e n=>u.free b o e n 41) (λ b o Ω e=>u.there b o e 41) u.tups u.frzs u.tbls (λ m' hm=>by
  obtain⟨o',es',ep',ho',r'⟩:=hm;rw[ho] at ho';cases ho';exact⟨_,es',ep',hL,r'⟩) hok I.bare
theorem Inv.call {g':Array GenState}{t':Nat}{d':Drawn}{ch:List Addr}(I:Inv X jP σ H s) (u:Un (frs X.stack) ch H H' s.heap h') (hok:HOk X.prog X.w H' h') (hg:AllBare g')
  (hch:∀b∈ch,(b∈X.ex\/X.s₀.heap.objs.size<=b)/\b≠X.env.locals/\(∀x c,X.env.cells.lookup x=some c->c≠b)/\∀p∈X.pn++jP,p.1≠b) :
  Inv X jP σ H' { s with heap:=h',gens:=g',drawn:=d',toks:=t' }:=by
 obtain⟨m,⟨o,es,ep,ho,r⟩,_⟩:=id I.loc;obtain⟨sl,hL⟩:=u.any ho I.free λ z=>(hch _ z).2.1 rfl
 exact I.step (ch:=ch) hch (λ b o hL hb hc e n=>u.keep b o e n (λ z=>(lN.mp (I.stkSub b z)).elim hL hb) hc) (λ b o Ω Ω hc e n=>u.any e n hc) (λ b o hc e n=>u.free b o e n hc) (λ b o hc e=>u.there b o e hc) u.tups u.frzs u.tbls (λ m' hm=>by
  obtain⟨o',es',ep',ho',r'⟩:=hm;rw[ho] at ho';cases ho';exact⟨_,es',ep',hL,r'⟩) hok hg
theorem Inv.turned {t':Nat}{it:Addr}(I:Inv X jP σ H s) (k:∀b o,b≠it->s.heap.get? b=some o->h'.get? b=some o) (hn:H it=none) (hL:it≠X.env.locals)
  (h1:it∈X.ex\/X.s₀.heap.objs.size<=it) (h2:∀x c,X.env.cells.lookup x=some c->c≠it) (h3:∀p∈X.pn++jP,p.1≠it):Inv X jP σ H { s with heap:=h',toks:=t' }:=by
 have nit:∀b u,H b=some u->b≠it:=λ b u e z=>by rw[z,hn] at e;cases e
 refine I.step (g':=s.gens) (d':=s.drawn) (ch:=[it]) (λ b hb=>?_) (λ b o Ω Ω hc e Ω=>k b o (λ z=>hc (by simp[z])) e) (λ b o Ω Ω hc e Ω=>⟨o.slots,k b o (λ z=>hc (by simp[z])) e⟩) (λ Ω Ω Ω Ω n=>n)
  (λ b o hc e=>⟨o,k b o (λ z=>hc (by simp[z])) e⟩) (λ Ω Ω e=>e) (λ Ω Ω Ω e=>e) (λ b ps e=>⟨#[],by rw[e];simp⟩) (λ m hm=>?_) (λ b u e=>?_) I.bare
 ·have e:b=it:=by simpa using hb
  subst e;exact⟨h1,hL,h2,h3⟩
 ·obtain⟨o,es,ep,ho,r⟩:=hm
  exact⟨o,es,ep,k _ o (Ne.symm hL) ho,r⟩
 ·refine(I.hok b u e).stay (λ c v hc q=>k c v ?_ q) (λ Ω q=>q) λ Ω Ω q=>q
  rcases hc with z|z
  ·rw[z];exact nit b u e
  ·exact nit c _ z
theorem Inv.tok (I:Inv X jP σ H s) (t:Nat):Inv X jP σ H { s with toks:=t }:=I.un (h':=s.heap) (t':=t) Un.refl I.hok
theorem Inv.kept {t':Nat}(I:Inv X jP σ H s) (k:∀b u,s.heap.get? b=some u->h'.get? b=some u):Inv X jP σ H { s with heap:=h',toks:=t' }:=I.un (Un.kept k) (I.hok.kept k)
theorem Inv.laid {a:Addr}{o:HO}{t':Nat}(I:Inv X jP σ H s) (k:∀b u,s.heap.get? b=some u->h'.get? b=some u) (hp:s.heap.objs.size<=a) (new:ObjOk X.prog X.w (upd H a o) h' a o) :
  Inv X jP σ (upd H a o) { s with heap:=h',toks:=t' }:=I.un (Un.laid k hp (I.hok.fresh hp)) (I.hok.laid k hp new)
theorem Inv.write {x e:Addr}{o:HO}{t':Nat}(I:Inv X jP σ H s) (mu:Mut (H x)) (he:e=x\/H e=some (.own x)) (k:∀b u,b≠e->s.heap.get? b=some u->h'.get? b=some u) (heo:∃u,h'.get? e=some u)
  (new:ObjOk X.prog X.w (upd H x o) h' x o):Inv X jP σ (upd H x o) { s with heap:=h',toks:=t' }:=I.un (Un.write mu he k heo) (I.hok.write mu he k heo new)
theorem Inv.weak {σ':List (Option V)}(I:Inv X jP σ H s) (hl:σ'.length=σ.length) (w:∀(i:Nat) v,σ'[i]?=some (some v)->σ[i]?=some (some v)):Inv X jP σ' H s :=
 ⟨I.ok,I.os,I.bare,I.base,let ⟨m,hn,hl'⟩:=I.loc;⟨m,hn,λ i x v e1 e2 e3=>hl' i x v e1 (w i v e2) e3⟩,I.cell,I.free,I.freeC,I.pin,I.hok,hl.trans I.len⟩
theorem Inv.pins_of {pins':List 54}(I:Inv X jP σ H s) (h:∀p∈pins',s.heap.get? p.1=some p.2/\H p.1=none/\p.1≠X.env.locals/\p.1∉X.fs/\∀v,p.2.data ≠ .cell v):Inv X pins' σ H s :=
 ⟨I.ok,I.os,I.bare,I.base,I.loc,I.cell,I.free,I.freeC,λ p hp=>(lJ.mp hp).elim (λ z=>I.pin p (mG _ z)) (h p),I.hok,I.len⟩
theorem zEh {N:List Str}(hN:N.Nodup) {i j:Nat}{x:Str}(a:N[i]?=some x) (b:N[j]?=some x):i=j:=by
 obtain⟨h1,e1⟩:=lI.mp a;obtain⟨h2,e2⟩:=lI.mp b;exact(List.getElem_inj hN).mp (e1.trans e2.symm)
theorem zHI {M:Model}{A:Around}{E:XQ}{i:Nat}{x:Str}{v:V}{u:Value}{Q:Unit->Shared->Prop}(I:Inv X jP σ H s) (hN:X.N.Nodup) (hi:X.N[i]?=some x) (hx:Loc X.env.scope x) (r:RelV v u)
  (h:∀s',Inv X jP (σ.set i (some v)) H s'->(∃a,Heap.SameBut a s.heap s'.heap/\(a=X.env.locals\/X.env.cells.lookup x=some a))->Q () s') (hf:X.fn x=true\/X.env.scope.names.lookup x=some .local:=by first|exact .inl rfl|exact .inr rfl|assumption):wpAny M A (storeName X.env x u) Q E s:=by
 obtain⟨m,hn,hl⟩:=id I.loc;have hcls:(X.env.scope.kind == .class || (X.env.scope.kind == .module && X.env.locals != X.env.globals))=false:=by rw[I.ok.kind];rfl
 have hiσ:i<σ.length:=by rw[I.len];exact(lI.mp hi).1
 have cne:=I.cne
 have tracked:∀{a:Addr}{h':Heap},(∃o,s.heap.get? a=some o/\H a=none)->Heap.SameBut a s.heap h'->HOk X.prog X.w H h':=λ{a h'} ha hs b ob e=>by
  obtain⟨_,_,hfree⟩:=ha;refine(I.hok b ob e).stay (λ c w' hc q=>(hs.2 c ?_).trans q) (λ Ω q=>q) λ Ω Ω q=>q;rintro rfl;rcases hc with rfl|hc
  ·rw[hfree] at e;cases e
  ·rw[hfree] at hc;cases hc
 rcases hx with hk|hk
 ·refine wpAny_storeName_local hk hn (λ h' hn' hs=>?_) hcls
  obtain⟨oL,_,_,hoL,_⟩:=id hn;refine h _ ⟨I.ok,I.os,I.bare,⟨λ b o e n hb hx=>?_,λ b o e n hb hx=>?_,I.base.free,λ b o e hx=>?_,I.base.tups,I.base.frzs,I.base.tbls⟩,⟨_,hn',λ j y v' e1 e2 e3=>?_⟩,λ y c e=>?_,I.free,I.freeC,λ p hp=>?_,tracked ⟨oL,hoL,I.free⟩ hs,by simpa using I.len⟩ ⟨_,hs,.inl rfl⟩
  ·exact(hs.2 b (lS (lZ (lH e) I.ok.above))).trans (I.base.keep b o e n hb hx)
  ·obtain⟨sl,e1⟩:=I.base.slot b o e n hb hx
   exact⟨sl,(hs.2 b (lS (lZ (lH e) I.ok.above))).trans e1⟩
  ·obtain⟨o',e1⟩:=I.base.there b o e hx
   exact⟨o',(hs.2 b (lS (lZ (lH e) I.ok.above))).trans e1⟩
  ·by_cases hj:j=i
   ·subst hj
    rw[hi] at e1;cases e1;rw[rP hiσ] at e2;cases e2;exact⟨u,r,.inl ⟨hk,by simp⟩⟩
   ·rw[List.getElem?_set_ne (Ne.symm hj)] at e2
    obtain⟨u',r',q⟩:=hl j y v' e1 e2 e3;refine⟨u',r',?_⟩;rcases q with ⟨k,e⟩|⟨k,c,e,z⟩
    ·refine .inl ⟨k,?_⟩
     have:y≠x:=λ e=>hj (zEh hN e1 (e▸hi));simp[this,e]
    ·exact .inr ⟨k,c,e,z.sameBut hs (cne y c e)⟩
  ·obtain⟨w',z⟩:=I.cell y c e
   exact⟨w',z.sameBut hs (cne y c e)⟩
  ·obtain⟨e,n,ne,nf,d⟩:=I.pin p hp
   exact⟨(hs.2 p.1 ne).trans e,n,ne,nf,d⟩
 ·have hfn:X.fn x=true:=by
   rcases hf with z|z
   ·exact z
   ·rw[z] at hk;cases hk
  obtain⟨c,hc⟩:=I.ok.has x (.inl hk);obtain⟨w',z⟩:=I.cell x c hc;refine wpAny_storeName_cell I.ok.kind hk hc z (λ h' hc' hs=>?_);obtain⟨oc,hoc,hocd⟩:=id z;refine h { s with heap:=h' } ⟨I.ok,I.os,I.bare,⟨λ b o e n hb hx=>?_,λ b o e n hb hx=>?_,I.base.free,λ b o e hx=>?_,I.base.tups,I.base.frzs,I.base.tbls⟩,⟨m,hn.sameBut hs (Ne.symm (cne x c hc)),λ j y v' e1 e2 e3=>?_⟩,λ y c' e=>?_,I.free,I.freeC,λ p hp=>?_,tracked ⟨oc,hoc,I.freeC x c hc⟩ hs,by simpa using I.len⟩ ⟨c,hs,.inr hc⟩
  ·exact(hs.2 b (lS (lZ (lH e) (I.ok.cab x c hfn hc)))).trans (I.base.keep b o e n hb hx)
  ·obtain⟨sl,e1⟩:=I.base.slot b o e n hb hx
   exact⟨sl,(hs.2 b (lS (lZ (lH e) (I.ok.cab x c hfn hc)))).trans e1⟩
  ·obtain⟨o',e1⟩:=I.base.there b o e hx
   exact⟨o',(hs.2 b (lS (lZ (lH e) (I.ok.cab x c hfn hc)))).trans e1⟩
  ·by_cases hj:j=i
   ·subst hj
    rw[hi] at e1;cases e1;rw[rP hiσ] at e2;cases e2;exact⟨u,r,.inr ⟨.inl hk,c,hc,hc'⟩⟩
   ·rw[List.getElem?_set_ne (Ne.symm hj)] at e2
    obtain⟨u',r',q⟩:=hl j y v' e1 e2 e3;refine⟨u',r',?_⟩;rcases q with q|⟨k,c',e,z'⟩
    ·exact .inl q
    ·refine .inr ⟨k,c',e,z'.sameBut hs ?_⟩
     rintro rfl;exact hj (zEh hN e1 (I.ok.inj _ _ _ e hc▸hi))
  ·by_cases hcc:c'=c
   ·subst hcc;exact⟨_,hc'⟩
   ·obtain⟨w2,z2⟩:=I.cell y c' e
    exact⟨w2,z2.sameBut hs hcc⟩
  ·obtain⟨e,n,ne,nf,d⟩:=I.pin p hp
   refine⟨(hs.2 p.1 ?_).trans e,n,ne,nf,d⟩;intro q;rw[q,hoc] at e;have q':oc=p.2:=mE e;exact d w' (by rw[←q'];exact hocd)
theorem zDN {M:Model}{A:Around}{E:XQ}{i:Nat}{x:Str}{v:V}{u:Value}{Q:Unit->Shared->Prop}(I:Inv X jP σ H s) (hN:X.N.Nodup) (hi:X.N[i]?=some x) (hx:Loc X.env.scope x) (r:RelV v u)
  (h:∀s',Inv X jP (σ.set i (some v)) H s'->Q () s') (hf:X.fn x=true\/X.env.scope.names.lookup x=some .local:=by first|exact .inl rfl|exact .inr rfl|assumption):wpAny M A (storeName X.env x u) Q E s :=
 zHI I hN hi hx r (λ s' I' Ω=>h s' I') hf
theorem Inv.call' {s':Shared}{ch:List Addr}(I:Inv X jP σ H s) (ho:s'.os=s.os) (u:Un (frs X.stack) ch H H' s.heap s'.heap) (hok:HOk X.prog X.w H' s'.heap) (hg:AllBare s'.gens)
  (hch:∀b∈ch,(b∈X.ex\/X.s₀.heap.objs.size<=b)/\b≠X.env.locals/\(∀x c,X.env.cells.lookup x=some c->c≠b)/\∀p∈X.pn++jP,p.1≠b):Inv X jP σ H' s':=by
 obtain⟨h',g',d',t',o'⟩:=s';have e:o'=s.os:=ho;subst e;exact I.call (g':=g') (t':=t') (d':=d') u hok hg hch
end
abbrev XK:=Value->Option Addr->Hp->Prop
abbrev St:=List (Option V)
abbrev VK:=V->Hp->Prop
abbrev TE:=St->Hp->VK->Prop
abbrev TT:=St->Hp->(Bool->Hp->Prop)->Prop
abbrev TA:=St->Hp->(List V->Hp->Prop)->Prop
structure Ends where
 nx:St->Hp->Prop
 rt:VK
 bk:St->Hp->Prop:=λ Ω Ω=>False
 ct:St->Hp->Prop:=λ Ω Ω=>False
abbrev TS:=Ends->St->Hp->Prop
def EP (X:Cx) (jP:List 54) (σ:St) (Q:VK) (u:Value) (s':Shared):Prop:=∃v H',Inv X jP σ H' s'/\RelV v u/\Q v H'
def TP (X:Cx) (jP:List 54) (σ:St) (Q:Bool->Hp->Prop) (b:Bool) (s':Shared):Prop:=∃H',Inv X jP σ H' s'/\Q b H'
def AP (X:Cx) (jP:List 54) (σ:St) (Q:List V->Hp->Prop) (us:List Value) (s':Shared):Prop:=∃vs H',Inv X jP σ H' s'/\Vals vs us/\Q vs H'
def SP (X:Cx) (jP:List 54) (D:Ends) (f:Flow) (s':Shared):Prop :=
 match f with
 |.next=>∃σ' H',Inv X jP σ' H' s'/\D.nx σ' H'
 |.brk=>∃σ' H',Inv X jP σ' H' s'/\D.bk σ' H'
 |.cont=>∃σ' H',Inv X jP σ' H' s'/\D.ct σ' H'
 |.ret u=>∃v σ' H',Inv X jP σ' H' s'/\RelV v u/\D.rt v H'
def PE (X:Cx) (e:Expr) (t:TE):Prop :=
 ∀(jP:List 54) (s:Shared) (σ:St) (H:Hp) (Q:VK),Inv X jP σ H s->t σ H Q->wpAny 48 X.A (eval e X.env) (EP X jP σ Q) X.xe s
def PT (X:Cx) (e:Expr) (t:TT):Prop :=
 ∀(jP:List 54) (s:Shared) (σ:St) (H:Hp) (Q:Bool->Hp->Prop),Inv X jP σ H s->t σ H Q->wpAny 48 X.A (isTrue e X.env (eval e X.env)) (TP X jP σ Q) X.xe s
def PW (X:Cx) (e:Expr) (t:TT):Prop :=
 ∀(whole:Sem Value) (jP:List 54) (s:Shared) (σ:St) (H:Hp) (Q:Bool->Hp->Prop),Inv X jP σ H s->t σ H Q->wpAny 48 X.A (isTrue e X.env whole) (TP X jP σ Q) X.xe s
theorem PW.pt {X:Cx}{e:Expr}{t:TT}(h:PW X e t):PT X e t:=h _
def PA (X:Cx) (es:List Expr) (t:TA):Prop :=
 ∀(pos:Pos) (jP:List 54) (s:Shared) (σ:St) (H:Hp) (Q:List V->Hp->Prop),Inv X jP σ H s->t σ H Q->wpAny 48 X.A (spliced (backTo pos (starEach es X.env))) (AP X jP σ Q) X.xe s
def PS (X:Cx) (st:Stmt) (t:TS):Prop :=
 ∀(jP:List 54) (s:Shared) (σ:St) (H:Hp) (D:Ends),Inv X jP σ H s->t D σ H->wpAny 48 X.A (exec st X.env) (SP X jP D) X.xe s
def PSs (X:Cx) (st:List Stmt) (t:TS):Prop :=
 ∀(jP:List 54) (s:Shared) (σ:St) (H:Hp) (D:Ends),Inv X jP σ H s->t D σ H->wpAny 48 X.A (execs st X.env) (SP X jP D) X.xe s
theorem thn {α:Type}{t:Sem α}{Q Q':α->Shared->Prop}{M:Model}{A:Around}{E:XQ}{s:Shared}(h:wpAny M A t Q E s) (hQ:∀a s,Q a s->Q' a s):wpAny M A t Q' E s:=wpAny_mono h hQ λ Ω Ω x=>x
section
variable {X:Cx}
inductive tVar (i:Nat) (σ:St) (H:Hp) (Q:VK):Prop
 |mk (v:V) (h:σ[i]?=some (some v)) (q:Q v H)
inductive IsB (Q:Bool->Hp->Prop) (x:V) (H:Hp):Prop
 |mk (c:Bool) (h:x = .bl c) (q:Q c H)
def tC (v:V):TE:=λ Ω H Q=>Q v H
theorem zLW {i:Nat}{x:Str}{pos:Pos}(hN:X.N[i]?=some x) (hv:Vis X.env.scope x) (hd:78=false:=by decide) (hcd:(x == ("__classdict__" : Str))=false:=by decide):PE X (.Name x pos) (tVar i):=by
 intro jP s σ H Q I h;obtain⟨v,e,h⟩:=h;obtain⟨m,hn,hl⟩:=I.loc;obtain⟨u,r,l⟩:=hl i x v hN e hv;have fin:EP X jP σ Q u s:=⟨v,H,I,r,h⟩;rcases l with ⟨hk,hm⟩|⟨hk,c,hc,hcell⟩
 ·exact wpAny_Name (wpAny_loadName_local I.ok.kind hk hn hm fin) hd
 ·rcases hk with hk|hk
  ·exact wpAny_Name (wpAny_loadName_cell I.ok.kind hk hc hcell fin) hd
  ·exact wpAny_Name (wpAny_loadName_free I.ok.kind hk hc hcell fin hcd) hd
theorem zAE {i j pos}:PE X (.Constant (.int i) j pos) (tC (.int i)):=λ Ω Ω Ω H Ω I h=>wpAny_Constant_int ⟨.int i,H,I.tok _,43,h⟩
theorem pe_bl {b j pos}:PE X (.Constant (.bool b) j pos) (tC (.bl b)):=λ Ω Ω Ω H Ω I h=>Constant_bool ⟨.bl b,H,I,rfl,h⟩
theorem zDf {j pos}:PE X (.Constant .none j pos) (tC .non):=λ Ω Ω Ω H Ω I h=>Constant_none ⟨.non,H,I,rfl,h⟩
theorem zAQ {x j pos}:PE X (.Constant (.str x) j pos) (tC (.str x)):=λ Ω Ω Ω H Ω I h=>Calls.Constant_str ⟨.str x,H,I.tok _,43,h⟩
def Gl (X:Cx) (x:Str):Prop:=X.env.kindOf x=some .globalImplicit
theorem zCP {E:XQ}{jP:List 54}{s:Shared}{σ:St}{H:Hp}{x:Str}{u:Value}{pos:Pos}{Q:XQ}(I:Inv X jP σ H s) (hg:Gl X x) (hm:X.mg x=some u) (h:Q u s)
  (hd:78=false:=by decide):wpAny 48 X.A (eval (.Name x pos) X.env) Q E s :=
 Calls.Name_function_global I.ok.kind hg (Calls.loadGlobal_global (by rw[I.ok.glob];exact I.mod.glob.keeps I.bk) hm h) hd
theorem zDJ {E:XQ}{jP:List 54}{s:Shared}{σ:St}{H:Hp}{x:Str}{u:Value}{pos:Pos}{Q:XQ}(I:Inv X jP σ H s) (hg:Gl X x) (hm:X.mg x=none) (hv:bootBuiltins x=some u) (h:Q u s)
  (hn:x ≠ "__name__" := by decide) (hd:78=false:=by decide):wpAny 48 X.A (eval (.Name x pos) X.env) Q E s:=by
 obtain⟨mb,h1,h2⟩:=I.mod.blt;exact Calls.Name_function_global I.ok.kind hg (Calls.loadGlobal_builtin (by rw[I.ok.glob];exact I.mod.glob.keeps I.bk) hm (by rw[I.ok.blt];exact h1.keeps I.bk) ((h2 x hn).trans hv) h) hd
theorem zAN {x:Str}{v:V}{u:Value}{pos:Pos}(hg:Gl X x) (hm:X.mg x=some u) (r:RelV v u) (hd:78=false:=by decide):PE X (.Name x pos) (tC v) :=
 λ Ω Ω Ω H Ω I h=>zCP I hg hm ⟨v,H,I,r,h⟩ hd
theorem zA2 {x:Str}{v:V}{u:Value}{pos:Pos}(hg:Gl X x) (hm:X.mg x=none) (hv:bootBuiltins x=some u) (r:RelV v u) (hn:x ≠ "__name__" := by decide) (hd:78=false:=by decide):PE X (.Name x pos) (tC v) :=
 λ Ω Ω Ω H Ω I h=>zDJ I hg hm hv ⟨v,H,I,r,h⟩ hn hd
variable {a b:Expr}{ta tb:TE}{pos:Pos}
def tB (t:TE):TT:=λ σ H Q=>t σ H (IsB Q)
theorem zCN {e:Expr}{t:TE}(h:PE X e t) (he:∀whole,isTrue e X.env whole=(do let v ← whole;standAt e.pos;holding [v] (truthy v)):=by intro _;rfl):PT X e (tB t):=by
  intro jP s σ H Q I hw;refine isTrue_plain (thn (h jP s σ H _ I hw) λ v s1 ⟨x,H1,I1,r1,q1⟩=>?_) (he _);obtain⟨d,rfl,q⟩:=q1;cases r1;exact wpAny_truthy_bool ⟨H1,I1,q⟩
variable {tA tB':TT}{rest:List Expr}
def tOr (t u:TT):TT:=λ σ H Q=>t σ H λ c H1=>if c=true then Q true H1 else u σ H1 Q
def tNot (t:TT):TT:=λ σ H Q=>t σ H λ c H1=>Q (!c) H1
theorem zHS (ha:PT X a tA):PW X (.BoolOp .Or [a] pos) tA:=by
 intro wh jP s σ H Q I h;refine isTrue_or (thn (ha jP s σ H Q I h) λ c s1 e=>?_);cases c with
 |false=>exact isTrue_or_nil e
 |true=>exact e
theorem pw_or (ha:PT X a tA) (hb:PW X (.BoolOp .Or (b::rest) pos) tB'):PW X (.BoolOp .Or (a::b::rest) pos) (tOr tA tB'):=by
 intro wh jP s σ H Q I h;refine isTrue_or (thn (ha jP s σ H _ I h) λ c s1 ⟨H1,I1,q1⟩=>?_);cases c with
 |true=>exact⟨H1,I1,q1⟩
 |false=>exact hb wh jP s1 σ H1 Q I1 q1
theorem zCc (ha:PT X a tA):PT X (.UnaryOp .Not a pos) (tNot tA):=by
 intro jP s σ H Q I h;exact isTrue_not (ha jP s σ H (λ c H1=>Q (!c) H1) I h)
def tAndV (ta tb:TE):TE:=λ σ H Q=>ta σ H (IsB λ c H1=>if c=true then tb σ H1 Q else Q (.bl false) H1)
def tOrV (ta tb:TE):TE:=λ σ H Q=>ta σ H λ x H1=>∃c,x = .bl c/\if c=true then Q (.bl true) H1 else tb σ H1 Q
def tNotV (ta:TE):TE:=λ σ H Q=>ta σ H (IsB λ c H1=>Q (.bl (!c)) H1)
theorem zAg {op} {t:TE}(h:PE X a t):PE X (.BoolOp op [a] pos) t:=λ jP s σ H Q I hw=>BoolOp_one (h jP s σ H Q I hw)
theorem zA7 (ha:PE X a ta) (hb:PE X (.BoolOp .And (b::rest) pos) tb):PE X (.BoolOp .And (a::b::rest) pos) (tAndV ta tb):=by
 intro jP s σ H Q I h;refine BoolOp_and (thn (ha jP s σ H _ I h) λ v s1 ⟨x,H1,I1,r1,q1⟩=>?_);obtain⟨c,rfl,q1⟩:=q1;cases r1;refine wpAny_truthy_bool ?_;cases c with
 |true=>exact hb jP s1 σ H1 Q I1 q1
 |false=>exact⟨.bl false,H1,I1,rfl,q1⟩
theorem pe_or (ha:PE X a ta) (hb:PE X (.BoolOp .Or (b::rest) pos) tb):PE X (.BoolOp .Or (a::b::rest) pos) (tOrV ta tb):=by
 intro jP s σ H Q I h;refine BoolOp_or (thn (ha jP s σ H _ I h) λ v s1 ⟨x,H1,I1,r1,q1⟩=>?_);obtain⟨c,rfl,q1⟩:=q1;cases r1;refine wpAny_truthy_bool ?_;cases c with
 |false=>exact hb jP s1 σ H1 Q I1 q1
 |true=>exact⟨.bl true,H1,I1,rfl,q1⟩
theorem zJx (ha:PE X a ta):PE X (.UnaryOp .Not a pos) (tNotV ta):=by
 intro jP s σ H Q I h;refine UnaryOp_ (thn (ha jP s σ H _ I h) λ v s1 ⟨x,H1,I1,r1,q1⟩=>?_);obtain⟨c,rfl,q1⟩:=q1;cases r1;exact not_of (wpAny_truthy_bool ⟨.bl (!c),H1,I1,rfl,q1⟩)
end
def SqL (K:W.Frag) (H:Hp) (a:Addr) (xs:List V):Prop :=
 Rd H a (.lst xs) \/
  ∃(o:Obj) (its:Array Value) (n:Nat),K.lookup a=some o/\o.cls = .type "list" /\ o.dict=none/\o.data = .seq its n/\its.size<=sizeLine/\Vals xs its.toList
def SqT (K:W.Frag) (H:Hp) (a:Addr) (xs:List V):Prop :=
 Rd H a (.tup xs) \/
  ∃(o:Obj) (its:Array Value) (n:Nat),K.lookup a=some o/\o.cls = .type "tuple" /\ o.data = .seq its n/\its.size<=sizeLine/\Vals xs its.toList
noncomputable def absV:Value->Option V
 |.none=>some .non
 |.bool b=>some (.bl b)
 |.int i _=>some (.int i)
 |.str x _=>some (.str x)
 |.bytes b _=>some (.byt b)
 |.float b _=>some (.flt b)
 |.ref a=>some (.ref a)
 |.type n=>some (.ty n)
 |_=>none
theorem RelV.abs {x:V}{u:Value}(r:RelV x u):absV u=some x:=by
 cases x with
 |non=>cases r;rfl
 |bl _=>cases r;rfl
 |int _=>obtain⟨t,rfl⟩:=r;rfl
 |str _=>obtain⟨t,rfl⟩:=r;rfl
 |byt _=>obtain⟨t,rfl⟩:=r;rfl
 |flt _=>obtain⟨t,rfl⟩:=r;rfl
 |ref _=>cases r;rfl
 |ty _=>cases r;rfl
theorem RelV.inj {x y:V}{u:Value}(r:RelV x u) (q:RelV y u):x=y:=mE (r.abs.symm.trans q.abs)
theorem Vals.inj {xs ys:List V}{us:List Value}(h:Vals xs us):Vals ys us->xs=ys:=by
 induction h generalizing ys with
 |nil=>intro z;cases z;rfl
 |cons r t ih=>intro z;cases z with|cons r' t'=>rw[r.inj r',ih t']
section
variable {X:Cx}{jP:List (Addr × Obj)}{σ:St}{H:Hp}{s:Shared}{a:Addr}{xs ys:List V}
theorem SqL.of {K:W.Frag}(h:H a=some (.lst xs)):SqL K H a xs:=.inl (.inl h)
theorem SqT.of {K:W.Frag}(h:H a=some (.tup xs)):SqT K H a xs:=.inl (.inl h)
theorem Inv.list (I:Inv X jP σ H s) (h:SqL X.K H a xs):∃its:List Value,Vals xs its/\PlainL s.heap a its.toArray/\xs.length<=sizeLine:=by
 rcases h with h|⟨o,its,n,hk,hc,hd,hs,hz,r⟩
 ·obtain⟨z,its,n,r,e⟩:=h.ok I.hok
  exact⟨its,r,⟨_,n,e,rfl,rfl,rfl⟩,z⟩
 ·refine⟨its.toList,r,⟨o,n,I.kIn a o hk,hc,hd,by simpa using hs⟩,?_⟩
  have e:=r.length;simp only[Array.length_toList] at e
  lia
theorem Inv.tuple (I:Inv X jP σ H s) (h:SqT X.K H a xs):∃its:List Value,Vals xs its/\IsTup s.heap a its.toArray/\xs.length<=sizeLine:=by
 rcases h with h|⟨o,its,n,hk,hc,hs,hz,r⟩
 ·obtain⟨z,its,r,p⟩:=h.ok I.hok
  exact⟨its,r,p,z⟩
 ·refine⟨its.toList,r,⟨o,I.kIn a o hk,hc,n,by simpa using hs⟩,?_⟩
  have e:=r.length;simp only[Array.length_toList] at e
  lia
theorem Inv.list_inj (I:Inv X jP σ H s) (h:SqL X.K H a xs) (h':SqL X.K H a ys):xs=ys:=by
 obtain⟨its,r,⟨o,n,e,_,_,d⟩,_⟩:=I.list h;obtain⟨its',r',⟨o',n',e',_,_,d'⟩,_⟩:=I.list h';rw[e] at e';cases e';rw[d] at d';injection d' with d1 _
 have:its=its':=by simpa using congrArg Array.toList d1
 subst this;exact r.inj r'
theorem Inv.tuple_inj (I:Inv X jP σ H s) (h:SqT X.K H a xs) (h':SqT X.K H a ys):xs=ys:=by
 obtain⟨its,r,⟨o,e,_,n,d⟩,_⟩:=I.tuple h;obtain⟨its',r',⟨o',e',_,n',d'⟩,_⟩:=I.tuple h';rw[e] at e';cases e';rw[d] at d';injection d' with d1 _
 have:its=its':=by simpa using congrArg Array.toList d1
 subst this;exact r.inj r'
end
abbrev Cx.wish (X:Cx) (E:XQ):Cx:={ X with xe:=E }
abbrev Cx.nox (X:Cx):Cx:=X.wish λ Ω Ω=>False
theorem Cx.Ok.wish {X:Cx}(ok:X.Ok) (E:XQ):(X.wish E).Ok :=
 ⟨ok.mod,ok.kind,ok.glob,ok.blt,ok.above,ok.inj,ok.has,ok.cab,ok.hd,ok.frames,ok.stk,ok.exf,ok.bs,ok.bsz,ok.noex,ok.exfs,ok.funs,ok.frf⟩
theorem Cx.Ok.unwish {X:Cx}{E:XQ}(ok:(X.wish E).Ok):X.Ok :=
 ⟨ok.mod,ok.kind,ok.glob,ok.blt,ok.above,ok.inj,ok.has,ok.cab,ok.hd,ok.frames,ok.stk,ok.exf,ok.bs,ok.bsz,ok.noex,ok.exfs,ok.funs,ok.frf⟩
section
variable {X:Cx}{jP:List (Addr × Obj)}{σ:St}{H:Hp}{s:Shared}{E:XQ}
theorem Inv.wish (I:Inv X jP σ H s) (E:XQ):Inv (X.wish E) jP σ H s:=⟨I.ok.wish E,I.os,I.bare,I.base,I.loc,I.cell,I.free,I.freeC,I.pin,I.hok,I.len⟩
theorem Inv.unwish (I:Inv (X.wish E) jP σ H s):Inv X jP σ H s:=⟨I.ok.unwish,I.os,I.bare,I.base,I.loc,I.cell,I.free,I.freeC,I.pin,I.hok,I.len⟩
theorem SP.unwish {D:Ends}{f:Flow}{s':Shared}(h:SP (X.wish E) jP D f s'):SP X jP D f s':=by
 cases f with
 |next=>obtain⟨σ',H',I,q⟩:=h;exact⟨σ',H',I.unwish,q⟩
 |brk=>obtain⟨σ',H',I,q⟩:=h;exact⟨σ',H',I.unwish,q⟩
 |cont=>obtain⟨σ',H',I,q⟩:=h;exact⟨σ',H',I.unwish,q⟩
 |ret u=>obtain⟨v,σ',H',I,r,q⟩:=h;exact⟨v,σ',H',I.unwish,r,q⟩
theorem PSs.nox {st:List Stmt}{t:TS}(h:PSs X.nox st t):PSs X st t:=λ jP s σ H D I hw =>
 wpAny_mono (h jP s σ H D (I.wish _) hw) (λ Ω Ω q=>q.unwish) λ Ω Ω z=>False.elim z
end
section
variable {X:Cx}{st:Stmt}{rest:List Stmt}{t u:TS}{e:Expr}{te:TE}{pos:Pos}
def tNext:TS:=λ D σ H=>D.nx σ H
def tSeq (t u:TS):TS:=λ D σ H=>t { D with nx:=u D } σ H
theorem zAV:PSs X [] tNext:=λ _ _ σ H _ I h=>wpAny_execs_nil ⟨σ,H,I,h⟩
theorem zAF (h1:PS X st t) (h2:PSs X rest u):PSs X (st::rest) (tSeq t u):=by
 intro jP s σ H D I h;refine wpAny_execs_cons (thn (h1 jP s σ H { D with nx:=u D } I h) λ f s1 q=>?_);cases f with
 |next =>
  obtain⟨σ',H',I',q⟩:=q;exact h2 jP s1 σ' H' D I' q
 |ret v=>exact q
 |brk=>exact q
 |cont=>exact q
theorem zAH (h1:PS X st t):PSs X [st] t:=by
 intro jP s σ H D I h;refine wpAny_execs_cons (thn (h1 jP s σ H D I h) λ f s1 q=>?_);cases f with
 |next=>exact wpAny_execs_nil q
 |ret v=>exact q
 |brk=>exact q
 |cont=>exact q
theorem Inv.quiet {jP:List 54}{σ:St}{H:Hp}{s:Shared}(I:Inv X jP σ H s):interactive X.env=false:=by simp[interactive,I.ok.kind]
def tDrop (te:TE):TS:=λ D σ H=>te σ H λ Ω H1=>D.nx σ H1
theorem zAk (he:PE X e te) (hs:swapsWith e none pos.line X.env=pure false:=by rfl):PS X (.Expr e pos) (tDrop te):=by
 intro jP s σ H D I h;exact wpAny_Expr_any (thn (he jP s σ H _ I h) λ v s1 ⟨x,H1,I1,r1,q1⟩=>⟨σ,H1,I1,q1⟩) I.quiet hs
def tRet (te:TE):TS:=λ D σ H=>te σ H D.rt
theorem zAs (he:PE X e te):PS X (.Return (some e) pos) (tRet te):=by
 intro jP s σ H D I h;exact wpAny_Return_some (thn (he jP s σ H _ I h) λ v s1 ⟨x,H1,I1,r1,q1⟩=>⟨x,σ,H1,I1,r1,q1⟩)
def tIfS (c:TT) (t u:TS):TS:=λ D σ H=>c σ H λ b H1=>if b=true then t D σ H1 else u D σ H1
theorem ps_if {c:Expr}{a b:List Stmt}{tc:TT}(hc:PT X c tc) (ha:PSs X a t) (hb:PSs X b u):PS X (.If c a b pos) (tIfS tc t u):=by
 intro jP s σ H D I h;refine wpAny_If (thn (hc jP s σ H _ I h) λ d s1 ⟨H1,I1,q1⟩=>?_);cases d with
 |true=>exact ha jP s1 σ H1 D I1 q1
 |false=>exact hb jP s1 σ H1 D I1 q1
def zJk:TS:=λ Ω Ω Ω=>False
theorem zCu:PS X st zJk:=λ Ω Ω Ω Ω Ω Ω h=>h.elim
theorem zAj {sts:List Stmt}:PSs X sts zJk:=λ Ω Ω Ω Ω Ω Ω h=>h.elim
end
abbrev TG:=V->St->Hp->(St->Hp->Prop)->Prop
abbrev TGs:=List V->St->Hp->(St->Hp->Prop)->Prop
def PG (X:Cx) (target:Expr) (t:TG):Prop :=
 ∀(jP:List 54) (s:Shared) (σ:St) (H:Hp) (v:V) (u:Value) (Q:St->Hp->Prop),Inv X jP σ H s->RelV v u->t v σ H Q ->
  wpAny 48 X.A (assign target X.env u) (λ Ω s'=>∃σ' H',Inv X jP σ' H' s'/\Q σ' H') X.xe s
def PGs (X:Cx) (ts:List Expr) (t:TGs):Prop :=
 ∀(jP:List 54) (s:Shared) (σ:St) (H:Hp) (vs:List V) (us:List Value) (Q:St->Hp->Prop),Inv X jP σ H s->Vals vs us->t vs σ H Q ->
  wpAny 48 X.A (assignInOrder ((assignEach ts X.env).map (·.2)) us) (λ Ω s'=>∃σ' H',Inv X jP σ' H' s'/\Q σ' H') X.xe s
abbrev TSet:=V->V->V->Hp->(Hp->Prop)->Prop
def PSet (X:Cx) (t:TSet):Prop :=
 ∀(jP:List 54) (s:Shared) (σ:St) (H:Hp) (o i v:V) (ov iv u:Value) (Q:Hp->Prop),Inv X jP σ H s->RelV o ov->RelV i iv->RelV v u->t o i v H Q ->
  wpAny 48 X.A (setItem ov iv u) (λ Ω s'=>∃H',Inv X jP σ H' s'/\Q H') X.xe s
section
variable {X:Cx}{pos:Pos}
def gName (i:Nat):TG:=λ v σ H Q=>Q (σ.set i (some v)) H
theorem zBz {i:Nat}{x:Str}(hN:X.N.Nodup) (hi:X.N[i]?=some x) (hx:Loc X.env.scope x) (hf:X.fn x=true\/X.env.scope.names.lookup x=some .local:=by first|exact .inl rfl|exact .inr rfl|assumption):PG X (.Name x pos) (gName i):=by
 intro jP s σ H v u Q I r h;exact wpAny_assign_Name (zDN I hN hi hx r (λ s' I'=>⟨_,H,I',h⟩) hf)
theorem pGn {i:Nat}{x:Str}(hN:X.N.Nodup)(hi:X.N[i]?=some x:=by rfl)(hx:Loc X.env.scope x:=by exact Or.inl rfl)(hf:X.fn x=true\/X.env.scope.names.lookup x=some .local:=by first|exact .inl rfl|exact .inr rfl|assumption):PG X (.Name x pos) (gName i):=zBz hN hi hx hf
def gNil:TGs:=λ vs σ H Q=>vs=[]/\Q σ H
inductive gCons (t:TG) (u:TGs) (vs:List V) (σ:St) (H:Hp) (Q:St->Hp->Prop):Prop
 |mk (v:V) (r:List V) (h:vs=v::r) (q:t v σ H λ σ' H'=>u r σ' H' Q)
theorem zBS:PGs X [] gNil:=by
 intro jP s σ H vs us Q I r h;obtain⟨e,h⟩:=h;subst e;cases r;exact assignInOrder_nil ⟨σ,H,I,h⟩
theorem zAb {e:Expr}{es:List Expr}{t:TG}{u:TGs}(h1:PG X e t) (h2:PGs X es u)
  (hs:(assignEach (e::es) X.env).map (·.2)=assign e X.env::(assignEach es X.env).map (·.2):=by rfl):PGs X (e::es) (gCons t u):=by
 intro jP s σ H vs us Q I r h;obtain⟨v,vr,e1,h⟩:=h;subst e1;cases r with
 |cons r rr =>
  rw[hs];refine assignInOrder_cons (thn (h1 jP s σ H _ _ _ I r h) λ _ s1 ⟨σ1,H1,I1,q1⟩=>?_);exact h2 jP s1 σ1 H1 _ _ Q I1 rr q1
def gTup (K:W.Frag) (n:Nat) (t:TGs):TG:=λ v σ H Q=>E2 λ a xs=>A4 (v = .ref a) (SqT K H a xs) (xs.length=n) (t xs σ H Q)
theorem zCG {es:List Expr}{k:Nat}{t:TGs}{n:Nat}(hc:X.calm=true) (h:PGs X es t)
  (hn:(assignEach es X.env).length=n:=by rfl) (hst:(assignEach es X.env).findIdx? (·.1)=none:=by rfl):PG X (.Tuple es k pos) (gTup X.K n t):=by
 intro jP s σ H v u Q I r hw;obtain⟨a,xs,e1,hq,hl,hw⟩:=hw;subst e1;cases r;obtain⟨its,rv,ht,hz⟩:=I.tuple hq;refine assign_Tuple_tuple (I.ok.hd hc) ht (by simp[hn,←hl,rv.length]) hst λ h' hx=>?_;have I1:Inv X jP σ H { s with heap:=h' }:=I.kept (t':=s.toks) λ b o e=>hx b o (lS (lH e)) e;exact h jP _ σ H xs _ Q I1 (by simpa using rv) hw
def gSub (to ti:TE) (t:TSet):TG:=λ v σ H Q=>to σ H λ o H1=>ti σ H1 λ i H2=>t o i v H2 λ H3=>Q σ H3
theorem zJw {o i:Expr}{to ti:TE}{t:TSet}(ho:PE X o to) (hi:PE X i ti) (hs:PSet X t)
  (ha:∀v,assign (.Subscript o i pos) X.env v=(do
   let ov ← holding [v] (eval o X.env)
   let iv ← holding [v,ov] (eval i X.env)
   standAt pos
   holding [v,ov,iv] (setItem ov iv v)
   release [v,ov,iv] []):=by intro _;rfl):PG X (.Subscript o i pos) (gSub to ti t):=by
 intro jP s σ H v u Q I r h;rw[ha];refine lA (lD (thn (ho jP s σ H _ I h) λ ov s1 ⟨x,H1,I1,r1,q1⟩=>?_));refine lA (lD (thn (hi jP s1 σ H1 _ I1 q1) λ iv s2 ⟨y,H2,I2,r2,q2⟩=>?_));refine lA (wpAny_standAt (lA (lD (thn (hs jP s2 σ H2 x y v ov iv u _ I2 r1 r2 r q2) λ _ s3 ⟨H3,I3,q3⟩=>?_))));exact wpAny_release ⟨σ,H3,I3,q3⟩
def tAsg (te:TE) (g:TG):TS:=λ D σ H=>te σ H λ x H1=>g x σ H1 D.nx
theorem zHX {tg e:Expr}{te:TE}{g:TG}(he:PE X e te) (hg:PG X tg g) (hs:swapsWithSole [tg] e pos.line X.env=pure false:=by rfl) (hw:swappedStores [tg] e X.env=pure none:=by rfl)
  (h1:(assignEach [tg] X.env).map (·.2)=[assign tg X.env]:=by rfl):PS X (.Assign [tg] e pos) (tAsg te g):=by
 intro jP s σ H D I h;refine wpAny_Assign_stores (thn (he jP s σ H _ I h) λ v s1 ⟨x,H1,I1,r1,q1⟩=>?_) hs hw;rw[h1];exact thn (hg jP s1 σ H1 x v _ I1 r1 q1) λ Ω s2 q=>q
theorem zE6 {i:Nat}{x:Str}{e:Expr}{te:TE}{pos':Pos}(hN:X.N.Nodup) (hi:X.N[i]?=some x) (hx:Loc X.env.scope x) (he:PE X e te) (hs:swapsWith e (some (.Name x pos')) pos.line X.env=pure false:=by rfl) (hf:X.fn x=true\/X.env.scope.names.lookup x=some .local:=by first|exact .inl rfl|exact .inr rfl|assumption) :
  PS X (.Assign [.Name x pos'] e pos) (tAsg te (gName i)):=by
 intro jP s σ H D I h;refine wpAny_Assign_Name (thn (he jP s σ H _ I h) λ v s1 ⟨y,H1,I1,r1,q1⟩=>?_) hs;exact zDN I1 hN hi hx r1 (λ s2 I2=>⟨_,H1,I2,q1⟩) hf
theorem pS {i:Nat}{x:Str}{e:Expr}{te:TE}{pos':Pos}(hN:X.N.Nodup)(he:PE X e te)(hi:X.N[i]?=some x:=by rfl)(hx:Loc X.env.scope x:=by exact Or.inl rfl)(hs:swapsWith e (some (.Name x pos')) pos.line X.env=pure false:=by rfl)(hf:X.fn x=true\/X.env.scope.names.lookup x=some .local:=by first|exact .inl rfl|exact .inr rfl|assumption):PS X (.Assign [.Name x pos'] e pos) (tAsg te (gName i)):=zE6 hN hi hx he hs hf
end
section
variable {X:Cx}{pos:Pos}
def zK9 (c:TT) (tb:TS):TS:=λ D σ H=>∃W:Nat->St->Hp->Prop,(∃m,W m σ H)/\∀m σ H,W m σ H ->
 c σ H λ b H1=>if b=true then ∃N:St->Hp->Prop,(∀σ' H',N σ' H'->∃m',m'<m/\W m' σ' H')/\tb { D with nx:=N,ct:=N,bk:=D.nx } σ H1 else D.nx σ H1
theorem zCV {c:Expr}{body:List Stmt}{tc:TT}{tb:TS}(hp:PassesOwn 48 X.A X.env X.xe) (hc:PT X c tc) (hb:PSs X body tb):PS X (.While c body [] pos) (zK9 tc tb):=by
 intro jP s σ H D I h;obtain⟨W,⟨m0,w0⟩,turn⟩:=h;refine wpAny_While (codeAny_whileLoop (λ n s'=>∃σ' H',Inv X jP σ' H' s'/\W n σ' H') ?_ m0 ⟨σ,H,I,w0⟩);rintro n s1 ⟨σ1,H1,I1,w1⟩;refine wpAny_passesOwn hp (thn (hc jP s1 σ1 H1 _ I1 (turn n σ1 H1 w1)) λ b s2 ⟨H2,I2,q2⟩=>?_);cases b with
 |true =>
  obtain⟨N,hN,q2⟩:=q2;rw[if_pos rfl];refine wpAny_passesOwn hp (thn (hb jP s2 σ1 H2 _ I2 q2) λ f s3 q3=>?_);cases f with
  |next =>
   obtain⟨σ3,H3,I3,n3⟩:=q3;obtain⟨m',hm,w3⟩:=hN σ3 H3 n3;exact⟨m',hm,σ3,H3,I3,w3⟩
  |cont =>
   obtain⟨σ3,H3,I3,n3⟩:=q3;obtain⟨m',hm,w3⟩:=hN σ3 H3 n3;exact⟨m',hm,σ3,H3,I3,w3⟩
  |brk=>exact q3
  |ret v=>exact q3
 |false =>
  rw[if_neg Bool.false_ne_true];exact wpAny_execs_nil ⟨σ1,H2,I2,q2⟩
end
structure It where
 go:Nat->Hp->Prop
 yld:Nat->Hp->V->Hp->Prop
 stop:Nat->Hp->Prop
def FpOk (X:Cx) (jP:List 54) (H:Hp) (b:Addr):Prop :=
 H b=none/\b≠X.env.locals/\b∉X.fs/\(b∈X.ex\/X.s₀.heap.objs.size<=b)/\(∀x c,X.env.cells.lookup x=some c->c≠b)/\∀p∈X.pn++jP,p.1≠b
theorem Inv.fpOk {X:Cx}{jP:List 54}{σ:St}{H H':Hp}{s:Shared}{b:Addr}(I:Inv X jP σ H s) (hb:s.heap.objs.size<=b) (hn:H' b=none):FpOk X jP H' b:=by
 refine⟨hn,Nat.ne_of_gt (lZ I.lt hb),I.nofs hb,.inr (mH I.sz hb),λ x c e z=>?_,λ p hp z=>?_⟩
 ·obtain⟨v,q⟩:=I.cell x c e
  exact absurd (lZ q.lt (by rw[z];exact hb)) (Nat.lt_irrefl _)
 ·exact absurd (lZ (lH (I.pin p hp).1) (by rw[z];exact hb)) (Nat.lt_irrefl _)
structure Turn (P:Program) (w:World) (K:W.Frag) (tg:Expr) (J:It) (fp:List Addr) (it:Addr) (tn:Nat->Heap->Prop):Prop where
 mem:it∈fp
 obj:∀i h,tn i h->∀b∈fp,∃o,h.get? b=some o/\∀v,o.data ≠ .cell v
 keep:∀i h h',tn i h->(∀b∈fp,∀o,h.get? b=some o->h'.get? b=some o)->tn i h'
 item:∀(X:Cx),X.prog=P->X.w=w->X.K=K->X.calm=true->∀(i:Nat) (jP:List 54) (s:Shared) (σ:St) (H:Hp) (E:XQ),Inv X jP σ H s->(∀b∈fp,FpOk X jP H b)->tn i s.heap->J.go i H ->
  wpAny (model P w) X.A (pyNext (.ref it)) (λ r s1=>∃u,r=some u /\
   wpAny (model P w) X.A (letOwnedTupleGo tg (.ref it) u) (λ Ω s2=>∃x H',Inv X jP σ H' s2/\RelV x u/\J.yld i H x H'/\tn (i+1) s2.heap/\∀b∈fp,H' b=none) E s1) E s
 done:∀(X:Cx),X.prog=P->X.w=w->X.K=K->X.calm=true->∀(i:Nat) (jP:List 54) (s:Shared) (σ:St) (H:Hp) (E:XQ),Inv X jP σ H s->(∀b∈fp,FpOk X jP H b)->tn i s.heap->J.stop i H ->
  wpAny (model P w) X.A (pyNext (.ref it)) (λ r s1=>r=none/\Inv X jP σ H s1) E s
 self:∀(A:Around) (i:Nat) (s:Shared) (Q:XQ) (E:XQ),tn i s.heap->Q (.ref it) s->wpAny (model P w) A (pyIter (.ref it)) Q E s
abbrev TI:=St->Hp->(It->Hp->Prop)->Prop
def PIE (X:Cx) (jP:List 54) (σ:St) (tg:Expr) (R:It->Hp->Prop) (itv:Value) (s2:Shared):Prop :=
 ∃(it:Addr) (fp:List Addr) (tn:Nat->Heap->Prop) (J:It) (H':Hp),itv = .ref it/\Inv X jP σ H' s2/\Turn X.prog X.w X.K tg J fp it tn/\tn 0 s2.heap/\(∀b∈fp,FpOk X jP H' b)/\R J H'
def PI (X:Cx) (tg iter:Expr) (wi:TI):Prop :=
 ∀(jP:List 54) (s:Shared) (σ:St) (H:Hp) (R:It->Hp->Prop),Inv X jP σ H s->wi σ H R ->
  wpAny 48 X.A (eval iter X.env) (λ v s1=>wpAny 48 X.A (pyIter v) (PIE X jP σ tg R) X.xe s1) X.xe s
theorem go_of {M:Model}{A:Around}{E:XQ}{s:Shared}{tg:Expr}{it:Addr}{u:Value}{o:Obj}{n:String}{vs:Array Value}{Q:Unit->Shared->Prop}(ho:s.heap.get? it=some o) (hc:o.cls = .type n) (hd:o.data = .fields vs)
    (hn:["enumerate", "zip", "dict_itemiterator", "dict_reverseitemiterator", "odict_iterator", "itertools.zip_longest", "itertools.pairwise"].contains n=false) (hQ:Q () s):wpAny M A (letOwnedTupleGo tg (.ref it) u) Q E s:=by
  unfold letOwnedTupleGo
  cases tg<;>first
    |exact lB hQ
    | (cases u<;>first
        |exact lB hQ
        | (refine lA (wpAny_load ho ?_)
           rw[hc,hd];show wpAny M A (if (["enumerate", "zip", "dict_itemiterator", "dict_reverseitemiterator", "odict_iterator", "itertools.zip_longest", "itertools.pairwise"].contains n && vs[0]? == some (rawInt _))=true then _ else _) Q E s;rw[if_neg (by intro h;rw[hn,Bool.false_and] at h;cases h)];exact lB hQ))
noncomputable def Itl (K:W.Frag) (a:Addr):It :=
 ⟨λ i H=>∃xs x,SqL K H a xs/\xs[i]?=some x,λ i H x H'=>H'=H/\∀xs,SqL K H a xs->xs[i]?=some x,λ i H=>∃xs,SqL K H a xs/\xs.length<=i⟩
noncomputable def Itt (K:W.Frag) (a:Addr):It :=
 ⟨λ i H=>∃xs x,SqT K H a xs/\xs[i]?=some x,λ i H x H'=>H'=H/\∀xs,SqT K H a xs->xs[i]?=some x,λ i H=>∃xs,SqT K H a xs/\xs.length<=i⟩
noncomputable def Itr (lo:Int) (n:Nat):It:=⟨λ i Ω=>i<n,λ i H x H'=>H'=H/\x = .int (lo+i),λ i Ω=>n<=i⟩
theorem zG7 {P:Program}{w:World}{K:W.Frag}{tg:Expr}(a it:Addr):Turn P w K tg (Itl K a) [it] it (λ i h=>h.IsListIter it a i) where
 mem:=by simp
 obj:=λ i h st b hb=>by
  have e:b=it:=by simpa using hb
  subst e;obtain⟨o,e,c,d⟩:=st;exact⟨o,e,λ v z=>by rw[d] at z;cases z⟩
 keep:=λ i h h' st k=>st.at λ o e=>k it 41 o e
 item:=by
  intro X hP hw hK hc i jP s σ H E I hf st hg;subst hP hw hK;obtain⟨xs,x,hq,hx⟩:=hg;obtain⟨its,rv,p,hz⟩:=I.list hq;obtain⟨u,hu,ru⟩:=rv.get hx;obtain⟨f0,f1,f2,f3,f4,f5⟩:=hf it 41;refine wpAny_pyNext_list_item st p.isList (x:=u) (by simpa using hu) λ h' st' sb=>?_;have I1:Inv X jP σ H { s with heap:=h' }:=I.turned (t':=s.toks) (λ b o hb e=>(sb.2 b hb).trans e) f0 f1 f3 f4 f5;obtain⟨o,e,c,d⟩:=id st';exact⟨u,rfl,go_of (s:={ s with heap:=h' }) e c d 46 ⟨x,H,I1,ru,⟨rfl,λ ys hy=>by rw[I.list_inj hy hq];exact hx⟩,st',λ b hb=>(hf b hb).1⟩⟩
 done:=by
  intro X hP hw hK hc i jP s σ H E I hf st hg;subst hP hw hK;obtain⟨xs,hq,hx⟩:=hg;obtain⟨its,rv,p,hz⟩:=I.list hq;obtain⟨f0,f1,f2,f3,f4,f5⟩:=hf it 41;have hl:=rv.length;exact wpAny_pyNext_list_end (I.ok.hd hc) st p.isList (by simp;lia) λ h' eb=>⟨rfl,I.turned (t':=s.toks) (λ b o hb e=>eb b o hb e) f0 f1 f3 f4 f5⟩
 self:=λ Ω Ω Ω Ω Ω st h=>wpAny_pyIter_listiter st h
theorem zGd {P:Program}{w:World}{K:W.Frag}{tg:Expr}(a it:Addr):Turn P w K tg (Itt K a) [it] it (λ i h=>h.IsTupleIter it a i) where
 mem:=by simp
 obj:=λ i h st b hb=>by
  have e:b=it:=by simpa using hb
  subst e;obtain⟨o,e,c,d⟩:=st;exact⟨o,e,λ v z=>by rw[d] at z;cases z⟩
 keep:=λ i h h' st k=>st.at λ o e=>k it 41 o e
 item:=by
  intro X hP hw hK hc i jP s σ H E I hf st hg;subst hP hw hK;obtain⟨xs,x,hq,hx⟩:=hg;obtain⟨its,rv,p,hz⟩:=I.tuple hq;obtain⟨u,hu,ru⟩:=rv.get hx;obtain⟨f0,f1,f2,f3,f4,f5⟩:=hf it 41;refine wpAny_pyNext_tuple_item st (show s.heap.IsTuple a its.toArray from p) (x:=u) (by simpa using hu) λ h' st' sb=>?_;have I1:Inv X jP σ H { s with heap:=h' }:=I.turned (t':=s.toks) (λ b o hb e=>(sb.2 b hb).trans e) f0 f1 f3 f4 f5;obtain⟨o,e,c,d⟩:=id st';exact⟨u,rfl,go_of (s:={ s with heap:=h' }) e c d 46 ⟨x,H,I1,ru,⟨rfl,λ ys hy=>by rw[I.tuple_inj hy hq];exact hx⟩,st',λ b hb=>(hf b hb).1⟩⟩
 done:=by
  intro X hP hw hK hc i jP s σ H E I hf st hg;subst hP hw hK;obtain⟨xs,hq,hx⟩:=hg;obtain⟨its,rv,p,hz⟩:=I.tuple hq;obtain⟨f0,f1,f2,f3,f4,f5⟩:=hf it 41;have hl:=rv.length;exact wpAny_pyNext_tuple_end (I.ok.hd hc) st (show s.heap.IsTuple a its.toArray from p) (by simp;lia) λ h' eb=>⟨rfl,I.turned (t':=s.toks) (λ b o hb e=>eb b o hb e) f0 f1 f3 f4 f5⟩
 self:=λ Ω Ω Ω Ω Ω st h=>wpAny_pyIter_tupleiter st h
theorem zGe {P:Program}{w:World}{K:W.Frag}{tg:Expr}(it:Addr) (lo:Int) (n:Nat):Turn P w K tg (Itr lo n) [it] it (λ i h=>IsRangeIter h it (lo+(i:Nat) * 1) ((n:Int) - (i:Nat)) 1) where
 mem:=by simp
 obj:=λ i h st b hb=>by
  have e:b=it:=by simpa using hb
  subst e
  exact⟨_,st,λ v z=>by
   have z':Data.fields _=Data.cell v:=z;cases z'⟩
 keep:=λ i h h' st k=>k it 41 _ st
 item:=by
  intro X hP hw hK hc i jP s σ H E I hf st hg;subst hP hw hK;obtain⟨f0,f1,f2,f3,f4,f5⟩:=hf it 41;have W:=Walks.range (prog:=X.prog) (w:=X.w) (I.ok.hd hc) it lo 1 n;refine W.item i s _ _ hg st λ v h' tk hv st' kk=>?_;obtain⟨t,rfl⟩:=hv;have I1:Inv X jP σ H { s with heap:=h',toks:=tk }:=I.turned (λ b o hb e=>kk b o (by simpa using hb) e) f0 f1 f3 f4 f5;refine⟨_,rfl,go_of (s:={ s with heap:=h',toks:=tk }) (n := "range_iterator") st' rfl rfl 46 ⟨.int (lo+i),H,I1,⟨t,?_⟩,⟨rfl,rfl⟩,st',λ b hb=>(hf b hb).1⟩⟩;rw[Int.mul_one]
 done:=by
  intro X hP hw hK hc i jP s σ H E I hf st hg;subst hP hw hK;obtain⟨f0,f1,f2,f3,f4,f5⟩:=hf it 41;exact wpAny_pyNext_range_end (I.ok.hd hc) st (by have:n<=i:=hg;lia) λ h' eb=>⟨rfl,I.turned (t':=s.toks) (λ b o hb e=>eb b o hb e) f0 f1 f3 f4 f5⟩
 self:=λ Ω Ω Ω Ω Ω st h=>wpAny_pyIter_rangeiter st h
section
variable {X:Cx}{tg:Expr}
def iList (K:W.Frag) (tl:TE):TI:=λ σ H R=>tl σ H λ x H1=>∃a,x = .ref a/\(∃xs,SqL K H1 a xs)/\R (Itl K a) H1
def iTup (K:W.Frag) (tl:TE):TI:=λ σ H R=>tl σ H λ x H1=>∃a,x = .ref a/\(∃xs,SqT K H1 a xs)/\R (Itt K a) H1
theorem zC6 {l:Expr}{tl:TE}(hl:PE X l tl):PI X tg l (iList X.K tl):=by
 intro jP s σ H R I h;refine thn (hl jP s σ H _ I h) λ v s1 ⟨x,H1,I1,r1,q1⟩=>?_;obtain⟨a,e,⟨xs,hq⟩,q⟩:=q1;subst e;cases r1;obtain⟨its,rv,p,hz⟩:=I1.list hq;refine wpAny_pyIter_list p.isList ?_;refine⟨s1.heap.objs.size,[s1.heap.objs.size],_,_,H1,rfl,I1.kept (t':=s1.toks) λ b o e=>lE _ e,zG7 a _,⟨_,lG _ rfl,rfl,rfl⟩,λ b hb=>?_,q⟩;have e:b=s1.heap.objs.size:=by simpa using hb
 subst e;exact I1.fpOk (lR _) (I1.hok.fresh (lR _))
theorem zGM {l:Expr}{tl:TE}(hl:PE X l tl):PI X tg l (iTup X.K tl):=by
 intro jP s σ H R I h;refine thn (hl jP s σ H _ I h) λ v s1 ⟨x,H1,I1,r1,q1⟩=>?_;obtain⟨a,e,⟨xs,hq⟩,q⟩:=q1;subst e;cases r1;obtain⟨its,rv,p,hz⟩:=I1.tuple hq;refine wpAny_pyIter_tuple (show s1.heap.IsTuple a its.toArray from p) ?_;refine⟨s1.heap.objs.size,[s1.heap.objs.size],_,_,H1,rfl,I1.kept (t':=s1.toks) λ b o e=>lE _ e,zGd a _,⟨_,lG _ rfl,rfl,rfl⟩,λ b hb=>?_,q⟩;have e:b=s1.heap.objs.size:=by simpa using hb
 subst e;exact I1.fpOk (lR _) (I1.hok.fresh (lR _))
theorem zIs {jP:List 54}{σ:St}{H:Hp}{s:Shared}{R:It->Hp->Prop}{E:XQ}{lo hi:Int}{t u v:Tok}{tk:Nat}(I:Inv X jP σ H s) (h1:-(2 ^ 62)<=lo) (h2:lo<2 ^ 62) (h3:-(2 ^ 62)<=hi) (h4:hi<2 ^ 62)
  (q:R (Itr lo (hi - lo).toNat) H):wpAny 48 X.A (pyIter (.ref s.heap.objs.size)) (PIE X jP σ tg R) E { s with heap:=s.heap.push { cls:=.type "range", data:=.fields #[.int lo t,.int hi u,.int 1 v] },toks:=tk }:=by
 refine wpAny_pyIter_range (IsRange.new ..) (small_one h1 h2 h3 h4) ?_;have I1:Inv X jP σ H { s with heap:=s.heap.push { cls:=.type "range", data:=.fields #[.int lo t,.int hi u,.int 1 v] },toks:=tk }:=I.kept λ b o e=>lE _ e
 refine⟨(s.heap.push { cls:=.type "range", data:=.fields #[.int lo t,.int hi u,.int 1 v] }).objs.size,[(s.heap.push { cls:=.type "range", data:=.fields #[.int lo t,.int hi u,.int 1 v] }).objs.size],_,_,H,rfl,
  I1.kept (t':=tk) λ b o e=>lE _ e,zGe _ lo (hi - lo).toNat,?_,λ b hb=>?_,q⟩
 ·have e1:lo+((0:Nat):Int) * 1=lo:=by simp
  have e2:(((hi - lo).toNat:Nat):Int) - ((0:Nat):Int)=Builtin.Range.rangeSize lo hi 1:=by rw[rangeSize_one];split<;>lia
  show IsRangeIter _ _ (lo+((0:Nat):Int) * 1) ((((hi - lo).toNat:Nat):Int) - ((0:Nat):Int)) 1;rw[e1,e2];exact lG _ rfl
 ·have e:b=(s.heap.push { cls:=.type "range", data:=.fields #[.int lo t,.int hi u,.int 1 v] }).objs.size:=by simpa using hb
  subst e;exact I1.fpOk (lR _) (I1.hok.fresh (lR _))
def iRng1 (ta:TA):TI:=λ σ H R=>ta σ H λ vs H1=>∃j:Int,vs=[.int j] /\ -(2 ^ 62)<=j/\j<2 ^ 62/\R (Itr 0 j.toNat) H1
theorem zCv {a:Expr}{ta:TA}{p pos:Pos}(hg:Gl X "range") (hm:X.mg "range" = none) (ha:PA X [a] ta) (hs:starEach [a] X.env=[(false,eval a X.env)]:=by rfl):PI X tg (.Call (.Name "range" p) [a] [] pos) (iRng1 ta):=by
 intro jP s σ H R I h;refine Call_ (zDJ I hg hm boot_range (PyProof.Rows.callWith_type1 (thn (ha pos jP s σ H _ I h) λ us s1 ⟨vs,H1,I1,r1,q1⟩=>?_) hs rfl));obtain⟨j,e,q1,q2,q⟩:=q1;subst e;cases r1 with
 |cons r rr =>
  cases rr;obtain⟨t,rfl⟩:=r;exact call_range_1 (zIs I1 31 31 q1 q2 (by simpa using q))
def tFor (wi:TI) (g:TG) (tb:TS):TS:=λ D σ H=>wi σ H λ J H1=>∃W:Nat->Nat->St->Hp->Prop,(∃m,W 0 m σ H1)/\∀i m σ H,W i m σ H ->
 (J.stop i H/\D.nx σ H)\/(J.go i H/\∃N:St->Hp->Prop,68/\∀x H',J.yld i H x H'->g x σ H' λ σ2 H2=>tb { D with nx:=N,ct:=N,bk:=D.nx } σ2 H2)
noncomputable def zE9 (fp:List Addr) (h:Heap):List 54:=fp.filterMap λ b=>(h.get? b).map λ o=>(b,o)
theorem zCY {fp:List Addr}{h:Heap}{b:Addr}{o:Obj}(hb:b∈fp) (e:h.get? b=some o):(b,o)∈zE9 fp h:=List.mem_filterMap.mpr ⟨b,hb,by rw[e];rfl⟩
theorem zHo {fp:List Addr}{h:Heap}{p:Addr × Obj}(hp:p∈zE9 fp h):p.1∈fp/\h.get? p.1=some p.2:=by
 obtain⟨b,hb,e⟩:=List.mem_filterMap.mp hp;cases q:h.get? b with
 |none=>rw[q] at e;cases e
 |some o =>
  rw[q] at e;have e':(b,o)=p:=mE e;subst e';exact⟨hb,q⟩
theorem Inv.pinned {jP:List 54}{σ:St}{H:Hp}{s:Shared}{fp:List Addr}(I:Inv X jP σ H s) (hf:∀b∈fp,FpOk X jP H b) (ho:∀b∈fp,∃o,s.heap.get? b=some o/\∀v,o.data ≠ .cell v):Inv X (jP++zE9 fp s.heap) σ H s :=
 I.pins_of λ p hp=>(lJ.mp hp).elim (λ z=>I.pin p (mB _ z)) λ z=>by
  obtain⟨hb,e⟩:=zHo z;obtain⟨f0,f1,f2,_⟩:=hf p.1 hb;obtain⟨o,e',d⟩:=ho p.1 hb;rw[e] at e';cases e';exact⟨e,f0,f1,f2,d⟩
theorem Inv.unpinned {jP pl:List 54}{σ:St}{H:Hp}{s:Shared}(I:Inv X (jP++pl) σ H s):Inv X jP σ H s:=I.pins_of λ p hp=>I.pin p (mB _ (mG _ hp))
theorem zBQ {iter:Expr}{body:List Stmt}{wi:TI}{g:TG}{tb:TS}{pos:Pos}(hp:PassesOwn 48 X.A X.env X.xe) (hc:X.calm=true) (hi:PI X tg iter wi) (hg:PG X tg g) (hb:PSs X body tb)
  (hs:∀x,foldedSetIterable iter X.env x=pure x:=by intro _;rfl):PS X (.For tg iter body [] pos) (tFor wi g tb):=by
 intro jP s σ H D I h;refine wpAny_For (thn (hi jP s σ H _ I h) λ v s1 h1=>thn h1 λ itv s2 h2=>?_) hs;obtain⟨it,fp,tn,J,H2,e,I2,T,st2,f2,W,⟨m0,w0⟩,turn⟩:=h2;subst e;have stat:∀{H':Hp},(∀b∈fp,H' b=none)->∀b∈fp,FpOk X jP H' b:=λ hn b hb=>⟨hn b hb,(f2 b hb).2⟩;refine codeAny_forLoop_any (λ n s'=>∃i σ' H',Inv X jP σ' H' s'/\tn i s'.heap/\(∀b∈fp,H' b=none)/\W i n σ' H') ?_ m0 ⟨0,σ,H2,I2,st2,λ b hb=>(f2 b hb).1,w0⟩;rintro n s3 ⟨i,σ3,H3,I3,st3,fr3,w3⟩;rcases turn i n σ3 H3 w3 with ⟨stop,qn⟩|⟨go,N,hN,step⟩
 ·refine wpAny_passesOwn hp (thn (T.done X rfl rfl rfl hc i jP s3 σ3 H3 X.xe I3 (stat fr3) st3 stop) λ r s4 ⟨hr,I4⟩=>?_)
  subst hr;exact wpAny_execs_nil ⟨σ3,H3,I4,qn⟩
 ·refine wpAny_passesOwn hp (thn (T.item X rfl rfl rfl hc i jP s3 σ3 H3 X.xe I3 (stat fr3) st3 go) λ r s4 ⟨u,hr,h4⟩=>?_)
  subst hr;refine wpAny_passesOwn hp (thn h4 λ _ s5 ⟨x,H5,I5,r5,y5,st5,fr5⟩=>?_);have I5':=I5.pinned (stat fr5) (T.obj _ _ st5);refine wpAny_passesOwn hp (thn (hg _ s5 σ3 H5 x u _ I5' r5 (step x H5 y5)) λ _ s6 ⟨σ6,H6,I6,q6⟩=>?_);refine wpAny_passesOwn hp (thn (hb _ s6 σ6 H6 _ I6 q6) λ f s7 q7=>?_)
  have again:∀{σ7:St}{H7:Hp},Inv X (jP++zE9 fp s5.heap) σ7 H7 s7->N σ7 H7->∃m,m<n/\∃i σ' H',Inv X jP σ' H' s7/\tn i s7.heap/\(∀b∈fp,H' b=none)/\W i m σ' H':=λ{σ7 H7} I7 n7=>by
   obtain⟨m',hm,w7⟩:=hN σ7 H7 n7;refine⟨m',hm,i+1,σ7,H7,I7.unpinned,T.keep _ _ _ st5 λ b hb o e=>(I7.pin (b,o) (mB _ (mB _ (zCY hb e)))).1,λ b hb=>?_,w7⟩;obtain⟨o,e,d⟩:=T.obj _ _ st5 b hb;exact(I7.pin (b,o) (mB _ (mB _ (zCY hb e)))).2.1
  cases f with
  |next=>obtain⟨σ7,H7,I7,n7⟩:=q7;exact again I7 n7
  |cont=>obtain⟨σ7,H7,I7,n7⟩:=q7;exact again I7 n7
  |brk=>obtain⟨σ7,H7,I7,q7⟩:=q7;exact⟨σ7,H7,I7.unpinned,q7⟩
  |ret v=>obtain⟨x7,σ7,H7,I7,r7,q7⟩:=q7;exact⟨x7,σ7,H7,I7.unpinned,r7,q7⟩
end
theorem zC2 {K:W.Frag}{a:Addr}{xs:List V}{g:TG}{tb:TS}{D:Ends}{σ:St}{H:Hp}(Pv:Nat->St->Hp->Prop) (h0:Pv 0 σ H) (hl:∀i σ H,i<=xs.length->Pv i σ H->SqL K H a xs)
  (hs:∀i x σ H,xs[i]?=some x->Pv i σ H->g x σ H λ σ2 H2=>tb { D with nx:=Pv (i+1),ct:=Pv (i+1),bk:=D.nx } σ2 H2) (hd:∀σ H,Pv xs.length σ H->D.nx σ H) :
  ∃W:Nat->Nat->St->Hp->Prop,(∃m,W 0 m σ H)/\∀i m σ H,W i m σ H ->
   ((Itl K a).stop i H/\D.nx σ H)\/((Itl K a).go i H/\∃N:St->Hp->Prop,68/\∀x H',(Itl K a).yld i H x H'->g x σ H' λ σ2 H2=>tb { D with nx:=N,ct:=N,bk:=D.nx } σ2 H2):=by
 refine⟨λ i m σ H=>m=xs.length - i/\i<=xs.length/\Pv i σ H,⟨xs.length,by simp,lY _,h0⟩,?_⟩;rintro i m σ H ⟨rfl,hi,p⟩;have q:=hl i σ H hi p
 by_cases hlt:i<xs.length
 ·refine .inr ⟨⟨xs,xs[i],q,by simp[hlt]⟩,Pv (i+1),λ σ' H' p'=>⟨xs.length - (i+1),by lia,rfl,hlt,p'⟩,λ x H' y=>?_⟩
  obtain⟨e,y⟩:=y;subst e;exact hs i x σ _ (y xs q) p
 ·have e:i=xs.length:=by lia
  subst e;exact .inl ⟨⟨xs,q,lR _⟩,hd σ H p⟩
theorem zIE {K:W.Frag}{a:Addr}{xs:List V}{g:TG}{tb:TS}{D:Ends}{σ:St}{H:Hp}(Pv:Nat->St->Hp->Prop) (h0:Pv 0 σ H) (hl:∀i σ H,i<=xs.length->Pv i σ H->SqT K H a xs)
  (hs:∀i x σ H,xs[i]?=some x->Pv i σ H->g x σ H λ σ2 H2=>tb { D with nx:=Pv (i+1),ct:=Pv (i+1),bk:=D.nx } σ2 H2) (hd:∀σ H,Pv xs.length σ H->D.nx σ H) :
  ∃W:Nat->Nat->St->Hp->Prop,(∃m,W 0 m σ H)/\∀i m σ H,W i m σ H ->
   ((Itt K a).stop i H/\D.nx σ H)\/((Itt K a).go i H/\∃N:St->Hp->Prop,68/\∀x H',(Itt K a).yld i H x H'->g x σ H' λ σ2 H2=>tb { D with nx:=N,ct:=N,bk:=D.nx } σ2 H2):=by
 refine⟨λ i m σ H=>m=xs.length - i/\i<=xs.length/\Pv i σ H,⟨xs.length,by simp,lY _,h0⟩,?_⟩;rintro i m σ H ⟨rfl,hi,p⟩;have q:=hl i σ H hi p
 by_cases hlt:i<xs.length
 ·refine .inr ⟨⟨xs,xs[i],q,by simp[hlt]⟩,Pv (i+1),λ σ' H' p'=>⟨xs.length - (i+1),by lia,rfl,hlt,p'⟩,λ x H' y=>?_⟩
  obtain⟨e,y⟩:=y;subst e;exact hs i x σ _ (y xs q) p
 ·have e:i=xs.length:=by lia
  subst e;exact .inl ⟨⟨xs,q,lR _⟩,hd σ H p⟩
theorem zCR {lo:Int}{n:Nat}{g:TG}{tb:TS}{D:Ends}{σ:St}{H:Hp}(Pv:Nat->St->Hp->Prop) (h0:Pv 0 σ H)
  (hs:∀i σ H,i<n->Pv i σ H->g (.int (lo+i)) σ H λ σ2 H2=>tb { D with nx:=Pv (i+1),ct:=Pv (i+1),bk:=D.nx } σ2 H2) (hd:∀σ H,Pv n σ H->D.nx σ H) :
  ∃W:Nat->Nat->St->Hp->Prop,(∃m,W 0 m σ H)/\∀i m σ H,W i m σ H ->
   ((Itr lo n).stop i H/\D.nx σ H)\/((Itr lo n).go i H/\∃N:St->Hp->Prop,68/\∀x H',(Itr lo n).yld i H x H'->g x σ H' λ σ2 H2=>tb { D with nx:=N,ct:=N,bk:=D.nx } σ2 H2):=by
 refine⟨λ i m σ H=>m=n - i/\i<=n/\Pv i σ H,⟨n,by simp,lY _,h0⟩,?_⟩;rintro i m σ H ⟨rfl,hi,p⟩
 by_cases hlt:i<n
 ·refine .inr ⟨hlt,Pv (i+1),λ σ' H' p'=>⟨n - (i+1),by lia,rfl,hlt,p'⟩,λ x H' y=>?_⟩
  obtain⟨e,y⟩:=y;subst e y;exact hs i σ _ hlt p
 ·have e:i=n:=by lia
  subst e;exact .inl ⟨lR _,hd σ H p⟩
abbrev R2:=V->V->Hp->VK->Prop
def OpR (X:Cx) (f:Value->Value->Sem Value) (r:R2):Prop :=
 ∀(jP:List 54) (s:Shared) (σ:St) (H:Hp) (x y:V) (v u:Value) (Q:VK),Inv X jP σ H s->RelV x v->RelV y u->r x y H Q ->
  wpAny 48 X.A (f v u) (EP X jP σ Q) X.xe s
def UnR (X:Cx) (f:Value->Sem Value) (r:V->Hp->VK->Prop):Prop :=
 ∀(jP:List 54) (s:Shared) (σ:St) (H:Hp) (x:V) (v:Value) (Q:VK),Inv X jP σ H s->RelV x v->r x H Q ->
  wpAny 48 X.A (f v) (EP X jP σ Q) X.xe s
def CallR (X:Cx) (f:Value) (r:List V->Hp->VK->Prop):Prop :=
 ∀(jP:List 54) (s:Shared) (σ:St) (H:Hp) (xs:List V) (us:List Value) (Q:VK),Inv X jP σ H s->Vals xs us->r xs H Q ->
  wpAny 48 X.A (call f us) (EP X jP σ Q) X.xe s
def TruR (X:Cx) (r:V->Hp->(Bool->Hp->Prop)->Prop):Prop :=
 ∀(jP:List 54) (s:Shared) (σ:St) (H:Hp) (x:V) (v:Value) (Q:Bool->Hp->Prop),Inv X jP σ H s->RelV x v->r x H Q ->
  wpAny 48 X.A (truthy v) (TP X jP σ Q) X.xe s
def tOp (r:R2) (ta tb:TE):TE:=λ σ H Q=>ta σ H λ x H1=>tb σ H1 λ y H2=>r x y H2 Q
def tUn (r:V->Hp->VK->Prop) (ta:TE):TE:=λ σ H Q=>ta σ H λ x H1=>r x H1 Q
inductive rI (C:Int->Int->Prop) (g:Int->Int->V) (x y:V) (H:Hp) (Q:VK):Prop
 |mk (i j:Int) (hx:x = .int i) (hy:y = .int j) (c:C i j) (q:Q (g i j) H)
inductive rI0 (g:Int->Int->V) (x y:V) (H:Hp) (Q:VK):Prop
 |mk (i j:Int) (hx:x = .int i) (hy:y = .int j) (q:Q (g i j) H)
inductive rU (g:Int->V) (x:V) (H:Hp) (Q:VK):Prop
 |mk (i:Int) (hx:x = .int i) (q:Q (g i) H)
section
variable {X:Cx}{a b c:Expr}{ta tb tc:TE}{pos:Pos}
theorem binT (ha:PE X a ta) (hb:PE X b tb) {jP:List 54}{s:Shared}{σ:St}{H:Hp}{R:V->V->Hp->Prop}(I:Inv X jP σ H s)
  (h:ta σ H λ x H1=>tb σ H1 λ y H2=>R x y H2) {Q:XQ}{f:Value->Value->Sem Value}
  (hf:∀v u s2 x y H2,Inv X jP σ H2 s2->RelV x v->RelV y u->R x y H2->wpAny 48 X.A (f v u) Q X.xe s2) :
  wpAny 48 X.A (eval a X.env) (λ v s₁=>wpAny 48 X.A (eval b X.env) (λ u s₂=>wpAny 48 X.A (f v u) Q X.xe s₂) X.xe s₁) X.xe s:=by
 refine thn (ha jP s σ H _ I h) λ v s1 ⟨x,H1,I1,r1,q1⟩=>?_;refine thn (hb jP s1 σ H1 _ I1 q1) λ u s2 ⟨y,H2,I2,r2,q2⟩=>?_;exact hf v u s2 x y H2 I2 r1 r2 q2
theorem pe_op {op:Operator}{r:R2}(ho:OpR X (binaryOp op) r) (ha:PE X a ta) (hb:PE X b tb):PE X (.BinOp a op b pos) (tOp r ta tb):=by
 intro jP s σ H Q I h;exact wpAny_BinOp (binT ha hb I h λ v u s2 x y H2 I2 rx ry q=>ho jP s2 σ H2 x y v u Q I2 rx ry q)
theorem pe_un {op:UnaryOp}{r:V->Hp->VK->Prop}(ho:UnR X (unaryOp op) r) (ha:PE X a ta):PE X (.UnaryOp op a pos) (tUn r ta):=by
 intro jP s σ H Q I h;exact UnaryOp_ (thn (ha jP s σ H _ I h) λ v s1 ⟨x,H1,I1,r1,q1⟩=>ho jP s1 σ H1 x v Q I1 r1 q1)
theorem opI {f:Value->Value->Sem Value}{C:Int->Int->Prop}{g:Int->Int->Int}
  (rule:∀(i j:Int) (t u:Tok) (s:Shared) (Q:XQ) (E:XQ),C i j->Q (.int (g i j) s.toks) { s with toks:=s.toks+1 }->wpAny 48 X.A (f (.int i t) (.int j u)) Q E s) :
  OpR X f (rI C λ i j=>.int (g i j)):=by
 intro jP s σ H x y v u Q I rx ry h;obtain⟨i,j,rfl,rfl,hc,q⟩:=h;obtain⟨t,rfl⟩:=rx;obtain⟨t',rfl⟩:=ry;exact rule i j t t' s _ _ hc ⟨.int (g i j),H,I.tok _,43,q⟩
theorem opI0 {f:Value->Value->Sem Value}{g:Int->Int->Int}
  (rule:∀(i j:Int) (t u:Tok) (s:Shared) (Q:XQ) (E:XQ),Q (.int (g i j) s.toks) { s with toks:=s.toks+1 }->wpAny 48 X.A (f (.int i t) (.int j u)) Q E s) :
  OpR X f (rI0 λ i j=>.int (g i j)):=by
 intro jP s σ H x y v u Q I rx ry h;obtain⟨i,j,rfl,rfl,q⟩:=h;obtain⟨t,rfl⟩:=rx;obtain⟨t',rfl⟩:=ry;exact rule i j t t' s _ _ ⟨.int (g i j),H,I.tok _,43,q⟩
theorem opB0 {f:Value->Value->Sem Value}{g:Int->Int->Bool}
  (rule:∀(i j:Int) (t u:Tok) (s:Shared) (Q:XQ) (E:XQ),Q (.bool (g i j)) s->wpAny 48 X.A (f (.int i t) (.int j u)) Q E s) :
  OpR X f (rI0 λ i j=>.bl (g i j)):=by
 intro jP s σ H x y v u Q I rx ry h;obtain⟨i,j,rfl,rfl,q⟩:=h;obtain⟨t,rfl⟩:=rx;obtain⟨t',rfl⟩:=ry;exact rule i j t t' s _ _ ⟨.bl (g i j),H,I,rfl,q⟩
def CDiv (i j:Int):Prop:=0<j/\j<1073741824
def CPow (i j:Int):Prop:=0<=j/\j<=1000000/\i.natAbs<2 ^ 64
def CMul (i j:Int):Prop:=(-(2 ^ 64)<i/\i<2 ^ 64)\/(-(2 ^ 64)<j/\j<2 ^ 64)
theorem CMul.ok {i j:Int}(h:CMul i j):IntMulOk i j:=by
 rcases h with ⟨h1,h2⟩|⟨h1,h2⟩
 ·exact .of_left (intBits_le_64 h1 h2)
 ·exact .of_right (intBits_le_64 h1 h2)
theorem zA8:OpR X (binaryOp .Add) (rI0 λ i j=>.int (i+j)):=opI0 λ Ω Ω Ω Ω Ω Ω Ω q=>add_int q
theorem zHh:OpR X (binaryOp .Sub) (rI0 λ i j=>.int (i - j)):=opI0 λ Ω Ω Ω Ω Ω Ω Ω q=>sub_int q
theorem zHk:OpR X (binaryOp .Mult) (rI CMul λ i j=>.int (i * j)):=opI λ Ω Ω Ω Ω Ω Ω Ω hc q=>mul_int q hc.ok
theorem zAr:OpR X (binaryOp .FloorDiv) (rI CDiv λ i j=>.int (i / j)):=opI λ i j Ω Ω Ω Ω Ω hc q=>by
 have h1:(0:Int)<j:=hc.1;have h2:j<1073741824:=hc.2;exact floordiv_int 31 (by rw[Int.fdiv_eq_ediv_of_nonneg i 31];exact q) (.inl (PyProof.noPylong_small 31))
theorem zAa:OpR X (binaryOp .Mod) (rI (λ Ω j=>0<j) λ i j=>.int (i % j)):=opI λ i j Ω Ω Ω Ω Ω hc q=>by
 have h1:(0:Int)<j:=hc;exact mod_int' 31 (by rw[Int.fmod_eq_emod_of_nonneg i 31];exact q)
theorem zDI:OpR X (binaryOp .Pow) (rI CPow λ i j=>.int (i ^ j.toNat)):=opI λ Ω Ω Ω Ω Ω Ω Ω hc q=>pow_int_small hc.1 hc.2.1 hc.2.2 q
theorem unI {f:Value->Sem Value}{g:Int->Int}
  (rule:∀(i:Int) (t:Tok) (s:Shared) (Q:XQ) (E:XQ),Q (.int (g i) s.toks) { s with toks:=s.toks+1 }->wpAny 48 X.A (f (.int i t)) Q E s) :
  UnR X f (rU λ i=>.int (g i)):=by
 intro jP s σ H x v Q I rx h;obtain⟨i,rfl,q⟩:=h;obtain⟨t,rfl⟩:=rx;exact rule i t s _ _ ⟨.int (g i),H,I.tok _,43,q⟩
theorem zG5:UnR X (unaryOp .USub) (rU λ i=>.int (-i)):=unI λ Ω Ω Ω Ω Ω q=>neg_int q
end
noncomputable def scal:V->V->Bool
 |.non,.non=>true|.non,.int _=>true|.int _,.non=>true|.non,.bl _=>true|.bl _,.non=>true|.non,.str _=>true|.str _,.non=>true
 |.int _,.int _=>true|.bl _,.bl _=>true|.str _,.str _=>true|.byt _,.byt _=>true
 |.int _,.str _=>true|.str _,.int _=>true|.bl _,.str _=>true|.str _,.bl _=>true
 |_,_=>false
def rEq:R2:=λ x y H Q=>scal x y=true/\Q (.bl (decide (x=y))) H
def rNe:R2:=λ x y H Q=>scal x y=true/\Q (.bl (!decide (x=y))) H
theorem zIN {i j:Int}:decide (V.int i=V.int j)=(i == j):=by
 rw[Bool.eq_iff_iff];simp
theorem zKE {i j:Bool}:decide (V.bl i=V.bl j)=(i == j):=by
 rw[Bool.eq_iff_iff];simp
theorem zIM {i j:Str}:decide (V.str i=V.str j)=(i == j):=by
 rw[Bool.eq_iff_iff];simp
theorem zIO {i j:Array UInt8}:decide (V.byt i=V.byt j)=(i.toList == j.toList):=by
 rw[Bool.eq_iff_iff];cases i;cases j;simp
section
variable {X:Cx}{a b c:Expr}{ta tb tc:TE}{pos:Pos}
theorem zAx {jP:List 54}{σ:St}{H:Hp}{s:Shared}{Q:VK}{k k':Bool}(I:Inv X jP σ H s) (q:Q (.bl k) H) (e:k=k'):EP X jP σ Q (.bool k') s:=by
 subst e;exact⟨.bl k,H,I,rfl,q⟩
theorem op_eq:OpR X (compareOp .Eq) rEq:=by
 intro jP s σ H x y v u Q I rx ry h;obtain⟨hs,q⟩:=h;cases x with
 |non =>
  cases rx;cases y with
  |non=>cases ry;exact PySem.EqNone.eq_none_none (zAx I q 41)
  |bl j=>cases ry;exact PySem.EqNone.eq_none_bool (zAx I q 41)
  |int j=>obtain⟨t',rfl⟩:=ry;exact PySem.EqNone.eq_none_int (zAx I q 41)
  |str j=>obtain⟨t',rfl⟩:=ry;exact PySem.EqNone.eq_none_str (zAx I q 41)
  |_=>exact absurd (show false=true from hs) lX
 |bl i =>
  cases rx;cases y with
  |non=>cases ry;exact PySem.EqNone.eq_bool_none (zAx I q 41)
  |bl j=>cases ry;exact eq_bool (zAx I q zKE)
  |str j=>obtain⟨t',rfl⟩:=ry;exact PySem.EqMixed.eq_bool_str (zAx I q 41)
  |_=>exact absurd (show false=true from hs) lX
 |int i =>
  obtain⟨t,rfl⟩:=rx;cases y with
  |non=>cases ry;exact PySem.EqNone.eq_int_none (zAx I q 41)
  |int j=>obtain⟨t',rfl⟩:=ry;exact eq_int (zAx I q zIN)
  |str j=>obtain⟨t',rfl⟩:=ry;exact PySem.EqMixed.eq_int_str (zAx I q 41)
  |_=>exact absurd (show false=true from hs) lX
 |str i =>
  obtain⟨t,rfl⟩:=rx;cases y with
  |non=>cases ry;exact PySem.EqNone.eq_str_none (zAx I q 41)
  |bl j=>cases ry;exact PySem.EqMixed.eq_str_bool (zAx I q 41)
  |int j=>obtain⟨t',rfl⟩:=ry;exact PySem.EqMixed.eq_str_int (zAx I q 41)
  |str j=>obtain⟨t',rfl⟩:=ry;exact eq_str (zAx I q zIM)
  |_=>exact absurd (show false=true from hs) lX
 |byt i =>
  obtain⟨t,rfl⟩:=rx;cases y with
  |byt j=>obtain⟨t',rfl⟩:=ry;exact W.eq_bytes (zAx I q zIO)
  |_=>exact absurd (show false=true from hs) lX
 |_=>cases y<;>exact absurd (show false=true from hs) lX
theorem op_ne:OpR X (compareOp .NotEq) rNe:=by
 intro jP s σ H x y v u Q I rx ry h;obtain⟨hs,q⟩:=h;cases x with
 |non =>
  cases rx;cases y with
  |non=>cases ry;exact PySem.EqNone.ne_none_none (zAx I q 41)
  |bl j=>cases ry;exact PySem.EqNone.ne_none_bool (zAx I q 41)
  |int j=>obtain⟨t',rfl⟩:=ry;exact PySem.EqNone.ne_none_int (zAx I q 41)
  |str j=>obtain⟨t',rfl⟩:=ry;exact PySem.EqNone.ne_none_str (zAx I q 41)
  |_=>exact absurd (show false=true from hs) lX
 |bl i =>
  cases rx;cases y with
  |non=>cases ry;exact PySem.EqNone.ne_bool_none (zAx I q 41)
  |bl j=>cases ry;exact ne_bool (zAx I q (congrArg not zKE))
  |str j=>obtain⟨t',rfl⟩:=ry;exact PySem.EqMixed.ne_bool_str (zAx I q 41)
  |_=>exact absurd (show false=true from hs) lX
 |int i =>
  obtain⟨t,rfl⟩:=rx;cases y with
  |non=>cases ry;exact PySem.EqNone.ne_int_none (zAx I q 41)
  |int j=>obtain⟨t',rfl⟩:=ry;exact ne_int (zAx I q (congrArg not zIN))
  |str j=>obtain⟨t',rfl⟩:=ry;exact PySem.EqMixed.ne_int_str (zAx I q 41)
  |_=>exact absurd (show false=true from hs) lX
 |str i =>
  obtain⟨t,rfl⟩:=rx;cases y with
  |non=>cases ry;exact PySem.EqNone.ne_str_none (zAx I q 41)
  |bl j=>cases ry;exact PySem.EqMixed.ne_str_bool (zAx I q 41)
  |int j=>obtain⟨t',rfl⟩:=ry;exact PySem.EqMixed.ne_str_int (zAx I q 41)
  |str j=>obtain⟨t',rfl⟩:=ry;exact ne_str (zAx I q (congrArg not zIM))
  |_=>exact absurd (show false=true from hs) lX
 |byt i =>
  obtain⟨t,rfl⟩:=rx;cases y with
  |byt j=>obtain⟨t',rfl⟩:=ry;exact W.ne_bytes (zAx I q (congrArg not zIO))
  |_=>exact absurd (show false=true from hs) lX
 |_=>cases y<;>exact absurd (show false=true from hs) lX
theorem op_lt:OpR X (compareOp .Lt) (rI0 λ i j=>.bl (decide (i<j))):=opB0 λ Ω Ω Ω Ω Ω Ω Ω q=>lt_int q
theorem op_le:OpR X (compareOp .LtE) (rI0 λ i j=>.bl (decide (i<=j))):=opB0 λ Ω Ω Ω Ω Ω Ω Ω q=>le_int q
theorem op_gt:OpR X (compareOp .Gt) (rI0 λ i j=>.bl (decide (j<i))):=opB0 λ Ω Ω Ω Ω Ω Ω Ω q=>gt_int q
theorem op_ge:OpR X (compareOp .GtE) (rI0 λ i j=>.bl (decide (j<=i))):=opB0 λ Ω Ω Ω Ω Ω Ω Ω q=>ge_int q
theorem zKg:OpR X (compareOp .IsNot) (λ x y H Q=>y = .non/\Q (.bl (!decide (x = .non))) H):=by
  intro jP s σ H x y v u Q I rx ry h;obtain⟨rfl,q⟩:=h;cases ry;refine isnot_none_gen (zAx I q ?_)
  cases x<;>first
    | (cases rx;rfl)
    | (obtain⟨t,rfl⟩:=rx;rfl)
theorem zAe (b:Expr) {op:CmpOp}(h:op ≠ .In:=by decide) (h2:op ≠ .NotIn:=by decide):behindInMarks op b=false:=by
 have e1:(op == CmpOp.In)=false:=by cases op<;>first|rfl|exact absurd rfl h
 have e2:(op == CmpOp.NotIn)=false:=by cases op<;>first|rfl|exact absurd rfl h2
 cases b<;>simp[behindInMarks,e1,e2]
theorem zFi {op:CmpOp}{r:R2}(ho:OpR X (compareOp op) r) (ha:PE X a ta) (hb:PE X b tb) (hm:behindInMarks op b=false):PE X (.Compare a [op] [b] pos) (tOp r ta tb):=by
 intro jP s σ H Q I h;exact wpAny_Compare1 (binT ha hb I h λ v u s2 x y H2 I2 rx ry q=>ho jP s2 σ H2 x y v u Q I2 rx ry q) hm
def tTest (t:TE):TT:=λ σ H Q=>t σ H (IsB Q)
theorem zAT {op:CmpOp}{r:R2}(ho:OpR X (compareOp op) r) (ha:PE X a ta) (hb:PE X b tb) (hm:behindInMarks op b=false):PT X (.Compare a [op] [b] pos) (tTest (tOp r ta tb)):=by
 intro jP s σ H Q I h
 refine wpAny_isTrue_Compare1 (thn (ha jP s σ H _ I h) λ v s1 ⟨x,H1,I1,r1,q1⟩=>thn (hb jP s1 σ H1 _ I1 q1) λ u s2 ⟨y,H2,I2,r2,q2⟩ =>
  thn (ho jP s2 σ H2 x y v u _ I2 r1 r2 q2) λ c s3 ⟨z,H3,I3,r3,k,e,q3⟩=>?_) hm
 subst e;cases r3;exact wpAny_truthy_bool ⟨H3,I3,q3⟩
def zLH (r r':R2) (ta tb tc:TE):TE:=λ σ H Q=>ta σ H λ x H1=>tb σ H1 λ y H2=>r x y H2 λ z H3=>∃k,z = .bl k /\
 (if k=true then tc σ H3 λ w' H4=>r' y w' H4 Q else Q (.bl false) H3)
theorem zGP {op op':CmpOp}{r r':R2}(ho:OpR X (compareOp op) r) (ho':OpR X (compareOp op') r') (ha:PE X a ta) (hb:PE X b tb) (hc:PE X c tc)
  (hm:lastMarks [op,op'] [b,c]=false:=by with_unfolding_all rfl):PE X (.Compare a [op,op'] [b,c] pos) (zLH r r' ta tb tc):=by
 intro jP s σ H Q I h
 refine Compare_chain (thn (ha jP s σ H _ I h) λ v s1 ⟨x,H1,I1,r1,q1⟩=>chain_link (thn (hb jP s1 σ H1 _ I1 q1) λ u s2 ⟨y,H2,I2,r2,q2⟩ =>
  thn (ho jP s2 σ H2 x y v u _ I2 r1 r2 q2) λ d s3 ⟨z,H3,I3,r3,k,e,q3⟩=>?_)) hm
 subst e;cases r3;refine wpAny_truthy_bool ?_;cases k with
 |false=>exact ite_ff ⟨.bl false,H3,I3,rfl,q3⟩
 |true=>exact ite_tt (chain_last (thn (hc jP s3 σ H3 _ I3 q3) λ w' s4 ⟨z',H4,I4,r4,q4⟩=>ho' jP s4 σ H4 y z' u w' Q I4 r2 r4 q4))
def TruV (K:W.Frag) (x:V) (H:Hp) (k:Bool):Prop :=
 match x with
 |.non=>k=false
 |.bl b=>k=b
 |.int i=>k=(i != 0)
 |.str y=>y.length<=sizeLine/\k=((y.length:Int) != 0)
 |.byt y=>y.size<=sizeLine/\k=((y.size:Int) != 0)
 |.ref p=>(∃xs,SqL K H p xs/\k=!xs.isEmpty)\/(∃xs,SqT K H p xs/\k=!xs.isEmpty)\/∃kvs,H p=some 84/\k=!kvs.isEmpty
 |_=>False
theorem zGv {κ:Type}{kvs:List (κ × V)}{vs:List (κ × Value)}(r:KV kvs vs):(!vs.isEmpty)=!kvs.isEmpty:=by
 cases r<;>rfl
theorem zEK {xs:List V}{its:List Value}(r:Vals xs its):(!its.toArray.isEmpty)=!xs.isEmpty:=by
 cases r<;>simp
theorem zFI:(sizeLine:Nat)<2 ^ 63:=by rw[sizeLine_eq];decide
theorem zK4:TruR X (λ x H Q=>∃k,TruV X.K x H k/\Q k H):=by
 intro jP s σ H x v Q I rx h;obtain⟨k,e,q⟩:=h;have hl:=zFI;have hs:sizeLine=16777216:=sizeLine_eq;cases x with
 |non =>
  cases rx;have e':k=false:=e;subst e';exact truthy_none ⟨H,I,q⟩
 |bl b =>
  cases rx;have e':k=b:=e;subst e';exact wpAny_truthy_bool ⟨H,I,q⟩
 |int i =>
  obtain⟨t,rfl⟩:=rx;have e':k=(i != 0):=e;subst e';exact PySem.P.truthy_int ⟨H,I,q⟩
 |str y =>
  obtain⟨t,rfl⟩:=rx;obtain⟨hy,e'⟩:y.length<=sizeLine/\k=((y.length:Int) != 0):=e;subst e';exact PySem.P.truthy_str 31 ⟨H,I.tok _,q⟩
 |byt y =>
  obtain⟨t,rfl⟩:=rx;obtain⟨hy,e'⟩:y.size<=sizeLine/\k=((y.size:Int) != 0):=e;subst e';exact W.truthy_bytes 31 ⟨H,I.tok _,q⟩
 |ref p =>
  cases rx;have e':(∃xs,SqL X.K H p xs/\k=!xs.isEmpty)\/(∃xs,SqT X.K H p xs/\k=!xs.isEmpty)\/∃kvs,H p=some 84/\k=!kvs.isEmpty:=e;rcases e' with ⟨xs,hx,e'⟩|⟨xs,hx,e'⟩|⟨kvs,hx,e'⟩
  ·subst e'
   obtain⟨its,r,pl,hz⟩:=I.list hx;have hlen:=r.length;exact wpAny_truthy_list pl.isList (by simp only[mD];lia) ⟨H,I.tok _,by rw[zEK r];exact q⟩
  ·subst e'
   obtain⟨its,r,pl,hz⟩:=I.tuple hx;have hlen:=r.length;exact truthy_tuple pl (by simp only[mD];lia) ⟨H,I.tok _,by rw[zEK r];exact q⟩
  ·subst e'
   obtain⟨hz,hS,vs,r,m⟩:kvs.length<=sizeLine/\(p == sysModules)=false/\∃vs,KV kvs vs/\s.heap.DictOf (zAn X.prog X.w) p vs:=I.hok p _ hx;have hlen:kvs.length=vs.length:=Paired.length r;exact wpAny_truthy_dict hS m 31 ⟨H,I.tok _,by rw[zGv r];exact q⟩
 |_=>exact(show False from e).elim
theorem zDP (ha:PE X a ta) (he:∀whole,isTrue a X.env whole=(do let v ← whole;standAt a.pos;holding [v] (truthy v))) :
    PT X a (λ σ H Q=>ta σ H λ x H'=>∃k,TruV X.K x H' k/\Q k H'):=by
  intro jP s σ H Q I h;exact isTrue_plain (thn (ha jP s σ H _ I h) λ v s1 ⟨x,H1,I1,r1,q1⟩=>zK4 jP s1 σ H1 x v Q I1 r1 q1) (he _)
theorem vals1 {x:V}{us:List Value}(r:Vals [x] us):∃u,us=[u]/\RelV x u:=by
 cases r with
 |cons r1 r2=>cases r2;exact⟨_,rfl,r1⟩
theorem vals2 {x y:V}{us:List Value}(r:Vals [x,y] us):∃u w',us=[u,w']/\RelV x u/\RelV y w':=by
 cases r with
 |cons r1 r2 =>
  cases r2 with
  |cons r3 r4=>cases r4;exact⟨_,_,rfl,r1,r3⟩
theorem zIZ (hc:X.calm=true):CallR X (.builtin "min") (λ xs H Q=>E2 λ i j=>xs=[.int i,.int j]/\Q (.int (if j<i then j else i)) H):=by
 intro jP s σ H xs us Q I r h;obtain⟨i,j,rfl,q⟩:=h;obtain⟨u,w',rfl,⟨t,rfl⟩,⟨t',rfl⟩⟩:=vals2 r;refine min_two_ints (I.ok.hd hc) λ h' tk k=>⟨_,H,I.kept k,?_,q⟩
 by_cases hj:j<i
 ·rw[if_pos hj,if_pos hj];exact⟨_,rfl⟩
 ·rw[if_neg hj,if_neg hj];exact⟨_,rfl⟩
end
structure ObjM (h:Heap) (x dx C:Addr) (mA:Str->Option Value):Prop where
 obj:h.get? x=some (W.instObj C dx)
 ns:h.Ns1 dx mA
 ne:dx≠x
set_option tactic.hygienic true in
theorem zHw {h:Heap}{dx:Addr}{mA:Str->Option Value}(n:h.Ns1 dx mA):∃od,h.get? dx=some od/\∀name,W.lookIn name od=some (mA name):=by
 obtain⟨o,es,ep,ho,hd,hk,_,hm⟩:=n;refine⟨o,ho,λ name=>?_⟩;have e:=hm name;unfold nsFind findBy at e;rw[←Array.find?_toList] at e;unfold W.lookIn;rw[hd];dsimp only;split
 ·rename_i y q
  rw[q] at e;exact congrArg some e
 ·rename_i q
  rw[q] at e
  have a:es.toList.any (·.refKey)=false:=by
   rw[List.any_eq_false];intro y hy;obtain⟨z,t,hkey⟩:=hk y (Array.mem_toList_iff.mp hy);simp[DictEntry.refKey,hkey]
  have a':¬es.toList.any (·.refKey)=true:=by rw[a];exact lX
  rw[if_neg a'];exact congrArg some e
theorem ObjM.look {h:Heap}{x dx C:Addr}{mA:Str->Option Value}(I:ObjM h x dx C mA):∃od,W.InstAt h x (W.instObj C dx) C (some od)/\∀name,W.lookIn name od=some (mA name) :=
 let ⟨od,ho,hl⟩:=zHw I.ns
 ⟨od,⟨I.obj,rfl,rfl,ho⟩,hl⟩
theorem RelO.some_of {v:V}{o:Option Value}(r:RelO (some v) o):∃u,o=some u/\RelV v u:=by
 cases o with
 |none=>exact(show False from r).elim
 |some u=>exact⟨u,rfl,r⟩
section
variable {P:Program}{w:World}{H H':Hp}{h h':Heap}{a C dx:Addr}{fs fs':List (Str × V)}
theorem zKs (hok:HOk P w H h) (e:H a=some (.ins C dx fs)):∃mA,ObjM h a dx C mA/\(∀f,RelO (fs.lookup f) (mA f))/\PySem.Within mA (fs.map (·.1))/\fs.length<=1000/\H dx=some (.own a):=by
 obtain⟨d,z,ne,ob,mA,n,r,q⟩:=(show ObjOk P w H h a (.ins C dx fs) from hok a _ e);exact⟨mA,⟨ob,n,ne⟩,r,q,z,d⟩
end
structure Cls (K:W.Frag) (C:Addr):Prop where
 pg:W.plainGet K C Str.empty=true
 hd:W.hasDictIn K C=true
 po:W.plainOver K C=true
 sa:W.findIn K (.ref C) "__setattr__" = some (some (.builtin "object.__setattr__"))
theorem Cls.get {K:W.Frag}{C:Addr}(c:Cls K C) (f:Str):W.plainGet K C f=true:=c.pg
section
variable {X:Cx}{jP:List (Addr × Obj)}{σ:St}{H:Hp}{s:Shared}{a C dx:Addr}{fs:List (Str × V)}{f:Str}{v:V}{A:Around}{E:XQ}
theorem zK0 {prog:Program}{w:World}{env:Env}{e:Expr}{f:Str}{pos:Pos}{s:Shared}{Q:XQ}(hb:attributeBase e f env (eval e env)=eval e env)
  (h:wpAny 45 A (eval e env) (λ o s₁=>wpAny 45 A (getAttr o f true) Q E s₁) E s):wpAny 45 A (eval (.Attribute e f pos) env) Q E s :=
 Attribute_any_ h (by rw[arm_eval_Attribute,hb])
end
section
variable {X:Cx}{jP:List (Addr × Obj)}{σ:St}{H:Hp}{s:Shared}{A:Around}{E:XQ}{Q:XQ}{c:Value}{b:Bool}
inductive TyOf (K:W.Frag) (H:Hp):V->Value->Prop where
 |non:TyOf K H .non (.type "NoneType")
 |bl (x:Bool):TyOf K H (.bl x) (.type "bool")
 |int (i:Int):TyOf K H (.int i) (.type "int")
 |str (x:Str):TyOf K H (.str x) (.type "str")
 |flt (x:UInt64):TyOf K H (.flt x) (.type "float")
 |lst {a:Addr}{xs:List V}(e:H a=some (.lst xs)):TyOf K H (.ref a) (.type "list")
 |frz {a:Addr}{o:Obj}{xs:List V}(e:H a=some (.frz o (.lst xs))):TyOf K H (.ref a) (.type "list")
 |tup {a:Addr}{xs:List V}(e:H a=some (.tup xs)):TyOf K H (.ref a) (.type "tuple")
 |dK {a:Addr}{kvs:List (Key × V)}(e:H a=some (.dK kvs)):TyOf K H (.ref a) (.type "dict")
 |dT {a:Addr}{kvs:List (List Key × V)}(e:H a=some (.dT kvs)):TyOf K H (.ref a) (.type "dict")
 |ins {a C dx:Addr}{fs:List (Str × V)}(e:H a=some (.ins C dx fs)) (cl:Cls K C) (ha:W.findIn K (.ref C) "__class__" = some (some (.builtin "object.__class__")))
   (hn:W.specialIn K (.builtin "object.__class__") "__get__" = some (some (.builtin "getset_descriptor.__get__"))) (htk:W.takesIn K (.builtin "object.__class__")=some true)
   (hm:W.mroIn K C (.type "object")=some true):TyOf K H (.ref a) (.ref C)
theorem zH6 {x:V}{u t:Value}(I:Inv X jP σ H s) (rx:RelV x u) (ty:TyOf X.K H x t) (e:W.kitOne X.K t c=some b) (h:∀tk,Q (.bool b) { s with toks:=tk }) :
  wpAny 48 A (call (.builtin "isinstance") [u,c]) Q E s:=by
 cases ty with
 |non=>cases (show u=Value.none from rx);exact W.kia_one W.kitx_none I.kIn True.intro e (λ z=>nomatch z) h
 |bl y=>cases (show u=Value.bool y from rx);exact W.kia_one W.kitx_bool I.kIn True.intro e (λ z=>nomatch z) h
 |int i=>obtain⟨t,q⟩:=(show ∃t,u=Value.int i t from rx);cases q;exact W.kia_one W.kitx_int I.kIn True.intro e (λ z=>nomatch z) h
 |str y=>obtain⟨t,q⟩:=(show ∃t,u=Value.str y t from rx);cases q;exact W.kia_one W.kitx_str I.kIn True.intro e (λ z=>nomatch z) h
 |flt y=>obtain⟨t,q⟩:=(show ∃t,u=Value.float y t from rx);cases q;exact W.kia_one W.kitx_float I.kIn True.intro e (λ z=>nomatch z) h
 | @lst a xs ea =>
  cases (show u=Value.ref a from rx);obtain⟨_,_,n,_,h1⟩:=(show ObjOk X.prog X.w H s.heap a (.lst xs) from I.hok a _ ea);exact W.kia_one W.kitx_list I.kIn ⟨_,h1,rfl⟩ e (λ z=>nomatch z) h
 | @frz a ob xs ea =>
  cases (show u=Value.ref a from rx);obtain⟨_,_,_,n,_,h1⟩:=(show ObjOk X.prog X.w H s.heap a (.frz ob (.lst xs)) from I.hok a _ ea);exact W.kia_one W.kitx_list I.kIn ⟨_,h1,rfl⟩ e (λ z=>nomatch z) h
 | @tup a xs ea =>
  cases (show u=Value.ref a from rx);obtain⟨_,_,_,p⟩:=(show ObjOk X.prog X.w H s.heap a (.tup xs) from I.hok a _ ea);obtain⟨o,h1,h2,_⟩:=p;exact W.kia_one W.kitx_tuple I.kIn ⟨o,h1,h2⟩ e (λ z=>nomatch z) h
 | @dK a kvs ea =>
  cases (show u=Value.ref a from rx);obtain⟨_,_,vs,_,p⟩:=(show ObjOk X.prog X.w H s.heap a 84 from I.hok a _ ea);obtain⟨o,es,ep,h1,h2,_⟩:=p;exact W.kia_one W.kitx_dict I.kIn ⟨o,h1,h2.1⟩ e (λ z=>nomatch z) h
 | @dT a kvs ea =>
  cases (show u=Value.ref a from rx);obtain⟨_,_,xs,_,o,es,ep,h1,h2,_⟩:=(show ObjOk X.prog X.w H s.heap a (.dT kvs) from I.hok a _ ea);exact W.kia_one W.kitx_dict I.kIn ⟨o,h1,h2.1⟩ e (λ z=>nomatch z) h
 | @ins a C dx fs ea cl ha hn htk hm =>
  cases (show u=Value.ref a from rx);obtain⟨mA,O,_⟩:=zKs I.hok ea;obtain⟨od,J,_⟩:=O.look;exact W.kia_one (W.kitx_own (cl.get _) cl.hd ha hn htk hm) I.kIn J e (λ z=>nomatch z) h
end
structure Room (k:Nat) (A:Around):Prop where
 hd:A.handled=none
 dp:A.depth+3 * k+5<recursionLimit
 un:A.units+16 * k+200<cLine
 gd:A.guards=some []
theorem Room.mono {j k:Nat}{A:Around}(r:Room k A) (h:j<=k):Room j A:=⟨r.hd,by have:=r.dp;lia,by have:=r.un;lia,r.gd⟩
theorem Room.deeper {k:Nat}{A:Around}(r:Room (k+1) A) (env:Env):Room k (A.deeper env) :=
 ⟨r.hd,by have:=r.dp;show A.depth+1+3 * k+5<_;lia,by have:=r.un;show A.units+3+16 * k+200<_;lia,r.gd⟩
theorem zGs {A:Around}{C:Addr}{us:List Value}{kw:List (Str × Value)}:(A.under (.builtin "type.__call__" ⟨.ref C::us,kw⟩)).depth=A.depth+1:=by
 first|rfl|simp[Around.under,Code.weight,Code.isCreation,Code.isGuard,Code.isCaller,Code.frames,Code.isFrame,guardIds]
theorem zGr {A:Around}{C:Addr}{us:List Value}{kw:List (Str × Value)}:(A.under (.builtin "type.__call__" ⟨.ref C::us,kw⟩)).units=A.units+1:=by
 first|rfl|simp[Around.under,Code.cUnits,Code.frames,Code.isFrame]
theorem zFo {A:Around}{C:Addr}{us:List Value}{kw:List (Str × Value)}:(A.under (.builtin "type.__call__" ⟨.ref C::us,kw⟩)).guards=A.guards:=by
 first|rfl|simp[Around.under,pushGuards,Code.guards,Code.isGuard,guardIds]
theorem Room.make {k:Nat}{A:Around}(r:Room (k+1) A) (C:Addr) (us:List Value) (kw:List (Str × Value)):Room k (A.under (.builtin "type.__call__" ⟨.ref C::us,kw⟩)) :=
 ⟨r.hd,by have:=r.dp;rw[zGs];lia,by have:=r.un;rw[zGr];lia,by rw[zFo];exact r.gd⟩
theorem Room.depth {k:Nat}{A:Around}(r:Room k A):A.depth<recursionLimit:=by have:=r.dp;lia
theorem Room.units {k:Nat}{A:Around}(r:Room k A):A.units+64<cLine:=by have:=r.un;lia
theorem Room.units0 {k:Nat}{A:Around}(r:Room k A):A.units<cLine:=by have:=r.un;lia
def tNil:TA:=λ Ω H Q=>Q [] H
def tCons (ta:TE) (tr:TA):TA:=λ σ H Q=>ta σ H λ x H1=>tr σ H1 λ xs H2=>Q (x::xs) H2
section
variable {X:Cx}{e:Expr}{es:List Expr}{te:TE}{t:TA}{pos:Pos}
theorem zAB:PA X [] tNil:=λ Ω Ω Ω Ω H Q I h=>Calls.spliced_nil ⟨[],H,I,.nil,h⟩
theorem zAA (ha:PE X e te) (hr:PA X es t) (hs:starEach (e::es) X.env=(false,eval e X.env)::starEach es X.env:=by rfl):PA X (e::es) (tCons te t):=by
 intro pos jP s σ H Q I h;rw[hs];show wpAny _ _ (spliced ((false,eval e X.env)::backTo pos (starEach es X.env))) _ _ s;refine Calls.spliced_cons (thn (ha jP s σ H _ I h) λ u s1 ⟨x,H1,I1,r1,q1⟩=>?_);exact thn (hr pos jP s1 σ H1 _ I1 q1) λ us s2 ⟨xs,H2,I2,r2,q2⟩=>⟨x::xs,H2,I2,.cons r1 r2,q2⟩
def tTup (t:TA):TE:=λ σ H Q=>t σ H λ xs H1=>xs.length<=sizeLine/\∀p,H1 p=none->Q (.ref p) (upd H1 p (.tup xs))
def tLst (t:TA):TE:=λ σ H Q=>t σ H λ xs H1=>xs.length<=sizeLine/\∀p,H1 p=none->Q (.ref p) (upd H1 p (.lst xs))
theorem zAc {x1} (h:PA X es t):PE X (.Tuple es x1 pos) (tTup t):=by
 intro jP s σ H Q I hq;refine wpAny_Tuple_spliced (thn (h pos jP s σ H _ I hq) λ us s1 ⟨xs,H1,I1,r,z,q⟩=>⟨by rw[←r.length];exact z,?_⟩);have hf:H1 s1.heap.objs.size=none:=I1.hok.fresh (lR _);refine⟨.ref s1.heap.objs.size,upd H1 s1.heap.objs.size (.tup xs),I1.laid (t':=s1.toks) (λ b u e=>lE _ e) (lR _) ?_,rfl,q _ hf⟩;exact⟨z,us,r,⟨_,lG _ rfl,rfl,_,rfl⟩⟩
theorem zBv (h:PA X es t):PE X (.List es pos) (tLst t):=by
 intro jP s σ H Q I hq;refine wpAny_List_spliced (thn (h pos jP s σ H _ I hq) λ us s1 ⟨xs,H1,I1,r,z,q⟩=>⟨by rw[←r.length];exact z,?_⟩);have hf:H1 s1.heap.objs.size=none:=I1.hok.fresh (lR _);refine⟨.ref s1.heap.objs.size,upd H1 s1.heap.objs.size (.lst xs),I1.laid (t':=s1.toks) (λ b u e=>lE _ e) (lR _) ?_,rfl,q _ hf⟩;exact⟨z,us,0,r,lG _ rfl⟩
end
abbrev Sp:=List V->Hp->VK->XK->Prop
abbrev CXT:=List Env->Hp->Shared->XK->Value->Shared->Prop
structure Env0 (P:Program) (w:World) (K:W.Frag) (mg:Str->Option Value) (base:Heap) (A:Around) (outer:List Env) (s:Shared) (H:Hp):Prop where
 frames:A.frames=some outer
 mod:Mod K mg base
 bs:∀b o,base.get? b=some o->s.heap.get? b=some o/\H b=none
 bsz:base.objs.size<=s.heap.objs.size
 funs:s.heap.FunFrames base outer
 frf:∀b∈frs outer,H b=none
 hok:HOk P w H s.heap
 bare:AllBare s.gens
def CE (outer:List Env) (P:Program) (w:World) (H:Hp) (s:Shared) (Q:VK) (u:Value) (s':Shared):Prop :=
 ∃v H',s'.os=s.os/\AllBare s'.gens/\Un (frs outer) [] H H' s.heap s'.heap/\HOk P w H' s'.heap/\RelV v u/\Q v H'
def CR (CX:CXT) (outer:List Env) (P:Program) (w:World) (H:Hp) (s:Shared) (Q:VK) (E:XK) (r:Result) (s':Shared):Prop :=
 match r with
 |.ok (.ret u)=>CE outer P w H s Q u s'
 |.ok _=>False
 |.error e=>CX outer H s E e s'
structure FnOk (P:Program) (w:World) (K:W.Frag) (mg:Str->Option Value) (base:Heap) (CX:CXT) (k:Nat) (f:Addr) (fd:FuncData) (ps:List Str) (sp:Sp):Prop where
 len:∀vs H Q E,sp vs H Q E->vs.length=ps.length
 run:∀(A:Around) (outer:List Env) (s:Shared) (H:Hp) (args:Args) (us:List Value) (vs:List V) (Q:VK) (E:XK),Room k A->Env0 P w K mg base A outer s H->BindsTo s fd args (ps.zip us)->Vals vs us->sp vs H Q E ->
  codeAny (model P w) A (.call (.ref f) args) (CR CX outer P w H s Q E) s
theorem FnOk.mono {P:Program}{w:World}{K:W.Frag}{mg:Str->Option Value}{base:Heap}{CX:CXT}{j k:Nat}{f:Addr}{fd:FuncData}{ps:List Str}{sp:Sp}(F:FnOk P w K mg base CX j f fd ps sp) (h:j<=k) :
  FnOk P w K mg base CX k f fd ps sp:=⟨F.len,λ A outer s H args us vs Q E hr=>F.run A outer s H args us vs Q E (hr.mono h)⟩
theorem Env0.make {P:Program}{w:World}{K:W.Frag}{mg:Str->Option Value}{base:Heap}{A:Around}{outer:List Env}{s:Shared}{H:Hp}(e:Env0 P w K mg base A outer s H) (C:Addr) (us:List Value) (kw:List (Str × Value)) :
  Env0 P w K mg base (A.under (.builtin "type.__call__" ⟨.ref C::us,kw⟩)) outer s H:=⟨by first|exact e.frames|(simpa[Around.under,Code.envs,Code.isFrame,pushEnvs] using e.frames),e.mod,e.bs,e.bsz,e.funs,e.frf,e.hok,e.bare⟩
section
variable {X:Cx}{jP:List (Addr × Obj)}{σ:St}{H:Hp}{s s':Shared}
theorem Inv.env0 (I:Inv X jP σ H s):Env0 X.prog X.w X.K X.mg X.base X.A X.stack s H :=
 ⟨I.ok.frames,I.ok.mod,I.bs,mH I.ok.bsz I.sz,I.stack,I.stkFree,I.hok,I.bare⟩
theorem Inv.after {Q:VK}{u:Value}(I:Inv X jP σ H s) (h:CE X.stack X.prog X.w H s Q u s'):EP X jP σ Q u s':=by
 obtain⟨v,H',os,bare,un,hok,r,q⟩:=h;obtain⟨hh,g,d,t,os'⟩:=s';obtain rfl:os'=s.os:=os;exact⟨v,H',I.call (h':=hh) (g':=g) (d':=d) (t':=t) (ch:=[]) un hok bare (λ b z=>absurd z 41),r,q⟩
end
def tCall (sp:Sp) (dvs:List V) (E:XK) (t:TA):TE:=λ σ H Q=>t σ H λ vs H1=>sp (vs++dvs) H1 Q E
def Binds (K:W.Frag) (fd:FuncData) (ps:List Str) (ds:List Value):Prop :=
 ∀(s:Shared) (us:List Value),K.In s.heap->(us++ds).length=ps.length->BindsTo s fd ⟨us,[]⟩ (ps.zip (us++ds))
theorem Binds.all {K:W.Frag}{fd:FuncData}{ps:List Str}(h:∀us:List Value,us.length=ps.length->bindArgs fd ⟨us,[]⟩=pure (ps.zip us)):Binds K fd ps []:=λ s us Ω hl=>by
 rw[nX] at hl ⊢;exact .of_eq (h us hl)
def zEO (CX:CXT) (X:Cx) (E:XK):Prop:=∀(jP:List 54) (σ:St) (H:Hp) (s:Shared) (e:Value) (s':Shared),Inv X jP σ H s->CX X.stack H s E e s'->X.xe e s'
section
variable {X:Cx}{CX:CXT}{k:Nat}{f C:Addr}{fd:FuncData}{ps:List Str}{sp:Sp}{dvs:List V}{ds:List Value}{E:XK}{x m:Str}{p pos apos:Pos}{e o:Expr}{es:List Expr}{ta:TE}{t:TA}
theorem zLO {jP:List 54}{σ:St}{H:Hp}{s:Shared}{Q:VK}{us:List Value}{vs:List V}(F:FnOk X.prog X.w X.K X.mg X.base CX k f fd ps sp) (hr:Room k X.A) (hb:Binds X.K fd ps ds) (hd:Vals dvs ds) (hx:zEO CX X E)
  (I:Inv X jP σ H s) (r:Vals vs us) (h:sp (vs++dvs) H Q E):wpAny 48 X.A (call (.ref f) us) (EP X jP σ Q) X.xe s:=by
 have r2:Vals (vs++dvs) (us++ds):=r.append hd;have hl:(us++ds).length=ps.length:=by rw[←r2.length];exact F.len _ _ _ _ h
 refine wpAny_call (codeAny_mono (F.run X.A X.stack s H ⟨us,[]⟩ (us++ds) (vs++dvs) Q E hr I.env0 (hb s us I.kIn hl) r2 h) λ r s' hq=>?_);cases r with
 |error e=>exact hx jP σ H s e s' I hq
 |ok fl =>
  cases fl with
  |ret u=>exact I.after hq
  |next=>exact False.elim hq
  |brk=>exact False.elim hq
  |cont=>exact False.elim hq
theorem zBP (F:FnOk X.prog X.w X.K X.mg X.base CX k f fd ps sp) (hr:Room k X.A) (hg:Gl X x) (hm:X.mg x=some (.ref f)) (hk:W.keepIn X.K (.ref f)=true) (hb:Binds X.K fd ps ds) (hd:Vals dvs ds) (hx:zEO CX X E)
  (ha:PA X (e::es) t) (hdb:78=false:=by decide) (he:starEach (e::es) X.env=(false,eval e X.env)::starEach es X.env:=by rfl) (hpl:(backTo pos (starEach es X.env)).any (·.1)=false:=by rfl) :
  PE X (.Call (.Name x p) (e::es) [] pos) (tCall sp dvs E t):=by
 intro jP s σ H Q I h;refine wpAny_Call_Name_kw (zCP I hg hm ?_ hdb);refine W.callWith_K (h₀:=X.base) I.ok.mod.kin hk (thn (ha pos jP s σ H _ I h) λ us s1 ⟨vs,H1,I1,r,q⟩=>⟨I1.kIn,?_⟩) he hpl;exact zLO F hr hb hd hx I1 r q
end
structure zAX (N P:List Str) (sc:Scope):Prop where
 kind:sc.kind = .function
 co:sc.isCoroutine=false
 gen:sc.isGenerator=false
 nd:N.Nodup
 pre:N.take P.length=P
 par:∀x∈P,sc.names.lookup x=some .local\/sc.names.lookup x=some .cell
 nofree:∀y∈sc.names,y.2 ≠ .free
theorem scI {N P:List Str}{sc:Scope}(a:sc.kind=.function:=by rfl)(b:sc.isCoroutine=false:=by rfl)(c:sc.isGenerator=false:=by rfl)(d:N.Nodup:=by symm)(e:N.take P.length=P:=by rfl)(f:∀x∈P,sc.names.lookup x=some .local\/sc.names.lookup x=some .cell:=by symm)(g:∀y∈sc.names,y.2≠.free:=by symm):zAX N P sc:=⟨a,b,c,d,e,f,g⟩
theorem zFT {kindOf:Str->Option NameKind}{x:Str}:∀{binds:List (Str × Value)}{m:Str->Option Value},(∀v,(x,v)∉binds)->bindL kindOf binds m x=m x
 |[],_,_=>rfl
 | (n,v)::r,m,h=>by
  unfold bindL;rw[zFT λ w hw=>h w (List.mem_cons_of_mem _ hw)];split
  ·have:x≠n:=by rintro rfl;exact h v lP
   simp[this]
  ·rfl
theorem zFV {kindOf:Str->Option NameKind}{x:Str}:∀{binds:List (Str × Value)}{m:Str->Option Value},(∀v,(x,v)∉binds)->bindC kindOf binds m x=m x
 |[],_,_=>rfl
 | (n,v)::r,m,h=>by
  unfold bindC;rw[zFV λ w hw=>h w (List.mem_cons_of_mem _ hw)];split
  ·rfl
  ·have:x≠n:=by rintro rfl;exact h v lP
   simp[this]
theorem zFU {kindOf:Str->Option NameKind}{x:Str}{v:Value}:∀{P:List Str}{vs:List Value}{i:Nat}{m:Str->Option Value},P.Nodup->P[i]?=some x->vs[i]?=some v->kindOf x=some .local ->
  bindL kindOf (P.zip vs) m x=some v
 |[],_,_,_,_,h,_,_=>by simp at h
 |_::_,[],_,_,_,_,h,_=>by simp at h
 |p::P,w::vs,0,m,nd,h1,h2,hk=>by
  simp at h1 h2;subst h1;subst h2;show bindL kindOf ((p,w)::P.zip vs) m p=_;unfold bindL;rw[zFT λ v hv=>(rL.mp nd).1 (List.of_mem_zip hv).1,if_pos hk];simp
 |p::P,w::vs,i+1,m,nd,h1,h2,hk=>by
  show bindL kindOf ((p,w)::P.zip vs) m x=_;unfold bindL;exact zFU (i:=i) (rL.mp nd).2 (by simpa using h1) (by simpa using h2) hk
theorem zFW {kindOf:Str->Option NameKind}{x:Str}{v:Value}:∀{P:List Str}{vs:List Value}{i:Nat}{m:Str->Option Value},P.Nodup->P[i]?=some x->vs[i]?=some v->kindOf x≠some .local ->
  bindC kindOf (P.zip vs) m x=some v
 |[],_,_,_,_,h,_,_=>by simp at h
 |_::_,[],_,_,_,_,h,_=>by simp at h
 |p::P,w::vs,0,m,nd,h1,h2,hk=>by
  simp at h1 h2;subst h1;subst h2;show bindC kindOf ((p,w)::P.zip vs) m p=_;unfold bindC;rw[zFV λ v hv=>(rL.mp nd).1 (List.of_mem_zip hv).1,if_neg hk];simp
 |p::P,w::vs,i+1,m,nd,h1,h2,hk=>by
  show bindC kindOf ((p,w)::P.zip vs) m x=_;unfold bindC;exact zFW (i:=i) (rL.mp nd).2 (by simpa using h1) (by simpa using h2) hk
noncomputable def start (N:List Str) (vs:List V):St:=vs.map some++List.replicate (N.length - vs.length) none
noncomputable def cxOf (CX:CXT) (P:Program) (w:World) (K:W.Frag) (mg:Str->Option Value) (base:Heap) (N:List Str) (qual:Str) (scope:Scope) (f:Addr) (cd:Value) (A:Around) (outer:List Env) (s:Shared) (H:Hp) (E:XK):Cx where
 prog:=P
 w:=w
 K:=K
 mg:=mg
 base:=base
 A:=A.deeper (envOfC qual scope s.heap.objs.size f cd)
 N:=N
 s₀:=s
 H₀:=H
 env:=envOfC qual scope s.heap.objs.size f cd
 outer:=outer
 stack:=envOfC qual scope s.heap.objs.size f cd::outer
 ex:=[]
 calm:=true
 fn:=λ Ω=>true
 pn:=[]
 xe:=λ e s'=>wpAny (model P w) (A.deeper (envOfC qual scope s.heap.objs.size f cd)) (leaving (envOfC qual scope s.heap.objs.size f cd) e) (λ Ω s''=>CX outer H s E e s'') (λ e' s''=>CX outer H s E e' s'') s'
theorem zGb {sc:Scope}{n:Nat}{x:Str}(h:sc.names.lookup x=some .cell):∃c,(cellsFrom n sc.names []).lookup x=some c:=by
 have q:=W.cellsFrom_some sc.names n [] (.inl h);exact Option.isSome_iff_exists.mp q
theorem zH8 {CX:CXT}{P:Program}{w:World}{K:W.Frag}{mg:Str->Option Value}{base:Heap}{N ps:List Str}{qual:Str}{scope:Scope}{f:Addr}{cd:Value}{A:Around}{outer:List Env}{s s1:Shared}{H:Hp}{E:XK}{us:List Value}{vs:List V}
  (S:zAX N ps scope) (hd:A.handled=none) (e0:Env0 P w K mg base A outer s H) (hl:vs.length=ps.length) (r:Vals vs us)
  (x:InCallC s s.heap.objs.size (bindL (envOfC qual scope s.heap.objs.size f cd).kindOf (ps.zip us) λ Ω=>none) (cellsFrom (s.heap.objs.size+1) scope.names []) (bindC (envOfC qual scope s.heap.objs.size f cd).kindOf (ps.zip us) λ Ω=>none) s1) :
  Inv (cxOf CX P w K mg base N qual scope f cd A outer s H E) [] (start N vs) H s1:=by
 have hpl:ps.length<=N.length:=by have:=congrArg List.length S.pre;rw[mQ] at this;lia
 obtain⟨h1,tk,rfl,hk⟩:=x.done;have noA:∀b:Addr,b∉(cxOf CX P w K mg base N qual scope f cd A outer s H E).ex:=λ b z=>absurd (show b∈([]:List Addr) from z) 41
 refine⟨⟨e0.mod,S.kind,rfl,rfl,lR _,λ y z c h1 h2=>?_,λ y hy=>?_,λ y c Ω h=>?_,λ Ω=>hd,Around.frames_deeper e0.frames,.inr ⟨rfl,rfl⟩,λ b z=>absurd z (noA b),e0.bs,e0.bsz,λ b Ω Ω=>noA b,λ b z=>absurd z (noA b),e0.funs,e0.frf⟩,
  rfl,e0.bare,Un.kept hk,⟨_,x.toInCall.ns,λ i y v h1 h2 h3=>?_⟩,λ y c h=>⟨_,x.cell y c h⟩,e0.hok.fresh (lR _),λ y c h=>?_,λ p hp=>absurd (show p∈([]:List 54) from hp) 41,e0.hok.kept hk,?_⟩
 ·exact name_of_addr x.apart (PySem.mem_of_lookup h1) (PySem.mem_of_lookup h2)
 ·have hy:scope.names.lookup y=some .cell\/scope.names.lookup y=some .free:=hy
  rcases hy with hy|hy
  ·exact zGb hy
  ·exact absurd rfl (S.nofree _ (PySem.mem_of_lookup hy))
 ·exact Nat.le_of_lt (x.above y c (PySem.mem_of_lookup h))
 ·have hi:i<vs.length:=by
   unfold start at h2
   by_cases hi:i<vs.length
   ·exact hi
   ·rw[nA (by simpa using hi)] at h2
    rw[List.getElem?_replicate] at h2;split at h2<;>cases h2
  have ha:vs[i]?=some v:=by
   unfold start at h2;rw[mZ (by simpa using hi),mI] at h2;cases e:vs[i]? with
   |none=>rw[e] at h2;cases h2
   |some a=>rw[e] at h2;cases h2;rfl
  obtain⟨u,hu,rv⟩:=r.get ha
  have hp:ps[i]?=some y:=by
   rw[←S.pre,List.getElem?_take_of_lt 31];exact h1
  have ndP:ps.Nodup:=by rw[←S.pre];exact S.nd.sublist (List.take_sublist _ _)
  refine⟨u,rv,?_⟩;rcases S.par y (lK hp) with k|k
  ·exact .inl ⟨k,zFU ndP hp hu k⟩
  ·obtain⟨c,e⟩:=zGb (n:=s.heap.objs.size+1) k
   refine .inr ⟨.inl k,c,e,?_⟩;have q:=x.cell y c e;rw[zFW ndP hp hu (by show scope.names.lookup y≠_;rw[k];decide)] at q;exact q
 ·exact e0.hok.fresh (Nat.le_of_lt (x.above y c (PySem.mem_of_lookup h)))
 ·unfold start
  show _=N.length;rw[mK,lC,List.length_replicate]
  lia
theorem fn_of {CX:CXT}{P:Program}{w:World}{K:W.Frag}{mg:Str->Option Value}{base:Heap}{k:Nat}{f:Addr}{name qual:Str}{params:Arguments}{body:List Stmt}{scope:Scope}{dV kV doc pm cdv ct oc:Value}{an od:Option Addr}
  {osl:Array (Option Value)}{N ps:List Str}{sp:Sp}(lk:K.lookup f=some ⟨oc,od,.func (W.fnOf name qual params body scope dV kV doc pm an cdv ct),osl⟩) (hcd:W.codeIn K cdv qual=true) (S:zAX N ps scope)
  (len:∀vs H Q E,sp vs H Q E->vs.length=ps.length)
  (hbody:∀(A:Around) (outer:List Env) (s:Shared) (H:Hp) (vs:List V) (Q:VK) (E:XK),Room k (A.deeper (envOfC qual scope s.heap.objs.size f cdv))->sp vs H Q E ->
   ∃t,PSs (cxOf CX P w K mg base N qual scope f cdv A outer s H E) body t/\t { nx:=λ Ω H'=>Q .non H',rt:=Q } (start N vs) H) :
  FnOk P w K mg base CX (k+1) f (W.fnOf name qual params body scope dV kV doc pm an cdv ct) ps sp:=by
 refine⟨len,λ A outer s H args us vs Q E hr e0 hb r hsp=>?_⟩;have hl:=len _ _ _ _ hsp;have KX:K.In s.heap:=e0.mod.kin.keeps λ b o e=>(e0.bs b o e).1;have lim:s.heap.NoLimit:=e0.mod.nolimit.keeps λ b o e=>(e0.bs b o e).1
 have hkind:∀y∈ps.zip us,scope.names.lookup y.1=some .local\/(scope.names.lookup y.1=some .cell/\((cellsFrom (s.heap.objs.size+1) scope.names []).lookup y.1).isSome=true):=λ⟨n,v⟩ hy=>by
  rcases S.par n (List.of_mem_zip hy).1 with q|q
  ·exact .inl q
  ·exact .inr ⟨q,W.cellsFrom_some _ _ _ (.inl q)⟩
 refine codeAny_call_function hr.depth (KX _ _ lk) rfl S.co S.gen rfl (W.codeRec_of KX hcd) (hb _ _ _ _ ?_);refine wpAny_newFunctionEnv_cells S.kind hkind λ env he s1 x=>?_;subst he;refine⟨lim.keeps x.toInCall.keep,codeAny_func ?_⟩;obtain⟨t,ht,hq⟩:=hbody A outer s H vs Q E (hr.deeper _) hsp;have I:Inv (cxOf CX P w K mg base N qual scope f cdv A outer s H E) [] (start N vs) H s1:=zH8 S hr.hd e0 hl r x;refine wpAny_mono (ht [] s1 (start N vs) H _ I hq) (λ fl s' hs=>?_) λ e s' hs=>hs
 have fin:∀{σ':St}{H':Hp}{v:V}{u:Value},Inv (cxOf CX P w K mg base N qual scope f cdv A outer s H E) [] σ' H' s'->RelV v u->Q v H'->CE outer P w H s Q u s' :=
  λ{σ' H' v u} J rv q=>⟨v,H',J.os,J.bare,J.base,J.hok,rv,q⟩
 cases fl with
 |ret u =>
  obtain⟨v,σ',H',J,rv,q⟩:=hs;exact fin J rv q
 |next =>
  obtain⟨σ',H',J,q⟩:=hs;exact fin (v:=V.non) (u:=Value.none) J rfl q
 |brk =>
  obtain⟨_,_,_,q⟩:=hs;exact False.elim q
 |cont =>
  obtain⟨_,_,_,q⟩:=hs;exact False.elim q
section
variable {X:Cx}{x:Str}{p pos:Pos}{e:Expr}{es:List Expr}{t:TA}{id T:String}{r:List V->Hp->VK->Prop}
def tCB (r:List V->Hp->VK->Prop) (t:TA):TE:=λ σ H Q=>t σ H λ vs H1=>r vs H1 Q
theorem zAI (hc:CallR X (.builtin id) r) (hg:Gl X x) (hm:X.mg x=none) (hv:bootBuiltins x=some (.builtin id)) (ha:PA X (e::es) t) (hn:x ≠ "__name__" := by decide) (hdb:78=false:=by decide)
  (he:starEach (e::es) X.env=(false,eval e X.env)::starEach es X.env:=by rfl) (hpl:(backTo pos (starEach es X.env)).any (·.1)=false:=by rfl):PE X (.Call (.Name x p) (e::es) [] pos) (tCB r t):=by
 intro jP s σ H Q I h;refine wpAny_Call_Name_kw (zDJ I hg hm hv ?_ hn hdb);exact PyProof.Rows.callWith_builtin1 (thn (ha pos jP s σ H _ I h) λ us s1 ⟨vs,H1,I1,r1,q1⟩=>hc jP s1 σ H1 vs us Q I1 r1 q1) he hpl
theorem zDg (hc:CallR X (.type T) r) (hg:Gl X x) (hm:X.mg x=none) (hv:bootBuiltins x=some (.type T)) (ha:PA X (e::es) t) (hn:x ≠ "__name__" := by decide) (hdb:78=false:=by decide)
  (he:starEach (e::es) X.env=(false,eval e X.env)::starEach es X.env:=by rfl) (hpl:(backTo pos (starEach es X.env)).any (·.1)=false:=by rfl):PE X (.Call (.Name x p) (e::es) [] pos) (tCB r t):=by
 intro jP s σ H Q I h;refine wpAny_Call_Name_kw (zDJ I hg hm hv ?_ hn hdb);exact PyProof.Rows.callWith_type1 (thn (ha pos jP s σ H _ I h) λ us s1 ⟨vs,H1,I1,r1,q1⟩=>hc jP s1 σ H1 vs us Q I1 r1 q1) he hpl
end
end L2
namespace HT
open PySem PyProof.Rows
section
variable {prog:Program}{w:World}{A:Around}{E:XQ}{s:Shared}
theorem cat_tup {t b:Addr}{vs ws:List Value}{Q:XQ}(ht:IsTup s.heap t vs.toArray) (hb:IsTup s.heap b ws.toArray) (hv:vs≠[])
  (h1:ws=[]->Q (.ref t) s) (h2:ws≠[]->Q (.ref s.heap.objs.size) { s with heap:=s.heap.push { cls:=.type "tuple", data:=.seq (vs++ws).toArray } })
  (hsz:vs.length+ws.length<=sizeLine):wpAny 45 A (binaryOp .Add (.ref t) (.ref b)) Q E s:=by
 obtain⟨⟨cls,dd,data,sl⟩,ho,hc,n,hd⟩:=id ht;obtain⟨⟨cls2,dd2,data2,sl2⟩,ho2,hc2,n2,hd2⟩:=id hb;simp only at hc hd hc2 hd2;subst hc hd hc2 hd2;have e:vs.toArray++ws.toArray=(vs++ws).toArray:=by simp
 by_cases hw:ws=[]
 ·exact concat_meets ⟨_,ho,rfl⟩ ⟨_,ho2,rfl⟩ noFill_tuple_add seq_tuple_add PySem.F.slot_tuple_add PySem.F.entry_tuple_add (PySem.F.args_tuple_add_2 _ _)
   (tuple_addW1 t b vs.toArray ws.toArray n n2 dd dd2 sl sl2 (by simpa using hv) (by simp[hw])) ⟨ho,ho2,h1 hw⟩
 ·refine concat_meets ⟨_,ho,rfl⟩ ⟨_,ho2,rfl⟩ noFill_tuple_add seq_tuple_add PySem.F.slot_tuple_add PySem.F.entry_tuple_add (PySem.F.args_tuple_add_2 _ _)
   (tuple_addW2 t b vs.toArray ws.toArray n n2 dd dd2 sl sl2 (by simpa using hv) (by simpa using hw) (by rw[mD,mD];exact hsz)) ⟨ho,ho2,?_⟩
  rw[e];exact h2 hw
noncomputable def sIx (n d:Nat):Option Int->Nat
 |none=>d
 |some v=>if v<0 then (v+(n:Int)).toNat else min v.toNat n
theorem sIx_none (n d:Nat):sIx n d none=d:=rfl
theorem sIx_nat (n d k:Nat):sIx n d (some (k:Int))=min k n:=by
 show (if (k:Int)<0 then ((k:Int)+(n:Int)).toNat else min (k:Int).toNat n)=min k n;rw[if_neg 31,Int.toNat_natCast]
theorem zLM (n d:Nat) (hd:d<=n) (o:Option Int):sIx n d o<=n:=by
 cases o with
 |none=>exact hd
 |some v =>
  show (if v<0 then (v+(n:Int)).toNat else min v.toNat n)<=n
  by_cases hv:v<0
  ·rw[if_pos hv];lia
  ·rw[if_neg hv];exact Nat.min_le_right _ _
theorem zIW (v:Int) (n d:Nat):(if v<0 then max (v+(n:Int)) 0 else min v (n:Int))=((sIx n d (some v):Nat):Int):=by
 show (if v<0 then max (v+(n:Int)) 0 else min v (n:Int))=(((if v<0 then (v+(n:Int)).toNat else min v.toNat n):Nat):Int)
 by_cases hv:v<0
 ·simp only[if_pos hv];lia
 ·simp only[if_neg hv];lia
theorem zG0 (lo hi:Option Int) (n:Nat):Builtin.Slice.sliceAdjust lo hi 1 (n:Int)=(((sIx n 0 lo:Nat):Int),((sIx n n hi:Nat):Int)):=by
 have h1:¬((1:Int)<0):=by lia
 unfold Builtin.Slice.sliceAdjust;simp only[h1,if_false];refine Prod.ext ?_ ?_
 ·cases lo with
  |none=>rfl
  |some v=>exact zIW v n 0
 ·cases hi with
  |none=>rfl
  |some v=>exact zIW v n n
theorem zGi (i j:Nat):Builtin.Slice.slicePlaces (i:Int) (j:Int) 1=j - i:=by
 unfold Builtin.Slice.slicePlaces;have h1:(1:Int) > 0:=by lia
 simp only[h1,if_true,Int.ediv_one];split<;>lia
theorem zEB {v:Value}{o:Option Int}{Q:Option Int->Shared->Prop}(p:IsPart v o) (h:Q o s):wpAny 45 A (Builtin.Slice.slicePartIndex v) Q E s:=by
 cases p with
 |none=>exact slicePart_none h
 |int i t=>exact slicePart_int h
theorem sliceApplied_gen {sl:Addr}{vl vu:Value}{lo hi:Option Int}{n:Nat}{Q:Int × Int × Nat->Shared->Prop}(hs:s.heap.IsSliceOf sl vl vu .none) (pl:IsPart vl lo) (pu:IsPart vu hi)
  (h:Q (((sIx n 0 lo:Nat):Int),1,sIx n n hi - sIx n 0 lo) s):wpAny 45 A (Builtin.Slice.sliceApplied (.ref sl) (pure (n:Int))) Q E s:=by
 obtain⟨os,hos,hcs,hds⟩:=id hs;unfold Builtin.Slice.sliceApplied Builtin.Slice.sliceFields;refine lA (lA (wpAny_field hos hds (x:=vl) rfl (lA (wpAny_field hos hds (x:=vu) rfl (lA (wpAny_field hos hds (x:=.none) rfl (lB ?_)))))));refine lA (slicePart_none ?_);show wpAny _ _ (if ((1:Int) == 0)=true then _ else _) _ _ s;rw[if_neg 46];refine lA (zEB pl (lA (zEB pu (lA (lB ?_)))));show wpAny _ _ (match Builtin.Slice.sliceAdjust lo hi 1 (n:Int) with|(lo,hi)=>pure (lo,(1:Int),Builtin.Slice.slicePlaces lo hi 1)) _ _ s;rw[zG0 lo hi n];show wpAny _ _ (pure (((sIx n 0 lo:Nat):Int),(1:Int),Builtin.Slice.slicePlaces ((sIx n 0 lo:Nat):Int) ((sIx n n hi:Nat):Int) 1)) _ _ s;rw[zGi];exact lB h
theorem zIz (xs:Array Value) (i k:Nat):((List.range k).filterMap λ(m:Nat)=>xs[((i:Int)+(m:Int) * 1).toNat]?).toArray=((xs.toList.drop i).take k).toArray:=by
 have e:(λ(m:Nat)=>xs[((i:Int)+(m:Int) * 1).toNat]?)=λ m=>xs[i+m]?:=by
  funext m;have:((i:Int)+(m:Int) * 1).toNat=i+m:=by lia
  rw[this]
 rw[e];have:=pick_run xs i k;rw[List.filterMap_map] at this;have e2:((λ x=>xs[x]?) ∘ λ x=>i+x)=λ m=>xs[i+m]?:=rfl;rw[e2] at this;rw[this]
theorem getItem_tuple_cut {t sl:Addr}{items:Array Value}{vl vu:Value}{lo hi:Option Int}{Q:XQ}(ht:IsTup s.heap t items) (hs:s.heap.IsSliceOf sl vl vu .none) (pl:IsPart vl lo) (pu:IsPart vu hi)
  (hw:¬(sIx items.size 0 lo=0/\sIx items.size items.size hi=items.size))
  (h:Q (.ref s.heap.objs.size) { s with heap:=s.heap.push { cls:=.type "tuple", data:=.seq ((items.toList.drop (sIx items.size 0 lo)).take (sIx items.size items.size hi - sIx items.size 0 lo)).toArray } })
  (hsz:items.size<=sizeLine):wpAny 45 A (getItem (.ref t) (.ref sl)) Q E s:=by
 have htake:sizeOk (.seq ((items.toList.drop (sIx items.size 0 lo)).take (sIx items.size items.size hi - sIx items.size 0 lo)).toArray):=by
  show ((items.toList.drop (sIx items.size 0 lo)).take (sIx items.size items.size hi - sIx items.size 0 lo)).toArray.size<=sizeLine;rw[mD,mQ,nC,Array.length_toList]
  lia
 have hj:sIx items.size items.size hi<=items.size:=zLM _ _ (lR _) hi;obtain⟨os,hos,hcs,hds⟩:=id hs;have hTs:s.TypeIs (.ref sl) "slice" := ⟨os,hos,hcs⟩;unfold getItem
 try with_reducible refine lD ?_
 first|refine lA (lB ?_)|skip
 refine lA (wpAny_sequenceKey ht.typeIs 46 ?_)
 refine lA (wpAny_callSpecial?_slot (name:=Str.ofString "__getitem__") ht.typeIs PyProof.Rows.slot_tuple_getitem
  (wpAny_call_entry PyProof.Rows.slot_tuple_getitem ht.typeIs entry_tuple_getitem ?_ (args_tuple_getitem _ _)))
 show wpAny _ _ (Builtin.Tuple.tupleItemsOf (.ref t) >>= _) _ _ s;refine lA (tupleItemsOf_ ht ?_);refine lA (wpAny_typeOf hTs ?_);rw[if_pos 46];refine lA (sliceApplied_gen hs pl pu ?_)
 have hno:¬((((sIx items.size 0 lo:Nat):Int) == 0 && (1:Int) == 1 && (sIx items.size items.size hi - sIx items.size 0 lo) == items.size)=true):=by
  intro q;rw[Bool.and_eq_true,Bool.and_eq_true] at q;have q1:((sIx items.size 0 lo:Nat):Int)=0:=eq_of_beq q.1.1;have q2:sIx items.size items.size hi - sIx items.size 0 lo=items.size:=eq_of_beq q.2;exact hw ⟨by lia,by lia⟩
 show wpAny _ _ (if (((sIx items.size 0 lo:Nat):Int) == 0 && (1:Int) == 1 && (sIx items.size items.size hi - sIx items.size 0 lo) == items.size)=true then _ else _) _ _ s;rw[if_neg hno,zIz]
 first
  |exact lA (m:=Builtin.Tuple.tupleExact _) (wpAny_newObj_type (lB ⟨_,rfl,lB h⟩) htake)
  |exact lA (m:=Builtin.Tuple.tupleExact _) (wpAny_newObj_type (lA (lB (lB ⟨_,rfl,lB h⟩))) htake)
  |exact lA (lA (m:=Builtin.Tuple.tupleExact _) (wpAny_newObj_type (lB (lB ⟨_,rfl,lB h⟩)) htake))
  |exact lA (lA (m:=Builtin.Tuple.tupleExact _) (wpAny_newObj_type (lB ⟨_,rfl,lB h⟩) htake))
end
end HT
namespace L2
open PySem PySem.Spec PyProof.Rows
abbrev TO:=St->Hp->(Option Int->Hp->Prop)->Prop
def PO (X:Cx) (e:Option Expr) (t:TO):Prop :=
 ∀(jP:List 54) (s:Shared) (σ:St) (H:Hp) (Q:Option Int->Hp->Prop),Inv X jP σ H s->t σ H Q ->
  wpAny 48 X.A (evalPart e X.env) (λ u s'=>∃o H',Inv X jP σ H' s'/\IsPart u o/\Q o H') X.xe s
def zFZ:TO:=λ Ω H Q=>Q none H
inductive IsI (Q:Option Int->Hp->Prop) (x:V) (H:Hp):Prop
 |mk (i:Int) (h:x = .int i) (q:Q (some i) H)
def tPart (t:TE):TO:=λ σ H Q=>t σ H (IsI Q)
section
variable {X:Cx}{e:Expr}{te:TE}{lo hi:Option Expr}{tl th:TO}{pos p2:Pos}
theorem zBN:PO X none zFZ:=by
 intro jP s σ H Q I h;rw[evalPart_none];exact lB ⟨none,H,I,.none,h⟩
theorem zBM (h:PE X e te):PO X (some e) (tPart te):=by
 intro jP s σ H Q I hw;rw[evalPart_some];refine thn (h jP s σ H _ I hw) λ u s1 ⟨x,H1,I1,r1,q1⟩=>?_;obtain⟨i,rfl,q⟩:=q1;obtain⟨t,rfl⟩:=r1;exact⟨some i,H1,I1,.int i t,q⟩
def SlR (X:Cx) (r:V->Option Int->Option Int->Hp->VK->Prop):Prop :=
 ∀(jP:List 54) (s:Shared) (σ:St) (H:Hp) (x:V) (v vl vu:Value) (lo hi:Option Int) (sl:Addr) (Q:VK),Inv X jP σ H s->RelV x v->s.heap.IsSliceOf sl vl vu .none->IsPart vl lo->IsPart vu hi->r x lo hi H Q ->
  ∃T id,typeLookup (.type T) "__getitem__" = pure (some (.builtin id))/\s.TypeIs v T/\wpAny 48 X.A (getItem v (.ref sl)) (EP X jP σ Q) X.xe s
def tSl (r:V->Option Int->Option Int->Hp->VK->Prop) (te:TE) (tl th:TO):TE:=λ σ H Q=>te σ H λ x H1=>tl σ H1 λ l H2=>th σ H2 λ u H3=>r x l u H3 Q
theorem zBB {r:V->Option Int->Option Int->Hp->VK->Prop}(hr:SlR X r) (he:PE X e te) (hl:PO X lo tl) (hu:PO X hi th):PE X (.Subscript e (.Slice lo hi none p2) pos) (tSl r te tl th):=by
 intro jP s σ H Q I h;refine Subscript_ (thn (he jP s σ H _ I h) λ v s1 ⟨x,H1,I1,r1,q1⟩=>?_);refine wpAny_Slice (thn (hl jP s1 σ H1 _ I1 q1) λ vl s2 ⟨l,H2,I2,pl,q2⟩=>thn (hu jP s2 σ H2 _ I2 q2) λ vu s3 ⟨u,H3,I3,pu,q3⟩=>?_);rw[evalPart_none];refine lB ?_;have I4:Inv X jP σ H3 { s3 with heap:=s3.heap.push { cls:=.type "slice", data:=.fields #[vl,vu,.none] } }:=I3.kept (t':=s3.toks) λ b ob q=>lE _ q;obtain⟨T,id,hT,ht,hg⟩:=hr jP { s3 with heap:=s3.heap.push { cls:=.type "slice", data:=.fields #[vl,vu,.none] } } σ H3 x v vl vu l u s3.heap.objs.size Q I4 r1 (Heap.IsSliceOf.new ..) pl pu q3;show wpAny 48 X.A (subscriptTail e (.Slice lo hi none p2) v (.ref s3.heap.objs.size)) (EP X jP σ Q) X.xe { s3 with heap:=s3.heap.push { cls:=.type "slice", data:=.fields #[vl,vu,.none] } };exact tail_any (ops:=[.ref s3.heap.objs.size,v]) ht hT hg (by with_unfolding_all rfl)
noncomputable def cutV (xs:List V) (lo hi:Option Int):List V:=(xs.drop (HT.sIx xs.length 0 lo)).take (HT.sIx xs.length xs.length hi - HT.sIx xs.length 0 lo)
theorem zFw (xs:List V) (lo hi:Option Int):(cutV xs lo hi).length<=xs.length:=by
 unfold cutV;rw[mQ,nC]
 lia
def rSlT (K:W.Frag):V->Option Int->Option Int->Hp->VK->Prop:=λ x lo hi H Q=>E2 λ a xs=>A4 (x = .ref a) (SqT K H a xs) (¬(HT.sIx xs.length 0 lo=0/\HT.sIx xs.length xs.length hi=xs.length)) (∀p,H p=none->Q (.ref p) (upd H p (.tup (cutV xs lo hi))))
theorem zE5:SlR X (rSlT X.K):=by
 intro jP s σ H x v vl vu lo hi sl Q I rx hs pl pu h;obtain⟨a,xs,rfl,hx,hw,q⟩:=h;cases rx;obtain⟨its,r,ht,hz⟩:=I.tuple hx;have hlen:its.toArray.size=xs.length:=by rw[mD];exact r.length.symm
 refine⟨"tuple", _,PyProof.Rows.slot_tuple_getitem.lookup,ht.typeIs,?_⟩;refine HT.getItem_tuple_cut ht hs pl pu (by rw[hlen];exact hw) ?_ (by rw[hlen];exact hz);rw[hlen];refine⟨.ref s.heap.objs.size,_,I.laid (t':=s.toks) (o:=.tup (cutV xs lo hi)) (λ b ob q=>lE _ q) (lR _) ?_,rfl,q _ (I.hok.fresh (lR _))⟩;exact⟨mH (zFw xs lo hi) hz,_,(r.drop (HT.sIx xs.length 0 lo)).take (HT.sIx xs.length xs.length hi - HT.sIx xs.length 0 lo),IsTup.new _ _⟩
def rCatT (K:W.Frag):R2:=λ x y H Q=>E4 λ a b xs ys=>A8 (x = .ref a) (y = .ref b) (SqT K H a xs) (SqT K H b ys) (xs≠[]) (xs.length+ys.length<=sizeLine) (ys=[]->Q (.ref a) H) (ys≠[]->∀p,H p=none->Q (.ref p) (upd H p (.tup (xs++ys))))
theorem Vals.nil_iff {xs:List V}{us:List Value}(r:Vals xs us):us=[]↔xs=[]:=by
 cases r with
 |nil=>simp
 |cons _ _=>simp
theorem zKi:OpR X (binaryOp .Add) (rCatT X.K):=by
 intro jP s σ H x y v u Q I rx ry h;obtain⟨a,b,xs,ys,rfl,rfl,ha,hb,hx,hz,q1,q2⟩:=h;cases rx;cases ry;obtain⟨its,r1,p1,_⟩:=I.tuple ha;obtain⟨its2,r2,p2,_⟩:=I.tuple hb;refine HT.cat_tup p1 p2 (λ z=>hx (r1.nil_iff.mp z)) (λ z=>⟨.ref a,H,I,rfl,q1 (r2.nil_iff.mp z)⟩) (λ z=>?_) (by rw[←r1.length,←r2.length];exact hz);refine⟨.ref s.heap.objs.size,_,I.laid (t':=s.toks) (o:=.tup (xs++ys)) (λ b ob q=>lE _ q) (lR _) ?_,rfl,q2 (λ w=>z (r2.nil_iff.mpr w)) _ (I.hok.fresh (lR _))⟩;exact⟨by rw[mK];exact hz,_,r1.append r2,IsTup.new _ _⟩
end
noncomputable def ixN (n:Nat) (i:Int):Option Nat:=if 0<=i then (if i<n then some i.toNat else none) else if -(n:Int)<=i then some (i+n).toNat else none
noncomputable def atI {α:Type}(xs:List α) (i:Int):Option α:=(ixN xs.length i).bind λ j=>xs[j]?
theorem zH5 {n:Nat}{i:Int}{j:Nat}(h:ixN n i=some j):seqIndex? i n=some j/\j<n /\ -(n:Int)<=i/\i<n:=by
 unfold ixN at h
 by_cases h0:0<=i
 ·rw[if_pos h0] at h
  by_cases h1:i<n
  ·rw[if_pos h1] at h
   have e:i.toNat=j:=mE h;exact⟨by rw[seqIndex_of h0 h1,e],by lia,by lia,h1⟩
  ·rw[if_neg h1] at h;cases h
 ·rw[if_neg h0] at h
  by_cases h1 : -(n:Int)<=i
  ·rw[if_pos h1] at h
   have e:(i+n).toNat=j:=mE h;exact⟨by rw[seqIndex_neg 31 h1,e],by lia,h1,by lia⟩
  ·rw[if_neg h1] at h;cases h
theorem zIg {α:Type}{xs:List α}{i:Int}{v:α}(h:atI xs i=some v):∃j,seqIndex? i xs.length=some j/\xs[j]?=some v/\j<xs.length /\ -(xs.length:Int)<=i/\i<xs.length:=by
 unfold atI at h;cases e:ixN xs.length i with
 |none=>rw[e] at h;cases h
 |some j =>
  rw[e] at h;obtain⟨h1,h2,h3,h4⟩:=zH5 e;exact⟨j,h1,h,h2,h3,h4⟩
theorem zAu {α:Type}{xs:List α}{j:Nat}{v:α}(h:xs[j]?=some v):atI xs (j:Int)=some v:=by
 have hj:j<xs.length:=(lI.mp h).1
 have e:ixN xs.length (j:Int)=some j:=by
  unfold ixN;rw[if_pos 31,if_pos 31];simp
 unfold atI;rw[e];exact h
def zIi (b:Expr):Prop:=∀o i,subscripted b false o i=operate [o,i] (getItem o i)
def IxR (X:Cx) (r:R2):Prop :=
 ∀(value slice:Expr) (jP:List 54) (s:Shared) (σ:St) (H:Hp) (x y:V) (v u:Value) (Q:VK),Inv X jP σ H s->RelV x v->RelV y u->r x y H Q ->
  subscripted slice false v u=operate [v,u] (getItem v u)->wpAny 48 X.A (subscriptTail value slice v u) (EP X jP σ Q) X.xe s
def MtR (X:Cx) (id:String) (r:V->List V->Hp->VK->Prop):Prop :=
 ∀(jP:List 54) (s:Shared) (σ:St) (H:Hp) (x:V) (xs:List V) (v:Value) (us:List Value) (Q:VK),Inv X jP σ H s->RelV x v->Vals xs us->r x xs H Q ->
  wpAny 48 X.A (call (.builtin id) (v::us)) (EP X jP σ Q) X.xe s
section
variable {X:Cx}{a b:Expr}{ta tb:TE}{pos:Pos}
theorem pe_ix {r:R2}(hr:IxR X r) (ha:PE X a ta) (hb:PE X b tb) (hs:zIi b):PE X (.Subscript a b pos) (tOp r ta tb):=by
 intro jP s σ H Q I h;exact Subscript_ (binT ha hb I h λ v u s2 x y H2 I2 rx ry q=>hr a b jP s2 σ H2 x y v u Q I2 rx ry q (hs _ _))
inductive rIxL (K:W.Frag) (x y:V) (H:Hp) (Q:VK):Prop
 |mk (p:Addr) (xs:List V) (i:Int) (v:V) (hx:x = .ref p) (hy:y = .int i) (s:SqL K H p xs) (a:atI xs i=some v) (q:Q v H)
inductive rIxT (K:W.Frag) (x y:V) (H:Hp) (Q:VK):Prop
 |mk (p:Addr) (xs:List V) (i:Int) (v:V) (hx:x = .ref p) (hy:y = .int i) (s:SqT K H p xs) (a:atI xs i=some v) (q:Q v H)
theorem zBI:IxR X (rIxL X.K):=by
 intro value slice jP s σ H x y v u Q I rx ry h hs;obtain⟨p,xs,i,z,rfl,rfl,hq,he,q⟩:=h;cases rx;obtain⟨t,rfl⟩:=ry;obtain⟨its,r,pl,hz⟩:=I.list hq;obtain⟨j,h1,h2,h3,h4,h5⟩:=zIg he;obtain⟨w,ew,rw'⟩:=r.get h2;have hl:=r.length;have hn:=zFI;have fin:EP X jP σ Q w s:=⟨z,H,I,rw',q⟩
 by_cases h0:0<=i
 ·have hj:i.toNat=j:=by
   rw[seqIndex_of h0 h5] at h1;exact mE h1
  exact item_listR pl.isList h0 31 (by rw[hj];simpa using ew) fin hs
 ·have hj:(i+(its.toArray.size:Int)).toNat=j:=by
   rw[seqIndex_neg 31 h4] at h1;rw[mD,←hl];exact mE h1
  exact subscriptTail_builtinR (x:=w) pl.isList.typeIs slot_list_getitem.lookup
   (wpAny_getItem_list_neg (Q:=λ r s'=>r=w/\EP X jP σ Q r s') pl.isList 31 (by rw[mD]<;>lia) 31 (by rw[hj];simpa using ew) ⟨rfl,fin⟩) hs
theorem zA4:IxR X (rIxT X.K):=by
 intro value slice jP s σ H x y v u Q I rx ry h hs;obtain⟨p,xs,i,z,rfl,rfl,hq,he,q⟩:=h;cases rx;obtain⟨t,rfl⟩:=ry;obtain⟨its,r,pl,hz⟩:=I.tuple hq;obtain⟨j,h1,h2,h3,h4,h5⟩:=zIg he;obtain⟨w,ew,rw'⟩:=r.get h2;have hl:=r.length;have hn:=zFI;have fin:EP X jP σ Q w s:=⟨z,H,I,rw',q⟩
 exact subscriptTail_builtinR (x:=w) pl.typeIs slot_tuple_getitem.lookup
  (getItem_tuple (j:=j) (Q:=λ r s'=>r=w/\EP X jP σ Q r s') pl 31 31 (by rw[mD,←hl];exact h1) (by simpa using ew) ⟨rfl,fin⟩) hs
theorem zGq (its:List Value) (n j:Nat) (u:Value):Obj.mapSeq (·.setIfInBounds j u) { cls:=.type "list", data:=.seq its.toArray n }={ cls:=.type "list", data:=.seq (its.set j u).toArray n }:=by
 simp[Obj.mapSeq]
theorem Inv.lst {jP:List 54}{σ:St}{H:Hp}{s:Shared}{p:Addr}{xs:List V}(I:Inv X jP σ H s) (h:H p=some (.lst xs)) :
  ∃(its:List Value) (n:Nat),Vals xs its/\s.heap.get? p=some { cls:=.type "list", data:=.seq its.toArray n }/\xs.length<=sizeLine:=by
 obtain⟨z,its,n,r,e⟩:=I.hok p _ h;exact⟨its,n,r,e,z⟩
theorem Inv.lstUpd {jP:List 54}{σ:St}{H:Hp}{s:Shared}{p:Addr}{xs ys:List V}{its its':List Value}{n n':Nat}{f:Obj->Obj}(I:Inv X jP σ H s) (h:H p=some (.lst xs))
  (ho:s.heap.get? p=some { cls:=.type "list", data:=.seq its.toArray n }) (hf:f { cls:=.type "list", data:=.seq its.toArray n }={ cls:=.type "list", data:=.seq its'.toArray n' }) (r:Vals ys its') (hz:ys.length<=sizeLine) (t:Nat) :
  Inv X jP σ (upd H p (.lst ys)) { s with heap:=s.heap.update p f,toks:=t }:=by
 have e:(s.heap.update p f).get? p=some { cls:=.type "list", data:=.seq its'.toArray n' }:=by
  rw[Heap.get?_update_self f ho (by rw[hf]<;>rfl),hf]
 refine I.write (x:=p) (e:=p) (by rw[h];trivial) (.inl rfl) (λ b u hb q=>(Heap.get?_update_other _ _ (Ne.symm hb)).trans q) ⟨_,e⟩ ?_;exact⟨hz,its',n',r,e⟩
def rSetL:V->V->V->Hp->(Hp->Prop)->Prop:=λ o i v H Q=>E4 λ p xs k j=>A5 (o = .ref p) (i = .int k) (H p=some (.lst xs)) (ixN xs.length k=some j) (Q (upd H p (.lst (xs.set j v))))
theorem zGF:PSet X rSetL:=by
 intro jP s σ H o i v ov iv u Q I ro ri rv h;obtain⟨p,xs,k,j,rfl,rfl,hp,hj,q⟩:=h;cases ro;obtain⟨t,rfl⟩:=ri;obtain⟨its,n,r,ho,hz⟩:=I.lst hp;obtain⟨h1,h2,h3,h4⟩:=zH5 hj;have hl:=r.length;have hn:=zFI
 have I':Inv X jP σ (upd H p (.lst (xs.set j v))) { s with heap:=s.heap.update p (Obj.mapSeq (·.setIfInBounds j u)) } :=
  I.lstUpd hp ho (zGq its n j u) (r.set rv j) (by rw[List.length_set];exact hz) s.toks
 by_cases h0:0<=k
 ·have hk:k.toNat=j:=by
   rw[seqIndex_of h0 h4] at h1;exact mE h1
  exact W.ki_setAt ho h0 31 (by rw[mD,←hl];exact h4) (by rw[hk];exact⟨_,I',q⟩)
 ·have hk:(k+(its.toArray.size:Int)).toNat=j:=by
   rw[seqIndex_neg 31 h3] at h1;rw[mD,←hl];exact mE h1
  exact W.ki_setBack ho 31 (by rw[mD,←hl];exact h3) 31 (by rw[hk];exact⟨_,I',q⟩)
noncomputable def flatV:V->Bool
 |.non=>true
 |.bl _=>true
 |.int _=>true
 |.str _=>true
 |_=>false
noncomputable def eqV:V->V->Bool
 |.non,.non=>true
 |.bl a,.bl b=>a == b
 |.bl a,.int b=>(if a then 1 else 0) == b
 |.int a,.bl b=>a == (if b then 1 else 0)
 |.int a,.int b=>a == b
 |.str a,.str b=>a == b
 |_,_=>false
theorem zKD {A:Around}{s:Shared}{y x:V}{u v:Value}(ry:RelV y u) (rx:RelV x v) (fy:flatV y=true) (fx:flatV x=true):SeqAt.EqAt A s u v (eqV y x):=by
 cases y with
 |non =>
  cases ry;cases x with
  |non=>cases rx;exact SeqAt.EqAt.same _
  |bl b=>cases rx;exact SeqAt.EqAt.none_bool b
  |int b=>obtain⟨t,rfl⟩:=rx;exact SeqAt.EqAt.none_int b t
  |str b=>obtain⟨t,rfl⟩:=rx;exact SeqAt.EqAt.none_str b t
  |_=>exact absurd (show false=true from fx) lX
 |bl a =>
  cases ry;cases x with
  |non=>cases rx;exact SeqAt.EqAt.bool_none a
  |bl b=>cases rx;exact SeqAt.EqAt.bool_bool a b
  |int b=>obtain⟨t,rfl⟩:=rx;exact SeqAt.EqAt.bool_int a b t
  |str b=>obtain⟨t,rfl⟩:=rx;exact SeqAt.EqAt.bool_str a b t
  |_=>exact absurd (show false=true from fx) lX
 |int a =>
  obtain⟨t',rfl⟩:=ry;cases x with
  |non=>cases rx;exact SeqAt.EqAt.int_none a t'
  |bl b=>cases rx;exact SeqAt.EqAt.int_bool a t' b
  |int b=>obtain⟨t,rfl⟩:=rx;exact SeqAt.EqAt.int_int a t' b t
  |str b=>obtain⟨t,rfl⟩:=rx;exact SeqAt.EqAt.int_str a t' b t
  |_=>exact absurd (show false=true from fx) lX
 |str a =>
  obtain⟨t',rfl⟩:=ry;cases x with
  |non=>cases rx;exact SeqAt.EqAt.str_none a t'
  |bl b=>cases rx;exact SeqAt.EqAt.str_bool a t' b
  |int b=>obtain⟨t,rfl⟩:=rx;exact SeqAt.EqAt.str_int a t' b t
  |str b=>obtain⟨t,rfl⟩:=rx;exact SeqAt.EqAt.str_str a t' b t
  |_=>exact absurd (show false=true from fx) lX
 |_=>exact absurd (show false=true from fy) lX
noncomputable def eqU (x:V) (u:Value):Bool:=match u with
 |.none=>eqV .non x
 |.bool b=>eqV (.bl b) x
 |.int i _=>eqV (.int i) x
 |.str z _=>eqV (.str z) x
 |_=>false
theorem zKC {x y:V}{u:Value}(r:RelV y u) (f:flatV y=true):eqU x u=eqV y x:=by
 cases y with
 |non=>cases r;rfl
 |bl b=>cases r;rfl
 |int i=>obtain⟨t,rfl⟩:=r;rfl
 |str z=>obtain⟨t,rfl⟩:=r;rfl
 |_=>exact absurd (show false=true from f) lX
theorem zFz {x:V}{xs:List V}{us:List Value}(h:Vals xs us):xs.all flatV=true->us.any (eqU x)=xs.any λ y=>eqV y x:=by
 induction h with
 |nil=>exact λ U=>rfl
 |cons r t ih=>intro f;rw[List.all_cons,Bool.and_eq_true] at f;rw[List.any_cons,List.any_cons,zKC r f.1,ih f.2]
theorem zEj {A:Around}{s:Shared}{x:V}{v:Value}(rx:RelV x v) (fx:flatV x=true){xs:List V}{us:List Value}(z:Vals xs us):xs.all flatV=true->∀u∈us,SeqAt.EqAt A s u v (eqU x u):=by
 induction z with
 |nil=>exact λ U u hu=>nomatch hu
 |cons r t ih =>
  intro f u' hu;rw[List.all_cons,Bool.and_eq_true] at f;rcases nU.mp hu with rfl|hu
  ·rw[zKC r f.1];exact zKD r rx f.1 fx
  ·exact ih f.2 u' hu
noncomputable def inV (x:V) (xs:List V):Bool:=xs.any λ y=>eqV y x
inductive rIn (K:W.Frag) (neg:Bool) (x y:V) (H:Hp) (Q:VK):Prop
 |mk (p:Addr) (xs:List V) (hy:y = .ref p) (s:SqL K H p xs\/SqT K H p xs) (f:flatV x=true) (g:xs.all flatV=true) (q:Q (.bl (if neg then !inV x xs else inV x xs)) H)
theorem zHl:OpR X (compareOp .In) (rIn X.K false):=by
 intro jP s σ H x y v u Q I rx ry h;obtain⟨p,xs,rfl,hq,fx,fs,q⟩:=h;cases ry;rcases hq with hq|hq
 ·obtain⟨its,r,pl,hz⟩:=I.list hq
  refine SeqAt.in_listAt (eqU x) pl.isList (λ w hw=>zEj rx fx r fs w (by simpa using hw)) ⟨.bl _,H,I,rfl,?_⟩;rw[show its.toArray.any (eqU x)=its.any (eqU x) by simp,zFz r fs];exact q
 ·obtain⟨its,r,pl,hz⟩:=I.tuple hq
  refine SeqAt.in_tupleAt (eqU x) pl (λ w hw=>zEj rx fx r fs w (by simpa using hw)) ⟨.bl _,H,I,rfl,?_⟩;rw[show its.toArray.any (eqU x)=its.any (eqU x) by simp,zFz r fs];exact q
inductive rLen1 (K:W.Frag) (xs:List V) (H:Hp) (Q:VK):Prop
 |mk (p:Addr) (ys:List V) (hx:xs=[.ref p]) (s:SqL K H p ys\/SqT K H p ys) (q:Q (.int ys.length) H)
theorem zFR:CallR X (.builtin "len") (rLen1 X.K):=by
 intro jP s σ H xs us Q I r h;obtain⟨p,ys,rfl,hq,q⟩:=h;obtain⟨u,rfl,rx⟩:=vals1 r;cases rx;have hn:=zFI;rcases hq with hq|hq
 ·obtain⟨its,r',pl,hz⟩:=I.list hq
  have hlen:=r'.length;exact Calls.call_len_list pl.isList (by simp only[mD]<;>lia) ⟨.int ys.length,H,I.tok _,⟨s.toks+1,by rw[mD,hlen]⟩,q⟩
 ·obtain⟨its,r',pl,hz⟩:=I.tuple hq
  have hlen:=r'.length;exact len_tuple pl (by simp only[mD]<;>lia) ⟨.int ys.length,H,I.tok _,⟨s.toks+1,by rw[mD,hlen]⟩,q⟩
theorem cL {X:Cx}{e:Expr}{es:List Expr}{t:TA}{p pos:Pos}(hm:X.mg "len"=none)(ha:PA X (e::es) t)(hg:Gl X "len":=by rfl)(he:starEach (e::es) X.env=(false,eval e X.env)::starEach es X.env:=by rfl)(hpl:(backTo pos (starEach es X.env)).any (·.1)=false:=by rfl):PE X (.Call (.Name "len" p) (e::es) [] pos) (tCB (rLen1 X.K) t):=zAI zFR hg hm PySem.boot_len ha 46 46 he hpl
theorem zDL:CallR X (.type "list") (λ xs H Q=>E2 λ p ys=>A3 (xs=[.ref p]) (SqL X.K H p ys\/SqT X.K H p ys) (∀l,H l=none->Q (.ref l) (upd H l (.lst ys)))):=by
 intro jP s σ H xs us Q I r h;obtain⟨p,ys,rfl,hq,q⟩:=h;obtain⟨u,rfl,rx⟩:=vals1 r;cases rx
 have fin:∀(its:List Value),Vals ys its->ys.length<=sizeLine->∀(h':Heap) (c':Nat),(∀b o',s.heap.get? b=some o'->h'.get? b=some o') ->
   h'.get? s.heap.objs.size=some { cls:=.type "list", dict:=none,data:=.seq its.toArray c',slots:=#[] }->EP X jP σ Q (.ref s.heap.objs.size) { s with heap:=h' }:=λ its r' hz h' c' kp e =>
  ⟨.ref s.heap.objs.size,_,I.laid (t':=s.toks) kp (lR _) (show ObjOk X.prog X.w _ h' _ (.lst ys) from⟨hz,its,c',r',e⟩),rfl,q _ (I.hok.fresh (lR _))⟩
 rcases hq with hq|hq
 ·obtain⟨its,r',pl,hz⟩:=I.list hq
  have hlen:=r'.length;obtain⟨o,ho,hc,n,hd⟩:=pl.isList;exact call_list_seq p (.inl rfl) ho hc hd (λ h' c' kp e=>fin its r' hz h' c' kp e) (by simp only[mD]<;>lia)
 ·obtain⟨its,r',pl,hz⟩:=I.tuple hq
  have hlen:=r'.length;obtain⟨o,ho,hc,n,hd⟩:=pl;exact call_list_seq p (.inr rfl) ho hc hd (λ h' c' kp e=>fin its r' hz h' c' kp e) (by simp only[mD]<;>lia)
def tyV (K:W.Frag) (T:String) (x:V) (H:Hp):Prop:=match x with
 |.str _=>T = "str"
 |.int _=>T = "int"
 |.ref p=>(T = "list" /\ ∃xs,SqL K H p xs)\/(T = "tuple" /\ ∃o,K.lookup p=some o/\o.cls = .type "tuple" /\ o.dict=none) \/
   (T = "dict" /\ ((∃kvs,H p=some 84)\/∃kvs,H p=some (.dT kvs)))\/(T = "set" /\ ∃S n,H p=some (.set S n))
 |_=>False
theorem zK3 {jP:List 54}{σ:St}{H:Hp}{s:Shared}{T:String}{x:V}{v:Value}(I:Inv X jP σ H s) (r:RelV x v) (ty:tyV X.K T x H) :
  s.TypeIs v T/\∀a,v = .ref a->∃ob,s.heap.get? a=some ob/\ob.dict=none:=by
 cases x with
 |str z =>
  obtain⟨t,rfl⟩:=r;cases (show T = "str" from ty);exact⟨typeIs_str s z t,λ Ω e=>nomatch e⟩
 |int i =>
  obtain⟨t,rfl⟩:=r;cases (show T = "int" from ty);exact⟨typeIs_int s i t,λ Ω e=>nomatch e⟩
 |ref p =>
  cases r;rcases ty with ⟨rfl,xs,hq⟩|⟨rfl,o,hk,hc,hd⟩|⟨rfl,hk⟩|⟨rfl,S,n,hk⟩
  ·obtain⟨its,_,pl,_⟩:=I.list hq
   refine⟨pl.isList.typeIs,λ a e=>?_⟩;cases e;obtain⟨o,n,e,c,hd,_⟩:=pl;exact⟨o,e,hd⟩
  ·refine⟨⟨o,I.kIn p o hk,hc⟩,λ a e=>?_⟩
   cases e;exact⟨o,I.kIn _ o hk,hd⟩
  ·have z:∃o,s.heap.get? p=some o/\o.ExactDict:=by
    rcases hk with ⟨kvs,hk⟩|⟨kvs,hk⟩
    ·obtain⟨_,_,_,_,o,_,_,e,ex,_⟩:=I.hok p _ hk
     exact⟨o,e,ex⟩
    ·obtain⟨_,_,_,_,o,_,_,e,ex,_⟩:=I.hok p _ hk
     exact⟨o,e,ex⟩
   obtain⟨o,e,ex⟩:=z;refine⟨⟨o,e,ex.1⟩,λ a e2=>?_⟩;cases e2;exact⟨o,e,ex.2.1⟩
  ·obtain⟨o,_,_,_,e,ex,_⟩:=I.hok p _ hk
   refine⟨⟨o,e,ex.1⟩,λ a e2=>?_⟩;cases e2;exact⟨o,e,ex.2.1⟩
 |_=>exact False.elim ty
def tBM (K:W.Frag) (T:String) (r:V->List V->Hp->VK->Prop) (to:TE) (t:TA):TE:=λ σ H Q=>to σ H λ x H1=>tyV K T x H1/\t σ H1 λ xs H2=>r x xs H2 Q
variable {o e:Expr}{es:List Expr}{to:TE}{t:TA}{name:Str}{apos cpos:Pos}{T id:String}{r:V->List V->Hp->VK->Prop}
theorem pe_bm (pa:PlainAttrs T) (slot:Slot T name id) (hty:typeOf (.builtin id)=pure (.type "method_descriptor")) (hm:MtR X id r) (ho:PE X o to) (ha:PA X (e::es) t)
  (hbase:attributeBase o name X.env (eval o X.env)=eval o X.env:=by rfl)
  (hfew:((backTo cpos (starEach (e::es) X.env)).all (λ x=>!x.1) && (backToKw cpos (keywordEach [] X.env)).all (λ x=>x.1.isSome)
   && decide ((e::es).length+([]:List Keyword).length+(if ([]:List Keyword).isEmpty then 0 else 1)<30))=true:=by rfl)
  (hline:(apos.endLine == cpos.line)=true:=by rfl) (hs:starEach (e::es) X.env=(false,eval e X.env)::starEach es X.env:=by rfl) (hplain:(backTo cpos (starEach es X.env)).any (·.1)=false:=by rfl) :
  PE X (.Call (.Attribute o name apos) (e::es) [] cpos) (tBM X.K T r to t):=by
 intro jP s σ H Q I h;refine wpAny_Call_method_late hbase hfew hline rfl (thn (ho jP s σ H _ I h) λ v s1 ⟨x,H1,I1,r1,ty,q1⟩=>?_);obtain⟨h1,h2⟩:=zK3 I1 r1 ty;refine⟨T,id,pa,slot,hty,h1,h2,?_⟩;have hA:=ha cpos jP s1 σ H1 _ I1 q1;rw[hs] at hA ⊢;refine Calls.callWith_builtin (by show (false || (backTo cpos (starEach es X.env)).any (·.1))=false;rw[hplain]<;>rfl) (Calls.evalArgs_plain ?_);exact thn hA λ us s2 ⟨vs,H2,I2,r2,q2⟩=>hm jP s2 σ H2 x vs v us Q I2 r1 r2 q2
end
def MtM (X:Cx) (id:String) (r:V->List V->Hp->VK->Prop):Prop :=
 ∀(jP:List 54) (s:Shared) (σ:St) (H:Hp) (x:V) (xs:List V) (v:Value) (us:List Value) (Q:VK),Inv X jP σ H s->RelV x v->Vals xs us->r x xs H Q ->
  wpAny 48 X.A (call (.builtin id) (v::us)) (EP X jP σ Q) X.xe s
theorem Vals.one {x:V}{us:List Value}(h:Vals [x] us):∃u,us=[u]/\RelV x u:=by
 cases h with|cons r t=>cases t;exact⟨_,rfl,r⟩
section
variable {X:Cx}{jP:List (Addr × Obj)}{σ:St}{H:Hp}{s:Shared}{l b:Addr}{xs ys zs:List V}
theorem Inv.lset {its its':List Value}{n:Nat}{f:Array Value->Array Value}{t':Nat}(I:Inv X jP σ H s) (hH:H l=some (.lst xs))
  (e:s.heap.get? l=some { cls:=.type "list", data:=.seq its.toArray n }) (hf:f its.toArray=its'.toArray) (hv:Vals ys its') (hz:ys.length<=sizeLine) :
  Inv X jP σ (upd H l (.lst ys)) { s with heap:=s.heap.update l (Obj.mapSeq f),toks:=t' }:=by
 have q:=PySem.IsL.update e f;rw[hf] at q;refine I.write (x:=l) (e:=l) (by rw[hH];exact trivial) (.inl rfl) (λ b' u hb hu=>(Heap.get?_update_other s.heap (Obj.mapSeq f) (Ne.symm hb)).trans hu) ⟨_,q⟩ ?_;exact⟨hz,its',_,hv,q⟩
theorem Inv.lnew {its:List Value}{t':Nat}(I:Inv X jP σ H s) (hv:Vals ys its) (hz:ys.length<=sizeLine) :
  Inv X jP σ (upd H s.heap.objs.size (.lst ys)) { s with heap:=s.heap.push { cls:=.type "list", data:=.seq its.toArray },toks:=t' } :=
 I.laid (λ Ω Ω q=>lE _ q) (lR _) ⟨hz,its,0,hv,lG _ rfl⟩
theorem Inv.fresh (I:Inv X jP σ H s):H s.heap.objs.size=none:=I.hok.fresh (lR _)
theorem Inv.lstM (I:Inv X jP σ H s) (hH:H l=some (.lst xs)):xs.length<=sizeLine/\∃(its:List Value) (n:Nat),Vals xs its/\xs.length=its.length/\s.heap.get? l=some { cls:=.type "list", data:=.seq its.toArray n }:=by
 obtain⟨z,its,n,r,e⟩:=I.hok l _ hH;exact⟨z,its,n,r,r.length,e⟩
theorem zJH {n:Nat}(h:n<=sizeLine):Builtin.List.listTooLong n=false:=by
 unfold Builtin.List.listTooLong;exact decide_eq_false 31
end
section
variable {X:Cx}
inductive zHQ (x:V) (vs:List V) (H:Hp) (Q:VK):Prop
 |mk (l:Addr) (xs:List V) (y:V) (hx:x = .ref l) (hv:vs=[y]) (e:H l=some (.lst xs)) (z:xs.length<sizeLine) (q:Q .non (upd H l (.lst (xs++[y]))))
theorem zFF:MtM X "list.append" zHQ:=by
 intro jP s σ H x vs v us Q I rx rv h;obtain⟨l,xs,y,rfl,rfl,hH,hz,q⟩:=h;cases rx;obtain⟨u,rfl,ru⟩:=rv.one;obtain⟨z,its,n,r,hl,e⟩:=I.lstM hH;refine call_meets F.slot_list_append ⟨_,e,rfl⟩ F.entry_list_append (F.args_list_append_2 _ _) (PySem.list_append l its.toArray n u (by rw[mD];lia)) ⟨e,?_⟩;refine⟨.non,_,I.lset (its':=its++[u]) hH e 41 (r.append (.cons ru .nil)) ?_,rfl,q⟩;rw[mK,List.length_singleton]
 lia
theorem pAp {X:Cx}{o e:Expr}{to te:TE}{apos cpos pos:Pos}(ho:PE X o to)(he:PE X e te)(h1:attributeBase o "append" X.env (eval o X.env)=eval o X.env:=by rfl)(h2:((backTo cpos (starEach [e] X.env)).all (λ x=>!x.1)&&(backToKw cpos (keywordEach [] X.env)).all (λ x=>x.1.isSome)&&decide ([e].length+([]:List Keyword).length+(if ([]:List Keyword).isEmpty then 0 else 1)<30))=true:=by rfl)(h3:(apos.endLine==cpos.line)=true:=by rfl)(h4:starEach [e] X.env=(false,eval e X.env)::starEach [] X.env:=by rfl)(h5:(backTo cpos (starEach [] X.env)).any (·.1)=false:=by rfl)(h6:swapsWith (.Call (.Attribute o "append" apos) [e] [] cpos) none pos.line X.env=pure false:=by rfl):PS X (.Expr (.Call (.Attribute o "append" apos) [e] [] cpos) pos) (tDrop (tBM X.K "list" zHQ to (tCons te tNil))):=zAk (pe_bm rZ PySem.F.slot_list_append PySem.F.type_list_append zFF ho (zAA he zAB h4) h1 h2 h3 h4 h5) h6
def zKT:V->List V->Hp->VK->Prop:=λ x vs H Q=>E4 λ l b xs zs=>A6 (x = .ref l) (vs=[.ref b]) (H l=some (.lst xs)) (H b=some (.lst zs)) (xs.length+zs.length<=sizeLine) (Q .non (upd H l (.lst (xs++zs))))
theorem zDk:MtM X "list.extend" zKT:=by
 intro jP s σ H x vs v us Q I rx rv h;obtain⟨l,b,xs,zs,rfl,rfl,hH,hB,hz,q⟩:=h;cases rx;obtain⟨u,rfl,ru⟩:=rv.one;cases ru;obtain⟨z,its,n,r,hl,e⟩:=I.lstM hH;obtain⟨z2,its2,n2,r2,hl2,e2⟩:=I.lstM hB;have hsz:its.toArray.size+its2.toArray.size<=sizeLine:=by rw[mD,mD];lia
 have hlong:¬(!its.toArray.isEmpty && Builtin.List.listTooLong (its.toArray.size+its2.toArray.size))=true:=by
  rw[zJH hsz,Bool.and_false];exact lX
 refine call_meets F.slot_list_extend ⟨_,e,rfl⟩ F.entry_list_extend (F.args_list_extend_2 _ _)
  (AutoSeq1.list_extend_list_list_0 l its.toArray n b its2.toArray n2 hlong (by rw[mD];lia) 31) ⟨e,e2,?_⟩
 refine⟨.non,_,I.lset (its':=its++its2) hH e 41 (r.append r2) ?_,rfl,q⟩;rw[mK]
 lia
end
section
variable {κ:Type} [DecidableEq κ]
noncomputable def valV (kvs:List (κ × V)) (k:κ):Option V:=(kvs.find? λ kv=>decide (kv.1=k)).map (·.2)
noncomputable def putK (kvs:List (κ × V)) (k:κ) (v:V):List (κ × V) :=
 if (kvs.any λ kv=>decide (kv.1=k))=true then kvs.map (λ kv=>if kv.1=k then (kv.1,v) else kv) else kvs++[(k,v)]
noncomputable def dropK (kvs:List (κ × V)) (k:κ):List (κ × V):=kvs.filter λ kv=>decide (kv.1≠k)
theorem zBE {p:κ × V}{r:List (κ × V)}{k:κ}(e:p.1=k):valV (p::r) k=some p.2:=by simp[valV,List.find?_cons,e]
theorem zBF {p:κ × V}{r:List (κ × V)}{k:κ}(e:¬p.1=k):valV (p::r) k=valV r k:=by simp[valV,List.find?_cons,e]
theorem zBs (k:κ):∀kvs:List (κ × V),(kvs.any λ kv=>decide (kv.1=k))=(valV kvs k).isSome
 |[]=>rfl
 |p::r=>by
  rw[List.any_cons]
  by_cases e:p.1=k
  ·simp only[zBE e,decide_eq_true e,Bool.true_or,Option.isSome_some]
  ·rw[zBF e,decide_eq_false e,Bool.false_or];exact zBs k r
theorem zF5 (k j:κ) (y:V):∀kvs:List (κ × V),valV (kvs.map λ kv=>if kv.1=k then (kv.1,y) else kv) j=(valV kvs j).map λ x=>if j=k then y else x
 |[]=>rfl
 |p::r=>by
  have ih:=zF5 k j y r;rw[mL]
  by_cases h:p.1=k
  ·rw[if_pos h]
   by_cases e:p.1=j
   ·rw[zBE (p:=(p.1,y)) e,zBE e,Option.map_some,if_pos (e.symm.trans h)]
   ·rw[zBF (p:=(p.1,y)) e,zBF e,ih]
  ·rw[if_neg h]
   by_cases e:p.1=j
   ·rw[zBE (p:=p) e,zBE e,Option.map_some,if_neg (λ z=>h (e.trans z))]
   ·rw[zBF (p:=p) e,zBF e,ih]
theorem zEx (k j:κ) (y:V):∀kvs:List (κ × V),valV kvs k=none->valV (kvs++[(k,y)]) j=if j=k then some y else valV kvs j
 |[],_=>by
  by_cases e:k=j
  ·rw[if_pos e.symm];exact zBE (p:=(k,y)) e
  ·rw[if_neg (λ z=>e z.symm)];exact zBF (p:=(k,y)) e
 |p::r,hn=>by
  rw[List.cons_append];have hk:¬p.1=k:=λ z=>by rw[zBE z] at hn;cases hn
  rw[zBF hk] at hn;have ih:=zEx k j y r hn
  by_cases e:p.1=j
  ·rw[zBE e,zBE e,if_neg (λ z=>hk (e.trans z))]
  ·rw[zBF e,zBF e,ih]
theorem zDM (kvs:List (κ × V)) (k j:κ) (y:V):valV (putK kvs k y) j=if j=k then some y else valV kvs j:=by
 unfold putK
 by_cases a:(kvs.any λ kv=>decide (kv.1=k))=true
 ·rw[if_pos a,zF5]
  rw[zBs] at a
  by_cases e:j=k
  ·obtain⟨x,hx⟩:=Option.isSome_iff_exists.mp a
   rw[if_pos e,e,hx,Option.map_some,if_pos rfl]
  ·rw[if_neg e]
   cases valV kvs j with
   |none=>rfl
   |some x=>rw[Option.map_some,if_neg e]
 ·rw[if_neg a]
  refine zEx k j y kvs ?_;rw[zBs] at a;cases q:valV kvs k with
  |none=>rfl
  |some x=>rw[q] at a;exact(a rfl).elim
theorem zBr (kvs:List (κ × V)) (k:κ) (v:V):(putK kvs k v).length<=kvs.length+1:=by
 unfold putK;split
 ·rw[lC];lia
 ·rw[mK,mP,List.length_nil];lia
theorem zCA {kvs:List (κ × V)}{k:κ}(v:V) (h:valV kvs k=none):putK kvs k v=kvs++[(k,v)]:=by
 unfold putK;rw[zBs,h];exact if_neg 46
theorem RelO.isSome_eq {o:Option V}{u:Option Value}(r:RelO o u):o.isSome=u.isSome:=by
 cases o with
 |none=>cases u with
  |none=>rfl
  |some _=>exact(show False from r).elim
 |some _=>cases u with
  |none=>exact(show False from r).elim
  |some _=>rfl
theorem RelO.getD {o:Option V}{u:Option Value}{d:V}{d':Value}(r:RelO o u) (rd:RelV d d'):RelV (o.getD d) (u.getD d'):=by
 cases o with
 |none=>cases u with
  |none=>exact rd
  |some _=>exact(show False from r).elim
 |some _=>cases u with
  |none=>exact(show False from r).elim
  |some _=>exact r
theorem KV.val {kvs:List (κ × V)}{vs:List (κ × Value)}(r:KV kvs vs) (k:κ):RelO (valV kvs k) (valueAt vs k):=by
 unfold KV at r
 induction r with
 |nil=>exact True.intro
 | @cons p q ps qs h t ih =>
  obtain⟨h1,h2⟩:=h
  by_cases e:p.1=k
  ·have e':q.1=k:=h1.symm.trans e
   have b:valueAt (q::qs) k=some q.2:=by simp[valueAt,List.find?_cons,e']
   rw[zBE e,b];exact h2
  ·have e':¬q.1=k:=λ z=>e (h1.trans z)
   have b:valueAt (q::qs) k=valueAt qs k:=by simp[valueAt,List.find?_cons,e']
   rw[zBF e,b];exact ih
theorem KV.any {kvs:List (κ × V)}{vs:List (κ × Value)}(r:KV kvs vs) (k:κ):(kvs.any λ kv=>decide (kv.1=k))=vs.any λ kv=>decide (kv.1=k):=by
 unfold KV at r
 induction r with
 |nil=>rfl
 |cons h t ih=>rw[List.any_cons,List.any_cons,ih,h.1]
theorem KV.repl {kvs:List (κ × V)}{vs:List (κ × Value)}(r:KV kvs vs) (k:κ) {y:V}{u:Value}(ry:RelV y u) :
  KV (kvs.map λ kv=>if kv.1=k then (kv.1,y) else kv) (vs.map λ kv=>if kv.1=k then (kv.1,u) else kv):=by
 unfold KV at r ⊢
 induction r with
 |nil=>exact .nil
 | @cons p q ps qs h t ih =>
  rw[mL,mL];refine .cons ?_ ih;obtain⟨h1,h2⟩:=h
  by_cases e:p.1=k
  ·rw[if_pos e,if_pos (h1.symm.trans e)];exact⟨h1,ry⟩
  ·rw[if_neg e,if_neg (λ z=>e (h1.trans z))];exact⟨h1,h2⟩
theorem KV.put {kvs:List (κ × V)}{vs:List (κ × Value)}(r:KV kvs vs) (k:κ) {y:V}{u:Value}(ry:RelV y u):KV (putK kvs k y) (stored vs k u):=by
 unfold putK stored;rw[r.any k]
 by_cases e:(vs.any λ kv=>decide (kv.1=k))=true
 ·rw[if_pos e,if_pos e];exact r.repl k ry
 ·rw[if_neg e,if_neg e];exact Paired.snoc r ⟨rfl,ry⟩
theorem KV.drop {kvs:List (κ × V)}{vs:List (κ × Value)}(r:KV kvs vs) (k:κ):KV (dropK kvs k) (without vs k):=by
 unfold KV at r ⊢;unfold dropK without
 induction r with
 |nil=>exact .nil
 | @cons p q ps qs h t ih =>
  obtain⟨h1,h2⟩:=h;rw[List.filter_cons,List.filter_cons]
  by_cases e:p.1=k
  ·have a:¬decide (p.1≠k)=true:=by simp[e]
   have b:¬decide (q.1≠k)=true:=by simp[h1.symm.trans e]
   rw[if_neg a,if_neg b];exact ih
  ·have e':¬q.1=k:=λ z=>e (h1.trans z)
   have a:decide (p.1≠k)=true:=by simp[e]
   have b:decide (q.1≠k)=true:=by simp[e']
   rw[if_pos a,if_pos b];exact .cons ⟨h1,h2⟩ ih
theorem KV.length {kvs:List (κ × V)}{vs:List (κ × Value)}(r:KV kvs vs):kvs.length=vs.length:=Paired.length r
theorem zGX (kvs:List (κ × V)) (k:κ):(dropK kvs k).length<=kvs.length:=List.length_filter_le _ _
end
theorem kV_is {P:Program}{w:World}{k:Key}{u:Value}(r:RelV (kV k) u):(zAn P w).is k u=true:=by
 cases k with
 |inl i=>obtain⟨t,e⟩:=(show ∃t,u=Value.int i t from r);subst e;exact zFn P w i t
 |inr x=>obtain⟨t,e⟩:=(show ∃t,u=Value.str x t from r);subst e;exact zFm P w x t
theorem zFL {P:Program}{w:World}:∀{ks:List Key}{us:List Value},Vals (ks.map kV) us->ItemsAre (zAn P w) ks us
 |[],_,r=>by rw[List.map_nil] at r;cases r;exact .nil
 |k::ks,_,r=>by
  rw[mL] at r;cases r with
  |cons h t=>exact .cons (kV_is h) (zFL t)
abbrev KT (H:Hp):List (List Key × V)->List (List Key × Addr × Value)->Prop:=Paired λ p q=>p.1=q.1/\H q.2.1=some (.tup (p.1.map kV))/\RelV p.2 q.2.2
theorem KT.val {H:Hp}{kvs:List (List Key × V)}{xs:List (List Key × Addr × Value)}(r:KT H kvs xs) (k:List Key):RelO (valV kvs k) ((atKey xs k).map (·.2)):=by
 induction r with
 |nil=>exact True.intro
 | @cons p q ps qs h t ih =>
  obtain⟨h1,_,h2⟩:=h
  by_cases e:p.1=k
  ·have e':q.1=k:=h1.symm.trans e
   have b:atKey (q::qs) k=some q.2:=by simp[atKey,List.find?_cons,e']
   rw[zBE e,b];exact h2
  ·have e':¬q.1=k:=λ z=>e (h1.trans z)
   have b:atKey (q::qs) k=atKey qs k:=by simp[atKey,List.find?_cons,e']
   rw[zBF e,b];exact ih
theorem KT.repl {H:Hp}{kvs:List (List Key × V)}{xs:List (List Key × Addr × Value)}(r:KT H kvs xs) (k:List Key) {y:V}{u:Value}(ry:RelV y u) :
  KT H (kvs.map λ kv=>if kv.1=k then (kv.1,y) else kv) (xs.map (putAt k u)):=by
 induction r with
 |nil=>exact .nil
 | @cons p q ps qs h t ih =>
  rw[mL,mL];refine .cons ?_ ih;obtain⟨h1,h2,h3⟩:=h;unfold putAt
  by_cases e:p.1=k
  ·rw[if_pos e,if_pos (h1.symm.trans e)];exact⟨h1,h2,ry⟩
  ·rw[if_neg e,if_neg (λ z=>e (h1.trans z))];exact⟨h1,h2,h3⟩
theorem KT.put {H:Hp}{kvs:List (List Key × V)}{xs:List (List Key × Addr × Value)}(r:KT H kvs xs) (k:List Key) {b:Addr}{y:V}{u:Value}(hb:H b=some (.tup (k.map kV))) (ry:RelV y u) :
  KT H (putK kvs k y) (storedH xs k b u):=by
 have e:(kvs.any λ kv=>decide (kv.1=k))=(atKey xs k).isSome:=by
  rw[zBs,(r.val k).isSome_eq,Option.isSome_map]
 unfold putK storedH;rw[e]
 by_cases q:(atKey xs k).isSome=true
 ·rw[if_pos q,if_pos q];exact r.repl k ry
 ·rw[if_neg q,if_neg q];exact Paired.snoc r ⟨rfl,hb,ry⟩
theorem KT.keeps {H H':Hp}{kvs:List (List Key × V)}{xs:List (List Key × Addr × Value)}(r:KT H kvs xs) (ht:∀b ys,H b=some (.tup ys)->H' b=some (.tup ys)):KT H' kvs xs :=
 Paired.mapP r λ Ω Ω z=>⟨z.1,ht _ _ z.2.1,z.2.2⟩
section
variable {P:Program}{w:World}{H:Hp}{h:Heap}{a:Addr}
theorem rd_of {u:HO}(ok:HOk P w H h) (e:Rd H a u):ObjOk P w H h a u:=e.ok ok
theorem dk_rd {kvs:List 97}(ok:HOk P w H h) (e:Rd H a 84):kvs.length<=sizeLine/\(a == sysModules)=false/\∃vs,KV kvs vs/\h.DictOf (zAn P w) a vs :=
 show ObjOk P w H h a 84 from rd_of ok e
theorem dk_of {kvs:List 97}(ok:HOk P w H h) (e:H a=some 84):kvs.length<=sizeLine/\(a == sysModules)=false/\∃vs,KV kvs vs/\h.DictOf (zAn P w) a vs:=dk_rd ok (.inl e)
theorem zEI {ks:List Key}(ok:HOk P w H h) (e:H a=some (.tup (ks.map kV))):(tupleKind (zAn P w)).is h ks a:=by
 obtain⟨_,its,r,o,h1,h2,n,h3⟩:=(show ObjOk P w H h a (.tup (ks.map kV)) from ok a _ e);exact⟨o,its.toArray,n,h1,h2,h3,by simpa using zFL r⟩
theorem dt_rd {kvs:List (List Key × V)}(ok:HOk P w H h) (e:Rd H a (.dT kvs)):kvs.length<=sizeLine/\(a == sysModules)=false /\
  ∃xs,KT H kvs xs/\h.DictOfH (tupleKind (zAn P w)) a xs:=by
 obtain⟨z,y,xs,r,o,es,ep,h1,h2,h3,h4,h5⟩:=(show ObjOk P w H h a (.dT kvs) from rd_of ok e);refine⟨z,y,xs,r,o,es,ep,h1,h2,h3,h4,λ x hx=>?_,h5⟩
 have all:∀{l:List (List Key × V)}{m:List (List Key × Addr × Value)},KT H l m->∀x∈m,(tupleKind (zAn P w)).is h x.1 x.2.1:=by
  intro l m q
  induction q with
  |nil=>intro x hx;exact nomatch hx
  | @cons p q ps qs hq t ih =>
   intro x hx;rcases lN.mp hx with e|hx
   ·subst e
    exact zEI ok (by rw[←hq.1];exact hq.2.1)
   ·exact ih x hx
 exact all r x hx
theorem dt_of {kvs:List (List Key × V)}(ok:HOk P w H h) (e:H a=some (.dT kvs)):kvs.length<=sizeLine/\(a == sysModules)=false /\
  ∃xs,KT H kvs xs/\h.DictOfH (tupleKind (zAn P w)) a xs:=dt_rd ok (.inl e)
end
def DGet (H:Hp) (a:Addr) (y:V) (r:Option V):Prop :=
 (∃kvs k,Rd H a 84/\y=kV k/\r=valV kvs k)\/∃kvs k b,Rd H a (.dT kvs)/\y = .ref b/\H b=some (.tup (k.map kV))/\r=valV kvs k
def DPut (H:Hp) (a:Addr) (y v:V) (H':Hp):Prop :=
 (∃kvs k,H a=some 84/\y=kV k/\kvs.length<sizeLine/\H'=upd H a (.dK (putK kvs k v))) \/
 ∃kvs k b,H a=some (.dT kvs)/\y = .ref b/\H b=some (.tup (k.map kV))/\kvs.length<sizeLine/\H'=upd H a (.dT (putK kvs k v))
theorem DGet.k {H:Hp}{a:Addr}{kvs:List 97}{k:Key}(e:H a=some 84):DGet H a (kV k) (valV kvs k):=.inl ⟨kvs,k,.inl e,rfl,rfl⟩
theorem DPut.k {H:Hp}{a:Addr}{kvs:List 97}{k:Key}{v:V}(e:H a=some 84) (hl:kvs.length<sizeLine):DPut H a (kV k) v (upd H a (.dK (putK kvs k v))):=.inl ⟨kvs,k,e,rfl,hl,rfl⟩
section
variable {X:Cx}{jP:List (Addr × Obj)}{σ:St}{H:Hp}{s:Shared}{a:Addr}{y v:V}{u r:Value}{o:Option V}{A:Around}{E:XQ}
theorem Inv.big (I:Inv X jP σ H s):sysModules<s.heap.objs.size:=by
 have h:mainGlobals<s.heap.objs.size:=(I.mod.glob.keeps I.bk).lt;exact Nat.lt_trans 46 h
theorem zIQ {Q:XQ}(hu:A.units+1<cLine) (I:Inv X jP σ H s) (g:DGet H a y (some v)) (ry:RelV y u) (h:∀w' s',Inv X jP σ H s'->RelV v w'->Q w' s') :
  wpAny 48 A (getItem (.ref a) u) Q E s:=by
 rcases g with ⟨kvs,k,e,ey,l⟩|⟨kvs,k,b,e,ey,eb,l⟩
 ·subst ey
  obtain⟨z,hd,vs,rel,dd⟩:=dk_rd I.hok e;obtain⟨w',hw,rw'⟩:=RelO.some_of (v:=v) (o:=valueAt vs k) (by rw[l];exact rel.val k);exact wpAny_getItem_of (kV_is ry) dd.mapOf hw (h w' _ (I.tok _) rw')
 ·subst ey
  cases (show u=Value.ref b from ry);obtain⟨z,hd,xs,rel,dd⟩:=dt_rd I.hok e;obtain⟨w',hw,rw'⟩:=RelO.some_of (v:=v) (o:=(atKey xs k).map (·.2)) (by rw[l];exact rel.val k);obtain⟨p,hp,hp2⟩:=lV.mp hw;refine wpAny_getItem_heap (tupleKind_room_in1 hu) (zEI I.hok eb) dd hp ?_;rw[hp2];exact h w' _ (I.tok _) rw'
theorem d_in {Q:XQ}(hu:A.units+1<cLine) (I:Inv X jP σ H s) (g:DGet H a y o) (ry:RelV y u) (h:∀s',Inv X jP σ H s'->Q (.bool o.isSome) s') :
  wpAny 48 A (compareOp .In u (.ref a)) Q E s:=by
 rcases g with ⟨kvs,k,e,ey,l⟩|⟨kvs,k,b,e,ey,eb,l⟩
 ·subst ey
  obtain⟨z,hd,vs,rel,dd⟩:=dk_rd I.hok e;refine wpAny_in_of (kV_is ry) hd dd.mapOf ?_;rw[←(rel.val k).isSome_eq,←l];exact h _ (I.tok _)
 ·subst ey
  cases (show u=Value.ref b from ry);obtain⟨z,hd,xs,rel,dd⟩:=dt_rd I.hok e;refine wpAny_in_heap (tupleKind_room_in1 hu) (zEI I.hok eb) hd dd ?_;have q:=(rel.val k).isSome_eq;rw[Option.isSome_map] at q;rw[←q,←l];exact h _ (I.tok _)
theorem zEs {h':Heap}{t':Nat}{ob:HO}(I:Inv X jP σ H s) (mu:Mut (H a)) (hs:Heap.SameBut a s.heap h') (he:∃q,h'.get? a=some q) (new:ObjOk X.prog X.w (upd H a ob) h' a ob) :
  Inv X jP σ (upd H a ob) { s with heap:=h',toks:=t' } :=
 I.write (x:=a) (e:=a) mu (.inl rfl) (λ b q hb z=>(hs.2 b hb).trans z) he new
theorem zIL {P:Program}{w:World}{H':Hp}{h':Heap}{kvs:List 97}{vs:List (Key × Value)}(z:kvs.length<=sizeLine) (hd:(a == sysModules)=false) (rel:KV kvs vs) (dd:h'.DictOf (zAn P w) a vs) :
  ObjOk P w H' h' a 84:=⟨z,hd,vs,rel,dd⟩
theorem zIP {H':Hp}{Q:Unit->Shared->Prop}(hu:A.units+1<cLine) (I:Inv X jP σ H s) (g:DPut H a y v H') (ry:RelV y u) (rv:RelV v r) (h:∀s',Inv X jP σ H' s'->Q () s') :
  wpAny 48 A (setItem (.ref a) u r) Q E s:=by
 rcases g with ⟨kvs,k,e,ey,l,eH⟩|⟨kvs,k,b,e,ey,eb,l,eH⟩
 ·subst ey eH
  obtain⟨z,hd,vs,rel,dd⟩:=dk_of I.hok e;have hz:vs.length<=sizeLine:=by rw[←rel.length];exact z
  have hl:(putK kvs k v).length<=sizeLine:=by have:=zBr kvs k v;lia
  refine wpAny_setItem_pairs (hsz:=hz) (kV_is ry) dd λ h' dd' hs=>h _ ?_;have he:∃q,h'.get? a=some q:=let ⟨q,_,_,hq,_⟩:=dd';⟨q,hq⟩;exact zEs I (by rw[e];exact True.intro) hs he (zIL hl hd (rel.put k rv) dd')
 ·subst ey eH
  cases (show u=Value.ref b from ry);obtain⟨z,hd,xs,rel,dd⟩:=dt_of I.hok e;have hz:xs.length<=sizeLine:=by rw[←Paired.length rel];exact z
  have hl:(putK kvs k v).length<=sizeLine:=by have:=zBr kvs k v;lia
  refine wpAny_setItem_heap (hsz:=hz) (tupleKind_room_in1 hu) (zEI I.hok eb) dd λ h' dd' hs=>h _ ?_;obtain⟨q,es,ep,hq,h2,h3,h4,_,h5⟩:=dd';refine zEs I (by rw[e];exact True.intro) hs ⟨q,hq⟩ ⟨hl,hd,_,(rel.put k eb rv).keeps λ c ys ec=>?_,q,es,ep,hq,h2,h3,h4,h5⟩;rw[zAO (ne_of ec e (λ z=>nomatch z))]
  exact ec
end
section
variable {X:Cx}{jP:List (Addr × Obj)}{σ:St}{H:Hp}{s:Shared}{a:Addr}{kvs:List (Key × V)}{k:Key}{u:Value}{A:Around}{E:XQ}
theorem d_pop {v:V}{more:List Value}{Q:XQ}(I:Inv X jP σ H s) (e:H a=some 84) (ry:RelV (kV k) u) (l:valV kvs k=some v) (hm:more=[]\/∃x,more=[x])
  (h:∀w' s',Inv X jP σ (upd H a (.dK (dropK kvs k))) s'->RelV v w'->Q w' s'):wpAny 48 A (call (.builtin "dict.pop") (.ref a::u::more)) Q E s:=by
 obtain⟨z,hd,vs,rel,dd⟩:=dk_of I.hok e;obtain⟨w',hw,rw'⟩:=RelO.some_of (v:=v) (o:=valueAt vs k) (by rw[←l];exact rel.val k)
 have hp:(keyPart u).isSome=true:=by
  cases k with
  |inl i=>obtain⟨t,q⟩:=(show ∃t,u=Value.int i t from ry);subst q;rfl
  |inr x=>obtain⟨t,q⟩:=(show ∃t,u=Value.str x t from ry);subst q;rfl
 have ha:argsOk "dict.pop" ⟨.ref a::u::more,[]⟩:=by
  rcases hm with q|⟨x,q⟩
  ·subst q;exact PySem.F.args_dict_pop_2 _ _
  ·subst q;exact PySem.F.args_dict_pop_3 _ _ _
 refine call_meetsIn PySem.F.slot_dict_pop dd.typeIs PySem.F.entry_dict_pop ha (meets_dict_pop_there (zAn X.prog X.w) a (kV_is ry) more hm hp)
  ⟨vs,w',dd,by rw[←rel.length];exact z,hw,λ h' dd' hs=>h w' _ ?_ rw'⟩
 have he:∃q,h'.get? a=some q:=let ⟨q,_,_,hq,_⟩:=dd';⟨q,hq⟩;exact zEs I (by rw[e];exact True.intro) hs he (zIL (mH (zGX kvs k) z) hd (rel.drop k) dd')
end
def NoSl (i:Expr):Prop:=∀ov iv,subscripted i false ov iv=operate [ov,iv] (getItem ov iv)
theorem zHH {prog:Program}{w:World}{A:Around}{E:XQ}{s:Shared}{env:Env}{value slice:Expr}{pos:Pos}{T id:String}{Q:XQ}
  (hl:typeLookup (.type T) "__getitem__" = pure (some (.builtin id))) (hs:NoSl slice)
  (h:wpAny 45 A (eval value env) (λ o s₁=>wpAny 45 A (eval slice env) (λ i s₂=>s₂.TypeIs o T/\wpAny 45 A (getItem o i) Q E s₂) E s₁) E s) :
  wpAny 45 A (eval (.Subscript value slice pos) env) Q E s:=by
 refine Subscript_ (wpAny_mono h (λ o s₁ h₁=>wpAny_mono h₁ (λ i s₂ h₂=>?_) λ Ω Ω x=>x) λ Ω Ω x=>x);obtain⟨hT,h₂⟩:=h₂;unfold subscriptTail;refine lA ?_;rw[getitemInPython_of_ne hT.not_modules];refine lA (wpAny_specialOf hT hl ?_)
 have fin:wpAny 45 A (subscripted slice false o i) (λ r s₃=>wpAny 45 A (letTemporaryGo value o r >>= λ Ω=>pure r) Q E s₃) E s₂:=by
  rw[hs o i];exact wpAny_operating (wpAny_mono h₂ (λ r s₃ h₃=>lA (wpAny_letTemporaryGo (lB h₃))) λ Ω Ω x=>x)
 first
  |exact lB (lA fin)
  |exact lA (lB (lA fin))
  |exact lA fin
theorem zFv {X:Cx}{jP:List 54}{σ:St}{H:Hp}{s:Shared}{a:Addr}{y:V}{o:Option V}(I:Inv X jP σ H s) (g:DGet H a y o):s.TypeIs (.ref a) "dict" := by
 rcases g with ⟨kvs,k,e,_,_⟩|⟨kvs,k,b,e,_,_,_⟩
 ·obtain⟨_,_,vs,_,dd⟩:=dk_rd I.hok e
  exact dd.typeIs
 ·obtain⟨_,_,xs,_,dd⟩:=dt_rd I.hok e
  exact dd.typeIs
inductive IsG (Q:VK) (x y:V) (H:Hp):Prop
 |mk (a:Addr) (v:V) (h:x = .ref a) (g:DGet H a y (some v)) (q:Q v H)
def tDGet (td ty:TE):TE:=λ σ H Q=>td σ H λ x H1=>ty σ H1 (IsG Q x)
inductive IsP (N:Hp->Prop) (v x y:V) (H:Hp):Prop
 |mk (a:Addr) (H4:Hp) (h:x = .ref a) (p:DPut H a y v H4) (q:N H4)
def sDPut (td ty tv:TE):TS:=λ D σ H=>tv σ H λ v H1=>td σ H1 λ x H2=>ty σ H2 (IsP (D.nx σ) v x)
section
variable {X:Cx}{o i e value:Expr}{pos pos' tpos:Pos}{td ty tv:TE}
theorem zEf (hu:X.A.units+1<cLine) (ho:PE X o td) (hi:PE X i ty) (hs:NoSl i):PE X (.Subscript o i pos) (tDGet td ty):=by
 intro jP s σ H Q I h;refine zHH PySem.F.slot_dict_getitem.lookup hs (thn (ho jP s σ H _ I h) λ u s1 ⟨x,H1,I1,rx,q1⟩=>thn (hi jP s1 σ H1 _ I1 q1) λ iv s2 ⟨y,H2,I2,ry,a,v,ex,g,q2⟩=>?_);subst ex;obtain rfl:u=Value.ref a:=rx;exact⟨zFv I2 g,zIQ hu I2 g ry λ w' s3 I3 rw'=>⟨v,H2,I3,rw',q2⟩⟩
theorem zFe (hu:X.A.units+1<cLine) (ho:PE X o td) (hi:PE X i ty) (hv:PE X value tv) (hs:swapsWith value (some (.Subscript o i pos')) pos.line X.env=pure false) :
  PS X (.Assign [.Subscript o i pos'] value pos) (sDPut td ty tv):=by
 intro jP s σ H D I h;refine wpAny_Assign_Subscript (thn (hv jP s σ H _ I h) λ r s1 ⟨v,H1,I1,rv,q1⟩=>thn (ho jP s1 σ H1 _ I1 q1) λ u s2 ⟨x,H2,I2,rx,q2⟩=>thn (hi jP s2 σ H2 _ I2 q2) λ iv s3 ⟨y,H3,I3,ry,a,H4,ex,g,q3⟩=>?_) hs;subst ex;obtain rfl:u=Value.ref a:=rx;exact zIP hu I3 g ry rv λ s4 I4=>⟨σ,H4,I4,q3⟩
end
theorem zJa {P:Program}{w:World}{H:Hp}(h:Heap) (hb:sysModules<h.objs.size):ObjOk P w H (h.push { cls:=.type "dict", data:=.dict #[] }) h.objs.size (.dK []) :=
 ⟨lY _,beq_eq_false_iff_ne.mpr (Ne.symm (lS hb)),[],.nil,Heap.DictOf.new h⟩
def zLE:TE:=λ Ω H Q=>∀p,H p=none->Q (.ref p) (upd H p (.dK []))
section
variable {X:Cx}{pos:Pos}
theorem zCx:PE X (.Dict [] [] pos) zLE:=λ jP s σ H Q I h =>
 wpAny_Dict_empty ⟨.ref s.heap.objs.size,_,I.laid (a:=s.heap.objs.size) (o:=.dK []) (t':=s.toks) (λ Ω Ω q=>lE _ q) (lR _) (zJa s.heap I.big),rfl,h _ (I.hok.fresh (lR _))⟩
end
noncomputable def zBo (kvs more:List 97):List 97:=more.foldl (λ acc kv=>putK acc kv.1 kv.2) kvs
theorem KV.merge:∀{more:List 97}{rs:List (Key × Value)}{kvs:List 97}{vs:List (Key × Value)},KV more rs->KV kvs vs->KV (zBo kvs more) (merged vs rs):=by
 intro more rs kvs vs r;unfold KV at r
 induction r generalizing kvs vs with
 |nil=>intro q;exact q
 | @cons p q ps qs h t ih =>
  intro r0
  have e:KV (putK kvs p.1 p.2) (stored vs q.1 q.2):=by
   have:=r0.put p.1 h.2;rw[←h.1];exact this
  exact ih e
theorem zC0:∀(more kvs:List 97),(zBo kvs more).length<=kvs.length+more.length
 |[],kvs=>by show kvs.length<=kvs.length+0;lia
 |p::r,kvs=>by
  have h1:=zC0 r (putK kvs p.1 p.2);have h2:=zBr kvs p.1 p.2;show (zBo (putK kvs p.1 p.2) r).length<=_;rw[mP];lia
structure M1 (X:Cx) (o:Expr) (m:Str) (apos:Pos) (e:Expr) (cpos:Pos):Prop where
 base:attributeBase o m X.env (eval o X.env)=eval o X.env
 few:((backTo cpos (starEach [e] X.env)).all (λ x=>!x.1) && (backToKw cpos (keywordEach [] X.env)).all (λ x=>x.1.isSome)
  && decide (([e]:List Expr).length+([]:List Keyword).length+(if ([]:List Keyword).isEmpty then 0 else 1)<30))=true
 line:(apos.endLine == cpos.line)=true
 trees:backTo cpos (starEach [e] X.env)=[(false,eval e X.env)]
structure M2 (X:Cx) (o:Expr) (m:Str) (apos:Pos) (e f:Expr) (cpos:Pos):Prop where
 base:attributeBase o m X.env (eval o X.env)=eval o X.env
 few:((backTo cpos (starEach [e,f] X.env)).all (λ x=>!x.1) && (backToKw cpos (keywordEach [] X.env)).all (λ x=>x.1.isSome)
  && decide (([e,f]:List Expr).length+([]:List Keyword).length+(if ([]:List Keyword).isEmpty then 0 else 1)<30))=true
 line:(apos.endLine == cpos.line)=true
 trees:backTo cpos (starEach [e,f] X.env)=[(false,eval e X.env),(false,eval f X.env)]
def IsD (H:Hp) (a:Addr):Prop:=(∃kvs,Rd H a 84)\/∃kvs,Rd H a (.dT kvs)
theorem zH7 {X:Cx}{jP:List 54}{σ:St}{H:Hp}{s:Shared}{a:Addr}(I:Inv X jP σ H s) (d:IsD H a) :
  s.TypeIs (.ref a) "dict" /\ (∀b,Value.ref a = .ref b->∃ob,s.heap.get? b=some ob/\ob.dict=none)/\(a == sysModules)=false:=by
 rcases d with ⟨kvs,e⟩|⟨kvs,e⟩
 ·obtain⟨_,hd,vs,_,dd⟩:=dk_rd I.hok e
  refine⟨dd.typeIs,λ b q=>?_,hd⟩;cases q;obtain⟨ob,_,_,h1,h2,_⟩:=dd;exact⟨ob,h1,h2.2.1⟩
 ·obtain⟨_,hd,xs,_,dd⟩:=dt_rd I.hok e
  refine⟨dd.typeIs,λ b q=>?_,hd⟩;cases q;obtain⟨ob,_,_,h1,h2,_⟩:=dd;exact⟨ob,h1,h2.2.1⟩
section
variable {X:Cx}{jP:List (Addr × Obj)}{σ:St}{H:Hp}{s:Shared}{a:Addr}{y d:V}{u r:Value}{o:Option V}{A:Around}{E:XQ}
theorem zMF {Q:XQ}(hu:A.units+1<cLine) (I:Inv X jP σ H s) (g:DGet H a y o) (ry:RelV y u) (h:∀w' s',Inv X jP σ H s'->RelV (o.getD .non) w'->Q w' s') :
  wpAny 48 A (call (.builtin "dict.get") [.ref a,u]) Q E s:=by
 rcases g with ⟨kvs,k,e,ey,l⟩|⟨kvs,k,b,e,ey,eb,l⟩
 ·subst ey
  obtain⟨z,hd,vs,rel,dd⟩:=dk_rd I.hok e;refine call_meetsIn PySem.F.slot_dict_get dd.typeIs PySem.F.entry_dict_get (PySem.F.args_dict_get_2 _ _) (meets_dict_get (zAn X.prog X.w) a (kV_is ry) hd) ⟨_,dd.mapOf,h _ _ (I.tok _) ?_⟩;rw[l];exact(rel.val k).getD rfl
 ·subst ey
  cases (show u=Value.ref b from ry);obtain⟨z,hd,xs,rel,dd⟩:=dt_rd I.hok e;refine call_meetsIn PySem.F.slot_dict_get dd.typeIs PySem.F.entry_dict_get (PySem.F.args_dict_get_2 _ _) (meetsH_dict_get (tupleKind (zAn X.prog X.w)) a b hd) ⟨tupleKind_room_in1 hu,k,xs,zEI I.hok eb,dd,h _ _ (I.tok _) ?_⟩;rw[l];exact(rel.val k).getD rfl
theorem zME {Q:XQ}(hu:A.units+1<cLine) (I:Inv X jP σ H s) (g:DGet H a y o) (ry:RelV y u) (rd:RelV d r) (h:∀w' s',Inv X jP σ H s'->RelV (o.getD d) w'->Q w' s') :
  wpAny 48 A (call (.builtin "dict.get") [.ref a,u,r]) Q E s:=by
 rcases g with ⟨kvs,k,e,ey,l⟩|⟨kvs,k,b,e,ey,eb,l⟩
 ·subst ey
  obtain⟨z,hd,vs,rel,dd⟩:=dk_rd I.hok e;refine call_meetsIn PySem.F.slot_dict_get dd.typeIs PySem.F.entry_dict_get (PySem.F.args_dict_get_3 _ _ _) (meets_dict_get_default (zAn X.prog X.w) a (kV_is ry) hd r) ⟨_,dd.mapOf,h _ _ (I.tok _) ?_⟩;rw[l];exact(rel.val k).getD rd
 ·subst ey
  cases (show u=Value.ref b from ry);obtain⟨z,hd,xs,rel,dd⟩:=dt_rd I.hok e;refine call_meetsIn PySem.F.slot_dict_get dd.typeIs PySem.F.entry_dict_get (PySem.F.args_dict_get_3 _ _ _) (meetsH_dict_get_default (tupleKind (zAn X.prog X.w)) a b hd r) ⟨tupleKind_room_in1 hu,k,xs,zEI I.hok eb,dd,h _ _ (I.tok _) ?_⟩;rw[l];exact(rel.val k).getD rd
end
def zLG (td ty:TE):TE:=λ σ H Q=>td σ H λ x H1=>∃a,x = .ref a/\IsD H1 a/\ty σ H1 λ y H2=>∃o,DGet H2 a y o/\Q (o.getD .non) H2
def zLF (td ty tx:TE):TE:=λ σ H Q=>td σ H λ x H1=>∃a,x = .ref a/\IsD H1 a/\ty σ H1 λ y H2=>tx σ H2 λ z H3=>∃o,DGet H3 a y o/\Q (o.getD z) H3
def zLD (td ty:TE):TE:=λ σ H Q=>td σ H λ x H1=>∃a,x = .ref a/\IsD H1 a/\ty σ H1 λ y H2=>∃kvs k v,H2 a=some 84/\y=kV k/\valV kvs k=some v/\Q v (upd H2 a (.dK (dropK kvs k)))
section
variable {X:Cx}{o e f:Expr}{apos cpos:Pos}{td ty tx:TE}
theorem zI7 (hu:X.A.units+1<cLine) (ho:PE X o td) (he:PE X e ty) (m:M1 X o "get" apos e cpos):PE X (.Call (.Attribute o "get" apos) [e] [] cpos) (zLG td ty):=by
 intro jP s σ H Q I h;refine wpAny_Call_method m.base m.few m.line tE PySem.F.slot_dict_get PySem.F.type_dict_get (thn (ho jP s σ H _ I h) λ u s1 ⟨x,H1,I1,rx,a,ex,d,q1⟩=>?_);subst ex;obtain rfl:u=Value.ref a:=rx;obtain⟨t1,t2,_⟩:=zH7 I1 d;refine⟨t1,t2,?_⟩;rw[m.trees];refine Calls.callWith_builtin rfl (Calls.evalArgs_plain (Calls.spliced_cons (thn (he jP s1 σ H1 _ I1 q1) λ iv s2 ⟨y,H2,I2,ry,ov,g,q2⟩=>Calls.spliced_nil ?_)));exact zMF hu I2 g ry λ w' s3 I3 rw'=>⟨_,H2,I3,rw',q2⟩
theorem zDR (hu:X.A.units+1<cLine) (ho:PE X o td) (he:PE X e ty) (hf:PE X f tx) (m:M2 X o "get" apos e f cpos):PE X (.Call (.Attribute o "get" apos) [e,f] [] cpos) (zLF td ty tx):=by
 intro jP s σ H Q I h;refine wpAny_Call_method m.base m.few m.line tE PySem.F.slot_dict_get PySem.F.type_dict_get (thn (ho jP s σ H _ I h) λ u s1 ⟨x,H1,I1,rx,a,ex,d,q1⟩=>?_);subst ex;obtain rfl:u=Value.ref a:=rx;obtain⟨t1,t2,_⟩:=zH7 I1 d;refine⟨t1,t2,?_⟩;rw[m.trees]
 refine Calls.callWith_builtin rfl (Calls.evalArgs_plain (Calls.spliced_cons (thn (he jP s1 σ H1 _ I1 q1) λ iv s2 ⟨y,H2,I2,ry,q2⟩ =>
  Calls.spliced_cons (thn (hf jP s2 σ H2 _ I2 q2) λ fv s3 ⟨z,H3,I3,rz,ov,g,q3⟩=>Calls.spliced_nil ?_))))
 exact zME hu I3 g ry rz λ w' s4 I4 rw'=>⟨_,H3,I4,rw',q3⟩
theorem zI6 (ho:PE X o td) (he:PE X e ty) (m:M1 X o "pop" apos e cpos):PE X (.Call (.Attribute o "pop" apos) [e] [] cpos) (zLD td ty):=by
 intro jP s σ H Q I h;refine wpAny_Call_method m.base m.few m.line tE PySem.F.slot_dict_pop PySem.F.type_dict_pop (thn (ho jP s σ H _ I h) λ u s1 ⟨x,H1,I1,rx,a,ex,d,q1⟩=>?_);subst ex;obtain rfl:u=Value.ref a:=rx;obtain⟨t1,t2,_⟩:=zH7 I1 d;refine⟨t1,t2,?_⟩;rw[m.trees];refine Calls.callWith_builtin rfl (Calls.evalArgs_plain (Calls.spliced_cons (thn (he jP s1 σ H1 _ I1 q1) λ iv s2 ⟨y,H2,I2,ry,kvs,k,v,ea,ey,l,q2⟩=>Calls.spliced_nil ?_)));subst ey;exact d_pop I2 ea ry l (.inl rfl) λ w' s3 I3 rw'=>⟨v,_,I3,rw',q2⟩
end
end L2
namespace Att
open PySem PySem.W PySem.Calls PyProof.Rows
theorem zDp {P:Params}{h:Heap}:∀(ns:List Int) (vs:List Value),WellAll P h vs (ns.map WData.int)->IntsAre vs ns:=by
 intro ns
 induction ns with
 |nil =>
  intro vs w;rw[List.map_nil] at w;cases w;exact .nil
 |cons n ns ih =>
  intro vs w;rw[mL] at w;cases w with
  |cons a b =>
   cases a;exact .cons _ _ (ih _ b)
theorem zHN {l:OpenLaw}{n:Nat}(hn:l.most=some n) {P:Params}{h:Heap}{args:List WData}{vals:List Value}
    (hpre:l.row.toRowW.claim.pre args=true) (hwl:WellAll P h vals args) :
    ∃a vs ns,vals=[Value.ref a]/\args=[WData.list (ns.map WData.int)]/\h.get? a=some { cls:=.type "list", data:=.seq vs.toArray }/\IntsAre vs ns/\ns.length<=n:=by
  have hsh:WShape.hasAll [] args [.list .int]=true:=(pre_splitW hpre).1;have hc:l.pre.holds [] { args:=args }=true:=(pre_splitW hpre).2;obtain⟨d,r,rfl,h1,h2⟩:=hasAllW_cons hsh;obtain rfl:=hasAllW_nil h2;obtain⟨xs,rfl,h3⟩:=hasW_list h1;obtain⟨ns,rfl⟩:=items_int h3
  have hlen:ns.length<=n:=by
    unfold OpenLaw.pre at hc
    have h4:(WTm.not (.lt (.lit (.int (n:Int))) (.len (.arg 0)))).holds [] { args:=[.list (ns.map .int)] }=true:=by
      have h4:=(holds_andW hc).1;rw[hn] at h4;exact h4
    have h5:=condW_of h4 (w_not (w_lt w_lit (w_len_list (w_arg rfl))));rw[lC] at h5;refine Nat.le_of_not_lt λ q=>?_;have q':(n:Int)<((ns.length:Nat):Int):=by lia
    first
      | (rw[decide_eq_true q'] at h5;exact absurd h5 (by decide))
      | (simp at h5;lia)
  cases hwl with
  |cons w1 w2 =>
    cases w2;cases w1 with
    |list ho hall=>exact⟨_,_,ns,rfl,rfl,ho,zDp ns _ hall,hlen⟩
theorem zHa (l:OpenLaw) (args:List WData):l.row.toRowW.claim.post args (.bool true) args=true :=
  postW_of (r:=l.row.toRowW) (X:=(true == true))
    (show WShape.has [] (.bool true) .bool=true by first|rfl|decide|simp[WShape.has,WShape.arms,WShape.armsAll])
    (show (WTm.eq .res (.lit (.bool true))).value [] { args:=args,res:=some (.bool true),after:=args }=some (.bool (true == true)) from w_eq_bool (w_res rfl) w_lit) rfl
theorem attach_call {l:OpenLaw}{n:Nat}{q:Program}{loose:List Str}{XP:(Str->Option Value)->Heap->Prop}{YP:World->Heap->Prop}{d:DefRec}
  (hn:l.most=some n) (hdf:d.params.defaults=[])
  (call:∀(w:World) (s₀ s₁:Shared) (mg mb:Str->Option Value) (fa:Addr) (o:Obj) (pm cd doc:Value) (a:Addr) (vs:List Value) (ns:List Int),
   Ground q loose [] XP w s₀ mg mb s₁.heap->YP w s₁.heap ->
   s₁.heap.get? fa=some o->o.data = .func (docDef d.name d.params d.body d.scope pm cd doc)->s₁.heap.CodeRec cd d.name->mg d.name=some (.ref fa) ->
   s₁.heap.get? a=some { cls:=.type "list", data:=.seq vs.toArray }->IntsAre vs ns->ns.length<=n->s₁.gens=#[] ->
   codeAny (model l.prog w) callerA (.call (.ref fa) ⟨[.ref a],[]⟩) (λ r s'=>r = .ok (.ret (.bool true))/\OldK s₁.heap s'.heap/\s'.os=s₁.os/\AllBare s'.gens) s₁) :
  WalkO q loose XP YP l.row.toRowW d [] (λ f vs=>PySem.call f vs):=by
 intro w s₀ s₁ mg mb G Y fa o pm cd doc dV kV ho hd hcd hD hmg hg args vals as hpre hlay hrd hwl hlo;obtain rfl:dV = .none:=Dflts.none hD hdf;obtain rfl:kV = .none:=Dflts.noKw hD;obtain⟨a,vs,ns,rfl,rfl,hobj,hints,hlen⟩:=zHN hn hpre hwl;refine enter_call (codeAny_mono (call w s₀ s₁ mg mb fa o pm cd doc a vs ns G Y ho (fd_plain hd) hcd hmg hobj hints hlen hg) λ r s' hq=>?_);obtain⟨rfl,h2,h3,h4⟩:=hq;exact⟨.inl ⟨.bool true,.bool true,[],rfl,λ Ω=>rfl,.bool true,zHa l _,λ Ω=>⟨List.Pairwise.nil,λ Ω hm=>(nomatch hm)⟩⟩,h2,h3,h4⟩
end Att
namespace L2
open PySem PySem.Spec PyProof.Rows
theorem zEw {vs:List Value}{ns:List Int}(h:IntsAre vs ns):Vals (ns.map V.int) vs:=by
 induction h with
 |nil=>exact .nil
 |cons n t h ih=>exact .cons ⟨t,rfl⟩ ih
def Only (H:Hp):Prop:=∀b,H b=none\/∃o xs,H b=some (.frz o (.lst xs))
theorem zJP {P:Program}{w:World}{K:W.Frag}{mg mb:Str->Option Value}{CX:CXT}{k:Nat}{fa a:Addr}{fd:FuncData}{x:Str}{sp:Sp}{s₁:Shared}{vs:List Value}{ns:List Int}
  (KX:K.In s₁.heap) (hns:s₁.heap.Ns mainGlobals mg) (hb:s₁.heap.Ns builtinsNs mb) (hbb:∀x:Str,x ≠ "__name__" -> mb x=bootBuiltins x) (hlim:s₁.heap.NoLimit) (hg:s₁.gens=#[])
  (ha:s₁.heap.get? a=some { cls:=.type "list", data:=.seq vs.toArray }) (hi:IntsAre vs ns) (hl:ns.length<=sizeLine) (hr:Room k callerA)
  (F:∀base:Heap,K.In base->base.Ns mainGlobals mg->FnOk P w K mg base CX k fa fd [x] sp) (hbind:∀(s:Shared) (u:Value),BindsTo s fd ⟨[u],[]⟩ [(x,u)])
  (hsp:∀H:Hp,Only H->SqL K H a (ns.map V.int)->sp [.ref a] H (λ v Ω=>v = .bl true) λ Ω Ω Ω=>False)
  (hCX:∀H e s',CX [] H s₁ (λ Ω Ω Ω=>False) e s'->False) :
  codeAny (model P w) callerA (.call (.ref fa) ⟨[.ref a],[]⟩) (λ r s'=>r = .ok (.ret (.bool true))/\OldK s₁.heap s'.heap/\s'.os=s₁.os/\AllBare s'.gens) s₁:=by
 have rv:=zEw hi;have lenV:=hi.length
 have core:∀H:Hp,Only H->SqL K H a (ns.map V.int)->HOk P w H s₁.heap->(∀b,H b≠none->b=a)->(H a≠none->K.lookup a=none) ->
   codeAny (model P w) callerA (.call (.ref fa) ⟨[.ref a],[]⟩) (λ r s'=>r = .ok (.ret (.bool true))/\OldK s₁.heap s'.heap/\s'.os=s₁.os/\AllBare s'.gens) s₁:=by
  intro H hO hS hok hA hK;have base_of:∀{b:Addr}{o:Obj},s₁.heap.get? b=some o->H b=none->(hidT s₁.heap H).get? b=some o:=λ e n=>zJS e n
  have noA:∀{b:Addr}{o:Obj}{es:Array DictEntry}{ep:Nat},s₁.heap.get? b=some o->o.data = .dict es ep->H b=none:=λ{b o es ep} e d=>by
   cases q:H b with
   |none=>rfl
   |some u =>
    have e':b=a:=hA b (by rw[q];simp);subst e';rw[ha] at e;cases e;have d':Data.seq vs.toArray _=Data.dict es ep:=d;cases d'
  have nsK:∀{b:Addr}{m:Str->Option Value},s₁.heap.Ns b m->(hidT s₁.heap H).Ns b m:=λ{b m} ⟨o,es,ep,e,d,r⟩=>⟨o,es,ep,base_of e (noA e d),d,r⟩
  have hKb:K.In (hidT s₁.heap H):=λ b o e=>base_of (KX b o e) (by
   cases q:H b with
   |none=>rfl
   |some u =>
    have e':b=a:=hA b (by rw[q];simp);subst e';rw[hK (by rw[q];simp)] at e;cases e)
  have hM:Mod K mg (hidT s₁.heap H):=⟨hKb,nsK hns,⟨mb,nsK hb,hbb⟩,let ⟨mc,h1,h2⟩:=hlim;⟨mc,nsK h1,h2⟩⟩;have e0:Env0 P w K mg (hidT s₁.heap H) callerA [] s₁ H:=⟨rfl,hM,λ b o e=>zKl e,Nat.le_of_eq (zIB _ _),trivial,λ b hb=>absurd (show b∈([]:List Addr) from hb) 41,hok,.of_eq hg⟩;refine codeAny_mono ((F _ hKb (nsK hns)).run callerA [] s₁ H ⟨[.ref a],[]⟩ [.ref a] [.ref a] _ _ hr e0 (hbind s₁ (.ref a)) (.cons rfl .nil) (hsp H hO hS)) λ r s' h=>?_;cases r with
  |error e=>exact(hCX H e s' h).elim
  |ok fl =>
   cases fl with
   |next=>exact False.elim h
   |brk=>exact False.elim h
   |cont=>exact False.elim h
   |ret u =>
    obtain⟨v,H',os,bare,un,hok',r',q⟩:=h;have q':v = .bl true:=q;subst q';obtain rfl:u=Value.bool true:=r';refine⟨rfl,OldK.of_keep λ b o e=>?_,os,bare⟩;cases q:H b with
    |none=>exact un.keep b o e q (by intro z;exact absurd (show b∈([]:List Addr) from z) 41) 41
    |some u =>
     rcases hO b with z|⟨ob,xs,z⟩
     ·rw[q] at z;cases z
     ·have z2:=un.frzs b ob _ z
      obtain⟨e1,_⟩:=hok b _ z;obtain⟨e2,_⟩:=hok' b _ z2;rw[e] at e1;cases e1;exact e2
 cases hk:K.lookup a with
 |some o =>
  have e:=KX a o hk;rw[ha] at e;cases e;refine core (λ Ω=>none) (λ Ω=>.inl rfl) (.inr ⟨_,vs.toArray,_,hk,rfl,rfl,rfl,by rw[mD,lenV];exact hl,by simpa using rv⟩) (λ b u z=>by have z':(none:Option HO)=some u:=z;cases z') (λ b z=>absurd rfl z) λ z=>absurd rfl z
 |none =>
  refine core (λ b=>if b=a then some (.frz { cls:=.type "list", data:=.seq vs.toArray } (.lst (ns.map V.int))) else none) (λ b=>?_) (.inl (.inr ⟨{ cls:=.type "list", data:=.seq vs.toArray },if_pos rfl⟩)) (λ b u z=>?_) (λ b z=>?_) λ Ω=>hk
  ·by_cases hb:b=a
   ·exact .inr ⟨_,_,if_pos hb⟩
   ·exact .inl (if_neg hb)
  ·by_cases hb:b=a
   ·have z':=(if_pos hb).symm.trans z
    cases z';subst hb;exact⟨ha,by rw[lC];exact hl,vs,_,rv,ha⟩
   ·have z':=(if_neg hb).symm.trans z
    cases z'
  ·by_cases hb:b=a
   ·exact hb
   ·exact absurd (if_neg hb) z
theorem walk_of {l:W.OpenLaw}{n k:Nat}{q:Program}{loose:List Str}{XP:(Str->Option Value)->Heap->Prop}{YP:World->Heap->Prop}{d:DefRec}{K:Params->W.Frag}{CX:World->CXT}{sp:World->Sp}{x:Str}
  (hn:l.most=some n) (hn2:n<=sizeLine) (hdf:d.params.defaults=[]) (hr:Room k callerA)
  (hY:∀(w:World) (h:Heap),YP w h->(K w.params).In h)
  (F:∀(w:World) (mg:Str->Option Value) (fa:Addr) (h:Heap),(K w.params).In h->h.Ns mainGlobals mg->mg d.name=some (.ref fa) ->
   ∃fd:FuncData,(∀(s:Shared) (u:Value),BindsTo s fd ⟨[u],[]⟩ [(x,u)]) /\
    ∀base:Heap,(K w.params).In base->base.Ns mainGlobals mg->FnOk l.prog w (K w.params) mg base (CX w) k fa fd [x] (sp w))
  (hsp:∀(w:World) (H:Hp) (a:Addr) (ns:List Int),ns.length<=n->Only H->SqL (K w.params) H a (ns.map V.int)->sp w [.ref a] H (λ v Ω=>v = .bl true) λ Ω Ω Ω=>False)
  (hCX:∀(w:World) (H:Hp) (s:Shared) (e:Value) (s':Shared),CX w [] H s (λ Ω Ω Ω=>False) e s'->False) :
  W.WalkO q loose XP YP l.row.toRowW d [] (λ f vs=>PySem.call f vs):=by
 refine Att.attach_call hn hdf λ w s₀ s₁ mg mb fa o pm cd doc a vs ns G Y ho hd hcd hmg hobj hints hlen hg=>?_;have KX:=hY w _ Y;obtain⟨fd,hb,hF⟩:=F w mg fa _ KX G.T.g hmg;exact zJP KX G.T.g G.T.b G.T.builtins G.T.nolimit hg hobj hints (mH hlen hn2) hr hF hb (λ H hO hS=>hsp w H a ns hlen hO hS) λ H e s'=>hCX w H s₁ e s'
noncomputable def zKt (s:Stmt) (j:Nat):Stmt:=match s with
 |.ClassDef _ _ _ body _ _ _ _ _ _ _=>body.getD j (.Pass ⟨0,0,0,0⟩)
 |_=>.Pass ⟨0,0,0,0⟩
noncomputable def zA6 (s:Stmt):Arguments:=match s with
 |.FunctionDef _ a _ _ _ _ _ _ _ _=>a
 |_=>{ posonlyargs:=[],args:=[],vararg:=none,kwonlyargs:=[],kw_defaults:=[],kwarg:=none,defaults:=[] }
noncomputable def zAp (s:Stmt):List Stmt:=match s with
 |.FunctionDef _ _ b _ _ _ _ _ _ _=>b
 |_=>[]
noncomputable def zAJ (s:Stmt):Scope:=match s with
 |.FunctionDef _ _ _ _ _ _ sc _ _ _=>sc
 |_=>{ kind:=.function,names:=[],isGenerator:=false,isCoroutine:=false }
abbrev CX0:CXT:=λ Ω Ω Ω Ω Ω Ω=>False
abbrev E0:XK:=λ Ω Ω Ω=>False
theorem pass0 {X:Cx}:zEO CX0 X E0:=λ Ω Ω Ω Ω Ω Ω Ω h=>h.elim
structure Fun (K:W.Frag) (x qual:Str) (st:Stmt) (f:Addr) (fd:FuncData):Prop where
 ex:∃(oc:Value) (od:Option Addr) (kV doc pm:Value) (an:Option Addr) (cdv ct:Value) (osl:Array (Option Value)),
  fd=W.fnOf x qual (zA6 st) (zAp st) (zAJ st) .none kV doc pm an cdv ct/\K.lookup f=some ⟨oc,od,.func fd,osl⟩/\W.codeIn K cdv qual=true
 kp:W.keepIn K (.ref f)=true
section
variable {P:Program}{w:World}{K:W.Frag}{mg:Str->Option Value}{base:Heap}
theorem Fun.ok {x qual:Str}{st:Stmt}{f:Addr}{fd:FuncData}{N ps:List Str}{k:Nat}{sp:Sp}(F:Fun K x qual st f fd) (S:zAX N ps (zAJ st)) (len:∀vs H Q E,sp vs H Q E->vs.length=ps.length)
  (hbody:∀(cdv:Value) (A:Around) (outer:List Env) (s:Shared) (H:Hp) (vs:List V) (Q:VK) (E:XK),Room k (A.deeper (envOfC qual (zAJ st) s.heap.objs.size f cdv))->sp vs H Q E ->
   ∃t,PSs (cxOf CX0 P w K mg base N qual (zAJ st) f cdv A outer s H E).nox (zAp st) t/\t { nx:=λ Ω H'=>Q .non H',rt:=Q } (start N vs) H):FnOk P w K mg base CX0 (k+1) f fd ps sp:=by
 obtain⟨oc,od,kV,doc,pm,an,cdv,ct,osl,rfl,lk,hcd⟩:=F.ex;refine fn_of lk hcd S len λ A outer s H vs Q E hr hsp=>?_;obtain⟨t,h,q⟩:=hbody cdv A outer s H vs Q E hr hsp;exact⟨t,h.nox,q⟩
theorem Fun.binds {x qual:Str}{st:Stmt}{f:Addr}{fd:FuncData}{ps:List Str}(F:Fun K x qual st f fd)
  (h:∀(kV doc pm:Value) (an:Option Addr) (cdv ct:Value) (us:List Value),us.length=ps.length->bindArgs (W.fnOf x qual (zA6 st) (zAp st) (zAJ st) .none kV doc pm an cdv ct) ⟨us,[]⟩=pure (ps.zip us)):Binds K fd ps []:=by
 obtain⟨oc,od,kV,doc,pm,an,cdv,ct,osl,rfl,lk,hcd⟩:=F.ex;exact .all (h kV doc pm an cdv ct)
theorem zIC {x qual:Str}{st:Stmt}{f:Addr}{oc:Value}{od an:Option Addr}{osl:Array (Option Value)}{kV doc pm cdv ct:Value}(l:K.lookup f=some ⟨oc,od,.func (W.fnOf x qual (zA6 st) (zAp st) (zAJ st) .none kV doc pm an cdv ct),osl⟩)
  (c:W.codeIn K cdv qual=true) (k:W.keepIn K (.ref f)=true):Fun K x qual st f (W.fnOf x qual (zA6 st) (zAp st) (zAJ st) .none kV doc pm an cdv ct):=⟨⟨oc,od,kV,doc,pm,an,cdv,ct,osl,rfl,l,c⟩,k⟩
end
theorem hu_of {A:Around}{k:Nat}(hr:Room k A):A.units+1<cLine:=Nat.lt_of_le_of_lt (Nat.add_le_add_left (by decide:1<=64) _) hr.units
theorem zAf {n:Nat}(h:n<=1000):n<sizeLine:=Nat.lt_of_le_of_lt h 46
section
variable {X:Cx}
theorem pv (i:Nat) {x:Str}{pos:Pos}(hN:X.N[i]?=some x:=by rfl) (hv:Vis X.env.scope x:=by first|exact Or.inl rfl|exact Or.inr (Or.inl rfl)|exact Or.inr (Or.inr rfl)) (hd:78=false:=by decide)
  (hcd:(x == ("__classdict__" : Str))=false:=by decide):PE X (.Name x pos) (tVar i):=zLW hN hv hd hcd
end
theorem iteF {A B:Prop}(h:B):if false=true then A else B:=by
 rw[if_neg Bool.false_ne_true];exact h
theorem iteT {A B:Prop}(h:A):if true=true then A else B:=by
 rw[if_pos rfl];exact h
theorem ite2 {c A B:Prop} [Decidable c] (h1:c->A) (h2:¬c->B):if c then A else B:=by
 by_cases h:c
 ·rw[if_pos h]
  exact h1 h
 ·rw[if_neg h]
  exact h2 h
theorem iteNS {c A B:Prop} [Decidable c] (hc:c) (h:B):if (!decide c)=true then A else B:=by
 rw[decide_eq_true hc];exact iteF h
def Same (H H':Hp):Prop:=∀b o,H b=some o->H' b=some o
theorem Same.refl (H:Hp):Same H H:=λ Ω Ω h=>h
theorem Same.trans {H H1 H2:Hp}(a:Same H H1) (b:Same H1 H2):Same H H2:=λ c o h=>b c o (a c o h)
theorem Same.free {H H':Hp}(e:Same H H') {l:Addr}(h:H' l=Option.none):H l=Option.none:=by
 cases q:H l with
 |none=>rfl
 |some o =>
  rw[e l o q] at h;cases h
theorem Same.seq {K:W.Frag}{H H':Hp}{a:Addr}{xs:List V}(e:Same H H') (h:SqL K H a xs):SqL K H' a xs:=by
 rcases h with (h|⟨o,h⟩)|h
 ·exact .inl (.inl (e _ _ h))
 ·exact .inl (.inr ⟨o,e _ _ h⟩)
 ·exact .inr h
section
variable {κ:Type} [DecidableEq κ]
theorem zF4 {kvs:List (κ × V)}{k:κ}(h:valV kvs k=none):¬k∈kvs.map (·.1):=by
 intro m;obtain⟨p,hp,e⟩:=mC.mp m;have q:(kvs.any λ kv=>decide (kv.1=k))=true:=List.any_eq_true.mpr ⟨p,hp,lU e⟩;rw[zBs,h] at q;exact absurd q 41
theorem zKJ {kvs:List (κ × V)}{k:κ}{v:V}(h:valV kvs k=some v):k∈kvs.map (·.1):=by
 have q:(kvs.any λ kv=>decide (kv.1=k))=true:=by
  rw[zBs,h]
  all_goals rfl
 obtain⟨p,hp,e⟩:=List.any_eq_true.mp q;exact mC.mpr ⟨p,hp,lT e⟩
theorem zFk:∀{l:List κ}{k:κ},l.Nodup->¬k∈l->(l++[k]).Nodup
 |[],k,_,_=>by simp
 |a::r,k,h,hk=>by
  obtain⟨h1,h2⟩:=rL.mp h;show (a::(r++[k])).Nodup;refine rL.mpr ⟨λ m=>?_,zFk h2 λ m=>hk (lN.mpr (Or.inr m))⟩;rcases lJ.mp m with q|q
  ·exact h1 q
  ·exact hk (lN.mpr (Or.inl (mX.mp q).symm))
theorem zFl {kvs:List (κ × V)}{k:κ}(v:V) (hn:(kvs.map (·.1)).Nodup) (h:valV kvs k=none):((putK kvs k v).map (·.1)).Nodup:=by
 rw[zCA v h,mU];exact zFk hn (zF4 h)
end
abbrev NoX:Value->Shared->Prop:=λ Ω Ω=>False
theorem noX {al:Type}{t:Sem al}{Q:al->Shared->Prop}{M:Model}{A:Around}{E:XQ}{s:Shared}(h:wpAny M A t Q NoX s):wpAny M A t Q E s :=
 wpAny_mono h (λ Ω Ω q=>q) λ Ω Ω z=>z.elim
noncomputable def capSt (cap:List (Option Nat)) (σ:St):St:=cap.map λ o=>match o with
 |none=>none
 |some j=>(σ[j]?).join
inductive Ext:St->St->Prop
 |nil:Ext [] []
 |skip {a b:St}{x:Option V}:Ext a b->Ext (none::a) (x::b)
 |keep {a b:St}{x:Option V}:Ext a b->Ext (x::a) (x::b)
theorem Ext.len {a b:St}(h:Ext a b):a.length=b.length:=by
 induction h with
 |nil=>rfl
 |skip _ ih=>simp[ih]
 |keep _ ih=>simp[ih]
theorem Ext.get {a b:St}(h:Ext a b):∀(i:Nat) v,a[i]?=some (some v)->b[i]?=some (some v):=by
 induction h with
 |nil=>intro i v e;simp at e
 |skip _ ih =>
  intro i v e;cases i with
  |zero=>simp at e
  |succ i=>simpa using ih i v (by simpa using e)
 |keep _ ih =>
  intro i v e;cases i with
  |zero=>simpa using e
  |succ i=>simpa using ih i v (by simpa using e)
noncomputable def Cx.block (X:Cx) (sc:Scope) (cl:List (Str × Addr)) (N:List Str) (s:Shared) (H:Hp) (C:Addr) (ex:List Addr):Cx where
 prog:=X.prog
 w:=X.w
 K:=X.K
 mg:=X.mg
 base:=X.base
 A:=X.A
 N:=N
 s₀:=s
 H₀:=H
 env:=compEnvC sc cl C X.env
 outer:=X.stack
 stack:=X.stack
 ex:=ex
 fn:=λ Ω=>false
 calm:=X.calm
 pn:=[]
 xe:=NoX
theorem zDD {env:Env}:∀(names:List (Str × NameKind)) (cs:List (Str × Addr)),(∀n,(n,NameKind.free)∈names->∃c,env.cells.lookup n=some c) ->
  (∀x c,cs.lookup x=some c->env.cells.lookup x=some c) ->
  ∃cl:List (Str × Addr),(forIn names cs λ(x:Str × NameKind) (r:List (Str × Addr))=>(if (x.2 == NameKind.free)=true then do let c ← cellOf env x.1;pure (ForInStep.yield ((x.1,c)::r)) else pure (ForInStep.yield r)):Sem (List (Str × Addr)))=pure cl /\
   (∀x c,cl.lookup x=some c->env.cells.lookup x=some c)/\(∀n,(n,NameKind.free)∈names->∃c,cl.lookup n=some c)/\(∀n c,cs.lookup n=some c->∃c,cl.lookup n=some c)
 |[],cs,_,hc=>⟨cs,rfl,hc,λ Ω h=>(nomatch h),λ n c e=>⟨c,e⟩⟩
 | (n,k)::r,cs,h,hc=>by
  by_cases hk:k = .free
  ·subst hk
   obtain⟨c,ec⟩:=h n lP
   have hc':∀x c',((n,c)::cs).lookup x=some c'->env.cells.lookup x=some c':=λ x c' e=>by
    rw[List.lookup_cons] at e;cases hx:x == n with
    |true=>rw[hx] at e;cases e;rw[eq_of_beq hx];exact ec
    |false=>rw[hx] at e;exact hc x c' e
   obtain⟨cl,e1,e2,e3,e4⟩:=zDD r ((n,c)::cs) (λ m hm=>h m (lQ _ hm)) hc';refine⟨cl,?_,e2,λ m hm=>?_,λ m c' e=>?_⟩
   ·rw[List.forIn_cons,←e1]
    simp only[beq_self_eq_true,if_true,cellOf,ec];rfl
   ·rcases lN.mp hm with z|z
    ·cases z
     exact e4 n c 41
    ·exact e3 m z
   ·by_cases hm:m=n
    ·subst hm;exact e4 m c 41
    ·exact e4 m c' (by rw[List.lookup_cons,beq_eq_false_iff_ne.mpr hm];exact e)
  ·have hb:(k == NameKind.free)=false:=by simpa using hk
   obtain⟨cl,e1,e2,e3,e4⟩:=zDD r cs (λ m hm=>h m (lQ _ hm)) hc;refine⟨cl,?_,e2,λ m hm=>?_,e4⟩
   ·rw[List.forIn_cons,←e1]
    simp only[hb,Bool.false_eq_true,if_false];rfl
   ·rcases lN.mp hm with z|z
    ·cases z;exact absurd rfl hk
    ·exact e3 m z
theorem zGz {sc:Scope}{env:Env}(h:∀n,(n,NameKind.free)∈sc.names->∃c,env.cells.lookup n=some c) :
  ∃cl:List (Str × Addr),closureFor sc env=pure cl/\(∀x c,cl.lookup x=some c->env.cells.lookup x=some c)/\(∀n,(n,NameKind.free)∈sc.names->∃c,cl.lookup n=some c):=by
 obtain⟨cl,e1,e2,e3,_⟩:=zDD (env:=env) sc.names [] h (λ x c e=>by simp at e);refine⟨cl,?_,e2,e3⟩;unfold closureFor;rw[←bind_pure (pure cl),←e1]
theorem zEG {names:List (Str × NameKind)}{x:Str}{k:NameKind}(h:names.lookup x=some k):(x,k)∈names:=by
 induction names with
 |nil=>simp at h
 |cons p r ih =>
  obtain⟨n,j⟩:=p;rw[List.lookup_cons] at h;cases hx:x == n with
  |true=>rw[hx] at h;cases h;rw[eq_of_beq hx];exact lP
  |false=>rw[hx] at h;exact lQ _ (ih h)
set_option tactic.hygienic true in
theorem zDH {sc:Scope}{env:Env}{x:Str}{k:NameKind}(hk:k = .cell\/k = .free) (nc:∀y∈sc.names,y.2 ≠ .cell) (h:(relabel sc env).names.lookup x=some k):(x,NameKind.free)∈sc.names:=by
 have m:=zEG h;obtain⟨⟨n,j⟩,hm,e⟩:=mC.mp m;have q:(if (j == NameKind.free && env.scope.kind == .function && env.kindOf n == some .cell)=true then (n,NameKind.cell) else (n,j))=(x,k):=e;split at q
 ·rename_i c
  rw[Bool.and_eq_true,Bool.and_eq_true] at c;have j':j = .free:=by simpa using c.1.1
  cases q;rw[j'] at hm;exact hm
 ·cases q
  rcases hk with z|z
  ·exact absurd z (nc _ hm)
  ·rw[z] at hm;exact hm
theorem zBp {sc:Scope}{env:Env}{x:Str}:∀{names:List (Str × NameKind)},names.lookup x=some .free ->
  (names.map λ(n,k)=>if (k == NameKind.free && env.scope.kind == .function && env.kindOf n == some .cell) then (n,NameKind.cell) else (n,k)).lookup x=some .cell \/
  (names.map λ(n,k)=>if (k == NameKind.free && env.scope.kind == .function && env.kindOf n == some .cell) then (n,NameKind.cell) else (n,k)).lookup x=some .free
 |[],h=>by simp at h
 | (n,k)::r,h=>by
  have ih:=@zBp sc env x r;rw[List.lookup_cons] at h
  by_cases c:(k == NameKind.free && env.scope.kind == .function && env.kindOf n == some .cell)=true
  ·rw[mL]
   simp only[c,if_true,List.lookup_cons];cases hx:x == n with
   |true=>exact .inl rfl
   |false=>rw[hx] at h;exact ih h
  ·rw[mL]
   have c':=Bool.eq_false_iff.mpr c;simp only[c',Bool.false_eq_true,if_false,List.lookup_cons];cases hx:x == n with
   |true=>rw[hx] at h;cases h;exact .inr rfl
   |false=>rw[hx] at h;exact ih h
theorem zIV {P:Program}{w:World}{A:Around}{R:Result->Shared->Prop}{s:Shared}{elt tg iter:Expr}{ifs:List Expr}{sc:Scope}{pos:Pos}{it acc:Value}{env:Env}(J:Nat->Shared->Prop)
  (turn:∀n s,J n s->wpAny (model P w) A (pyNext it) (λ r s1=>match r with
   |none=>R (.ok .next) s1
   |some v=>wpAny (model P w) A (letOwnedTupleGo tg it v) (λ Ω s2=>wpAny (model P w) A (assign tg env v) (λ Ω s3 =>
     wpAny (model P w) A (forIn ifs true λ c r=>if r=true then do let ok ← isTrue c env (eval c env);pure (ForInStep.yield ok) else pure (ForInStep.yield r)) (λ ok s4 =>
      if ok=true then wpAny (model P w) A (eval elt env) (λ x s5=>wpAny (model P w) A (call (.builtin "list.append") [acc,x]) (λ Ω s6=>∃m,m<n/\J m s6) NoX s5) NoX s4
      else ∃m,m<n/\J m s4) NoX s3) NoX s2) NoX s1) NoX s) (n:Nat) (h:J n s) :
  codeAny (model P w) A (.compLoop (.ListComp elt [⟨tg,iter,ifs,0⟩] sc pos) 0 it acc env) R s:=by
 refine codeAny_loop rfl J (λ n s hJ=>?_) n h;refine wpAny_noted ?_;rw[compTurn_list];refine lA (wpAny_standAt (lA (noX (thn (turn n s hJ) λ r s1 h1=>?_))));cases r with
 |none=>exact lB h1
 |some v =>
  refine lA (noX (thn h1 λ Ω s2 h2=>?_));refine lA (noX (thn h2 λ Ω s3 h3=>?_));refine lA (noX (thn h3 λ ok s4 h4=>?_));cases ok with
  |false=>exact lB ⟨rfl,h4⟩
  |true=>exact lA (lA (noX (thn h4 λ x s5 h5=>lA (noX (thn h5 λ Ω s6 h6=>lB (lB ⟨rfl,h6⟩))))))
def PTs (X:Cx) (ifs:List Expr) (t:TT):Prop :=
 ∀(jP:List 54) (s:Shared) (σ:St) (H:Hp) (Q:Bool->Hp->Prop),Inv X jP σ H s->t σ H Q ->
  wpAny 48 X.A (forIn ifs true λ c r=>if r=true then do let ok ← isTrue c X.env (eval c X.env);pure (ForInStep.yield ok) else pure (ForInStep.yield r)) (TP X jP σ Q) X.xe s
def tYes:TT:=λ Ω H Q=>Q true H
theorem zDe {X:Cx}:PTs X [] tYes:=λ Ω Ω Ω H Ω I h=>wpAny_tests_nil ⟨H,I,h⟩
theorem zKU {X:Cx}{c:Expr}{t:TT}(h:PT X c t):PTs X [c] t:=λ jP s σ H Q I hq=>wpAny_tests_one (h jP s σ H Q I hq)
def tComp (cap:List (Option Nat)) (wi:TI) (g:TG) (tt:TT) (te:TE):TE:=λ σ H Q=>wi σ H λ J H1=>∀acc,H1 acc=none ->
 ∃W:Nat->Nat->Hp->Prop,(∃m,W 0 m (upd H1 acc (.lst [])))/\∀i m H2,W i m H2 ->
  (J.stop i H2/\Q (.ref acc) H2)\/(J.go i H2/\∃N:Hp->Prop,(∀H',N H'->∃m',m'<m/\W (i+1) m' H')/\∀x H3,J.yld i H2 x H3->g x (capSt cap σ) H3 λ σ2 H4=>Ext (capSt cap σ) σ2/\tt σ2 H4 λ b H5 =>
   if b=true then te σ2 H5 λ y H6=>∃zs,H6 acc=some (.lst zs)/\zs.length<sizeLine/\N (upd H6 acc (.lst (zs++[y])))
   else N H5)
theorem HOk.but {P:Program}{w:World}{H:Hp}{h h':Heap}{C:Addr}(x:HOk P w H h) (n:H C=none) (sb:Heap.SameBut C h h'):HOk P w H h':=λ a o e =>
 (x a o e).stay (λ b u hb q=>(sb.2 b (λ z=>by
  subst z;rcases hb with z|z
  ·subst z;rw[n] at e;cases e
  ·rw[n] at z;cases z)).trans q) (λ Ω q=>q) λ Ω Ω q=>q
theorem Un.but {fs ex:List Addr}{H H':Hp}{h h1 h2:Heap}{C:Addr}(u:Un fs ex H H' h h1) (lt:h.objs.size<=C) (sb:Heap.SameBut C h1 h2):Un fs ex H H' h h2:=by
 have ne:∀b o,h.get? b=some o->b≠C:=λ b o e=>lS (lZ (lH e) lt);refine⟨λ b o e n hb hx=>(sb.2 b (ne b o e)).trans (u.keep b o e n hb hx),λ b o e n hb hx=>?_,u.free,λ b o e hx=>?_,u.tups,u.frzs,u.tbls⟩
 ·obtain⟨sl,q⟩:=u.slot b o e n hb hx
  exact⟨sl,(sb.2 b (ne b o e)).trans q⟩
 ·obtain⟨o',q⟩:=u.there b o e hx
  exact⟨o',(sb.2 b (ne b o e)).trans q⟩
section
variable {X:Cx}
theorem zJd {jP:List 54}{σ:St}{H:Hp}{s:Shared}{sc:Scope}{cl:List (Str × Addr)}{N:List Str}{C:Addr}{fp:List Addr}(I:Inv X jP σ H s) (hk:sc.kind = .function) (nc:∀y∈sc.names,y.2 ≠ .cell)
  (hC:s.heap.objs.size<=C) (hf:∀b∈fp,FpOk X jP H b) (hfo:∀b∈fp,∃o,s.heap.get? b=some o) (c1:∀x c,cl.lookup x=some c->X.env.cells.lookup x=some c) (c2:∀n,(n,NameKind.free)∈sc.names->∃c,cl.lookup n=some c) :
  (X.block sc cl N s H C fp).Ok where
 mod:=I.ok.mod
 kind:=hk
 glob:=I.ok.glob
 blt:=I.ok.blt
 above:=hC
 inj:=λ x y c e e'=>I.ok.inj x y c (c1 x c e) (c1 y c e')
 has:=λ x h=>c2 x (h.elim (zDH (.inl rfl) nc) (zDH (.inr rfl) nc))
 cab:=λ x c e=>(nomatch e)
 hd:=I.ok.hd
 frames:=I.ok.frames
 stk:=.inl rfl
 exf:=λ b hb=>⟨λ z=>by
  obtain⟨o,e⟩:=hfo b hb;have lt:=lH e;rw[z] at lt;exact absurd (lZ lt hC) (Nat.lt_irrefl _),λ x c e=>(hf b hb).2.2.2.2.1 x c (c1 x c e)⟩
 bs:=I.bs
 bsz:=mH I.ok.bsz I.sz
 noex:=λ b o e hb=>by
  rcases (hf b hb).2.2.2.1 with z|z
  ·exact I.ok.noex b o e z
  ·exact absurd (lZ (lH (I.ok.bs b o e).1) z) (Nat.lt_irrefl _)
 exfs:=λ b hb hs=>by
  rcases lN.mp (I.stkSub b hs) with z|z
  ·exact(hf b hb).2.1 z
  ·exact(hf b hb).2.2.1 z
 funs:=I.stack
 frf:=I.stkFree
theorem zKf {elt tg iter:Expr}{ifs:List Expr}{sc:Scope}{pos:Pos}{wi:TI}{g:TG}{tt:TT}{te:TE}(N:List Str) (cap:List (Option Nat)) (hc:X.calm=true) (hi:PI X tg iter wi)
  (hg:∀cl s H C ex,PG (X.block sc cl N s H C ex) tg g) (ht:∀cl s H C ex,PTs (X.block sc cl N s H C ex) ifs tt) (he:∀cl s H C ex,PE (X.block sc cl N s H C ex) elt te)
  (hk:sc.kind = .function) (nc:∀y∈sc.names,y.2 ≠ .cell) (hnames:∀y∈sc.names,y.2 = .local->sc.names.lookup y.1=some .local)
  (hfree:∀n,(n,NameKind.free)∈sc.names->X.env.kindOf n=some .cell)
  (hcap:∀(i j:Nat),cap[i]?=some (some j)->∃x,N[i]?=some x/\X.N[j]?=some x/\sc.names.lookup x=some .free) (hlen:cap.length=N.length)
  (hs:∀x,foldedSetIterable iter X.env x=pure x:=by intro _;rfl):PE X (.ListComp elt [⟨tg,iter,ifs,0⟩] sc pos) (tComp cap wi g tt te):=by
 intro jP s σ H Q I h;obtain⟨cl,hclos,c1,c2⟩:=zGz (sc:=sc) (env:=X.env) λ n hn=>I.ok.has n (.inl (hfree n hn));rw[eval_ListComp];refine wpAny_comprehension_free (use:=none) rfl hs hclos hk hnames ?_;refine thn (hi jP s σ H _ I h) λ v s1 h1=>thn h1 λ itv s2 h2=>?_;obtain⟨it,fp,tn,J,H2,e,I2,T,st2,f2,q2⟩:=h2;subst e;have hfr:H2 s2.heap.objs.size=none:=I2.fresh;obtain⟨W,⟨m0,w0⟩,turn⟩:=q2 s2.heap.objs.size hfr;have I3:=I2.lnew (ys:=[]) (its:=[]) (t':=s2.toks) .nil (lY _);have hacc:H2 s2.heap.objs.size=none:=hfr;refine wpAny_newObj_type (wpAny_newFunctionEnv nc (by intro y hy;simp at hy) (λ h4 hns hsb=>?_) hk);generalize hs3:({ s2 with heap:=s2.heap.push { cls:=.type "list", data:=.seq ([]:List Value).toArray } }:Shared)=s3 at hns hsb I3 ⊢;have hheap:s3.heap=s2.heap.push { cls:=.type "list", data:=.seq ([]:List Value).toArray }:=by rw[←hs3]
 generalize hH3:upd H2 s2.heap.objs.size (.lst [])=H3 at I3 w0;have up2:∀b o,s2.heap.get? b=some o->s3.heap.get? b=some o:=λ b o q=>by rw[hheap];exact lE _ q
 have neA:∀b∈fp,b≠s2.heap.objs.size:=λ b hb=>by
  obtain⟨o,q,_⟩:=T.obj _ _ st2 b hb;exact lS (lH q)
 have f3:∀b∈fp,FpOk X jP H3 b:=λ b hb=>⟨by rw[←hH3,zAO (neA b hb)];exact(f2 b hb).1,(f2 b hb).2⟩
 have o3:∀b∈fp,∃o,s3.heap.get? b=some o:=λ b hb=>by
  obtain⟨o,q,_⟩:=T.obj _ _ st2 b hb;exact⟨o,up2 b o q⟩
 have ok':=zJd (N:=N) (C:=s3.heap.objs.size) I3 hk nc (lR _) f3 o3 c1 c2;generalize hC:s3.heap.objs.size=C at hns hsb ok' ⊢;have ltC:∀b o,s3.heap.get? b=some o->b≠C:=λ b o q=>by rw[←hC];exact lS (lH q)
 have up4:∀b o,s3.heap.get? b=some o->h4.get? b=some o:=λ b o q=>hsb.extBut b o (ltC b o q) (lE _ q);have st4:tn 0 h4:=T.keep _ _ _ st2 λ b hb o q=>up4 b o (up2 b o q)
 have I4:Inv (X.block sc cl N s3 H3 C fp) [] (capSt cap σ) H3 { s3 with heap:=h4,toks:=s3.toks+([]:List (Str × Value)).length }:=by
  refine⟨ok',rfl,I3.bare,Un.kept up4,⟨_,hns,λ i x v e1 e2 e3=>?_⟩,λ x c q=>?_,?_,λ x c q=>I3.freeC x c (c1 x c q),λ p hp=>(nomatch hp),I3.hok.kept up4,?_⟩
  ·have ee:∃j,cap[i]?=some (some j)/\σ[j]?=some (some v):=by
    unfold capSt at e2;rw[mI] at e2;cases q:cap[i]? with
    |none=>rw[q] at e2;cases e2
    |some o =>
     rw[q] at e2;cases o with
     |none=>cases e2
     |some j =>
      refine⟨j,rfl,?_⟩;have e2':some ((σ[j]?).join)=some (some v):=e2;cases z:σ[j]? with
      |none=>rw[z] at e2';cases e2'
      |some o' =>
       rw[z] at e2';have e2'':o'=some v:=mE e2';rw[e2'']
   obtain⟨j,ej,es⟩:=ee;obtain⟨x',n1,n2,n3⟩:=hcap i j ej;have e1':N[i]?=some x:=e1;rw[n1] at e1';cases e1';have hfr':(x,NameKind.free)∈sc.names:=zEG n3;have kc:=hfree x hfr';obtain⟨m,_,hl⟩:=I3.loc;obtain⟨u,r,l⟩:=hl j x v n2 es (.inr (.inl kc));refine⟨u,r,?_⟩;rcases l with ⟨l,_⟩|⟨_,c,ec,z⟩
   ·rw[kc] at l;cases l
   ·obtain⟨c',ec'⟩:=c2 x hfr'
    have:=c1 x c' ec';rw[ec] at this;cases this;obtain⟨oc,q1,q2⟩:=z;exact .inr ⟨zBp (sc:=sc) n3,c,ec',oc,up4 _ _ q1,q2⟩
  ·obtain⟨v,oc,q1,q2⟩:=I3.cell x c (c1 x c q)
   exact⟨v,oc,up4 _ _ q1,q2⟩
  ·exact I3.hok.fresh (by rw[hC];exact lR _)
  ·show (capSt cap σ).length=N.length
   unfold capSt;rw[lC,hlen]
 have loop:codeAny 48 X.A (.compLoop (.ListComp elt [⟨tg,iter,ifs,0⟩] sc pos) 0 (.ref it) (.ref s2.heap.objs.size) (compEnvC sc cl C X.env)) (compPost 48 X.A X.xe none (EP X jP σ Q) (.ref s2.heap.objs.size) C)
   { s3 with heap:=h4,toks:=s3.toks+([]:List (Str × Value)).length }:=by
  have stat:∀{H':Hp},(∀b∈fp,H' b=none)->∀b∈fp,FpOk (X.block sc cl N s3 H3 C fp) [] H' b:=λ hn b hb =>
   ⟨hn b hb,(ok'.exf b hb).1,ok'.exfs b hb,.inl hb,(ok'.exf b hb).2,λ p hp=>(nomatch hp)⟩
  refine zIV (λ n s'=>∃i H',Inv (X.block sc cl N s3 H3 C fp) [] (capSt cap σ) H' s'/\tn i s'.heap/\(∀b∈fp,H' b=none)/\W i n H') ?_ m0 ⟨0,H3,I4,st4,λ b hb=>(f3 b hb).1,w0⟩;rintro n s5 ⟨i,H5,I5,st5,fr5,w5⟩;rcases turn i n H5 w5 with ⟨stop,qn⟩|⟨go,N',hN',step⟩
  ·refine thn (T.done (X.block sc cl N s3 H3 C fp) rfl rfl rfl hc i [] s5 _ H5 NoX I5 (stat fr5) st5 stop) λ r s6 ⟨hr,I6⟩=>?_
   subst hr;obtain⟨m,hm,_⟩:=I6.loc;refine⟨m,hm,λ h' sb=>⟨.ref s2.heap.objs.size,H5,?_,rfl,qn⟩⟩;refine I3.call' (s':={ s6 with heap:=h' }) (ch:=fp) I6.os (I6.base.but (by rw[←hC];exact lR _) sb) (I6.hok.but I6.free sb) I6.bare λ b hb=>?_;obtain⟨g0,g1,g2,g3,g4,g5⟩:=f3 b hb;exact⟨g3,g1,g4,g5⟩
  ·refine thn (T.item (X.block sc cl N s3 H3 C fp) rfl rfl rfl hc i [] s5 _ H5 NoX I5 (stat fr5) st5 go) λ r s6 ⟨u,hr,h6⟩=>?_
   subst hr;refine thn h6 λ _ s7 ⟨x,H7,I7,r7,y7,st7,fr7⟩=>?_;have I7':=I7.pinned (stat fr7) (T.obj _ _ st7)
   have again:∀{σ8:St}{H8:Hp}{s8:Shared},Inv (X.block sc cl N s3 H3 C fp) ([]++zE9 fp s7.heap) σ8 H8 s8->Ext (capSt cap σ) σ8->N' H8 ->
     ∃m,m<n/\∃i H',Inv (X.block sc cl N s3 H3 C fp) [] (capSt cap σ) H' s8/\tn i s8.heap/\(∀b∈fp,H' b=none)/\W i m H':=λ{σ8 H8 s8} I8 ex n8=>by
    obtain⟨m',hm,w8⟩:=hN' H8 n8;have I8':=I8.unpinned.weak ex.len ex.get;refine⟨m',hm,i+1,H8,I8',T.keep _ _ _ st7 λ b hb o q=>(I8.pin (b,o) (mB _ (mB _ (zCY hb q)))).1,λ b hb=>?_,w8⟩;obtain⟨o,q,d⟩:=T.obj _ _ st7 b hb;exact(I8.pin (b,o) (mB _ (mB _ (zCY hb q)))).2.1
   refine thn (hg cl s3 H3 C fp _ s7 _ H7 x u _ I7' r7 (step x H7 y7)) λ _ s8 ⟨σ8,H8,I8,ex8,q8⟩=>?_;refine thn (ht cl s3 H3 C fp _ s8 σ8 H8 _ I8 q8) λ b s9 ⟨H9,I9,q9⟩=>?_;cases b with
   |false=>exact again I9 ex8 q9
   |true =>
    rw[if_pos rfl] at q9 ⊢;refine thn (he cl s3 H3 C fp _ s9 σ8 H9 _ I9 q9) λ yv s10 ⟨y,H10,I10,r10,zs,e10,l10,q10⟩=>?_;refine thn (zFF (X:=X.block sc cl N s3 H3 C fp) _ s10 σ8 H10 (.ref s2.heap.objs.size) [y] (.ref s2.heap.objs.size) [yv] (λ Ω H'=>N' H') I10 rfl (.cons r10 .nil) ⟨_,zs,y,rfl,rfl,e10,l10,q10⟩) λ _ s11 ⟨_,H11,I11,_,q11⟩=>?_;exact again I11 ex8 q11
 exact codeAny_compStart_list loop (T.self X.A 0 _ _ _ st4 loop)
end
theorem zGw {lo:Int}{n:Nat}{acc:Addr}{g:TG}{tt:TT}{te:TE}{σ:St}{H:Hp}{Q:VK}(Pv:Nat->Hp->Prop) (h0:Pv 0 (upd H acc (.lst [])))
  (hs:∀i H,i<n->Pv i H->g (.int (lo+i)) σ H λ σ2 H4=>Ext σ σ2/\tt σ2 H4 λ b H5 =>
   if b=true then te σ2 H5 λ y H6=>∃zs,H6 acc=some (.lst zs)/\zs.length<sizeLine/\Pv (i+1) (upd H6 acc (.lst (zs++[y]))) else Pv (i+1) H5) (hd:∀H,Pv n H->Q (.ref acc) H) :
  ∃W:Nat->Nat->Hp->Prop,(∃m,W 0 m (upd H acc (.lst [])))/\∀i m H2,W i m H2 ->
   ((Itr lo n).stop i H2/\Q (.ref acc) H2)\/((Itr lo n).go i H2/\∃N:Hp->Prop,(∀H',N H'->∃m',m'<m/\W (i+1) m' H')/\∀x H3,(Itr lo n).yld i H2 x H3->g x σ H3 λ σ2 H4=>Ext σ σ2/\tt σ2 H4 λ b H5 =>
    if b=true then te σ2 H5 λ y H6=>∃zs,H6 acc=some (.lst zs)/\zs.length<sizeLine/\N (upd H6 acc (.lst (zs++[y])))
    else N H5):=by
 refine⟨λ i m H=>m=n - i/\i<=n/\Pv i H,⟨n,by simp,lY _,h0⟩,?_⟩;rintro i m H2 ⟨rfl,hi,p⟩
 by_cases hlt:i<n
 ·refine .inr ⟨hlt,Pv (i+1),λ H' p'=>⟨n - (i+1),by lia,rfl,hlt,p'⟩,λ x H' y=>?_⟩
  obtain⟨e,y⟩:=y;subst e y;exact hs i _ hlt p
 ·have e:i=n:=by lia
  subst e;exact .inl ⟨lR _,hd H2 p⟩
noncomputable def zKF (sc:Scope) (env:Env) (XN N:List Str) (cap:List (Option Nat)):Bool :=
 (sc.kind == .function) && (sc.names.all λ y=>y.2 != .cell) && (sc.names.all λ y=>y.2 != .local || sc.names.lookup y.1 == some .local) &&
 (sc.names.all λ y=>y.2 != .free || env.kindOf y.1 == some .cell) &&
 ((List.range cap.length).all λ i=>match cap[i]? with
  |some (some j)=>(match N[i]? with|some x=>XN[j]? == some x && sc.names.lookup x == some .free|none=>false)
  |_=>true) && (cap.length == N.length)
theorem zCX {X:Cx}{elt tg iter:Expr}{ifs:List Expr}{sc:Scope}{pos:Pos}{wi:TI}{g:TG}{tt:TT}{te:TE}(N:List Str) (cap:List (Option Nat)) (hc:X.calm=true) (hi:PI X tg iter wi)
  (hg:∀cl s H C ex,PG (X.block sc cl N s H C ex) tg g) (ht:∀cl s H C ex,PTs (X.block sc cl N s H C ex) ifs tt) (he:∀cl s H C ex,PE (X.block sc cl N s H C ex) elt te)
  (ck:zKF sc X.env X.N N cap=true) (hs:∀x,foldedSetIterable iter X.env x=pure x:=by intro _;rfl):PE X (.ListComp elt [⟨tg,iter,ifs,0⟩] sc pos) (tComp cap wi g tt te):=by
 unfold zKF at ck;simp only[Bool.and_eq_true] at ck;obtain⟨⟨⟨⟨⟨k1,k2⟩,k3⟩,k4⟩,k5⟩,k6⟩:=ck;refine zKf N cap hc hi hg ht he (by simpa using k1) (λ y hy=>?_) (λ y hy z=>?_) (λ n hn=>?_) (λ i j e=>?_) (by simpa using k6) hs
 ·have:=List.all_eq_true.mp k2 y hy
  simpa using this
 ·have:=List.all_eq_true.mp k3 y hy
  rw[z] at this;simpa using this
 ·have:=List.all_eq_true.mp k4 _ hn
  simpa using this
 ·have hi:i<cap.length:=(lI.mp e).1
  have:=List.all_eq_true.mp k5 i (List.mem_range.mpr hi);rw[e] at this;dsimp only at this;cases q:N[i]? with
  |none=>rw[q] at this;cases this
  |some x =>
   rw[q] at this;dsimp only at this;rw[Bool.and_eq_true] at this;exact⟨x,rfl,by simpa using this.1,by simpa using this.2⟩
section
variable {prog:Program}{w:World}{A:Around}{E:XQ}{s:Shared}
theorem zBi {it t:Addr}{i:Nat}{items:Array Value}{x:Value}{Q:XQ}(hit:s.heap.IsTupleIter it t i) (ht:s.heap.IsTuple t items) (hx:items[i]?=some x)
  (hQ:∀h',h'.IsTupleIter it t (i+1)->Heap.SameBut it s.heap h'->Q x { s with heap:=h' }):wpAny 45 A (Builtin.SmallTypes.nextOf (.ref it)) Q E s:=by
 obtain⟨o,ho,hc,hd⟩:=id hit;obtain⟨ol,hol,_,nl,hdl⟩:=ht;unfold Builtin.SmallTypes.nextOf;refine lA (wpAny_callSpecial?_slot (name:=Str.ofString "__next__") hit.typeIs F.slot_tuple_iterator_next (wpAny_call_entry F.slot_tuple_iterator_next hit.typeIs F.entry_tuple_iterator_next ?_ (F.args_tuple_iterator_next_1 _)));show wpAny _ _ (field (.ref it) 0 >>= _) _ _ s;refine lA (wpAny_field ho hd (x:=.ref t) rfl ?_);show wpAny _ _ (if (Value.ref t == Value.none)=true then _ else _) _ _ s;rw[if_neg (show ¬((Value.ref t == Value.none)=true) from Bool.false_ne_true)];show wpAny _ _ (field (.ref it) 1 >>= _) _ _ s;refine lA (wpAny_field ho hd (x:=.int i 0) rfl ?_);show wpAny _ _ (seqItems? (.ref t) >>= _) _ _ s;refine lA (wpAny_seqItems hol hdl ?_);simp only[Int.toNat_natCast,hx];refine lA (wpAny_setField ho hd 41 (lB ⟨x,rfl,lB (hQ _ ?_ (Heap.SameBut.update ..))⟩));exact⟨_,mJ _ ho (Obj.isFreed_of_fields (Obj.data_mapFields hd _)),(Obj.cls_mapFields ..).trans hc,by rw[Obj.data_mapFields hd];simp[rawInt]⟩
theorem zBw {it t:Addr}{i:Nat}{items:Array Value}{Q:XQ}(hh:A.handled=none) (hit:s.heap.IsTupleIter it t i) (ht:s.heap.IsTuple t items) (hx:items[i]?=none)
  (hE:∀h' e,Heap.ExtBut it s.heap h'->(∃o,h'.get? e=some o/\o.cls = .type "StopIteration")->E (.ref e) { s with heap:=h' }):wpAny 45 A (Builtin.SmallTypes.nextOf (.ref it)) Q E s:=by
 obtain⟨o,ho,hc,hd⟩:=id hit;obtain⟨ol,hol,_,nl,hdl⟩:=ht;unfold Builtin.SmallTypes.nextOf;refine lA (wpAny_callSpecial?_slot (name:=Str.ofString "__next__") hit.typeIs F.slot_tuple_iterator_next (wpAny_call_entry F.slot_tuple_iterator_next hit.typeIs F.entry_tuple_iterator_next ?_ (F.args_tuple_iterator_next_1 _)));show wpAny _ _ (field (.ref it) 0 >>= _) _ _ s;refine lA (wpAny_field ho hd (x:=.ref t) rfl ?_);show wpAny _ _ (if (Value.ref t == Value.none)=true then _ else _) _ _ s;rw[if_neg (show ¬((Value.ref t == Value.none)=true) from Bool.false_ne_true)];show wpAny _ _ (field (.ref it) 1 >>= _) _ _ s;refine lA (wpAny_field ho hd (x:=.int i 0) rfl ?_);show wpAny _ _ (seqItems? (.ref t) >>= _) _ _ s;refine lA (wpAny_seqItems hol hdl ?_);simp only[Int.toNat_natCast,hx];refine lA (wpAny_rule (lA (wpAny_setField ho hd 41 ?_)));show wpAny _ _ (newExc (.type "StopIteration") [] >>= _) _ _ _;refine lA ?_;simp only[newExc,newTuple];refine lA (wpAny_newObj_type ?_ (by size_fits));refine lA (m:=firstArgMember _ _) (wpAny_of_eq (a:=Value.none) (by first|rfl|(simp only[firstArgMember];rfl)) ?_);refine wpAny_newObj_type ?_ (by size_fits);simp only[raiseNew];refine lA (wpAny_handled ?_);first|rw[show A.in1.handled=none from hh]|rw[hh]
 refine lA (lB (wpAny_throw ?_));exact hE _ _ (((Heap.SameBut.update ..).extBut.push _).push _) ⟨_,lG _ rfl,rfl⟩
theorem zFu {prog:Program}{w:World}{A:Around}(hh:A.handled=none) (it t:Addr) (hne:t≠it) (items:Array Value) :
  Draws prog w A it [it,t] items.size (λ i v=>items[i]?=some v) (λ i h=>h.IsTupleIter it t i/\h.IsTuple t items) where
 live:=λ Ω Ω st=>let ⟨o,ho,_⟩:=st.1;⟨o,ho⟩
 frame:=λ Ω Ω Ω st hk=>⟨let ⟨o,ho,r⟩:=st.1;⟨o,hk it 41 o ho,r⟩,let ⟨o,ho,r⟩:=st.2;⟨o,hk t 41 o ho,r⟩⟩
 item:=λ i s Q E hi st hQ=>zBi st.1 st.2 (x:=items[i]) (by simp[hi]) λ h' hit' hs'=>hQ _ h' s.toks (by simp[hi]) ⟨hit',let ⟨o,ho,r⟩:=st.2;⟨o,hs'.extBut t o hne ho,r⟩⟩ hs'
 done:=λ s Q E st hE=>zBw hh st.1 st.2 41 hE
set_option tactic.hygienic true in
theorem zD3 (l:Addr) (items:Array Value) (n:Nat) (dct:Option Addr) (sl:Array (Option Value)) :
  Meets (Builtin.«enumerate.__new__» ⟨[.type "enumerate", .ref l],[]⟩) (λ Ω R s=>s.heap.get? l=some { cls:=.type "tuple", dict:=dct,data:=.seq items n,slots:=sl } /\
   R (.ok (.ret (.ref (s.heap.push { cls:=.type "tuple_iterator", data:=.fields #[.ref l,.int 0 0] }).objs.size)))
    { s with heap:=(s.heap.push { cls:=.type "tuple_iterator", data:=.fields #[.ref l,.int 0 0] }).push { cls:=.type "enumerate", data:=.fields #[.none,.bool false,.ref s.heap.objs.size,rawInt 0,.none,.none] } }) :=
 .of_wp λ prog w A R s h=>by
  obtain⟨hp,g,d,tk,os⟩:=s;obtain⟨hl,h⟩:=h;have hsub:=sub_enumerate;have hL:Heap.IsTuple (Shared.heap ⟨hp,g,d,tk,os⟩) l items:=⟨_,hl,rfl,n,rfl⟩
  wp_walk using AutoSeq1.wpAny_loadPart' hl
  refine wpAny_stack_any λ st=>lB ?_;split
  ·rename_i c _ _ _ _ _;cases (c == Value.type "enumerate")
   ·wp_walk using AutoSeq1.wpAny_loadPart' hl,wpAny_pyIter_tuple hL;exact⟨_,rfl,h⟩
   ·wp_walk using AutoSeq1.wpAny_loadPart' hl,wpAny_pyIter_tuple hL;exact⟨_,rfl,h⟩
  ·wp_walk using AutoSeq1.wpAny_loadPart' hl,wpAny_pyIter_tuple hL;exact⟨_,rfl,h⟩
theorem zEv {l:Addr}{items:Array Value}{Q:XQ}(hL:s.heap.IsTuple l items)
  (h:∀h',IsEnum h' (s.heap.objs.size+1) s.heap.objs.size 0 .none->h'.IsTupleIter s.heap.objs.size l 0->h'.objs.size=s.heap.objs.size+2 ->
   (∀b o,s.heap.get? b=some o->h'.get? b=some o)->Q (.ref (s.heap.objs.size+1)) { s with heap:=h' }):wpAny 45 A (call (.type "enumerate") [.ref l]) Q E s:=by
 obtain⟨⟨c,dct,dt,sl⟩,hl,hc,n,hd⟩:=hL;replace hc:c = .type "tuple" := hc;replace hd:dt = .seq items n:=hd;subst hc hd;refine callType_new F.called_enumerate 46 (F.typeCall_enumerate_1 _) (F.newCall_enumerate_1 _) (λ obj=>F.args_object_init_2 obj _) F.entry_enumerate_new (zD3 l items n dct sl) ⟨hl,?_⟩;have hz:(s.heap.push { cls:=.type "tuple_iterator", data:=.fields #[.ref l,.int 0 0] }).objs.size=s.heap.objs.size+1:=Heap.size_push ..;show _/\_;rw[hz]
 have he:IsEnum ((s.heap.push { cls:=.type "tuple_iterator", data:=.fields #[.ref l,.int 0 0] }).push { cls:=.type "enumerate", data:=.fields #[.none,.bool false,.ref s.heap.objs.size,rawInt 0,.none,.none] }) (s.heap.objs.size+1) s.heap.objs.size 0 .none:=by
  have:=lG (s.heap.push { cls:=.type "tuple_iterator", data:=.fields #[.ref l,.int 0 0] }) (o:={ cls:=.type "enumerate", data:=.fields #[.none,.bool false,.ref s.heap.objs.size,rawInt 0,.none,.none] }) rfl;rw[hz] at this;exact this
 exact⟨⟨_,he,rfl⟩,h _ he ⟨_,lE _ (lG _ rfl),rfl,rfl⟩ (by rw[Heap.size_push,hz]) λ b o x=>lE _ (lE _ x)⟩
end
section
variable {X:Cx}{jP:List (Addr × Obj)}{σ:St}{H:Hp}{s:Shared}{h':Heap}
theorem Inv.turnedN {t':Nat}{ch:List Addr}(I:Inv X jP σ H s) (k:∀b o,b∉ch->s.heap.get? b=some o->h'.get? b=some o) (hf:∀b∈ch,FpOk X jP H b):Inv X jP σ H { s with heap:=h',toks:=t' }:=by
 refine I.step (g':=s.gens) (d':=s.drawn) (ch:=ch) (λ b hb=>?_) (λ b o Ω Ω hc e Ω=>k b o hc e) (λ b o Ω Ω hc e Ω=>⟨o.slots,k b o hc e⟩) (λ Ω Ω Ω Ω n=>n)
  (λ b o hc e=>⟨o,k b o hc e⟩) (λ Ω Ω e=>e) (λ Ω Ω Ω e=>e) (λ b ps e=>⟨#[],by rw[e];simp⟩) (λ m hm=>?_) (λ b u e=>?_) I.bare
 ·obtain⟨f0,f1,f2,f3,f4,f5⟩:=hf b hb
  exact⟨f3,f1,f4,f5⟩
 ·obtain⟨o,es,ep,ho,r⟩:=hm
  exact⟨o,es,ep,k _ o (λ z=>(hf _ z).2.1 rfl) ho,r⟩
 ·refine(I.hok b u e).stay (λ c v hc q=>k c v (λ z=>?_) q) (λ Ω q=>q) λ Ω Ω q=>q
  have n:=(hf c z).1;rcases hc with y|y
  ·rw[y,e] at n;cases n
  ·rw[y] at n;cases n
theorem Inv.turnedL {t':Nat}{ch:List Addr}{a:Addr}{o:HO}(I:Inv X jP σ H s) (k:∀b o,b∉ch->s.heap.get? b=some o->h'.get? b=some o) (hf:∀b∈ch,FpOk X jP H b) (hp:s.heap.objs.size<=a)
  (new:ObjOk X.prog X.w (upd H a o) h' a o):Inv X jP σ (upd H a o) { s with heap:=h',toks:=t' }:=by
 have hn:H a=none:=I.hok.fresh hp;have ne:∀b u,s.heap.get? b=some u->b≠a:=λ b u e=>lS (lZ (lH e) hp)
 refine I.step (g':=s.gens) (d':=s.drawn) (ch:=ch) (λ b hb=>?_) (λ b o Ω Ω hc e Ω=>k b o hc e) (λ b o Ω Ω hc e Ω=>⟨o.slots,k b o hc e⟩) (λ b u Ω e n=>by rw[zAO (ne b u e)];exact n)
  (λ b o hc e=>⟨o,k b o hc e⟩) (λ b xs q=>by rw[zAO (zAR q hn)];exact q) (λ b u xs q=>by rw[zAO (zAR q hn)];exact q) (λ b ps q=>⟨#[],by rw[zAO (zAR q hn),q];simp⟩) (λ m hm=>?_) (λ b u e=>?_) I.bare
 ·obtain⟨f0,f1,f2,f3,f4,f5⟩:=hf b hb
  exact⟨f3,f1,f4,f5⟩
 ·obtain⟨o,es,ep,ho,r⟩:=hm
  exact⟨o,es,ep,k _ o (λ z=>(hf _ z).2.1 rfl) ho,r⟩
 ·by_cases hb:b=a
  ·subst hb
   rw[zAC] at e;cases e;exact new
  ·rw[zAO hb] at e
   refine(I.hok b u e).stay (λ c v hc q=>k c v (λ z=>?_) q) (λ c q=>by rw[zAO (zAR q hn)];exact q) λ c xs q=>by rw[zAO (zAR q hn)];exact q
   have n:=(hf c z).1;rcases hc with y|y
   ·rw[y,e] at n;cases n
   ·rw[y] at n;cases n
end
noncomputable def Ite (K:W.Frag) (a:Addr):It :=
 ⟨λ i H=>∃xs x,SqT K H a xs/\xs[i]?=some x,λ i H x H'=>∃T y,H T=none/\x = .ref T/\H'=upd H T (.tup [.int i,y])/\∀xs,SqT K H a xs->xs[i]?=some y,λ i H=>∃xs,SqT K H a xs/\xs.length<=i⟩
theorem zG8 {P:Program}{w:World}{K:W.Frag}{es:List Expr}{k:Nat}{pos:Pos}(a e it:Addr) (hei:e≠it) :
  Turn P w K (.Tuple es k pos) (Ite K a) [e,it] e (λ i h=>(∃old,IsEnum h e it i old)/\h.IsTupleIter it a i) where
 mem:=by simp
 obj:=λ i h st b hb=>by
  obtain⟨⟨old,z⟩,o,e',c,d⟩:=st;rcases lN.mp hb with y|y
  ·subst y;exact⟨_,z,λ v q=>by have q':Data.fields _=Data.cell v:=q;cases q'⟩
  ·cases mX.mp y
   exact⟨o,e',λ v q=>by rw[d] at q;cases q⟩
 keep:=λ i h h' st k=>by
  obtain⟨⟨old,z⟩,o,e',r⟩:=st;exact⟨⟨old,k e 41 _ z⟩,o,k it 41 o e',r⟩
 item:=by
  intro X hP hw hK hc i jP s σ H E I hf st hg;subst hP hw hK;obtain⟨xs,x,hq,hx⟩:=hg;obtain⟨its,rv,p,hz⟩:=I.tuple hq;obtain⟨u,hu,ru⟩:=rv.get hx;obtain⟨⟨old,he⟩,hit⟩:=st;have p':s.heap.IsTuple a its.toArray:=p
  have hai:a≠it:=λ z=>by
   obtain⟨o1,q1,c1,_⟩:=p';obtain⟨o2,q2,c2,_⟩:=hit;rw[z,q2] at q1;cases q1;rw[c2] at c1;injection c1 with c3;exact absurd c3 46
  have hae:a≠e:=λ z=>by
   obtain⟨o1,q1,c1,_⟩:=p';rw[z] at q1;have he':s.heap.get? e=some _:=he;rw[he'] at q1;cases q1;injection c1 with c3;exact absurd c3 46
  have hilt:i<its.toArray.size:=by
   have:=(lI.mp hu).1;simpa using this
  refine wpAny_pyNext_enum_itemD (zFu (A:=X.A.in1) (I.ok.hd hc) it a hai its.toArray) he ⟨hit,p'⟩ hilt hei (by simp[hei,Ne.symm hae]) λ y h1 tk hy ho hst hT hsz hk=>?_
  have hyu:y=u:=by
   have:(its.toArray)[i]?=some u:=by simpa using hu
   rw[hy] at this;exact mE this
  subst hyu;refine⟨_,rfl,?_⟩;have hn:H s.heap.objs.size=none:=I.fresh
  have I1:Inv X jP σ (upd H s.heap.objs.size (.tup [.int i,x])) { s with heap:=h1,toks:=tk+1 }:=I.turnedL (ch:=[e,it]) (λ b o hb q=>hk b o (λ z=>hb (by simp[z])) (λ z=>hb (by simp[z])) q) hf (lR _)
   ⟨Nat.le_of_lt (zAf (show 2<=1000 by decide)),[.int i tk,y],.cons 43 (.cons ru .nil),_,hT,rfl,_,rfl⟩
  have neT:∀b∈[e,it],b≠s.heap.objs.size:=λ b hb=>by
   rcases lN.mp hb with z|z
   ·subst z;exact lS (lH (show s.heap.get? b=some _ from he))
   ·cases mX.mp z
    obtain⟨o2,q2,_⟩:=hit;exact lS (lH q2)
  refine wpAny_letOwnedTupleGo_enum (s:={ s with heap:=h1,toks:=tk+1 }) ho λ h2 he2 hs2=>⟨.ref s.heap.objs.size,_,?_,rfl,⟨_,x,hn,rfl,rfl,λ ys hy'=>by rw[I.tuple_inj hy' hq];exact hx⟩,⟨⟨_,he2⟩,?_⟩,λ b hb=>?_⟩
  ·refine I1.turnedN (t':=tk+1) (ch:=[e]) (λ b o hb q=>(hs2.2 b (λ z=>hb (by simp[z]))).trans q) λ b hb=>?_
   have eb:=mX.mp hb;subst eb;obtain⟨f0,f⟩:=hf b 41;exact⟨by rw[zAO (neT b 41)];exact f0,f⟩
  ·obtain⟨o2,q2,r2⟩:=hst.1
   exact⟨o2,(hs2.2 it hei.symm).trans q2,r2⟩
  ·rw[zAO (neT b hb)];exact(hf b hb).1
 done:=by
  intro X hP hw hK hc i jP s σ H E I hf st hg;subst hP hw hK;obtain⟨xs,hq,hx⟩:=hg;obtain⟨its,rv,p,hz⟩:=I.tuple hq;obtain⟨⟨old,he⟩,hit⟩:=st;have p':s.heap.IsTuple a its.toArray:=p
  have hai:a≠it:=λ z=>by
   obtain⟨o1,q1,c1,_⟩:=p';obtain⟨o2,q2,c2,_⟩:=hit;rw[z,q2] at q1;cases q1;rw[c2] at c1;injection c1 with c3;exact absurd c3 46
  have hl:=rv.length;have hT:s.TypeIs (.ref e) "enumerate" := ⟨_,he,rfl⟩;unfold pyNext;refine lA (wpAny_attempt (wpAny_callSpecial?_slot (name:=Str.ofString "__next__") hT F.slot_enumerate_next (wpAny_call_entry F.slot_enumerate_next hT F.entry_enumerate_next ?_ (F.args_enumerate_next_1 _))));show wpAny _ _ (field (.ref e) 2 >>= _) _ _ _;refine lA (wpAny_field he rfl (x:=.ref it) rfl ?_);refine lA (zBw (I.ok.hd hc) hit p' (by simp;lia) λ h1 x hx1 ⟨o,ho,hc'⟩=>?_);refine lA (wpAny_isInstance (T := "StopIteration") (b:=true) ⟨o,ho,hc'⟩ isSubtype_stop ?_);exact lB ⟨rfl,I.turnedN (t':=s.toks) (ch:=[it]) (λ b o hb q=>hx1 b o (λ z=>hb (by simp[z])) q) λ b hb=>hf b (by simp at hb ⊢;exact .inr hb)⟩
 self:=λ Ω Ω Ω Ω Ω st h=>let ⟨⟨_,he⟩,_⟩:=st;wpAny_pyIter_enum he h
def iEnum (K:W.Frag) (ta:TA):TI:=λ σ H R=>ta σ H λ vs H1=>∃a,vs=[.ref a]/\(∃xs,SqT K H1 a xs)/\R (Ite K a) H1
theorem zKb {X:Cx}{es:List Expr}{k:Nat}{tpos:Pos}{a:Expr}{ta:TA}{p pos:Pos}(hg:Gl X "enumerate") (hm:X.mg "enumerate" = none) (ha:PA X [a] ta) (hs:starEach [a] X.env=[(false,eval a X.env)]:=by rfl) :
  PI X (.Tuple es k tpos) (.Call (.Name "enumerate" p) [a] [] pos) (iEnum X.K ta):=by
 intro jP s σ H R I h;refine Call_ (zDJ I hg hm boot_enumerate (PyProof.Rows.callWith_type1 (thn (ha pos jP s σ H _ I h) λ us s1 ⟨vs,H1,I1,r1,q1⟩=>?_) hs rfl));obtain⟨b,e,⟨xs,hq⟩,q⟩:=q1;subst e;obtain⟨u,rfl,ru⟩:=vals1 r1;cases ru;obtain⟨its,rv,tp,hz⟩:=I1.tuple hq;refine zEv (show s1.heap.IsTuple b its.toArray from tp) λ h' he hit hsz hk=>?_;refine wpAny_pyIter_enum he ⟨_,[s1.heap.objs.size+1,s1.heap.objs.size],_,_,H1,rfl,I1.kept (t':=s1.toks) hk,zG8 b _ _ (Nat.succ_ne_self _),⟨⟨_,he⟩,hit⟩,λ c hc=>?_,q⟩
 have ge:s1.heap.objs.size<=c:=by
  rcases lN.mp hc with z|z
  ·rw[z];exact Nat.le_succ _
  ·rw[mX.mp z];exact lR _
 exact I1.fpOk ge (I1.hok.fresh ge)
theorem zJW {K:W.Frag}{a:Addr}{xs:List V}{g:TG}{tb:TS}{D:Ends}{σ:St}{H:Hp}(Pv:Nat->St->Hp->Prop) (h0:Pv 0 σ H) (hl:∀i σ H,i<=xs.length->Pv i σ H->SqT K H a xs)
  (hs:∀i x T σ H,xs[i]?=some x->Pv i σ H->H T=none->g (.ref T) σ (upd H T (.tup [.int i,x])) λ σ2 H2=>tb { D with nx:=Pv (i+1),ct:=Pv (i+1),bk:=D.nx } σ2 H2) (hd:∀σ H,Pv xs.length σ H->D.nx σ H) :
  ∃W:Nat->Nat->St->Hp->Prop,(∃m,W 0 m σ H)/\∀i m σ H,W i m σ H ->
   ((Ite K a).stop i H/\D.nx σ H)\/((Ite K a).go i H/\∃N:St->Hp->Prop,68/\∀x H',(Ite K a).yld i H x H'->g x σ H' λ σ2 H2=>tb { D with nx:=N,ct:=N,bk:=D.nx } σ2 H2):=by
 refine⟨λ i m σ H=>m=xs.length - i/\i<=xs.length/\Pv i σ H,⟨xs.length,by simp,lY _,h0⟩,?_⟩;rintro i m σ H ⟨rfl,hi,p⟩;have q:=hl i σ H hi p
 by_cases hlt:i<xs.length
 ·refine .inr ⟨⟨xs,xs[i],q,by simp[hlt]⟩,Pv (i+1),λ σ' H' p'=>⟨xs.length - (i+1),by lia,rfl,hlt,p'⟩,λ x H' y=>?_⟩
  obtain⟨T,z,hT,ex,eH,y⟩:=y;subst ex eH;exact hs i z T σ H (y xs q) p hT
 ·have e:i=xs.length:=by lia
  subst e;exact .inl ⟨⟨xs,q,lR _⟩,hd σ H p⟩
section
variable {X:Cx}
theorem zAD {H:Hp}{p:Addr}{o:HO}(h:H p=none):Same H (upd H p o):=λ b u q=>by rw[zAO (zAR q h)];exact q
def rIsi (K:W.Frag):List V->Hp->VK->Prop:=λ xs H Q=>E4 λ x T t b=>A4 (xs=[x,.ty T]) (TyOf K H x t) (W.kitOne K t (.type T)=some b) (Q (.bl b) H)
theorem zJc:CallR X (.builtin "isinstance") (rIsi X.K):=by
 intro jP s σ H xs us Q I r h;obtain⟨x,T,t,b,rfl,ty,e,q⟩:=h;obtain⟨u,w',rfl,ru,rw'⟩:=vals2 r;cases rw';exact zH6 I ru ty e λ tk=>⟨.bl b,H,I.tok tk,rfl,q⟩
theorem cI {X:Cx}{e:Expr}{te:TE}{T:Str}{u:String}{p p2 pos:Pos}(hm:X.mg "isinstance"=none)(hT:X.mg T=none)(hv:bootBuiltins T=some (.type u))(ha:PE X e te)(hg:Gl X "isinstance":=by rfl)(hG:Gl X T:=by rfl)(h1:starEach [e,.Name T p2] X.env=(false,eval e X.env)::starEach [.Name T p2] X.env:=by rfl)(h2:starEach [.Name T p2] X.env=(false,eval (.Name T p2) X.env)::starEach [] X.env:=by rfl)(h3:(backTo pos (starEach [.Name T p2] X.env)).any (·.1)=false:=by rfl)(hn:T≠"__name__":=by decide)(hd:(T==("__debug__":Str))=false:=by decide):PE X (.Call (.Name "isinstance" p) [e,.Name T p2] [] pos) (tCB (rIsi X.K) (tCons te (tCons (tC (.ty u)) tNil))):=zAI zJc hg hm rT (zAA ha (zAA (zA2 hG hT hv rfl hn hd) zAB h2) h1) 46 46 h1 h3
end
structure FnB (P:Program) (w:World) (K:W.Frag) (mg:Str->Option Value) (base:Heap) (k:Nat) (x:Str) (f:Addr) (fd:FuncData) (ps:List Str) (sp:Sp):Prop where
 ok:FnOk P w K mg base CX0 k f fd ps sp
 bd:Binds K fd ps []
 kp:W.keepIn K (.ref f)=true
 gl:mg x=some (.ref f)
theorem pe_cl {X:Cx}{k:Nat}{x:Str}{f:Addr}{fd:FuncData}{ps:List Str}{sp:Sp}{e:Expr}{es:List Expr}{t:TA}{p pos:Pos}(G:FnB X.prog X.w X.K X.mg X.base k x f fd ps sp) (hr:Room k X.A) (ha:PA X (e::es) t) (hg:Gl X x:=by rfl) (hdb:(x==("__debug__":Str))=false:=by decide) (he:starEach (e::es) X.env=(false,eval e X.env)::starEach es X.env:=by rfl) (hpl:(backTo pos (starEach es X.env)).any (·.1)=false:=by rfl):PE X (.Call (.Name x p) (e::es) [] pos) (tCall sp [] E0 t):=zBP G.ok hr hg G.gl G.kp G.bd .nil pass0 ha hdb he hpl
theorem iC {X:Cx}{r:R2}{a:Expr}{ta:TE}{i j p2 pos} (hr:IxR X r) (ha:PE X a ta):PE X (.Subscript a (.Constant (.int i) j p2) pos) (tOp r ta (tC (.int i))):=pe_ix hr ha zAE (λ Ω Ω=>rfl)
theorem FnB.up {P:Program}{w:World}{K:W.Frag}{mg:Str->Option Value}{base:Heap}{j k:Nat}{x:Str}{f:Addr}{fd:FuncData}{ps:List Str}{sp:Sp}(F:FnB P w K mg base j x f fd ps sp) (h:j<=k):FnB P w K mg base k x f fd ps sp :=
 ⟨F.ok.mono h,F.bd,F.kp,F.gl⟩
def Tk (H H':Hp):Prop:=∀b xs,H b=some (.tup xs)->H' b=some (.tup xs)
theorem Tk.refl (H:Hp):Tk H H:=λ Ω Ω h=>h
theorem Tk.trans {H H1 H2:Hp}(a:Tk H H1) (b:Tk H1 H2):Tk H H2:=λ c xs h=>b c xs (a c xs h)
theorem Same.tk {H H':Hp}(h:Same H H'):Tk H H':=λ b xs e=>h b _ e
theorem Tk.lst {H:Hp}{p:Addr}{xs:List V}{o:HO}(h:H p=some (.lst xs)):Tk H (upd H p o):=λ b ys e=>by
 rw[zAO (λ z=>by subst z;rw[h] at e;cases e)];exact e
theorem Tk.dk {H:Hp}{p:Addr}{kvs:List 97}{o:HO}(h:H p=some 84):Tk H (upd H p o):=λ b ys e=>by
 rw[zAO (λ z=>by subst z;rw[h] at e;cases e)];exact e
section
variable {X:Cx}
def rCatV:R2:=λ x y H Q=>E4 λ a b xs ys=>A6 (x = .ref a) (y = .ref b) (H a=some (.tup xs)) (H b=some (.tup ys)) (xs.length+ys.length<=sizeLine) (∀p H',Same H H'->H' p=some (.tup (xs++ys))->Q (.ref p) H')
theorem zB0:OpR X (binaryOp .Add) rCatV:=by
 intro jP s σ H x y v u Q I rx ry h;obtain⟨a,b,xs,ys,rfl,rfl,ha,hb,hz,q⟩:=h
 by_cases hx:xs=[]
 ·subst hx
  cases rx;cases ry;obtain⟨its,r1,p1,_⟩:=I.tuple (SqT.of ha);obtain⟨its2,r2,p2,_⟩:=I.tuple (SqT.of hb);have e0:its=[]:=r1.nil_iff.mpr rfl;subst e0;obtain⟨⟨cls,dd,data,sl⟩,ho,hc,n,hd⟩:=id p1;obtain⟨⟨cls2,dd2,data2,sl2⟩,ho2,hc2,n2,hd2⟩:=id p2;simp only at hc hd hc2 hd2;subst hc hd hc2 hd2;exact concat_meets ⟨_,ho,rfl⟩ ⟨_,ho2,rfl⟩ noFill_tuple_add seq_tuple_add PySem.F.slot_tuple_add PySem.F.entry_tuple_add (PySem.F.args_tuple_add_2 _ _) (tuple_addW0 a b _ _ n n2 dd dd2 sl sl2 rfl) ⟨ho,ho2,⟨.ref b,H,I,rfl,q b H (.refl H) hb⟩⟩
 ·refine zKi jP s σ H (.ref a) (.ref b) v u Q I rx ry ⟨a,b,xs,ys,rfl,rfl,SqT.of ha,SqT.of hb,hx,hz,λ e=>?_,λ e p hp=>?_⟩
  ·subst e
   exact q a H (.refl H) (by rw[nX];exact ha)
  ·exact q p _ (zAD hp) zAC
def rSlV:V->Option Int->Option Int->Hp->VK->Prop:=λ x lo hi H Q=>E2 λ a xs=>A4 (x = .ref a) (H a=some (.tup xs)) (¬(HT.sIx xs.length 0 lo=0/\HT.sIx xs.length xs.length hi=xs.length)) (∀p H',Same H H'->H' p=some (.tup (cutV xs lo hi))->Q (.ref p) H')
theorem zB4:SlR X rSlV:=by
 intro jP s σ H x v vl vu lo hi sl Q I rx hs pl pu h;obtain⟨a,xs,rfl,ha,hw,q⟩:=h;exact zE5 jP s σ H (.ref a) v vl vu lo hi sl Q I rx hs pl pu ⟨a,xs,rfl,SqT.of ha,hw,λ p hp=>q p _ (zAD hp) zAC⟩
end
inductive Atom where
 |name (x:Str)|num (n:Int)|gap (g:Str)
inductive Bin where
 |add|sub|mul|thn
noncomputable def Bin.s:Bin->Str
 |.add => "add" |.sub => "sub" |.mul => "mul" |.thn => "then"
inductive Tr where
 |num (n:Int)|name (x:Str)|ask (x:Str)|stop (x:Str)|gap (g:Str) (as:List Atom)
 |say (a:Tr)|bin (o:Bin) (a b:Tr)|ite (a b c:Tr)|lett (x:Str) (a b:Tr)
def AtRep (H:Hp):Atom->V->Prop
 |.name x,v=>∃a,v = .ref a/\H a=some (.tup [.str "name", .str x])
 |.num n,v=>∃a,v = .ref a/\H a=some (.tup [.str "num", .int n])
 |.gap g,v=>∃a b,v = .ref a/\H a=some (.tup [.str "gap", .str g,.ref b])/\H b=some (.tup [])
def Rep (H:Hp):Tr->V->Prop
 |.num n,v=>∃a,v = .ref a/\H a=some (.tup [.str "num", .int n])
 |.name x,v=>∃a,v = .ref a/\H a=some (.tup [.str "name", .str x])
 |.ask x,v=>∃a,v = .ref a/\H a=some (.tup [.str "ask", .str x])
 |.stop x,v=>∃a,v = .ref a/\H a=some (.tup [.str "stop", .str x])
 |.gap g as,v=>∃a b us,v = .ref a/\H a=some (.tup [.str "gap", .str g,.ref b])/\H b=some (.tup us)/\us.length<=1000/\Paired (AtRep H) as us
 |.say t,v=>∃a u,v = .ref a/\H a=some (.tup [.str "say", u])/\Rep H t u
 |.bin o s t,v=>∃a u w,v = .ref a/\H a=some (.tup [.str o.s,u,w])/\Rep H s u/\Rep H t w
 |.ite r s t,v=>∃a u w z,v = .ref a/\H a=some (.tup [.str "if", u,w,z])/\Rep H r u/\Rep H s w/\Rep H t z
 |.lett x s t,v=>∃a u w,v = .ref a/\H a=some (.tup [.str "let", .str x,u,w])/\Rep H s u/\Rep H t w
theorem AtRep.mono {H H':Hp}(k:Tk H H'):∀{t:Atom}{v:V},AtRep H t v->AtRep H' t v
 |.name _,_,⟨a,e,h⟩=>⟨a,e,k _ _ h⟩
 |.num _,_,⟨a,e,h⟩=>⟨a,e,k _ _ h⟩
 |.gap _,_,⟨a,b,e,h,h'⟩=>⟨a,b,e,k _ _ h,k _ _ h'⟩
theorem Rep.mono {H H':Hp}(k:Tk H H'):∀{t:Tr}{v:V},Rep H t v->Rep H' t v
 |.num _,_,⟨a,e,h⟩=>⟨a,e,k _ _ h⟩
 |.name _,_,⟨a,e,h⟩=>⟨a,e,k _ _ h⟩
 |.ask _,_,⟨a,e,h⟩=>⟨a,e,k _ _ h⟩
 |.stop _,_,⟨a,e,h⟩=>⟨a,e,k _ _ h⟩
 |.gap _ _,_,⟨a,b,us,e,h,h',n,p⟩=>⟨a,b,us,e,k _ _ h,k _ _ h',n,Paired.mapP p λ Ω Ω z=>z.mono k⟩
 |.say _,_,⟨a,u,e,h,r⟩=>⟨a,u,e,k _ _ h,r.mono k⟩
 |.bin _ _ _,_,⟨a,u,w,e,h,r,s⟩=>⟨a,u,w,e,k _ _ h,r.mono k,s.mono k⟩
 |.ite _ _ _,_,⟨a,u,w,z,e,h,r,s,t⟩=>⟨a,u,w,z,e,k _ _ h,r.mono k,s.mono k,t.mono k⟩
 |.lett _ _ _,_,⟨a,u,w,e,h,r,s⟩=>⟨a,u,w,e,k _ _ h,r.mono k,s.mono k⟩
inductive Kd where
 |num|name|ask|stop|gap|say|add|sub|mul|thn|ite|lett
 deriving DecidableEq
noncomputable def Kd.s:Kd->Str
 |.num => "num" |.name => "name" |.ask => "ask" |.stop => "stop" |.gap => "gap"
 |.say => "say" |.add => "add" |.sub => "sub" |.mul => "mul" |.thn => "then" |.ite => "if" |.lett => "let"
noncomputable def Kd.leaf:Kd->Bool
 |.num=>true|.name=>true|.ask=>true|.stop=>true|.gap=>true
 |_=>false
theorem Kd.inj {a b:Kd}(h:a.s=b.s):a=b:=by
 revert h;cases a<;>cases b<;>first|(intro _;rfl)|(intro h;exact absurd h (by symm))
theorem Kd.eq_iff {a b:Kd}:(V.str a.s=V.str b.s)↔a=b:=⟨λ h=>Kd.inj (V.str.inj h),λ h=>by rw[h]⟩
noncomputable def Bin.kd:Bin->Kd
 |.add=>.add|.sub=>.sub|.mul=>.mul|.thn=>.thn
noncomputable def Tr.kd:Tr->Kd
 |.num _=>.num|.name _=>.name|.ask _=>.ask|.stop _=>.stop|.gap _ _=>.gap
 |.say _=>.say|.bin o _ _=>o.kd|.ite _ _ _=>.ite|.lett _ _ _=>.lett
noncomputable def Tr.sign (t:Tr):Str:=t.kd.s
theorem Bin.kd_s (o:Bin):o.kd.s=o.s:=by cases o<;>rfl
noncomputable def Tr.parts:Tr->List Tr
 |.say a=>[a]|.bin _ a b=>[a,b]|.ite a b c=>[a,b,c]|.lett _ a b=>[a,b]
 |_=>[]
noncomputable def Tr.head:Tr->Nat
 |.gap _ _=>3|.say _=>1|.bin _ _ _=>1|.ite _ _ _=>1
 |_=>2
theorem Rep.all {H:Hp}:∀{t:Tr}{v:V},Rep H t v->∃a hs us,v = .ref a/\H a=some (.tup (.str t.sign::hs++us))/\hs.length+1=t.head/\Paired (Rep H) t.parts us
 |.num n,_,⟨a,e,h⟩=>⟨a,[.int n],[],e,h,rfl,.nil⟩
 |.name x,_,⟨a,e,h⟩=>⟨a,[.str x],[],e,h,rfl,.nil⟩
 |.ask x,_,⟨a,e,h⟩=>⟨a,[.str x],[],e,h,rfl,.nil⟩
 |.stop x,_,⟨a,e,h⟩=>⟨a,[.str x],[],e,h,rfl,.nil⟩
 |.gap g _,_,⟨a,b,us,e,h,h',_,p⟩=>⟨a,[.str g,.ref b],[],e,h,rfl,.nil⟩
 |.say _,_,⟨a,u,e,h,r⟩=>⟨a,[],[u],e,h,rfl,.cons r .nil⟩
 |.bin o _ _,_,⟨a,u,w,e,h,r,s⟩=>⟨a,[],[u,w],e,(by show _=some (HO.tup [V.str o.kd.s,u,w]);rw[Bin.kd_s];exact h),rfl,.cons r (.cons s .nil)⟩
 |.ite _ _ _,_,⟨a,u,w,z,e,h,r,s,t⟩=>⟨a,[],[u,w,z],e,h,rfl,.cons r (.cons s (.cons t .nil))⟩
 |.lett x _ _,_,⟨a,u,w,e,h,r,s⟩=>⟨a,[.str x],[u,w],e,h,rfl,.cons r (.cons s .nil)⟩
noncomputable def Tr.size:Tr->Nat
 |.say a=>a.size+1|.bin _ a b=>a.size+b.size+1|.ite a b c=>a.size+b.size+c.size+1|.lett _ a b=>a.size+b.size+1
 |_=>1
theorem zA5 {α:Type}{F:α->V->Prop}{as:List α}{us:List V}{i:Nat}{u:V}(h:Paired F as us):us[i]?=some u->∃a,as[i]?=some a/\F a u:=by
 induction h generalizing i with
 |nil=>exact λ e=>nomatch e
 |cons h t ih=>cases i with
  |zero=>exact λ e=>⟨_,rfl,by cases e;exact h⟩
  |succ i=>exact λ e=>ih (i:=i) (by simpa using e)
theorem zAz {H H':Hp}{p:Addr}{o:HO}(g:Same H H') (h:H p=none):Same H (upd H' p o):=λ b u q=>by rw[zAO (zAR q h)];exact g b u q
theorem zBL {α:Type}{as:List α}{i:Nat}{a:α}(h:as[i]?=some a):as.take (i+1)=as.take i++[a]:=by
 rw[List.take_add_one,h];rfl
noncomputable def Atom.names:Atom->List Str
 |.name x=>[x]
 |_=>[]
noncomputable def Tr.names:Tr->List Str
 |.name x=>[x]
 |.gap _ as=>as.flatMap Atom.names
 |_=>[]
theorem iteY {c:Prop} [Decidable c] {A B:Prop}(hc:c) (h:A):if decide c=true then A else B:=by rw[if_pos (decide_eq_true hc)];exact h
theorem iteN {c:Prop} [Decidable c] {A B:Prop}(hc:¬c) (h:B):if decide c=true then A else B:=by rw[if_neg (by rw[decide_eq_false hc];exact lX)];exact h
theorem zA0 {n:Nat}(h:n<=1000):n<=sizeLine:=Nat.le_of_lt (zAf h)
noncomputable def zCk:List Expr->Option (List V)
 |[]=>some []
 |.Constant (.str x) _ _::r=>(zCk r).map λ l=>V.str x::l
 |.Constant (.int i) _ _::r=>(zCk r).map λ l=>V.int i::l
 |_=>none
def tRow (vs:List V):TA:=λ Ω H Q=>Q vs H
theorem zJy {X:Cx}{es:List Expr}:∀(vs:List V),zCk es=some vs->PA X es (tRow vs):=by
 induction es with
 |nil=>intro vs h;cases h;exact zAB
 |cons e r ih =>
  intro vs h;cases e with
  |Constant c j p =>
   cases c with
   |str x =>
    obtain⟨l,hl,e⟩:=lV.mp (show (zCk r).map (λ l=>V.str x::l)=some vs from h);subst e;exact zAA zAQ (ih l hl)
   |int x =>
    obtain⟨l,hl,e⟩:=lV.mp (show (zCk r).map (λ l=>V.int x::l)=some vs from h);subst e;exact zAA zAE (ih l hl)
   |_=>cases h
  |_=>cases h
noncomputable def rowT:Expr->Option (List V)
 |.Tuple es _ _=>zCk es
 |_=>none
noncomputable def rowL:Expr->Option (List V)
 |.List es _=>zCk es
 |_=>none
theorem zKc {X:Cx}{e:Expr}(vs:List V) (h:rowT e=some vs):PE X e (tTup (tRow vs)):=by
 unfold rowT at h;split at h
 ·exact zAc (zJy vs h)
 ·cases h
theorem zFh {X:Cx}{e:Expr}(vs:List V) (h:rowL e=some vs):PE X e (tLst (tRow vs)):=by
 unfold rowL at h;split at h
 ·exact zBv (zJy vs h)
 ·cases h
abbrev DRow:=Str × (Str ⊕ Int)
abbrev En:=Str->Int
abbrev Res:=List DRow × (Int ⊕ Str)
noncomputable def askR (x:Str):DRow:=("ask", .inl x)
noncomputable def sayR (n:Int):DRow:=("say", .inr n)
noncomputable def Bin.op:Bin->Int->Int->Int
 |.add,m,n=>(m+n) % 10 ^ 30
 |.sub,m,n=>(m - n) % 10 ^ 30
 |.mul,m,n=>(m * n) % 10 ^ 30
 |.thn,_,n=>n
noncomputable def En.set (e:En) (x:Str) (n:Int):En:=λ y=>if y=x then n else e y
noncomputable def pre (D:List DRow) (o:Option Res):Option Res:=o.map λ q=>(D++q.1,q.2)
noncomputable def seqR (r:Option Res) (k:Int->Option Res):Option Res:=r.bind λ r=>match r.2 with
 |.inr w=>some (r.1,.inr w)
 |.inl n=>pre r.1 (k n)
noncomputable def ev (a:En):Tr->En->Option Res
 |.num n,_=>some ([],.inl n)
 |.name x,e=>some ([],.inl (e x))
 |.ask x,_=>some ([askR x],.inl (a x))
 |.stop x,_=>some ([],.inr x)
 |.gap _ _,_=>none
 |.say t,e=>seqR (ev a t e) λ n=>some ([sayR n],.inl n)
 |.bin o s t,e=>seqR (ev a s e) λ m=>seqR (ev a t e) λ n=>some ([],.inl (o.op m n))
 |.ite c s t,e=>seqR (ev a c e) λ n=>if n=0 then ev a t e else ev a s e
 |.lett x s t,e=>seqR (ev a s e) λ n=>ev a t (e.set x n)
noncomputable def aft (a:En) (t:Tr) (e:En) (E:List Int):Option (Option Res × List Int) :=
 match t with
 |.say _=>match E with
  |n::E=>some (some ([sayR n],.inl n),E)
  |_=>none
 |.bin .thn _ t=>match E with
  |_::E=>some (ev a t e,E)
  |_=>none
 |.bin o _ _=>match E with
  |n::m::E=>some (some ([],.inl (o.op m n)),E)
  |_=>none
 |.ite _ s t=>match E with
  |n::E=>some (if n=0 then ev a t e else ev a s e,E)
  |_=>none
 |.lett x _ t=>match E with
  |n::E=>some (ev a t (e.set x n),E)
  |_=>none
 |_=>none
abbrev Item:=Tr × En × Bool
noncomputable def cont (a:En):List Item->List Int->Option Res
 |[],[]=>none
 |[],n::_=>some ([],.inl n)
 | (t,e,false)::W,E=>seqR (ev a t e) λ n=>cont a W (n::E)
 | (t,e,true)::W,E=>(aft a t e E).bind λ p=>seqR p.1 λ n=>cont a W (n::p.2)
noncomputable def wtR:Tr->Nat
 |.bin .thn _ t=>2 * t.size+1
 |.ite _ s t=>2 * s.size+2 * t.size+1
 |.lett _ _ t=>2 * t.size+1
 |_=>1
noncomputable def wtI:Item->Nat
 | (t,_,false)=>2 * t.size
 | (t,_,true)=>wtR t
noncomputable def wt (W:List Item):Nat:=(W.map wtI).sum
structure FunD (K:W.Frag) (x qual:Str) (st:Stmt) (f:Addr) (fd:FuncData) (dvs:List Value):Prop where
 ex:∃(oc:Value) (od:Option Addr) (kV doc pm:Value) (an:Option Addr) (cdv ct:Value) (osl:Array (Option Value)) (dt:Addr) (o:Obj) (n:Nat),
  fd=W.fnOf x qual (zA6 st) (zAp st) (zAJ st) (.ref dt) kV doc pm an cdv ct/\K.lookup f=some ⟨oc,od,.func fd,osl⟩/\W.codeIn K cdv qual=true/\K.lookup dt=some o/\o.data = .seq dvs.toArray n
 kp:W.keepIn K (.ref f)=true
section
variable {P:Program}{w:World}{K:W.Frag}{mg:Str->Option Value}{base:Heap}
theorem FunD.ok {x qual:Str}{st:Stmt}{f:Addr}{fd:FuncData}{dvs:List Value}{N ps:List Str}{k:Nat}{sp:Sp}(F:FunD K x qual st f fd dvs) (S:zAX N ps (zAJ st)) (len:∀vs H Q E,sp vs H Q E->vs.length=ps.length)
  (hbody:∀(cdv:Value) (A:Around) (outer:List Env) (s:Shared) (H:Hp) (vs:List V) (Q:VK) (E:XK),Room k (A.deeper (envOfC qual (zAJ st) s.heap.objs.size f cdv))->sp vs H Q E ->
   ∃t,PSs (cxOf CX0 P w K mg base N qual (zAJ st) f cdv A outer s H E).nox (zAp st) t/\t { nx:=λ Ω H'=>Q .non H',rt:=Q } (start N vs) H):FnOk P w K mg base CX0 (k+1) f fd ps sp:=by
 obtain⟨oc,od,kV,doc,pm,an,cdv,ct,osl,dt,o,n,rfl,lk,hcd,_⟩:=F.ex;refine fn_of lk hcd S len λ A outer s H vs Q E hr hsp=>?_;obtain⟨t,h,q⟩:=hbody cdv A outer s H vs Q E hr hsp;exact⟨t,h.nox,q⟩
theorem zFr {x qual:Str}{st:Stmt}{f dt:Addr}{oc:Value}{od an:Option Addr}{osl:Array (Option Value)}{kV doc pm cdv ct:Value}{o:Obj}{dvs:List Value}{n:Nat}(l:K.lookup f=some ⟨oc,od,.func (W.fnOf x qual (zA6 st) (zAp st) (zAJ st) (.ref dt) kV doc pm an cdv ct),osl⟩)
  (c:W.codeIn K cdv qual=true) (k:W.keepIn K (.ref f)=true) (ld:K.lookup dt=some o) (hd:o.data = .seq dvs.toArray n):FunD K x qual st f (W.fnOf x qual (zA6 st) (zAp st) (zAJ st) (.ref dt) kV doc pm an cdv ct) dvs :=
 ⟨⟨oc,od,kV,doc,pm,an,cdv,ct,osl,dt,o,n,rfl,l,c,ld,hd⟩,k⟩
end
theorem zBG {α:Type}{F:α->V->Prop}{as bs:List α}{us vs:List V}(h:Paired F as us) (k:Paired F bs vs):Paired F (as++bs) (us++vs):=by
 induction h with
 |nil=>exact k
 |cons r t ih=>exact .cons r ih
theorem zAw {α:Type}{F:α->V->Prop}{as:List α}{us:List V}(h:Paired F as us):us.length=as.length:=h.length.symm
theorem zFx {lo:Int}{n:Nat}{acc:Addr}{g:TG}{tt:TT}{te:TE}{σ:L2.St}{H:Hp}{R:Hp->Prop}(Pv:Nat->Hp->Prop) (h0:Pv 0 (upd H acc (.lst [])))
  (hs:∀i H,i<n->Pv i H->g (.int (lo+i)) σ H λ σ2 H4=>Ext σ σ2/\tt σ2 H4 λ b H5 =>
   if b=true then te σ2 H5 λ y H6=>∃zs,H6 acc=some (.lst zs)/\zs.length<sizeLine/\Pv (i+1) (upd H6 acc (.lst (zs++[y]))) else Pv (i+1) H5) (hd:∀H,Pv n H->R H) :
  ∃W:Nat->Nat->Hp->Prop,(∃m,W 0 m (upd H acc (.lst [])))/\∀i m H2,W i m H2 ->
   ((Itr lo n).stop i H2/\R H2)\/((Itr lo n).go i H2/\∃N:Hp->Prop,(∀H',N H'->∃m',m'<m/\W (i+1) m' H')/\∀x H3,(Itr lo n).yld i H2 x H3->g x σ H3 λ σ2 H4=>Ext σ σ2/\tt σ2 H4 λ b H5 =>
    if b=true then te σ2 H5 λ y H6=>∃zs,H6 acc=some (.lst zs)/\zs.length<sizeLine/\N (upd H6 acc (.lst (zs++[y])))
    else N H5):=zGw (Q:=λ Ω H=>R H) Pv h0 hs hd
theorem zGx {K:W.Frag}{a:Addr}{xs:List V}{acc:Addr}{g:TG}{tt:TT}{te:TE}{σ:L2.St}{H:Hp}{R:Hp->Prop}(Pv:Nat->Hp->Prop) (h0:Pv 0 (upd H acc (.lst []))) (hl:∀i H,i<=xs.length->Pv i H->SqL K H a xs)
  (hs:∀i x H,xs[i]?=some x->Pv i H->g x σ H λ σ2 H4=>Ext σ σ2/\tt σ2 H4 λ b H5 =>
   if b=true then te σ2 H5 λ y H6=>∃zs,H6 acc=some (.lst zs)/\zs.length<sizeLine/\Pv (i+1) (upd H6 acc (.lst (zs++[y]))) else Pv (i+1) H5) (hd:∀H,Pv xs.length H->R H) :
  ∃W:Nat->Nat->Hp->Prop,(∃m,W 0 m (upd H acc (.lst [])))/\∀i m H2,W i m H2 ->
   ((Itl K a).stop i H2/\R H2)\/((Itl K a).go i H2/\∃N:Hp->Prop,(∀H',N H'->∃m',m'<m/\W (i+1) m' H')/\∀x H3,(Itl K a).yld i H2 x H3->g x σ H3 λ σ2 H4=>Ext σ σ2/\tt σ2 H4 λ b H5 =>
    if b=true then te σ2 H5 λ y H6=>∃zs,H6 acc=some (.lst zs)/\zs.length<sizeLine/\N (upd H6 acc (.lst (zs++[y])))
    else N H5):=by
 refine⟨λ i m H=>m=xs.length - i/\i<=xs.length/\Pv i H,⟨xs.length,by simp,lY _,h0⟩,?_⟩;rintro i m H2 ⟨rfl,hi,p⟩;have q:=hl i H2 hi p
 by_cases hlt:i<xs.length
 ·refine .inr ⟨⟨xs,xs[i],q,by simp[hlt]⟩,Pv (i+1),λ H' p'=>⟨xs.length - (i+1),by lia,rfl,hlt,p'⟩,λ x H' y=>?_⟩
  obtain⟨e,y⟩:=y;subst e;exact hs i x _ (y xs q) p
 ·have e:i=xs.length:=by lia
  subst e;exact .inl ⟨⟨xs,q,lR _⟩,hd H2 p⟩
theorem zFM:∀{ns:List Int}{us:List Value},Vals (ns.map V.int) us->IntsAre us ns
 |[],_,h=>by cases h;exact .nil
 |n::ns,_,h=>by
  cases h with
  |cons r t =>
   obtain⟨tk,rfl⟩:=r;exact .cons n tk (zFM t)
inductive Dt where
 |int (i:Int)|str (x:Str)|tup (ds:List Dt)
mutual
def Dt.beq:Dt->Dt->Bool
 |.int i,.int j=>decide (i=j)
 |.str x,.str y=>decide (x=y)
 |.tup ds,.tup es=>Dt.beqs ds es
 |_,_=>false
def Dt.beqs:List Dt->List Dt->Bool
 |[],[]=>true
 |d::ds,e::es=>Dt.beq d e && Dt.beqs ds es
 |_,_=>false
end
mutual
theorem Dt.beq_iff:∀{d e:Dt},Dt.beq d e=true↔d=e
 |.int i,.int j=>by simp[Dt.beq]
 |.str x,.str y=>by simp[Dt.beq]
 |.tup ds,.tup es=>by
  have:=Dt.beqs_iff (ds:=ds) (es:=es);simp[Dt.beq,this]
 |.int _,.str _=>by simp[Dt.beq]
 |.int _,.tup _=>by simp[Dt.beq]
 |.str _,.int _=>by simp[Dt.beq]
 |.str _,.tup _=>by simp[Dt.beq]
 |.tup _,.int _=>by simp[Dt.beq]
 |.tup _,.str _=>by simp[Dt.beq]
theorem Dt.beqs_iff:∀{ds es:List Dt},Dt.beqs ds es=true↔ds=es
 |[],[]=>by simp[Dt.beqs]
 |[],_::_=>by simp[Dt.beqs]
 |_::_,[]=>by simp[Dt.beqs]
 |d::ds,e::es=>by
  have h1:=Dt.beq_iff (d:=d) (e:=e);have h2:=Dt.beqs_iff (ds:=ds) (es:=es);simp[Dt.beqs,h1,h2]
end
mutual
noncomputable def Dt.deep:Dt->Nat
 |.tup ds=>Dt.deeps ds+1
 |_=>0
noncomputable def Dt.deeps:List Dt->Nat
 |[]=>0
 |d::ds=>max (Dt.deep d) (Dt.deeps ds)
end
mutual
inductive DR (H:Hp):Dt->V->Prop
 |int (i:Int):DR H (.int i) (.int i)
 |str (x:Str):DR H (.str x) (.str x)
 |tup {a:Addr}{xs:List V}{ds:List Dt}:H a=some (.tup xs)->DRs H ds xs->DR H (.tup ds) (.ref a)
inductive DRs (H:Hp):List Dt->List V->Prop
 |nil:DRs H [] []
 |cons {d:Dt}{v:V}{ds:List Dt}{vs:List V}:DR H d v->DRs H ds vs->DRs H (d::ds) (v::vs)
end
mutual
theorem DR.mono {H H':Hp}(k:Tk H H'):∀{d:Dt}{v:V},DR H d v->DR H' d v
 |_,_,.int i=>.int i
 |_,_,.str x=>.str x
 |_,_,.tup h r=>.tup (k _ _ h) (DRs.mono k r)
theorem DRs.mono {H H':Hp}(k:Tk H H'):∀{ds:List Dt}{vs:List V},DRs H ds vs->DRs H' ds vs
 |_,_,.nil=>.nil
 |_,_,.cons r t=>.cons (DR.mono k r) (DRs.mono k t)
end
theorem zGZ:∀{ds:List Dt}{j:Nat}{d:Dt},ds[j]?=some d->d.deep<=Dt.deeps ds
 |[],_,_,h=>by simp at h
 |e::ds,0,d,h=>by simp at h;subst h;simp[Dt.deeps];lia
 |e::ds,j+1,d,h=>by
  have:=zGZ (ds:=ds) (j:=j) (d:=d) (by simpa using h);simp[Dt.deeps];lia
theorem zJe:∀(ds es:List Dt),Dt.beqs ds es=((List.range (min ds.length es.length)).all (λ j=>match ds[j]?,es[j]? with|some d,some e=>Dt.beq d e|_,_=>false) && ds.length == es.length):=by
 intro ds es;rw[Bool.eq_iff_iff,Dt.beqs_iff,Bool.and_eq_true,List.all_eq_true];constructor
 ·rintro rfl
  refine⟨λ j hj=>?_,by simp⟩;have hj':j<ds.length:=by simpa using List.mem_range.mp hj
  simp[nV hj',Dt.beq_iff]
 ·rintro⟨h,hl⟩
  have hl':ds.length=es.length:=by simpa using hl
  refine List.ext_getElem hl' λ j h1 h2=>?_;have:=h j (List.mem_range.mpr 31);simpa[nV h1,nV h2,Dt.beq_iff] using this
section
variable {X:Cx}{jP:List (Addr × Obj)}{σ:St}{H:Hp}{s:Shared}
theorem hu150 {k:Nat}{A:Around}(hr:Room k A):A.units+150<cLine:=by have:=hr.un;lia
end
theorem itB {h h':Heap}{a b t:Addr}{i:Nat}(x:h.IsTupleIter a t i) (e:Heap.SameBut b h h') (n:a≠b):h'.IsTupleIter a t i:=x.extBut e.extBut n
theorem tpB {h h':Heap}{a b:Addr}{xs:Array Value}(x:h.IsTuple a xs) (e:Heap.SameBut b h h') (n:a≠b):h'.IsTuple a xs:=let ⟨o,ho,r⟩:=x;⟨o,e.extBut a o n ho,r⟩
section
variable {prog:Program}{w:World}{A:Around}{E:XQ}{s:Shared}
theorem zG1 {z TI TO i1 i2 l1 l2:Addr}{k:Nat}{xs ys:Array Value}{x y a b:Value}{Q:Option Value->Shared->Prop}(D:ZipApart z TI TO i1 i2 l1 l2)
  (hz:IsZip s.heap z TI TO .none) (hTI:IsPair s.heap TI (.ref i1) (.ref i2)) (hTO:IsPair s.heap TO a b) (h1:s.heap.IsTupleIter i1 l1 k) (h2:s.heap.IsTupleIter i2 l2 k)
  (hl1:s.heap.IsTuple l1 xs) (hl2:s.heap.IsTuple l2 ys) (hx:xs[k]?=some x) (hy:ys[k]?=some y)
  (hQ:∀h',IsZip h' z TI TO (rawInt s.heap.objs.size)->IsPair h' TO x y->h'.IsTupleIter i1 l1 (k+1)->h'.IsTupleIter i2 l2 (k+1)->IsPair h' s.heap.objs.size x y ->
   (∀c o,c≠z->c≠TO->c≠i1->c≠i2->s.heap.get? c=some o->h'.get? c=some o)->Q (some (.ref s.heap.objs.size)) { s with heap:=h' }):wpAny 45 A (pyNext (.ref z)) Q E s:=by
 have hT:s.TypeIs (.ref z) "zip" := ⟨_,hz,rfl⟩;unfold pyNext;refine lA (wpAny_attempt (wpAny_callSpecial?_slot (name:=Str.ofString "__next__") hT F.slot_zip_next (wpAny_call_entry F.slot_zip_next hT F.entry_zip_next ?_ (F.args_zip_next_1 _))));show wpAny _ _ (field (.ref z) 2 >>= _) _ _ _;refine lA (wpAny_field hz rfl (x:=.bool false) rfl ?_);show wpAny _ _ (field (.ref z) 3 >>= _) _ _ _;refine lA (wpAny_field hz rfl (x:=.ref TI) rfl ?_);refine lA (wpAny_seqItems hTI rfl ?_);show wpAny _ _ (Builtin.SmallTypes.ownedTupleIsFree (.ref z) >>= _) _ _ _;refine lA ?_;unfold Builtin.SmallTypes.ownedTupleIsFree;refine lA (wpAny_field hz rfl (x:=.none) rfl (lB ?_));simp only[if_true];refine lA (wpAny_rule ?_);refine lA (wpAny_field hz rfl (x:=.ref TO) rfl ?_);refine lA (wpAny_setField_rec hz 41 λ q1 hz1 hs1=>?_);replace hz1:IsZip q1 z TI TO .ellipsis:=hz1;refine lA ?_;simp only[List.zipIdx_cons,List.zipIdx_nil,List.forIn_cons,List.forIn_nil];refine lA (lA (wpAny_onRaise ?_));show wpAny _ _ (Builtin.SmallTypes.nextOf (.ref i1) >>= _) _ _ _;refine lA (zBi (itB h1 hs1 D.i1z) (tpB hl1 hs1 D.l1z) hx λ q2 j1 hs2=>lB ?_);have hTO2:IsPair q2 TO a b:=hs2.extBut _ _ D.TOi1 (hs1.extBut _ _ D.TOz hTO);refine lA (wpAny_seqItems hTO2 rfl ?_);refine lA (wpAny_updateSeq_pair hTO2 λ q3 hTO3 hs3=>?_);replace hTO3:IsPair q3 TO x b:=hTO3;refine lA (wpAny_letGo (lB ?_));refine lA (lA (wpAny_onRaise ?_));show wpAny _ _ (Builtin.SmallTypes.nextOf (.ref i2) >>= _) _ _ _;refine lA (zBi (itB (itB (itB h2 hs1 D.i2z) hs2 D.i12.symm) hs3 D.TOi2.symm) (tpB (tpB (tpB hl2 hs1 D.l2z) hs2 D.l2i1) hs3 D.l2TO) hy λ q4 j2 hs4=>lB ?_);have hTO4:IsPair q4 TO x b:=hs4.extBut _ _ D.TOi2 hTO3;refine lA (wpAny_seqItems hTO4 rfl ?_);refine lA (wpAny_updateSeq_pair hTO4 λ q5 hTO5 hs5=>?_);replace hTO5:IsPair q5 TO x y:=hTO5;refine lA (wpAny_letGo (lB (lB ?_)));refine lA (wpAny_seqItems hTO5 rfl ?_);refine lA (wpAny_newTuple ?_);have hsz:q5.objs.size=s.heap.objs.size:=by rw[hs5.1,hs4.1,hs3.1,hs2.1,hs1.1]
 have hz5:IsZip q5 z TI TO .ellipsis:=hs5.extBut _ _ D.TOz.symm (hs4.extBut _ _ D.i2z.symm (hs3.extBut _ _ D.TOz.symm (hs2.extBut _ _ D.i1z.symm hz1)));have hk5:∀c o,c≠z->c≠TO->c≠i1->c≠i2->s.heap.get? c=some o->q5.get? c=some o:=λ c o c1 c2 c3 c4 e=>hs5.extBut _ _ c2 (hs4.extBut _ _ c4 (hs3.extBut _ _ c2 (hs2.extBut _ _ c3 (hs1.extBut _ _ c1 e))));have j15:q5.IsTupleIter i1 l1 (k+1):=itB (itB (itB j1 hs3 D.TOi1.symm) hs4 D.i12) hs5 D.TOi1.symm;have j25:q5.IsTupleIter i2 l2 (k+1):=itB j2 hs5 D.TOi2.symm;have hzlt:z<q5.objs.size:=lH hz5;show wpAny _ _ (Builtin.SmallTypes.ownedTupleHandOut (.ref z) (.ref q5.objs.size) >>= _) _ _ _;refine lA ?_;unfold Builtin.SmallTypes.ownedTupleHandOut;have hz6:IsZip (q5.push { cls:=.type "tuple", data:=.seq #[x,y] }) z TI TO .ellipsis:=lE _ hz5;refine lA (wpAny_setField_rec hz6 41 λ q7 hz7 hs7=>?_);replace hz7:IsZip q7 z TI TO (rawInt q5.objs.size):=hz7;refine wpAny_setField_rec hz7 41 λ q8 hz8 hs8=>?_;replace hz8:IsZip q8 z TI TO (rawInt q5.objs.size):=hz8;have up:∀c o,c≠z->q5.get? c=some o->q8.get? c=some o:=λ c o c1 e=>hs8.extBut _ _ c1 (hs7.extBut _ _ c1 (lE _ e));have hT8:IsPair q8 q5.objs.size x y:=hs8.extBut _ _ (Nat.ne_of_gt hzlt) (hs7.extBut _ _ (Nat.ne_of_gt hzlt) (lG _ rfl));rw[hsz] at hz8 hT8;refine lB ⟨_,rfl,lB ?_⟩;show Q (some (.ref q5.objs.size)) _;rw[hsz];exact hQ q8 hz8 (up _ _ D.TOz hTO5) (let ⟨o,e,r⟩:=j15;⟨o,up _ o D.i1z e,r⟩) (let ⟨o,e,r⟩:=j25;⟨o,up _ o D.i2z e,r⟩) hT8 λ c o c1 c2 c3 c4 e=>up c o c1 (hk5 c o c1 c2 c3 c4 e)
theorem zIj {z TI TO i1 i2 l1 l2:Addr}{k:Nat}{xs ys:Array Value}{a b:Value}{Q:Option Value->Shared->Prop}(hh:A.handled=none) (D:ZipApart z TI TO i1 i2 l1 l2)
    (hz:IsZip s.heap z TI TO .none) (hTI:IsPair s.heap TI (.ref i1) (.ref i2)) (hTO:IsPair s.heap TO a b) (h1:s.heap.IsTupleIter i1 l1 k) (h2:s.heap.IsTupleIter i2 l2 k)
    (hl1:s.heap.IsTuple l1 xs) (hl2:s.heap.IsTuple l2 ys) (hend:xs[k]?=none\/ys[k]?=none)
    (hQ:∀h',(∀c o,c≠z->c≠TO->c≠i1->c≠i2->s.heap.get? c=some o->h'.get? c=some o)->Q none { s with heap:=h' }):wpAny 45 A (pyNext (.ref z)) Q E s:=by
  have hT:s.TypeIs (.ref z) "zip" := ⟨_,hz,rfl⟩;unfold pyNext
  have fin:∀(h':Heap) (e:Addr),(∀c o,c≠z->c≠TO->c≠i1->c≠i2->s.heap.get? c=some o->h'.get? c=some o)->(∃o,h'.get? e=some o/\o.cls = .type "StopIteration") ->
      wpAny 45 A (do if ← isInstance (.ref e) (.type "StopIteration") then pure none else throw (.ref e)) Q E { s with heap:=h' }:=λ h' e hk ⟨o,ho,hc⟩ =>
    lA (wpAny_isInstance (T := "StopIteration") (b:=true) ⟨o,ho,hc⟩ isSubtype_stop (lB (hQ _ hk)))
  refine lA (wpAny_attempt (wpAny_callSpecial?_slot (name:=Str.ofString "__next__") hT F.slot_zip_next (wpAny_call_entry F.slot_zip_next hT F.entry_zip_next ?_ (F.args_zip_next_1 _))));show wpAny _ _ (field (.ref z) 2 >>= _) _ _ _;refine lA (wpAny_field hz rfl (x:=.bool false) rfl ?_);show wpAny _ _ (field (.ref z) 3 >>= _) _ _ _;refine lA (wpAny_field hz rfl (x:=.ref TI) rfl ?_);refine lA (wpAny_seqItems hTI rfl ?_);show wpAny _ _ (Builtin.SmallTypes.ownedTupleIsFree (.ref z) >>= _) _ _ _;refine lA ?_;unfold Builtin.SmallTypes.ownedTupleIsFree;refine lA (wpAny_field hz rfl (x:=.none) rfl (lB ?_));simp only[if_true];refine lA (wpAny_rule ?_);refine lA (wpAny_field hz rfl (x:=.ref TO) rfl ?_);refine lA (wpAny_setField_rec hz 41 λ q1 hz1 hs1=>?_);replace hz1:IsZip q1 z TI TO .ellipsis:=hz1;refine lA ?_;simp only[List.zipIdx_cons,List.zipIdx_nil,List.forIn_cons,List.forIn_nil];refine lA (lA (wpAny_onRaise ?_));show wpAny _ _ (Builtin.SmallTypes.nextOf (.ref i1) >>= _) _ _ _;cases hx:xs[k]? with
  |none =>
    refine lA (zBw hh (itB h1 hs1 D.i1z) (tpB hl1 hs1 D.l1z) hx λ q2 e hs2 he=>?_);obtain⟨oe,hoe,hce⟩:=he;have hz2:IsZip q2 z TI TO .ellipsis:=hs2 _ _ D.i1z.symm hz1;have hez:e≠z:=λ x=>by subst x;rw[hz2] at hoe;cases hoe;simp at hce
    exact wpAny_setField_rec hz2 41 λ q3 Ω hs3=>fin q3 e (λ c o c1 Ω c3 Ω x=>hs3.extBut _ _ c1 (hs2 _ _ c3 (hs1.extBut _ _ c1 x))) ⟨oe,hs3.extBut _ _ hez hoe,hce⟩
  |some x =>
    have hy:ys[k]?=none:=by rcases hend with h|h;rw[hx] at h;cases h;exact h
    refine lA (zBi (itB h1 hs1 D.i1z) (tpB hl1 hs1 D.l1z) hx λ q2 j1 hs2=>lB ?_);have hTO2:IsPair q2 TO a b:=hs2.extBut _ _ D.TOi1 (hs1.extBut _ _ D.TOz hTO);refine lA (wpAny_seqItems hTO2 rfl ?_);refine lA (wpAny_updateSeq_pair hTO2 λ q3 hTO3 hs3=>?_);refine lA (wpAny_letGo (lB ?_));refine lA (lA (wpAny_onRaise ?_));show wpAny _ _ (Builtin.SmallTypes.nextOf (.ref i2) >>= _) _ _ _;refine lA (zBw hh (itB (itB (itB h2 hs1 D.i2z) hs2 D.i12.symm) hs3 D.TOi2.symm) (tpB (tpB (tpB hl2 hs1 D.l2z) hs2 D.l2i1) hs3 D.l2TO) hy λ q4 e hs4 he=>?_);obtain⟨oe,hoe,hce⟩:=he;have hz4:IsZip q4 z TI TO .ellipsis:=hs4 _ _ D.i2z.symm (hs3.extBut _ _ D.TOz.symm (hs2.extBut _ _ D.i1z.symm hz1));have hez:e≠z:=λ x=>by subst x;rw[hz4] at hoe;cases hoe;simp at hce
    exact wpAny_setField_rec hz4 41 λ q5 Ω hs5=>fin q5 e (λ c o c1 c2 c3 c4 x=>hs5.extBut _ _ c1 (hs4 _ _ c4 (hs3.extBut _ _ c2 (hs2.extBut _ _ c3 (hs1.extBut _ _ c1 x))))) ⟨oe,hs5.extBut _ _ hez hoe,hce⟩
end
theorem zGp (l1 l2:Addr) (xs ys:Array Value) :
    Meets (Builtin.«zip.__new__» ⟨[.type "zip", .ref l1,.ref l2],[]⟩) (λ Ω R s=>s.heap.IsTuple l1 xs/\s.heap.IsTuple l2 ys /\
      ∀(h':Heap) (z TI TO i1 i2:Addr),(∀c o,s.heap.get? c=some o->h'.get? c=some o)->s.heap.objs.size<=z->s.heap.objs.size<=TI->s.heap.objs.size<=TO->s.heap.objs.size<=i1->s.heap.objs.size<=i2 ->
        (TI≠z/\TO≠z/\i1≠z/\i2≠z/\TI≠TO/\TI≠i1/\TI≠i2/\TO≠i1/\TO≠i2/\i1≠i2)->IsZip h' z TI TO .none->IsPair h' TI (.ref i1) (.ref i2)->IsPair h' TO .none .none->h'.IsTupleIter i1 l1 0->h'.IsTupleIter i2 l2 0 ->
        R (.ok (.ret (.ref z))) { s with heap:=h' }) :=
  .of_wp λ prog w A R s h=>by
    obtain⟨hp,g,d,tk,os⟩:=s;obtain⟨hl1,hl2,h⟩:=h;have hsub:=sub_zip;have hL1:Heap.IsTuple (Shared.heap ⟨hp,g,d,tk,os⟩) l1 xs:=hl1;have hL2:Heap.IsTuple (Shared.heap ⟨hp.push { cls:=.type "tuple_iterator", data:=.fields #[.ref l1,.int 0 0] },g,d,tk,os⟩) l2 ys:=let ⟨o,ho,r⟩:=hl2;⟨o,lE _ ho,r⟩
    wp_walk using wpAny_pyIter_tuple hL1,wpAny_pyIter_tuple hL2
    refine⟨_,rfl,h _ _ _ _ _ _ (λ c o e=>lE _ (lE _ (lE _ (lE _ (lE _ e))))) ?_ ?_ ?_ ?_ ?_ ?_ (lG _ rfl) (lE _ (lE _ (lG _ rfl))) (lE _ (lG _ rfl))
      ⟨_,lE _ (lE _ (lE _ (lE _ (lG _ rfl)))),rfl,rfl⟩ ⟨_,lE _ (lE _ (lE _ (lG _ rfl))),rfl,rfl⟩⟩
    all_goals simp only[Heap.size_push]
    all_goals first
      |lia
      | (refine⟨?_,?_,?_,?_,?_,?_,?_,?_,?_,?_⟩<;>(intro e;have e' : @Eq Nat _ _:=e;lia))
section
variable {prog:Program}{w:World}{A:Around}{E:XQ}{s:Shared}
theorem zIX {l1 l2:Addr}{xs ys:Array Value}{Q:XQ}(hl1:s.heap.IsTuple l1 xs) (hl2:s.heap.IsTuple l2 ys)
  (h:∀(h':Heap) (z TI TO i1 i2:Addr),(∀c o,s.heap.get? c=some o->h'.get? c=some o)->s.heap.objs.size<=z->s.heap.objs.size<=TI->s.heap.objs.size<=TO->s.heap.objs.size<=i1->s.heap.objs.size<=i2 ->
    (TI≠z/\TO≠z/\i1≠z/\i2≠z/\TI≠TO/\TI≠i1/\TI≠i2/\TO≠i1/\TO≠i2/\i1≠i2)->IsZip h' z TI TO .none->IsPair h' TI (.ref i1) (.ref i2)->IsPair h' TO .none .none->h'.IsTupleIter i1 l1 0->h'.IsTupleIter i2 l2 0->Q (.ref z) { s with heap:=h' }) :
  wpAny 45 A (call (.type "zip") [.ref l1,.ref l2]) Q E s:=by
 refine callType_new F.called_zip 46 (F.typeCall_zip_2 _ _) (F.newCall_zip_2 _ _) (λ obj=>F.args_object_init_3 obj _ _) F.entry_zip_new (zGp l1 l2 xs ys) ⟨hl1,hl2,λ h' z TI TO i1 i2 a0 a1 a2 a3 a4 a5 a6 a7 a8 a9 b1 b2=>?_⟩;exact⟨⟨_,a7,rfl⟩,h h' z TI TO i1 i2 a0 a1 a2 a3 a4 a5 a6 a7 a8 a9 b1 b2⟩
end
noncomputable def Itz (a b:Addr):It :=
 ⟨λ i H=>∃xs ys x y,H a=some (.tup xs)/\H b=some (.tup ys)/\xs[i]?=some x/\ys[i]?=some y,
 λ i H v H'=>∃T x y,H T=none/\v = .ref T/\H'=upd H T (.tup [x,y])/\(∀xs,H a=some (.tup xs)->xs[i]?=some x)/\∀ys,H b=some (.tup ys)->ys[i]?=some y,
 λ i H=>∃xs ys,H a=some (.tup xs)/\H b=some (.tup ys)/\(xs.length<=i\/ys.length<=i)⟩
theorem zIl {P:Program}{w:World}{K:W.Frag}{es:List Expr}{kk:Nat}{pos:Pos}(a b z TI TO i1 i2:Addr)
  (ap:TI≠z/\TO≠z/\i1≠z/\i2≠z/\TI≠TO/\TI≠i1/\TI≠i2/\TO≠i1/\TO≠i2/\i1≠i2) :
  Turn P w K (.Tuple es kk pos) (Itz a b) [z,TI,TO,i1,i2] z (λ i h=>IsZip h z TI TO .none/\IsPair h TI (.ref i1) (.ref i2)/\(∃p q,IsPair h TO p q)/\h.IsTupleIter i1 a i/\h.IsTupleIter i2 b i) where
 mem:=by simp
 obj:=λ i h st c hc=>by
  obtain⟨hz,hTI,⟨p,q,hTO⟩,⟨o1,e1,c1,d1⟩,o2,e2,c2,d2⟩:=st;simp only[nU,nG,or_false] at hc;rcases hc with rfl|rfl|rfl|rfl|rfl
  ·exact⟨_,hz,λ v z=>by have z':Data.fields _=Data.cell v:=z;cases z'⟩
  ·exact⟨_,hTI,λ v z=>by have z':Data.seq _ _=Data.cell v:=z;cases z'⟩
  ·exact⟨_,hTO,λ v z=>by have z':Data.seq _ _=Data.cell v:=z;cases z'⟩
  ·exact⟨o1,e1,λ v z=>by rw[d1] at z;cases z⟩
  ·exact⟨o2,e2,λ v z=>by rw[d2] at z;cases z⟩
 keep:=λ i h h' st k=>by
  obtain⟨hz,hTI,⟨p,q,hTO⟩,⟨o1,e1,r1⟩,o2,e2,r2⟩:=st;exact⟨k z 41 _ hz,k TI 41 _ hTI,⟨p,q,k TO 41 _ hTO⟩,⟨o1,k i1 41 _ e1,r1⟩,o2,k i2 41 _ e2,r2⟩
 item:=by
  intro X hP hw hK hc i jP s σ H E I hf st hg;subst hP hw hK;obtain⟨xs,ys,x,y,ha,hb,hx,hy⟩:=hg;obtain⟨hz,hTI,⟨p,q,hTO⟩,h1,h2⟩:=st;obtain⟨its,rv,t1,_⟩:=I.tuple (SqT.of ha);obtain⟨its2,rv2,t2,_⟩:=I.tuple (SqT.of hb);obtain⟨u,hu,ru⟩:=rv.get hx;obtain⟨u2,hu2,ru2⟩:=rv2.get hy;obtain⟨n1,n2,n3,n4,n5,n6,n7,n8,n9,n10⟩:=ap;have ne:∀{c d:Addr}{o:HO},H c=some o->d∈[z,TI,TO,i1,i2]->c≠d:=λ e hd=>zAR e (hf _ hd).1;have D:ZipApart z TI TO i1 i2 a b:=⟨n1,n2,n3,n4,n5,n6,n7,n8,n9,n10,ne ha 41,ne ha 41,ne ha 41,ne ha 41,ne hb 41,ne hb 41,ne hb 41,ne hb 41⟩;refine zG1 D hz hTI hTO h1 h2 (show s.heap.IsTuple a its.toArray from t1) (show s.heap.IsTuple b its2.toArray from t2) (by simpa using hu) (by simpa using hu2) λ q1 hz1 hTO1 j1 j2 hT hk=>⟨_,rfl,?_⟩;have hn:H s.heap.objs.size=none:=I.fresh;have hT1:IsPair q1 TI (.ref i1) (.ref i2):=hk _ _ n1 n5 n6 n7 hTI
  have neT:∀c∈[z,TI,TO,i1,i2],c≠s.heap.objs.size:=λ c hc=>by
   simp only[nU,nG,or_false] at hc;rcases hc with rfl|rfl|rfl|rfl|rfl
   ·exact lS (lH (show s.heap.get? _=some _ from hz))
   ·exact lS (lH (show s.heap.get? _=some _ from hTI))
   ·exact lS (lH (show s.heap.get? _=some _ from hTO))
   ·obtain⟨_,e,_⟩:=h1;exact lS (lH e)
   ·obtain⟨_,e,_⟩:=h2;exact lS (lH e)
  have I1:Inv X jP σ (upd H s.heap.objs.size (.tup [x,y])) { s with heap:=q1,toks:=s.toks }:=I.turnedL (ch:=[z,TO,i1,i2]) (λ c o hc e=>hk c o 83 83 83 83 e)
   (λ c hc=>hf c (by simp at hc ⊢;rcases hc with r|r|r|r<;>simp[r])) (lR _) ⟨Nat.le_of_lt (zAf (show 2<=1000 by decide)),[u,u2],.cons ru (.cons ru2 .nil),_,hT,rfl,_,rfl⟩
  refine wpAny_letOwnedTupleGo_zip (s:={ s with heap:=q1 }) hz1 λ q2 hz2 hs2=>⟨.ref s.heap.objs.size,_,?_,rfl,⟨_,x,y,hn,rfl,rfl,λ ws e=>by rw[ha] at e;cases e;exact hx,λ ws e=>by rw[hb] at e;cases e;exact hy⟩,⟨hz2,hs2.extBut _ _ n1 hT1,⟨_,_,hs2.extBut _ _ n2 hTO1⟩,itB j1 hs2 n3,itB j2 hs2 n4⟩,λ c hc=>?_⟩
  ·refine I1.turnedN (t':=s.toks) (ch:=[z]) (λ c o hc e=>(hs2.2 c 83).trans e) λ c hc=>?_
   have ec:=mX.mp hc;subst ec;obtain⟨f0,f⟩:=hf c 41;exact⟨by rw[zAO (neT c 41)];exact f0,f⟩
  ·rw[zAO (neT c hc)];exact(hf c hc).1
 done:=by
  intro X hP hw hK hc i jP s σ H E I hf st hg;subst hP hw hK;obtain⟨xs,ys,ha,hb,hend⟩:=hg;obtain⟨hz,hTI,⟨p,q,hTO⟩,h1,h2⟩:=st;obtain⟨its,rv,t1,_⟩:=I.tuple (SqT.of ha);obtain⟨its2,rv2,t2,_⟩:=I.tuple (SqT.of hb);have l1:=rv.length;have l2:=rv2.length;obtain⟨n1,n2,n3,n4,n5,n6,n7,n8,n9,n10⟩:=ap;have ne:∀{c d:Addr}{o:HO},H c=some o->d∈[z,TI,TO,i1,i2]->c≠d:=λ e hd=>zAR e (hf _ hd).1;have D:ZipApart z TI TO i1 i2 a b:=⟨n1,n2,n3,n4,n5,n6,n7,n8,n9,n10,ne ha 41,ne ha 41,ne ha 41,ne ha 41,ne hb 41,ne hb 41,ne hb 41,ne hb 41⟩;refine zIj (I.ok.hd hc) D hz hTI hTO h1 h2 (show s.heap.IsTuple a its.toArray from t1) (show s.heap.IsTuple b its2.toArray from t2) ?_ λ q1 hk=>⟨rfl,?_⟩
  ·rcases hend with h|h
   ·exact .inl (by simp;lia)
   ·exact .inr (by simp;lia)
  ·exact I.turnedN (t':=s.toks) (ch:=[z,TO,i1,i2]) (λ c o hc e=>hk c o 83 83 83 83 e) (λ c hc=>hf c (by simp at hc ⊢;rcases hc with r|r|r|r<;>simp[r]))
 self:=λ Ω Ω Ω Ω Ω st h=>wpAny_pyIter_zip st.1 h
theorem zFS:bootBuiltins "zip" = some (.type "zip"):=by symm
def iZip (ta:TA):TI:=λ σ H R=>ta σ H λ vs H1=>∃a b xs ys,vs=[.ref a,.ref b]/\H1 a=some (.tup xs)/\H1 b=some (.tup ys)/\R (Itz a b) H1
theorem zLV {X:Cx}{es:List Expr}{k:Nat}{tpos:Pos}{a b:Expr}{ta:TA}{p pos:Pos}(hg:Gl X "zip") (hm:X.mg "zip" = none) (ha:PA X [a,b] ta) (hs:starEach [a,b] X.env=[(false,eval a X.env),(false,eval b X.env)]:=by rfl) (hs2:starEach [b] X.env=[(false,eval b X.env)]:=by rfl) :
  PI X (.Tuple es k tpos) (.Call (.Name "zip" p) [a,b] [] pos) (iZip ta):=by
 intro jP s σ H R I h;refine Call_ (zDJ I hg hm zFS (PyProof.Rows.callWith_type1 (thn (ha pos jP s σ H _ I h) λ us s1 ⟨vs,H1,I1,r1,q1⟩=>?_) (by rw[hs,hs2]) (by rw[hs2];rfl)));obtain⟨l1,l2,xs,ys,e,h1,h2,q⟩:=q1;subst e;obtain⟨u,w',rfl,ru,rw'⟩:=vals2 r1;cases ru;cases rw';obtain⟨its,rv,t1,_⟩:=I1.tuple (SqT.of h1);obtain⟨its2,rv2,t2,_⟩:=I1.tuple (SqT.of h2);refine zIX (show s1.heap.IsTuple l1 its.toArray from t1) (show s1.heap.IsTuple l2 its2.toArray from t2) λ h' z TI TO i1 i2 a0 a1 a2 a3 a4 a5 a6 a7 a8 a9 b1 b2=>?_;refine wpAny_pyIter_zip a7 ⟨_,[z,TI,TO,i1,i2],_,_,H1,rfl,I1.kept (t':=s1.toks) a0,zIl l1 l2 z TI TO i1 i2 a6,⟨a7,a8,⟨_,_,a9⟩,b1,b2⟩,λ c hc=>?_,q⟩
 have ge:s1.heap.objs.size<=c:=by
  simp only[nU,nG,or_false] at hc;rcases hc with rfl|rfl|rfl|rfl|rfl<;>assumption
 exact I1.fpOk ge (I1.hok.fresh ge)
theorem itL {h h':Heap}{a b t:Addr}{i:Nat}(x:h.IsListIter a t i) (e:Heap.SameBut b h h') (n:a≠b):h'.IsListIter a t i:=let ⟨o,ho,r⟩:=x;⟨o,e.extBut a o n ho,r⟩
noncomputable def Itzl (K:W.Frag) (a b:Addr):It :=
 ⟨λ i H=>∃xs ys x y,H a=some (.lst xs)/\H b=some (.lst ys)/\xs[i]?=some x/\ys[i]?=some y,
 λ i H v H'=>∃T x y,H T=none/\v = .ref T/\H'=upd H T (.tup [x,y])/\(∀xs,H a=some (.lst xs)->xs[i]?=some x)/\∀ys,H b=some (.lst ys)->ys[i]?=some y,
 λ i H=>∃xs ys,H a=some (.lst xs)/\H b=some (.lst ys)/\(xs.length<=i\/ys.length<=i)⟩
theorem zG6 {P:Program}{w:World}{K:W.Frag}{es:List Expr}{kk:Nat}{pos:Pos}(a b z TI TO i1 i2:Addr)
  (ap:TI≠z/\TO≠z/\i1≠z/\i2≠z/\TI≠TO/\TI≠i1/\TI≠i2/\TO≠i1/\TO≠i2/\i1≠i2) :
  Turn P w K (.Tuple es kk pos) (Itzl K a b) [z,TI,TO,i1,i2] z (λ i h=>IsZip h z TI TO .none/\IsPair h TI (.ref i1) (.ref i2)/\(∃p q,IsPair h TO p q)/\h.IsListIter i1 a i/\h.IsListIter i2 b i) where
 mem:=by simp
 obj:=λ i h st c hc=>by
  obtain⟨hz,hTI,⟨p,q,hTO⟩,⟨o1,e1,c1,d1⟩,o2,e2,c2,d2⟩:=st;simp only[nU,nG,or_false] at hc;rcases hc with rfl|rfl|rfl|rfl|rfl
  ·exact⟨_,hz,λ v z=>by have z':Data.fields _=Data.cell v:=z;cases z'⟩
  ·exact⟨_,hTI,λ v z=>by have z':Data.seq _ _=Data.cell v:=z;cases z'⟩
  ·exact⟨_,hTO,λ v z=>by have z':Data.seq _ _=Data.cell v:=z;cases z'⟩
  ·exact⟨o1,e1,λ v z=>by rw[d1] at z;cases z⟩
  ·exact⟨o2,e2,λ v z=>by rw[d2] at z;cases z⟩
 keep:=λ i h h' st k=>by
  obtain⟨hz,hTI,⟨p,q,hTO⟩,⟨o1,e1,r1⟩,o2,e2,r2⟩:=st;exact⟨k z 41 _ hz,k TI 41 _ hTI,⟨p,q,k TO 41 _ hTO⟩,⟨o1,k i1 41 _ e1,r1⟩,o2,k i2 41 _ e2,r2⟩
 item:=by
  intro X hP hw hK hc i jP s σ H E I hf st hg;subst hP hw hK;obtain⟨xs,ys,x,y,ha,hb,hx,hy⟩:=hg;obtain⟨hz,hTI,⟨p,q,hTO⟩,h1,h2⟩:=st;obtain⟨its,rv,t1,_⟩:=I.list (SqL.of ha);obtain⟨its2,rv2,t2,_⟩:=I.list (SqL.of hb);obtain⟨u,hu,ru⟩:=rv.get hx;obtain⟨u2,hu2,ru2⟩:=rv2.get hy;obtain⟨n1,n2,n3,n4,n5,n6,n7,n8,n9,n10⟩:=ap;have ne:∀{c d:Addr}{o:HO},H c=some o->d∈[z,TI,TO,i1,i2]->c≠d:=λ e hd=>zAR e (hf _ hd).1;have D:ZipApart z TI TO i1 i2 a b:=⟨n1,n2,n3,n4,n5,n6,n7,n8,n9,n10,ne ha 41,ne ha 41,ne ha 41,ne ha 41,ne hb 41,ne hb 41,ne hb 41,ne hb 41⟩;refine wpAny_pyNext_zip_item D hz hTI hTO h1 h2 t1.isList t2.isList (by simpa using hu) (by simpa using hu2) λ q1 hz1 hTO1 j1 j2 hT hsz hk=>⟨_,rfl,?_⟩;have hn:H s.heap.objs.size=none:=I.fresh;have hT1:IsPair q1 TI (.ref i1) (.ref i2):=hk _ _ n1 n5 n6 n7 hTI
  have neT:∀c∈[z,TI,TO,i1,i2],c≠s.heap.objs.size:=λ c hc=>by
   simp only[nU,nG,or_false] at hc;rcases hc with rfl|rfl|rfl|rfl|rfl
   ·exact lS (lH (show s.heap.get? _=some _ from hz))
   ·exact lS (lH (show s.heap.get? _=some _ from hTI))
   ·exact lS (lH (show s.heap.get? _=some _ from hTO))
   ·obtain⟨_,e,_⟩:=h1;exact lS (lH e)
   ·obtain⟨_,e,_⟩:=h2;exact lS (lH e)
  have I1:Inv X jP σ (upd H s.heap.objs.size (.tup [x,y])) { s with heap:=q1,toks:=s.toks }:=I.turnedL (ch:=[z,TO,i1,i2]) (λ c o hc e=>hk c o 83 83 83 83 e)
   (λ c hc=>hf c (by simp at hc ⊢;rcases hc with r|r|r|r<;>simp[r])) (lR _) ⟨Nat.le_of_lt (zAf (show 2<=1000 by decide)),[u,u2],.cons ru (.cons ru2 .nil),_,hT,rfl,_,rfl⟩
  refine wpAny_letOwnedTupleGo_zip (s:={ s with heap:=q1 }) hz1 λ q2 hz2 hs2=>⟨.ref s.heap.objs.size,_,?_,rfl,⟨_,x,y,hn,rfl,rfl,λ ws e=>by rw[ha] at e;cases e;exact hx,λ ws e=>by rw[hb] at e;cases e;exact hy⟩,⟨hz2,hs2.extBut _ _ n1 hT1,⟨_,_,hs2.extBut _ _ n2 hTO1⟩,itL j1 hs2 n3,itL j2 hs2 n4⟩,λ c hc=>?_⟩
  ·refine I1.turnedN (t':=s.toks) (ch:=[z]) (λ c o hc e=>(hs2.2 c 83).trans e) λ c hc=>?_
   have ec:=mX.mp hc;subst ec;obtain⟨f0,f⟩:=hf c 41;exact⟨by rw[zAO (neT c 41)];exact f0,f⟩
  ·rw[zAO (neT c hc)];exact(hf c hc).1
 done:=by
  intro X hP hw hK hc i jP s σ H E I hf st hg;subst hP hw hK;obtain⟨xs,ys,ha,hb,hend⟩:=hg;obtain⟨hz,hTI,⟨p,q,hTO⟩,h1,h2⟩:=st;obtain⟨its,rv,t1,_⟩:=I.list (SqL.of ha);obtain⟨its2,rv2,t2,_⟩:=I.list (SqL.of hb);have l1:=rv.length;have l2:=rv2.length;obtain⟨n1,n2,n3,n4,n5,n6,n7,n8,n9,n10⟩:=ap;have ne:∀{c d:Addr}{o:HO},H c=some o->d∈[z,TI,TO,i1,i2]->c≠d:=λ e hd=>zAR e (hf _ hd).1;have D:ZipApart z TI TO i1 i2 a b:=⟨n1,n2,n3,n4,n5,n6,n7,n8,n9,n10,ne ha 41,ne ha 41,ne ha 41,ne ha 41,ne hb 41,ne hb 41,ne hb 41,ne hb 41⟩;refine wpAny_pyNext_zip_end (I.ok.hd hc) D hz hTI hTO h1 h2 t1.isList t2.isList ?_ λ q1 hk=>⟨rfl,?_⟩
  ·rcases hend with h|h
   ·exact .inl (by simp;lia)
   ·exact .inr (by simp;lia)
  ·exact I.turnedN (t':=s.toks) (ch:=[z,TO,i1,i2]) (λ c o hc e=>hk c o 83 83 83 83 e) (λ c hc=>hf c (by simp at hc ⊢;rcases hc with r|r|r|r<;>simp[r]))
 self:=λ Ω Ω Ω Ω Ω st h=>wpAny_pyIter_zip st.1 h
def iZipL (K:W.Frag) (ta:TA):TI:=λ σ H R=>ta σ H λ vs H1=>∃a b xs ys,vs=[.ref a,.ref b]/\H1 a=some (.lst xs)/\H1 b=some (.lst ys)/\R (Itzl K a b) H1
theorem zKa {X:Cx}{es:List Expr}{k:Nat}{tpos:Pos}{a b:Expr}{ta:TA}{p pos:Pos}(hg:Gl X "zip") (hm:X.mg "zip" = none) (ha:PA X [a,b] ta) (hs:starEach [a,b] X.env=[(false,eval a X.env),(false,eval b X.env)]:=by rfl) (hs2:starEach [b] X.env=[(false,eval b X.env)]:=by rfl) :
  PI X (.Tuple es k tpos) (.Call (.Name "zip" p) [a,b] [] pos) (iZipL X.K ta):=by
 intro jP s σ H R I h;refine Call_ (zDJ I hg hm zFS (PyProof.Rows.callWith_type1 (thn (ha pos jP s σ H _ I h) λ us s1 ⟨vs,H1,I1,r1,q1⟩=>?_) (by rw[hs,hs2]) (by rw[hs2];rfl)));obtain⟨l1,l2,xs,ys,e,h1,h2,q⟩:=q1;subst e;obtain⟨u,w',rfl,ru,rw'⟩:=vals2 r1;cases ru;cases rw';obtain⟨its,rv,t1,_⟩:=I1.list (SqL.of h1);obtain⟨its2,rv2,t2,_⟩:=I1.list (SqL.of h2);refine call_zip_2 t1.isList t2.isList λ h' a7 a8 a9 b1 b2 hz hk=>?_;refine wpAny_pyIter_zip a7 ⟨_,[s1.heap.objs.size+4,s1.heap.objs.size+2,s1.heap.objs.size+3,s1.heap.objs.size,s1.heap.objs.size+1],_,_,H1,rfl,I1.kept (t':=s1.toks) hk,zG6 l1 l2 _ _ _ _ _ ?_,⟨a7,a8,⟨_,_,a9⟩,b1,b2⟩,λ c hc=>?_,q⟩
 ·refine⟨?_,?_,?_,?_,?_,?_,?_,?_,?_,?_⟩<;>(intro e;have e' : @Eq Nat _ _:=e;lia)
 ·have ge:s1.heap.objs.size<=c:=by
   simp only[nU,nG,or_false] at hc;rcases hc with rfl|rfl|rfl|rfl|rfl
   ·exact Nat.le_add_right _ _
   ·exact Nat.le_add_right _ _
   ·exact Nat.le_add_right _ _
   ·exact lR _
   ·exact Nat.le_add_right _ _
  exact I1.fpOk ge (I1.hok.fresh ge)
theorem zJV {K:W.Frag}{a b:Addr}{xs ys:List V}{g:TG}{tb:TS}{D:Ends}{σ:L2.St}{H:Hp}(Pv:Nat->L2.St->Hp->Prop) (h0:Pv 0 σ H) (hl:∀i σ H,i<=min xs.length ys.length->Pv i σ H->H a=some (.lst xs)/\H b=some (.lst ys))
  (hs:∀i x y T σ H,xs[i]?=some x->ys[i]?=some y->Pv i σ H->H T=none->g (.ref T) σ (upd H T (.tup [x,y])) λ σ2 H2=>tb { D with nx:=Pv (i+1),ct:=Pv (i+1),bk:=D.nx } σ2 H2) (hd:∀σ H,Pv (min xs.length ys.length) σ H->D.nx σ H) :
  ∃W:Nat->Nat->L2.St->Hp->Prop,(∃m,W 0 m σ H)/\∀i m σ H,W i m σ H ->
   ((Itzl K a b).stop i H/\D.nx σ H)\/((Itzl K a b).go i H/\∃N:L2.St->Hp->Prop,68/\∀x H',(Itzl K a b).yld i H x H'->g x σ H' λ σ2 H2=>tb { D with nx:=N,ct:=N,bk:=D.nx } σ2 H2):=by
 refine⟨λ i m σ H=>m=min xs.length ys.length - i/\i<=min xs.length ys.length/\Pv i σ H,⟨min xs.length ys.length,by simp,lY _,h0⟩,?_⟩;rintro i m σ H ⟨rfl,hi,p⟩;obtain⟨ha,hb⟩:=hl i σ H hi p
 by_cases hlt:i<min xs.length ys.length
 ·have hx:i<xs.length:=by lia
  have hy:i<ys.length:=by lia
  refine .inr ⟨⟨xs,ys,xs[i],ys[i],ha,hb,by simp[hx],by simp[hy]⟩,Pv (i+1),λ σ' H' p'=>⟨min xs.length ys.length - (i+1),by lia,rfl,hlt,p'⟩,λ x H' y=>?_⟩;obtain⟨T,u,v,hT,ex,eH,e1,e2⟩:=y;subst ex eH;exact hs i u v T σ H (e1 xs ha) (e2 ys hb) p hT
 ·have e:i=min xs.length ys.length:=by lia
  subst e;exact .inl ⟨⟨xs,ys,ha,hb,by lia⟩,hd σ H p⟩
theorem zIU {a b:Addr}{xs ys:List V}{acc:Addr}{g:TG}{tt:TT}{te:TE}{σ:L2.St}{H:Hp}{R:Hp->Prop}(Pv:Nat->Hp->Prop) (h0:Pv 0 (upd H acc (.lst []))) (hl:∀i H,i<=min xs.length ys.length->Pv i H->H a=some (.tup xs)/\H b=some (.tup ys))
  (hs:∀i x y T H,xs[i]?=some x->ys[i]?=some y->Pv i H->H T=none->g (.ref T) σ (upd H T (.tup [x,y])) λ σ2 H4=>Ext σ σ2/\tt σ2 H4 λ b H5 =>
   if b=true then te σ2 H5 λ y H6=>∃zs,H6 acc=some (.lst zs)/\zs.length<sizeLine/\Pv (i+1) (upd H6 acc (.lst (zs++[y]))) else Pv (i+1) H5) (hd:∀H,Pv (min xs.length ys.length) H->R H) :
  ∃W:Nat->Nat->Hp->Prop,(∃m,W 0 m (upd H acc (.lst [])))/\∀i m H2,W i m H2 ->
   ((Itz a b).stop i H2/\R H2)\/((Itz a b).go i H2/\∃N:Hp->Prop,(∀H',N H'->∃m',m'<m/\W (i+1) m' H')/\∀x H3,(Itz a b).yld i H2 x H3->g x σ H3 λ σ2 H4=>Ext σ σ2/\tt σ2 H4 λ b H5 =>
    if b=true then te σ2 H5 λ y H6=>∃zs,H6 acc=some (.lst zs)/\zs.length<sizeLine/\N (upd H6 acc (.lst (zs++[y])))
    else N H5):=by
 refine⟨λ i m H=>m=min xs.length ys.length - i/\i<=min xs.length ys.length/\Pv i H,⟨min xs.length ys.length,by simp,lY _,h0⟩,?_⟩;rintro i m H2 ⟨rfl,hi,p⟩;obtain⟨ha,hb⟩:=hl i H2 hi p
 by_cases hlt:i<min xs.length ys.length
 ·have hx:i<xs.length:=by lia
  have hy:i<ys.length:=by lia
  refine .inr ⟨⟨xs,ys,xs[i],ys[i],ha,hb,by simp[hx],by simp[hy]⟩,Pv (i+1),λ H' p'=>⟨min xs.length ys.length - (i+1),by lia,rfl,hlt,p'⟩,λ x H' y=>?_⟩;obtain⟨T,u,v,hT,ex,eH,e1,e2⟩:=y;subst ex eH;exact hs i u v T H2 (e1 xs ha) (e2 ys hb) p hT
 ·have e:i=min xs.length ys.length:=by lia
  subst e;exact .inl ⟨⟨xs,ys,ha,hb,by lia⟩,hd H2 p⟩
theorem zLP {k:Key}{u:Value}(h:keyIs k u=true):RelV (kV k) u:=by
 rcases zA3 h with ⟨i,t,rfl,rfl⟩|⟨x,t,rfl,rfl⟩
 ·exact⟨t,rfl⟩
 ·exact⟨t,rfl⟩
theorem zJ5 {kvs:List 97}{vs:List (Key × Value)}{i:Nat}{p:Key × V}(h:KV kvs vs):kvs[i]?=some p->∃v,vs[i]?=some (p.1,v):=by
 induction h generalizing i with
 |nil=>exact λ e=>nomatch e
 | @cons a b _ _ r t ih=>cases i with
  |zero=>intro e;have e':a=p:=by simpa using e
         subst e';exact⟨b.2,by rw[r.1];rfl⟩
  |succ i=>exact λ e=>ih (i:=i) (by simpa using e)
noncomputable def Itd (o:Obj) (a:Addr) (kvs:List 97):It :=
 ⟨λ i H=>H a=some (.frz o 84)/\i<kvs.length,λ i H x H'=>H'=H/\∃p,kvs[i]?=some p/\x=kV p.1,λ i H=>H a=some (.frz o 84)/\kvs.length<=i⟩
theorem zJ7 {X:Cx}{jP:List 54}{σ:L2.St}{H:Hp}{s:Shared}{a:Addr}{o:Obj}{kvs:List 97}{es:Array DictEntry}{ep:Nat}(I:Inv X jP σ H s) (ha:H a=some (.frz o 84)) (hd:o.data = .dict es ep) :
  ∃vs,KV kvs vs/\kvs.length=vs.length/\s.heap.DictAt (zAn X.prog X.w) a vs ep:=by
 obtain⟨e,z,sy,vs,r,o',es',ep',h1,c1,d1,rest⟩:=(show ObjOk X.prog X.w H s.heap a (.frz o 84) from I.hok a _ ha);rw[e] at h1;cases h1;rw[hd] at d1;cases d1;exact⟨vs,r,Paired.length r,o,es,e,c1,hd,rest⟩
theorem zEy {P:Program}{w:World}{K:W.Frag}{tg:Expr}(a it:Addr) (o:Obj) (kvs:List 97):Turn P w K tg (Itd o a kvs) [it] it (λ i h=>E2 λ es ep=>o.data = .dict es ep/\h.IsKeyIter it a i kvs.length ep) where
 mem:=by simp
 obj:=λ i h st b hb=>by
  have e:b=it:=by simpa using hb
  subst e;obtain⟨_,_,_,ob,e,c,d⟩:=st;exact⟨ob,e,λ v z=>by rw[d] at z;cases z⟩
 keep:=λ i h h' st k=>by
  obtain⟨es,ep,hd,ob,e,r⟩:=st;exact⟨es,ep,hd,ob,k it 41 ob e,r⟩
 item:=by
  intro X hP hw hK hc i jP s σ H E I hf st hg;subst hP hw hK;obtain⟨ha,hi⟩:=hg;obtain⟨es,ep,hd,hit⟩:=st;obtain⟨vs,r,hl,hm⟩:=zJ7 I ha hd;obtain⟨v,hv⟩:=zJ5 r (lW hi);obtain⟨f0,f1,f2,f3,f4,f5⟩:=hf it 41;rw[hl] at hit;refine wpAny_pyNext_dict_item hit hm hv λ key h' hk hit' sb=>?_;have I1:Inv X jP σ H { s with heap:=h' }:=I.turned (t':=s.toks) (λ b o hb e=>(sb.2 b hb).trans e) f0 f1 f3 f4 f5;obtain⟨ob,e,c,d⟩:=id hit';rw[←hl] at hit';exact⟨key,rfl,go_of (s:={ s with heap:=h' }) e c d 46 ⟨_,H,I1,zLP hk,⟨rfl,_,lW hi,rfl⟩,⟨es,ep,hd,hit'⟩,λ b hb=>(hf b hb).1⟩⟩
 done:=by
  intro X hP hw hK hc i jP s σ H E I hf st hg;subst hP hw hK;obtain⟨ha,hi⟩:=hg;obtain⟨es,ep,hd,hit⟩:=st;obtain⟨vs,r,hl,hm⟩:=zJ7 I ha hd;obtain⟨f0,f1,f2,f3,f4,f5⟩:=hf it 41;rw[hl] at hit;exact wpAny_pyNext_dict_end (I.ok.hd hc) hit hm (List.getElem?_eq_none 31) λ h' eb=>⟨rfl,I.turned (t':=s.toks) (λ b o hb e=>eb b o hb e) f0 f1 f3 f4 f5⟩
 self:=λ A i s Q E st h=>by
  obtain⟨es,ep,hd,hit⟩:=st;refine wpAny_pyIter_slot hit.typeIs F.slot_dict_keyiterator_iter (wpAny_call_entry F.slot_dict_keyiterator_iter hit.typeIs F.entry_dict_keyiterator_iter ?_ (F.args_dict_keyiterator_iter_1 _));show wpAny _ _ (ret (.ref it)) _ _ s;exact lB ⟨_,rfl, "dict_keyiterator", _,hit.typeIs,F.slot_dict_keyiterator_next.lookup,h⟩
def iDict (tl:TE):TI:=λ σ H R=>tl σ H λ x H1=>∃a kvs,x = .ref a/\((∃o,H1 a=some (.frz o 84)/\R (Itd o a kvs) H1)\/(H1 a=some 84/\∀o,R (Itd o a kvs) (upd H1 a (.frz o 84))))
theorem zFg {X:Cx}{tg l:Expr}{tl:TE}(hl:PE X l tl):PI X tg l (iDict tl):=by
 intro jP s σ H R I h;refine thn (hl jP s σ H _ I h) λ v s1 ⟨x,H1,I1,r1,q1⟩=>?_;obtain⟨a,kvs,e,q⟩:=q1;subst e;cases r1;rcases q with ⟨o,ha,q⟩|⟨ha,q⟩
 ·obtain⟨e,z,sy,vs,r,o',es',ep',h1,c1,d1,rest⟩:=(show ObjOk X.prog X.w H1 s1.heap a (.frz o 84) from I1.hok a _ ha)
  rw[e] at h1;cases h1;refine wpAny_pyIter_dict (knd:=zAn X.prog X.w) (kvs:=vs) (ep:=ep') sy ⟨o,es',e,c1,d1,rest⟩ ?_;refine⟨s1.heap.objs.size,[s1.heap.objs.size],_,_,H1,rfl,I1.kept (t':=s1.toks) λ b o e=>lE _ e,zEy a _ o kvs,⟨es',ep',d1,_,lG _ rfl,rfl,by rw[Paired.length r];rfl⟩,λ b hb=>?_,q⟩;have e:b=s1.heap.objs.size:=by simpa using hb
  subst e;exact I1.fpOk (lR _) (I1.hok.fresh (lR _))
 ·obtain⟨z,sy,vs,r,o,es',ep',e,c1,d1,rest⟩:=(show ObjOk X.prog X.w H1 s1.heap a 84 from I1.hok a _ ha)
  refine wpAny_pyIter_dict (knd:=zAn X.prog X.w) (kvs:=vs) (ep:=ep') sy ⟨o,es',e,c1,d1,rest⟩ ?_;have lt:=lH e;refine⟨s1.heap.objs.size,[s1.heap.objs.size],_,_,upd H1 a (.frz o 84),rfl,I1.write (t':=s1.toks) (x:=a) (e:=a) (by rw[ha];exact True.intro) (.inl rfl) (λ b o Ω e=>lE _ e) ⟨o,lE _ e⟩ ?_,zEy a _ o kvs,⟨es',ep',d1,_,lG _ rfl,rfl,by rw[Paired.length r];rfl⟩,λ b hb=>?_,q o⟩
  ·exact⟨lE _ e,z,sy,vs,r,o,es',ep',lE _ e,c1,d1,rest⟩
  ·have e:b=s1.heap.objs.size:=by simpa using hb
   subst e;exact I1.fpOk (lR _) (by rw[zAO (Nat.ne_of_gt lt)];exact I1.hok.fresh (lR _))
theorem zEq {o:Obj}{a:Addr}{kvs:List 97}{g:TG}{tb:TS}{D:Ends}{σ:L2.St}{H:Hp}(Pv:Nat->L2.St->Hp->Prop) (h0:Pv 0 σ H) (hl:∀i σ H,i<=kvs.length->Pv i σ H->H a=some (.frz o 84))
  (hs:∀i p σ H,kvs[i]?=some p->Pv i σ H->g (kV p.1) σ H λ σ2 H2=>tb { D with nx:=Pv (i+1),ct:=Pv (i+1),bk:=D.nx } σ2 H2) (hd:∀σ H,Pv kvs.length σ H->D.nx σ H) :
  ∃W:Nat->Nat->L2.St->Hp->Prop,(∃m,W 0 m σ H)/\∀i m σ H,W i m σ H ->
   ((Itd o a kvs).stop i H/\D.nx σ H)\/((Itd o a kvs).go i H/\∃N:L2.St->Hp->Prop,68/\∀x H',(Itd o a kvs).yld i H x H'->g x σ H' λ σ2 H2=>tb { D with nx:=N,ct:=N,bk:=D.nx } σ2 H2):=by
 refine⟨λ i m σ H=>m=kvs.length - i/\i<=kvs.length/\Pv i σ H,⟨kvs.length,by simp,lY _,h0⟩,?_⟩;rintro i m σ H ⟨rfl,hi,p⟩;have q:=hl i σ H hi p
 by_cases hlt:i<kvs.length
 ·refine .inr ⟨⟨q,hlt⟩,Pv (i+1),λ σ' H' p'=>⟨kvs.length - (i+1),by lia,rfl,hlt,p'⟩,λ x H' y=>?_⟩
  obtain⟨e,p',hp',ex⟩:=y;subst e ex;exact hs i p' σ _ hp' p
 ·have e:i=kvs.length:=by lia
  subst e;exact .inl ⟨⟨q,lR _⟩,hd σ H p⟩
theorem zFQ {K:W.Frag}{a:Addr}{xs:List V}{acc:Addr}{g:TG}{tt:TT}{te:TE}{σ:L2.St}{H:Hp}{R:Hp->Prop}(Pv:Nat->Hp->Prop) (h0:Pv 0 (upd H acc (.lst []))) (hl:∀i H,i<=xs.length->Pv i H->SqT K H a xs)
  (hs:∀i x H,xs[i]?=some x->Pv i H->g x σ H λ σ2 H4=>Ext σ σ2/\tt σ2 H4 λ b H5 =>
   if b=true then te σ2 H5 λ y H6=>∃zs,H6 acc=some (.lst zs)/\zs.length<sizeLine/\Pv (i+1) (upd H6 acc (.lst (zs++[y]))) else Pv (i+1) H5) (hd:∀H,Pv xs.length H->R H) :
  ∃W:Nat->Nat->Hp->Prop,(∃m,W 0 m (upd H acc (.lst [])))/\∀i m H2,W i m H2 ->
   ((Itt K a).stop i H2/\R H2)\/((Itt K a).go i H2/\∃N:Hp->Prop,(∀H',N H'->∃m',m'<m/\W (i+1) m' H')/\∀x H3,(Itt K a).yld i H2 x H3->g x σ H3 λ σ2 H4=>Ext σ σ2/\tt σ2 H4 λ b H5 =>
    if b=true then te σ2 H5 λ y H6=>∃zs,H6 acc=some (.lst zs)/\zs.length<sizeLine/\N (upd H6 acc (.lst (zs++[y])))
    else N H5):=by
 refine⟨λ i m H=>m=xs.length - i/\i<=xs.length/\Pv i H,⟨xs.length,by simp,lY _,h0⟩,?_⟩;rintro i m H2 ⟨rfl,hi,p⟩;have q:=hl i H2 hi p
 by_cases hlt:i<xs.length
 ·refine .inr ⟨⟨xs,xs[i],q,by simp[hlt]⟩,Pv (i+1),λ H' p'=>⟨xs.length - (i+1),by lia,rfl,hlt,p'⟩,λ x H' y=>?_⟩
  obtain⟨e,y⟩:=y;subst e;exact hs i x _ (y xs q) p
 ·have e:i=xs.length:=by lia
  subst e;exact .inl ⟨⟨xs,q,lR _⟩,hd H2 p⟩
theorem zCg {α β:Type}{F:α->β->Prop}{as:List α}{us:List β}{i:Nat}{u:β}(h:Paired F as us):us[i]?=some u->∃a,as[i]?=some a/\F a u:=by
 induction h generalizing i with
 |nil=>exact λ e=>nomatch e
 |cons h t ih=>cases i with
  |zero=>exact λ e=>⟨_,rfl,by cases e;exact h⟩
  |succ i=>exact λ e=>ih (i:=i) (by simpa using e)
theorem zCC {α β:Type}{F:α->β->Prop}{as bs:List α}{us vs:List β}(h:Paired F as us) (k:Paired F bs vs):Paired F (as++bs) (us++vs):=by
 induction h with
 |nil=>exact k
 |cons r t ih=>exact .cons r ih
theorem zEi {α:Type}:∀{l:List α},l.Nodup->∀{i j:Nat}{a:α},l[i]?=some a->l[j]?=some a->i=j
 |[],_,i,j,a,h,_=>by simp at h
 |x::l,nd,0,0,a,_,_=>rfl
 |x::l,nd,0,j+1,a,h1,h2=>by
  rw[rL] at nd;have e:x=a:=by simpa using h1
  exact absurd (e▸lK (show l[j]?=some a by simpa using h2)) nd.1
 |x::l,nd,i+1,0,a,h1,h2=>by
  rw[rL] at nd;have e:x=a:=by simpa using h2
  exact absurd (e▸lK (show l[i]?=some a by simpa using h1)) nd.1
 |x::l,nd,i+1,j+1,a,h1,h2=>by
  rw[rL] at nd;rw[zEi nd.2 (i:=i) (j:=j) (a:=a) (by simpa using h1) (by simpa using h2)]
theorem zF3:∀{kvs:List 97},(kvs.map (·.1)).Nodup->∀{i:Nat}{p:Key × V},kvs[i]?=some p->valV kvs p.1=some p.2
 |[],_,i,p,h=>by simp at h
 |a::kvs,nd,0,p,h=>by
  have e:a=p:=by simpa using h
  subst e;exact zBE rfl
 |a::kvs,nd,i+1,p,h=>by
  have h':kvs[i]?=some p:=by simpa using h
  rw[mL,rL] at nd;have ne:¬a.1=p.1:=λ z=>nd.1 (by rw[z];exact List.mem_map_of_mem (lK h'));rw[zBF ne];exact zF3 nd.2 h'
theorem zHe {X:Cx}{K:W.Frag}{es:List Expr}{k:Nat}{t:TGs}{n:Nat}{pos:Pos}(hK:X.K=K) (hc:X.calm=true) (h:PGs X es t)
  (hn:(assignEach es X.env).length=n:=by rfl) (hst:(assignEach es X.env).findIdx? (·.1)=none:=by rfl):PG X (.Tuple es k pos) (gTup K n t):=hK▸zCG hc h hn hst
section
variable {X:Cx}
theorem zId:bootBuiltins "sum" = some (.builtin "sum"):=by symm
theorem zIY (hc:X.calm=true):CallR X (.builtin "sum") (λ xs H Q=>E2 λ(l:Addr) (ns:List Int)=>A3 (xs=[.ref l]) (H l=some (.lst (ns.map V.int))) (Q (.int ns.sum) H)):=by
 intro jP s σ H xs us Q I r h;obtain⟨l,ns,rfl,hl,q⟩:=h;obtain⟨u,rfl,ru⟩:=vals1 r;cases ru;obtain⟨_,its,n,rv,le,e⟩:=I.lstM hl;have L1:s.heap.IsList l its.toArray:=⟨_,e,rfl,_,rfl⟩;have hi:=zFM rv;obtain⟨xs,hx⟩:=hi.allInts.items;have hl':s.heap.IsList l (intItems xs):=hx▸L1;refine sum_intListG (I.ok.hd hc) hl' λ h' tk t' hk=>?_
 have e1:ns=xs.toList.map (·.1):=by
  rw[←nums_intItems,←hx];exact(show numsOf its.toArray.toList=ns from hi.numsOf).symm
 have e2:preSum (numAt xs) xs.size=ns.sum:=by
  rw[preSum_eq,nB 41,e1]
 rw[e2];exact⟨.int ns.sum,H,I.kept hk,43,q⟩
theorem zEM:∀{bs:List Bool}{us:List Value},Vals (bs.map V.bl) us->LSm.BoolsAre us bs
 |[],_,h=>by cases h;exact .nil
 |b::bs,_,h=>by
  cases h with
  |cons r t =>
   cases r;exact .cons b (zEM t)
theorem zDw (hc:X.calm=true):CallR X (.builtin "all") (λ xs H Q=>E2 λ(l:Addr) (bs:List Bool)=>A3 (xs=[.ref l]) (H l=some (.lst (bs.map V.bl))) (Q (.bl (bs.all id)) H)):=by
 intro jP s σ H xs us Q I r h;obtain⟨l,bs,rfl,hl,q⟩:=h;obtain⟨u,rfl,ru⟩:=vals1 r;cases ru;obtain⟨_,its,n,rv,le,e⟩:=I.lstM hl;have L1:s.heap.IsList l its.toArray:=⟨_,e,rfl,_,rfl⟩;have hb:=zEM rv;have hlt:l<s.heap.objs.size:=lH e;refine call_all_walk (wpAny_pyIter_list L1 ?_)
 refine⟨s.heap.objs.size,[s.heap.objs.size,l],[s.heap.objs.size],its.toArray.size,_,_,λ i=>(bs[i]?).getD true,rfl,Walks.list (A:=X.A.in1) (I.ok.hd hc) _ l (lS hlt) its.toArray,
  ⟨⟨_,lG _ rfl,rfl,rfl⟩,L1.push _⟩,λ i v s' Q' E' hP hQ=>?_,λ h' tk hk=>?_⟩
 ·obtain⟨b,e,rfl⟩:=hb.get i v (by simpa using hP)
  simp only[e,Option.getD_some] at hQ;exact wpAny_truthy_bool hQ
 ·have e:((List.range its.toArray.size).all λ i=>(bs[i]?).getD true)=bs.all id:=by
   rw[mD,hb.length];exact LSm.range_all bs
  rw[e];exact⟨.bl (bs.all id),H,I.kept (LSm.kept_iter hk),rfl,q⟩
theorem zIe {k:Int}(h:k.natAbs<2 ^ 500):Builtin.Int.intBits k<=500:=by
 unfold Builtin.Int.intBits;split
 ·exact lY _
 ·have:k.natAbs.log2<500:=by
   rcases Nat.eq_zero_or_pos k.natAbs with h0|hp
   ·rw[h0];decide
   ·exact(Nat.log2_lt (Nat.ne_of_gt hp)).mpr h
  lia
def CMulC (i j:Int):Prop:=i.natAbs<2 ^ 500/\j.natAbs<2 ^ 500
theorem zHj:OpR X (binaryOp .Mult) (rI CMulC λ i j=>.int (i * j)):=opI λ Ω Ω Ω Ω Ω Ω Ω hc q=>mul_int q (IntMulOk.of_le (zIe hc.1) (zIe hc.2) 46)
theorem zLc (hu:X.A.units+1<cLine):OpR X (compareOp .In) (λ x y H Q=>E2 λ(a:Addr) (o:Option V)=>A3 (y = .ref a) (DGet H a x o) (Q (.bl o.isSome) H)):=by
 intro jP s σ H x y v u Q I rx ry h;obtain⟨a,o,rfl,g,q⟩:=h;cases ry;exact d_in hu I g rx λ s' I'=>⟨.bl o.isSome,H,I',rfl,q⟩
structure KDic (K:W.Frag) (P:Params) (d:Addr):Prop where
 ex:∃(es:Array DictEntry) (n:Nat),K.lookup d=some ⟨.type "dict", none,.dict es n,#[]⟩/\W.KeysLit P es.toList
 sy:(d == sysModules)=false
def zKS (d:Addr):R2:=λ x y H Q=>E2 λ(z:Str) (r:Option Value)=>A4 (x = .str z) (y = .ref d) (W.nsIn X.K d z=some r) (Q (.bl (!r.isSome)) H)
theorem zFD {d:Addr}(k:KDic X.K X.w.params d):OpR X (compareOp .NotIn) (zKS (X:=X) d):=by
 intro jP s σ H x y v u Q I rx ry h;obtain⟨z,r,rfl,rfl,e,q⟩:=h;obtain⟨t,rfl⟩:=rx;cases ry;obtain⟨es,n,hl,hk⟩:=k.ex;have hm:=W.mapOf_K (prog:=X.prog) (w:=X.w) I.kIn hl hk;refine wpAny_notIn_of (strKind_is X.prog X.w z t) k.sy hm ?_;rw[W.find_K hl e];exact⟨.bl (!r.isSome),H,I.tok _,rfl,q⟩
def rIxK (d:Addr):R2:=λ x y H Q=>E3 λ(z:Str) (r:Value) (v:V)=>A5 (x = .ref d) (y = .str z) (W.nsIn X.K d z=some (some r)) (RelV v r) (Q v H)
theorem ix_kd {d:Addr}(k:KDic X.K X.w.params d):IxR X (rIxK (X:=X) d):=by
 intro value slice jP s σ H x y v u Q I rx ry h hs;obtain⟨z,r,vv,rfl,rfl,e,rv,q⟩:=h;cases rx;obtain⟨t,rfl⟩:=ry;obtain⟨es,n,hl,hk⟩:=k.ex;have hm:=W.mapOf_K (prog:=X.prog) (w:=X.w) I.kIn hl hk;exact tail_any hm.typeIs slot_dict_getitem.lookup (wpAny_getItem_of (strKind_is X.prog X.w z t) hm (W.find_K hl e) ⟨vv,H,I.tok _,rv,q⟩) hs
theorem zIb:CallR X (.builtin "isinstance") (λ xs H Q=>E4 λ(a:Addr) (kvs:List (Key × V)) (T:String) (b:Bool)=>A4 (xs=[.ref a,.ty T]) (Rd H a 84) (W.kitOne X.K (.type "dict") (.type T)=some b) (Q (.bl b) H)):=by
 intro jP s σ H xs us Q I r h;obtain⟨a,kvs,T,b,rfl,e,hk,q⟩:=h;obtain⟨u,w',rfl,ru,rw'⟩:=vals2 r;cases ru;cases rw';obtain⟨_,_,vs,_,o,es,ep,h1,h2,_⟩:=dk_rd I.hok e;exact W.kia_one W.kitx_dict I.kIn ⟨o,h1,h2.1⟩ hk (λ z=>nomatch z) λ tk=>⟨.bl b,H,I.tok tk,rfl,q⟩
theorem zCj {prog:Program}{w:World}{A:Around}{E:XQ}{s:Shared}{t sl:Addr}{items:Array Value}{vl vu:Value}{lo hi:Option Int}{Q:XQ}(ht:IsTup s.heap t items) (hs:s.heap.IsSliceOf sl vl vu .none) (pl:IsPart vl lo) (pu:IsPart vu hi)
  (hw:HT.sIx items.size 0 lo=0/\HT.sIx items.size items.size hi=items.size) (h:Q (.ref t) s):wpAny 45 A (getItem (.ref t) (.ref sl)) Q E s:=by
 obtain⟨os,hos,hcs,hds⟩:=id hs;have hTs:s.TypeIs (.ref sl) "slice" := ⟨os,hos,hcs⟩;unfold getItem
 try with_reducible refine lD ?_
 first|refine lA (lB ?_)|skip
 refine lA (wpAny_sequenceKey ht.typeIs 46 ?_)
 refine lA (wpAny_callSpecial?_slot (name:=Str.ofString "__getitem__") ht.typeIs PyProof.Rows.slot_tuple_getitem
  (wpAny_call_entry PyProof.Rows.slot_tuple_getitem ht.typeIs entry_tuple_getitem ?_ (args_tuple_getitem _ _)))
 show wpAny _ _ (Builtin.Tuple.tupleItemsOf (.ref t) >>= _) _ _ s;refine lA (tupleItemsOf_ ht ?_);refine lA (wpAny_typeOf hTs ?_);rw[if_pos 46];refine lA (HT.sliceApplied_gen hs pl pu ?_)
 have hyes:(((HT.sIx items.size 0 lo:Nat):Int) == 0 && (1:Int) == 1 && (HT.sIx items.size items.size hi - HT.sIx items.size 0 lo) == items.size)=true:=by
  rw[hw.1,hw.2];simp
 show wpAny _ _ (if (((HT.sIx items.size 0 lo:Nat):Int) == 0 && (1:Int) == 1 && (HT.sIx items.size items.size hi - HT.sIx items.size 0 lo) == items.size)=true then _ else _) _ _ s;rw[if_pos hyes];refine lA ?_;unfold Builtin.Tuple.tupleIsExact;refine lA (wpAny_typeOf ht.typeIs (lB ?_));rw[if_pos 46]
 first
  |exact lA (wpAny_rule (lA (lB (lB ⟨_,rfl,lB h⟩))))
  |exact lA (wpAny_rule (lB ⟨_,rfl,lB h⟩))
  |exact lA (wpAny_rule (lA (lB ⟨_,rfl,lB h⟩)))
def rSlW:V->Option Int->Option Int->Hp->VK->Prop:=λ x lo hi H Q=>E2 λ a xs=>A3 (x = .ref a) (H a=some (.tup xs)) (∀p H',Same H H'->H' p=some (.tup (cutV xs lo hi))->Q (.ref p) H')
theorem zHL:SlR X rSlW:=by
 intro jP s σ H x v vl vu lo hi sl Q I rx hs pl pu h;obtain⟨a,xs,rfl,ha,q⟩:=h
 by_cases hw:HT.sIx xs.length 0 lo=0/\HT.sIx xs.length xs.length hi=xs.length
 ·cases rx
  obtain⟨its,r,ht,hz⟩:=I.tuple (SqT.of ha);have hlen:its.toArray.size=xs.length:=by rw[mD];exact r.length.symm
  refine⟨"tuple", _,PyProof.Rows.slot_tuple_getitem.lookup,ht.typeIs,?_⟩;refine zCj ht hs pl pu (by rw[hlen];exact hw) ⟨.ref a,H,I,rfl,q a H (.refl H) ?_⟩;rw[ha];unfold cutV;rw[hw.1,hw.2];simp
 ·exact zE5 jP s σ H (.ref a) v vl vu lo hi sl Q I rx hs pl pu ⟨a,xs,rfl,SqT.of ha,hw,λ p hp=>q p _ (zAD hp) zAC⟩
end
structure Sd (p:Prop):Prop where
 un:p
section
variable {X:Cx}{st:Stmt}{rest:List Stmt}{t u:TS}{e a b:Expr}{es:List Expr}{te ta tb:TE}{tA:TA}{pos:Pos}
theorem zAK (h1:Sd (PS X st t)) (h2:Sd (PSs X rest u)):Sd (PSs X (st::rest) (tSeq t u)):=⟨zAF h1.un h2.un⟩
theorem zAt (h1:Sd (PS X st t)):Sd (PSs X [st] t):=⟨zAH h1.un⟩
theorem zB1 {c:Expr}{x y:List Stmt}{tc:TT}(hc:Sd (PT X c tc)) (ha:Sd (PSs X x t)) (hb:Sd (PSs X y u)):Sd (PS X (.If c x y pos) (tIfS tc t u)):=⟨ps_if hc.un ha.un hb.un⟩
theorem zBK (he:Sd (PE X e te)):Sd (PS X (.Return (some e) pos) (tRet te)):=⟨zAs he.un⟩
theorem zKX {i:Nat}{x:Str}{pos':Pos}(hN:X.N.Nodup) (hi:X.N[i]?=some x) (hx:Loc X.env.scope x) (he:Sd (PE X e te)) (hs:swapsWith e (some (.Name x pos')) pos.line X.env=pure false:=by rfl) (hf:X.fn x=true\/X.env.scope.names.lookup x=some .local:=by first|exact .inl rfl|exact .inr rfl|assumption) :
  Sd (PS X (.Assign [.Name x pos'] e pos) (tAsg te (gName i))):=⟨zE6 hN hi hx he.un hs hf⟩
theorem pSS {i:Nat}{x:Str}{pos':Pos}(hN:X.N.Nodup)(he:Sd (PE X e te))(hi:X.N[i]?=some x:=by rfl)(hx:Loc X.env.scope x:=by exact Or.inl rfl)(hs:swapsWith e (some (.Name x pos')) pos.line X.env=pure false:=by rfl)(hf:X.fn x=true\/X.env.scope.names.lookup x=some .local:=by first|exact .inl rfl|exact .inr rfl|assumption):Sd (PS X (.Assign [.Name x pos'] e pos) (tAsg te (gName i))):=zKX hN hi hx he hs hf
theorem zAh {k:Nat}(h:Sd (PA X es tA)):Sd (PE X (.Tuple es k pos) (tTup tA)):=⟨zAc h.un⟩
theorem zBO (h:Sd (PA X es tA)):Sd (PE X (.List es pos) (tLst tA)):=⟨zBv h.un⟩
theorem zAU (ha:Sd (PE X e te)) (hr:Sd (PA X es tA)) (hs:starEach (e::es) X.env=(false,eval e X.env)::starEach es X.env:=by rfl):Sd (PA X (e::es) (tCons te tA)):=⟨zAA ha.un hr.un hs⟩
theorem zCw {r:R2}(hr:IxR X r) (ha:Sd (PE X a ta)) (hb:Sd (PE X b tb)) (hs:zIi b):Sd (PE X (.Subscript a b pos) (tOp r ta tb)):=⟨pe_ix hr ha.un hb.un hs⟩
end
theorem zLb {X:Cx}:OpR X (compareOp .Is) (λ x y H Q=>∃b,A3 (x = .bl b) (y = .bl true) (Q (.bl b) H)):=by
 intro jP s σ H x y v u Q I rx ry h;obtain⟨b,rfl,rfl,q⟩:=h;cases rx;cases ry;cases b
 ·exact lB ⟨.bl false,H,I,rfl,q⟩
 ·exact lB ⟨.bl true,H,I,rfl,q⟩
section
variable {X:Cx}
open Classical in
noncomputable def eqW (H:Hp) (dx:Dt) (w:Value):Bool:=decide (∃x d,RelV x w/\DR H d x/\Dt.beq d dx=true)
end
end L2
namespace PySem
open Sem (wp)
namespace F
theorem dul_entry:entryFor table "dict.update.loop" = some Builtin.«dict.update.loop»:=entryFor_of_tree (by kernel_rfl)
theorem dul_plain:plainId "dict.update.loop" = true:=by symm
theorem tuple_no_keys:typeLookup (.type "tuple") "keys" = pure none:=am_miss_of_fast (by symm)
end F
theorem zC3 {prog:Program}{w:World}{A:Around}{E:XQ}{s:Shared}{a:Addr}{o:Obj}{xs:Array Value}{k:Nat}{name:Str}{Q:Option Value->Shared->Prop}
  (hx:s.heap.get? a=some o) (hc:o.cls = .type "tuple") (hdat:o.data = .seq xs k) (hd:o.dict=none) (hmiss:typeLookup (.type "tuple") name=pure none)
  (hname:(["__module__", "__name__", "__qualname__", "__doc__", "__annotations__"]:List Str).contains name=false) (hA:A.handled=none) (hsz:name.length+100<=sizeLine)
  (h:∀h' tk,(∀b ob,s.heap.get? b=some ob->h'.get? b=some ob)->Q none { s with heap:=h',toks:=tk }):wpAny 45 A (getAttr? (.ref a) name) Q E s:=by
 obtain⟨c,dct,dat,sl⟩:=o;simp only at hc hdat hd;subst hc hdat hd;obtain⟨hp,g,d,tk,os⟩:=s;have hT:∀tk',(⟨hp,g,d,tk',os⟩:Shared).TypeIs (.ref a) "tuple" := λ Ω=>⟨_,hx,rfl⟩;have f1:=sub_AttributeError;have f3:=F.slot_tuple_getattribute.lookup;have f4:=F.slot_tuple_getattribute.bind (.ref a);have f5:=am_tuple_getattr_none;unfold getAttr? getAttrBy? getAttrBy
 repeat (any_goals (first|assumption|exact hT _|((with_reducible show wpAny _ _ (call (Value.builtin "tuple.__getattribute__") _ _) _ _ _);refine call_meets F.slot_tuple_getattribute (hT _) am_entry_tuple_getattribute (F.args_tuple_getattribute_2 _ _) (meets_getattribute_miss_tuple a xs k sl name _ hmiss hname hsz) ⟨hx,hA,λ h' tk' e hx'=>?_⟩)|wp_step))
 obtain⟨t',u',he⟩:=hx'.there;show wpAny _ _ (getattributeRaised _ _ _ _ _ _ _) _ _ _;unfold getattributeRaised
 repeat (any_goals (first|assumption|wp_step))
 all_goals first
  |exact h _ _ hx'.keeps
  |skip
section
variable {prog:Program}{w:World}{K:Type} [DecidableEq K] {knd:KeyKind prog w K}{A:Around}{R:Result->Shared->Prop}{E:XQ}
def zF0 (knd:KeyKind prog w K) (h:Heap) (its:List Value) (prs:List (K × Value)):Prop :=
 its.length=prs.length/\∀(i:Nat) (x:Value),its[i]?=some x->∃(pa:Addr) (key:Value) (kv:K × Value),x=Value.ref pa/\prs[i]?=some kv/\h.IsTuple pa #[key,kv.2]/\knd.is kv.1 key=true
theorem Heap.IsTuple.kept {h h':Heap}{a:Addr}{xs:Array Value}(x:h.IsTuple a xs) (k:∀b o,h.get? b=some o->h'.get? b=some o):h'.IsTuple a xs :=
 let ⟨o,ho,r⟩:=x;⟨o,k a o ho,r⟩
theorem zJZ {h0:Heap}{d it t:Addr}{items:Array Value}{prs:List (K × Value)}(hA:A.handled=none) (hld:h0.objs.size<=d) (hli:h0.objs.size<=it) (hne:d≠it)
  (ht:h0.IsTuple t items) (hp:zF0 knd h0 items.toList prs) (hsz:prs.length<=sizeLine) :
  ∀(n i:Nat) (s:Shared),items.size - i=n->i<=items.size->(∀b o,h0.get? b=some o->s.heap.get? b=some o)->s.heap.IsTupleIter it t i->s.heap.DictOf knd d (merged [] (prs.take i)) ->
   (∀h' tk,(∀b o,h0.get? b=some o->h'.get? b=some o)->h'.DictOf knd d (merged [] prs)->R (.ok (.ret .none)) { s with heap:=h',toks:=tk }) ->
   codeAny 45 A (.builtin "dict.update.loop" ⟨[.ref d,.ref it,.int (i:Int) 0,.none],[]⟩) R s:=by
 have hlen:items.size=prs.length:=by rw[←hp.1];simp
 intro n
 induction n with
 |zero =>
  intro i s hn hi kp hit hd hR;have e:i=items.size:=by lia
  subst e;refine codeAny_builtin F.dul_entry ?_;rw[Around.under_plainId F.dul_plain _];refine lA (wpAny_pyNext_tuple_end (show A.in1.handled=none from hA) hit (ht.kept kp) 41 λ h' he=>?_);show wpAny _ _ (Builtin.Dict.addKeywords d [] >>= _) _ _ _;refine lA (lB (lB (hR h' s.toks (λ b o hb=>he b o (lS (lZ (lH hb) hli)) (kp b o hb)) ?_)));rw[hlen,mR] at hd;obtain⟨o,es,ep,ho,rest⟩:=hd;exact⟨o,es,ep,he d o hne ho,rest⟩
 |succ n ih =>
  intro i s hn hi kp hit hd hR;have hlt:i<items.size:=by lia
  obtain⟨pa,key,kv,ex,ekv,htp,hkey⟩:=hp.2 i items[i] (by simp[hlt]);refine codeAny_builtin F.dul_entry ?_;rw[Around.under_plainId F.dul_plain _];refine lA (wpAny_pyNext_tuple_item hit (ht.kept kp) (x:=items[i]) (by simp[hlt]) λ h1 hit1 hs1=>?_);have kp1:∀b o,h0.get? b=some o->h1.get? b=some o:=λ b o hb=>hs1.extBut b o (lS (lZ (lH hb) hli)) (kp b o hb);rw[ex];have htp1:=htp.kept kp1;refine lA (lD (lA (wpAny_tryCatch ?_)));unfold Builtin.Dict.pairItems;refine lA (wpAny_typeOf (s:={ s with heap:=h1 }) (v:=.ref pa) (T := "tuple") htp1.typeIs ?_);rw[if_pos 46];obtain⟨o2,ho2,hc2,n2,hd2⟩:=htp1;refine lA (wpAny_seqItems ho2 hd2 (lB ?_))
  have hd1:h1.DictOf knd d (merged [] (prs.take i)):=by
   obtain⟨o,es,ep,ho,rest⟩:=hd;exact⟨o,es,ep,hs1.extBut d o hne ho,rest⟩
  have hml:(merged [] (prs.take i)).length<=sizeLine:=by
   have e1:=merged_length_le ([]:List (K × Value)) (prs.take i);rw[List.length_nil,mQ] at e1
   lia
  show wpAny _ _ (holding [key,kv.2] (dictSet d key kv.2)) _ _ _;refine lD (wpAny_dictSet_pairs (hsz:=hml) hkey hd1 λ h2 hd2 hs2=>?_);refine lB ⟨plainId_quiet F.dul_plain _,?_⟩;refine ih (i+1) _ 31 hlt (λ b o hb=>hs2.extBut b o (lS (lZ (lH hb) hld)) (kp1 b o hb)) (hit1.extBut hs2.extBut (Ne.symm hne)) ?_ λ h' tk k' d'=>hR h' tk k' d';rw[merged_take_succ [] prs i kv ekv];exact hd2
theorem zDv {s:Shared}{t:Addr}{o:Obj}{items:Array Value}{n:Nat}{prs:List (K × Value)}{Q:XQ}(hA:A.handled=none) (hx:s.heap.get? t=some o) (hc:o.cls = .type "tuple") (hdat:o.data = .seq items n) (hdn:o.dict=none)
  (hp:zF0 knd s.heap items.toList prs) (hsz:prs.length<=sizeLine)
  (h:∀h' tk,(∀b o,s.heap.get? b=some o->h'.get? b=some o)->h'.DictOf knd s.heap.objs.size (merged [] prs)->Q (.ref s.heap.objs.size) { s with heap:=h',toks:=tk }) :
  wpAny 45 A (call (.type "dict") [.ref t]) Q E s:=by
 refine callType_codes (Q₁:=λ obj s₁=>obj = .ref s.heap.objs.size/\s₁={ s with heap:=s.heap.push { cls:=.type "dict", data:=.dict #[] } }) F.kt_called_dict (F.kt_typeCall_dict_1 _) F.entry_dict_init (kt_code_dict_new _ ⟨rfl,rfl⟩) ?_;rintro obj s₁ ⟨rfl,rfl⟩;have hnew:(s.heap.push { cls:=.type "dict", data:=.dict #[] }).DictOf knd s.heap.objs.size []:=Heap.DictOf.new s.heap;have kp0:∀b o,s.heap.get? b=some o->(s.heap.push { cls:=.type "dict", data:=.dict #[] }).get? b=some o:=λ b o hb=>lE _ hb;have ht0:s.heap.IsTuple t items:=⟨o,hx,hc,n,hdat⟩;refine⟨hnew.typeIs,F.args_dict_init_2 _ _,?_⟩;unfold Builtin.«dict.__init__»;refine lA ?_;unfold Builtin.Dict.selfAndRest;refine lA (wpAny_notOrdered_dict hnew.typeIs ?_);show wpAny _ _ (pure (s.heap.objs.size,[Value.ref t])) _ _ _;refine lB ?_;show wpAny _ _ (Builtin.Dict.updateFrom "dict.__init__" s.heap.objs.size (.ref t) [] .none) _ _ _;unfold Builtin.Dict.updateFrom;refine lA (wpAny_typeOf (v:=.ref t) (T := "tuple") (ht0.kept kp0).typeIs ?_);rw[if_pos 46];refine lA (zC3 (kp0 _ _ hx) hc hdat hdn F.tuple_no_keys (by symm) hA (by size_fits) λ h1 tk kp1=>?_);rw[if_pos (show (Option.none:Option Value).isNone=true from rfl)];have kp01:∀b o,s.heap.get? b=some o->h1.get? b=some o:=λ b o hb=>kp1 b o (kp0 b o hb);refine lA (wpAny_rule ?_);refine lA (wpAny_pyIter_tuple (ht0.kept kp01) ?_)
 have hd1:h1.DictOf knd s.heap.objs.size []:=by
  obtain⟨o,es,ep,ho,rest⟩:=hnew;exact⟨o,es,ep,kp1 _ _ ho,rest⟩
 have hsd:s.heap.objs.size<h1.objs.size:=let ⟨_,_,_,ho,_⟩:=hd1;lH ho;refine lB ⟨plainId_quiet F.dul_plain _,?_⟩;refine zJZ (h0:=s.heap) (knd:=knd) (A:=A.in1) hA (lR _) (Nat.le_of_lt hsd) (lS hsd) ht0 hp hsz items.size 0 _ 31 (lY _) (λ b o hb=>lE _ (kp01 b o hb)) ⟨_,lG _ rfl,rfl,rfl⟩ (hd1.push _) λ h' tk' k' d'=>?_;exact⟨rfl,h h' tk' k' d'⟩
end
end PySem
namespace L2
open PySem PySem.Spec PyProof.Rows
section
variable {X:Cx}
def PrV (H:Hp) (y:V) (kv:Key × V):Prop:=∃b,y = .ref b/\H b=some (.tup [kV kv.1,kv.2])
set_option tactic.hygienic true in
theorem zJv {P:Program}{w:World}{H:Hp}{h:Heap}(ok:HOk P w H h):∀{ys:List V}{kvs:List 97},Paired (PrV H) ys kvs->∀{its:List Value},Vals ys its->∃prs,zF0 (zAn P w) h its prs/\KV kvs prs
 |_,_,.nil,its,r=>by
  cases r;exact⟨[],⟨rfl,λ i x hx=>by simp at hx⟩,.nil⟩
 |_,_,.cons (b:=kv) hy hr,its,r=>by
  cases r with
  |cons r1 r2 =>
   obtain⟨prs,⟨pl,pp⟩,k⟩:=zJv ok hr r2;obtain⟨b,rfl,hb⟩:=hy;cases r1;obtain⟨_,its2,rv,tp⟩:=(show ObjOk P w H h b (.tup [kV kv.1,kv.2]) from ok b _ hb);cases rv with
   |cons q1 rv=>cases rv with
    |cons q2 rv =>
     cases rv;rename_i key val;refine⟨(kv.1,val)::prs,⟨by simp[pl],λ i x hx=>?_⟩,.cons ⟨rfl,q2⟩ k⟩;cases i with
     |zero =>
      simp at hx;exact⟨b,key,(kv.1,val),hx.symm,rfl,tp,kV_is q1⟩
     |succ i =>
      simp at hx;obtain⟨pa,key',kv',h1,h2,h3,h4⟩:=pp i x hx;exact⟨pa,key',kv',h1,by simpa using h2,h3,h4⟩
def zLR:List V->Hp->VK->Prop:=λ xs H Q=>E4 λ(a:Addr) (o:Obj) (ys:List V) (kvs:List (Key × V))=>A6 (xs=[.ref a]) (H a=some (.frz o (.tup ys))) (o.dict=none) (Paired (PrV H) ys kvs) (kvs.length<=1000) (∀p,H p=none->Q (.ref p) (upd H p (.dK (zBo [] kvs))))
theorem zEL (hc:X.calm=true):CallR X (.type "dict") zLR:=by
 intro jP s σ H xs us Q I r h;obtain⟨a,o,ys,kvs,rfl,ha,hdn,hp,hl,q⟩:=h;obtain⟨u,rfl,ru⟩:=vals1 r;cases ru;obtain⟨hx,hz,its,rv,o',ho',hcl,n,hdat⟩:=(show ObjOk X.prog X.w H s.heap a (.frz o (.tup ys)) from I.hok a _ ha);rw[hx] at ho';cases ho';obtain⟨prs,hpi,k⟩:=zJv I.hok hp rv;have hkl:prs.length<=sizeLine:=by rw[←k.length];exact zA0 hl
 have hm:(zBo [] kvs).length<=sizeLine:=by
  have:=zC0 kvs [];rw[List.length_nil] at this;exact zA0 31
 refine zDv (knd:=zAn X.prog X.w) (I.ok.hd hc) hx hcl hdat hdn (by simpa using hpi) hkl λ h' tk kp d'=>?_;have hn:=I.hok.fresh (lR s.heap.objs.size);refine⟨.ref s.heap.objs.size,_,I.laid (a:=s.heap.objs.size) (o:=.dK (zBo [] kvs)) (t':=tk) kp (lR _) (zIL hm (beq_eq_false_iff_ne.mpr (Ne.symm (lS I.big))) (k.merge .nil) d'),rfl,q _ hn⟩
end
theorem zGy {o:Obj}{a:Addr}{kvs:List 97}{acc:Addr}{g:TG}{tt:TT}{te:TE}{σ:L2.St}{H:Hp}{R:Hp->Prop}(Pv:Nat->Hp->Prop) (h0:Pv 0 (upd H acc (.lst []))) (hl:∀i H,i<=kvs.length->Pv i H->H a=some (.frz o 84))
  (hs:∀i p H,kvs[i]?=some p->Pv i H->g (kV p.1) σ H λ σ2 H4=>Ext σ σ2/\tt σ2 H4 λ b H5 =>
   if b=true then te σ2 H5 λ y H6=>∃zs,H6 acc=some (.lst zs)/\zs.length<sizeLine/\Pv (i+1) (upd H6 acc (.lst (zs++[y]))) else Pv (i+1) H5) (hd:∀H,Pv kvs.length H->R H) :
  ∃W:Nat->Nat->Hp->Prop,(∃m,W 0 m (upd H acc (.lst [])))/\∀i m H2,W i m H2 ->
   ((Itd o a kvs).stop i H2/\R H2)\/((Itd o a kvs).go i H2/\∃N:Hp->Prop,(∀H',N H'->∃m',m'<m/\W (i+1) m' H')/\∀x H3,(Itd o a kvs).yld i H2 x H3->g x σ H3 λ σ2 H4=>Ext σ σ2/\tt σ2 H4 λ b H5 =>
    if b=true then te σ2 H5 λ y H6=>∃zs,H6 acc=some (.lst zs)/\zs.length<sizeLine/\N (upd H6 acc (.lst (zs++[y])))
    else N H5):=by
 refine⟨λ i m H=>m=kvs.length - i/\i<=kvs.length/\Pv i H,⟨kvs.length,by simp,lY _,h0⟩,?_⟩;rintro i m H2 ⟨rfl,hi,p⟩;have q:=hl i H2 hi p
 by_cases hlt:i<kvs.length
 ·refine .inr ⟨⟨q,hlt⟩,Pv (i+1),λ H' p'=>⟨kvs.length - (i+1),by lia,rfl,hlt,p'⟩,λ x H' y=>?_⟩
  obtain⟨e,p',hp',ex⟩:=y;subst e ex;exact hs i p' _ hp' p
 ·have e:i=kvs.length:=by lia
  subst e;exact .inl ⟨⟨q,lR _⟩,hd H2 p⟩
theorem zD7:∀(more kvs:List 97) (k:Key),valV (zBo kvs more) k=match valV more.reverse k with|some v=>some v|none=>valV kvs k
 |[],kvs,k=>rfl
 |p::more,kvs,k=>by
  show valV (zBo (putK kvs p.1 p.2) more) k=_;rw[zD7 more,zDM,List.reverse_cons];unfold valV;rw[List.find?_append];cases e:List.find? (λ kv:Key × V=>decide (kv.1=k)) more.reverse with
  |some z=>simp
  |none =>
   by_cases h:k=p.1
   ·simp[h]
   ·have h':¬p.1=k:=λ z=>h z.symm
    simp[h,h']
open PySem.W
section
variable {n:Nat}{r:Nat->Nat->Bool}
abbrev lt (r:Nat->Nat->Bool) (p:Array Nat) (i j:Nat):Bool:=r (p.getD i 0) (p.getD j 0)
end
noncomputable def lexB:List Int->List Int->Bool
 |_,[]=>false
 |[],_::_=>true
 |a::as,b::bs=>if a=b then lexB as bs else decide (a<b)
theorem zFJ:∀as:List Int,lexB as as=false
 |[]=>rfl
 |a::as=>by rw[lexB,if_pos rfl];exact zFJ as
theorem zDT:∀{as bs:List Int},as≠bs->lexB as bs=false->lexB bs as=true
 |[],[],h,_=>absurd rfl h
 |[],_::_,_,h=>by cases h
 |_::_,[],_,_=>rfl
 |a::as,b::bs,h,k=>by
  rw[lexB] at k ⊢
  by_cases e:a=b
  ·subst e
   rw[if_pos rfl] at k ⊢;exact zDT (λ z=>h (by rw[z])) k
  ·rw[if_neg e] at k
   rw[if_neg (Ne.symm e)];have:=of_decide_eq_false k;exact lU 31
theorem zDl:∀{as bs:List Int},lexB as bs=true->lexB bs as=false
 |[],[],h=>by cases h
 |[],_::_,_=>rfl
 |_::_,[],h=>by cases h
 |a::as,b::bs,k=>by
  rw[lexB] at k ⊢
  by_cases e:a=b
  ·subst e
   rw[if_pos rfl] at k ⊢;exact zDl k
  ·rw[if_neg e] at k
   rw[if_neg (Ne.symm e)];have:=lT k;exact decide_eq_false 31
theorem zEH:∀{as bs cs:List Int},lexB as bs=true->lexB bs cs=true->lexB as cs=true
 |_,_,[],_,h=>by cases ‹List Int›<;>cases h
 |[],_,_::_,_,_=>rfl
 |_::_,[],_::_,h,_=>by cases h
 |a::as,b::bs,c::cs,h,k=>by
  rw[lexB] at h k ⊢
  by_cases e1:a=b
  ·subst e1
   rw[if_pos rfl] at h
   by_cases e2:a=c
   ·subst e2
    rw[if_pos rfl] at k ⊢;exact zEH h k
   ·rw[if_neg e2] at k ⊢
    exact k
  ·rw[if_neg e1] at h
   have h':=lT h
   by_cases e2:b=c
   ·subst e2
    rw[if_neg e1];exact h
   ·rw[if_neg e2] at k
    have k':=lT k;rw[if_neg 31];exact lU 31
end L2
namespace PySem
open PySem.Calls PyProof.Rows PySem.W L2
open AutoSeq1 (wpAny_loadPart')
theorem zEo {vs:List Value}{ns:List Int}(h:IntsAre vs ns):vs.length=ns.length:=by
 induction h with
 |nil=>rfl
 |cons n t _ ih=>simp[ih]
theorem zJO {ns ms:List Int}{i:Nat}(h:i=min ns.length ms.length):lexB (ns.drop i) (ms.drop i)=decide (ns.length<ms.length):=by
 by_cases c:ns.length<ms.length
 ·have e1:ns.drop i=[]:=List.drop_of_length_le 31
  have e2:i<ms.length:=by lia
  rw[e1,List.drop_eq_getElem_cons e2,decide_eq_true c];rfl
 ·have e1:ms.drop i=[]:=List.drop_of_length_le 31
  rw[e1,decide_eq_false c];cases ns.drop i<;>rfl
theorem zGg (l b:Addr) (items items2:Array Value) (n n2:Nat) (dd dd2:Option Addr) (sl sl2:Array (Option Value)) (ns ms:List Int) (hi1:IntsAre items.toList ns) (hi2:IntsAre items2.toList ms) :
  Meets (Builtin.«tuple.__lt__» ⟨[.ref l,.ref b],[]⟩)
   (λ A R s=>s.heap.get? l=some { cls:=.type "tuple", dict:=dd,data:=.seq items n,slots:=sl }/\s.heap.get? b=some { cls:=.type "tuple", dict:=dd2,data:=.seq items2 n2,slots:=sl2 } /\
    R (.ok (.ret (.bool (lexB ns ms)))) s) :=
 .of_wp λ prog w A R s h=>by
  obtain⟨hp,g,d,tk,os⟩:=s;obtain⟨hl,hb,h⟩:=h;have f2:=AutoSeq1.sub_tuple_tuple;have l1:items.size=ns.length:=by have:=zEo hi1;simpa using this
  have l2:items2.size=ms.length:=by have:=zEo hi2;simpa using this
  have hZ:(items.toList.zip items2.toList).length=min items.size items2.size:=by simp
  wp_walk using wpAny_loadPart' hl,wpAny_loadPart' hb,wpAny_forIn_list _ (λ rest b s'=>b.1=none/\s'=⟨hp,g,d,tk,os⟩/\∃i,rest=(items.toList.zip items2.toList).drop i/\i<=min items.size items2.size /\
   R (.ok (.ret (.bool (lexB (ns.drop i) (ms.drop i))))) ⟨hp,g,d,tk,os⟩) _
  case turn =>
   rintro⟨y,x⟩ rest b s' ⟨hb',rfl,i,hz,him,hR⟩
   have hlt:i<(items.toList.zip items2.toList).length:=by
    rcases Nat.lt_or_ge i (items.toList.zip items2.toList).length with h'|h'
    ·exact h'
    ·rw[List.drop_of_length_le h'] at hz;cases hz
   have hm:i<min items.size items2.size:=hZ▸hlt;have h1:i<items.size:=lZ hm (Nat.min_le_left _ _);have h2:i<items2.size:=lZ hm (Nat.min_le_right _ _);rw[List.drop_eq_getElem_cons hlt] at hz;injection hz with hyx hrest
   have hy:y=items[i]:=by have:=congrArg Prod.fst hyx;simpa using this
   have hx:x=items2[i]:=by have:=congrArg Prod.snd hyx;simpa using this
   subst hy hx;obtain⟨t1,e1⟩:=hi1.int_at i items[i] (by simp[h1]);obtain⟨t2,e2⟩:=hi2.int_at i items2[i] (by simp[h2]);rw[e1,e2]
   have d1:ns.drop i=ns.getD i 0::ns.drop (i+1):=by
    rw[List.drop_eq_getElem_cons 31];congr 1;simp[show i<ns.length by lia]
   have d2:ms.drop i=ms.getD i 0::ms.drop (i+1):=by
    rw[List.drop_eq_getElem_cons 31];congr 1;simp[show i<ms.length by lia]
   rw[d1,d2,lexB] at hR;refine lA (SeqAt.EqAt.int_int _ t1 _ t2 prog w _ _ ?_);cases hy:(ns.getD i 0 == ms.getD i 0) with
   |true =>
    rw[if_pos (by simpa using hy)] at hR
    wp_walk
    exact⟨rfl,rfl,i+1,hrest,by lia,hR⟩
   |false =>
    rw[if_neg (by simpa using hy)] at hR;rw[if_pos 39];refine lA (wpAny_rule (lA (PyProof.Rows.lt_int ?_)))
    wp_walk
    exact⟨_,rfl,hR⟩
  case fin =>
   rintro⟨b1,b2⟩ s' ⟨hb',rfl,i,hz,him,hR⟩;simp only at hb';subst hb'
   have hge:min items.size items2.size<=i:=by
    rcases Nat.lt_or_ge i (items.toList.zip items2.toList).length with h'|h'
    ·rw[List.drop_eq_getElem_cons h'] at hz;cases hz
    ·exact hZ▸h'
   rw[zJO 31] at hR
   wp_walk
   exact⟨_,rfl,by simpa[Builtin.Tuple.tupleCompareSizes,l1,l2] using hR⟩
  case h =>
   exact⟨rfl,rfl,0,rfl,lY _,by simpa using h⟩
section
variable {prog:Program}{w:World}{A:Around}{E:XQ}{s:Shared}
theorem zIy {l b:Addr}{items items2:Array Value}{ns ms:List Int}{Q:XQ}(hl:s.heap.IsTuple l items) (hb:s.heap.IsTuple b items2) (h1:IntsAre items.toList ns) (h2:IntsAre items2.toList ms) (hu:A.units<cLine)
  (h:Q (.bool (lexB ns ms)) s):wpAny 45 A (compareOp .Lt (.ref l) (.ref b)) Q E s:=by
 obtain⟨⟨cls,dd,data,sl⟩,ho,hc,n,hd⟩:=id hl;obtain⟨⟨cls2,dd2,data2,sl2⟩,ho2,hc2,n2,hd2⟩:=id hb;simp only at hc hd hc2 hd2;subst hc hd hc2 hd2
 exact richCompare_meets_room (op:=.Lt) ⟨_,ho,rfl⟩ ⟨_,ho2,rfl⟩ F.slot_tuple_lt F.entry_tuple_lt (F.args_tuple_lt_2 _ _) (zGg l b items items2 n n2 dd dd2 sl sl2 ns ms h1 h2)
  ⟨ho,ho2,show Value.bool (lexB ns ms)≠Value.notImplemented/\Q (.bool (lexB ns ms)) s from⟨(λ x=>nomatch x),h⟩⟩ hu
theorem zJg:∀{ns ms:List Int},((List.range (min ns.length ms.length)).all (λ j=>ns.getD j 0 == ms.getD j 0) && ns.length == ms.length)=true->ns=ms:=by
 intro ns ms h;rw[Bool.and_eq_true,List.all_eq_true] at h;have hl:ns.length=ms.length:=by simpa using h.2
 refine List.ext_getElem hl λ i h1 h2=>?_;have:=h.1 i (List.mem_range.mpr 31);simpa[h1,h2] using this
theorem zIx {l b:Addr}{items items2:Array Value}{ns ms:List Int}(hl:s.heap.IsTuple l items) (hb:s.heap.IsTuple b items2) (h1:IntsAre items.toList ns) (h2:IntsAre items2.toList ms) (hu:A.units<cLine) (hne:ns≠ms):SeqAt.EqAt A s (.ref l) (.ref b) false:=by
 have e1:items.size=ns.length:=by have:=zEo h1;simpa using this
 have e2:items2.size=ms.length:=by have:=zEo h2;simpa using this
 have hne':l≠b:=λ z=>by
  subst z;obtain⟨o,ho,hc,n,hd⟩:=hl;obtain⟨o',ho',hc',n',hd'⟩:=hb;rw[ho] at ho';cases ho';rw[hd] at hd';cases hd';refine hne ?_;have:=h1.nums;rw[h2.nums] at this;exact this.symm
 have key:=SeqAt.RcAt.tuples (A:=A) (e:=λ j=>ns.getD j 0 == ms.getD j 0) hl hb hu λ j j1 j2=>by
  obtain⟨t1,q1⟩:=h1.int_at j items[j] (by simp[j1]);obtain⟨t2,q2⟩:=h2.int_at j items2[j] (by simp[j2]);rw[q1,q2];exact SeqAt.EqAt.int_int _ _ _ _
 rw[e1,e2] at key
 have:((List.range (min ns.length ms.length)).all (λ j=>ns.getD j 0 == ms.getD j 0) && ns.length == ms.length)=false:=by
  cases h:((List.range (min ns.length ms.length)).all (λ j=>ns.getD j 0 == ms.getD j 0) && ns.length == ms.length) with
  |false=>rfl
  |true=>exact absurd (zJg h) hne
 rw[this] at key;exact SeqAt.EqAt.of_refs hne' key
def PlcAt (h:Heap) (v:Value) (ns:List Int):Prop:=∃(a c:Addr) (u:Value) (its:Array Value),v = .ref a/\h.IsTuple a #[.ref c,u]/\h.IsTuple c its/\IntsAre its.toList ns
theorem PlcAt.kept {h h':Heap}{v:Value}{ns:List Int}(k:∀b o,o.cls = .type "tuple" -> h.get? b=some o->h'.get? b=some o):PlcAt h v ns->PlcAt h' v ns
 |⟨a,c,u,its,e,⟨o,ho,hc,r⟩,⟨o',ho',hc',r'⟩,i⟩=>⟨a,c,u,its,e,⟨o,k _ _ hc ho,hc,r⟩,⟨o',k _ _ hc' ho',hc',r'⟩,i⟩
theorem zE8 {h h':Heap}(k:∀b o,o.cls = .type "tuple" -> h.get? b=some o->h'.get? b=some o){vs:List Value}{ps:List (List Int)}(z:Paired (PlcAt h) vs ps):Paired (PlcAt h') vs ps:=by
 induction z with
 |nil=>exact .nil
 |cons r q ih=>exact .cons (r.kept k) ih
theorem zHc {h:Heap}{vs:List Value}{ps:List (List Int)}(z:Paired (PlcAt h) vs ps):∀{i:Nat},i<vs.length->PlcAt h (vs.getD i Value.none) (ps.getD i []):=by
 induction z with
 |nil=>exact λ h=>absurd h (Nat.not_lt_zero _)
 |cons r q ih =>
  intro i hi;cases i with
  |zero=>exact r
  |succ i=>have:=ih (i:=i) (by simpa using hi);simpa using this
theorem zLU {x y:Value}{ns ms:List Int}{Q:Bool->Shared->Prop}(hx:PlcAt s.heap x ns) (hy:PlcAt s.heap y ms) (hne:ns≠ms) (hu:A.units<cLine) (h:Q (lexB ns ms) s):wpAny 45 A (keyLt' (tuples' false) x y) Q E s:=by
 obtain⟨a,c,u,its,rfl,⟨o,ho,hc,n,hd⟩,hp,hi⟩:=hx;obtain⟨a',c',u',its',rfl,⟨o',ho',hc',n',hd'⟩,hp',hi'⟩:=hy;refine kat_lt ho hd ho' hd' ?_;show KatLex prog w A false _ Q [(.ref c,.ref c'),(u,u')] 0 s;refine kat_cons (zIx hp hp' hi hi' hu hne prog w _ _ (kat_no ?_));refine kat_one _ _ (zIy hp hp' hi hi' hu ?_);exact h
theorem zGK:∀{vs:List Value}{ps:List (List Int)}{h:Heap},Paired (PlcAt h) vs ps->∃fs,KatTups h vs fs/\fs.length=vs.length/\∀v∈fs,Looks 45 h (typeOf v) (.type "tuple")
 |_,_,_,.nil=>⟨[],trivial,rfl,λ v hv=>nomatch hv⟩
 |_,_,h,.cons r q=>by
  obtain⟨fs,h1,h2,h3⟩:=zGK q;obtain⟨a,c,u,its,rfl,⟨o,ho,hc,n,hd⟩,⟨o',ho',hc',r'⟩,hi⟩:=r;refine⟨.ref c::fs,KatTups.cons ho hc hd rfl h1,by simp[h2],λ v hv=>?_⟩;rcases lN.mp hv with rfl|hv
  ·have:=(show Looks 45 h (typeOf (.ref c)) o'.cls from(Looks.ld ho').andThen .now)
   rw[hc'] at this;exact this
  ·exact h3 v hv
theorem zIp:∀{vs:List Value},vs.length<2->(vs.toArray.zip vs.toArray).map (·.2)=List.toArray ((List.toArray (List.range vs.length)).toList.map λ i=>vs.getD i Value.none)
 |[],_=>by simp
 |[x],_=>by simp[List.range_succ]
 |_::_::_,h=>by simp at h;lia
end
end PySem
namespace L2
open PySem PySem.Spec PyProof.Rows PySem.W
def PlV (H:Hp) (p:List Int × V) (v:V):Prop:=∃(b c:Addr),v = .ref b/\H b=some (.tup [.ref c,p.2])/\H c=some (.tup (p.1.map V.int))
theorem PlV.mono {H H':Hp}(k:Tk H H') {p:List Int × V}{v:V}:PlV H p v->PlV H' p v
 |⟨b,c,e,h1,h2⟩=>⟨b,c,e,k _ _ h1,k _ _ h2⟩
theorem zH9:∀{ns:List Int}{us:List Value},Vals (ns.map V.int) us->IntsAre us ns
 |[],_,h=>by
  cases h;exact .nil
 |n::ns,_,h=>by
  rw[mL] at h;cases h with
  |cons r q =>
   obtain⟨t,rfl⟩:=r;exact .cons n t (zH9 q)
theorem zGL {P:Program}{w:World}{H:Hp}{h:Heap}(ok:HOk P w H h) {p:List Int × V}{v:V}{u:Value}(hp:PlV H p v) (r:RelV v u):PlcAt h u p.1:=by
 obtain⟨b,c,rfl,h1,h2⟩:=hp;cases r;obtain⟨_,its,rv,tp⟩:=(show ObjOk P w H h b (.tup [.ref c,p.2]) from ok b _ h1);obtain⟨_,its2,rv2,tp2⟩:=(show ObjOk P w H h c (.tup (p.1.map V.int)) from ok c _ h2);cases rv with
 |cons q1 rv=>cases rv with
  |cons q2 rv =>
   cases rv;cases q1;exact⟨b,c,_,its2.toArray,rfl,tp,tp2,by simpa using zH9 rv2⟩
theorem zHb {P:Program}{w:World}{H:Hp}{h:Heap}(ok:HOk P w H h){ps:List (List Int × V)}{vs:List V}{us:List Value}(z:Paired (PlV H) ps vs):Vals vs us->Paired (PlcAt h) us (ps.map (·.1)):=by
 induction z generalizing us with
 |nil=>intro r;cases r;exact .nil
 |cons hp q ih =>
  intro r;cases r with
  |cons r1 r2=>exact .cons (zGL ok hp r1) (ih r2)
end L2
namespace PySem
open AutoSeq1
end PySem
namespace L2
open PySem PySem.Spec PyProof.Rows
section
variable {X:Cx}
def tTupF (t:TA):TE:=λ σ H Q=>t σ H λ xs H1=>xs.length<=sizeLine/\∀(p:Addr) (o:Obj),H1 p=none->o.dict=none->Q (.ref p) (upd H1 p (.frz o (.tup xs)))
theorem zEe {es:List Expr}{t:TA}{x1} {pos:Pos}(h:PA X es t):PE X (.Tuple es x1 pos) (tTupF t):=by
 intro jP s σ H Q I hq;refine wpAny_Tuple_spliced (thn (h pos jP s σ H _ I hq) λ us s1 ⟨xs,H1,I1,r,z,q⟩=>⟨by rw[←r.length];exact z,?_⟩);have hf:H1 s1.heap.objs.size=none:=I1.hok.fresh (lR _);refine⟨.ref s1.heap.objs.size,_,I1.laid (o:=.frz { cls:=.type "tuple", data:=.seq us.toArray } (.tup xs)) (t':=s1.toks) (λ b u e=>lE _ e) (lR _) ?_,rfl,q _ _ hf rfl⟩;exact⟨lG _ rfl,z,us,r,⟨_,lG _ rfl,rfl,_,rfl⟩⟩
end
open PySem.W
instance:DecidableEq Dt:=λ d e=>decidable_of_iff (Dt.beq d e=true) Dt.beq_iff
theorem zKz (d e:Dt):Dt.beq d e=decide (d=e):=by
 by_cases h:d=e
 ·rw[decide_eq_true h];exact Dt.beq_iff.mpr h
 ·rw[decide_eq_false h]
  cases z:Dt.beq d e with
  |false=>rfl
  |true=>exact absurd (Dt.beq_iff.mp z) h
mutual
inductive DA (h:Heap):Dt->Value->Prop
 |int (i:Int) (t:Tok):DA h (.int i) (.int i t)
 |str (x:Str) (t:Tok):DA h (.str x) (.str x t)
 |tup {a:Addr}{items:Array Value}{ds:List Dt}:h.IsTuple a items->DAs h ds items.toList->DA h (.tup ds) (.ref a)
inductive DAs (h:Heap):List Dt->List Value->Prop
 |nil:DAs h [] []
 |cons {d:Dt}{u:Value}{ds:List Dt}{us:List Value}:DA h d u->DAs h ds us->DAs h (d::ds) (u::us)
end
theorem zC1 {h:Heap}{a:Addr}{x y:Array Value}(hx:h.IsTuple a x) (hy:h.IsTuple a y):x=y:=by
 obtain⟨o,ho,_,n,hd⟩:=hx;obtain⟨o',ho',_,n',hd'⟩:=hy;rw[ho] at ho';cases ho';rw[hd] at hd';cases hd';rfl
mutual
theorem DA.inj {h:Heap}:∀{d e:Dt}{u:Value},DA h d u->DA h e u->d=e
 |_,_,_,.int _ _,.int _ _=>rfl
 |_,_,_,.str _ _,.str _ _=>rfl
 |_,_,_,.tup h1 r1,.tup h2 r2=>by
  have:=zC1 h1 h2;subst this;rw[DAs.inj r1 r2]
theorem DAs.inj {h:Heap}:∀{d e:List Dt}{u:List Value},DAs h d u->DAs h e u->d=e
 |_,_,_,.nil,.nil=>rfl
 |_,_,_,.cons r q,.cons r2 q2=>by rw[DA.inj r r2,DAs.inj q q2]
end
theorem zGu {h h':Heap}(k:∀b o,o.cls = .type "tuple" -> h.get? b=some o->h'.get? b=some o) {a:Addr}{x:Array Value}:h.IsTuple a x->h'.IsTuple a x
 |⟨o,ho,hc,r⟩=>⟨o,k _ _ hc ho,hc,r⟩
mutual
theorem DA.kept {h h':Heap}(k:∀b x,h.IsTuple b x->h'.IsTuple b x):∀{d:Dt}{u:Value},DA h d u->DA h' d u
 |_,_,.int _ _=>.int _ _
 |_,_,.str _ _=>.str _ _
 |_,_,.tup h r=>.tup (k _ _ h) (DAs.kept k r)
theorem DAs.kept {h h':Heap}(k:∀b x,h.IsTuple b x->h'.IsTuple b x):∀{d:List Dt}{u:List Value},DAs h d u->DAs h' d u
 |_,_,.nil=>.nil
 |_,_,.cons r q=>.cons (DA.kept k r) (DAs.kept k q)
end
theorem DAs.length {h:Heap}:∀{ds:List Dt}{us:List Value},DAs h ds us->ds.length=us.length
 |_,_,.nil=>rfl
 |_,_,.cons _ q=>by simp[DAs.length q]
theorem DAs.get {h:Heap}:∀{ds:List Dt}{us:List Value}{j:Nat}{u:Value},DAs h ds us->us[j]?=some u->∃d,ds[j]?=some d/\DA h d u
 |_,_,0,_,.cons r _,e=>⟨_,rfl,by cases e;exact r⟩
 |_,_,j+1,_,.cons _ q,e=>by
  obtain⟨d,e1,r⟩:=DAs.get q (j:=j) (by simpa using e);exact⟨d,by simpa using e1,r⟩
section
variable {P:Program}{w:World}{H:Hp}{h:Heap}
mutual
theorem DR.da (ok:HOk P w H h):∀{d:Dt}{v:V}{u:Value},DR H d v->RelV v u->DA h d u
 |_,_,_,.int i,r=>by obtain⟨t,rfl⟩:=r;exact .int _ _
 |_,_,_,.str x,r=>by obtain⟨t,rfl⟩:=r;exact .str _ _
 |_,_,_,.tup (a:=a) ha q,r=>by
  cases r;obtain⟨_,its,rv,p⟩:=ok a _ ha;exact .tup p (by rw[List.toList_toArray];exact DRs.da ok q rv)
theorem DRs.da (ok:HOk P w H h):∀{d:List Dt}{v:List V}{u:List Value},DRs H d v->Vals v u->DAs h d u
 |_,_,_,.nil,.nil=>.nil
 |_,_,_,.cons r q,.cons a b=>.cons (DR.da ok r a) (DRs.da ok q b)
end
end
section
variable {s:Shared}
theorem zKx:∀(n:Nat) (A:Around) {d e:Dt}{u y:Value},d.deep<=n->DA s.heap d u->DA s.heap e y->A.units+n<cLine->SeqAt.EqAt A s u y (Dt.beq d e):=by
 intro n
 induction n with
 |zero =>
  intro A d e u y hn rd re hu;cases rd with
  |int i t =>
   cases re with
   |int j t'=>rw[show Dt.beq (.int i) (.int j)=(i == j) by simp[Dt.beq,Bool.beq_eq_decide_eq]];exact SeqAt.EqAt.int_int i t j t'
   |str x t'=>exact SeqAt.EqAt.int_str i t x t'
   |tup h r=>exact SeqAt.EqAt.int_tuple i t h 31
  |str x t =>
   cases re with
   |int j t'=>exact SeqAt.EqAt.str_int x t j t'
   |str w' t'=>rw[show Dt.beq (.str x) (.str w')=(x == w') by simp[Dt.beq,Bool.beq_eq_decide_eq]];exact SeqAt.EqAt.str_str x t w' t'
   |tup h r=>exact SeqAt.EqAt.str_tuple x t h 31
  |tup h r=>simp[Dt.deep] at hn
 |succ n ih =>
  intro A d e u y hn rd re hu;cases rd with
  |int i t =>
   cases re with
   |int j t'=>rw[show Dt.beq (.int i) (.int j)=(i == j) by simp[Dt.beq,Bool.beq_eq_decide_eq]];exact SeqAt.EqAt.int_int i t j t'
   |str x t'=>exact SeqAt.EqAt.int_str i t x t'
   |tup h r=>exact SeqAt.EqAt.int_tuple i t h 31
  |str x t =>
   cases re with
   |int j t'=>exact SeqAt.EqAt.str_int x t j t'
   |str w' t'=>rw[show Dt.beq (.str x) (.str w')=(x == w') by simp[Dt.beq,Bool.beq_eq_decide_eq]];exact SeqAt.EqAt.str_str x t w' t'
   |tup h r=>exact SeqAt.EqAt.str_tuple x t h 31
  | @tup a items ds ha rs =>
   have hn':Dt.deeps ds<=n:=by simpa[Dt.deep] using hn
   cases re with
   |int j t'=>exact SeqAt.EqAt.tuple_int j t' ha 31
   |str w' t'=>exact SeqAt.EqAt.tuple_str w' t' ha 31
   | @tup b items2 es hb rs' =>
    by_cases hab:a=b
    ·subst hab
     have:=zC1 ha hb;subst this;have:ds=es:=DAs.inj rs rs';subst this;rw[show Dt.beq (.tup ds) (.tup ds)=true from Dt.beq_iff.mpr rfl];exact SeqAt.EqAt.same _
    ·refine SeqAt.EqAt.of_refs hab ?_
     have m1:=rs.length;have m2:=rs'.length
     have key:=SeqAt.RcAt.tuples (A:=A) (s:=s) (e:=λ j=>match ds[j]?,es[j]? with|some d,some e=>Dt.beq d e|_,_=>false) ha hb 31 λ j h1 h2=>by
      obtain⟨d1,ed,rd1⟩:=rs.get (show items.toList[j]?=some items[j] by simp[h1]);obtain⟨d2,ed2,rd2⟩:=rs'.get (show items2.toList[j]?=some items2[j] by simp[h2]);simp only[ed,ed2];exact ih A.in1 (mH (zGZ ed) hn') rd1 rd2 (by rw[show A.in1.units=A.units+1 from rfl];lia)
     have ez:Dt.beq (.tup ds) (.tup es)=((List.range (min items.size items2.size)).all (λ j=>match ds[j]?,es[j]? with|some d,some e=>Dt.beq d e|_,_=>false) && items.size == items2.size):=by
      rw[show Dt.beq (.tup ds) (.tup es)=Dt.beqs ds es by simp[Dt.beq],zJe];have a1:items.size=ds.length:=by rw[m1];simp
      have a2:items2.size=es.length:=by rw[m2];simp
      rw[a1,a2]
      try rfl
     rw[ez];exact key
end
mutual
noncomputable def Dt.hsh (w:World):Dt->Int
 |.int i=>hashInt i
 |.str x=>hashStr w x
 |.tup ds=>reduceHash (Builtin.Tuple.tupleHashOf (Dt.hshs w ds))
noncomputable def Dt.hshs (w:World):List Dt->List Int
 |[]=>[]
 |d::ds=>Dt.hsh w d::Dt.hshs w ds
end
mutual
noncomputable def Dt.draws:Dt->Nat
 |.int _=>1
 |.str _=>1
 |.tup ds=>Dt.drawss ds+1
noncomputable def Dt.drawss:List Dt->Nat
 |[]=>0
 |d::ds=>Dt.draws d+Dt.drawss ds
end
theorem zEp (w:World):∀(a b:List Dt),Dt.hshs w (a++b)=Dt.hshs w a++Dt.hshs w b
 |[],b=>rfl
 |d::a,b=>by simp[Dt.hshs,zEp w a b]
theorem zDB:∀(a b:List Dt),Dt.drawss (a++b)=Dt.drawss a+Dt.drawss b
 |[],b=>by simp[Dt.drawss]
 |d::a,b=>by simp[Dt.drawss,zDB a b];lia
theorem zFP:∀(a b:List Dt),Dt.deeps (a++b)=max (Dt.deeps a) (Dt.deeps b)
 |[],b=>by simp[Dt.deeps]
 |d::a,b=>by simp[Dt.deeps,zFP a b,Nat.max_assoc]
section
variable {prog:Program}{w:World}{E:XQ}
theorem zKu:∀(n:Nat) (A:Around) (s:Shared) {E:XQ}{d:Dt}{u:Value}{Q:Int->Shared->Prop},d.deep<=n->DA s.heap d u->A.units+n<cLine->Q (d.hsh w) { s with toks:=s.toks+d.draws } ->
  wpAny 45 A (pyHash u) Q E s:=by
 intro n
 induction n with
 |zero =>
  intro A s E d u Q hn hd hu h;cases hd with
  |int i t=>exact(zAn prog w).pyHash (k:=.inl i) (zDo i t) h
  |str x t=>exact(zAn prog w).pyHash (k:=.inr x) (zDn x t) h
  |tup _ _=>simp[Dt.deep] at hn
 |succ n ih =>
  intro A s E d u Q hn hd hu h;cases hd with
  |int i t=>exact(zAn prog w).pyHash (k:=.inl i) (zDo i t) h
  |str x t=>exact(zAn prog w).pyHash (k:=.inr x) (zDn x t) h
  | @tup a items ds ha hi =>
   have hn':Dt.deeps ds<=n:=by simpa[Dt.deep] using hn
   obtain⟨o,ho,hc,m,hd⟩:=ha;have hT:s.TypeIs (.ref a) "tuple" := ⟨o,ho,hc⟩;unfold pyHash
   first|unfold pyHashByItsType|skip
   first|refine lA (wpAny_cRoomFor_or (.inr 31) ?_)|skip
   refine lA (wpAny_specialOf hT F.slot_tuple_hash.lookup ?_);show wpAny _ _ (if (some (Value.builtin "tuple.__hash__") == some Value.none)=true then _ else _) Q E s;rw[if_neg (by rw[beq_builtin_none];exact lX)];refine lA (wpAny_specialOf hT F.slot_tuple_hash.lookup ?_);show wpAny _ _ (callSpecialIfBoundUnlessNone? (.ref a) "__hash__" _ >>= _) Q E s;refine lA (wpAny_callSpecialIfBoundUnlessNone?_slot hT F.slot_tuple_hash (wpAny_call_entry F.slot_tuple_hash hT F.entry_tuple_hash ?_ (F.args_tuple_hash_1 _)));show wpAny _ _ (Builtin.Tuple.tupleItemsOf (.ref a) >>= _) _ _ s;refine lA (wpAny_tupleItemsOf ho hd ?_);refine lA ?_;rw[←Array.forIn_toList]
   refine wpAny_forIn_list _
    (λ rest (b:Array Int) s'=>∃done left,ds=done++left/\DAs s.heap left rest/\b.toList=Dt.hshs w done/\s'={ s with toks:=s.toks+Dt.drawss done })
    _ ?_ ?_ _ _ ⟨[],ds,rfl,hi,rfl,rfl⟩
   ·rintro x rest b s' ⟨done,left,rfl,hl,hb,rfl⟩
    cases hl with
    | @cons k _ ks' _ h1 hl' =>
     have hk:k.deep<=n:=by
      rw[zFP,Dt.deeps] at hn'
      lia
     refine lA (ih _ _ hk h1 (by show A.units+1+n<cLine;lia) ?_)
     first
      |exact lB ⟨done++[k],ks',by simp,hl',by simp[hb,zEp,Dt.hshs],by simp[zDB,Dt.drawss,Nat.add_assoc]⟩
      |exact lA (lB (lB ⟨done++[k],ks',by simp,hl',by simp[hb,zEp,Dt.hshs],by simp[zDB,Dt.drawss,Nat.add_assoc]⟩))
   ·rintro b s' ⟨done,left,rfl,hl,hb,rfl⟩
    cases hl;rw[nX] at h;show wpAny _ _ (retInt (Builtin.Tuple.tupleHashOf b.toList)) _ _ _;rw[hb];refine wpAny_ret_mkInt ?_;show wpAny _ _ (if (decide (-(2:Int) ^ 63<=Builtin.Tuple.tupleHashOf (Dt.hshs w done)) && decide (Builtin.Tuple.tupleHashOf (Dt.hshs w done)<2 ^ 63))=true then _ else _) Q E _;unfold Dt.hsh reduceHash Dt.draws at h
    by_cases hr:(decide (-(2:Int) ^ 63<=Builtin.Tuple.tupleHashOf (Dt.hshs w done)) && decide (Builtin.Tuple.tupleHashOf (Dt.hshs w done)<2 ^ 63))=true
    ·rw[if_pos hr]
     rw[if_pos hr] at h;exact lB (by simpa[Nat.add_assoc] using h)
    ·rw[if_neg hr]
     rw[if_neg hr] at h;exact lA (wpAny_rule (lB (by simpa[Nat.add_assoc] using h)))
theorem zIt {M:Model}{A:Around}{E:XQ}{s:Shared}:∀(n:Nat) {d:Dt}{u:Value}{Q:Bool->Shared->Prop},d.deep<=n->DA s.heap d u->Q true s->wpAny 45 A (eqIsQuiet n u) Q E s:=by
 intro n
 induction n with
 |zero =>
  intro d u Q hn hd h;cases hd with
  |int i t=>rw[eqIsQuiet_byValue _ rfl];exact lB h
  |str x t=>rw[eqIsQuiet_byValue _ rfl];exact lB h
  |tup _ _=>simp[Dt.deep] at hn
 |succ n ih =>
  intro d u Q hn hd h;cases hd with
  |int i t=>rw[eqIsQuiet_byValue _ rfl];exact lB h
  |str x t=>rw[eqIsQuiet_byValue _ rfl];exact lB h
  | @tup a items ds ha hi =>
   have hn':Dt.deeps ds<=n:=by simpa[Dt.deep] using hn
   obtain⟨o,ho,hc,m,hd⟩:=ha;have hT:s.TypeIs (.ref a) "tuple" := ⟨o,ho,hc⟩;unfold eqIsQuiet;refine lA (wpAny_specialOf hT F.slot_tuple_eq.lookup ?_);show wpAny _ _ (isInstance (.ref a) (.type "tuple") >>= _) _ _ s;refine lA (wpAny_isInstance hT isSubtype_tuple_tuple ?_);simp only[Bool.not_true,Bool.false_eq_true,if_false];refine lA (wpAny_seqItems ho hd ?_);refine lA ?_;show wpAny _ _ (forIn items _ _) _ _ s;rw[←Array.forIn_toList];refine wpAny_forIn_list _ (λ rest r s'=>r.1=none/\s'=s/\∃ds',DAs s.heap ds' rest/\Dt.deeps ds'<=n) _ ?_ ?_ _ _ ⟨rfl,rfl,ds,hi,hn'⟩
   ·rintro v rest r s' ⟨hr,rfl,ds',hall,hdp⟩
    cases hall with
    | @cons k _ ks' _ h1 hl' =>
     have hk:k.deep<=n/\Dt.deeps ks'<=n:=by
      rw[Dt.deeps] at hdp
      lia
     refine lA (ih hk.1 h1 ?_);simp only[Bool.not_true,Bool.false_eq_true,if_false];exact lB ⟨rfl,rfl,ks',hl',hk.2⟩
   ·rintro⟨r1,r2⟩ s' ⟨hr,rfl,_⟩
    simp only at hr;subst hr;exact lB h
end
noncomputable def strLt (x y:Str):Bool:=decide (x.cps.toList<y.cps.toList)
mutual
noncomputable def Dt.lt:Dt->Dt->Bool
 |.int i,.int j=>decide (i<j)
 |.str x,.str y=>strLt x y
 |.tup ds,.tup es=>Dt.lts ds es
 |.int _,.str _=>true
 |.int _,.tup _=>true
 |.str _,.tup _=>true
 |.str _,.int _=>false
 |.tup _,.int _=>false
 |.tup _,.str _=>false
noncomputable def Dt.lts:List Dt->List Dt->Bool
 |[],[]=>false
 |[],_::_=>true
 |_::_,[]=>false
 |d::ds,e::es=>if Dt.beq d e=true then Dt.lts ds es else Dt.lt d e
end
inductive Ty where
 |int|str|many (t:Ty)|two (a b:Ty)
mutual
noncomputable def Dt.has:Ty->Dt->Bool
 |.int,.int _=>true
 |.str,.str _=>true
 |.many t,.tup ds=>Dt.hass t ds
 |.two a b,.tup ds=>Dt.hasp a b ds
 |_,_=>false
noncomputable def Dt.hass:Ty->List Dt->Bool
 |_,[]=>true
 |t,d::ds=>Dt.has t d && Dt.hass t ds
noncomputable def Dt.hasp:Ty->Ty->List Dt->Bool
 |a,b,d::es=>Dt.has a d && Dt.hasq b es
 |_,_,_=>false
noncomputable def Dt.hasq:Ty->List Dt->Bool
 |b,e::es=>Dt.has b e && (es.length == 0)
 |_,_=>false
end
mutual
noncomputable def Dt.cmp:Dt->Dt->Bool
 |.int _,.int _=>true
 |.str _,.str _=>true
 |.tup ds,.tup es=>Dt.cmps ds es
 |_,_=>false
noncomputable def Dt.cmps:List Dt->List Dt->Bool
 |[],_=>true
 |_::_,[]=>true
 |d::ds,e::es=>if Dt.beq d e=true then Dt.cmps ds es else Dt.cmp d e
end
open PySem.Calls
open AutoSeq1 (wpAny_loadPart')
noncomputable def zKv:Bool->Keyed->Array Keyed->Nat->Nat->Nat->StateT SortSt Sem (Option Nat):=sortPriv% PySem.Builtin.gallop
noncomputable def zJK:Array Keyed->Array Keyed->StateT SortSt Sem (Array Keyed):=sortPriv% PySem.Builtin.mergeLo
noncomputable def zJL:Array Keyed->Array Keyed->StateT SortSt Sem (Array Keyed):=sortPriv% PySem.Builtin.mergeHi
structure LtE (M:Model) (A:Around) (E:XQ) (s:Shared) (κ:SortKind) (G:Keyed->Prop) (R:Keyed->Keyed->Bool):Prop where
 lt:∀x y,G x->G y->∀(st:SortSt) (Q:Option Bool->SortSt->Prop),kindOf st=κ->Q (some (R x y)) st->wpS M A E s (lt' x y) Q st
 asym:∀x y,G x->G y->R x y=true->R y x=false
 tr:∀x y z,G x->G y->G z->R x y=false->R y z=false->R x z=false
theorem all2 {A0 A1:Type}{P:A0 × A1->Prop}(h:∀a0 a1,P (a0,a1)):∀x,P x:=λ⟨a0,a1⟩=>h a0 a1
theorem all3 {A0 A1 A2:Type}{P:A0 × A1 × A2->Prop}(h:∀a0 a1 a2,P (a0,a1,a2)):∀x,P x:=λ⟨a0,a1,a2⟩=>h a0 a1 a2
theorem all5 {A0 A1 A2 A3 A4:Type}{P:A0 × A1 × A2 × A3 × A4->Prop}(h:∀a0 a1 a2 a3 a4,P (a0,a1,a2,a3,a4)):∀x,P x:=λ⟨a0,a1,a2,a3,a4⟩=>h a0 a1 a2 a3 a4
theorem all6 {A0 A1 A2 A3 A4 A5:Type}{P:A0 × A1 × A2 × A3 × A4 × A5->Prop}(h:∀a0 a1 a2 a3 a4 a5,P (a0,a1,a2,a3,a4,a5)):∀x,P x:=λ⟨a0,a1,a2,a3,a4,a5⟩=>h a0 a1 a2 a3 a4 a5
theorem all7 {A0 A1 A2 A3 A4 A5 A6:Type}{P:A0 × A1 × A2 × A3 × A4 × A5 × A6->Prop}(h:∀a0 a1 a2 a3 a4 a5 a6,P (a0,a1,a2,a3,a4,a5,a6)):∀x,P x:=λ⟨a0,a1,a2,a3,a4,a5,a6⟩=>h a0 a1 a2 a3 a4 a5 a6
theorem an3 {a0 a1 a2 G:Prop}(h:a0/\a1/\a2) (k:a0->a1->a2->G):G:=k h.1 h.2.1 h.2.2
theorem an4 {a0 a1 a2 a3 G:Prop}(h:a0/\a1/\a2/\a3) (k:a0->a1->a2->a3->G):G:=k h.1 h.2.1 h.2.2.1 h.2.2.2
theorem an5 {a0 a1 a2 a3 a4 G:Prop}(h:a0/\a1/\a2/\a3/\a4) (k:a0->a1->a2->a3->a4->G):G:=k h.1 h.2.1 h.2.2.1 h.2.2.2.1 h.2.2.2.2
theorem an6 {a0 a1 a2 a3 a4 a5 G:Prop}(h:a0/\a1/\a2/\a3/\a4/\a5) (k:a0->a1->a2->a3->a4->a5->G):G:=k h.1 h.2.1 h.2.2.1 h.2.2.2.1 h.2.2.2.2.1 h.2.2.2.2.2
theorem an7 {a0 a1 a2 a3 a4 a5 a6 G:Prop}(h:a0/\a1/\a2/\a3/\a4/\a5/\a6) (k:a0->a1->a2->a3->a4->a5->a6->G):G:=k h.1 h.2.1 h.2.2.1 h.2.2.2.1 h.2.2.2.2.1 h.2.2.2.2.2.1 h.2.2.2.2.2.2
theorem an8 {a0 a1 a2 a3 a4 a5 a6 a7 G:Prop}(h:a0/\a1/\a2/\a3/\a4/\a5/\a6/\a7) (k:a0->a1->a2->a3->a4->a5->a6->a7->G):G:=k h.1 h.2.1 h.2.2.1 h.2.2.2.1 h.2.2.2.2.1 h.2.2.2.2.2.1 h.2.2.2.2.2.2.1 h.2.2.2.2.2.2.2
section
variable {M:Model}{A:Around}{E:XQ}{s:Shared}{κ:SortKind}{G:Keyed->Prop}{R:Keyed->Keyed->Bool}
theorem zAL {α:Type}{c:Prop} [Decidable c] {x y:StateT SortSt Sem α}{Q:α->SortSt->Prop}{st:SortSt}(h1:c->wpS M A E s x Q st) (h2:¬c->wpS M A E s y Q st):wpS M A E s (if c then x else y) Q st:=by
 by_cases h:c
 ·rw[if_pos h];exact h1 h
 ·rw[if_neg h];exact h2 h
theorem zB3 {n:String}{Q:Unit->SortSt->Prop}{st:SortSt}(h:Q () st):wpS M A E s (liftM (rule n):StateT SortSt Sem Unit) Q st:=wpS_lift (wpAny_rule ⟨rfl,h⟩)
theorem zAP {arr:Array Keyed}{i:Nat}{x:Keyed}{Q:Keyed->SortSt->Prop}{st:SortSt}(e:arr[i]?=some x) (h:Q x st):wpS M A E s (elem' arr i) Q st:=by
 rw[elem'_eq,e];exact wpS_pure h
noncomputable def byd (R:Keyed->Keyed->Bool) (left:Bool) (key x:Keyed):Bool:=if left=true then R x key else !R key x
theorem bey (L:LtE M A E s κ G R) {left:Bool}{key:Keyed}{arr:Array Keyed}{base n i:Nat}{f:Nat->Keyed}{st:SortSt}{Q:Option Bool->SortSt->Prop}(hk:kindOf st=κ) (gk:G key) (hf:∀i,i<n->arr[base+i]?=some (f i)) (gf:∀i,i<n->G (f i)) (hi:i<n) (h:Q (some (byd R left key (f i))) st) :
    wpS M A E s ((do let x ← elem' arr (base+i);if left=true then lt' x key else do let r ← lt' key x;pure (r.map (!·))):StateT SortSt Sem (Option Bool)) Q st:=by
  refine wpS_bind (zAP (hf i hi) ?_);unfold byd at h
  by_cases c:left=true
  · rw[if_pos c] at h ⊢
    exact L.lt _ _ (gf i hi) gk st Q hk h
  · rw[if_neg c] at h ⊢
    exact wpS_bind (L.lt _ _ gk (gf i hi) st _ hk (wpS_pure h))
theorem zA1 (L:LtE M A E s κ G R) {left:Bool}{key:Keyed}{arr:Array Keyed}{base n hint:Nat}{f:Nat->Keyed}{st:SortSt}{Q:Option Nat->SortSt->Prop}(hk:kindOf st=κ) (gk:G key) (hf:∀i,i<n->arr[base+i]?=some (f i)) (gf:∀i,i<n->G (f i)) (hh:hint<n)
  (hmono:∀i j,i<=j->j<n->byd R left key (f j)=true->byd R left key (f i)=true)
  (h:∀k,k<=n->(∀i,i<k->byd R left key (f i)=true)->(∀i,k<=i->i<n->byd R left key (f i)=false)->Q (some k) st):wpS M A E s (zKv left key arr base n hint) Q st:=by
 refine wpS_bind (bey L hk gk hf gf hh ?_);dsimp only;cases hc:byd R left key (f hint) with
 |true =>
  rw[if_pos rfl];refine wpS_bind (wpS_mono (wpS_forRange (I:=λ i (c:Option (Option Nat) × Nat × Nat) st'=>st=st'/\c.1=none/\i+1<=c.2.2/\c.2.1<c.2.2/\hint+c.2.1<n/\byd R left key (f (hint+c.2.1))=true) (Q:=λ c st'=>st=st'/\c.1=none/\hint+c.2.1<n/\c.2.1<c.2.2/\byd R left key (f (hint+c.2.1))=true/\(n - hint<=c.2.2\/(hint+c.2.2<n/\byd R left key (f (hint+c.2.2))=false))) ?_ ?_ ⟨rfl,rfl,lR _,Nat.zero_lt_one,hh,hc⟩) ?_)
  ·refine λ i=>all3 λ r la o st' Ω hin hI=>an6 hI λ hE0 hE1 h1 h2 h3 h4=>?_
   obtain rfl:=hE0;obtain rfl:=hE1;dsimp only at h1 h2 h3 h4 ⊢;refine zAL (λ c=>?_) (λ c=>?_)
   ·exact wpS_pure ⟨rfl,rfl,h3,h2,h4,.inl c⟩
   ·refine wpS_bind (bey L hk gk hf gf (i:=hint+o) 31 ?_)
    dsimp only;cases hm:byd R left key (f (hint+o)) with
    |true=>exact wpS_pure ⟨rfl,rfl,37,37,37,hm⟩
    |false=>exact wpS_pure ⟨rfl,rfl,h3,h2,h4,.inr ⟨by dsimp only;lia,hm⟩⟩
  ·refine all3 λ r la o st' hI=>an6 hI λ hE0 hE1 h1 h2 h3 h4=>?_
   obtain rfl:=hE0;obtain rfl:=hE1;dsimp only at h1 h2 h3 h4 ⊢;exact⟨rfl,rfl,h3,h2,h4,.inl 31⟩
  refine all3 λ r la o st' hI=>an6 hI λ hE0 hE1 h1 h2 h3 h4=>?_;obtain rfl:=hE0;obtain rfl:=hE1;dsimp only at h1 h2 h3 h4 ⊢
  refine wpS_bind (wpS_forRange (I:=λ i (c:Option (Option Nat) × Nat × Nat) st'=>st=st'/\c.1=none/\c.2.1<=c.2.2/\c.2.2<=n/\c.2.2 - c.2.1<=n - i/\(∀j,j<c.2.1->byd R left key (f j)=true)/\(∀j,c.2.2<=j->j<n->byd R left key (f j)=false)) ?_ ?_ ⟨rfl,rfl,37,37,37,(λ j hj=>hmono j _ (by dsimp only at hj;lia) h1 h3),(λ j hj hjn=>by
   dsimp only at hj;rcases h4 with h4|⟨h5,h6⟩
   ·lia
   ·cases z:byd R left key (f j) with
    |false=>rfl
    |true=>rw[hmono _ j 31 hjn z] at h6;cases h6)⟩)
  ·refine λ i=>all3 λ r lo hi st' Ω hin hI=>an7 hI λ hE0 hE1 hlh hhn hfu hlo hhi=>?_
   obtain rfl:=hE0;obtain rfl:=hE1;dsimp only at hlh hhn hfu hlo hhi ⊢;refine zAL (λ c=>?_) (λ c=>?_)
   ·refine wpS_pure ?_
    have:lo=hi:=by lia
    subst this;exact wpS_pure (h lo hhn hlo hhi)
   ·refine wpS_bind (bey L hk gk hf gf (i:=lo+(hi - lo) / 2) 31 ?_)
    dsimp only;cases hm:byd R left key (f (lo+(hi - lo) / 2)) with
    |true=>exact wpS_pure ⟨rfl,rfl,37,hhn,37,λ j hj=>hmono j _ (by dsimp only at hj;lia) 31 hm,hhi⟩
    |false=>exact wpS_pure ⟨rfl,rfl,37,37,37,hlo,λ j hj hjn=>by
      cases z:byd R left key (f j) with
      |false=>rfl
      |true=>rw[hmono _ j hj hjn z] at hm;cases hm⟩
  ·refine all3 λ r lo hi st' hI=>an7 hI λ hE0 hE1 hlh hhn hfu hlo hhi=>?_
   obtain rfl:=hE0;obtain rfl:=hE1;dsimp only at hlh hhn hfu hlo hhi ⊢;have:lo=hi:=by lia
   subst this;exact wpS_pure (h lo hhn hlo hhi)
 |false =>
  rw[if_neg 41];refine wpS_bind (wpS_mono (wpS_forRange (I:=λ i (c:Option (Option Nat) × Nat × Nat) st'=>st=st'/\c.1=none/\i+1<=c.2.2/\c.2.1<c.2.2/\c.2.1<=hint/\byd R left key (f (hint - c.2.1))=false) (Q:=λ c st'=>st=st'/\c.1=none/\c.2.1<=hint/\c.2.1<c.2.2/\byd R left key (f (hint - c.2.1))=false/\(hint+1<=c.2.2\/(c.2.2<=hint/\byd R left key (f (hint - c.2.2))=true))) ?_ ?_ ⟨rfl,rfl,lR _,Nat.zero_lt_one,lY _,hc⟩) ?_)
  ·refine λ i=>all3 λ r la o st' Ω hin hI=>an6 hI λ hE0 hE1 h1 h2 h3 h4=>?_
   obtain rfl:=hE0;obtain rfl:=hE1;dsimp only at h1 h2 h3 h4 ⊢;refine zAL (λ c=>?_) (λ c=>?_)
   ·exact wpS_pure ⟨rfl,rfl,h3,h2,h4,.inl c⟩
   ·refine wpS_bind (bey L hk gk hf gf (i:=hint - o) 31 ?_)
    dsimp only;cases hm:byd R left key (f (hint - o)) with
    |false=>exact wpS_pure ⟨rfl,rfl,37,37,37,hm⟩
    |true=>exact wpS_pure ⟨rfl,rfl,h3,h2,h4,.inr ⟨by dsimp only;lia,hm⟩⟩
  ·refine all3 λ r la o st' hI=>an6 hI λ hE0 hE1 h1 h2 h3 h4=>?_
   obtain rfl:=hE0;obtain rfl:=hE1;dsimp only at h1 h2 h3 h4 ⊢;exact⟨rfl,rfl,h3,h2,h4,.inl 31⟩
  refine all3 λ r la o st' hI=>an6 hI λ hE0 hE1 h1 h2 h3 h4=>?_;obtain rfl:=hE0;obtain rfl:=hE1;dsimp only at h1 h2 h3 h4 ⊢
  refine wpS_bind (wpS_forRange (I:=λ i (c:Option (Option Nat) × Nat × Nat) st'=>st=st'/\c.1=none/\c.2.1<=c.2.2/\c.2.2<=n/\c.2.2 - c.2.1<=n - i/\(∀j,j<c.2.1->byd R left key (f j)=true)/\(∀j,c.2.2<=j->j<n->byd R left key (f j)=false)) ?_ ?_ ⟨rfl,rfl,37,37,37,(λ j hj=>by
   dsimp only at hj;rcases h4 with h4|⟨h5,h6⟩
   ·lia
   ·exact hmono j _ 31 31 h6),(λ j hj hjn=>by
   dsimp only at hj
   cases z:byd R left key (f j) with
    |false=>rfl
    |true=>rw[hmono _ j 31 hjn z] at h3;cases h3)⟩)
  ·refine λ i=>all3 λ r lo hi st' Ω hin hI=>an7 hI λ hE0 hE1 hlh hhn hfu hlo hhi=>?_
   obtain rfl:=hE0;obtain rfl:=hE1;dsimp only at hlh hhn hfu hlo hhi ⊢;refine zAL (λ c=>?_) (λ c=>?_)
   ·refine wpS_pure ?_
    have:lo=hi:=by lia
    subst this;exact wpS_pure (h lo hhn hlo hhi)
   ·refine wpS_bind (bey L hk gk hf gf (i:=lo+(hi - lo) / 2) 31 ?_)
    dsimp only;cases hm:byd R left key (f (lo+(hi - lo) / 2)) with
    |true=>exact wpS_pure ⟨rfl,rfl,37,hhn,37,λ j hj=>hmono j _ (by dsimp only at hj;lia) 31 hm,hhi⟩
    |false=>exact wpS_pure ⟨rfl,rfl,37,37,37,hlo,λ j hj hjn=>by
      cases z:byd R left key (f j) with
      |false=>rfl
      |true=>rw[hmono _ j hj hjn z] at hm;cases hm⟩
  ·refine all3 λ r lo hi st' hI=>an7 hI λ hE0 hE1 hlh hhn hfu hlo hhi=>?_
   obtain rfl:=hE0;obtain rfl:=hE1;dsimp only at hlh hhn hfu hlo hhi ⊢;have:lo=hi:=by lia
   subst this;exact wpS_pure (h lo hhn hlo hhi)
end
def OL (R:Keyed->Keyed->Bool) (l:List Keyed):Prop:=l.Pairwise λ x y=>R y x=false
structure MI (R:Keyed->Keyed->Bool) (A B o as bs:List Keyed):Prop where
 ord:OL R o
 le:∀x∈o,∀y,y∈as\/y∈bs->R y x=false
 perm:(o++(as++bs)).Perm (A++B)
 sa:OL R as
 sb:OL R bs
section
variable {R:Keyed->Keyed->Bool}{A B o as bs p:List Keyed}
theorem MI.a (h:MI R A B o (p++as) bs) (hp:∀x∈p,∀y∈bs,R y x=false):MI R A B (o++p) as bs:=by
 obtain⟨s1,s2,s3⟩:=List.pairwise_append.mp h.sa;refine⟨List.pairwise_append.mpr ⟨h.ord,s1,λ x hx y hy=>h.le x hx y (.inl (mG _ hy))⟩,λ x hx y hy=>?_,?_,s2,h.sb⟩
 ·rcases lJ.mp hx with hx|hx
  ·exact h.le x hx y (hy.imp (mB _) id)
  ·rcases hy with hy|hy
   ·exact s3 x hx y hy
   ·exact hp x hx y hy
 ·have e:o++p++(as++bs)=o++(p++as++bs):=by simp[nE]
  rw[e];exact h.perm
theorem MI.b (h:MI R A B o as (p++bs)) (hp:∀x∈p,∀y∈as,R y x=false):MI R A B (o++p) as bs:=by
 obtain⟨s1,s2,s3⟩:=List.pairwise_append.mp h.sb;refine⟨List.pairwise_append.mpr ⟨h.ord,s1,λ x hx y hy=>h.le x hx y (.inr (mG _ hy))⟩,λ x hx y hy=>?_,?_,h.sa,s2⟩
 ·rcases lJ.mp hx with hx|hx
  ·exact h.le x hx y (hy.imp id (mB _))
  ·rcases hy with hy|hy
   ·exact hp x hx y hy
   ·exact s3 x hx y hy
 ·refine List.Perm.trans ?_ h.perm
  rw[nE];refine List.Perm.append_left _ ?_;rw[←nE,←nE];exact List.Perm.append_right _ List.perm_append_comm
theorem MI.fin (h:MI R A B o as bs) (hp:∀x∈as,∀y∈bs,R y x=false):OL R (o++as++bs)/\(o++as++bs).Perm (A++B):=by
 rw[nE];refine⟨List.pairwise_append.mpr ⟨h.ord,List.pairwise_append.mpr ⟨h.sa,h.sb,hp⟩,λ x hx y hy=>h.le x hx y (lJ.mp hy)⟩,h.perm⟩
theorem MI.fin2 (h:MI R A B o as bs) (hp:∀x∈bs,∀y∈as,R y x=false):OL R (o++bs++as)/\(o++bs++as).Perm (A++B):=by
 rw[nE];refine⟨List.pairwise_append.mpr ⟨h.ord,List.pairwise_append.mpr ⟨h.sb,h.sa,hp⟩,λ x hx y hy=>h.le x hx y (lJ.mp hy).symm⟩,?_⟩;exact(List.Perm.append_left _ List.perm_append_comm).trans h.perm
end
abbrev setG (st:SortSt) (g:Nat):SortSt:=SortSt.mk' (kindOf st) (arrOf st) (pendingOf st) g (failedOf st)
section
variable {M:Model}{A:Around}{E:XQ}{s:Shared}{κ:SortKind}{G:Keyed->Prop}{R:Keyed->Keyed->Bool}
abbrev d0:Keyed:=(.none,.none)
theorem zGW (a:Array Keyed) (i:Nat):(a.extract i).toList=a.toList.drop i:=by
 rw[Array.toList_extract,List.extract_eq_take_drop];exact nB 41
theorem ex_k (a:Array Keyed) (i k:Nat):(a.extract i (i+k)).toList=(a.toList.drop i).take k:=by
 rw[Array.toList_extract,List.extract_eq_take_drop,Nat.add_sub_cancel_left]
theorem zIK {a:Array Keyed}{i:Nat}(h:i<a.size):a.toList.drop i=a.getD i d0::a.toList.drop (i+1):=by
 rw[List.drop_eq_getElem_cons (by simpa using h)];congr 1;simp[Array.getD,h]
theorem zAS {a:Array Keyed}{i:Nat}(h:i<a.size):a[i]?=some (a.getD i d0):=by simp[Array.getD,h]
theorem zAW {a:Array Keyed}{i:Nat}(h:i<a.size):a.getD i d0∈a.toList:=by
 have:a.getD i d0=a[i]:=by simp[Array.getD,h]
 rw[this];simp
theorem zBY {a:Array Keyed}{i:Nat}{x:Keyed}(h:x∈a.toList.drop i):∃j,i<=j/\j<a.size/\x=a.getD j d0:=by
 obtain⟨j,hj,e⟩:=List.getElem_of_mem h;rw[nC] at hj;have hj':i+j<a.size:=by simp at hj;lia
 refine⟨i+j,by lia,hj',?_⟩;rw[←e,List.getElem_drop];simp[Array.getD,hj']
theorem zGS {a:Array Keyed}{i k:Nat}{x:Keyed}(h:x∈(a.toList.drop i).take k):∃j,j<k/\i+j<a.size/\x=a.getD (i+j) d0:=by
 obtain⟨j,hj,e⟩:=List.getElem_of_mem h;rw[mQ,nC] at hj;have hj':i+j<a.size:=by simp at hj;lia
 refine⟨j,by lia,hj',?_⟩;rw[←e,List.getElem_take,List.getElem_drop];simp[Array.getD,hj']
theorem ol_at {a:Array Keyed}(h:OL R a.toList) {i j:Nat}(hij:i<j) (hj:j<a.size):R (a.getD j d0) (a.getD i d0)=false:=by
 have:=List.pairwise_iff_getElem.mp h i j (by simp;lia) (by simpa using hj) hij;simpa[Array.getD,hj,show i<a.size by lia] using this
theorem zFG (L:LtE M A E s κ G R) {key:Keyed}{f:Nat->Keyed}{n:Nat}(gk:G key) (gf:∀i,i<n->G (f i)) (sg:∀i j,i<j->j<n->R (f j) (f i)=false):∀i j,i<=j->j<n->byd R false key (f j)=true->byd R false key (f i)=true:=λ i j hij hj h=>by
 by_cases e:i=j
 ·rw[e];exact h
 ·simp[byd] at h ⊢
  exact L.tr _ _ _ gk (gf j hj) (gf i 31) h (sg i j 31 hj)
theorem zCz (L:LtE M A E s κ G R) {key:Keyed}{f:Nat->Keyed}{n:Nat}(gk:G key) (gf:∀i,i<n->G (f i)) (sg:∀i j,i<j->j<n->R (f j) (f i)=false):∀i j,i<=j->j<n->byd R true key (f j)=true->byd R true key (f i)=true:=λ i j hij hj h=>by
 by_cases e:i=j
 ·rw[e];exact h
 ·simp[byd] at h ⊢
  cases z:R (f i) key with
  |true=>rfl
  |false=>rw[L.tr _ _ _ (gf j hj) (gf i 31) gk (sg i j 31 hj) z] at h;cases h
structure ML (R:Keyed->Keyed->Bool) (G:Keyed->Prop) (a b:Array Keyed):Prop where
 ga:∀x∈a.toList,G x
 gb:∀x∈b.toList,G x
 oa:OL R a.toList
 ob:OL R b.toList
section
variable {a b o:Array Keyed}{ia ib k:Nat}
abbrev MA (R:Keyed->Keyed->Bool) (a b o:Array Keyed) (ia ib:Nat):Prop:=MI R a.toList b.toList o.toList (a.toList.drop ia) (b.toList.drop ib)
theorem ML.ga_at (m:ML R G a b) {i:Nat}(h:i<a.size):G (a.getD i d0):=m.ga _ (zAW h)
theorem ML.gb_at (m:ML R G a b) {i:Nat}(h:i<b.size):G (b.getD i d0):=m.gb _ (zAW h)
theorem ML.a_le (L:LtE M A E s κ G R) (m:ML R G a b) {i j:Nat}(hij:i<=j) (hj:j<a.size):R (a.getD j d0) (a.getD i d0)=false:=by
 by_cases e:i=j
 ·subst e
  cases z:R (a.getD i d0) (a.getD i d0) with
  |false=>rfl
  |true=>have:=L.asym _ _ (m.ga_at hj) (m.ga_at hj) z;rw[z] at this;cases this
 ·exact ol_at m.oa 31 hj
theorem ML.b_le (L:LtE M A E s κ G R) (m:ML R G a b) {i j:Nat}(hij:i<=j) (hj:j<b.size):R (b.getD j d0) (b.getD i d0)=false:=by
 by_cases e:i=j
 ·subst e
  cases z:R (b.getD i d0) (b.getD i d0) with
  |false=>rfl
  |true=>have:=L.asym _ _ (m.gb_at hj) (m.gb_at hj) z;rw[z] at this;cases this
 ·exact ol_at m.ob 31 hj
theorem MA.pb (h:MA R a b o ia ib) (hb:ib<b.size) (hp:∀j,ia<=j->j<a.size->R (a.getD j d0) (b.getD ib d0)=false):MA R a b (o.push (b.getD ib d0)) ia (ib+1):=by
 unfold MA at h ⊢;rw[zIK hb] at h;rw[Array.toList_push];refine MI.b (p:=[b.getD ib d0]) h λ x hx y hy=>?_;rw[mX] at hx;subst hx;obtain⟨j,h1,h2,rfl⟩:=zBY hy;exact hp j h1 h2
theorem MA.pa (h:MA R a b o ia ib) (ha:ia<a.size) (hp:∀j,ib<=j->j<b.size->R (b.getD j d0) (a.getD ia d0)=false):MA R a b (o.push (a.getD ia d0)) (ia+1) ib:=by
 unfold MA at h ⊢;rw[zIK ha] at h;rw[Array.toList_push];refine MI.a (p:=[a.getD ia d0]) h λ x hx y hy=>?_;rw[mX] at hx;subst hx;obtain⟨j,h1,h2,rfl⟩:=zBY hy;exact hp j h1 h2
theorem MA.ka (h:MA R a b o ia ib) (hp:∀i,i<k->ia+i<a.size->∀j,ib<=j->j<b.size->R (b.getD j d0) (a.getD (ia+i) d0)=false):MA R a b (o++a.extract ia (ia+k)) (ia+k) ib:=by
 unfold MA at h ⊢;rw[Array.toList_append,ex_k];refine MI.a (p:=(a.toList.drop ia).take k) (by rw[←List.drop_drop,List.take_append_drop];exact h) λ x hx y hy=>?_;obtain⟨i,i1,i2,rfl⟩:=zGS hx;obtain⟨j,h1,h2,rfl⟩:=zBY hy;exact hp i i1 i2 j h1 h2
theorem MA.kb (h:MA R a b o ia ib) (hp:∀i,i<k->ib+i<b.size->∀j,ia<=j->j<a.size->R (a.getD j d0) (b.getD (ib+i) d0)=false):MA R a b (o++b.extract ib (ib+k)) ia (ib+k):=by
 unfold MA at h ⊢;rw[Array.toList_append,ex_k];refine MI.b (p:=(b.toList.drop ib).take k) (by rw[←List.drop_drop,List.take_append_drop];exact h) λ x hx y hy=>?_;obtain⟨i,i1,i2,rfl⟩:=zGS hx;obtain⟨j,h1,h2,rfl⟩:=zBY hy;exact hp i i1 i2 j h1 h2
abbrev Mgd (R:Keyed->Keyed->Bool) (a b x:Array Keyed):Prop:=OL R x.toList/\x.toList.Perm (a.toList++b.toList)
theorem MA.done (h:MA R a b o ia ib) (hd:a.size<=ia\/b.size<=ib):Mgd R a b (o++a.extract ia++b.extract ib):=by
 unfold Mgd;rw[Array.toList_append,Array.toList_append,zGW,zGW];refine MI.fin h λ x hx y hy=>?_;obtain⟨i,i1,i2,_⟩:=zBY hx;obtain⟨j,j1,j2,_⟩:=zBY hy
 lia
theorem MA.last (h:MA R a b o ia ib) (hl:∀j,ib<=j->j<b.size->∀i,ia<=i->i<a.size->R (a.getD i d0) (b.getD j d0)=false):Mgd R a b (o++b.extract ib++a.extract ia):=by
 unfold Mgd;rw[Array.toList_append,Array.toList_append,zGW,zGW];refine MI.fin2 h λ x hx y hy=>?_;obtain⟨j,j1,j2,rfl⟩:=zBY hx;obtain⟨i,i1,i2,rfl⟩:=zBY hy;exact hl j j1 j2 i i1 i2
end
end
noncomputable def zKO:Nat->StateT SortSt Sem Unit:=sortPriv% PySem.Builtin.setMinGallop
section
variable {M:Model}{A:Around}{E:XQ}{s:Shared}{κ:SortKind}{G:Keyed->Prop}{R:Keyed->Keyed->Bool}
theorem zBj {g:Nat}{Q:Unit->SortSt->Prop}{st:SortSt}(h:Q () (setG st g)):wpS M A E s (zKO g) Q st:=wpS_modify h
theorem zGm (L:LtE M A E s κ G R) {a b:Array Keyed}{st:SortSt}{Q:Array Keyed->SortSt->Prop}(hk:kindOf st=κ) (m:ML R G a b) (ha:0<a.size) (hb:0<b.size)
  (h0:∀i,i<a.size->R (a.getD i d0) (b.getD 0 d0)=false) (hl:∀j,j<b.size->R (a.getD (a.size - 1) d0) (b.getD j d0)=false)
  (h:∀out g,Mgd R a b out->Q out (setG st g)):wpS M A E s (zJK a b) Q st:=by
 have start:MA R a b #[b.getD 0 d0] 0 1:=by
  have z:MA R a b #[] 0 0:=⟨List.Pairwise.nil,(λ x hx=>nomatch hx),by simp,by simpa using m.oa,by simpa using m.ob⟩
  have:=z.pb hb λ j Ω hj=>h0 j hj;simpa using this
 have hlast:∀{o:Array Keyed}{ia ib:Nat},MA R a b o ia ib->ia+1=a.size->Mgd R a b (o++b.extract ib++a.extract ia):=λ{o ia ib} h e=>h.last λ j Ω hj i hi1 hi2=>by
  have:i=a.size - 1:=by lia
  rw[this];exact hl j hj
 refine wpS_bind (zB3 ?_);refine wpS_bind (zAP (zAS hb) ?_);dsimp only;refine zAL (λ c1=>?_) (λ c1=>?_)
 ·exact wpS_pure (h _ (gallopOf st) (start.done (.inr (by have:=eq_of_beq c1;lia))))
 ·have c1':1<b.size:=by
   have:¬1=b.size:=by simpa using c1
   lia
  refine zAL (λ c2=>?_) (λ c2=>?_)
  ·exact wpS_pure (h _ (gallopOf st) (hlast start (by simpa using c2)))
  ·have c2':1<a.size:=by
    have:¬1=a.size:=by simpa using c2
    lia
   refine wpS_bind (wpS_get ?_)
   refine wpS_bind (wpS_mono (wpS_forRange (I:=λ i (c:Option (Array Keyed) × Array Keyed × Nat × Nat × Nat) st'=>(∃g,st'=setG st g)/\c.1=none/\MA R a b c.2.1 c.2.2.1 c.2.2.2.1/\c.2.2.1+1<a.size/\c.2.2.2.1<b.size/\i+1<=c.2.2.1+c.2.2.2.1)
    (Q:=λ c st'=>(∃g,st'=setG st g)/\∃X,c.1=some X/\Mgd R a b X) ?_ ?_ ⟨⟨gallopOf st,rfl⟩,rfl,start,c2',c1',lR _⟩) ?_)
   ·refine λ i=>all5 λ r o ia ib mg st1 Ω hin hI=>an6 hI λ hE0 hE1 hm hia hib hcnt=>?_
    obtain⟨g,rfl⟩:=hE0;obtain rfl:=hE1;dsimp only at hm hia hib hcnt ⊢
    refine wpS_bind (wpS_mono (wpS_forRange (I:=λ i (d:Option (Array Keyed) × Array Keyed × Nat × Nat × Nat × Nat) st'=>(∃g,st'=setG st g)/\d.1=none/\MA R a b d.2.1 d.2.2.1 d.2.2.2.1/\d.2.2.1+1<a.size/\d.2.2.2.1<b.size/\ia+ib+i<=d.2.2.1+d.2.2.2.1)
     (Q:=λ d st'=>(∃g,st'=setG st g)/\((∃X,d.1=some X/\Mgd R a b X)\/(d.1=none/\MA R a b d.2.1 d.2.2.1 d.2.2.2.1/\d.2.2.1+1<a.size/\d.2.2.2.1<b.size/\ia+ib+1<=d.2.2.1+d.2.2.2.1))) ?_ ?_ ⟨⟨g,rfl⟩,rfl,hm,hia,hib,lR _⟩) ?_)
    ·refine λ i2=>all6 λ r o ja jb ac bc st2 Ω hin2 hI=>an6 hI λ hE0 hE1 hm hja hjb hcn=>?_
     obtain⟨g,rfl⟩:=hE0;obtain rfl:=hE1;dsimp only at hm hja hjb hcn ⊢;refine wpS_bind (zAP (zAS hjb) (wpS_bind (zAP (zAS (show ja<a.size by lia)) ?_)));refine wpS_bind (L.lt _ _ (m.gb_at hjb) (m.ga_at 31) _ _ hk ?_);dsimp only;refine zAL (λ c=>?_) (λ c=>?_)
     ·refine wpS_bind (zAP (zAS hjb) ?_)
      have hm2:=hm.pb hjb λ j h1 h2=>L.tr _ _ _ (m.ga_at h2) (m.ga_at 31) (m.gb_at hjb) (m.a_le L h1 h2) (L.asym _ _ (m.gb_at hjb) (m.ga_at 31) c);refine zAL (λ e=>?_) (λ e=>?_)
      ·exact wpS_pure ⟨⟨g,rfl⟩,.inl ⟨_,rfl,hm2.done (.inr (by have:=eq_of_beq e;lia))⟩⟩
      ·have e':jb+1<b.size:=by
        have:¬jb+1=b.size:=by simpa using e
        lia
       refine zAL (λ f=>?_) (λ f=>?_)
       ·exact wpS_pure ⟨⟨g,rfl⟩,.inr ⟨rfl,hm2,hja,e',by dsimp only;lia⟩⟩
       ·exact wpS_pure ⟨⟨g,rfl⟩,rfl,hm2,hja,e',by dsimp only;lia⟩
     ·have c':R (b.getD jb d0) (a.getD ja d0)=false:=by simpa using c
      refine wpS_bind (zAP (zAS (show ja<a.size by lia)) ?_);have hm2:=hm.pa (show ja<a.size by lia) λ j h1 h2=>L.tr _ _ _ (m.gb_at h2) (m.gb_at hjb) (m.ga_at 31) (m.b_le L h1 h2) c';refine zAL (λ e=>?_) (λ e=>?_)
      ·exact wpS_pure ⟨⟨g,rfl⟩,.inl ⟨_,rfl,hlast hm2 (eq_of_beq e)⟩⟩
      ·have e':ja+1+1<a.size:=by
        have:¬ja+1+1=a.size:=by simpa using e
        lia
       refine zAL (λ f=>?_) (λ f=>?_)
       ·exact wpS_pure ⟨⟨g,rfl⟩,.inr ⟨rfl,hm2,e',hjb,by dsimp only;lia⟩⟩
       ·exact wpS_pure ⟨⟨g,rfl⟩,rfl,hm2,e',hjb,by dsimp only;lia⟩
    ·refine all6 λ r o ja jb ac bc st2 hI=>an6 hI λ hE0 hE1 hm hja hjb hcn=>?_
     obtain⟨g,rfl⟩:=hE0;obtain rfl:=hE1;dsimp only at hm hja hjb hcn;exfalso
     lia
    refine all6 λ r o ja jb ac bc st2 hI=>?_;obtain⟨⟨g,rfl⟩,hres⟩:=hI;rcases hres with ⟨X,hX,hM⟩|⟨hX,hm,hja,hjb,hcn⟩
    ·dsimp only at hX
     subst hX;exact wpS_pure ⟨⟨g,rfl⟩,X,rfl,hM⟩
    ·dsimp only at hX hm hja hjb hcn ⊢
     subst hX;dsimp only;refine wpS_bind (zB3 ?_)
     refine wpS_bind (wpS_mono (wpS_forRange (I:=λ i (d:Option (Array Keyed) × Array Keyed × Nat × Nat × Nat × Nat × Nat) st'=>(∃g,st'=setG st g)/\d.1=none/\MA R a b d.2.1 d.2.2.1 d.2.2.2.1/\d.2.2.1+1<a.size/\d.2.2.2.1<b.size/\ja+jb+i<=d.2.2.1+d.2.2.2.1)
      (Q:=λ d st'=>(∃g,st'=setG st g)/\((∃X,d.1=some X/\Mgd R a b X)\/(d.1=none/\MA R a b d.2.1 d.2.2.1 d.2.2.2.1/\d.2.2.1+1<a.size/\d.2.2.2.1<b.size/\ja+jb<=d.2.2.1+d.2.2.2.1))) ?_ ?_ ⟨⟨g,rfl⟩,rfl,hm,hja,hjb,lR _⟩) ?_)
     ·refine λ i2=>all7 λ r o ka kb mg2 ac2 bc2 st3 Ω hin2 hI=>an6 hI λ hE0 hE1 hm hka hkb hcn2=>?_
      obtain⟨g,rfl⟩:=hE0;obtain rfl:=hE1;dsimp only at hm hka hkb hcn2 ⊢;refine zAL (λ cg=>?_) (λ cg=>?_)
      ·refine wpS_bind (zBj ?_)
       refine wpS_bind (zAP (zAS hkb) ?_);refine wpS_bind (zA1 L (left:=false) (f:=λ i=>a.getD (ka+i) d0) hk (m.gb_at hkb) (λ i hi=>zAS 31) (λ i hi=>m.ga_at 31) 31 (zFG L (m.gb_at hkb) (λ i hi=>m.ga_at 31) (λ i j hij hj=>m.a_le L 31 31)) λ k hkn hk1 hk2=>?_);dsimp only;have le1:∀i,i<k->∀j,kb<=j->j<b.size->R (b.getD j d0) (a.getD (ka+i) d0)=false:=λ i hi j h1 h2=>L.tr _ _ _ (m.gb_at h2) (m.gb_at hkb) (m.ga_at 31) (m.b_le L h1 h2) (by have:=hk1 i hi;simpa[byd] using this);have gt1:∀j,ka+k<=j->j<a.size->R (a.getD j d0) (b.getD kb d0)=false:=λ j h1 h2=>L.asym _ _ (m.gb_at hkb) (m.ga_at h2) (by have:=hk2 (j - ka) 31 31;simpa[byd,show ka+(j - ka)=j by lia] using this);refine zAL (λ ck=>?_) (λ ck=>?_)
       ·have hm1:=hm.ka (k:=k) λ i hi Ω j h1 h2=>le1 i hi j h1 h2
        refine zAL (λ e=>?_) (λ e=>?_)
        ·exact wpS_pure ⟨43,.inl ⟨_,rfl,hlast hm1 (eq_of_beq e)⟩⟩
        ·have e':¬ka+k+1=a.size:=by simpa using e
         refine zAL (λ e2=>?_) (λ e2=>?_)
         ·exact wpS_pure ⟨43,.inl ⟨_,rfl,hm1.done (.inl (by have:=eq_of_beq e2;lia))⟩⟩
         ·have e2':¬ka+k=a.size:=by simpa using e2
          refine wpS_bind (zAP (zAS hkb) ?_);have hm3:=hm1.pb hkb λ j h1 h2=>gt1 j 31 h2;refine zAL (λ e3=>?_) (λ e3=>?_)
          ·exact wpS_pure ⟨43,.inl ⟨_,rfl,hm3.done (.inr (by have:=eq_of_beq e3;lia))⟩⟩
          ·have e3':¬kb+1=b.size:=by simpa using e3
           refine wpS_bind (zAP (zAS (show ka+k<a.size by lia)) ?_);refine wpS_bind 60;dsimp only;have le2:∀i,i<k1->kb+1+i<b.size->∀j,ka+k<=j->j<a.size->R (a.getD j d0) (b.getD (kb+1+i) d0)=false:=λ i hi hib j h1 h2=>L.tr _ _ _ (m.ga_at h2) (m.ga_at 31) (m.gb_at hib) (m.a_le L h1 h2) (L.asym _ _ (m.gb_at hib) (m.ga_at 31) (by have:=hk11 i hi;simpa[byd] using this));have gt2:∀j,kb+1+k1<=j->j<b.size->R (b.getD j d0) (a.getD (ka+k) d0)=false:=λ j h1 h2=>by have:=hk12 (j - (kb+1)) 31 31;simpa[byd,show kb+1+(j - (kb+1))=j by lia] using this
           refine zAL (λ ck1=>?_) (λ ck1=>?_)
           ·have hm4:=hm3.kb (k:=k1) λ i hi hib j h1 h2=>le2 i hi hib j h1 h2
            refine zAL (λ e4=>?_) (λ e4=>?_)
            ·exact wpS_pure ⟨43,.inl ⟨_,rfl,hm4.done (.inr (by have:=eq_of_beq e4;lia))⟩⟩
            ·have e4':¬kb+1+k1=b.size:=by simpa using e4
             refine wpS_bind (zAP (zAS (show ka+k<a.size by lia)) ?_);have hm5:=hm4.pa (show ka+k<a.size by lia) λ j h1 h2=>gt2 j 31 h2;refine zAL (λ e5=>?_) (λ e5=>?_)
             ·exact wpS_pure ⟨43,.inl ⟨_,rfl,hlast hm5 (eq_of_beq e5)⟩⟩
             ·have e5':¬ka+k+1+1=a.size:=by simpa using e5
              refine zAL (λ f=>?_) (λ f=>?_)
              ·exact wpS_pure ⟨43,.inr ⟨rfl,hm5,37,37,by dsimp only;lia⟩⟩
              ·exact wpS_pure ⟨43,rfl,hm5,37,37,by dsimp only;lia⟩
           ·have:k1=0:=by lia
            subst this;refine wpS_bind (zAP (zAS (show ka+k<a.size by lia)) ?_);have hm5:=hm3.pa (show ka+k<a.size by lia) λ j h1 h2=>gt2 j 31 h2;refine zAL (λ e5=>?_) (λ e5=>?_)
            ·exact wpS_pure ⟨43,.inl ⟨_,rfl,hlast hm5 (eq_of_beq e5)⟩⟩
            ·have e5':¬ka+k+1+1=a.size:=by simpa using e5
             refine zAL (λ f=>?_) (λ f=>?_)
             ·exact wpS_pure ⟨43,.inr ⟨rfl,hm5,37,37,by dsimp only;lia⟩⟩
             ·exact wpS_pure ⟨43,rfl,hm5,37,37,by dsimp only;lia⟩
       ·have:k=0:=by lia
        subst this;have hm1:=hm;refine wpS_bind (zAP (zAS hkb) ?_);have hm3:=hm1.pb hkb λ j h1 h2=>gt1 j 31 h2;refine zAL (λ e3=>?_) (λ e3=>?_)
        ·exact wpS_pure ⟨43,.inl ⟨_,rfl,hm3.done (.inr (by have:=eq_of_beq e3;lia))⟩⟩
        ·have e3':¬kb+1=b.size:=by simpa using e3
         refine wpS_bind (zAP (zAS (show ka<a.size by lia)) ?_);refine wpS_bind 60;dsimp only;have le2:∀i,i<k1->kb+1+i<b.size->∀j,ka<=j->j<a.size->R (a.getD j d0) (b.getD (kb+1+i) d0)=false:=λ i hi hib j h1 h2=>L.tr _ _ _ (m.ga_at h2) (m.ga_at 31) (m.gb_at hib) (m.a_le L h1 h2) (L.asym _ _ (m.gb_at hib) (m.ga_at 31) (by have:=hk11 i hi;simpa[byd] using this));have gt2:∀j,kb+1+k1<=j->j<b.size->R (b.getD j d0) (a.getD (ka) d0)=false:=λ j h1 h2=>by have:=hk12 (j - (kb+1)) 31 31;simpa[byd,show kb+1+(j - (kb+1))=j by lia] using this
         refine zAL (λ ck1=>?_) (λ ck1=>?_)
         ·have hm4:=hm3.kb (k:=k1) λ i hi hib j h1 h2=>le2 i hi hib j h1 h2
          refine zAL (λ e4=>?_) (λ e4=>?_)
          ·exact wpS_pure ⟨43,.inl ⟨_,rfl,hm4.done (.inr (by have:=eq_of_beq e4;lia))⟩⟩
          ·have e4':¬kb+1+k1=b.size:=by simpa using e4
           refine wpS_bind (zAP (zAS (show ka<a.size by lia)) ?_);have hm5:=hm4.pa (show ka<a.size by lia) λ j h1 h2=>gt2 j 31 h2;refine zAL (λ e5=>?_) (λ e5=>?_)
           ·exact wpS_pure ⟨43,.inl ⟨_,rfl,hlast hm5 (eq_of_beq e5)⟩⟩
           ·have e5':¬ka+1+1=a.size:=by simpa using e5
            refine zAL (λ f=>?_) (λ f=>?_)
            ·exact wpS_pure ⟨43,.inr ⟨rfl,hm5,37,37,by dsimp only;lia⟩⟩
            ·exact wpS_pure ⟨43,rfl,hm5,37,37,by dsimp only;lia⟩
         ·have:k1=0:=by lia
          subst this;refine wpS_bind (zAP (zAS (show ka<a.size by lia)) ?_);have hm5:=hm3.pa (show ka<a.size by lia) λ j h1 h2=>gt2 j 31 h2;refine zAL (λ e5=>?_) (λ e5=>?_)
          ·exact wpS_pure ⟨43,.inl ⟨_,rfl,hlast hm5 (eq_of_beq e5)⟩⟩
          ·have e5':¬ka+1+1=a.size:=by simpa using e5
           refine zAL (λ f=>?_) (λ f=>?_)
           ·exact wpS_pure ⟨43,.inr ⟨rfl,hm5,37,37,by dsimp only;lia⟩⟩
           ·exact wpS_pure ⟨43,rfl,hm5,37,37,by dsimp only;lia⟩
      ·refine wpS_bind (zBj ?_)
       refine wpS_bind (zAP (zAS hkb) ?_);refine wpS_bind (zA1 L (left:=false) (f:=λ i=>a.getD (ka+i) d0) hk (m.gb_at hkb) (λ i hi=>zAS 31) (λ i hi=>m.ga_at 31) 31 (zFG L (m.gb_at hkb) (λ i hi=>m.ga_at 31) (λ i j hij hj=>m.a_le L 31 31)) λ k hkn hk1 hk2=>?_);dsimp only;have le1:∀i,i<k->∀j,kb<=j->j<b.size->R (b.getD j d0) (a.getD (ka+i) d0)=false:=λ i hi j h1 h2=>L.tr _ _ _ (m.gb_at h2) (m.gb_at hkb) (m.ga_at 31) (m.b_le L h1 h2) (by have:=hk1 i hi;simpa[byd] using this);have gt1:∀j,ka+k<=j->j<a.size->R (a.getD j d0) (b.getD kb d0)=false:=λ j h1 h2=>L.asym _ _ (m.gb_at hkb) (m.ga_at h2) (by have:=hk2 (j - ka) 31 31;simpa[byd,show ka+(j - ka)=j by lia] using this);refine zAL (λ ck=>?_) (λ ck=>?_)
       ·have hm1:=hm.ka (k:=k) λ i hi Ω j h1 h2=>le1 i hi j h1 h2
        refine zAL (λ e=>?_) (λ e=>?_)
        ·exact wpS_pure ⟨43,.inl ⟨_,rfl,hlast hm1 (eq_of_beq e)⟩⟩
        ·have e':¬ka+k+1=a.size:=by simpa using e
         refine zAL (λ e2=>?_) (λ e2=>?_)
         ·exact wpS_pure ⟨43,.inl ⟨_,rfl,hm1.done (.inl (by have:=eq_of_beq e2;lia))⟩⟩
         ·have e2':¬ka+k=a.size:=by simpa using e2
          refine wpS_bind (zAP (zAS hkb) ?_);have hm3:=hm1.pb hkb λ j h1 h2=>gt1 j 31 h2;refine zAL (λ e3=>?_) (λ e3=>?_)
          ·exact wpS_pure ⟨43,.inl ⟨_,rfl,hm3.done (.inr (by have:=eq_of_beq e3;lia))⟩⟩
          ·have e3':¬kb+1=b.size:=by simpa using e3
           refine wpS_bind (zAP (zAS (show ka+k<a.size by lia)) ?_);refine wpS_bind 60;dsimp only;have le2:∀i,i<k1->kb+1+i<b.size->∀j,ka+k<=j->j<a.size->R (a.getD j d0) (b.getD (kb+1+i) d0)=false:=λ i hi hib j h1 h2=>L.tr _ _ _ (m.ga_at h2) (m.ga_at 31) (m.gb_at hib) (m.a_le L h1 h2) (L.asym _ _ (m.gb_at hib) (m.ga_at 31) (by have:=hk11 i hi;simpa[byd] using this));have gt2:∀j,kb+1+k1<=j->j<b.size->R (b.getD j d0) (a.getD (ka+k) d0)=false:=λ j h1 h2=>by have:=hk12 (j - (kb+1)) 31 31;simpa[byd,show kb+1+(j - (kb+1))=j by lia] using this
           refine zAL (λ ck1=>?_) (λ ck1=>?_)
           ·have hm4:=hm3.kb (k:=k1) λ i hi hib j h1 h2=>le2 i hi hib j h1 h2
            refine zAL (λ e4=>?_) (λ e4=>?_)
            ·exact wpS_pure ⟨43,.inl ⟨_,rfl,hm4.done (.inr (by have:=eq_of_beq e4;lia))⟩⟩
            ·have e4':¬kb+1+k1=b.size:=by simpa using e4
             refine wpS_bind (zAP (zAS (show ka+k<a.size by lia)) ?_);have hm5:=hm4.pa (show ka+k<a.size by lia) λ j h1 h2=>gt2 j 31 h2;refine zAL (λ e5=>?_) (λ e5=>?_)
             ·exact wpS_pure ⟨43,.inl ⟨_,rfl,hlast hm5 (eq_of_beq e5)⟩⟩
             ·have e5':¬ka+k+1+1=a.size:=by simpa using e5
              refine zAL (λ f=>?_) (λ f=>?_)
              ·exact wpS_pure ⟨43,.inr ⟨rfl,hm5,37,37,by dsimp only;lia⟩⟩
              ·exact wpS_pure ⟨43,rfl,hm5,37,37,by dsimp only;lia⟩
           ·have:k1=0:=by lia
            subst this;refine wpS_bind (zAP (zAS (show ka+k<a.size by lia)) ?_);have hm5:=hm3.pa (show ka+k<a.size by lia) λ j h1 h2=>gt2 j 31 h2;refine zAL (λ e5=>?_) (λ e5=>?_)
            ·exact wpS_pure ⟨43,.inl ⟨_,rfl,hlast hm5 (eq_of_beq e5)⟩⟩
            ·have e5':¬ka+k+1+1=a.size:=by simpa using e5
             refine zAL (λ f=>?_) (λ f=>?_)
             ·exact wpS_pure ⟨43,.inr ⟨rfl,hm5,37,37,by dsimp only;lia⟩⟩
             ·exact wpS_pure ⟨43,rfl,hm5,37,37,by dsimp only;lia⟩
       ·have:k=0:=by lia
        subst this;have hm1:=hm;refine wpS_bind (zAP (zAS hkb) ?_);have hm3:=hm1.pb hkb λ j h1 h2=>gt1 j 31 h2;refine zAL (λ e3=>?_) (λ e3=>?_)
        ·exact wpS_pure ⟨43,.inl ⟨_,rfl,hm3.done (.inr (by have:=eq_of_beq e3;lia))⟩⟩
        ·have e3':¬kb+1=b.size:=by simpa using e3
         refine wpS_bind (zAP (zAS (show ka<a.size by lia)) ?_);refine wpS_bind 60;dsimp only;have le2:∀i,i<k1->kb+1+i<b.size->∀j,ka<=j->j<a.size->R (a.getD j d0) (b.getD (kb+1+i) d0)=false:=λ i hi hib j h1 h2=>L.tr _ _ _ (m.ga_at h2) (m.ga_at 31) (m.gb_at hib) (m.a_le L h1 h2) (L.asym _ _ (m.gb_at hib) (m.ga_at 31) (by have:=hk11 i hi;simpa[byd] using this));have gt2:∀j,kb+1+k1<=j->j<b.size->R (b.getD j d0) (a.getD (ka) d0)=false:=λ j h1 h2=>by have:=hk12 (j - (kb+1)) 31 31;simpa[byd,show kb+1+(j - (kb+1))=j by lia] using this
         refine zAL (λ ck1=>?_) (λ ck1=>?_)
         ·have hm4:=hm3.kb (k:=k1) λ i hi hib j h1 h2=>le2 i hi hib j h1 h2
          refine zAL (λ e4=>?_) (λ e4=>?_)
          ·exact wpS_pure ⟨43,.inl ⟨_,rfl,hm4.done (.inr (by have:=eq_of_beq e4;lia))⟩⟩
          ·have e4':¬kb+1+k1=b.size:=by simpa using e4
           refine wpS_bind (zAP (zAS (show ka<a.size by lia)) ?_);have hm5:=hm4.pa (show ka<a.size by lia) λ j h1 h2=>gt2 j 31 h2;refine zAL (λ e5=>?_) (λ e5=>?_)
           ·exact wpS_pure ⟨43,.inl ⟨_,rfl,hlast hm5 (eq_of_beq e5)⟩⟩
           ·have e5':¬ka+1+1=a.size:=by simpa using e5
            refine zAL (λ f=>?_) (λ f=>?_)
            ·exact wpS_pure ⟨43,.inr ⟨rfl,hm5,37,37,by dsimp only;lia⟩⟩
            ·exact wpS_pure ⟨43,rfl,hm5,37,37,by dsimp only;lia⟩
         ·have:k1=0:=by lia
          subst this;refine wpS_bind (zAP (zAS (show ka<a.size by lia)) ?_);have hm5:=hm3.pa (show ka<a.size by lia) λ j h1 h2=>gt2 j 31 h2;refine zAL (λ e5=>?_) (λ e5=>?_)
          ·exact wpS_pure ⟨43,.inl ⟨_,rfl,hlast hm5 (eq_of_beq e5)⟩⟩
          ·have e5':¬ka+1+1=a.size:=by simpa using e5
           refine zAL (λ f=>?_) (λ f=>?_)
           ·exact wpS_pure ⟨43,.inr ⟨rfl,hm5,37,37,by dsimp only;lia⟩⟩
           ·exact wpS_pure ⟨43,rfl,hm5,37,37,by dsimp only;lia⟩
     ·refine all7 λ r o ka kb mg2 ac2 bc2 st3 hI=>an6 hI λ hE0 hE1 hm hka hkb hcn2=>?_
      obtain⟨g,rfl⟩:=hE0;obtain rfl:=hE1;dsimp only at hm hka hkb hcn2;exfalso
      lia
     refine all7 λ r o ka kb mg2 ac2 bc2 st3 hI=>?_;obtain⟨⟨g,rfl⟩,hres⟩:=hI;rcases hres with ⟨X,hX,hM⟩|⟨hX,hm,hka,hkb,hcn2⟩
     ·dsimp only at hX
      subst hX;exact wpS_pure ⟨⟨g,rfl⟩,X,rfl,hM⟩
     ·dsimp only at hX hm hka hkb hcn2 ⊢
      subst hX;dsimp only;refine wpS_bind (zBj (wpS_pure ⟨43,rfl,hm,hka,hkb,?_⟩));dsimp only
      lia
   ·refine all5 λ r o ia ib mg st1 hI=>an6 hI λ hE0 hE1 hm hia hib hcnt=>?_
    obtain⟨g,rfl⟩:=hE0;obtain rfl:=hE1;dsimp only at hm hia hib hcnt;exfalso
    lia
   refine all5 λ r o ia ib mg st1 hI=>?_;obtain⟨⟨g,rfl⟩,X,hX,hM⟩:=hI;dsimp only at hX ⊢;subst hX;exact wpS_pure (h X g hM)
end
section
variable {M:Model}{A:Around}{E:XQ}{s:Shared}{κ:SortKind}{G:Keyed->Prop}{R:Keyed->Keyed->Bool}
abbrev flR (R:Keyed->Keyed->Bool):Keyed->Keyed->Bool:=λ x y=>R y x
theorem zHm {l:List Keyed}:OL (flR R) l.reverse↔OL R l:=by
 unfold OL;rw[List.pairwise_reverse]
section
variable {a b o:Array Keyed}{na nb k:Nat}
abbrev MB (R:Keyed->Keyed->Bool) (a b o:Array Keyed) (na nb:Nat):Prop:=MI (flR R) a.toList.reverse b.toList.reverse o.toList (a.toList.take na).reverse (b.toList.take nb).reverse
theorem zG9 {a:Array Keyed}{i:Nat}(h0:0<i) (h:i<=a.size):(a.toList.take i).reverse=a.getD (i - 1) d0::(a.toList.take (i - 1)).reverse:=by
 obtain⟨j,rfl⟩:∃j,i=j+1:=⟨i - 1,by lia⟩;rw[List.take_succ_eq_append_getElem (by simp;lia),rF];have:a.getD j d0=a[j]'(by lia):=by simp[Array.getD,show j<a.size by lia]
 rw[Nat.add_sub_cancel,this];rfl
theorem zBZ {a:Array Keyed}{i:Nat}{x:Keyed}(h:x∈(a.toList.take i).reverse):∃j,j<i/\j<a.size/\x=a.getD j d0:=by
 rw[List.mem_reverse] at h;obtain⟨j,hj,e⟩:=List.getElem_of_mem h;rw[mQ] at hj;have hj':j<a.size:=by simp at hj;lia
 refine⟨j,by lia,hj',?_⟩;rw[←e,List.getElem_take];simp[Array.getD,hj']
theorem MB.pb (h:MB R a b o na nb) (h1:0<nb) (hb:nb<=b.size) (hp:∀j,j<na->j<a.size->R (b.getD (nb - 1) d0) (a.getD j d0)=false):MB R a b (o.push (b.getD (nb - 1) d0)) na (nb - 1):=by
 unfold MB at h ⊢;rw[zG9 h1 hb] at h;rw[Array.toList_push];refine MI.b (p:=[b.getD (nb - 1) d0]) h λ x hx y hy=>?_;rw[mX] at hx;subst hx;obtain⟨j,j1,j2,rfl⟩:=zBZ hy;exact hp j j1 j2
theorem MB.pa (h:MB R a b o na nb) (h1:0<na) (ha:na<=a.size) (hp:∀j,j<nb->j<b.size->R (a.getD (na - 1) d0) (b.getD j d0)=false):MB R a b (o.push (a.getD (na - 1) d0)) (na - 1) nb:=by
 unfold MB at h ⊢;rw[zG9 h1 ha] at h;rw[Array.toList_push];refine MI.a (p:=[a.getD (na - 1) d0]) h λ x hx y hy=>?_;rw[mX] at hx;subst hx;obtain⟨j,j1,j2,rfl⟩:=zBZ hy;exact hp j j1 j2
theorem zJ9 (a:Array Keyed) (i n:Nat):(a.extract i n).reverse.toList=((a.toList.take n).drop i).reverse:=by
 rw[Array.toList_reverse,Array.toList_extract,List.extract_eq_take_drop,List.drop_take]
theorem zD8 (l:List Keyed) {i n:Nat}(h:i<=n):(l.take n).reverse=((l.take n).drop i).reverse++(l.take i).reverse:=by
 rw[←rF];congr 1;have:l.take i=(l.take n).take i:=by rw[List.take_take,Nat.min_eq_left h]
 rw[this,List.take_append_drop]
theorem zHv {a:Array Keyed}{i n:Nat}{x:Keyed}(h:x∈((a.toList.take n).drop i).reverse):∃j,i<=j/\j<n/\j<a.size/\x=a.getD j d0:=by
 rw[List.mem_reverse] at h;obtain⟨j,hj,e⟩:=List.getElem_of_mem h;rw[nC,mQ] at hj;have hj':i+j<a.size:=by simp at hj;lia
 refine⟨i+j,by lia,by lia,hj',?_⟩;rw[←e,List.getElem_drop,List.getElem_take];simp[Array.getD,hj']
theorem MB.ka (h:MB R a b o na nb) (hk:k<=na) (hp:∀i,k<=i->i<na->i<a.size->∀j,j<nb->j<b.size->R (a.getD i d0) (b.getD j d0)=false):MB R a b (o++(a.extract k na).reverse) k nb:=by
 unfold MB at h ⊢;rw[Array.toList_append,zJ9];refine MI.a (p:=((a.toList.take na).drop k).reverse) (by rw[←zD8 _ hk];exact h) λ x hx y hy=>?_;obtain⟨i,i1,i2,i3,rfl⟩:=zHv hx;obtain⟨j,h1,h2,rfl⟩:=zBZ hy;exact hp i i1 i2 i3 j h1 h2
theorem MB.kb (h:MB R a b o na nb) (hk:k<=nb) (hp:∀i,k<=i->i<nb->i<b.size->∀j,j<na->j<a.size->R (b.getD i d0) (a.getD j d0)=false):MB R a b (o++(b.extract k nb).reverse) na k:=by
 unfold MB at h ⊢;rw[Array.toList_append,zJ9];refine MI.b (p:=((b.toList.take nb).drop k).reverse) (by rw[←zD8 _ hk];exact h) λ x hx y hy=>?_;obtain⟨i,i1,i2,i3,rfl⟩:=zHv hx;obtain⟨j,h1,h2,rfl⟩:=zBZ hy;exact hp i i1 i2 i3 j h1 h2
theorem ex_0 (a:Array Keyed) (n:Nat):(a.extract 0 n).toList=a.toList.take n:=by
 rw[Array.toList_extract,List.extract_eq_take_drop];simp
theorem zHs {x:Array Keyed}(h:OL (flR R) x.toList.reverse/\x.toList.reverse.Perm (a.toList.reverse++b.toList.reverse)):Mgd R a b x:=by
 refine⟨zHm.mp h.1,?_⟩;exact(List.reverse_perm _).symm.trans (h.2.trans ((List.reverse_perm _).append (List.reverse_perm _)))
theorem MB.done (h:MB R a b o na nb) (hd:na=0\/nb=0):Mgd R a b (a.extract 0 na++b.extract 0 nb++o.reverse):=by
 refine zHs ?_;rw[Array.toList_append,Array.toList_append,ex_0,ex_0,Array.toList_reverse,rF,rF,List.reverse_reverse,←nE];refine MI.fin2 h λ x hx y hy=>?_;obtain⟨i,i1,i2,_⟩:=zBZ hx;obtain⟨j,j1,j2,_⟩:=zBZ hy
 lia
theorem MB.first (h:MB R a b o na nb) (hl:∀i,i<na->i<a.size->∀j,j<nb->j<b.size->R (a.getD i d0) (b.getD j d0)=false):Mgd R a b (b.extract 0 nb++a.extract 0 na++o.reverse):=by
 refine zHs ?_;rw[Array.toList_append,Array.toList_append,ex_0,ex_0,Array.toList_reverse,rF,rF,List.reverse_reverse,←nE];refine MI.fin h λ x hx y hy=>?_;obtain⟨i,i1,i2,rfl⟩:=zBZ hx;obtain⟨j,j1,j2,rfl⟩:=zBZ hy;exact hl i i1 i2 j j1 j2
end
theorem zGn (L:LtE M A E s κ G R) {a b:Array Keyed}{st:SortSt}{Q:Array Keyed->SortSt->Prop}(hk:kindOf st=κ) (m:ML R G a b) (ha:0<a.size) (hb:0<b.size)
  (h0:∀i,i<a.size->R (a.getD i d0) (b.getD 0 d0)=false) (hl:∀j,j<b.size->R (a.getD (a.size - 1) d0) (b.getD j d0)=false)
  (h:∀out g,Mgd R a b out->Q out (setG st g)):wpS M A E s (zJL a b) Q st:=by
 have start:MB R a b #[a.getD (a.size - 1) d0] (a.size - 1) b.size:=by
  have z:MB R a b #[] a.size b.size:=⟨List.Pairwise.nil,(λ x hx=>nomatch hx),by
   have e1:a.toList.take a.size=a.toList:=nB 41;have e2:b.toList.take b.size=b.toList:=nB 41;rw[e1,e2];simp,by
   have e1:a.toList.take a.size=a.toList:=nB 41;rw[e1];exact zHm.mpr m.oa,by
   have e2:b.toList.take b.size=b.toList:=nB 41;rw[e2];exact zHm.mpr m.ob⟩
  have:=z.pa ha (lR _) λ j Ω hj=>hl j hj;simpa using this
 have hfirst:∀{o:Array Keyed}{na nb:Nat},MB R a b o na nb->nb=1->Mgd R a b (b.extract 0 nb++a.extract 0 na++o.reverse):=λ{o na nb} h e=>h.first λ i Ω hi j hj1 hj2=>by
  have:j=0:=by lia
  rw[this];exact h0 i hi
 refine wpS_bind (zB3 ?_);refine wpS_bind (zAP (zAS (show a.size - 1<a.size by lia)) ?_);dsimp only;refine zAL (λ c1=>?_) (λ c1=>?_)
 ·exact wpS_pure (h _ (gallopOf st) (start.done (.inl (eq_of_beq c1))))
 ·have c1':¬a.size - 1=0:=by simpa using c1
  refine zAL (λ c2=>?_) (λ c2=>?_)
  ·exact wpS_pure (h _ (gallopOf st) (hfirst start (eq_of_beq c2)))
  ·have c2':¬b.size=1:=by simpa using c2
   refine wpS_bind (wpS_get ?_)
   refine wpS_bind (wpS_mono (wpS_forRange (I:=λ i (c:Option (Array Keyed) × Nat × Nat × Array Keyed × Nat) st'=>(∃g,st'=setG st g)/\c.1=none/\MB R a b c.2.2.2.1 c.2.1 c.2.2.1/\0<c.2.1/\1<c.2.2.1/\c.2.1<=a.size/\c.2.2.1<=b.size/\i+1+c.2.1+c.2.2.1<=a.size+b.size)
    (Q:=λ c st'=>(∃g,st'=setG st g)/\∃X,c.1=some X/\Mgd R a b X) ?_ ?_ ⟨⟨gallopOf st,rfl⟩,rfl,start,37,37,37,lR _,by dsimp only;lia⟩) ?_)
   ·refine λ i=>all5 λ r na nb o mg st1 Ω hin hI=>an8 hI λ hE0 hE1 hm hia hib hia2 hib2 hcnt=>?_
    obtain⟨g,rfl⟩:=hE0;obtain rfl:=hE1;dsimp only at hm hia hib hia2 hib2 hcnt ⊢
    refine wpS_bind (wpS_mono (wpS_forRange (I:=λ i (d:Option (Array Keyed) × Nat × Nat × Array Keyed × Nat × Nat) st'=>(∃g,st'=setG st g)/\d.1=none/\MB R a b d.2.2.2.1 d.2.1 d.2.2.1/\0<d.2.1/\1<d.2.2.1/\d.2.1<=a.size/\d.2.2.1<=b.size/\i+d.2.1+d.2.2.1<=na+nb)
     (Q:=λ d st'=>(∃g,st'=setG st g)/\((∃X,d.1=some X/\Mgd R a b X)\/(d.1=none/\MB R a b d.2.2.2.1 d.2.1 d.2.2.1/\0<d.2.1/\1<d.2.2.1/\d.2.1<=a.size/\d.2.2.1<=b.size/\1+d.2.1+d.2.2.1<=na+nb))) ?_ ?_ ⟨⟨g,rfl⟩,rfl,hm,hia,hib,hia2,hib2,by dsimp only;lia⟩) ?_)
    ·refine λ i2=>all6 λ r ja jb o ac bc st2 Ω hin2 hI=>an8 hI λ hE0 hE1 hm hja hjb hja2 hjb2 hcn=>?_
     obtain⟨g,rfl⟩:=hE0;obtain rfl:=hE1;dsimp only at hm hja hjb hja2 hjb2 hcn ⊢;refine wpS_bind (zAP (zAS (show jb - 1<b.size by lia)) (wpS_bind (zAP (zAS (show ja - 1<a.size by lia)) ?_)));refine wpS_bind (L.lt _ _ (m.gb_at 31) (m.ga_at 31) _ _ hk ?_);dsimp only;refine zAL (λ c=>?_) (λ c=>?_)
     ·refine wpS_bind (zAP (zAS (show ja - 1<a.size by lia)) ?_)
      have hm2:=hm.pa hja hja2 λ j h1 h2=>L.tr _ _ _ (m.ga_at 31) (m.gb_at (show jb - 1<b.size by lia)) (m.gb_at h2) (L.asym _ _ (m.gb_at 31) (m.ga_at 31) c) (m.b_le L 31 31);refine zAL (λ e=>?_) (λ e=>?_)
      ·exact wpS_pure ⟨⟨g,rfl⟩,.inl ⟨_,rfl,hm2.done (.inl (eq_of_beq e))⟩⟩
      ·have e':¬ja - 1=0:=by simpa using e
       refine zAL (λ f=>?_) (λ f=>?_)
       ·exact wpS_pure ⟨⟨g,rfl⟩,.inr ⟨rfl,hm2,37,hjb,37,hjb2,by dsimp only;lia⟩⟩
       ·exact wpS_pure ⟨⟨g,rfl⟩,rfl,hm2,37,hjb,37,hjb2,by dsimp only;lia⟩
     ·have c':R (b.getD (jb - 1) d0) (a.getD (ja - 1) d0)=false:=by simpa using c
      refine wpS_bind (zAP (zAS (show jb - 1<b.size by lia)) ?_);have hm2:=hm.pb 31 hjb2 λ j h1 h2=>L.tr _ _ _ (m.gb_at 31) (m.ga_at (show ja - 1<a.size by lia)) (m.ga_at h2) c' (m.a_le L 31 31);refine zAL (λ e=>?_) (λ e=>?_)
      ·exact wpS_pure ⟨⟨g,rfl⟩,.inl ⟨_,rfl,hfirst hm2 (eq_of_beq e)⟩⟩
      ·have e':¬jb - 1=1:=by simpa using e
       refine zAL (λ f=>?_) (λ f=>?_)
       ·exact wpS_pure ⟨⟨g,rfl⟩,.inr ⟨rfl,hm2,hja,37,hja2,37,by dsimp only;lia⟩⟩
       ·exact wpS_pure ⟨⟨g,rfl⟩,rfl,hm2,hja,37,hja2,37,by dsimp only;lia⟩
    ·refine all6 λ r ja jb o ac bc st2 hI=>an8 hI λ hE0 hE1 hm hja hjb hja2 hjb2 hcn=>?_
     obtain⟨g,rfl⟩:=hE0;obtain rfl:=hE1;dsimp only at hm hja hjb hja2 hjb2 hcn;exfalso
     lia
    refine all6 λ r ja jb o ac bc st2 hI=>?_;obtain⟨⟨g,rfl⟩,hres⟩:=hI;rcases hres with ⟨X,hX,hM⟩|⟨hX,hm,hja,hjb,hja2,hjb2,hcn⟩
    ·dsimp only at hX
     subst hX;exact wpS_pure ⟨⟨g,rfl⟩,X,rfl,hM⟩
    ·dsimp only at hX hm hja hjb hja2 hjb2 hcn ⊢
     subst hX;dsimp only;refine wpS_bind (zB3 ?_)
     refine wpS_bind (wpS_mono (wpS_forRange (I:=λ i (d:Option (Array Keyed) × Nat × Nat × Array Keyed × Nat × Nat × Nat) st'=>(∃g,st'=setG st g)/\d.1=none/\MB R a b d.2.2.2.1 d.2.1 d.2.2.1/\0<d.2.1/\1<d.2.2.1/\d.2.1<=a.size/\d.2.2.1<=b.size/\i+d.2.1+d.2.2.1<=ja+jb)
      (Q:=λ d st'=>(∃g,st'=setG st g)/\((∃X,d.1=some X/\Mgd R a b X)\/(d.1=none/\MB R a b d.2.2.2.1 d.2.1 d.2.2.1/\0<d.2.1/\1<d.2.2.1/\d.2.1<=a.size/\d.2.2.1<=b.size/\d.2.1+d.2.2.1<=ja+jb))) ?_ ?_ ⟨⟨g,rfl⟩,rfl,hm,hja,hjb,hja2,hjb2,by dsimp only;lia⟩) ?_)
     ·refine λ i2=>all7 λ r ka kb o mg2 ac2 bc2 st3 Ω hin2 hI=>an8 hI λ hE0 hE1 hm hka hkb hka2 hkb2 hcn2=>?_
      obtain⟨g,rfl⟩:=hE0;obtain rfl:=hE1;dsimp only at hm hka hkb hka2 hkb2 hcn2 ⊢;refine zAL (λ cg=>?_) (λ cg=>?_)
      ·refine wpS_bind (zBj ?_)
       refine wpS_bind (zAP (zAS (show kb - 1<b.size by lia)) ?_);refine wpS_bind (zA1 L (left:=false) (f:=λ i=>a.getD (0+i) d0) hk (m.gb_at 31) (λ i hi=>zAS 31) (λ i hi=>m.ga_at 31) 31 (zFG L (m.gb_at 31) (λ i hi=>m.ga_at 31) (λ i j hij hj=>m.a_le L 31 31)) λ k hkn hk1 hk2=>?_);dsimp only;have le1:∀i,k<=i->i<ka->i<a.size->∀j,j<kb->j<b.size->R (a.getD i d0) (b.getD j d0)=false:=λ i h1 h2 h3 j h4 h5=>L.tr _ _ _ (m.ga_at h3) (m.gb_at (show kb - 1<b.size by lia)) (m.gb_at h5) (L.asym _ _ (m.gb_at 31) (m.ga_at h3) (by have:=hk2 i h1 h2;simpa[byd] using this)) (m.b_le L 31 31);have gt1:∀j,j<k->j<a.size->R (b.getD (kb - 1) d0) (a.getD j d0)=false:=λ j h1 h2=>by have:=hk1 j h1;simpa[byd] using this
       refine zAL (λ ck=>?_) (λ ck=>?_)
       ·have hm1:=hm.ka (k:=k) 31 λ i h1 h2 h3 j h4 h5=>le1 i h1 h2 h3 j h4 h5
        refine zAL (λ e=>?_) (λ e=>?_)
        ·exact wpS_pure ⟨43,.inl ⟨_,rfl,hm1.done (.inl (eq_of_beq e))⟩⟩
        ·have e':¬k=0:=by simpa using e
         refine wpS_bind (zAP (zAS (show kb - 1<b.size by lia)) ?_);have hm3:=hm1.pb (show 0<kb by lia) 31 λ j h1 h2=>gt1 j 31 h2;refine zAL (λ e3=>?_) (λ e3=>?_)
         ·exact wpS_pure ⟨43,.inl ⟨_,rfl,hfirst hm3 (eq_of_beq e3)⟩⟩
         ·have e3':¬kb - 1=1:=by simpa using e3
          refine wpS_bind (zAP (zAS (show k - 1<a.size by lia)) ?_);refine wpS_bind 61;dsimp only;have le2:∀i,k1<=i->i<kb - 1->i<b.size->∀j,j<k->j<a.size->R (b.getD i d0) (a.getD j d0)=false:=λ i hi hib hi2 j h1 h2=>L.tr _ _ _ (m.gb_at hi2) (m.ga_at (show k - 1<a.size by lia)) (m.ga_at h2) (by have:=hk12 i hi hib;simpa[byd] using this) (m.a_le L 31 31);have gt2:∀j,j<k1->j<b.size->R (a.getD (k - 1) d0) (b.getD j d0)=false:=λ j h1 h2=>L.asym _ _ (m.gb_at h2) (m.ga_at 31) (by have:=hk11 j h1;simpa[byd] using this);refine zAL (λ ck1=>?_) (λ ck1=>?_)
          ·have hm4:=hm3.kb (k:=k1) 31 λ i h1 h2 h3 j h4 h5=>le2 i h1 h2 h3 j h4 h5
           refine zAL (λ e4=>?_) (λ e4=>?_)
           ·exact wpS_pure ⟨43,.inl ⟨_,rfl,hfirst hm4 (eq_of_beq e4)⟩⟩
           ·have e4':¬k1=1:=by simpa using e4
            refine zAL (λ e6=>?_) (λ e6=>?_)
            ·exact wpS_pure ⟨43,.inl ⟨_,rfl,hm4.done (.inr (eq_of_beq e6))⟩⟩
            ·have e6':¬k1=0:=by simpa using e6
             refine wpS_bind (zAP (zAS (show k - 1<a.size by lia)) ?_);have hm5:=hm4.pa (show 0<k by lia) 31 λ j h1 h2=>gt2 j 31 h2;refine zAL (λ e5=>?_) (λ e5=>?_)
             ·exact wpS_pure 80
             ·have e5':¬k - 1=0:=by simpa using e5
              refine zAL (λ f=>?_) (λ f=>?_)
              ·exact wpS_pure 69
              ·exact wpS_pure ⟨43,rfl,hm5,37,37,37,37,by dsimp only;lia⟩
          ·have:k1=kb - 1:=by lia
           refine wpS_bind (zAP (zAS (show k - 1<a.size by lia)) ?_);have hm5:=hm3.pa (show 0<k by lia) 31 λ j h1 h2=>gt2 j 31 h2;refine zAL (λ e5=>?_) (λ e5=>?_)
           ·exact wpS_pure 80
           ·have e5':¬k - 1=0:=by simpa using e5
            refine zAL (λ f=>?_) (λ f=>?_)
            ·exact wpS_pure 69
            ·exact wpS_pure ⟨43,rfl,hm5,37,37,37,37,by dsimp only;lia⟩
       ·have:k=ka:=by lia
        have hm1:=hm;refine wpS_bind (zAP (zAS (show kb - 1<b.size by lia)) ?_);have hm3:=hm1.pb (show 0<kb by lia) 31 λ j h1 h2=>gt1 j 31 h2;refine zAL (λ e3=>?_) (λ e3=>?_)
        ·exact wpS_pure ⟨43,.inl ⟨_,rfl,hfirst hm3 (eq_of_beq e3)⟩⟩
        ·have e3':¬kb - 1=1:=by simpa using e3
         refine wpS_bind (zAP (zAS (show ka - 1<a.size by lia)) ?_);refine wpS_bind 61;dsimp only;have le2:∀i,k1<=i->i<kb - 1->i<b.size->∀j,j<ka->j<a.size->R (b.getD i d0) (a.getD j d0)=false:=λ i hi hib hi2 j h1 h2=>L.tr _ _ _ (m.gb_at hi2) (m.ga_at (show ka - 1<a.size by lia)) (m.ga_at h2) (by have:=hk12 i hi hib;simpa[byd] using this) (m.a_le L 31 31);have gt2:∀j,j<k1->j<b.size->R (a.getD (ka - 1) d0) (b.getD j d0)=false:=λ j h1 h2=>L.asym _ _ (m.gb_at h2) (m.ga_at 31) (by have:=hk11 j h1;simpa[byd] using this);refine zAL (λ ck1=>?_) (λ ck1=>?_)
         ·have hm4:=hm3.kb (k:=k1) 31 λ i h1 h2 h3 j h4 h5=>le2 i h1 h2 h3 j h4 h5
          refine zAL (λ e4=>?_) (λ e4=>?_)
          ·exact wpS_pure ⟨43,.inl ⟨_,rfl,hfirst hm4 (eq_of_beq e4)⟩⟩
          ·have e4':¬k1=1:=by simpa using e4
           refine zAL (λ e6=>?_) (λ e6=>?_)
           ·exact wpS_pure ⟨43,.inl ⟨_,rfl,hm4.done (.inr (eq_of_beq e6))⟩⟩
           ·have e6':¬k1=0:=by simpa using e6
            refine wpS_bind (zAP (zAS (show ka - 1<a.size by lia)) ?_);have hm5:=hm4.pa (show 0<ka by lia) 31 λ j h1 h2=>gt2 j 31 h2;refine zAL (λ e5=>?_) (λ e5=>?_)
            ·exact wpS_pure 80
            ·have e5':¬ka - 1=0:=by simpa using e5
             refine zAL (λ f=>?_) (λ f=>?_)
             ·exact wpS_pure 69
             ·exact wpS_pure ⟨43,rfl,hm5,37,37,37,37,by dsimp only;lia⟩
         ·have:k1=kb - 1:=by lia
          refine wpS_bind (zAP (zAS (show ka - 1<a.size by lia)) ?_);have hm5:=hm3.pa (show 0<ka by lia) 31 λ j h1 h2=>gt2 j 31 h2;refine zAL (λ e5=>?_) (λ e5=>?_)
          ·exact wpS_pure 80
          ·have e5':¬ka - 1=0:=by simpa using e5
           refine zAL (λ f=>?_) (λ f=>?_)
           ·exact wpS_pure 69
           ·exact wpS_pure ⟨43,rfl,hm5,37,37,37,37,by dsimp only;lia⟩
      ·refine wpS_bind (zBj ?_)
       refine wpS_bind (zAP (zAS (show kb - 1<b.size by lia)) ?_);refine wpS_bind (zA1 L (left:=false) (f:=λ i=>a.getD (0+i) d0) hk (m.gb_at 31) (λ i hi=>zAS 31) (λ i hi=>m.ga_at 31) 31 (zFG L (m.gb_at 31) (λ i hi=>m.ga_at 31) (λ i j hij hj=>m.a_le L 31 31)) λ k hkn hk1 hk2=>?_);dsimp only;have le1:∀i,k<=i->i<ka->i<a.size->∀j,j<kb->j<b.size->R (a.getD i d0) (b.getD j d0)=false:=λ i h1 h2 h3 j h4 h5=>L.tr _ _ _ (m.ga_at h3) (m.gb_at (show kb - 1<b.size by lia)) (m.gb_at h5) (L.asym _ _ (m.gb_at 31) (m.ga_at h3) (by have:=hk2 i h1 h2;simpa[byd] using this)) (m.b_le L 31 31);have gt1:∀j,j<k->j<a.size->R (b.getD (kb - 1) d0) (a.getD j d0)=false:=λ j h1 h2=>by have:=hk1 j h1;simpa[byd] using this
       refine zAL (λ ck=>?_) (λ ck=>?_)
       ·have hm1:=hm.ka (k:=k) 31 λ i h1 h2 h3 j h4 h5=>le1 i h1 h2 h3 j h4 h5
        refine zAL (λ e=>?_) (λ e=>?_)
        ·exact wpS_pure ⟨43,.inl ⟨_,rfl,hm1.done (.inl (eq_of_beq e))⟩⟩
        ·have e':¬k=0:=by simpa using e
         refine wpS_bind (zAP (zAS (show kb - 1<b.size by lia)) ?_);have hm3:=hm1.pb (show 0<kb by lia) 31 λ j h1 h2=>gt1 j 31 h2;refine zAL (λ e3=>?_) (λ e3=>?_)
         ·exact wpS_pure ⟨43,.inl ⟨_,rfl,hfirst hm3 (eq_of_beq e3)⟩⟩
         ·have e3':¬kb - 1=1:=by simpa using e3
          refine wpS_bind (zAP (zAS (show k - 1<a.size by lia)) ?_);refine wpS_bind 61;dsimp only;have le2:∀i,k1<=i->i<kb - 1->i<b.size->∀j,j<k->j<a.size->R (b.getD i d0) (a.getD j d0)=false:=λ i hi hib hi2 j h1 h2=>L.tr _ _ _ (m.gb_at hi2) (m.ga_at (show k - 1<a.size by lia)) (m.ga_at h2) (by have:=hk12 i hi hib;simpa[byd] using this) (m.a_le L 31 31);have gt2:∀j,j<k1->j<b.size->R (a.getD (k - 1) d0) (b.getD j d0)=false:=λ j h1 h2=>L.asym _ _ (m.gb_at h2) (m.ga_at 31) (by have:=hk11 j h1;simpa[byd] using this);refine zAL (λ ck1=>?_) (λ ck1=>?_)
          ·have hm4:=hm3.kb (k:=k1) 31 λ i h1 h2 h3 j h4 h5=>le2 i h1 h2 h3 j h4 h5
           refine zAL (λ e4=>?_) (λ e4=>?_)
           ·exact wpS_pure ⟨43,.inl ⟨_,rfl,hfirst hm4 (eq_of_beq e4)⟩⟩
           ·have e4':¬k1=1:=by simpa using e4
            refine zAL (λ e6=>?_) (λ e6=>?_)
            ·exact wpS_pure ⟨43,.inl ⟨_,rfl,hm4.done (.inr (eq_of_beq e6))⟩⟩
            ·have e6':¬k1=0:=by simpa using e6
             refine wpS_bind (zAP (zAS (show k - 1<a.size by lia)) ?_);have hm5:=hm4.pa (show 0<k by lia) 31 λ j h1 h2=>gt2 j 31 h2;refine zAL (λ e5=>?_) (λ e5=>?_)
             ·exact wpS_pure 80
             ·have e5':¬k - 1=0:=by simpa using e5
              refine zAL (λ f=>?_) (λ f=>?_)
              ·exact wpS_pure 69
              ·exact wpS_pure ⟨43,rfl,hm5,37,37,37,37,by dsimp only;lia⟩
          ·have:k1=kb - 1:=by lia
           refine wpS_bind (zAP (zAS (show k - 1<a.size by lia)) ?_);have hm5:=hm3.pa (show 0<k by lia) 31 λ j h1 h2=>gt2 j 31 h2;refine zAL (λ e5=>?_) (λ e5=>?_)
           ·exact wpS_pure 80
           ·have e5':¬k - 1=0:=by simpa using e5
            refine zAL (λ f=>?_) (λ f=>?_)
            ·exact wpS_pure 69
            ·exact wpS_pure ⟨43,rfl,hm5,37,37,37,37,by dsimp only;lia⟩
       ·have:k=ka:=by lia
        have hm1:=hm;refine wpS_bind (zAP (zAS (show kb - 1<b.size by lia)) ?_);have hm3:=hm1.pb (show 0<kb by lia) 31 λ j h1 h2=>gt1 j 31 h2;refine zAL (λ e3=>?_) (λ e3=>?_)
        ·exact wpS_pure ⟨43,.inl ⟨_,rfl,hfirst hm3 (eq_of_beq e3)⟩⟩
        ·have e3':¬kb - 1=1:=by simpa using e3
         refine wpS_bind (zAP (zAS (show ka - 1<a.size by lia)) ?_);refine wpS_bind 61;dsimp only;have le2:∀i,k1<=i->i<kb - 1->i<b.size->∀j,j<ka->j<a.size->R (b.getD i d0) (a.getD j d0)=false:=λ i hi hib hi2 j h1 h2=>L.tr _ _ _ (m.gb_at hi2) (m.ga_at (show ka - 1<a.size by lia)) (m.ga_at h2) (by have:=hk12 i hi hib;simpa[byd] using this) (m.a_le L 31 31);have gt2:∀j,j<k1->j<b.size->R (a.getD (ka - 1) d0) (b.getD j d0)=false:=λ j h1 h2=>L.asym _ _ (m.gb_at h2) (m.ga_at 31) (by have:=hk11 j h1;simpa[byd] using this);refine zAL (λ ck1=>?_) (λ ck1=>?_)
         ·have hm4:=hm3.kb (k:=k1) 31 λ i h1 h2 h3 j h4 h5=>le2 i h1 h2 h3 j h4 h5
          refine zAL (λ e4=>?_) (λ e4=>?_)
          ·exact wpS_pure ⟨43,.inl ⟨_,rfl,hfirst hm4 (eq_of_beq e4)⟩⟩
          ·have e4':¬k1=1:=by simpa using e4
           refine zAL (λ e6=>?_) (λ e6=>?_)
           ·exact wpS_pure ⟨43,.inl ⟨_,rfl,hm4.done (.inr (eq_of_beq e6))⟩⟩
           ·have e6':¬k1=0:=by simpa using e6
            refine wpS_bind (zAP (zAS (show ka - 1<a.size by lia)) ?_);have hm5:=hm4.pa (show 0<ka by lia) 31 λ j h1 h2=>gt2 j 31 h2;refine zAL (λ e5=>?_) (λ e5=>?_)
            ·exact wpS_pure 80
            ·have e5':¬ka - 1=0:=by simpa using e5
             refine zAL (λ f=>?_) (λ f=>?_)
             ·exact wpS_pure 69
             ·exact wpS_pure ⟨43,rfl,hm5,37,37,37,37,by dsimp only;lia⟩
         ·have:k1=kb - 1:=by lia
          refine wpS_bind (zAP (zAS (show ka - 1<a.size by lia)) ?_);have hm5:=hm3.pa (show 0<ka by lia) 31 λ j h1 h2=>gt2 j 31 h2;refine zAL (λ e5=>?_) (λ e5=>?_)
          ·exact wpS_pure 80
          ·have e5':¬ka - 1=0:=by simpa using e5
           refine zAL (λ f=>?_) (λ f=>?_)
           ·exact wpS_pure 69
           ·exact wpS_pure ⟨43,rfl,hm5,37,37,37,37,by dsimp only;lia⟩
     ·refine all7 λ r ka kb o mg2 ac2 bc2 st3 hI=>an8 hI λ hE0 hE1 hm hka hkb hka2 hkb2 hcn2=>?_
      obtain⟨g,rfl⟩:=hE0;obtain rfl:=hE1;dsimp only at hm hka hkb hka2 hkb2 hcn2;exfalso
      lia
     refine all7 λ r ka kb o mg2 ac2 bc2 st3 hI=>?_;obtain⟨⟨g,rfl⟩,hres⟩:=hI;rcases hres with ⟨X,hX,hM⟩|⟨hX,hm,hka,hkb,hka2,hkb2,hcn2⟩
     ·dsimp only at hX
      subst hX;exact wpS_pure ⟨⟨g,rfl⟩,X,rfl,hM⟩
     ·dsimp only at hX hm hka hkb hka2 hkb2 hcn2 ⊢
      subst hX;dsimp only;refine wpS_bind (zBj (wpS_pure ⟨43,rfl,hm,hka,hkb,hka2,hkb2,?_⟩));dsimp only
      lia
   ·refine all5 λ r na nb o mg st1 hI=>an8 hI λ hE0 hE1 hm hia hib hia2 hib2 hcnt=>?_
    obtain⟨g,rfl⟩:=hE0;obtain rfl:=hE1;dsimp only at hm hia hib hia2 hib2 hcnt;exfalso
    lia
   refine all5 λ r na nb o mg st1 hI=>?_;obtain⟨⟨g,rfl⟩,X,hX,hM⟩:=hI;dsimp only at hX ⊢;subst hX;exact wpS_pure (h X g hM)
end
section
variable {M:Model}{A:Around}{E:XQ}{s:Shared}{κ:SortKind}{G:Keyed->Prop}{R:Keyed->Keyed->Bool}
def SegO (R:Keyed->Keyed->Bool) (xs:Array Keyed) (l u:Nat):Prop:=∀i j,l<=i->i<j->j<u->R (xs.getD j d0) (xs.getD i d0)=false
theorem SegO.le (L:LtE M A E s κ G R) {xs:Array Keyed}{l u:Nat}(h:SegO R xs l u) (g:∀x∈xs.toList,G x) (hu:u<=xs.size) {i j:Nat}(hl:l<=i) (hij:i<=j) (hj:j<u):R (xs.getD j d0) (xs.getD i d0)=false:=by
 by_cases e:i=j
 ·subst e
  have gi:=g _ (zAW (a:=xs) (i:=i) 31);cases z:R (xs.getD i d0) (xs.getD i d0) with
  |false=>rfl
  |true=>have:=L.asym _ _ gi gi z;rw[z] at this;cases this
 ·exact h i j hl 31 hj
noncomputable def layB (sa:Nat) (ms:List (Keyed × Nat)) (arr:Array Keyed):Array Keyed:=ms.foldl (λ a x=>a.setIfInBounds (sa+x.2) x.1) arr
theorem zEm (sa:Nat):∀(ms:List Keyed) (off:Nat) (arr:Array Keyed) (k:Nat),sa+off+ms.length<=arr.size->(layB sa (ms.zipIdx off) arr)[k]?=if sa+off<=k/\k<sa+off+ms.length then ms[k - (sa+off)]? else arr[k]?
 |[],off,arr,k,h=>by
  rw[if_neg 41];rfl
 |m::ms,off,arr,k,h=>by
  simp only[mP] at h ⊢;have ih:=zEm sa ms (off+1) (arr.setIfInBounds (sa+off) m) k (by simp;lia);have e:layB sa ((m::ms).zipIdx off) arr=layB sa (ms.zipIdx (off+1)) (arr.setIfInBounds (sa+off) m):=rfl;rw[e,ih]
  by_cases c:k=sa+off
  ·subst c
   rw[if_neg 31,if_pos 31];simp[Array.getElem?_setIfInBounds,show sa+off<arr.size by lia]
  ·by_cases d:sa+(off+1)<=k/\k<sa+(off+1)+ms.length
   ·rw[if_pos d,if_pos 31,show k - (sa+off)=(k - (sa+(off+1)))+1 by lia,List.getElem?_cons_succ]
   ·rw[if_neg d,if_neg 31,Array.getElem?_setIfInBounds,if_neg 31]
theorem zHz {sa:Nat}{ms:List Keyed}{arr:Array Keyed}(h:sa+ms.length<=arr.size):(layB sa ms.zipIdx arr).toList=arr.toList.take sa++(ms++arr.toList.drop (sa+ms.length)):=by
 refine List.ext_getElem? λ k=>?_;rw[nP,zEm sa ms 0 arr k 31,Nat.add_zero];have l1:(arr.toList.take sa).length=sa:=by rw[mQ];simp;lia
 by_cases c:k<sa
 ·rw[if_neg 31,mZ 31,List.getElem?_take,if_pos c,nP]
 ·rw[nA 31,l1]
  by_cases d:k<sa+ms.length
  ·rw[if_pos 31,mZ 31]
  ·rw[if_neg 31,nA 31,List.getElem?_drop,nP]
   congr 1
   lia
theorem zKA {a:Array Keyed}{i n j:Nat}(hn:n<=a.size) (h:i+j<n):(a.extract i n).getD j d0=a.getD (i+j) d0:=by
 have h1:j<(a.extract i n).size:=by rw[Array.size_extract];lia
 simp only[Array.getD,h1,dif_pos,show i+j<a.size by lia];simp
theorem zIG {a:Array Keyed}{i n:Nat}(hn:n<=a.size):(a.extract i n).size=n - i:=by rw[Array.size_extract,Nat.min_eq_left hn]
theorem ol_of {a:Array Keyed}(h:∀i j,i<j->j<a.size->R (a.getD j d0) (a.getD i d0)=false):OL R a.toList:=by
 refine List.pairwise_iff_getElem.mpr λ i j hi hj hij=>?_;have:=h i j hij (by simpa using hj);simpa[Array.getD,show j<a.size by simpa using hj,show i<a.size by simpa using hi] using this
theorem zHy {sa:Nat}{mr arr:Array Keyed}(h:sa+mr.size<=arr.size) (k:Nat):(layB sa mr.toList.zipIdx arr).getD k d0=if sa<=k/\k<sa+mr.size then mr.getD (k - sa) d0 else arr.getD k d0:=by
 have:=zEm sa mr.toList 0 arr k (by simpa using h);rw[Nat.add_zero,Array.length_toList] at this;rw[Array.getD_eq_getD_getElem?,this]
 by_cases c:sa<=k/\k<sa+mr.size
 ·rw[if_pos c,if_pos c,nP,Array.getD_eq_getD_getElem?]
 ·rw[if_neg c,if_neg c,Array.getD_eq_getD_getElem?]
theorem zHt {a b x:Array Keyed}(h:Mgd R a b x) {i:Nat}(hi:i<x.size):(∃j,j<a.size/\x.getD i d0=a.getD j d0)\/(∃j,j<b.size/\x.getD i d0=b.getD j d0):=by
 have m:=h.2.mem_iff.mp (zAW hi);rcases lJ.mp m with m|m
 ·obtain⟨j,_,hj,e⟩:=zBY (i:=0) (by rw[List.drop_zero];exact m)
  exact .inl ⟨j,hj,e⟩
 ·obtain⟨j,_,hj,e⟩:=zBY (i:=0) (by rw[List.drop_zero];exact m)
  exact .inr ⟨j,hj,e⟩
theorem zKI {st1 st:SortSt}{Q:PUnit->SortSt->Prop}(h:Q ⟨⟩ st1):wpS M A E s (set st1:StateT SortSt Sem PUnit) Q st:=by
 unfold wpS;rw[StateT.run_set];exact lB ⟨rfl,h⟩
theorem zGo (L:LtE M A E s κ G R) {i:Nat}{st:SortSt}{sa na pa sb nb pb:Nat}{Q:Bool->SortSt->Prop}(hk:kindOf st=κ) (hf:failedOf st=none) (gl:∀x∈(arrOf st).toList,G x) (p1:(pendingOf st)[i]?=some (sa,na,pa)) (p2:(pendingOf st)[i+1]?=some (sb,nb,pb)) (hs:sa+na=sb) (hn:sb+nb<=(arrOf st).size) (h1:0<na) (h2:0<nb)
  (o1:SegO R (arrOf st) sa sb) (o2:SegO R (arrOf st) sb (sb+nb))
  (h:∀arr g,arr.toList.Perm (arrOf st).toList->(∀j,j<sa\/sb+nb<=j->arr.getD j d0=(arrOf st).getD j d0)->SegO R arr sa (sb+nb)->Q true (SortSt.mk' κ arr (((pendingOf st).setIfInBounds i (sa,na+nb,pa)).eraseIdxIfInBounds (i+1)) g none)):wpS M A E s (mergeAt' i) Q st:=by
 have G1:∀{j:Nat},j<(arrOf st).size->G ((arrOf st).getD j d0):=λ h=>gl _ (zAW h);have le1:∀{i j:Nat},sa<=i->i<=j->j<sb->R ((arrOf st).getD j d0) ((arrOf st).getD i d0)=false:=λ a b c=>o1.le L gl 31 a b c;have le2:∀{i j:Nat},sb<=i->i<=j->j<sb+nb->R ((arrOf st).getD j d0) ((arrOf st).getD i d0)=false:=λ a b c=>o2.le L gl hn a b c;refine wpS_bind (wpS_get ?_);rw[p1,p2];dsimp only;refine wpS_bind (zKI ?_);refine wpS_bind (zAP (zAS (show sb<(arrOf st).size by lia)) ?_);refine wpS_bind (zA1 L (left:=false) (f:=λ i=>(arrOf st).getD (sa+i) d0) hk (G1 31) (λ i hi=>zAS (a:=arrOf st) 31) (λ i hi=>G1 31) h1 (zFG L (G1 31) (λ i hi=>G1 31) (λ i j hij hj=>le1 31 31 31)) λ k hkn hk1 hk2=>?_);dsimp only;have low:∀i,i<k->R ((arrOf st).getD sb d0) ((arrOf st).getD (sa+i) d0)=false:=λ i hi=>by have:=hk1 i hi;simpa[byd] using this
 have high:∀i,k<=i->i<na->R ((arrOf st).getD sb d0) ((arrOf st).getD (sa+i) d0)=true:=λ i h1 h2=>by have:=hk2 i h1 h2;simpa[byd] using this
 have lowB:∀i j,sa<=i->i<sa+k->sb<=j->j<sb+nb->R ((arrOf st).getD j d0) ((arrOf st).getD i d0)=false:=λ i j a b c d=>by
  have z:=low (i - sa) 31;rw[show sa+(i - sa)=i by lia] at z;exact L.tr _ _ _ (G1 31) (G1 31) (G1 31) (le2 (lR _) c d) z
 by_cases c1:(na - k == 0)=true
 ·rw[if_pos c1]
  have c1':na - k=0:=eq_of_beq c1;refine wpS_pure ?_
  have z:=h (arrOf st) (gallopOf st) (.refl _) (λ Ω Ω=>rfl) λ i j hi hij hj=>by
   by_cases ci:i<sb
   ·by_cases cj:j<sb
    ·exact le1 hi 31 cj
    ·exact lowB i j hi 31 31 hj
   ·exact le2 31 31 hj
  rw[←hk,←hf] at z;exact z
 ·rw[if_neg c1]
  have c1':¬na - k=0:=by simpa using c1
  refine wpS_bind (zAP (zAS (show sa+k+(na - k) - 1<(arrOf st).size by lia)) ?_);have eL:sa+k+(na - k) - 1=sb - 1:=by lia
  rw[eL];refine wpS_bind (zA1 L (left:=true) (f:=λ i=>(arrOf st).getD (sb+i) d0) hk (G1 31) (λ i hi=>zAS (a:=arrOf st) 31) (λ i hi=>G1 31) 31 (zCz L (G1 31) (λ i hi=>G1 31) (λ i j hij hj=>le2 31 31 31)) λ n2 hn2 hn21 hn22=>?_);dsimp only;have below:∀i,i<n2->R ((arrOf st).getD (sb+i) d0) ((arrOf st).getD (sb - 1) d0)=true:=λ i hi=>by have:=hn21 i hi;simpa[byd] using this
  have above:∀i j,sa<=i->i<sb->sb+n2<=j->j<sb+nb->R ((arrOf st).getD j d0) ((arrOf st).getD i d0)=false:=λ i j a b c d=>by
   have z:R ((arrOf st).getD j d0) ((arrOf st).getD (sb - 1) d0)=false:=by
    have:=hn22 (j - sb) 31 31;simpa[byd,show sb+(j - sb)=j by lia] using this
   exact L.tr _ _ _ (G1 31) (G1 31) (G1 31) z (le1 a 31 31)
  by_cases c2:(n2 == 0)=true
  ·rw[if_pos c2]
   have c2':n2=0:=eq_of_beq c2;refine wpS_pure ?_
   have z:=h (arrOf st) (gallopOf st) (.refl _) (λ Ω Ω=>rfl) λ i j hi hij hj=>by
    by_cases ci:i<sb
    ·by_cases cj:j<sb
     ·exact le1 hi 31 cj
     ·exact above i j hi ci 31 hj
    ·exact le2 31 31 hj
   rw[←hk,←hf] at z;exact z
  ·rw[if_neg c2]
   have c2':¬n2=0:=by simpa using c2
   have sx:((arrOf st).extract (sa+k) sb).size=sb - (sa+k):=zIG 31;have sy:((arrOf st).extract sb (sb+n2)).size=n2:=by rw[zIG 31];lia
   have gx:∀{j:Nat},j<sb - (sa+k)->((arrOf st).extract (sa+k) sb).getD j d0=(arrOf st).getD (sa+k+j) d0:=λ hj=>zKA 31 31;have gy:∀{j:Nat},j<n2->((arrOf st).extract sb (sb+n2)).getD j d0=(arrOf st).getD (sb+j) d0:=λ hj=>zKA 31 31
   have mem:∀{i n:Nat}{x:Keyed},x∈((arrOf st).extract i n).toList->G x:=λ{i n x} hx=>by
    rw[Array.toList_extract,List.extract_eq_take_drop] at hx;exact gl x (List.mem_of_mem_drop (List.mem_of_mem_take hx))
   have m:ML R G ((arrOf st).extract (sa+k) sb) ((arrOf st).extract sb (sb+n2)):=⟨λ x=>mem,λ x=>mem,ol_of λ i j hij hj=>by
     rw[sx] at hj;rw[gx 31,gx 31];exact le1 31 31 31,ol_of λ i j hij hj=>by
     rw[sy] at hj;rw[gy 31,gy 31];exact le2 31 31 31⟩
   have q0:∀i,i<((arrOf st).extract (sa+k) sb).size->R (((arrOf st).extract (sa+k) sb).getD i d0) (((arrOf st).extract sb (sb+n2)).getD 0 d0)=false:=λ i hi=>by
    rw[sx] at hi;rw[gx hi,gy 31];refine L.asym _ _ (G1 31) (G1 31) ?_;have:=high (k+i) 31 31;rw[←Nat.add_assoc] at this;exact this
   have q1:∀j,j<((arrOf st).extract sb (sb+n2)).size->R (((arrOf st).extract (sa+k) sb).getD (((arrOf st).extract (sa+k) sb).size - 1) d0) (((arrOf st).extract sb (sb+n2)).getD j d0)=false:=λ j hj=>by
    rw[sy] at hj;rw[sx,gx 31,gy hj,show sa+k+(sb - (sa+k) - 1)=sb - 1 by lia];exact L.asym _ _ (G1 31) (G1 31) (below j hj)
   have mfin:∀mr,Mgd R ((arrOf st).extract (sa+k) sb) ((arrOf st).extract sb (sb+n2)) mr->(layB (sa+k) mr.toList.zipIdx (arrOf st)).toList.Perm (arrOf st).toList/\(∀j,j<sa\/sb+nb<=j->(layB (sa+k) mr.toList.zipIdx (arrOf st)).getD j d0=(arrOf st).getD j d0)/\SegO R (layB (sa+k) mr.toList.zipIdx (arrOf st)) sa (sb+nb):=λ mr hM=>by
    have sm:mr.size=sb+n2 - (sa+k):=by
     have:=hM.2.length_eq;rw[mK,Array.length_toList,Array.length_toList,Array.length_toList,sx,sy] at this
     lia
    refine⟨?_,λ j hj=>?_,λ i j hi hij hj=>?_⟩
    ·rw[zHz (by rw[Array.length_toList,sm];lia)]
     have e:(arrOf st).toList=(arrOf st).toList.take (sa+k)++(((arrOf st).extract (sa+k) sb).toList++((arrOf st).extract sb (sb+n2)).toList++(arrOf st).toList.drop (sa+k+mr.toList.length)):=by
      rw[Array.length_toList,sm,Array.toList_extract,Array.toList_extract,List.extract_eq_take_drop,List.extract_eq_take_drop];have e1:((arrOf st).toList.drop sb).take (sb+n2 - sb)=(((arrOf st).toList.drop (sa+k)).drop (sb - (sa+k))).take (n2):=by rw[List.drop_drop,show sa+k+(sb - (sa+k))=sb by lia,Nat.add_sub_cancel_left]
      have e2:(arrOf st).toList.drop (sa+k+(sb+n2 - (sa+k)))=(((arrOf st).toList.drop (sa+k)).drop (sb - (sa+k))).drop n2:=by rw[List.drop_drop,List.drop_drop];congr 1;lia
      rw[e1,e2,nE,List.take_append_drop,List.take_append_drop,List.take_append_drop]
     conv=>rhs;rw[e]
     exact List.Perm.append_left _ (List.Perm.append_right _ hM.2)
    ·rw[zHy 31,if_neg 31]
    ·rw[zHy 31,zHy 31]
     by_cases ci:sa+k<=i/\i<sa+k+mr.size
     ·rw[if_pos ci]
      by_cases cj:sa+k<=j/\j<sa+k+mr.size
      ·rw[if_pos cj]
       exact ol_at hM.1 31 31
      ·rw[if_neg cj]
       rcases zHt hM (i:=i - (sa+k)) 31 with ⟨t,ht,et⟩|⟨t,ht,et⟩
       ·rw[sx] at ht
        rw[et,gx ht];exact above _ j 31 31 31 hj
       ·rw[sy] at ht
        rw[et,gy ht];exact le2 31 31 hj
     ·rw[if_neg ci]
      by_cases cj:sa+k<=j/\j<sa+k+mr.size
      ·rw[if_pos cj]
       rcases zHt hM (i:=j - (sa+k)) 31 with ⟨t,ht,et⟩|⟨t,ht,et⟩
       ·rw[sx] at ht
        rw[et,gx ht];exact le1 hi 31 31
       ·rw[sy] at ht
        rw[et,gy ht];exact lowB i _ hi 31 31 31
      ·rw[if_neg cj]
       by_cases di:i<sa+k
       ·by_cases dj:j<sb
        ·exact le1 hi 31 dj
        ·exact lowB i j hi di 31 hj
       ·exact le2 31 31 hj
   by_cases c3:na - k<=n2
   ·rw[if_pos c3]
    refine wpS_bind (zGm L (a:=(arrOf st).extract (sa+k) sb) (b:=(arrOf st).extract sb (sb+n2)) hk m 31 31 q0 q1 λ mr g hM=>?_);refine wpS_bind (wpS_modify (wpS_bind (wpS_get ?_)));refine wpS_pure ?_;show Q (failedOf st).isNone (SortSt.mk' (kindOf st) (layB (sa+k) mr.toList.zipIdx (arrOf st)) _ g (failedOf st));rw[hf,hk];exact h _ g (mfin mr hM).1 (mfin mr hM).2.1 (mfin mr hM).2.2
   ·rw[if_neg c3]
    refine wpS_bind (zGn L (a:=(arrOf st).extract (sa+k) sb) (b:=(arrOf st).extract sb (sb+n2)) hk m 31 31 q0 q1 λ mr g hM=>?_);refine wpS_bind (wpS_modify (wpS_bind (wpS_get ?_)));refine wpS_pure ?_;show Q (failedOf st).isNone (SortSt.mk' (kindOf st) (layB (sa+k) mr.toList.zipIdx (arrOf st)) _ g (failedOf st));rw[hf,hk];exact h _ g (mfin mr hM).1 (mfin mr hM).2.1 (mfin mr hM).2.2
end
section
variable {M:Model}{A:Around}{E:XQ}{s:Shared}{κ:SortKind}{G:Keyed->Prop}{R:Keyed->Keyed->Bool}
theorem zBC (L:LtE M A E s κ G R) {st:SortSt}{i j:Nat}{Q:Option Bool->SortSt->Prop}(hk:kindOf st=κ) (gl:∀x∈(arrOf st).toList,G x) (hi:i<(arrOf st).size) (hj:j<(arrOf st).size) (h:Q (some (R ((arrOf st).getD i d0) ((arrOf st).getD j d0))) st):wpS M A E s (ltAt' i j) Q st:=by
 rw[ltAt'_eq];refine wpS_bind (wpS_get (wpS_bind (zAP (zAS hi) (wpS_bind (zAP (zAS hj) ?_)))));exact L.lt _ _ (gl _ (zAW hi)) (gl _ (zAW hj)) _ _ hk h
theorem zFH {xs:Array Keyed}{i j:Nat}(hj:j<=xs.size) (k:Nat):(mirror xs i j ((j - i) / 2)).getD k d0=if i<=k/\k<j then xs.getD (i+j - 1 - k) d0 else xs.getD k d0:=by
 rw[Array.getD_eq_getD_getElem?,getElem?_mirror_all hj]
 by_cases c:i<=k/\k<j
 ·rw[if_pos c,if_pos c,Array.getD_eq_getD_getElem?]
 ·rw[if_neg c,if_neg c,Array.getD_eq_getD_getElem?]
theorem zIc {xs:Array Keyed}{src n:Nat}(h:src<xs.size) (hn:n<=src) (k:Nat):(bubble xs src n).getD k d0=if k=src - n then xs.getD src d0 else if src - n<k/\k<=src then xs.getD (k - 1) d0 else xs.getD k d0:=by
 rw[Array.getD_eq_getD_getElem?,getElem?_bubble h n hn]
 by_cases c:k=src - n
 ·rw[if_pos c,if_pos c,Array.getD_eq_getD_getElem?]
 ·rw[if_neg c,if_neg c]
  by_cases d:src - n<k/\k<=src
  ·rw[if_pos d,if_pos d,Array.getD_eq_getD_getElem?]
  ·rw[if_neg d,if_neg d,Array.getD_eq_getD_getElem?]
structure Agr (xs ys:Array Keyed) (l u:Nat):Prop where
 perm:ys.toList.Perm xs.toList
 out:∀j,j<l\/u<=j->ys.getD j d0=xs.getD j d0
theorem Agr.refl (xs:Array Keyed) (l u:Nat):Agr xs xs l u:=⟨.refl _,λ Ω Ω=>rfl⟩
theorem Agr.trans {xs ys zs:Array Keyed}{l u:Nat}(a:Agr xs ys l u) (b:Agr ys zs l u):Agr xs zs l u:=⟨b.perm.trans a.perm,λ j hj=>(b.out j hj).trans (a.out j hj)⟩
theorem Agr.wide {xs ys:Array Keyed}{l u l' u':Nat}(a:Agr xs ys l u) (hl:l'<=l) (hu:u<=u'):Agr xs ys l' u':=⟨a.perm,λ j hj=>a.out j 31⟩
theorem Agr.size {xs ys:Array Keyed}{l u:Nat}(a:Agr xs ys l u):ys.size=xs.size:=by have:=a.perm.length_eq;simpa using this
theorem Agr.gl {xs ys:Array Keyed}{l u:Nat}(a:Agr xs ys l u) (g:∀x∈xs.toList,G x):∀x∈ys.toList,G x:=λ x hx=>g x (a.perm.mem_iff.mp hx)
theorem zCF {xs:Array Keyed}{i j:Nat}(hj:j<=xs.size):Agr xs (mirror xs i j ((j - i) / 2)) i j:=⟨Array.perm_iff_toList_perm.mp (mirror_perm _ _ _ _),λ k hk=>by rw[zFH hj,if_neg 31]⟩
theorem zK2 {xs:Array Keyed}{src n:Nat}(h:src<xs.size) (hn:n<=src):Agr xs (bubble xs src n) (src - n) (src+1):=⟨Array.perm_iff_toList_perm.mp (bubble_perm _ _ _),λ k hk=>by rw[zIc h hn,if_neg 31,if_neg 31]⟩
def DsO (R:Keyed->Keyed->Bool) (xs:Array Keyed) (l u:Nat):Prop:=∀i j,l<=i->i<j->j<u->R (xs.getD i d0) (xs.getD j d0)=false
def EqO (R:Keyed->Keyed->Bool) (xs:Array Keyed) (l u:Nat):Prop:=∀i j,l<=i->i<u->l<=j->j<u->R (xs.getD i d0) (xs.getD j d0)=false
theorem zC9 (L:LtE M A E s κ G R) {x:Keyed}(g:G x):R x x=false:=by
 cases z:R x x with
 |false=>rfl
 |true=>have:=L.asym _ _ g g z;rw[z] at this;cases this
theorem SegO.more (L:LtE M A E s κ G R) {xs:Array Keyed}{l u:Nat}(g:∀x∈xs.toList,G x) (hu:u<xs.size) (hlu:l<u) (h:SegO R xs l u) (e:R (xs.getD u d0) (xs.getD (u - 1) d0)=false):SegO R xs l (u+1):=λ i j hi hij hj=>by
 by_cases c:j=u
 ·subst c
  by_cases d:i=j - 1
  ·rw[d];exact e
  ·exact L.tr _ _ _ (g _ (zAW 31)) (g _ (zAW 31)) (g _ (zAW 31)) e (h i (j - 1) hi 31 31)
 ·exact h i j hi hij 31
theorem DsO.more (L:LtE M A E s κ G R) {xs:Array Keyed}{l u:Nat}(g:∀x∈xs.toList,G x) (hu:u<xs.size) (hlu:l<u) (h:DsO R xs l u) (e:R (xs.getD (u - 1) d0) (xs.getD u d0)=false):DsO R xs l (u+1):=λ i j hi hij hj=>by
 by_cases c:j=u
 ·subst c
  by_cases d:i=j - 1
  ·rw[d];exact e
  ·exact L.tr _ _ _ (g _ (zAW 31)) (g _ (zAW 31)) (g _ (zAW 31)) (h i (j - 1) hi 31 31) e
 ·exact h i j hi hij 31
theorem zDu {xs:Array Keyed}{l a k m:Nat}(hla:l<=a) (hkm:k<=m) (hk:k<=xs.size) (h:DsO R xs l m) (e:EqO R xs a k):DsO R (mirror xs a k ((k - a) / 2)) l m:=λ i j hi hij hj=>by
 rw[zFH hk,zFH hk]
 by_cases ci:a<=i/\i<k
 ·rw[if_pos ci]
  by_cases cj:a<=j/\j<k
  ·rw[if_pos cj];exact e _ _ 31 31 31 31
  ·rw[if_neg cj];exact h _ _ 31 31 hj
 ·rw[if_neg ci]
  by_cases cj:a<=j/\j<k
  ·rw[if_pos cj];exact h _ _ hi 31 31
  ·rw[if_neg cj];exact h _ _ hi hij hj
theorem zEV {xs:Array Keyed}{l u:Nat}(hu:u<=xs.size) (h:DsO R xs l u):SegO R (mirror xs l u ((u - l) / 2)) l u:=λ i j hi hij hj=>by
 rw[zFH hu,zFH hu,if_pos 31,if_pos 31];exact h _ _ 31 31 31
theorem zBc {st:SortSt}{arr:Array Keyed}{i j:Nat}{Q:Unit->SortSt->Prop}(h:Q () (setArr st (mirror arr i j ((j - i) / 2)))):wpS M A E s (reverseSlice' i j) Q (setArr st arr):=by
 rw[reverseSlice'_eq];exact wpS_modify h
theorem zG2 {st:SortSt}{arr:Array Keyed}{i j:Nat}{Q:Unit->SortSt->Prop}(h:Q () (setArr st (bubble arr i (i - j)))):wpS M A E s (moveDown' i j) Q (setArr st arr):=by
 rw[moveDown'_eq];exact wpS_modify h
theorem zIf (L:LtE M A E s κ G R) {st:SortSt}{lo n ok:Nat}{Q:Bool->SortSt->Prop}(hk:kindOf st=κ) (gl:∀x∈(arrOf st).toList,G x) (hn:lo+n<=(arrOf st).size) (h1:1<=ok) (hok:ok<=n) (hs:SegO R (arrOf st) lo (lo+ok))
  (h:∀arr,Agr (arrOf st) arr lo (lo+n)->SegO R arr lo (lo+n)->Q true (setArr st arr)):wpS M A E s (binarySort' lo n ok) Q st:=by
 rw[binarySort'_eq];refine wpS_bind (wpS_mono (wpS_forRange (I:=λ k (c:Option Bool × Unit) st'=>∃arr,st'=setArr st arr/\c.1=none/\Agr (arrOf st) arr lo (lo+n)/\SegO R arr lo (lo+k)) (Q:=λ c st'=>∃arr,st'=setArr st arr/\c.1=none/\Agr (arrOf st) arr lo (lo+n)/\SegO R arr lo (lo+n)) ?_ ?_ ⟨arrOf st,rfl,rfl,Agr.refl _ _ _,by rw[Nat.max_eq_left h1];exact hs⟩) ?_)
 ·refine λ k=>all2 λ r u st' hk1 hk2 hI=>?_
  obtain⟨arr,hI⟩:=hI;refine an4 hI λ hE0 hE1 ag sg=>?_;obtain rfl:=hE0;obtain rfl:=hE1;have sz:=ag.size;have ga:=ag.gl gl;dsimp only at sg ⊢
  refine wpS_bind (wpS_mono (wpS_forRange (I:=λ i (c:Option Bool × Nat × Nat) st2=>st2=setArr st arr/\c.1=none/\c.2.1<=c.2.2/\c.2.2<=k/\c.2.2 - c.2.1<=k - i/\(∀j,j<c.2.1->R (arr.getD (lo+k) d0) (arr.getD (lo+j) d0)=false)/\(∀j,c.2.2<=j->j<k->R (arr.getD (lo+j) d0) (arr.getD (lo+k) d0)=false))
   (Q:=λ c st2=>st2=setArr st arr/\c.1=none/\c.2.1<=k/\(∀j,j<c.2.1->R (arr.getD (lo+k) d0) (arr.getD (lo+j) d0)=false)/\(∀j,c.2.1<=j->j<k->R (arr.getD (lo+j) d0) (arr.getD (lo+k) d0)=false)) ?_ ?_ ⟨rfl,rfl,lY _,lR _,lR _,(λ j hj=>by dsimp only at hj;lia),(λ j h1 h2=>by dsimp only at h1;lia)⟩) ?_)
  ·refine λ i=>all3 λ r l u st2 Ω hi hI=>an7 hI λ hE0 hE1 q1 q2 q3 q4 q5=>?_
   obtain rfl:=hE0;obtain rfl:=hE1;dsimp only at q1 q2 q3 q4 q5 ⊢;refine zAL (λ c=>?_) (λ c=>?_)
   ·exact wpS_pure ⟨rfl,rfl,37,q4,λ j j1 j2=>q5 j (by dsimp only at j1;lia) j2⟩
   ·refine wpS_bind (zBC L (st:=setArr st arr) hk ga (show lo+k<arr.size by lia) (show lo+(l+u) / 2<arr.size by lia) ?_)
    dsimp only;cases z:R (arr.getD (lo+k) d0) (arr.getD (lo+(l+u) / 2) d0) with
    |true =>
     have z':=L.asym _ _ (ga _ (zAW 31)) (ga _ (zAW 31)) z
     exact wpS_pure ⟨rfl,rfl,37,37,37,q4,λ j j1 j2=>by
      dsimp only at j1;exact L.tr _ _ _ (ga _ (zAW 31)) (ga _ (zAW 31)) (ga _ (zAW 31)) (sg.le L ga 31 31 31 31) z'⟩
    |false =>
     exact wpS_pure ⟨rfl,rfl,37,37,37,(λ j j1=>by
      dsimp only at j1;exact L.tr _ _ _ (ga _ (zAW 31)) (ga _ (zAW 31)) (ga _ (zAW 31)) z (sg.le L ga 31 31 31 31)),q5⟩
  ·refine all3 λ r l u st2 hI=>an7 hI λ hE0 hE1 q1 q2 q3 q4 q5=>?_
   obtain rfl:=hE0;obtain rfl:=hE1;dsimp only at q1 q2 q3 q4 q5 ⊢;exact⟨rfl,rfl,31,q4,λ j j1 j2=>q5 j 31 j2⟩
  refine all3 λ r l u st2 hI=>an5 hI λ hE0 hE1 q2 q4 q5=>?_;obtain rfl:=hE0;obtain rfl:=hE1;dsimp only at q2 q4 q5 ⊢;refine wpS_bind (zG2 (wpS_pure ⟨_,rfl,rfl,ag.trans ((zK2 (src:=lo+k) (n:=lo+k - (lo+l)) 31 31).wide 31 31),?_⟩));intro i j hi hij hj;rw[zIc 31 31,zIc 31 31];have es:lo+k - (lo+k - (lo+l))=lo+l:=by lia
  rw[es]
  by_cases i1:i=lo+l
  ·rw[if_pos i1,if_neg 31,if_pos ⟨by lia,by lia⟩]
   have:=q5 (j - 1 - lo) 31 31;rw[show lo+(j - 1 - lo)=j - 1 by lia] at this;exact this
  ·rw[if_neg i1]
   by_cases j1:j=lo+l
   ·rw[if_pos j1,if_neg 31]
    have:=q4 (i - lo) 31;rw[show lo+(i - lo)=i by lia] at this;exact this
   ·rw[if_neg j1]
    by_cases i2:lo+l<i/\i<=lo+k
    ·rw[if_pos i2,if_pos ⟨by lia,by lia⟩]
     exact sg (i - 1) (j - 1) 31 31 31
    ·rw[if_neg i2]
     by_cases j2:lo+l<j/\j<=lo+k
     ·rw[if_pos j2]
      exact sg i (j - 1) hi 31 31
     ·rw[if_neg j2]
      exact sg i j hi hij 31
 ·refine all2 λ r u st' hI=>?_
  obtain⟨arr,hI⟩:=hI;refine an4 hI λ hE0 hE1 ag sg=>?_;obtain rfl:=hE0;obtain rfl:=hE1;exact⟨arr,rfl,rfl,ag,by rw[show max (max ok 1) n=n by lia] at sg;exact sg⟩
 refine all2 λ r u st' hI=>?_;obtain⟨arr,hI⟩:=hI;refine an4 hI λ hE0 hE1 ag sg=>?_;obtain rfl:=hE0;obtain rfl:=hE1;exact wpS_pure (h arr ag sg)
theorem zJb (L:LtE M A E s κ G R) {st:SortSt}{lo nrem:Nat}{Q:Option Nat->SortSt->Prop}(hk:kindOf st=κ) (gl:∀x∈(arrOf st).toList,G x) (hn:lo+nrem<=(arrOf st).size) (h1:1<=nrem)
  (h:∀n arr,1<=n->n<=nrem->Agr (arrOf st) arr lo (lo+nrem)->SegO R arr lo (lo+n)->Q (some n) (setArr st arr)):wpS M A E s (countRun' lo nrem) Q st:=by
 rw[countRun'_eq];have sg0:SegO R (arrOf st) lo (lo+1):=λ i j hi hij hj=>by lia
 refine wpS_bind (wpS_mono (wpS_forRange (I:=λ i (c:Option (Option Nat) × Nat) st2=>st2=setArr st (arrOf st)/\c.1=none/\c.2=i/\1<=c.2/\c.2<=nrem/\SegO R (arrOf st) lo (lo+c.2)) (Q:=λ c st2=>st2=setArr st (arrOf st)/\c.1=none/\1<=c.2/\c.2<=nrem/\SegO R (arrOf st) lo (lo+c.2)/\(c.2<nrem->R ((arrOf st).getD (lo+c.2) d0) ((arrOf st).getD (lo+c.2 - 1) d0)=true)) ?_ ?_ ⟨rfl,rfl,rfl,lR _,h1,sg0⟩) ?_)
 ·refine λ i=>all2 λ r n st2 Ω hi hI=>an6 hI λ hE0 hE1 hE2 q1 q2 q3=>?_
  obtain rfl:=hE0;obtain rfl:=hE1;obtain rfl:=hE2;dsimp only at q1 q2 q3 hi ⊢;refine wpS_bind (zBC L (st:=setArr st (arrOf st)) hk gl (show lo+n<(arrOf st).size by lia) (show lo+n - 1<(arrOf st).size by lia) ?_);dsimp only;cases z:R ((arrOf st).getD (lo+n) d0) ((arrOf st).getD (lo+n - 1) d0) with
  |true=>exact wpS_pure ⟨rfl,rfl,q1,q2,q3,λ Ω=>z⟩
  |false=>exact wpS_pure ⟨rfl,rfl,rfl,37,37,q3.more (u:=lo+n) L gl 31 31 z⟩
 ·refine all2 λ r n st2 hI=>an6 hI λ hE0 hE1 q0 q1 q2 q3=>?_
  obtain rfl:=hE0;obtain rfl:=hE1;dsimp only at q0 q1 q2 q3 ⊢;exact⟨rfl,rfl,q1,q2,q3,λ z=>by lia⟩
 refine all2 λ r m st2 hI=>an6 hI λ hE0 hE1 q1 q2 q3 q4=>?_;obtain rfl:=hE0;obtain rfl:=hE1;dsimp only at q1 q2 q3 q4 ⊢;refine zAL (λ e0=>?_) (λ e0=>?_)
 ·exact wpS_pure (h m (arrOf st) q1 q2 (Agr.refl _ _ _) q3)
 ·have e0':¬m=nrem:=by simpa using e0
  have lm:=q4 31;have gm:=L.asym _ _ (gl _ (zAW 31)) (gl _ (zAW 31)) lm;refine zAL (λ e1=>?_) (λ e1=>?_)
  ·refine wpS_bind (zBC L (st:=setArr st (arrOf st)) hk gl (show lo<(arrOf st).size by lia) (show lo+m - 1<(arrOf st).size by lia) ?_)
   dsimp only;cases z:R ((arrOf st).getD lo d0) ((arrOf st).getD (lo+m - 1) d0) with
   |true=>exact wpS_pure (h m (arrOf st) q1 q2 (Agr.refl _ _ _) q3)
   |false =>
    rw[if_neg 41];have le0:∀j,lo<=j->j<lo+m->R ((arrOf st).getD lo d0) ((arrOf st).getD j d0)=false:=λ j j1 j2=>L.tr _ _ _ (gl _ (zAW 31)) (gl _ (zAW 31)) (gl _ (zAW 31)) z (q3.le L gl 31 j1 31 31);have eq:EqO R (arrOf st) lo (lo+m):=λ i j i1 i2 j1 j2=>L.tr _ _ _ (gl _ (zAW 31)) (gl _ (zAW 31)) (gl _ (zAW 31)) (q3.le L gl 31 (lR _) i1 i2) (le0 j j1 j2)
    have ds:DsO R (arrOf st) lo (lo+m+1):=λ i j i1 ij j2=>by
     by_cases c:j=lo+m
     ·rw[c]
      exact L.tr _ _ _ (gl _ (zAW 31)) (gl _ (zAW 31)) (gl _ (zAW 31)) (eq i (lo+m - 1) i1 31 31 31) gm
     ·exact eq i j i1 31 31 31
    refine wpS_bind (zBc ?_);have ag0:Agr (arrOf st) (mirror (arrOf st) lo (lo+m) ((lo+m - lo) / 2)) lo (lo+nrem):=(zCF 31).wide 31 31;have ds0:=zDu (l:=lo) (lR _) (show lo+m<=lo+(m+1) by lia) 31 ds eq;generalize mirror (arrOf st) lo (lo+m) ((lo+m - lo) / 2)=arr0 at ag0 ds0 ⊢;refine wpS_bind (zB3 ?_)
    refine wpS_bind (wpS_mono (wpS_forRange (I:=λ i (c:Option (Option Nat) × Nat × Nat) st2=>∃arr,st2=setArr st arr/\c.1=none/\c.2.1=i/\c.2.1<=nrem/\Agr (arrOf st) arr lo (lo+nrem)/\DsO R arr lo (lo+c.2.1)/\c.2.2+1<=c.2.1/\EqO R arr (lo+c.2.1 - (c.2.2+1)) (lo+c.2.1)) (Q:=λ c st2=>∃arr,st2=setArr st arr/\c.1=none/\c.2.1<=nrem/\Agr (arrOf st) arr lo (lo+nrem)/\DsO R arr lo (lo+c.2.1)/\c.2.2+1<=c.2.1/\EqO R arr (lo+c.2.1 - (c.2.2+1)) (lo+c.2.1)) ?_ ?_ ⟨arr0,rfl,rfl,rfl,37,ag0,ds0,37,λ i j i1 i2 j1 j2=>by
      dsimp only at i1 i2 j1 j2;have e1:i=lo+m:=by lia
      have e2:j=lo+m:=by lia
      rw[e1,e2];exact zC9 L (ag0.gl gl _ (zAW (by have:=ag0.size;lia)))⟩) ?_)
    ·refine λ i=>all3 λ r n q st2 Ω hi hI=>?_
     obtain⟨arr,hI⟩:=hI;refine an8 hI λ hE0 hE1 hE2 q2 ag ds hq eb=>?_;obtain rfl:=hE0;obtain rfl:=hE1;obtain rfl:=hE2;dsimp only at q2 ds hq eb hi ⊢;have ga:=ag.gl gl;have sz:=ag.size;refine wpS_bind (zBC L (st:=setArr st arr) hk ga (show lo+n<arr.size by lia) (show lo+n - 1<arr.size by lia) ?_);dsimp only
     have one:∀{xs:Array Keyed},Agr (arrOf st) xs lo (lo+nrem)->EqO R xs (lo+(n+1) - (0+1)) (lo+(n+1)):=λ{xs} agx i j i1 i2 j1 j2=>by
      have e1:i=lo+n:=by lia
      have e2:j=lo+n:=by lia
      rw[e1,e2];exact zC9 L (agx.gl gl _ (zAW (by have:=agx.size;lia)))
     cases z:R (arr.getD (lo+n) d0) (arr.getD (lo+n - 1) d0) with
     |true =>
      have d2:=ds.more L ga 31 31 (L.asym _ _ (ga _ (zAW 31)) (ga _ (zAW 31)) z);rw[if_pos rfl];refine zAL (λ c=>?_) (λ c=>?_)
      ·have ag3:=ag.trans ((zCF (xs:=arr) (i:=lo+n - (q+1)) (j:=lo+n) 31).wide 31 31)
       exact wpS_bind (zBc (wpS_pure ⟨_,rfl,rfl,rfl,37,ag3,zDu (m:=lo+n+1) 31 31 31 d2 eb,37,one ag3⟩))
      ·exact wpS_pure ⟨_,rfl,rfl,rfl,37,ag,d2,37,one ag⟩
     |false =>
      rw[if_neg 41];refine wpS_bind (zBC L (st:=setArr st arr) hk ga (show lo+n - 1<arr.size by lia) (show lo+n<arr.size by lia) ?_);dsimp only;cases z2:R (arr.getD (lo+n - 1) d0) (arr.getD (lo+n) d0) with
      |true=>exact wpS_pure ⟨_,rfl,rfl,q2,ag,ds,hq,eb⟩
      |false =>
       have d2:=ds.more L ga 31 31 z2;refine wpS_pure ⟨_,rfl,rfl,rfl,37,ag,d2,37,λ i j i1 i2 j1 j2=>?_⟩;dsimp only at i1 i2 j1 j2;have b1:∀i,lo+n - (q+1)<=i->i<lo+n->R (arr.getD i d0) (arr.getD (lo+n) d0)=false:=λ i i1 i2=>L.tr _ _ _ (ga _ (zAW 31)) (ga _ (zAW 31)) (ga _ (zAW 31)) (eb i (lo+n - 1) i1 i2 31 31) z2;have b2:∀i,lo+n - (q+1)<=i->i<lo+n->R (arr.getD (lo+n) d0) (arr.getD i d0)=false:=λ i i1 i2=>L.tr _ _ _ (ga _ (zAW 31)) (ga _ (zAW 31)) (ga _ (zAW 31)) z (eb (lo+n - 1) i 31 31 i1 i2)
       by_cases ci:i=lo+n
       ·by_cases cj:j=lo+n
        ·rw[ci,cj];exact zC9 L (ga _ (zAW 31))
        ·rw[ci];exact b2 j 31 31
       ·by_cases cj:j=lo+n
        ·rw[cj];exact b1 i 31 31
        ·exact eb i j 31 31 31 31
    ·refine all3 λ r n q st2 hI=>?_
     obtain⟨arr,hI⟩:=hI;refine an8 hI λ hE0 hE1 q0 q2 ag ds hq eb=>?_;obtain rfl:=hE0;obtain rfl:=hE1;exact⟨arr,rfl,rfl,q2,ag,ds,hq,eb⟩
    refine all3 λ r n2 q st2 hI=>?_;obtain⟨arr,hI⟩:=hI;refine an7 hI λ hE0 hE1 q2 ag ds hq eb=>?_;obtain rfl:=hE0;obtain rfl:=hE1;dsimp only at q2 ds hq eb ⊢;have sz:=ag.size;refine zAL (λ c=>?_) (λ c=>?_)
    ·have ag3:=ag.trans ((zCF (xs:=arr) (i:=lo+n2 - (q+1)) (j:=lo+n2) 31).wide 31 31)
     have sz3:=ag3.size;have d3:=zDu (l:=lo) 31 (lR (lo+n2)) 31 ds eb;refine wpS_bind (zBc (wpS_bind (zBc ?_)));have ag2:=ag3.trans ((zCF (i:=lo) (j:=lo+n2) 31).wide 31 31);have sg2:=zEV 31 d3;generalize mirror (mirror arr (lo+n2 - (q+1)) (lo+n2) ((lo+n2 - (lo+n2 - (q+1))) / 2)) lo (lo+n2) ((lo+n2 - lo) / 2)=arr2 at ag2 sg2 ⊢;have ga2:=ag2.gl gl;have sz2:=ag2.size;refine wpS_bind 42
     ·refine λ i=>all2 λ r n st2 Ω hi hI=>an6 hI λ hE0 hE1 hE2 q1 q2 q3=>?_
      obtain rfl:=hE0;obtain rfl:=hE1;obtain rfl:=hE2;dsimp only at q1 q2 q3 hi ⊢;refine wpS_bind (zBC L (st:=setArr st arr2) hk ga2 (show lo+n<arr2.size by lia) (show lo+n - 1<arr2.size by lia) ?_);dsimp only;cases z:R (arr2.getD (lo+n) d0) (arr2.getD (lo+n - 1) d0) with
      |true=>exact wpS_pure ⟨rfl,rfl,q1,q2,q3,λ Ω=>z⟩
      |false=>exact wpS_pure ⟨rfl,rfl,rfl,37,37,q3.more (u:=lo+n) L ga2 31 31 z⟩
     ·refine all2 λ r n st2 hI=>an6 hI λ hE0 hE1 q0 q1 q2 q3=>?_
      obtain rfl:=hE0;obtain rfl:=hE1;dsimp only at q0 q1 q2 q3 ⊢;exact⟨rfl,rfl,q1,q2,q3,λ z=>by lia⟩
     refine all2 λ r n st2 hI=>an6 hI λ hE0 hE1 q1 q2 q3 q4=>?_;obtain rfl:=hE0;obtain rfl:=hE1;dsimp only at q1 q2 q3 q4 ⊢;exact wpS_pure (h n arr2 q1 q2 ag2 q3)
    ·refine wpS_bind (zBc ?_)
     have ag2:=ag.trans ((zCF (xs:=arr) (i:=lo) (j:=lo+n2) 31).wide 31 31);have sg2:=zEV 31 ds;generalize mirror arr lo (lo+n2) ((lo+n2 - lo) / 2)=arr2 at ag2 sg2 ⊢;have ga2:=ag2.gl gl;have sz2:=ag2.size;refine wpS_bind 42
     ·refine λ i=>all2 λ r n st2 Ω hi hI=>an6 hI λ hE0 hE1 hE2 q1 q2 q3=>?_
      obtain rfl:=hE0;obtain rfl:=hE1;obtain rfl:=hE2;dsimp only at q1 q2 q3 hi ⊢;refine wpS_bind (zBC L (st:=setArr st arr2) hk ga2 (show lo+n<arr2.size by lia) (show lo+n - 1<arr2.size by lia) ?_);dsimp only;cases z:R (arr2.getD (lo+n) d0) (arr2.getD (lo+n - 1) d0) with
      |true=>exact wpS_pure ⟨rfl,rfl,q1,q2,q3,λ Ω=>z⟩
      |false=>exact wpS_pure ⟨rfl,rfl,rfl,37,37,q3.more (u:=lo+n) L ga2 31 31 z⟩
     ·refine all2 λ r n st2 hI=>an6 hI λ hE0 hE1 q0 q1 q2 q3=>?_
      obtain rfl:=hE0;obtain rfl:=hE1;dsimp only at q0 q1 q2 q3 ⊢;exact⟨rfl,rfl,q1,q2,q3,λ z=>by lia⟩
     refine all2 λ r n st2 hI=>an6 hI λ hE0 hE1 q1 q2 q3 q4=>?_;obtain rfl:=hE0;obtain rfl:=hE1;dsimp only at q1 q2 q3 q4 ⊢;exact wpS_pure (h n arr2 q1 q2 ag2 q3)
  ·have em:m=1:=by lia
   have ag0:=Agr.refl (arrOf st) lo (lo+nrem)
   have ds0:DsO R (arrOf st) lo (lo+(m+1)):=λ i j i1 ij j2=>by
    have c1:i=lo+m - 1:=by lia
    have c2:j=lo+m:=by lia
    rw[c1,c2];exact gm
   have hx:∃arr0,arr0=arrOf st:=43;obtain⟨arr0,harr⟩:=hx;rw[←harr] at ag0 ds0 ⊢;rw[harr] at ag0
   conv at ag0=>arg 2;rw[←harr]
   refine wpS_bind (zB3 ?_)
   refine wpS_bind (wpS_mono (wpS_forRange (I:=λ i (c:Option (Option Nat) × Nat × Nat) st2=>∃arr,st2=setArr st arr/\c.1=none/\c.2.1=i/\c.2.1<=nrem/\Agr (arrOf st) arr lo (lo+nrem)/\DsO R arr lo (lo+c.2.1)/\c.2.2+1<=c.2.1/\EqO R arr (lo+c.2.1 - (c.2.2+1)) (lo+c.2.1)) (Q:=λ c st2=>∃arr,st2=setArr st arr/\c.1=none/\c.2.1<=nrem/\Agr (arrOf st) arr lo (lo+nrem)/\DsO R arr lo (lo+c.2.1)/\c.2.2+1<=c.2.1/\EqO R arr (lo+c.2.1 - (c.2.2+1)) (lo+c.2.1)) ?_ ?_ ⟨arr0,rfl,rfl,rfl,37,ag0,ds0,37,λ i j i1 i2 j1 j2=>by
     dsimp only at i1 i2 j1 j2;have e1:i=lo+m:=by lia
     have e2:j=lo+m:=by lia
     rw[e1,e2];exact zC9 L (ag0.gl gl _ (zAW (by have:=ag0.size;lia)))⟩) ?_)
   ·refine λ i=>all3 λ r n q st2 Ω hi hI=>?_
    obtain⟨arr,hI⟩:=hI;refine an8 hI λ hE0 hE1 hE2 q2 ag ds hq eb=>?_;obtain rfl:=hE0;obtain rfl:=hE1;obtain rfl:=hE2;dsimp only at q2 ds hq eb hi ⊢;have ga:=ag.gl gl;have sz:=ag.size;refine wpS_bind (zBC L (st:=setArr st arr) hk ga (show lo+n<arr.size by lia) (show lo+n - 1<arr.size by lia) ?_);dsimp only
    have one:∀{xs:Array Keyed},Agr (arrOf st) xs lo (lo+nrem)->EqO R xs (lo+(n+1) - (0+1)) (lo+(n+1)):=λ{xs} agx i j i1 i2 j1 j2=>by
     have e1:i=lo+n:=by lia
     have e2:j=lo+n:=by lia
     rw[e1,e2];exact zC9 L (agx.gl gl _ (zAW (by have:=agx.size;lia)))
    cases z:R (arr.getD (lo+n) d0) (arr.getD (lo+n - 1) d0) with
    |true =>
     have d2:=ds.more L ga 31 31 (L.asym _ _ (ga _ (zAW 31)) (ga _ (zAW 31)) z);rw[if_pos rfl];refine zAL (λ c=>?_) (λ c=>?_)
     ·have ag3:=ag.trans ((zCF (xs:=arr) (i:=lo+n - (q+1)) (j:=lo+n) 31).wide 31 31)
      exact wpS_bind (zBc (wpS_pure ⟨_,rfl,rfl,rfl,37,ag3,zDu (m:=lo+n+1) 31 31 31 d2 eb,37,one ag3⟩))
     ·exact wpS_pure ⟨_,rfl,rfl,rfl,37,ag,d2,37,one ag⟩
    |false =>
     rw[if_neg 41];refine wpS_bind (zBC L (st:=setArr st arr) hk ga (show lo+n - 1<arr.size by lia) (show lo+n<arr.size by lia) ?_);dsimp only;cases z2:R (arr.getD (lo+n - 1) d0) (arr.getD (lo+n) d0) with
     |true=>exact wpS_pure ⟨_,rfl,rfl,q2,ag,ds,hq,eb⟩
     |false =>
      have d2:=ds.more L ga 31 31 z2;refine wpS_pure ⟨_,rfl,rfl,rfl,37,ag,d2,37,λ i j i1 i2 j1 j2=>?_⟩;dsimp only at i1 i2 j1 j2;have b1:∀i,lo+n - (q+1)<=i->i<lo+n->R (arr.getD i d0) (arr.getD (lo+n) d0)=false:=λ i i1 i2=>L.tr _ _ _ (ga _ (zAW 31)) (ga _ (zAW 31)) (ga _ (zAW 31)) (eb i (lo+n - 1) i1 i2 31 31) z2;have b2:∀i,lo+n - (q+1)<=i->i<lo+n->R (arr.getD (lo+n) d0) (arr.getD i d0)=false:=λ i i1 i2=>L.tr _ _ _ (ga _ (zAW 31)) (ga _ (zAW 31)) (ga _ (zAW 31)) z (eb (lo+n - 1) i 31 31 i1 i2)
      by_cases ci:i=lo+n
      ·by_cases cj:j=lo+n
       ·rw[ci,cj];exact zC9 L (ga _ (zAW 31))
       ·rw[ci];exact b2 j 31 31
      ·by_cases cj:j=lo+n
       ·rw[cj];exact b1 i 31 31
       ·exact eb i j 31 31 31 31
   ·refine all3 λ r n q st2 hI=>?_
    obtain⟨arr,hI⟩:=hI;refine an8 hI λ hE0 hE1 q0 q2 ag ds hq eb=>?_;obtain rfl:=hE0;obtain rfl:=hE1;exact⟨arr,rfl,rfl,q2,ag,ds,hq,eb⟩
   refine all3 λ r n2 q st2 hI=>?_;obtain⟨arr,hI⟩:=hI;refine an7 hI λ hE0 hE1 q2 ag ds hq eb=>?_;obtain rfl:=hE0;obtain rfl:=hE1;dsimp only at q2 ds hq eb ⊢;have sz:=ag.size;refine zAL (λ c=>?_) (λ c=>?_)
   ·have ag3:=ag.trans ((zCF (xs:=arr) (i:=lo+n2 - (q+1)) (j:=lo+n2) 31).wide 31 31)
    have sz3:=ag3.size;have d3:=zDu (l:=lo) 31 (lR (lo+n2)) 31 ds eb;refine wpS_bind (zBc (wpS_bind (zBc ?_)));have ag2:=ag3.trans ((zCF (i:=lo) (j:=lo+n2) 31).wide 31 31);have sg2:=zEV 31 d3;generalize mirror (mirror arr (lo+n2 - (q+1)) (lo+n2) ((lo+n2 - (lo+n2 - (q+1))) / 2)) lo (lo+n2) ((lo+n2 - lo) / 2)=arr2 at ag2 sg2 ⊢;have ga2:=ag2.gl gl;have sz2:=ag2.size;refine wpS_bind 42
    ·refine λ i=>all2 λ r n st2 Ω hi hI=>an6 hI λ hE0 hE1 hE2 q1 q2 q3=>?_
     obtain rfl:=hE0;obtain rfl:=hE1;obtain rfl:=hE2;dsimp only at q1 q2 q3 hi ⊢;refine wpS_bind (zBC L (st:=setArr st arr2) hk ga2 (show lo+n<arr2.size by lia) (show lo+n - 1<arr2.size by lia) ?_);dsimp only;cases z:R (arr2.getD (lo+n) d0) (arr2.getD (lo+n - 1) d0) with
     |true=>exact wpS_pure ⟨rfl,rfl,q1,q2,q3,λ Ω=>z⟩
     |false=>exact wpS_pure ⟨rfl,rfl,rfl,37,37,q3.more (u:=lo+n) L ga2 31 31 z⟩
    ·refine all2 λ r n st2 hI=>an6 hI λ hE0 hE1 q0 q1 q2 q3=>?_
     obtain rfl:=hE0;obtain rfl:=hE1;dsimp only at q0 q1 q2 q3 ⊢;exact⟨rfl,rfl,q1,q2,q3,λ z=>by lia⟩
    refine all2 λ r n st2 hI=>an6 hI λ hE0 hE1 q1 q2 q3 q4=>?_;obtain rfl:=hE0;obtain rfl:=hE1;dsimp only at q1 q2 q3 q4 ⊢;exact wpS_pure (h n arr2 q1 q2 ag2 q3)
   ·refine wpS_bind (zBc ?_)
    have ag2:=ag.trans ((zCF (xs:=arr) (i:=lo) (j:=lo+n2) 31).wide 31 31);have sg2:=zEV 31 ds;generalize mirror arr lo (lo+n2) ((lo+n2 - lo) / 2)=arr2 at ag2 sg2 ⊢;have ga2:=ag2.gl gl;have sz2:=ag2.size;refine wpS_bind 42
    ·refine λ i=>all2 λ r n st2 Ω hi hI=>an6 hI λ hE0 hE1 hE2 q1 q2 q3=>?_
     obtain rfl:=hE0;obtain rfl:=hE1;obtain rfl:=hE2;dsimp only at q1 q2 q3 hi ⊢;refine wpS_bind (zBC L (st:=setArr st arr2) hk ga2 (show lo+n<arr2.size by lia) (show lo+n - 1<arr2.size by lia) ?_);dsimp only;cases z:R (arr2.getD (lo+n) d0) (arr2.getD (lo+n - 1) d0) with
     |true=>exact wpS_pure ⟨rfl,rfl,q1,q2,q3,λ Ω=>z⟩
     |false=>exact wpS_pure ⟨rfl,rfl,rfl,37,37,q3.more (u:=lo+n) L ga2 31 31 z⟩
    ·refine all2 λ r n st2 hI=>an6 hI λ hE0 hE1 q0 q1 q2 q3=>?_
     obtain rfl:=hE0;obtain rfl:=hE1;dsimp only at q0 q1 q2 q3 ⊢;exact⟨rfl,rfl,q1,q2,q3,λ z=>by lia⟩
    refine all2 λ r n st2 hI=>an6 hI λ hE0 hE1 q1 q2 q3 q4=>?_;obtain rfl:=hE0;obtain rfl:=hE1;dsimp only at q1 q2 q3 q4 ⊢;exact wpS_pure (h n arr2 q1 q2 ag2 q3)
end
abbrev Run3:=Nat × Nat × Nat
def CovR:List Run3->Nat->Nat->Prop
 |[],lo,hi=>lo=hi
 |r::rs,lo,hi=>r.1=lo/\0<r.2.1/\CovR rs (lo+r.2.1) hi
theorem CovR.app:∀{a b:List Run3}{lo hi:Nat},CovR (a++b) lo hi↔∃m,CovR a lo m/\CovR b m hi
 |[],b,lo,hi=>by simp[CovR]
 |r::a,b,lo,hi=>by
  simp only[List.cons_append,CovR,CovR.app (a:=a)];constructor
  ·rintro⟨h1,h2,m,h3,h4⟩;exact⟨m,⟨h1,h2,h3⟩,h4⟩
  ·rintro⟨m,⟨h1,h2,h3⟩,h4⟩;exact⟨h1,h2,m,h3,h4⟩
theorem CovR.le:∀{a:List Run3}{lo hi:Nat},CovR a lo hi->lo+a.length<=hi
 |[],lo,hi,h=>by simp[CovR] at h ⊢;lia
 |r::a,lo,hi,h=>by
  obtain⟨h1,h2,h3⟩:=h;have:=h3.le;simp
  lia
theorem CovR.mem:∀{a:List Run3}{lo hi:Nat},CovR a lo hi->∀r∈a,lo<=r.1/\r.1+r.2.1<=hi
 |r::a,lo,hi,⟨h1,h2,h3⟩,x,hx=>by
  have:=h3.le;rcases lN.mp hx with rfl|hx
  ·lia
  ·have:=h3.mem x hx
   lia
section
variable {M:Model}{A:Around}{E:XQ}{s:Shared}{κ:SortKind}{G:Keyed->Prop}{R:Keyed->Keyed->Bool}{a₀:Array Keyed}
structure RunS (κ:SortKind) (R:Keyed->Keyed->Bool) (a₀:Array Keyed) (st:SortSt) (lo:Nat):Prop where
 kind:kindOf st=κ
 fail:failedOf st=none
 perm:(arrOf st).toList.Perm a₀.toList
 cov:CovR (pendingOf st).toList 0 lo
 seg:∀r∈(pendingOf st).toList,SegO R (arrOf st) r.1 (r.1+r.2.1)
theorem RunS.size {st:SortSt}{lo:Nat}(p:RunS κ R a₀ st lo):(arrOf st).size=a₀.size:=by have:=p.perm.length_eq;simpa using this
theorem SegO.same {xs ys:Array Keyed}{l u:Nat}(h:SegO R xs l u) (e:∀j,l<=j->j<u->ys.getD j d0=xs.getD j d0):SegO R ys l u:=λ i j hi hij hj=>by
 rw[e i hi 31,e j 31 hj];exact h i j hi hij hj
theorem RunS.above {st:SortSt}{lo u:Nat}(p:RunS κ R a₀ st lo) {arr:Array Keyed}(ag:Agr (arrOf st) arr lo u):RunS κ R a₀ (setArr st arr) lo :=
 ⟨p.kind,p.fail,ag.perm.trans p.perm,p.cov,λ r hr=>(p.seg r hr).same λ j h1 h2=>ag.out j (.inl (by have:=p.cov.mem r hr;lia))⟩
theorem zLJ {p:List Run3}{i:Nat}(h:i+1<p.length):∃pre x y post,p=pre++x::y::post/\pre.length=i:=by
 refine⟨p.take i,p[i],p[i+1],p.drop (i+2),?_,by simp;lia⟩;rw[←List.drop_eq_getElem_cons (i:=i+1) 31,←List.drop_eq_getElem_cons (i:=i) 31,List.take_append_drop]
theorem zC8 (L:LtE M A E s κ G R) (ga:∀x∈a₀.toList,G x) {st:SortSt}{lo i:Nat}(p:RunS κ R a₀ st lo) (hlo:lo<=a₀.size) (hi:i+1<(pendingOf st).size) {Q:Bool->SortSt->Prop}
  (h:∀st':SortSt,RunS κ R a₀ st' lo->(pendingOf st').size+1=(pendingOf st).size->(∀j,lo<=j->(arrOf st').getD j d0=(arrOf st).getD j d0)->Q true st'):wpS M A E s (mergeAt' i) Q st:=by
 obtain⟨pre,⟨sa,na,pa⟩,⟨sb,nb,pb⟩,post,ep,el⟩:=zLJ (p:=(pendingOf st).toList) (i:=i) (by simpa using hi);have cv:=p.cov;rw[ep] at cv;obtain⟨m,c1,c2,c3,c4,c5,c6⟩:=CovR.app.mp cv;dsimp only at c2 c3 c4 c5 c6;have hle:=c6.le;have g1:(pendingOf st)[i]?=some (sa,na,pa):=by rw[←nP,ep,nA 31,el];simp
 have g2:(pendingOf st)[i+1]?=some (sb,nb,pb):=by rw[←nP,ep,nA 31,el];simp
 have s1:=p.seg (sa,na,pa) (by rw[ep];simp);have s2:=p.seg (sb,nb,pb) (by rw[ep];simp);dsimp only at s1 s2;have sz:=p.size;refine zGo L p.kind p.fail (λ x hx=>ga x (p.perm.mem_iff.mp hx)) g1 g2 31 31 c3 c5 (by rw[show sb=sa+na by lia];exact s1) s2 λ arr g pm same sg=>?_
 have en:(((pendingOf st).setIfInBounds i (sa,na+nb,pa)).eraseIdxIfInBounds (i+1)).toList=pre++(sa,na+nb,pa)::post:=by
  rw[Array.toList_eraseIdxIfInBounds,Array.toList_setIfInBounds,ep,List.set_append_right _ _ 31,el,Nat.sub_self];rw[List.eraseIdx_append_of_length_le 31,el,Nat.add_sub_cancel_left];simp
 refine h _ ⟨rfl,rfl,pm.trans p.perm,?_,?_⟩ ?_ λ j hj=>same j (.inr 31)
 ·show CovR (((pendingOf st).setIfInBounds i (sa,na+nb,pa)).eraseIdxIfInBounds (i+1)).toList 0 lo
  rw[en];refine CovR.app.mpr ⟨m,c1,c2,by show 0<na+nb;lia,?_⟩;show CovR post (m+(na+nb)) lo;rw[←Nat.add_assoc];exact c6
 ·intro r hr
  have hr':r∈pre++(sa,na+nb,pa)::post:=by rw[←en];exact hr
  rcases lJ.mp hr' with hr'|hr'
  ·have z:=c1.mem r hr'
   exact(p.seg r (by rw[ep];exact mG _ hr')).same λ j h1 h2=>same j (.inl 31)
  ·rcases lN.mp hr' with rfl|hr'
   ·show SegO R arr sa (sa+(na+nb))
    rw[show sa+(na+nb)=sb+nb by lia];exact sg
   ·have z:=c6.mem r hr'
    exact(p.seg r (by rw[ep];simp[hr'])).same λ j h1 h2=>same j (.inr 31)
 ·have:=congrArg List.length en
  have e2:=congrArg List.length ep;simp only[Array.length_toList,mK,mP] at this e2;show (((pendingOf st).setIfInBounds i (sa,na+nb,pa)).eraseIdxIfInBounds (i+1)).size+1=_
  lia
theorem zG3 {α:Type}{c:Prop} [Decidable c] {m n:StateT SortSt Sem α}{Q:α->SortSt->Prop}{st:SortSt}(h1:c->wpS M A E s m Q st) (h2:¬c->wpS M A E s n Q st):wpS M A E s (if c then m else n) Q st:=by
 by_cases z:c
 ·rw[if_pos z];exact h1 z
 ·rw[if_neg z];exact h2 z
theorem CovR.of_map:∀{a b:List Run3}{lo hi:Nat},a.map (λ r=>(r.1,r.2.1))=b.map (λ r=>(r.1,r.2.1))->CovR a lo hi->CovR b lo hi
 |[],[],_,_,_,h=>h
 |[],_::_,_,_,e,_=>by simp at e
 |_::_,[],_,_,e,_=>by simp at e
 |r::a,q::b,lo,hi,e,⟨h1,h2,h3⟩=>by
  simp only[mL,List.cons.injEq,Prod.mk.injEq] at e;obtain⟨⟨e1,e2⟩,e3⟩:=e;exact⟨e1▸h1,e2▸h2,e2▸CovR.of_map e3 h3⟩
theorem RunS.push {st:SortSt}{lo n:Nat}(p:RunS κ R a₀ st lo) (hn:0<n) (sg:SegO R (arrOf st) lo (lo+n)):RunS κ R a₀ (setPending st ((pendingOf st).push (lo,n,0))) (lo+n):=by
 refine⟨p.kind,p.fail,p.perm,?_,?_⟩
 ·show CovR ((pendingOf st).push (lo,n,0)).toList 0 (lo+n)
  rw[Array.toList_push];exact CovR.app.mpr ⟨lo,p.cov,rfl,hn,rfl⟩
 ·intro r hr
  have hr':r∈((pendingOf st).push (lo,n,0)).toList:=hr;rw[Array.toList_push] at hr';rcases lJ.mp hr' with hr'|hr'
  ·exact p.seg r hr'
  ·rw[mX] at hr'
   subst hr';exact sg
theorem RunS.modify {st:SortSt}{lo k w:Nat}(p:RunS κ R a₀ st lo):RunS κ R a₀ (setPending st ((pendingOf st).modify k λ x=>(x.1,x.2.1,w))) lo:=by
 have em:((pendingOf st).modify k λ x=>(x.1,x.2.1,w)).toList.map (λ r=>(r.1,r.2.1))=(pendingOf st).toList.map (λ r=>(r.1,r.2.1)):=by
  rw[Array.toList_modify];refine List.ext_getElem? λ j=>?_;rw[mI,mI,List.getElem?_modify];cases (pendingOf st).toList[j]? with
  |none=>rfl
  |some x=>by_cases c:k=j<;>simp[c]
 refine⟨p.kind,p.fail,p.perm,p.cov.of_map em.symm,λ r hr=>?_⟩;have hr':(r.1,r.2.1)∈((pendingOf st).modify k λ x=>(x.1,x.2.1,w)).toList.map (λ r=>(r.1,r.2.1)):=mC.mpr ⟨r,hr,rfl⟩;rw[em] at hr';obtain⟨q,hq,e⟩:=mC.mp hr';have:=p.seg q hq;simp only[Prod.mk.injEq] at e;rw[e.1,e.2] at this;exact this
theorem zFa (L:LtE M A E s κ G R) (ga:∀x∈a₀.toList,G x) {st:SortSt}{Q:Unit->SortSt->Prop}(p:RunS κ R a₀ st 0) (h0:0<a₀.size)
  (h:∀st':SortSt,kindOf st'=κ->failedOf st'=none->(arrOf st').toList.Perm a₀.toList->SegO R (arrOf st') 0 a₀.size->Q () st'):wpS M A E s sortRuns' Q st:=by
 rw[sortRuns'_eq];refine wpS_bind (wpS_get ?_);dsimp only;have sz0:=p.size;refine wpS_bind (wpS_mono (wpS_forRange (I:=λ i (c:Option Unit × Nat) st'=>c.1=none/\RunS κ R a₀ st' c.2/\c.2<=a₀.size/\i<=c.2) (Q:=λ c st'=>c.1=none/\RunS κ R a₀ st' a₀.size) ?_ ?_ ⟨rfl,p,lY _,lR _⟩) ?_)
 ·refine λ i=>all2 λ r lo st' Ω hi hI=>an4 hI λ hE0 p' hlo hil=>?_
  obtain rfl:=hE0;dsimp only at p' hlo hil ⊢;have szp:=p'.size
  by_cases c0:lo ≥ (arrOf st).size
  ·rw[if_pos c0]
   have:lo=a₀.size:=by lia
   rw[this] at p' ⊢;exact wpS_pure ⟨rfl,p'⟩
  ·rw[if_neg c0]
   refine wpS_bind (zJb L p'.kind (λ x hx=>ga x (p'.perm.mem_iff.mp hx)) 31 31 λ n arr hn1 hn2 ag sg=>?_);dsimp only;have pa:=p'.above ag;have aga:=ag.size
   by_cases cm:n<minRun' (arrOf st).size (arrOf st).size 0
   ·rw[if_pos cm]
    refine wpS_bind (zB3 ?_);refine wpS_bind (zIf L (st:=setArr st' arr) pa.kind (λ x hx=>ga x (pa.perm.mem_iff.mp hx)) (show lo+min ((arrOf st).size - lo) (minRun' (arrOf st).size (arrOf st).size 0)<=arr.size by lia) hn1 31 sg λ arr2 ag2 sg2=>?_);rw[if_neg 41];have p1:RunS κ R a₀ (setArr st' arr2) lo:=pa.above ag2;have sg1:SegO R (arrOf (setArr st' arr2)) lo (lo+min ((arrOf st).size - lo) (minRun' (arrOf st).size (arrOf st).size 0)):=sg2;have hN:0<min ((arrOf st).size - lo) (minRun' (arrOf st).size (arrOf st).size 0):=by lia
    have hN2:lo+min ((arrOf st).size - lo) (minRun' (arrOf st).size (arrOf st).size 0)<=a₀.size:=by lia
    show wpS M A E s _ _ (setArr st' arr2);generalize setArr st' arr2=st1 at p1 sg1 ⊢;generalize min ((arrOf st).size - lo) (minRun' (arrOf st).size (arrOf st).size 0)=N at hN hN2 sg1 ⊢;refine wpS_bind (wpS_get ?_);cases hb:(pendingOf st1).back? with
    |none =>
     dsimp only;refine wpS_bind (wpS_modify (wpS_pure ⟨rfl,p1.push hN sg1,?_,?_⟩))
     ·exact hN2
     ·dsimp only;lia
    |some r3 =>
     obtain⟨s1,n1,o1⟩:=r3;dsimp only;refine wpS_bind (wpS_mono (wpS_forRange (I:=λ i (c:Option Unit × Unit) st2=>c.1=none/\RunS κ R a₀ st2 lo/\SegO R (arrOf st2) lo (lo+N)) (Q:=λ c st2=>c.1=none/\RunS κ R a₀ st2 lo/\SegO R (arrOf st2) lo (lo+N)) ?_ ?_ ⟨rfl,p1,sg1⟩) ?_)
     ·refine λ i2=>all2 λ r u st2 Ω Ω hI=>an3 hI λ hE0 p2 sg2=>?_
      obtain rfl:=hE0;refine wpS_bind (wpS_get ?_)
      by_cases c:(pendingOf st2).size > 1
      ·rw[if_pos c]
       obtain⟨⟨x1,x2,x3⟩,hx⟩:∃x,(pendingOf st2)[(pendingOf st2).size - 2]?=some x:=⟨_,Array.getElem?_eq_getElem 31⟩;rw[hx];dsimp only;refine zG3 (λ Ω=>wpS_pure ⟨rfl,p2,sg2⟩) λ Ω=>?_;refine wpS_bind (zC8 L ga p2 31 31 λ st3 p3 Ω same=>?_);rw[if_neg 41];exact wpS_pure ⟨rfl,p3,sg2.same λ j h1 h2=>same j h1⟩
      ·rw[if_neg c]
       exact wpS_pure ⟨rfl,p2,sg2⟩
     ·refine all2 λ r u st2 hI=>an3 hI λ hE0 p2 sg2=>?_
      obtain rfl:=hE0;exact⟨rfl,p2,sg2⟩
     refine all2 λ r u st2 hI=>an3 hI λ hE0 p2 sg2=>?_;obtain rfl:=hE0;dsimp only;refine wpS_bind (wpS_modify (wpS_bind (wpS_modify (wpS_pure ⟨rfl,(p2.modify).push hN sg2,?_,?_⟩))))
     ·exact hN2
     ·dsimp only;lia
   ·rw[if_neg cm]
    have p1:=pa;have sg1:SegO R (arrOf (setArr st' arr)) lo (lo+n):=sg;have hN:0<n:=hn1;have hN2:lo+n<=a₀.size:=by lia
    generalize setArr st' arr=st1 at p1 sg1 ⊢;refine wpS_bind (wpS_get ?_);cases hb:(pendingOf st1).back? with
    |none =>
     dsimp only;refine wpS_bind (wpS_modify (wpS_pure ⟨rfl,p1.push hN sg1,?_,?_⟩))
     ·exact hN2
     ·dsimp only;lia
    |some r3 =>
     obtain⟨s1,n1,o1⟩:=r3;dsimp only;refine wpS_bind (wpS_mono (wpS_forRange (I:=λ i (c:Option Unit × Unit) st2=>c.1=none/\RunS κ R a₀ st2 lo/\SegO R (arrOf st2) lo (lo+n)) (Q:=λ c st2=>c.1=none/\RunS κ R a₀ st2 lo/\SegO R (arrOf st2) lo (lo+n)) ?_ ?_ ⟨rfl,p1,sg1⟩) ?_)
     ·refine λ i2=>all2 λ r u st2 Ω Ω hI=>an3 hI λ hE0 p2 sg2=>?_
      obtain rfl:=hE0;refine wpS_bind (wpS_get ?_)
      by_cases c:(pendingOf st2).size > 1
      ·rw[if_pos c]
       obtain⟨⟨x1,x2,x3⟩,hx⟩:∃x,(pendingOf st2)[(pendingOf st2).size - 2]?=some x:=⟨_,Array.getElem?_eq_getElem 31⟩;rw[hx];dsimp only;refine zG3 (λ Ω=>wpS_pure ⟨rfl,p2,sg2⟩) λ Ω=>?_;refine wpS_bind (zC8 L ga p2 31 31 λ st3 p3 Ω same=>?_);rw[if_neg 41];exact wpS_pure ⟨rfl,p3,sg2.same λ j h1 h2=>same j h1⟩
      ·rw[if_neg c]
       exact wpS_pure ⟨rfl,p2,sg2⟩
     ·refine all2 λ r u st2 hI=>an3 hI λ hE0 p2 sg2=>?_
      obtain rfl:=hE0;exact⟨rfl,p2,sg2⟩
     refine all2 λ r u st2 hI=>an3 hI λ hE0 p2 sg2=>?_;obtain rfl:=hE0;dsimp only;refine wpS_bind (wpS_modify (wpS_bind (wpS_modify (wpS_pure ⟨rfl,(p2.modify).push hN sg2,?_,?_⟩))))
     ·exact hN2
     ·dsimp only;lia
 ·refine all2 λ r lo st' hI=>an4 hI λ hE0 p' hlo hil=>?_
  obtain rfl:=hE0;dsimp only at p' hlo hil ⊢;have:lo=a₀.size:=by lia
  rw[this] at p';exact⟨rfl,p'⟩
 refine all2 λ r lo st' hI=>?_;obtain⟨rfl,p'⟩:=hI;dsimp only
 have hend:∀st2,RunS κ R a₀ st2 a₀.size->(pendingOf st2).size<=1->Q () st2:=λ st2 p2 hs=>by
  refine h st2 p2.kind p2.fail p2.perm ?_;have cv:=p2.cov;have sg:=p2.seg;have hs':(pendingOf st2).toList.length<=1:=by simpa using hs
  match hp:(pendingOf st2).toList,hs' with
  |[],_ =>
   rw[hp] at cv;simp[CovR] at cv
   lia
  |[x],_ =>
   rw[hp] at cv sg;obtain⟨c1,c2,c3⟩:=cv;have:=sg x lP;rw[c1] at this;have c3':0+x.2.1=a₀.size:=c3;rw[c3'] at this;exact this
  |_::_::_,z=>simp at z
 have sz':(pendingOf st').size<=a₀.size:=by have:=p'.cov.le;simpa using this
 refine wpS_bind (wpS_mono (wpS_forRange (I:=λ i (c:Option Unit × Unit) st2=>c.1=none/\RunS κ R a₀ st2 a₀.size/\(pendingOf st2).size+i<=a₀.size) (Q:=λ c st2=>c.1=none/\RunS κ R a₀ st2 a₀.size/\(pendingOf st2).size<=1) ?_ ?_ ⟨rfl,p',sz'⟩) ?_)
 ·refine λ i=>all2 λ r u st2 Ω hi hI=>an3 hI λ hE0 p2 hc=>?_
  obtain rfl:=hE0;refine wpS_bind (wpS_get ?_)
  by_cases c:(pendingOf st2).size<=1
  ·rw[if_pos c]
   exact wpS_pure ⟨rfl,p2,c⟩
  ·rw[if_neg c]
   refine wpS_bind (zC8 L ga p2 (lR _) ?_ λ st3 p3 hs Ω=>?_)
   ·have ite_le:∀(b:Prop) [Decidable b] (x:Nat),(if b then x - 1 else x)<=x:=λ b Ω x=>by split<;>lia
    refine Nat.lt_of_le_of_lt (Nat.succ_le_succ (ite_le _ _)) ?_
    lia
   ·rw[if_neg 41]
    exact wpS_pure ⟨rfl,p3,by lia⟩
 ·refine all2 λ r u st2 hI=>an3 hI λ hE0 p2 hc=>?_
  obtain rfl:=hE0;exact⟨rfl,p2,by lia⟩
 refine all2 λ r u st2 hI=>an3 hI λ hE0 p2 hs=>?_;obtain rfl:=hE0;exact wpS_pure (hend st2 p2 hs)
end
section
variable {prog:Program}{w:World}{A:Around}{E:XQ}{s:Shared}{κ:SortKind}{G:Keyed->Prop}{R:Keyed->Keyed->Bool}
theorem zLz (hlt:∀x y,G x->G y->∀(E':XQ) (Q:Bool->Shared->Prop),Q (R x y) s->wpAny 45 A (keyLt' κ x.1 y.1) Q E' s)
  (asym:∀x y,G x->G y->R x y=true->R y x=false) (tr:∀x y z,G x->G y->G z->R x y=false->R y z=false->R x z=false):LtE 45 A E s κ G R :=
 ⟨λ x y gx gy st Q hk h=>by
  rw[lt'_eq];refine wpS_bind (wpS_get ?_);rw[hk];exact wpS_bind (wpS_lift (wpAny_attempt (hlt x y gx gy _ _ ⟨rfl,wpS_pure h⟩))),asym,tr⟩
theorem zF1 (vs:List Value):(vs.toArray.zip vs.toArray).toList=vs.map λ v=>(v,v):=by
 simp only[Array.toList_zip]
 induction vs with
 |nil=>rfl
 |cons v vs ih=>simpa using ih
theorem zEl {a:Addr}{vs:List Value}{n:Nat}{P:PySem.Fin->Shared->Prop}(Kd:SortKind->Prop) (ho:s.heap.get? a=some (seqObj "list" vs.toArray n)) (hz:vs.length<=1000)
  (hk:∀h':Heap,(∀b x,s.heap.IsTuple b x->h'.IsTuple b x)->2<=vs.length->∀Q:SortKind->Shared->Prop,(∀κ,Kd κ->Q κ { s with heap:=h' })->wpAny 45 A (keyKind' vs.toArray) Q E { s with heap:=h' })
  (hL:∀h':Heap,(∀b x,s.heap.IsTuple b x->h'.IsTuple b x)->∀κ,Kd κ->LtE 45 A E { s with heap:=h' } κ G R) (hG:∀v∈vs,G (v,v))
  (h:∀ws:List Value,ws.Perm vs->ws.Pairwise (λ x y=>R (y,y) (x,x)=false)->P (.done (.ret .none)) { s with heap:=sortedHeap s.heap a vs ws.toArray }) :
  wpAny 45 A (Builtin.«list.sort» ⟨[.ref a],[]⟩) P E s:=by
 have zl:vs.length<=sizeLine:=Nat.le_of_lt (zAf hz);rw[list_sort_plain];have ha:a<s.heap.objs.size:=lH ho;refine lA (listItems_at ho rfl (lA (listUpdate_at ho rfl ?_ (by rw[mD];exact zl) (lY _))));obtain⟨e1,ho1⟩:∃e1,(s.heap.update a (Obj.mapSeq λ Ω=>#[])).get? a=some (seqObj "list" #[] e1):=⟨_,get?_update_seq ho (λ Ω=>#[])⟩;refine lA (seqEpoch_at ho1 rfl (lA (wpAny_newTuple ?_ (by show vs.length<=_;exact zl))));refine lA (wpAny_newList ?_ (lY _));refine lD ?_;have ho6:(((s.heap.update a (Obj.mapSeq λ Ω=>#[])).push (seqObj "tuple" vs.toArray 0)).push (seqObj "list" #[] 0)).get? a=some (seqObj "list" #[] e1):=by rw[Heap.get?_push_ne _ _ _ (by rw[size_push',Heap.size_update];exact lS (Nat.lt_succ_of_lt ha)),Heap.get?_push_ne _ _ _ (by rw[Heap.size_update];exact lS ha)];exact ho1
 have keep:∀b x,s.heap.IsTuple b x->(((s.heap.update a (Obj.mapSeq λ Ω=>#[])).push (seqObj "tuple" vs.toArray 0)).push (seqObj "list" #[] 0)).IsTuple b x:=λ b x hb=>zGu (λ b o hc hb=>by
  have hne:b≠a:=λ z=>by
   rw[z,ho] at hb;cases hb;injection hc with hh
   exact absurd hh 46
  exact lE _ (lE _ (by rw[Heap.get?_update_ne _ _ _ _ hne];exact hb))) hb
 show wpAny 45 A _ P E { s with heap:=((s.heap.update a (Obj.mapSeq λ Ω=>#[])).push (seqObj "tuple" vs.toArray 0)).push (seqObj "list" #[] 0) };dsimp only
 have outs:∀arr:Array Keyed,arr.toList.Perm (vs.map λ v=>(v,v))->∃ws:List Value,ws.Perm vs/\arr.map (·.2)=ws.toArray/\arr.toList=ws.map λ v=>(v,v):=λ arr pm=>by
  refine⟨arr.toList.map (·.2),?_,?_,?_⟩
  ·have:=pm.map (·.2)
   rw[nY] at this;have e:((λ x:Keyed=>x.2) ∘ λ v:Value=>(v,v))=id:=rfl;rw[e,List.map_id] at this;exact this
  ·rw[←Array.toList_map]
  ·rw[nY]
   refine(List.map_id _).symm.trans (List.map_congr_left λ x hx=>?_);obtain⟨v,_,rfl⟩:=mC.mp (pm.mem_iff.mp hx);rfl
 by_cases h2:vs.toArray.size<2
 ·rw[if_pos h2,if_pos h2]
  refine lA (lB ?_);rw[StateT.run_pure];refine lA (lB ?_);dsimp only;have h2':vs.length<2:=by simpa using h2
  have hid:(arrOf (SortSt.mk' general' (vs.toArray.zip vs.toArray) #[] 7 none)).map (·.2)=vs.toArray:=by
   show (vs.toArray.zip vs.toArray).map (·.2)=_;rw[zIp h2']
   match vs,h2' with
   |[],_=>rfl
   |[x],_=>simp[List.range_succ]
  rw[hid];refine lA (seqEpoch_at ho6 rfl ?_);refine lA (listUpdate_at ho6 rfl ?_ (lY _) (by rw[mD];lia));simp only[bne_self_eq_false,Bool.false_eq_true,if_false];refine lB (h vs (.refl _) ?_)
  match vs,h2' with
  |[],_=>exact List.Pairwise.nil
  |[x],_=>exact List.pairwise_singleton _ _
 ·rw[if_neg h2,if_neg h2]
  have h2':2<=vs.length:=by simpa using h2
  refine lA (hk _ keep h2' _ λ κ hκ=>?_);have L:=hL _ keep κ hκ
  have ga:∀x∈(vs.toArray.zip vs.toArray).toList,G x:=λ x hx=>by
   rw[zF1] at hx;obtain⟨v,hv,rfl⟩:=mC.mp hx;exact hG v hv
  show wpAny 45 A ((sortRuns').run (SortSt.mk' κ (vs.toArray.zip vs.toArray) #[] 7 none) >>= _) P E _
  have sr:=zFa L (a₀:=vs.toArray.zip vs.toArray) ga (st:=SortSt.mk' κ (vs.toArray.zip vs.toArray) #[] 7 none) (Q:=λ Ω st'=>failedOf st'=none/\(arrOf st').toList.Perm (vs.map λ v=>(v,v))/\SegO R (arrOf st') 0 vs.length) ⟨rfl,rfl,.refl _,rfl,λ r hr=>by cases hr⟩ (by simp;lia) λ st' Ω q2 q3 q4=>⟨q2,by rw[zF1] at q3;exact q3,by
   have:(vs.toArray.zip vs.toArray).size=vs.length:=by simp
   rw[this] at q4;exact q4⟩
  refine lA (wpAny_mono sr ?_ λ Ω Ω e=>e);rintro⟨⟨⟩,st'⟩ s' ⟨rfl,hf,pm,sg⟩;dsimp only at hf pm sg ⊢;obtain⟨ws,pw,ew,el⟩:=outs (arrOf st') pm;have szw:ws.length=vs.length:=pw.length_eq;have sza:(arrOf st').size=vs.length:=by have:=pm.length_eq;simpa using this
  rw[ew];refine lA (seqEpoch_at ho6 rfl ?_);refine lA (listUpdate_at ho6 rfl ?_ (lY _) (by rw[mD,szw];lia));rw[hf];simp only[bne_self_eq_false,Bool.false_eq_true,if_false];refine lB (h ws pw ?_);have ol:OL R (arrOf st').toList:=ol_of λ i j hij hj=>sg i j (lY _) hij 31;rw[el] at ol;unfold OL at ol;rw[List.pairwise_map] at ol;exact ol
end
open Classical in
noncomputable def dtOf (h:Heap) (v:Value):Dt:=if e:∃d,DA h d v then e.choose else .tup []
theorem zEb {h:Heap}{v:Value}{ns ms:List Int}(a:PlcAt h v ns) (b:PlcAt h v ms):ns=ms:=by
 obtain⟨p,c,u,its,rfl,h1,h2,h3⟩:=a;obtain⟨p',c',u',its',e,k1,k2,k3⟩:=b;cases e;have e1:=zC1 h1 k1
 have e2:Value.ref c=Value.ref c':=by
  have:=congrArg (λ z:Array Value=>z[0]?) e1;simpa using this
 cases e2;have e3:=zC1 h2 k2;subst e3;have:=h3.nums;rw[k3.nums] at this;exact this.symm
open Classical in
noncomputable def plcOf (h:Heap) (v:Value):List Int:=if e:∃ns,PlcAt h v ns then e.choose else []
theorem zCW {h:Heap}{v:Value}{ns:List Int}(r:PlcAt h v ns):plcOf h v=ns:=by
 unfold plcOf;have e:∃ns,PlcAt h v ns:=⟨ns,r⟩;rw[dif_pos e];exact zEb e.choose_spec r
theorem zJN {a b c:List Int}(h:lexB a b=false) (k:lexB b c=false):lexB a c=false:=by
 by_cases e1:a=b
 ·rw[e1];exact k
 by_cases e2:b=c
 ·rw[←e2];exact h
 exact zDl (zEH (zDT e2 k) (zDT e1 h))
theorem zEa {α β:Type}{R:α->β->Prop}:∀{as:List α}{bs:List β},Paired R as bs->∀{a:α},a∈as->∃b∈bs,R a b
 |_,_,.cons r t,a,ha=>by
  rcases lN.mp ha with rfl|ha
  ·exact⟨_,lP,r⟩
  ·obtain⟨b,hb,q⟩:=zEa t ha
   exact⟨b,lQ _ hb,q⟩
theorem zIw {α β:Type}{R:α->β->Prop}{as' as:List α}(p:as'.Perm as):∀{bs:List β},Paired R as bs->∃bs',bs'.Perm bs/\Paired R as' bs':=by
 induction p with
 |nil=>intro bs h;exact⟨bs,.refl _,h⟩
 |cons x _ ih =>
  intro bs h;cases h with
  |cons r t =>
   obtain⟨bs',pb,q⟩:=ih t;exact⟨_,pb.cons _,.cons r q⟩
 |swap x y l =>
  intro bs h;cases h with
  |cons r t=>cases t with
   |cons r2 t=>exact⟨_,.swap _ _ _,.cons r2 (.cons r t)⟩
 |trans _ _ ih1 ih2 =>
  intro bs h;obtain⟨b2,p2,q2⟩:=ih2 h;obtain⟨b1,p1,q1⟩:=ih1 q2;exact⟨b1,p1.trans p2,q1⟩
section
variable {prog:Program}{w:World}{A:Around}{E:XQ}{s:Shared}
theorem zKZ {x y:Value}{ns ms:List Int}{Q:Bool->Shared->Prop}(hx:PlcAt s.heap x ns) (hy:PlcAt s.heap y ms) (hne:ns=ms->x=y) (hu:A.units<cLine) (h:Q (lexB ns ms) s):wpAny 45 A (keyLt' (tuples' false) x y) Q E s:=by
 by_cases e:ns=ms
 ·have:=hne e
  subst this;subst e;rw[zFJ] at h;obtain⟨a,c,u,its,rfl,⟨o,ho,hc,n,hd⟩,hp,hi⟩:=hx;refine kat_lt ho hd ho hd ?_;show KatLex prog w A false (decide ((2:Nat)<2)) Q [(.ref c,.ref c),(u,u)] 0 s;refine kat_cons (SeqAt.EqAt.same _ prog w _ _ (kat_yes (kat_cons (SeqAt.EqAt.same _ prog w _ _ (kat_yes (kat_nil ?_))))));exact h
 ·exact zLU hx hy e hu h
theorem zD4 {a:Addr}{vs:List Value}{ps:List (List Int)}{n:Nat}{P:PySem.Fin->Shared->Prop}(ho:s.heap.get? a=some (seqObj "list" vs.toArray n)) (hp:Paired (PlcAt s.heap) vs ps) (nd:ps.Nodup) (hz:vs.length<=1000) (hu:A.units<cLine)
  (h:∀ws:List Value,ws.Perm vs->ws.Pairwise (λ x y=>lexB (plcOf s.heap y) (plcOf s.heap x)=false)->P (.done (.ret .none)) { s with heap:=sortedHeap s.heap a vs ws.toArray }) :
  wpAny 45 A (Builtin.«list.sort» ⟨[.ref a],[]⟩) P E s:=by
 have kpd:∀{h':Heap},(∀b x,s.heap.IsTuple b x->h'.IsTuple b x)->∀{v:Value}{ns:List Int},PlcAt s.heap v ns->PlcAt h' v ns:=λ kp v ns ⟨a,c,u,its,e,h1,h2,h3⟩=>⟨a,c,u,its,e,kp _ _ h1,kp _ _ h2,h3⟩
 have inj:∀{x y:Value}{ns:List Int},x∈vs->y∈vs->PlcAt s.heap x ns->PlcAt s.heap y ns->x=y:=λ{x y ns} mx my px py=>by
  obtain⟨i,hi,ei⟩:=List.getElem_of_mem mx;obtain⟨j,hj,ej⟩:=List.getElem_of_mem my;have hl:=hp.length;have q1:=zHc hp (i:=i) hi;have q2:=zHc hp (i:=j) hj;have g1:vs.getD i Value.none=x:=by simp[hi,ei]
  have g2:vs.getD j Value.none=y:=by simp[hj,ej]
  rw[g1] at q1;rw[g2] at q2;have e1:=zEb px q1;have e2:=zEb py q2;have l1:i<ps.length:=by lia
  have l2:j<ps.length:=by lia
  have e3:ps[i]=ps[j]:=by
   have a1:ps.getD i []=ps[i]:=by simp[l1]
   have a2:ps.getD j []=ps[j]:=by simp[l2]
   rw[←a1,←a2,←e1,←e2]
  have:=(List.getElem_inj nd).mp e3;subst this;rw[←ei,←ej]
 refine zEl (G:=λ x=>x.1∈vs) (R:=λ x y=>lexB (plcOf s.heap x.1) (plcOf s.heap y.1)) (λ κ=>κ=tuples' false) ho hz (λ h' kp h2 Q q=>?_) (λ h' kp κ hκ=>?_) (λ v hv=>hv) λ ws pw od=>h ws pw od
 ·have hp':Paired (PlcAt h') vs ps:=Paired.mapP hp λ Ω Ω z=>kpd kp z
  obtain⟨fs,t1,t2,t3⟩:=zGK (prog:=prog) (w:=w) hp';exact kat_kind (T:=.type "tuple") (s:={ s with heap:=h' }) t1 31 t3 46 (q _ rfl)
 ·subst hκ
  refine zLz (λ x y gx gy E' Q q=>?_) (λ x y Ω Ω=>zDl) λ x y z Ω Ω Ω=>zJN;obtain⟨ns,_,rx⟩:=zEa hp gx;obtain⟨ms,_,ry⟩:=zEa hp gy;rw[zCW rx,zCW ry] at q;exact zKZ (s:={ s with heap:=h' }) (kpd kp rx) (kpd kp ry) (λ e=>inj gx gy (e▸rx) ry) hu q
end
section
variable {X:Cx}
def zKR:List V->Hp->VK->Prop:=λ xs H Q=>E3 λ(l:Addr) (vs:List V) (ps:List (List Int × V))=>A6 (xs=[.ref l]) (H l=some (.lst vs)) (Paired (PlV H) ps vs) ((ps.map (·.1)).Nodup) (ps.length<=1000) (∀(l':Addr) (ws:List V) (qs:List (List Int × V)),H l'=none->Paired (PlV H) qs ws->qs.Perm ps->qs.Pairwise (λ a b=>lexB a.1 b.1=true)->Q (.ref l') (upd H l' (.lst ws)))
theorem zDi {α β:Type}{R:α->β->Prop}:∀{as:List α}{bs:List β}{i:Nat}{b:β},Paired R as bs->bs[i]?=some b->∃a,as[i]?=some a/\R a b
 |_,_,0,_,.cons r _,e=>⟨_,rfl,by cases e;exact r⟩
 |_,_,i+1,_,.cons _ t,e=>by
  obtain⟨a,ha,q⟩:=zDi t (i:=i) (by simpa using e);exact⟨a,by simpa using ha,q⟩
theorem zGV {H:Hp}:∀{ws:List Value}{qs:List (List Int × V)},Paired (λ u p=>∃v,RelV v u/\PlV H p v) ws qs->∃vs,Vals vs ws/\Paired (PlV H) qs vs
 |_,_,.nil=>⟨[],.nil,.nil⟩
 |_,_,.cons ⟨v,r,p⟩ t=>by
  obtain⟨vs,a,b⟩:=zGV t;exact⟨v::vs,.cons r a,.cons p b⟩
theorem zE3 {H:Hp}:∀{ps:List (List Int × V)}{vs:List V}{us:List Value},Paired (PlV H) ps vs->Vals vs us->Paired (λ u p=>∃v,RelV v u/\PlV H p v) us ps
 |_,_,_,.nil,r=>by cases r;exact .nil
 |_,_,_,.cons p q,r=>by
  cases r with
  |cons r1 r2=>exact .cons ⟨_,r1,p⟩ (zE3 q r2)
theorem zHg {H:Hp}{P:Program}{w:World}{h:Heap}(ok:HOk P w H h):∀{ws:List Value}{qs:List (List Int × V)},Paired (λ u p=>∃v,RelV v u/\PlV H p v) ws qs->(qs.map (·.1)).Nodup->ws.Pairwise (λ x y=>lexB (plcOf h y) (plcOf h x)=false)->qs.Pairwise (λ a b=>lexB a.1 b.1=true)
 |_,_,.nil,_,_=>.nil
 |_,_,.cons (b:=q) ⟨v,r,p⟩ t,nd,od=>by
  rw[mL,rL] at nd;rw[List.pairwise_cons] at od;refine .cons (λ q' hq'=>?_) (zHg ok t nd.2 od.2);obtain⟨i,hi,rfl⟩:=List.getElem_of_mem hq';have hl:=Paired.length t;obtain⟨b,hb,v',r',p'⟩:=zDi t (lW hi);have e1:=zCW (zGL ok p r);have e2:=zCW (zGL ok p' r');have:=od.1 b (lK hb);rw[e1,e2] at this;exact zDT (λ z=>nd.1 (mC.mpr ⟨_,hq',z⟩)) this
theorem zEu (hu:X.A.units+150<cLine):CallR X (.builtin "sorted") zKR:=by
 intro jP s σ H xs us Q I r h;obtain⟨l,vs,ps,rfl,hl,hp,nd,hz,q⟩:=h;obtain⟨u,rfl,ru⟩:=vals1 r;cases ru;obtain⟨_,its,n0,rv,hlen,el⟩:=I.lstM hl;have hlv:its.length=vs.length:=rv.length.symm;have hlp:ps.length=vs.length:=Paired.length hp;have line:its.length<=sizeLine:=Nat.le_of_lt (zAf 31);refine Calls.call_function_entry kind_sorted plain_sorted entry_sorted (args_sorted1 _) ?_;unfold Builtin.«sorted»;refine lA (m:=checkCount "sorted" 1 1 _) (lB ?_);have hL:s.heap.IsList l its.toArray:=⟨_,el,rfl,_,rfl⟩;refine lA (collect_list hL ?_ (by simpa using line));refine lA (wpAny_newList ?_ (by simpa using line))
 have keep1:∀b o,s.heap.get? b=some o->((s.heap.push (seqObj "list" #[] 0)).update s.heap.objs.size (Obj.mapSeq (·++its.toArray))).get? b=some o:=λ b o q=>by
  have hlt:b<s.heap.objs.size:=lH q;rw[Heap.get?_update_ne _ _ _ _ (Nat.ne_of_lt hlt)];exact lE _ q
 show wpAny _ _ _ _ _ { s with heap:=((s.heap.push (seqObj "list" #[] 0)).update s.heap.objs.size (Obj.mapSeq (·++its.toArray))).push { cls:=.type "list", data:=.seq its.toArray } };generalize (s.heap.push (seqObj "list" #[] 0)).update s.heap.objs.size (Obj.mapSeq (·++its.toArray))=h1 at keep1 ⊢;have I1:Inv X jP σ H { s with heap:=h1 }:=I.kept (t':=s.toks) keep1;have hoL:(h1.push { cls:=.type "list", data:=.seq its.toArray }).get? h1.objs.size=some (seqObj "list" its.toArray 0):=lG _ rfl;have hplc:Paired (PlcAt (h1.push { cls:=.type "list", data:=.seq its.toArray })) its (ps.map (·.1)):=zE8 (λ b o Ω e=>lE _ e) (zHb I1.hok hp rv);refine lA (lD (wpAny_call_entry slot_list_sort ⟨_,hoL,rfl⟩ entry_list_sort (zD4 hoL hplc nd 31 (by show X.A.units+1+1<cLine;lia) λ ws pw od=>⟨_,rfl,?_⟩) (args_list_sort _)));obtain⟨qs,pq,hq⟩:=zIw pw (zE3 hp rv);obtain⟨zs,r1,r2⟩:=zGV hq;obtain⟨e,he⟩:∃e,(sortedHeap (h1.push { cls:=.type "list", data:=.seq its.toArray }) h1.objs.size its ws.toArray).get? h1.objs.size=some (seqObj "list" ws.toArray e):=sortedHeap_at hoL;have hn1:=I1.hok.fresh (lR h1.objs.size);refine lB ⟨_,rfl,⟨.ref h1.objs.size,upd H h1.objs.size (.lst zs),I1.laid (t':=s.toks) (a:=h1.objs.size) (o:=.lst zs) (λ b o hb=>?_) (lR _) ⟨?_,_,e,r1,?_⟩,rfl,q _ zs qs hn1 r2 pq (zHg I1.hok hq ((pq.map _).nodup_iff.mpr nd) (od.imp_of_mem λ{x y} hx hy z=>?_))⟩⟩
 ·rw[sortedHeap_old (Nat.ne_of_lt (Heap.lt_size hb)) (by rw[Heap.size_push];exact Nat.lt_succ_of_lt (lH hb))]
  exact lE _ hb
 ·rw[r1.length,pw.length_eq]
  exact line
 ·rw[he]
 ·have e:∀u∈ws,plcOf (h1.push { cls:=.type "list", data:=.seq its.toArray }) u=plcOf h1 u:=λ u hu=>by
   obtain⟨q1,_,v',r',p'⟩:=zEa hq hu;have c1:=zGL I1.hok p' r';rw[zCW c1,zCW (c1.kept λ b o Ω e=>Heap.get?_push_of_some _ e)]
  rw[e x hx,e y hy] at z;exact z
end
noncomputable def zGE:List V:=[.str "num", .str "name", .str "ask", .str "stop", .str "gap"]
def zFX (K:W.Frag) (lv:Addr):Prop:=∃(o:Obj) (its:Array Value) (n:Nat),K.lookup lv=some o/\o.cls = .type "tuple" /\ o.data = .seq its n/\its.size<=sizeLine/\Vals zGE its.toList
theorem zJR (k:Kd):inV (.str k.s) zGE=k.leaf:=by cases k<;>symm
theorem zJT (t:Tr):1<=t.head:=by cases t<;>simp[Tr.head]
theorem zGT:∀{ts:List Tr}{t:Tr},t∈ts->t.size<=(ts.map Tr.size).sum
 |a::ts,t,h=>by
  rw[mL,List.sum_cons];rcases lN.mp h with rfl|h
  ·lia
  ·have:=zGT h
   lia
theorem zC7 (t:Tr):(t.parts.map Tr.size).sum+1=t.size:=by
 cases t<;>simp[Tr.parts,Tr.size]<;>lia
theorem zFC {t p:Tr}(h:p∈t.parts):p.size+1<=t.size:=by
 have:=zGT h;have:=zC7 t
 lia
theorem zEC (t:Tr):1<=t.size:=by cases t<;>simp[Tr.size]
noncomputable def szT (ts:List Tr):Nat:=(ts.map Tr.size).sum
theorem zHE (a b:List Tr):szT (a++b)=szT a+szT b:=by simp[szT]
theorem zEQ (a:Tr) (b:List Tr):szT (a::b)=a.size+szT b:=by simp[szT]
theorem zHD:∀ts:List Tr,ts.length<=szT ts
 |[]=>lR _
 |t::ts=>by
  rw[zEQ,mP];have:=zHD ts;have:=zEC t
  lia
theorem zIn (L:List Tr) (i:Nat):szT (L.take i)<=szT L:=by
 have e:szT L=szT (L.take i)+szT (L.drop i):=by rw[←zHE,List.take_append_drop]
 lia
theorem zHC (t:Tr):szT t.parts+1=t.size:=zC7 t
noncomputable def Tr.subs:Tr->List Tr
 |.say a=>.say a::a.subs
 |.bin o a b=>.bin o a b::(a.subs++b.subs)
 |.ite a b c=>.ite a b c::(a.subs++(b.subs++c.subs))
 |.lett x a b=>.lett x a b::(a.subs++b.subs)
 |t=>[t]
theorem zEz:∀L:List Tr,szT (L.flatMap Tr.parts)+L.length=szT L
 |[]=>rfl
 |t::L=>by
  have ih:=zEz L;have:=zHC t;rw[rO,zHE,zEQ,mP]
  lia
abbrev PlT:=List Int × Tr
noncomputable def kidsP (x:PlT):List PlT:=x.2.parts.zipIdx.map λ q=>(x.1++[(q.2:Int)],q.1)
noncomputable def psub:List Int->Tr->List PlT
 |pl,.say a=>(pl,.say a)::psub (pl++[0]) a
 |pl,.bin o a b=>(pl,.bin o a b)::(psub (pl++[0]) a++psub (pl++[1]) b)
 |pl,.ite a b c=>(pl,.ite a b c)::(psub (pl++[0]) a++(psub (pl++[1]) b++psub (pl++[2]) c))
 |pl,.lett x a b=>(pl,.lett x a b)::(psub (pl++[0]) a++psub (pl++[1]) b)
 |pl,.num n=>[(pl,.num n)]
 |pl,.name n=>[(pl,.name n)]
 |pl,.ask n=>[(pl,.ask n)]
 |pl,.stop n=>[(pl,.stop n)]
 |pl,.gap n as=>[(pl,.gap n as)]
theorem zKV (pl:List Int) (t:Tr):psub pl t=(pl,t)::(kidsP (pl,t)).flatMap λ x=>psub x.1 x.2:=by
 cases t<;>simp[psub,kidsP,Tr.parts,List.zipIdx]
theorem zBg:∀(t:Tr) (pl:List Int),(psub pl t).map (·.2)=t.subs
 |.say a,pl=>by simp[psub,Tr.subs,zBg a]
 |.bin o a b,pl=>by simp[psub,Tr.subs,zBg a,zBg b]
 |.ite a b c,pl=>by simp[psub,Tr.subs,zBg a,zBg b,zBg c]
 |.lett x a b,pl=>by simp[psub,Tr.subs,zBg a,zBg b]
 |.num _,_=>rfl
 |.name _,_=>rfl
 |.ask _,_=>rfl
 |.stop _,_=>rfl
 |.gap _ _,_=>rfl
theorem zBX:∀(t:Tr) (pl:List Int),(psub pl t).length=t.size
 |.say a,pl=>by simp[psub,Tr.size,zBX a]
 |.bin o a b,pl=>by simp[psub,Tr.size,zBX a,zBX b]
 |.ite a b c,pl=>by simp[psub,Tr.size,zBX a,zBX b,zBX c];lia
 |.lett x a b,pl=>by simp[psub,Tr.size,zBX a,zBX b]
 |.num _,_=>rfl
 |.name _,_=>rfl
 |.ask _,_=>rfl
 |.stop _,_=>rfl
 |.gap _ _,_=>rfl
theorem zEZ:∀(t:Tr) (pl:List Int),∀p∈(psub pl t).map (·.1),∃r,p=pl++r:=by
 have one:∀{pl p:List Int}{i:Int},(∃r,p=pl++[i]++r)->∃r,p=pl++r:=λ{pl p i} h=>by
  obtain⟨r,e⟩:=h;exact⟨[i]++r,by rw[e,nE]⟩
 intro t
 induction t with
 |say a ih =>
  intro pl p hp;simp only[psub,mL] at hp;rcases lN.mp hp with rfl|hp
  ·exact⟨[],by simp⟩
  ·exact one (ih _ p hp)
 |bin o a b iha ihb =>
  intro pl p hp;simp only[psub,mL,mU] at hp;rcases lN.mp hp with rfl|hp
  ·exact⟨[],by simp⟩
  ·rcases lJ.mp hp with hp|hp
   ·exact one (iha _ p hp)
   ·exact one (ihb _ p hp)
 |ite a b c iha ihb ihc =>
  intro pl p hp;simp only[psub,mL,mU] at hp;rcases lN.mp hp with rfl|hp
  ·exact⟨[],by simp⟩
  ·rcases lJ.mp hp with hp|hp
   ·exact one (iha _ p hp)
   ·rcases lJ.mp hp with hp|hp
    ·exact one (ihb _ p hp)
    ·exact one (ihc _ p hp)
 |lett x a b iha ihb =>
  intro pl p hp;simp only[psub,mL,mU] at hp;rcases lN.mp hp with rfl|hp
  ·exact⟨[],by simp⟩
  ·rcases lJ.mp hp with hp|hp
   ·exact one (iha _ p hp)
   ·exact one (ihb _ p hp)
 |_ =>
  intro pl p hp;simp[psub] at hp;exact⟨[],by simp[hp]⟩
theorem zCt {t u:Tr}{pl:List Int}{i j:Int}(ne:i≠j):∀p∈(psub (pl++[i]) t).map (·.1),∀q∈(psub (pl++[j]) u).map (·.1),p≠q:=λ p hp q hq e=>by
 obtain⟨r,rfl⟩:=zEZ t _ p hp;obtain⟨r',e'⟩:=zEZ u _ q hq;rw[e'] at e;rw[nE,nE] at e;have:=List.append_cancel_left e;simp at this;exact ne this.1
theorem zBu {t:Tr}{pl:List Int}{i:Int}:pl∉(psub (pl++[i]) t).map (·.1):=λ h=>by
 obtain⟨r,e⟩:=zEZ t _ _ h;have:=congrArg List.length e;simp at this
theorem zCB:∀(t:Tr) (pl:List Int),((psub pl t).map (·.1)).Nodup
 |.say a,pl=>by
  simp only[psub,mL,rL];exact⟨zBu,zCB a _⟩
 |.bin o a b,pl=>by
  simp only[psub,mL,rL,mU,List.nodup_append,List.mem_append,not_or];exact⟨⟨zBu,zBu⟩,zCB a _,zCB b _,zCt 46⟩
 |.lett x a b,pl=>by
  simp only[psub,mL,rL,mU,List.nodup_append,List.mem_append,not_or];exact⟨⟨zBu,zBu⟩,zCB a _,zCB b _,zCt 46⟩
 |.ite a b c,pl=>by
  simp only[psub,mL,rL,mU,List.nodup_append,List.mem_append,not_or];refine⟨⟨zBu,zBu,zBu⟩,zCB a _,⟨zCB b _,zCB c _,zCt 46⟩,λ p hp q hq=>?_⟩;rcases hq with hq|hq
  ·exact zCt 46 p hp q hq
  ·exact zCt 46 p hp q hq
 |.num _,_=>by simp[psub]
 |.name _,_=>by simp[psub]
 |.ask _,_=>by simp[psub]
 |.stop _,_=>by simp[psub]
 |.gap _ _,_=>by simp[psub]
noncomputable def allP (L:List PlT):List PlT:=L.flatMap λ x=>psub x.1 x.2
theorem zEN:∀L:List PlT,(allP L).Perm (L++allP (L.flatMap kidsP))
 |[]=>.nil
 |x::L=>by
  have ih:=zEN L;unfold allP at ih ⊢;rw[rO,zKV,rO,List.flatMap_append,List.cons_append,List.cons_append];refine List.Perm.cons _ ?_;refine(ih.append_left _).trans ?_;rw[←nE,←nE];exact List.Perm.append_right _ List.perm_append_comm
theorem zH4 {pl:List Int}{t:Tr}{j:Nat}{c:Tr}(h:t.parts[j]?=some c):(kidsP (pl,t))[j]?=some (pl++[(j:Int)],c):=by
 unfold kidsP;rw[mI,List.getElem?_zipIdx];simp[h]
theorem zH3 (pl:List Int) (t:Tr):(kidsP (pl,t)).length=t.parts.length:=by simp[kidsP]
noncomputable def szP (L:List PlT):Nat:=szT (L.map (·.2))
theorem zH2 (x:PlT):(kidsP x).map (·.2)=x.2.parts:=by
 unfold kidsP;rw[nY];have:((λ x:PlT=>x.2) ∘ λ q:Tr × Nat=>(x.1++[(q.2:Int)],q.1))=Prod.fst:=rfl;rw[this,List.zipIdx_map_fst]
theorem zE0 (L:List PlT):szP (L.flatMap kidsP)+L.length=szP L:=by
 have:=zEz (L.map (·.2));unfold szP;rw[List.map_flatMap]
 have e:(L.flatMap λ x=>(kidsP x).map (·.2))=(L.map (·.2)).flatMap Tr.parts:=by
  rw[List.flatMap_map];congr 1;funext x;exact zH2 x
 rw[e];rw[lC] at this;exact this
theorem zKN (L:List PlT):L.length<=szP L:=by have:=zHD (L.map (·.2));rw[lC] at this;exact this
theorem zHf (t:Tr):t.parts.length<=3:=by cases t<;>simp[Tr.parts]
theorem zJh (L:List PlT):(allP L).length=szP L:=by
 induction L with
 |nil=>rfl
 |cons x L ih =>
  unfold allP at ih ⊢;unfold szP at ih ⊢;rw[rO,mK,ih,mL,zEQ,zBX]
noncomputable def Kd.many:Kd->Nat
 |.say=>1|.add=>2|.sub=>2|.mul=>2|.thn=>2|.ite=>3|.lett=>2
 |_=>0
abbrev Scl:=List (Kd × List Nat)
structure zBb (k:Kd) (r:List Nat):Prop where
 lf:k.leaf=false
 ln:r.length=k.many+1
 c1:1<=r.getD 0 0
 c9:r.getD 0 0<=9
 ks:∀x∈r.drop 1,1<=x/\x<=3
noncomputable def rowF (rs:Scl) (k:Kd):List Nat:=(rs.lookup k).getD [1,1,1,1]
structure GoodF (ρ:Kd->List Nat):Prop where
 one:∀k,k.leaf=true->ρ k=[1,1,1,1]
 ln:∀k,k.many+1<=(ρ k).length/\(ρ k).length<=4
 c9:∀k,(ρ k).getD 0 0<=9
 ks:∀k,∀x∈(ρ k).drop 1,1<=x/\x<=3
theorem zEk (k:Kd):k.many<=3:=by cases k<;>decide
theorem zCh:∀{rs:Scl},(∀p∈rs,zBb p.1 p.2)->∀{k:Kd}{r:List Nat},rs.lookup k=some r->zBb k r
 |[],_,k,r,h=>by simp at h
 | (k0,r0)::rs,g,k,r,h=>by
  rw[List.lookup_cons] at h
  by_cases e:k=k0
  ·subst e
   simp at h;subst h;exact g (k,r0) lP
  ·have:(k == k0)=false:=by simpa using e
   rw[this] at h;exact zCh (λ p hp=>g p (lQ _ hp)) h
theorem zDd {rs:Scl}(g:∀p∈rs,zBb p.1 p.2):GoodF (rowF rs):=by
 have key:∀k,rowF rs k=[1,1,1,1]\/zBb k (rowF rs k):=λ k=>by
  unfold rowF;cases e:rs.lookup k with
  |none=>exact .inl rfl
  |some r=>exact .inr (zCh g e)
 refine⟨λ k hk=>?_,λ k=>?_,λ k=>?_,λ k x hx=>?_⟩
 ·rcases key k with h|h
  ·exact h
  ·rw[h.lf] at hk;cases hk
 ·have:=zEk k
  rcases key k with h|h
  ·rw[h];simp;lia
  ·rw[h.ln];lia
 ·rcases key k with h|h
  ·rw[h];decide
  ·exact h.c9
 ·rcases key k with h|h
  ·rw[h] at hx
   simp at hx
   lia
  ·exact h.ks x hx
noncomputable def dot:List Nat->List Nat->Nat
 |k::ks,x::xs=>k * x+dot ks xs
 |_,_=>0
noncomputable def wrt (ρ:Kd->List Nat):Tr->Nat
 |.say a=>(ρ .say).getD 0 0+dot ((ρ .say).drop 1) [wrt ρ a]
 |.bin o a b=>(ρ o.kd).getD 0 0+dot ((ρ o.kd).drop 1) [wrt ρ a,wrt ρ b]
 |.ite a b c=>(ρ .ite).getD 0 0+dot ((ρ .ite).drop 1) [wrt ρ a,wrt ρ b,wrt ρ c]
 |.lett _ a b=>(ρ .lett).getD 0 0+dot ((ρ .lett).drop 1) [wrt ρ a,wrt ρ b]
 |_=>1
theorem zDC (ks:List Nat):dot ks []=0:=by cases ks<;>rfl
abbrev TW:=Tr × Nat
noncomputable def zBH (ρ:Kd->List Nat) (p:TW):List TW:=List.zipWith (λ t k=>(t,p.2 * k)) p.1.parts ((ρ p.1.kd).drop 1)
noncomputable def szZ (L:List TW):Nat:=(L.map λ p=>p.1.size).sum
theorem zHB (a b:List TW):szZ (a++b)=szZ a+szZ b:=by simp[szZ]
theorem zHA (w:Nat):∀(ts:List Tr) (ks:List Nat),szZ (List.zipWith (λ t k=>(t,w * k)) ts ks)<=(ts.map Tr.size).sum
 |[],ks=>by rw[List.zipWith_nil_left];exact lY _
 |_::_,[]=>by rw[List.zipWith_nil_right];exact lY _
 |t::ts,k::ks=>by
  have ih:=zHA w ts ks;unfold szZ at ih ⊢;rw[List.zipWith_cons_cons,mL,List.sum_cons,mL,List.sum_cons];dsimp only
  lia
theorem zDW (ρ:Kd->List Nat):∀L:List TW,szZ (L.flatMap (zBH ρ))+L.length<=szZ L
 |[]=>lR _
 |p::L=>by
  have ih:=zDW ρ L;have h1:=zHA p.2 p.1.parts ((ρ p.1.kd).drop 1);have h2:=zC7 p.1;rw[rO,zHB];have e1:szZ (p::L)=p.1.size+szZ L:=by simp[szZ]
  rw[e1,mP];unfold zBH at h1 ih ⊢
  lia
def Wb (T:Nat) (p:TW):Prop:=p.2 * 3 ^ p.1.size<=3 ^ T
theorem Wb.child {T:Nat}{t q:Tr}{w k:Nat}(h:Wb T (t,w)) (hq:q.size+1<=t.size) (hk:k<=3):Wb T (q,w * k):=by
 unfold Wb at h ⊢;dsimp only at h ⊢;refine mH ?_ h;have e1:3 ^ (q.size+1)<=3 ^ t.size:=Nat.pow_le_pow_right 46 hq;rw[Nat.mul_assoc];refine Nat.mul_le_mul_left w (mH ?_ e1);rw[Nat.pow_succ,Nat.mul_comm];exact Nat.mul_le_mul_left _ hk
theorem Wb.lt {T:Nat}{p:TW}(h:Wb T p) (hT:T<=310):p.2<2 ^ 500:=by
 unfold Wb at h;have h1:p.2<=p.2 * 3 ^ p.1.size:=Nat.le_mul_of_pos_right _ (Nat.pow_pos 46);have h2:3 ^ T<=3 ^ 310:=Nat.pow_le_pow_right 46 hT;have h3:3 ^ 310<2 ^ 500:=by symm
 lia
noncomputable def natV (r:List Nat):List V:=r.map λ(n:Nat)=>V.int (n:Int)
theorem zBx (r:List Nat):(natV r).length=r.length:=by simp[natV]
def Wk:HO->Prop
 |.dK _=>True
 |.ext _=>True
 |_=>False
def Sf (H H':Hp):Prop:=∀b u,H b=some u->H' b=some u\/∃o,Wk u/\H' b=some (.frz o u)
theorem Same.sf {H H':Hp}(h:Same H H'):Sf H H':=λ b u e=>.inl (h b u e)
theorem Sf.refl (H:Hp):Sf H H:=(Same.refl H).sf
theorem Sf.keep {H H':Hp}(g:Sf H H') {b:Addr}{u:HO}(n:¬Wk u) (e:H b=some u):H' b=some u:=by
 rcases g b u e with h|⟨o,z,h⟩
 ·exact h
 ·exact absurd z n
theorem Sf.trans {H H1 H2:Hp}(a:Sf H H1) (b:Sf H1 H2):Sf H H2:=λ c u e=>by
 rcases a c u e with h|⟨o,k,h⟩
 ·exact b c u h
 ·exact .inr ⟨o,k,b.keep id h⟩
theorem Sf.tk {H H':Hp}(h:Sf H H'):Tk H H':=λ b xs e=>h.keep id e
theorem Sf.lst {H H':Hp}(h:Sf H H') {b:Addr}{xs:List V}(e:H b=some (.lst xs)):H' b=some (.lst xs):=h.keep id e
theorem Sf.rd {H H':Hp}(h:Sf H H') {b:Addr}{kvs:List 97}(e:Rd H b 84):Rd H' b 84:=by
 rcases e with e|⟨o,e⟩
 ·exact(h b _ e).imp id λ⟨o,_,h⟩=>⟨o,h⟩
 ·exact .inr ⟨o,h.keep id e⟩
theorem Sf.frz {H:Hp}{d:Addr}{kvs:List 97}(o:Obj) (h:H d=some 84):Sf H (upd H d (.frz o 84)):=λ b u e=>by
 by_cases z:b=d
 ·subst z
  rw[h] at e;cases e;exact .inr ⟨o,trivial,zAC⟩
 ·exact .inl (by rw[zAO z];exact e)
def RowAt (H:Hp) (p:Kd × List Nat) (kv:Key × V):Prop:=zBb p.1 p.2/\kv.1=Sum.inr p.1.s/\∃b,kv.2 = .ref b/\H b=some (.tup (natV p.2))
theorem RowAt.mono {H H':Hp}(k:Tk H H') {p:Kd × List Nat}{kv:Key × V}:RowAt H p kv->RowAt H' p kv
 |⟨g,e,b,e2,h⟩=>⟨g,e,b,e2,k _ _ h⟩
structure ScD (H:Hp) (d:Addr) (rs:Scl) (kvs:List (Key × V)):Prop where
 rd:Rd H d 84
 ps:Paired (RowAt H) rs kvs
 nd:(kvs.map (·.1)).Nodup
 le:kvs.length<=8
def ScAt (H:Hp) (d:Addr) (rs:Scl):Prop:=∃kvs,ScD H d rs kvs
theorem ScD.mono {H H':Hp}(h:Sf H H') {d:Addr}{rs:Scl}{kvs:List 97}(s:ScD H d rs kvs):ScD H' d rs kvs:=⟨h.rd s.rd,Paired.mapP s.ps λ Ω Ω z=>z.mono h.tk,s.nd,s.le⟩
theorem ScAt.mono {H H':Hp}(h:Sf H H') {d:Addr}{rs:Scl}:ScAt H d rs->ScAt H' d rs
 |⟨kvs,s⟩=>⟨kvs,s.mono h⟩
theorem zDq {H:Hp}{rs:Scl}{kvs:List 97}(h:Paired (RowAt H) rs kvs):∀p∈rs,zBb p.1 p.2:=by
 induction h with
 |nil=>exact λ U h=>nomatch h
 |cons r q ih =>
  intro p h;rcases nU.mp h with rfl|z
  ·exact r.1
  ·exact ih p z
theorem zCI {H:Hp}{rs:Scl}{kvs:List 97}(z:Paired (RowAt H) rs kvs) (k:Kd) :
  (rs.lookup k=none/\valV kvs (Sum.inr k.s:Key)=none)\/∃r b,rs.lookup k=some r/\valV kvs (Sum.inr k.s:Key)=some (.ref b)/\H b=some (.tup (natV r)):=by
 induction z with
 |nil=>exact .inl ⟨rfl,rfl⟩
 | @cons p kv _ _ r q ih =>
  obtain⟨k0,r0⟩:=p;obtain⟨g,e,b,e2,h⟩:=r;dsimp only at e e2 h
  by_cases z:k=k0
  ·subst z
   refine .inr ⟨r0,b,by simp[List.lookup_cons],?_,h⟩;rw[zBE e,e2]
  ·have z1:(k == k0)=false:=by simpa using z
   have z2:¬kv.1=(Sum.inr k.s:Key):=λ w=>z (Kd.inj (Sum.inr.inj (e.symm.trans w))).symm;rw[zBF z2,List.lookup_cons,z1];exact ih
noncomputable def onesV:List V:=[.int 1,.int 1,.int 1,.int 1]
def OnesK (K:W.Frag) (a:Addr):Prop:=∃(o:Obj) (its:Array Value) (n:Nat),K.lookup a=some o/\o.cls = .type "tuple" /\ o.data = .seq its n/\its.size<=sizeLine/\Vals onesV its.toList
def ManyK (K:W.Frag) (a:Addr):Prop:=∀k:Kd,k.leaf=false->∃t,W.nsIn K a k.s=some (some (.int (k.many:Int) t))
theorem zJs {K:W.Frag}{H:Hp}{rs:Scl}{d oa:Addr}{kvs:List 97}(s:ScD H d rs kvs) (hO:OnesK K oa) (k:Kd):∃(o:Option V) (p:Addr),DGet H d (.str k.s) o/\o.getD (.ref oa) = .ref p/\SqT K H p (natV (rowF rs k)):=by
 have g:DGet H d (.str k.s) (valV kvs (Sum.inr k.s:Key)):=.inl ⟨kvs,Sum.inr k.s,s.rd,rfl,rfl⟩;rcases zCI s.ps k with ⟨h1,h2⟩|⟨r,b,h1,h2,h3⟩
 ·refine⟨_,oa,g,by rw[h2];rfl,?_⟩
  have e:rowF rs k=[1,1,1,1]:=by unfold rowF;rw[h1];rfl
  rw[e];exact .inr hO
 ·refine⟨_,b,g,by rw[h2];rfl,?_⟩
  have e:rowF rs k=r:=by unfold rowF;rw[h1];rfl
  rw[e];exact SqT.of h3
theorem cut1 (x:V) (xs:List V):cutV (x::xs) (some 1) none=xs:=by
 have e1:HT.sIx (x::xs).length 0 (some 1)=1:=by
  have:=HT.sIx_nat (x::xs).length 0 1;rw[show ((1:Nat):Int)=1 from rfl] at this;rw[this];simp
 unfold cutV;rw[e1,HT.sIx_none];simp
theorem zEt (x:V) (xs:List V):¬(HT.sIx (x::xs).length 0 (some 1)=0/\HT.sIx (x::xs).length (x::xs).length none=(x::xs).length):=λ h=>by
 have:=HT.sIx_nat (x::xs).length 0 1;rw[show ((1:Nat):Int)=1 from rfl,h.1] at this;simp at this
def PWt (H:Hp) (p:TW) (v:V):Prop:=∃a u,v = .ref a/\H a=some (.tup [u,.int (p.2:Int)])/\Rep H p.1 u
theorem PWt.mono {H H':Hp}(k:Tk H H') {p:TW}{v:V}:PWt H p v->PWt H' p v
 |⟨a,u,e,h,r⟩=>⟨a,u,e,k _ _ h,r.mono k⟩
theorem zHu {w:Nat}{p:TW}:∀{ts:List Tr}{ks:List Nat},p∈List.zipWith (λ t k=>(t,w * k)) ts ks->∃t k,t∈ts/\k∈ks/\p=(t,w * k)
 |[],ks,h=>by rw[List.zipWith_nil_left] at h;cases h
 |_::_,[],h=>by rw[List.zipWith_nil_right] at h;cases h
 |t::ts,k::ks,h=>by
  rw[List.zipWith_cons_cons] at h;rcases lN.mp h with rfl|h
  ·exact⟨t,k,lP,lP,rfl⟩
  ·obtain⟨t',k',h1,h2,h3⟩:=zHu h
   exact⟨t',k',lQ _ h1,lQ _ h2,h3⟩
theorem zG4 {ρ:Kd->List Nat}(g:GoodF ρ) {T:Nat}{L:List TW}(h:∀p∈L,Wb T p):∀p∈L.flatMap (zBH ρ),Wb T p:=λ p hp=>by
 obtain⟨⟨t,w⟩,hq,hp⟩:=List.mem_flatMap.mp hp;obtain⟨t',k,h1,h2,rfl⟩:=zHu hp;exact(h _ hq).child (zFC h1) (g.ks _ k h2).2
theorem zF6 (f:TW->Nat):∀L:List TW,(L.map λ p=>((f p:Nat):Int)).sum=(((L.map f).sum:Nat):Int)
 |[]=>rfl
 |p::L=>by
  rw[mL,List.sum_cons,zF6 f L,mL,List.sum_cons]
  lia
theorem zJX (ρ:Kd->List Nat) (L:List TW):(L.flatMap (zBH ρ)).length<=szZ L:=by
 have h:=zDW ρ L
 have:∀M:List TW,M.length<=szZ M:=λ M=>by
  induction M with
  |nil=>exact lY _
  |cons p M ih =>
   have e:szZ (p::M)=p.1.size+szZ M:=by simp[szZ]
   have:=zEC p.1;rw[e,mP]
   lia
 have:=this (L.flatMap (zBH ρ))
 lia
theorem zIm (L:List TW) (i:Nat):szZ (L.take i)<=szZ L:=by
 have e:szZ L=szZ (L.take i)+szZ (L.drop i):=by rw[←zHB,List.take_append_drop]
 lia
theorem zIo {K:W.Frag}{H H':Hp}{a:Addr}{xs:List V}(g:Same H H') (h:SqT K H a xs):SqT K H' a xs:=by
 rcases h with (h|⟨o,h⟩)|h
 ·exact .inl (.inl (g _ _ h))
 ·exact .inl (.inr ⟨o,g _ _ h⟩)
 ·exact .inr h
theorem zKo {r:List Nat}{i:Nat}{y:V}(h:(natV r)[i]?=some y):∃n:Nat,r[i]?=some n/\y=V.int (n:Int):=by
 unfold natV at h;rw[mI] at h;obtain⟨n,h1,h2⟩:=lV.mp h;exact⟨n,h1,h2.symm⟩
theorem zGI {ρ:Kd->List Nat}(g:GoodF ρ) (k:Kd):∃c ks,ρ k=c::ks:=by
 have:=(g.ln k).1;cases e:ρ k with
 |nil=>rw[e] at this;simp at this
 |cons c ks=>exact⟨c,ks,rfl⟩
theorem zIh {n:Nat}(h:n<2 ^ 500):((n:Nat):Int).natAbs<2 ^ 500:=by rw[Int.natAbs_natCast];exact h
theorem zGD {n:Nat}(h:n<=9):((n:Nat):Int).natAbs<2 ^ 500:=zIh (Nat.lt_of_le_of_lt h (by symm))
noncomputable def wB (ρ:Kd->List Nat) (β:Tr->Nat):Tr->Nat
 |.say a=>β (.say a)+dot ((ρ .say).drop 1) [wB ρ β a]
 |.bin o a b=>β (.bin o a b)+dot ((ρ o.kd).drop 1) [wB ρ β a,wB ρ β b]
 |.ite a b c=>β (.ite a b c)+dot ((ρ .ite).drop 1) [wB ρ β a,wB ρ β b,wB ρ β c]
 |.lett x a b=>β (.lett x a b)+dot ((ρ .lett).drop 1) [wB ρ β a,wB ρ β b]
 |.num n=>β (.num n)
 |.name x=>β (.name x)
 |.ask x=>β (.ask x)
 |.stop x=>β (.stop x)
 |.gap g as=>β (.gap g as)
theorem wB_eq (ρ:Kd->List Nat) (β:Tr->Nat) (t:Tr):wB ρ β t=β t+dot ((ρ t.kd).drop 1) (t.parts.map (wB ρ β)):=by
 cases t with
 |say a=>rfl
 |bin o a b=>rfl
 |ite a b c=>rfl
 |lett x a b=>rfl
 |num n=>exact(congrArg (β (.num n) + ·) (zDC _)).symm
 |name n=>exact(congrArg (β (.name n) + ·) (zDC _)).symm
 |ask n=>exact(congrArg (β (.ask n) + ·) (zDC _)).symm
 |stop n=>exact(congrArg (β (.stop n) + ·) (zDC _)).symm
 |gap n as=>exact(congrArg (β (.gap n as) + ·) (zDC _)).symm
noncomputable def own (ρ:Kd->List Nat) (t:Tr):Nat:=(ρ t.kd).getD 0 0
theorem zCm {ρ:Kd->List Nat}(g:GoodF ρ):∀t:Tr,wrt ρ t=wB ρ (own ρ) t
 |.say a=>by rw[wrt,wB,zCm g a];rfl
 |.bin o a b=>by rw[wrt,wB,zCm g a,zCm g b];rfl
 |.ite a b c=>by rw[wrt,wB,zCm g a,zCm g b,zCm g c];rfl
 |.lett x a b=>by rw[wrt,wB,zCm g a,zCm g b];rfl
 |.num n=>by show 1=(ρ .num).getD 0 0;rw[g.one .num rfl];rfl
 |.name n=>by show 1=(ρ .name).getD 0 0;rw[g.one .name rfl];rfl
 |.ask n=>by show 1=(ρ .ask).getD 0 0;rw[g.one .ask rfl];rfl
 |.stop n=>by show 1=(ρ .stop).getD 0 0;rw[g.one .stop rfl];rfl
 |.gap n as=>by show 1=(ρ .gap).getD 0 0;rw[g.one .gap rfl];rfl
noncomputable def isG (g:Str):Tr->Nat
 |.gap x _=>if x=g then 1 else 0
 |_=>0
noncomputable abbrev gw (ρ:Kd->List Nat) (g:Str) (t:Tr):Nat:=wB ρ (isG g) t
noncomputable def sumSB (ρ:Kd->List Nat) (β:Tr->Nat) (L:List TW):Nat:=(L.map λ p=>p.2 * wB ρ β p.1).sum
noncomputable def sumCB (β:Tr->Nat) (L:List TW):Nat:=(L.map λ p=>p.2 * β p.1).sum
theorem zE1 (ρ:Kd->List Nat) (β:Tr->Nat) (w:Nat):∀(ts:List Tr) (ks:List Nat),sumSB ρ β (List.zipWith (λ t k=>(t,w * k)) ts ks)=w * dot ks (ts.map (wB ρ β))
 |[],ks=>by rw[List.zipWith_nil_left,List.map_nil,zDC];rfl
 |_::_,[]=>by rw[List.zipWith_nil_right];rfl
 |t::ts,k::ks=>by
  have ih:=zE1 ρ β w ts ks;unfold sumSB at ih ⊢;rw[List.zipWith_cons_cons,mL,List.sum_cons,ih,mL,dot,Nat.mul_add,Nat.mul_assoc]
theorem zHF (ρ:Kd->List Nat) (β:Tr->Nat) (p:TW):p.2 * wB ρ β p.1=p.2 * β p.1+sumSB ρ β (zBH ρ p):=by
 unfold zBH;rw[zE1,wB_eq ρ β p.1,Nat.mul_add]
theorem zHG (ρ:Kd->List Nat) (β:Tr->Nat) (a b:List TW):sumSB ρ β (a++b)=sumSB ρ β a+sumSB ρ β b:=by simp[sumSB]
theorem zE2 (β:Tr->Nat) (a b:List TW):sumCB β (a++b)=sumCB β a+sumCB β b:=by simp[sumCB]
theorem zDX (ρ:Kd->List Nat) (β:Tr->Nat):∀L:List TW,sumSB ρ β L=sumCB β L+sumSB ρ β (L.flatMap (zBH ρ))
 |[]=>rfl
 |p::L=>by
  have ih:=zDX ρ β L;have e:=zHF ρ β p;rw[rO,zHG];have e1:sumSB ρ β (p::L)=p.2 * wB ρ β p.1+sumSB ρ β L:=by simp[sumSB]
  have e2:sumCB β (p::L)=p.2 * β p.1+sumCB β L:=by simp[sumCB]
  lia
noncomputable def kdV (kds:List (Str × Str)):List 97:=kds.map λ p=>((Sum.inr p.1:Key),V.str p.2)
theorem zL5:∀{kds:List (Str × Str)},(kds.map (·.1)).Nodup->∀(g:Str) (v:V),valV (kdV kds).reverse (Sum.inr g:Key)=some v↔∃k,v = .str k/\(g,k)∈kds:=by
 intro kds nd g v
 have mem:∀p:Key × V,p∈(kdV kds).reverse↔∃q∈kds,p=((Sum.inr q.1:Key),V.str q.2):=λ p=>by
  rw[List.mem_reverse];unfold kdV;rw[List.mem_map];exact⟨λ⟨q,h,e⟩=>⟨q,h,e.symm⟩,λ⟨q,h,e⟩=>⟨q,h,e.symm⟩⟩
 unfold valV;rw[Option.map_eq_some_iff];constructor
 ·rintro⟨p,hp,rfl⟩
  have h1:=List.mem_of_find?_eq_some hp;have h2:=List.find?_some hp;obtain⟨q,hq,rfl⟩:=(mem p).mp h1;have e:q.1=g:=Sum.inr.inj (lT h2);exact⟨q.2,rfl,by rw[←e];exact hq⟩
 ·rintro⟨k,rfl,hk⟩
  cases e:(kdV kds).reverse.find? λ kv=>decide (kv.1=(Sum.inr g:Key)) with
  |none =>
   have:=List.find?_eq_none.mp e _ ((mem _).mpr ⟨(g,k),hk,rfl⟩);simp at this
  |some p =>
   refine⟨p,rfl,?_⟩;have h1:=List.mem_of_find?_eq_some e;have h2:=List.find?_some e;obtain⟨q,hq,rfl⟩:=(mem p).mp h1;have e1:q.1=g:=Sum.inr.inj (lT h2)
   have e2:q=(g,k):=by
    obtain⟨i,hi⟩:=List.getElem?_of_mem hq;obtain⟨j,hj⟩:=List.getElem?_of_mem hk;have hi':(kds.map (·.1))[i]?=some g:=by rw[mI,hi,←e1];rfl
    have hj':(kds.map (·.1))[j]?=some g:=by rw[mI,hj];rfl
    have:i=j:=zEi nd hi' hj';subst this;exact mE (hi.symm.trans hj)
   rw[e2]
theorem zL6 {kds:List (Str × Str)}(nd:(kds.map (·.1)).Nodup) (g:Str):∃z:V,(valV (zBo [] (kdV kds)) (Sum.inr g:Key)).getD .non=z/\scal z (.str "number")=true/\(z = .str "number" ↔ (g,("number" : Str))∈kds):=by
 rw[zD7];have K:=zL5 nd g;cases e:valV (kdV kds).reverse (Sum.inr g:Key) with
 |none =>
  refine⟨.non,rfl,rfl,(λ z=>nomatch z),λ z=>?_⟩
  have:=(K (.str "number")).mpr ⟨_,rfl,z⟩;rw[e] at this;cases this
 |some v =>
  obtain⟨k,rfl,hk⟩:=(K v).mp e;refine⟨.str k,rfl,rfl,λ z=>?_,λ z=>?_⟩
  ·rw[←V.str.inj z];exact hk
  ·have:=(K (.str "number")).mpr ⟨_,rfl,z⟩
   rw[e] at this;exact mE this
structure GWt (f:Str->Nat) (kvs:List (Key × V)):Prop where
 ks:∀p∈kvs,∃g:Str,p.1=(Sum.inr g:Key)
 vl:∀g:Str,valV kvs (Sum.inr g:Key)=some (.int ((f g:Nat):Int))\/(valV kvs (Sum.inr g:Key)=none/\f g=0)
theorem GWt.get {f:Str->Nat}{kvs:List 97}(h:GWt f kvs) (g:Str):(valV kvs (Sum.inr g:Key)).getD (.int 0) = .int ((f g:Nat):Int):=by
 rcases h.vl g with e|⟨e,z⟩
 ·rw[e];rfl
 ·rw[e,z];rfl
theorem GWt.congr {f f':Str->Nat}{kvs:List 97}(h:GWt f kvs) (e:∀g,f' g=f g):GWt f' kvs:=by
 have:f'=f:=funext e;rw[this];exact h
theorem zJM {kvs:List 97}{k:Key}{v:V}{p:Key × V}(h:p∈putK kvs k v):p.1=k\/∃q∈kvs,q.1=p.1:=by
 unfold putK at h;split at h
 ·obtain⟨q,hq,e⟩:=mC.mp h
  by_cases z:q.1=k
  ·rw[if_pos z] at e
   exact .inl (by rw[←e];exact z)
  ·rw[if_neg z] at e
   exact .inr ⟨q,hq,by rw[e]⟩
 ·rcases lJ.mp h with h|h
  ·exact .inr ⟨p,h,rfl⟩
  ·exact .inl (by rw[mX.mp h])
theorem GWt.put {f f':Str->Nat}{kvs:List 97}(h:GWt f kvs) {x:Str}(e:∀g,g≠x->f' g=f g):GWt f' (putK kvs (Sum.inr x:Key) (.int ((f' x:Nat):Int))):=by
 refine⟨λ p hp=>?_,λ g=>?_⟩
 ·rcases zJM hp with z|⟨q,hq,z⟩
  ·exact⟨x,z⟩
  ·rw[←z];exact h.ks q hq
 ·rw[zDM]
  by_cases z:g=x
  ·subst z
   rw[if_pos rfl];exact .inl rfl
  ·have z':¬(Sum.inr g:Key)=Sum.inr x:=λ w=>z (Sum.inr.inj w)
   rw[if_neg z',e g z];exact h.vl g
def fallP (ρ:Kd->List Nat) (t1 t2:Tr) (kds:List (Str × Str)):Prop:=wrt ρ t2<wrt ρ t1/\∀g,(g,("number" : Str))∉kds->gw ρ g t2<=gw ρ g t1
theorem zC4 (β:Tr->Nat) {L:List TW}{i:Nat}{p:TW}(h:L[i]?=some p):sumCB β (L.take (i+1))=sumCB β (L.take i)+p.2 * β p.1:=by
 rw[zBL h,zE2];simp[sumCB]
theorem zKr {g:Str}{t:Tr}(h:¬t.kd = .gap):isG g t=0:=by
 cases t with
 |gap x as=>exact absurd rfl h
 |_=>rfl
noncomputable def nm (ws:List Str) (i:Int):Str:=ws.getD i.toNat ⟨#[]⟩
noncomputable def sgs:List Kd:=[.say,.add,.sub,.mul,.thn,.ite,.lett]
noncomputable def sgsV:List V:=[.str "say", .str "add", .str "sub", .str "mul", .str "then", .str "if", .str "let"]
theorem zLL {i:Nat}{x:V}(h:sgsV[i]?=some x):∃k:Kd,sgs[i]?=some k/\x = .str k.s/\k.leaf=false:=by
 have hi:i<7:=(lI.mp h).1;have cs:i=0\/i=1\/i=2\/i=3\/i=4\/i=5\/i=6:=by lia
 rcases cs with rfl|rfl|rfl|rfl|rfl|rfl|rfl<;>(cases h;exact⟨_,rfl,rfl,rfl⟩)
theorem zLK:sgs.Nodup:=by decide
theorem zFb {i:Nat}{k:Kd}(h:sgs[i]?=some k):k∉sgs.take i:=λ z=>by
 obtain⟨j,hj⟩:=List.getElem?_of_mem z
 have hji:j<i:=by
  have:=(lI.mp hj).1;rw[mQ] at this
  lia
 rw[List.getElem?_take_of_lt hji] at hj;have hi:i<sgs.length:=(lI.mp h).1;exact absurd (zEi zLK hj h) 31
theorem zCZ:∀{rs:Scl}{k:Kd},k∉rs.map (·.1)->rs.lookup k=none
 |[],_,_=>rfl
 | (k0,r0)::rs,k,h=>by
  rw[mL,nU,not_or] at h;have z:(k == k0)=false:=by simpa using h.1
  rw[List.lookup_cons,z];exact zCZ h.2
theorem zB2 (r:List Nat) (z:Int) (h:0<=z):natV r++[V.int z]=natV (r++[z.toNat]):=by
 unfold natV;rw[mU];have:((z.toNat:Nat):Int)=z:=by lia
 simp[this]
end L2
namespace PySem
open Sem (wp)
end PySem
namespace PySem.W
open PySem
end PySem.W
namespace PySem
open Sem (wp)
section
variable {prog:Program}{w:World}{A:Around}{E:XQ}{s:Shared}
noncomputable def ddS (ks:List Str) (x:Str):List Str:=if x∈ks then ks else ks++[x]
noncomputable def dd (xs:List Str):List Str:=xs.foldl ddS []
end
end PySem
namespace L2
open PySem PySem.Calls PySem.Spec PyProof.Rows PySem.W
abbrev XN:=List (Dt × Addr × V)
noncomputable def prs (xs:XN):List (Dt × V):=xs.map λ x=>(x.1,x.2.2)
end L2
namespace PySem
open Sem (wp)
def zEP (h:Heap) (d:Addr) (es:Array DictEntry) (ep:Nat):Prop:=∃o,h.get? d=some o/\o.ExactDict/\o.data = .dict es ep
theorem zEP.typeIs {s:Shared}{d:Addr}{es:Array DictEntry}{ep:Nat}(x:zEP s.heap d es ep):s.TypeIs (.ref d) "dict" := let ⟨o,ho,hc,_⟩:=x;⟨o,ho,hc.1⟩
section
variable {prog:Program}{w:World}{A:Around}{E:XQ}{s:Shared}{d it:Addr}{es:Array DictEntry}{ep i:Nat}
abbrev zL0 (d:Addr) (n ep:Nat):Obj:={ cls:=.type "dict_keyiterator", data:=.fields #[.ref d,.int 0 0,.int n 0,.int ep 0] }
theorem zKQ {Q:XQ}(lo:(d == sysModules)=false) (hm:zEP s.heap d es ep) (hQ:Q (.ref s.heap.objs.size) { s with heap:=s.heap.push (zL0 d es.size ep) }):wpAny 45 A (pyIter (.ref d)) Q E s:=by
 have hT:=hm.typeIs;obtain⟨o,ho,hc,hdat⟩:=hm;refine wpAny_pyIter_slot hT F.slot_dict_iter (wpAny_call_entry F.slot_dict_iter hT F.entry_dict_iter ?_ (F.args_dict_iter_1 _));unfold Builtin.«dict.__iter__»;refine lA ?_;unfold Builtin.Dict.dictSlotNone;refine lA (wpAny_notOrdered_dict hT (lB ?_));(show wpAny _ _ (Builtin.Dict.showsAll d >>= _) _ _ s);unfold Builtin.Dict.showsAll;rw[if_neg (by rw[lo];exact lX)];refine lA (lB (lA (wpAny_dictEntries ho hdat (lA (wpAny_dictEpoch ho hdat ?_)))));refine lA (wpAny_newObj_type (lB ⟨_,rfl, "dict_keyiterator", _,⟨_,lG _ rfl,rfl⟩,F.slot_dict_keyiterator_next.lookup,?_⟩));simpa[rawInt] using hQ
theorem zKP {Q:Option Value->Shared->Prop}(hit:s.heap.IsKeyIter it d i es.size ep) (hm:zEP s.heap d es ep) (hi:i<es.size)
  (hQ:∀h',h'.IsKeyIter it d (i+1) es.size ep->Heap.SameBut it s.heap h'->Q (some es[i].key) { s with heap:=h' }):wpAny 45 A (pyNext (.ref it)) Q E s:=by
 obtain⟨o,ho,hc,hd⟩:=id hit;obtain⟨od,hod,hcd,hdd⟩:=id hm;unfold pyNext;refine lA (wpAny_attempt (wpAny_callSpecial?_slot (name:=Str.ofString "__next__") hit.typeIs F.slot_dict_keyiterator_next (wpAny_call_entry F.slot_dict_keyiterator_next hit.typeIs F.entry_dict_keyiterator_next ?_ (F.args_dict_keyiterator_next_1 _))));refine lA (lB (lA (lA ?_)))
 first|refine lA (wpAny_typeNameOfWhole_keyiter hit.typeIs (lB (lA (wpAny_fieldsOf ho hd ?_))))|refine lA (wpAny_typeNameOf_keyiter hit.typeIs (lB (lA (wpAny_fieldsOf ho hd ?_))))
 simp only[show Builtin.Dict_items.ownsTuple "dict_keyiterator" = false by decide,Bool.false_eq_true,if_false];show wpAny _ _ (if (Value.ref d == Value.none)=true then _ else _) _ _ s;rw[if_neg (show ¬((Value.ref d == Value.none)=true) from Bool.false_ne_true)];refine lA (lB (lA (wpAny_dictEntries hod hdd ?_)));rw[if_neg 41];refine lA (lB (lA (wpAny_dictEpoch hod hdd ?_)));rw[if_neg 41];refine lB ?_;simp only[show ¬((i:Int)<0) from by lia,if_false,Int.toNat_natCast,Array.getElem?_eq_getElem hi];refine lA ?_
 first|refine lA (wpAny_typeNameOfWhole_keyiter hit.typeIs (lB (lA (wpAny_isOneOf_keyiter hit.typeIs ?_))))|refine lA (wpAny_typeNameOf_keyiter hit.typeIs (lB (lA (wpAny_isOneOf_keyiter hit.typeIs ?_))))
 show wpAny _ _ (setField (.ref it) 1 (rawInt ((i:Int)+1)) >>= _) _ _ s;refine lA (wpAny_setField ho hd 41 ?_);have hit':(s.heap.update it (Obj.mapFields (·.setIfInBounds 1 (rawInt ((i:Int)+1))))).IsKeyIter it d (i+1) es.size ep:=⟨_,mJ _ ho (Obj.isFreed_of_fields (Obj.data_mapFields hd _)),(Obj.cls_mapFields ..).trans hc,by rw[Obj.data_mapFields hd];simp[rawInt]⟩;refine lA (lD (lA (wpAny_isOneOf_keyiter (s:={ s with heap:=s.heap.update it (Obj.mapFields (·.setIfInBounds 1 (rawInt ((i:Int)+1)))) }) hit'.typeIs ?_)));show wpAny _ _ (pure es[i].key) _ _ _;exact lB (lB ⟨_,rfl,lB (hQ _ hit' (Heap.SameBut.update ..))⟩)
theorem zLN {Q:Option Value->Shared->Prop}(hh:A.handled=none) (hit:s.heap.IsKeyIter it d i es.size ep) (hm:zEP s.heap d es ep) (hi:es.size<=i)
  (hQ:∀h',Heap.ExtBut it s.heap h'->Q none { s with heap:=h' }):wpAny 45 A (pyNext (.ref it)) Q E s:=by
 obtain⟨o,ho,hc,hd⟩:=id hit;obtain⟨od,hod,hcd,hdd⟩:=id hm;unfold pyNext;refine lA (wpAny_attempt (wpAny_callSpecial?_slot (name:=Str.ofString "__next__") hit.typeIs F.slot_dict_keyiterator_next (wpAny_call_entry F.slot_dict_keyiterator_next hit.typeIs F.entry_dict_keyiterator_next ?_ (F.args_dict_keyiterator_next_1 _))));refine lA (lB (lA (lA ?_)))
 first|refine lA (wpAny_typeNameOfWhole_keyiter hit.typeIs (lB (lA (wpAny_fieldsOf ho hd ?_))))|refine lA (wpAny_typeNameOf_keyiter hit.typeIs (lB (lA (wpAny_fieldsOf ho hd ?_))))
 simp only[show Builtin.Dict_items.ownsTuple "dict_keyiterator" = false by decide,Bool.false_eq_true,if_false];show wpAny _ _ (if (Value.ref d == Value.none)=true then _ else _) _ _ s;rw[if_neg (show ¬((Value.ref d == Value.none)=true) from Bool.false_ne_true)];refine lA (lB (lA (wpAny_dictEntries hod hdd ?_)));rw[if_neg 41];refine lA (lB (lA (wpAny_dictEpoch hod hdd ?_)));rw[if_neg 41];refine lB ?_;simp only[show ¬((i:Int)<0) from by lia,if_false,Int.toNat_natCast,Array.getElem?_eq_none hi];refine lA ?_
 first|refine lA (wpAny_typeNameOfWhole_keyiter hit.typeIs (lB ?_))|refine lA (wpAny_typeNameOf_keyiter hit.typeIs (lB ?_))|skip
 show wpAny _ _ (setField (.ref it) 0 .none >>= _) _ _ s;refine lA (wpAny_setField ho hd 41 ?_);show wpAny _ _ (newExc (.type "StopIteration") [] >>= _) _ _ _;refine lA ?_;simp only[newExc,newTuple];refine lA (wpAny_newObj_type ?_ (by size_fits));refine lA (m:=firstArgMember _ _) (wpAny_of_eq (a:=Value.none) (by first|rfl|(simp only[firstArgMember];rfl)) (wpAny_newObj_type ?_ (by size_fits)));simp only[raiseNew];refine lA (wpAny_handled ?_);rw[show A.in1.handled=none from hh];refine lA (lB (wpAny_throw ?_));refine lA (wpAny_isInstance (T := "StopIteration") (b:=true) ⟨_,lG _ rfl,rfl⟩ isSubtype_stop ?_);exact lB (hQ _ (((Heap.SameBut.update ..).extBut.push _).push _))
end
end PySem
namespace PySem.W
open PySem
end PySem.W
namespace PySem.W
open PySem PySem.Spec PySem.Calls PyProof.Rows
def ExAt (x D:Addr) (h:Heap):Prop:=∃o vs,h.get? x=some o/\o.cls = .ref D/\o.data = .fields vs
theorem ExAt.ty {x D:Addr}{h:Heap}(p:ExAt x D h) (M:Model):Looks M h (typeOf (.ref x)) (.ref D):=by
 obtain⟨o,vs,h1,h2,_⟩:=p;exact h2▸(Looks.ld h1).andThen .now
section
variable {prog:Program}{w:World}{A:Around}{E:XQ}{K:Frag}{x D:Addr}{h:Heap}{g:Array GenState}{d:Drawn}{t:Nat}{os:OsState}
theorem zDt {M:Model}{nameV:Value}{Q:Unit->Shared->Prop}(X:K.In h) (p:ExAt x D h) (hb:mroIn K D (.type "BaseException")=some true) (hq:Q () ⟨h,g,d,t,os⟩) :
  wpAny M A (checkBuiltinCall "BaseException.__getattribute__" ⟨[.ref x,nameV],[]⟩) Q E ⟨h,g,d,t,os⟩:=by
 have hk:builtinKind "BaseException.__getattribute__" = some .slot:=by symm
 have hsplit:splitId "BaseException.__getattribute__" = some ("BaseException", "__getattribute__"):=by symm
 have ha:=F.args_bexc_ga (.ref x) nameV;have L0:=p.ty M;have L1:=looks_mroIn (M:=M) X hb;simp only[checkBuiltinCall,hk,hsplit];unfold isInstance;refine lA (lA (L0.at (L1.at ?_)))
 repeat (first|wp_step)
 exact hq
theorem zFO {tp:Value}{R:Result->Shared->Prop}(X:K.In h) (p:ExAt x D h) (hm:mroIn K D (.type "object")=some true) (hq:R (.ok (.ret (.ref D))) ⟨h,g,d,t,os⟩) :
  codeAny 45 A (.call (.builtin "getset_descriptor.__get__") ⟨[.builtin "object.__class__", .ref x,tp],[]⟩) R ⟨h,g,d,t,os⟩:=by
 have L0:=p.ty 45;have L1:=looks_mroIn (M:=model prog w) X hm;have hT5:(⟨h,g,d,t,os⟩:Shared).TypeIs (.builtin "object.__class__") "getset_descriptor" := F.typeOf_object_class;refine codeAny_call_builtin F.slot_gs_get.plain F.entry_gs_get (F.slot_gs_get.check _ _ _ _ _ _ _ _ hT5 (F.args_gs_get _ _ _) ?_)
 repeat (any_goals (first|assumption|with_reducible refine L0.at ?_|(rw[F.owner_object_class];with_reducible refine L1.at ?_)|wp_step))
 refine⟨Code.quiet_builtin _ (by symm),codeAny_builtin F.entry_object_class ?_⟩
 repeat (any_goals (first|assumption|with_reducible refine L0.at ?_|wp_step))
theorem zD6 {tk:Tok}{Q:Fin->Shared->Prop}(X:K.In h) (p:ExAt x D h) (hc:findIn K (.ref D) "__class__" = some (some (.builtin "object.__class__"))) (hm:mroIn K D (.type "object")=some true) (hq:Q (.done (.ret (.ref D))) ⟨h,g,d,t,os⟩) :
  wpAny 45 A (Builtin.«object.__getattribute__» ⟨[.ref x,.str "__class__" tk],[]⟩) Q E ⟨h,g,d,t,os⟩:=by
 have f5:=F.typeOf_object_class;have f6:=F.slot_gs_get.lookup;have f7:=F.slot_gs_set.lookup;have L0:=p.ty 45;have L1:=looks_findIn (M:=model prog w) X hc;have hT5:(⟨h,g,d,t,os⟩:Shared).TypeIs (.builtin "object.__class__") "getset_descriptor" := F.typeOf_object_class
 repeat (any_goals (first|assumption|with_reducible refine L0.at ?_|with_reducible refine L1.at ?_|wp_step))
 refine zFO X p hm ?_
 repeat (any_goals (first|assumption|wp_step))
theorem zFs {tk:Tok}{Q:XQ}(X:K.In h) (p:ExAt x D h) (hga:findIn K (.ref D) "__getattribute__" = some (some (.builtin "BaseException.__getattribute__"))) (hgt:findIn K (.ref D) "__getattr__" = some none)
  (hb:mroIn K D (.type "BaseException")=some true) (hc:findIn K (.ref D) "__class__" = some (some (.builtin "object.__class__"))) (hm:mroIn K D (.type "object")=some true) (hq:Q (.ref D) ⟨h,g,d,t,os⟩) :
  wpAny 45 A (getAttrBy (.ref x) (.str "__class__" tk) false false) Q E ⟨h,g,d,t,os⟩:=by
 have L0:=p.ty 45;have L1:=looks_findIn (M:=model prog w) X hga;have L2:=looks_findIn (M:=model prog w) X hgt;have f3:=F.attr_ValueError.ga.bind (.ref x);have hx2:(Value.builtin "BaseException.__getattribute__" == Value.builtin "object.__getattribute__")=false:=by symm
 have hx1:(onTheHeap (Value.ref D) && Value.builtin "BaseException.__getattribute__" == Value.builtin "object.__getattribute__")=false:=by rw[hx2];rfl
 repeat (any_goals (first|assumption|with_reducible refine L0.at ?_|with_reducible refine L1.at ?_|with_reducible refine L2.at ?_|wp_step))
 refine codeAny_call_builtin F.attr_ValueError.ga.plain F.entry_bexc_ga (zDt X p hb (zD6 X p hc hm ?_))
 repeat (any_goals (first|assumption|wp_step))
theorem zJY {Q:Option Value->Shared->Prop}(X:K.In h) (p:ExAt x D h) (hga:findIn K (.ref D) "__getattribute__" = some (some (.builtin "BaseException.__getattribute__"))) (hgt:findIn K (.ref D) "__getattr__" = some none)
  (hb:mroIn K D (.type "BaseException")=some true) (hc:findIn K (.ref D) "__class__" = some (some (.builtin "object.__class__"))) (hm:mroIn K D (.type "object")=some true) (hq:Q (some (.ref D)) ⟨h,g,d,t+1,os⟩) :
  wpAny 45 A (getAttr? (.ref x) "__class__") Q E ⟨h,g,d,t,os⟩:=by
 unfold getAttr? getAttrBy?
 repeat (any_goals (first|assumption|with_reducible apply zFs X p hga hgt hb hc hm|wp_step))
end
structure ExCls (K:Frag) (D:Addr):Prop where
 ga:findIn K (.ref D) "__getattribute__" = some (some (.builtin "BaseException.__getattribute__"))
 gt:findIn K (.ref D) "__getattr__" = some none
 bs:mroIn K D (.type "BaseException")=some true
 cl:findIn K (.ref D) "__class__" = some (some (.builtin "object.__class__"))
 ob:mroIn K D (.type "object")=some true
 ic:(clsIn K D).isSome=true
set_option tactic.hygienic true in
theorem kitx_exc {K:Frag}{x D:Addr}(C:ExCls K D):KitX K (.ref x) (.ref D) (ExAt x D) where
 ty:=λ M Ω Ω p=>p.ty M
 it:=λ Ω Ω X Ω=>by
  have hcD:=C.ic;unfold clsIn at hcD;split at hcD
  ·rename_i c' d' cd' sl' ho
   intro A' Q' E' s' k q;unfold isType loadHead;exact lA (wpAny_loadPart (k _ _ (X _ _ ho)) (lB q))
  ·cases hcD
 ne:=λ h tp dd its n sl X htp=>by
  have hcD:=C.ic;refine Bool.eq_false_iff.mpr λ q=>?_;have e:D=tp:=Value.ref.inj (beq_iff_eq.mp q);subst e;unfold clsIn at hcD;split at hcD
  ·rename_i c' d' cd' sl' ho
   have z:=(X _ _ ho).symm.trans htp;cases z
  ·cases hcD
 ca:=λ{_ _ _ _ _ s} X p k=>by
  obtain⟨h,g,d,t,os⟩:=s;exact zJY X p C.ga C.gt C.bs C.cl C.ob k
end PySem.W
namespace L2
open PySem PySem.Spec PyProof.Rows
section
variable {P:Program}{w:World}{H H':Hp}{h h' g:Heap}{a:Addr}{o:HO}
theorem ObjOk.there (x:ObjOk P w H h a o):∃ob,h.get? a=some ob:=by
 cases o with
 |lst xs=>obtain⟨_,_,_,_,e⟩:=x;exact⟨_,e⟩
 |tup xs=>obtain⟨_,_,_,ob,e,_⟩:=x;exact⟨_,e⟩
 |dK kvs=>obtain⟨_,_,_,_,o,_,_,e,_⟩:=x;exact⟨_,e⟩
 |dT kvs=>obtain⟨_,_,_,_,o,_,_,e,_⟩:=x;exact⟨_,e⟩
 |set S n=>obtain⟨o,_,_,_,e,_⟩:=x;exact⟨_,e⟩
 |ins C dx fs=>obtain⟨_,_,_,e,_⟩:=x;exact⟨_,e⟩
 |own y=>exact x
 |xd fs=>obtain⟨_,⟨_,_,_,e,_⟩,_⟩:=x;exact⟨_,e⟩
 |rng lo hi=>obtain⟨_,_,_,e⟩:=x;exact⟨_,e⟩
 |frz ob u=>obtain⟨e,_⟩:=x;exact⟨_,e⟩
 |tbl ps=>exact⟨_,(show h.get? a=some _ from x)⟩
 |met f y=>exact⟨_,(show h.get? a=some _ from x)⟩
 |ext φ=>obtain⟨_,e,_⟩:=x;exact e
def Cov (fs:List Addr) (H':Hp) (h g B:Heap):Prop:=∀b o,g.get? b=some o->b∉fs->((∃o0,h.get? b=some o0)\/H' b≠none)->B.get? b=some o
theorem moved {fs:List Addr}{B:Heap}(un:Un fs [] H H' h g) (hok:HOk P w H' g) (cov:Cov fs H' h g B) (hfd:∀b∈fs,H' b=none/\∃o,g.get? b=some o/\∀vs,o.data ≠ .fields vs)
  (st:B.StaysIn h') (sm:g.UpToSlots h'):Un fs [] H H' h h'/\HOk P w H' h'/\Cov fs H' h h' B:=by
 refine⟨⟨λ b o q n nb Ω=>?_,λ b o q n hb Ω=>?_,un.free,λ b o q Ω=>?_,un.tups,un.frzs,un.tbls⟩,λ b u e=>?_,λ b o e nb hz=>?_⟩
 ·exact st b o (cov b o (un.keep b o q n nb 41) nb (.inl ⟨o,q⟩))
 ·obtain⟨sl,e⟩:=un.slot b o q n hb 41
  obtain⟨_,o',e',d⟩:=hfd b hb;rw[e] at e';cases e';obtain⟨sl',e2⟩:=sm b _ e d;exact⟨sl',e2⟩
 ·by_cases hb:b∈fs
  ·obtain⟨_,o',e',d⟩:=hfd b hb
   obtain⟨sl',e2⟩:=sm b _ e' d;exact⟨_,e2⟩
  ·obtain⟨o',e⟩:=un.there b o q 41
   exact⟨o',st b o' (cov b o' e hb (.inl ⟨o,q⟩))⟩
 ·refine(hok b u e).stay (λ c v hc q=>?_) (λ Ω q=>q) λ Ω Ω q=>q
  have hn:H' c≠none:=by
   rcases hc with z|z
   ·rw[z,e];intro y;cases y
   ·rw[z];intro y;cases y
  exact st c v (cov c v q (λ z=>hn (hfd c z).1) (.inr hn))
 ·have:∃o',g.get? b=some o':=by
   rcases hz with ⟨o0,z⟩|z
   ·exact un.there b o0 z 41
   ·cases q:H' b with
    |none=>exact absurd q z
    |some u=>exact(hok b u q).there
  obtain⟨o',e'⟩:=this;have c:=cov b o' e' nb hz;have:=st b o' c;rw[e] at this;cases this;exact c
end
structure Flew (P:Program) (w:World) (stk:List Env) (H:Hp) (s:Shared) (H':Hp) (ea C:Addr) (s':Shared):Prop where
 os:s'.os=s.os
 bare:AllBare s'.gens
 un:Un (frs stk) [] H H' s.heap s'.heap
 hok:HOk P w H' s'.heap
 new:s.heap.get? ea=none
 hn:H' ea=none
 fly:∃(B:Heap) (a0:Value),Heap.FlyingW B stk ea (.ref C) a0 s'.heap/\Cov (frs stk) H' s.heap s'.heap B
noncomputable def CXF (P:Program) (w:World):CXT:=λ outer H s E e s'=>E3 λ ea C H'=>A3 (e = .ref ea) (Flew P w outer H s H' ea C s') (E (.ref C) none H')
section
variable {X:Cx}{jP:List (Addr × Obj)}{σ:St}{H H':Hp}{s s':Shared}{ea C:Addr}
theorem Flew.frd (F:Flew X.prog X.w X.stack H s H' ea C s') (I:Inv X jP σ H s) {B:Heap}{a0:Value}(hfl:Heap.FlyingW B X.stack ea (.ref C) a0 s'.heap):∀b∈frs X.stack,H' b=none/\∃o,s'.heap.get? b=some o/\∀vs,o.data ≠ .fields vs:=λ b hb=>by
 obtain⟨_,o,e,d⟩:=I.stack.mem hb;exact⟨F.un.free b o e (I.stkFree b hb) 41,(hfl.2.2.1.mem hb).2⟩
theorem Flew.on (F:Flew X.prog X.w X.stack H s H' ea C s') (I:Inv X jP σ H s) {B:Heap}{a0:Value}{h':Heap}(hfl:Heap.FlyingW B X.stack ea (.ref C) a0 s'.heap) (cov:Cov (frs X.stack) H' s.heap s'.heap B)
  (hfl':Heap.FlyingW B X.stack ea (.ref C) a0 h') (sm:s'.heap.UpToSlots h'):Flew X.prog X.w X.stack H s H' ea C { s' with heap:=h' }:=by
 obtain⟨u,k,c⟩:=moved F.un F.hok cov (F.frd I hfl) hfl'.1 sm;exact⟨F.os,F.bare,u,k,F.new,F.hn,B,a0,hfl',c⟩
theorem Flew.inv (F:Flew X.prog X.w X.stack H s H' ea C s') (I:Inv X jP σ H s):Inv X jP σ H' s':=I.call' (ch:=[]) F.os F.un F.hok F.bare (λ b z=>absurd z 41)
end
section
variable {P:Program}{w:World}{K:W.Frag}{mg:Str->Option Value}{base:Heap}{N:List Str}{qual:Str}{scope:Scope}{f:Addr}{cd:Value}{A:Around}{outer:List Env}{s:Shared}{H:Hp}{E:XK}
theorem zDr {CX:CXT}{jP:List 54}{σ:St}{H1 H':Hp}{s1:Shared}{h' B:Heap}(I:Inv (cxOf CX P w K mg base N qual scope f cd A outer s H E) jP σ H1 s1)
  (U:Un (frs (cxOf CX P w K mg base N qual scope f cd A outer s H E).stack) [] H1 H' s1.heap h') (c:Cov (frs (cxOf CX P w K mg base N qual scope f cd A outer s H E).stack) H' s1.heap h' B):Un (frs outer) [] H H' s.heap h'/\Cov (frs outer) H' s.heap h' B:=by
 have ba:Un (frs outer) [] H H1 s.heap s1.heap:=I.base;have ab:s.heap.objs.size<=(cxOf CX P w K mg base N qual scope f cd A outer s H E).env.locals:=I.ok.above;have lt:∀b o,s.heap.get? b=some o->b≠(cxOf CX P w K mg base N qual scope f cd A outer s H E).env.locals:=λ b o e=>lS (lZ (lH e) ab)
 have no:∀b,b≠(cxOf CX P w K mg base N qual scope f cd A outer s H E).env.locals->b∉frs outer->b∉frs (cxOf CX P w K mg base N qual scope f cd A outer s H E).stack:=λ b n1 n2 z=>by
  rcases lN.mp (I.stkSub b z) with q|q
  ·exact n1 q
  ·exact n2 q
 have hL:H' (cxOf CX P w K mg base N qual scope f cd A outer s H E).env.locals=none:=by
  obtain⟨m,⟨o,_,_,e,_⟩,_⟩:=I.loc;exact U.free _ o e I.free 41
 refine⟨⟨λ b o q n nb hx=>U.keep b o (ba.keep b o q n nb hx) (ba.free b o q n hx) (no b (lt b o q) nb) hx,λ b o q n hb hx=>?_,λ b o q n hx=>?_,λ b o q hx=>?_,λ b xs q=>U.tups b xs (ba.tups b xs q),λ b o u q=>U.frzs b o u (ba.frzs b o u q),λ b ps q=>?_⟩,λ b o e nb hz=>?_⟩
 ·obtain⟨sl,e⟩:=ba.slot b o q n hb hx
  obtain⟨sl',e'⟩:=U.any e (ba.free b o q n hx) hx;exact⟨sl',e'⟩
 ·obtain⟨o',e⟩:=ba.there b o q hx
  exact U.free b o' e (ba.free b o q n hx) hx
 ·obtain⟨o',e⟩:=ba.there b o q hx
  exact U.there b o' e hx
 ·obtain⟨m1,e1⟩:=ba.tbls b ps q
  obtain⟨m2,e2⟩:=U.tbls b _ e1;exact⟨m1++m2,by rw[e2,Array.append_assoc]⟩
 ·rcases hz with ⟨o0,z⟩|z
  ·obtain⟨o1,z1⟩:=ba.there b o0 z 41
   exact c b o e (no b (lt b o0 z) nb) (.inl ⟨o1,z1⟩)
  ·exact c b o e (no b (λ y=>z (by rw[y];exact hL)) nb) (.inr z)
theorem zCE:zEO (CXF P w) (cxOf (CXF P w) P w K mg base N qual scope f cd A outer s H E) E:=by
 rintro jP σ H1 s1 e s' I ⟨ea,C,H',rfl,F,q⟩;obtain⟨B,a0,hfl,cov⟩:=F.fly;refine wpAny_leaves_onW I.ok.frames rfl hfl λ h' x1 x2=>?_;obtain⟨u,k,c⟩:=moved F.un F.hok cov (Flew.frd (X:=cxOf (CXF P w) P w K mg base N qual scope f cd A outer s H E) F I hfl) x1.1 x2;obtain⟨u2,c2⟩:=zDr I u c;refine⟨ea,C,H',rfl,⟨F.os.trans I.os,F.bare,u2,k,?_,F.hn,B,a0,x1,c2⟩,q⟩;cases z:s.heap.get? ea with
 |none=>rfl
 |some o =>
  obtain⟨o',z'⟩:=(show Un (frs outer) [] H H1 s.heap s1.heap from I.base).there ea o z 41;rw[F.new] at z';cases z'
theorem zIT {jP:List 54}{σ:St}{H1:Hp}{s1:Shared}{h1:Heap}{ea C:Addr}{vs:List Value}(I:Inv (cxOf (CXF P w) P w K mg base N qual scope f cd A outer s H E) jP σ H1 s1) (hx:Heap.MadeExcOf s1.heap h1 ea (.ref C) vs) (q:E (.ref C) none H1) :
  (cxOf (CXF P w) P w K mg base N qual scope f cd A outer s H E).xe (.ref ea) { s1 with heap:=h1 }:=by
 refine wpAny_leaves_madeW (base:=W.hideAll s1.heap (frs (cxOf (CXF P w) P w K mg base N qual scope f cd A outer s H E).stack)) I.ok.frames rfl (λ b o e=>W.of_hideAll _ e) (W.funFrames_hide I.stack λ env he b hb=>List.mem_filterMap.mpr ⟨env,he,hb⟩) hx λ h' t x1 x2 x3 x4=>?_
 have cov:Cov (frs (cxOf (CXF P w) P w K mg base N qual scope f cd A outer s H E).stack) H1 s1.heap h1 (W.hideAll s1.heap (frs (cxOf (CXF P w) P w K mg base N qual scope f cd A outer s H E).stack)):=λ b o e nb hz=>by
  have:∃o0,s1.heap.get? b=some o0:=by
   rcases hz with z|z
   ·exact z
   ·cases y:H1 b with
    |none=>exact absurd y z
    |some u=>exact(I.hok b u y).there
  obtain⟨o0,z⟩:=this;have:=hx.keeps b o0 z;rw[e] at this;cases this;exact W.hideAll_get _ z nb
 obtain⟨u,k,c⟩:=moved (Un.kept (fs:=frs (cxOf (CXF P w) P w K mg base N qual scope f cd A outer s H E).stack) (ex:=[]) (H:=H1) hx.keeps) (I.hok.kept hx.keeps) cov (λ b hb=>by
  obtain⟨_,o,e,d⟩:=I.stack.mem hb;exact⟨I.stkFree b hb,o,hx.keeps b o e,d⟩) x1.1 x4
 obtain⟨u2,c2⟩:=zDr I u c;refine⟨ea,C,H1,rfl,⟨I.os,I.bare,u2,k,?_,?_,_,_,x1,c2⟩,q⟩
 ·cases z:s.heap.get? ea with
  |none=>rfl
  |some o =>
   obtain⟨o',z'⟩:=(show Un (frs outer) [] H H1 s.heap s1.heap from I.base).there ea o z 41;rw[hx.new] at z';cases z'
 ·cases y:H1 ea with
  |none=>rfl
  |some u =>
   obtain⟨o,z⟩:=(I.hok ea u y).there;rw[hx.new] at z;cases z
end
end L2
namespace PySem.W
open PySem PySem.Spec PySem.Calls PyProof.Rows
section
variable {M:Model}{A:Around}{E:XQ}{K:Frag}{x C D:Addr}{b:Bool}{h:Heap}{g:Array GenState}{d:Drawn}{t:Nat}{os:OsState}
set_option tactic.hygienic true in
theorem ex_matches {Q:Bool->Shared->Prop}(X:K.In h) (p:ExAt x C h) (tD:typeIn K (.ref D)=some (.type "type")) (bD:mroIn K D (.type "BaseException")=some true) (cD:(clsIn K D).isSome=true) (e:mroIn K C (.ref D)=some b) (hq:Q b ⟨h,g,d,t,os⟩) :
  wpAny M A (excMatches (.ref x) (.ref D)) Q E ⟨h,g,d,t,os⟩:=by
 have L0:=p.ty M;have L1:=looks_typeIn (M:=M) X tD;have L2:=looks_mroIn (M:=M) X bD;have L3:=looks_mroIn (M:=M) X e
 have L4:Looks M h (isType (.ref D)) true:=by
  unfold clsIn at cD;split at cD
  ·rename_i c' d' cd' sl' ho
   intro A' Q' E' s' k q;unfold isType loadHead;exact lA (wpAny_loadPart (k _ _ (X _ _ ho)) (lB q))
  ·cases cD
 have f:=tc_notTuple;unfold excMatches
 repeat (first|with_reducible refine L0.at ?_|with_reducible refine L1.at ?_|with_reducible refine L4.at ?_|with_reducible refine L2.at ?_|with_reducible refine L3.at ?_|wp_step)
 cases b with
 |true=>repeat (first|exact hq|wp_step)
 |false=>repeat (first|exact hq|wp_step)
end
set_option tactic.hygienic true in
theorem exc_obj {K:Frag}{h:Heap}{C:Addr}{bB:List Value}{nid:String}(Z:K.In h) (e:excIn K C bB nid=true):∃tl NN n1 n2 b1 b2 b3 b4 b5 b6 b7 z0 z1 z2 z3 z5 mm,
  h.get? C=some (excClassObj n1 n2 C NN b1 tl b2 b3 b4 b5 b6 b7 z0 z1 z2 z3 z5 nid)/\h.Ns NN mm/\mm "__init__" = none/\OwnTail h bB tl:=by
 unfold excIn at e;split at e
 next b7 cc ss hK =>
  split at e
  next C2 tl z0 z1 z2 z3 nn z5 hmro hsl =>
   simp only[Bool.and_eq_true,beq_iff_eq,Bool.not_eq_true'] at e;obtain⟨⟨⟨⟨⟨r1,r2⟩,hdl⟩,htl⟩,hnk⟩,hin⟩:=e;subst r1 r2;obtain⟨n1,b1,mro,NN,n2,b2,b3,b4,b5,b6,del⟩:=cc;dsimp only at hmro hdl hnk hin;subst hmro hdl
   have es:ss=#[z0,z1,z2,z3,some (.builtin nn),z5]:=by
    obtain⟨l⟩:=ss;simp only at hsl;rw[hsl]
   subst es;exact⟨tl,NN,n1,n2,b1,b2,b3,b4,b5,b6,b7,z0,z1,z2,z3,z5,_,Z _ _ hK,.of_isNs (isNs_of_in Z hnk),nsMap_none_of_in Z hnk hin,tail_of_in Z htl⟩
  next=>cases e
 next=>cases e
end PySem.W
namespace L2
open PySem PySem.Spec PyProof.Rows
structure ExC (K:W.Frag) (C:Addr):Prop extends W.ExCls K C where
 ty:W.typeIn K (.ref C)=some (.type "type")
abbrev bmVE:List Value:=[.type "ValueError", .type "Exception", .type "BaseException", .type "object"]
def zLA (C:Addr) (E:XK) (t:TA):TS:=λ _ σ H=>t σ H λ vs H1=>vs.length<=sizeLine/\E (.ref C) none H1
section
variable {P:Program}{w:World}{K:W.Frag}{mg:Str->Option Value}{base:Heap}{N:List Str}{qual:Str}{scope:Scope}{f:Addr}{cd:Value}{A:Around}{outer:List Env}{s:Shared}{H:Hp}{E:XK}
theorem zDQ {x:Str}{np cpos pos:Pos}{e0:Expr}{es:List Expr}{t:TA}{C:Addr}(hg:Gl (cxOf (CXF P w) P w K mg base N qual scope f cd A outer s H E) x) (hm:mg x=some (.ref C)) (hC:W.excIn K C bmVE "ValueError.__new__" = true)
  (ha:PA (cxOf (CXF P w) P w K mg base N qual scope f cd A outer s H E) (e0::es) t) (hdb:78=false:=by decide)
  (he:starEach (e0::es) (cxOf (CXF P w) P w K mg base N qual scope f cd A outer s H E).env=(false,eval e0 (cxOf (CXF P w) P w K mg base N qual scope f cd A outer s H E).env)::starEach es (cxOf (CXF P w) P w K mg base N qual scope f cd A outer s H E).env:=by rfl)
  (hpl:(backTo cpos (starEach es (cxOf (CXF P w) P w K mg base N qual scope f cd A outer s H E).env)).any (·.1)=false:=by rfl) :
  PS (cxOf (CXF P w) P w K mg base N qual scope f cd A outer s H E) (.Raise (some (.Call (.Name x np) (e0::es) [] cpos)) none pos) (zLA C E t):=by
 intro jP s1 σ H1 D I h;obtain⟨tl,NN,n1,n2,b1,b2,b3,b4,b5,b6,b7,z0,z1,z2,z3,z5,mm,hobj,hns,hni,T⟩:=W.exc_obj I.ok.mod.kin hC;refine wpAny_Raise_call_subT (C:=C) (nm:=n1) (q:=n2) (N:=NN) (bs:=b1) (bm:=tl) (hdct:=b2) (sn:=b3) (sub:=b4) (ab:=b5) (col:=b6) (dd:=b7) (k0:=z0) (k1:=z1) (k2:=z2) (k3:=z3) (k5:=z5) PySem.F.excBase_ValueError (mN:=mm) (T.hasType PySem.F.excBase_ValueError.hasBase) (I.ok.hd rfl) ?_ hni (zCP I hg hm ⟨rfl,?_⟩ hdb)
 ·rw[he]
  show (false || (backTo cpos (starEach es _)).any (·.1))=false;rw[hpl];rfl
 ·have z:=ha cpos jP s1 σ H1 _ I h
  rw[he] at z ⊢;refine Calls.evalArgs_plain (wpAny_mono z (λ us s2 ⟨vs,H2,I2,r,hl,q⟩=>⟨rfl,by rw[←r.length];exact hl,I2.bk _ _ hobj,hns.keeps I2.bk,T.keeps I2.bk,λ h' e hx=>zIT I2 hx q⟩) λ Ω Ω y=>y)
end
noncomputable def exO (ea C:Addr):HO:=.ext (W.ExAt ea C)
theorem zMC {P:Program}{w:World}{H:Hp}{h:Heap}{ea C:Addr}(p:W.ExAt ea C h):ObjOk P w H h ea (exO ea C):=by
 obtain⟨o,vs,e,hc,hd⟩:=p;exact⟨⟨o,vs,e,hc,hd⟩,⟨o,e⟩,λ h1 h2 ⟨o,vs,e,hc,hd⟩ k=>⟨o,vs,k o e,hc,hd⟩⟩
theorem zKw {P:Program}{w:World}{H:Hp}{h:Heap}{ea C:Addr}(hok:HOk P w H h) (e:H ea=some (exO ea C)):W.ExAt ea C h:=(hok ea _ e).1
abbrev HR:=Ends->Addr->St->Hp->Prop
abbrev Cx.inX (X:Cx) (ea:Addr):Cx:={ X with A:=X.A.mark (some (.ref ea)),calm:=false,xe:=λ Ω Ω=>False }
theorem Cx.Ok.inX {X:Cx}(ok:X.Ok) (ea:Addr):(X.inX ea).Ok :=
 ⟨ok.mod,ok.kind,ok.glob,ok.blt,ok.above,ok.inj,ok.has,ok.cab,λ z=>(by cases z),ok.frames,ok.stk,ok.exf,ok.bs,ok.bsz,ok.noex,ok.exfs,ok.funs,ok.frf⟩
section
variable {X:Cx}{jP:List (Addr × Obj)}{σ:St}{H H':Hp}{s s':Shared}{ea C:Addr}
theorem Inv.inX (I:Inv X jP σ H s) (ea:Addr):Inv (X.inX ea) jP σ H s:=⟨I.ok.inX ea,I.os,I.bare,I.base,I.loc,I.cell,I.free,I.freeC,I.pin,I.hok,I.len⟩
theorem Inv.outX (ok:X.Ok) (I:Inv (X.inX ea) jP σ H s):Inv X jP σ H s:=⟨ok,I.os,I.bare,I.base,I.loc,I.cell,I.free,I.freeC,I.pin,I.hok,I.len⟩
def PH (X:Cx) (hs:List ExceptHandler) (r:HR):Prop:=∀(jP:List 54) (D:Ends) (σ:St) (ea C:Addr) (H H0:Hp) (s s0:Shared),Inv X jP σ H0 s0->Flew X.prog X.w X.stack H0 s0 H ea C s->r D C σ H ->
 wpAny 48 X.A (handleBy (.ref ea) X.env hs) (SP X jP D) X.xe s
theorem zGN:PH X [] (λ Ω Ω Ω Ω=>False):=λ Ω Ω Ω Ω Ω Ω Ω Ω Ω Ω Ω h=>False.elim h
theorem Flew.caught (F:Flew X.prog X.w X.stack H s H' ea C s') (I:Inv X jP σ H s):Inv X jP σ (upd H' ea (exO ea C)) s':=by
 obtain⟨B,a0,hfl,cov⟩:=F.fly;obtain⟨oe,vs,e1,e2,e3,_⟩:=hfl.first;have ne:∀b u,H' b=some u->b≠ea:=λ b u q=>zAR q F.hn;refine I.call' (ch:=[]) F.os ⟨F.un.keep,F.un.slot,λ b o q n hx=>?_,F.un.there,λ b xs q=>?_,λ b o u q=>?_,λ b ps q=>?_⟩ (λ b u q=>?_) F.bare (λ b z=>absurd z 41)
 ·rw[zAO (λ z=>by rw[z,F.new] at q;cases q)]
  exact F.un.free b o q n hx
 ·have:=F.un.tups b xs q
  rw[zAO (ne b _ this)];exact this
 ·have:=F.un.frzs b o u q
  rw[zAO (ne b _ this)];exact this
 ·obtain⟨m,this⟩:=F.un.tbls b ps q
  exact⟨m,by rw[zAO (ne b _ this)];exact this⟩
 ·by_cases hb:b=ea
  ·subst hb
   rw[zAC] at q;cases q;exact zMC ⟨oe,vs,e1,e2,e3⟩
  ·rw[zAO hb] at q
   exact(F.hok b u q).stay (λ Ω Ω Ω z=>z) (λ c z=>by rw[zAO (ne c _ z)];exact z) λ c xs z=>by rw[zAO (ne c _ z)];exact z
theorem Inv.gone {M:Model}{A:Around}{E:XQ}{n:Str}{i:Nat}{pos:Pos}{Q:Unit->Shared->Prop}(I:Inv X jP σ H s) (hN:X.N.Nodup) (hi:X.N[i]?=some n) (hl:X.env.kindOf n=some .local)
    (h:∀s',Inv X jP (σ.set i none) H s'->Q () s'):wpAny M A (do bindName X.env n .none;unbindBehindTheSuite X.env n pos) Q E s:=by
  obtain⟨m,hn,hv⟩:=id I.loc;obtain⟨oL,_,_,hoL,_⟩:=id hn;have hiσ:i<σ.length:=by rw[I.len];exact(lI.mp hi).1
  have cne:=I.cne;have lt:∀b o,X.s₀.heap.get? b=some o->b≠X.env.locals:=λ b o e=>lS (lZ (lH e) I.ok.above);refine wpAny_nameGoes_keeps hl hn (by rw[I.ok.kind];rfl) λ h' v hn' hs=>h _ ?_;refine⟨I.ok,I.os,I.bare,⟨λ b o e nb hb hx=>?_,λ b o e nb hb hx=>?_,I.base.free,λ b o e hx=>?_,I.base.tups,I.base.frzs,I.base.tbls⟩,⟨_,hn',λ j y v' e1 e2 e3=>?_⟩,λ y c e=>?_,I.free,I.freeC,λ p hp=>?_,λ b ob e=>?_,by simpa using I.len⟩
  · exact(hs.2 b (lt b o e)).trans (I.base.keep b o e nb hb hx)
  · obtain⟨sl,e1⟩:=I.base.slot b o e nb hb hx
    exact⟨sl,(hs.2 b (lt b o e)).trans e1⟩
  · obtain⟨o',e1⟩:=I.base.there b o e hx
    exact⟨o',(hs.2 b (lt b o e)).trans e1⟩
  · by_cases hj:j=i
    · subst hj
      rw[rP hiσ] at e2;cases e2
    · rw[List.getElem?_set_ne (Ne.symm hj)] at e2
      obtain⟨u',r',q⟩:=hv j y v' e1 e2 e3;refine⟨u',r',?_⟩;rcases q with ⟨k,e⟩|⟨k,c,e,z⟩
      · refine .inl ⟨k,?_⟩
        have:y≠n:=λ e=>hj (zEh hN e1 (e▸hi));simp[this,e]
      · exact .inr ⟨k,c,e,z.sameBut hs (cne y c e)⟩
  · obtain⟨w',z⟩:=I.cell y c e
    exact⟨w',z.sameBut hs (cne y c e)⟩
  · obtain⟨e,n,ne,nf,d⟩:=I.pin p hp
    exact⟨(hs.2 p.1 ne).trans e,n,ne,nf,d⟩
  · refine(I.hok b ob e).stay (λ c w' hc q=>(hs.2 c ?_).trans q) (λ Ω q=>q) λ Ω Ω q=>q
    rintro rfl;rcases hc with rfl|hc
    · rw[I.free] at e;cases e
    · rw[I.free] at hc;cases hc
end
noncomputable def Ends.less (D:Ends) (i:Nat):Ends:={ nx:=λ σ H=>D.nx (σ.set i none) H,rt:=D.rt,bk:=λ σ H=>D.bk (σ.set i none) H,ct:=λ σ H=>D.ct (σ.set i none) H }
noncomputable def hAs (K:W.Frag) (Da:Addr) (i:Nat) (ts:TS) (r:HR):HR:=λ D C σ H=>W.ExCls K C/\∃b,W.mroIn K C (.ref Da)=some b /\
 if b=true then ∀ea,H ea=none->ts (D.less i) (σ.set i (some (.ref ea))) (upd H ea (exO ea C)) else r D C σ H
section
variable {X:Cx}{x n:Str}{np pos:Pos}{i:Nat}{b0:Stmt}{suite:List Stmt}{rest:List ExceptHandler}{ts:TS}{r:HR}{Da:Addr}
theorem SP.goes {ea:Addr}{jP:List 54}{D:Ends}{M:Model}{A:Around}{E:XQ}{f:Flow}{s:Shared}(ok:X.Ok) (hN:X.N.Nodup) (hi:X.N[i]?=some n) (hl:X.env.kindOf n=some .local) (h:SP (X.inX ea) jP (D.less i) f s) :
    wpAny M A (do bindName X.env n .none;unbindBehindTheSuite X.env n pos) (λ Ω s'=>SP X jP D f s') E s:=by
  cases f with
  |next=>obtain⟨σ',H',I,q⟩:=h;exact(Inv.outX ok I).gone hN hi hl λ s' I'=>⟨_,_,I',q⟩
  |brk=>obtain⟨σ',H',I,q⟩:=h;exact(Inv.outX ok I).gone hN hi hl λ s' I'=>⟨_,_,I',q⟩
  |cont=>obtain⟨σ',H',I,q⟩:=h;exact(Inv.outX ok I).gone hN hi hl λ s' I'=>⟨_,_,I',q⟩
  |ret u=>obtain⟨v,σ',H',I,rv,q⟩:=h;exact(Inv.outX ok I).gone hN hi hl λ s' I'=>⟨v,_,_,I',rv,q⟩
theorem ph_as (hN:X.N.Nodup) (hi:X.N[i]?=some n) (hl:X.env.kindOf n=some .local) (hg:Gl X x) (hm:X.mg x=some (.ref Da)) (hD:ExC X.K Da) (hs:∀ea,PSs (X.inX ea) (b0::suite) ts) (hr:PH X rest r) (hdb:78=false:=by decide) :
  PH X (.ExceptHandler (some (.Name x np)) (some n) (b0::suite) pos::rest) (hAs X.K Da i ts r):=by
 intro jP D σ ea C H H0 s s0 I F h;obtain⟨hC,b,hb,h⟩:=h;obtain⟨B,a0,hfl,cov⟩:=F.fly;obtain⟨oe,vs,e1,e2,e3,_⟩:=hfl.first;have I1:=F.inv I;refine wpAny_handleBy_cons (codeAny_handlers_test (zCP (X:=X.inX ea) (I1.inX ea) hg hm ?_ hdb)) (by intro q;cases q);obtain⟨hp,g,d,tk,os⟩:=s;refine W.ex_matches I1.kIn ⟨oe,vs,e1,e2,e3⟩ hD.ty hD.bs hD.ic hb ?_;cases b with
 |false=>exact hr jP D σ ea C H H0 _ s0 I F (by simpa using h)
 |true =>
  refine codeAny_handlers_suite_as ?_;refine PyProof.Rows.lands_againW hfl λ h' hfl' sm=>?_;have F2:=F.on I hfl cov hfl' sm;have I2:=F2.caught I;refine zDN (X:=X.inX ea) (v:=.ref ea) (I2.inX ea) hN hi (.inl hl) rfl (λ s3 I3=>?_) (.inr hl);refine wpAny_mono (hs ea jP s3 _ _ _ I3 ((by simpa using h:∀ea,H ea=none->ts (D.less i) (σ.set i (some (.ref ea))) (upd H ea (exO ea C))) ea F.hn)) (λ f s4 q=>?_) λ Ω Ω z=>False.elim z;exact SP.goes I.ok hN hi hl q
abbrev Cx.inTry (X:Cx) (hs:List ExceptHandler) (jP:List 54) (D:Ends):Cx:={ X with pn:=X.pn++jP,xe:=λ e s1=>wpAny 48 X.A (noteFrame e X.env) (λ Ω s2=>wpAny 48 X.A (setFlight e none) (λ Ω s3=>wpAny 48 X.A (handleBy e X.env hs) (SP X jP D) X.xe s3) X.xe s2) X.xe s1 }
theorem Cx.Ok.inTry (ok:X.Ok) (hs:List ExceptHandler) (jP:List 54) (D:Ends):(X.inTry hs jP D).Ok :=
 ⟨ok.mod,ok.kind,ok.glob,ok.blt,ok.above,ok.inj,ok.has,ok.cab,ok.hd,ok.frames,ok.stk,ok.exf,ok.bs,ok.bsz,ok.noex,ok.exfs,ok.funs,ok.frf⟩
theorem Inv.inTry {jP:List 54}{σ:St}{H:Hp}{s:Shared}(I:Inv X jP σ H s) (hs:List ExceptHandler) (D:Ends):Inv (X.inTry hs jP D) [] σ H s :=
 ⟨I.ok.inTry hs jP D,I.os,I.bare,I.base,I.loc,I.cell,I.free,I.freeC,λ p hp=>I.pin p (by simpa using hp),I.hok,I.len⟩
theorem Inv.outTry {jP pins':List 54}{hs:List ExceptHandler}{D:Ends}{σ:St}{H:Hp}{s:Shared}(ok:X.Ok) (I:Inv (X.inTry hs jP D) pins' σ H s):Inv X jP σ H s :=
 ⟨ok,I.os,I.bare,I.base,I.loc,I.cell,I.free,I.freeC,λ p hp=>I.pin p (mG _ hp),I.hok,I.len⟩
noncomputable def eTry (r:HR) (D:Ends) (σ:St):XK:=λ c Ω H=>∃C,c = .ref C/\r D C σ H
theorem passT {hs:List ExceptHandler}{jP pins':List 54}{D:Ends}{σ:St}{H:Hp}{s s':Shared}{e:Value}(ok:X.Ok) (hf:X.env.frame=some X.env.locals) (hst:X.stack=X.env::X.outer) (ph:PH X hs r) (I:Inv (X.inTry hs jP D) pins' σ H s) (h:CXF X.prog X.w X.stack H s (eTry r D σ) e s') :
  (X.inTry hs jP D).xe e s':=by
 obtain⟨ea,C,H',rfl,F,C2,e2,q⟩:=h;cases e2;have I0:=Inv.outTry ok I;obtain⟨B,a0,hfl,cov⟩:=F.fly;have ff:=ok.frames;rw[hst] at ff;have hfl2:=hfl;rw[hst] at hfl2;refine wpAny_looks_onW ff hf hfl2 λ h4 hh4 sm4=>?_;refine wpAny_landsW hh4 λ h5 hfl5 sm5=>?_;rw[←hst] at hfl5;exact ph jP D σ ea C H' H _ s I0 (F.on I0 hfl cov hfl5 (sm4.trans sm5)) q
def zLI (sp:Sp) (dvs:List V) (r:HR) (D:Ends) (t:TA):TE:=λ σ H Q=>t σ H λ vs H1=>sp (vs++dvs) H1 Q (eTry r D σ)
theorem zDS {hs:List ExceptHandler}{pins0:List 54}{D:Ends}{k:Nat}{f:Addr}{fd:FuncData}{ps:List Str}{sp:Sp}{dvs:List V}{ds:List Value}{p pos:Pos}{e:Expr}{es:List Expr}{t:TA}
  (hf:X.env.frame=some X.env.locals) (hst:X.stack=X.env::X.outer) (ph:PH X hs r)
  (F:FnOk X.prog X.w X.K X.mg X.base (CXF X.prog X.w) k f fd ps sp) (hr:Room k X.A) (hg:Gl X x) (hm:X.mg x=some (.ref f)) (hk:W.keepIn X.K (.ref f)=true) (hb:Binds X.K fd ps ds) (hd:Vals dvs ds)
  (ha:PA (X.inTry hs pins0 D) (e::es) t) (hdb:78=false:=by decide) (he:starEach (e::es) X.env=(false,eval e X.env)::starEach es X.env:=by rfl) (hpl:(backTo pos (starEach es X.env)).any (·.1)=false:=by rfl) :
  PE (X.inTry hs pins0 D) (.Call (.Name x p) (e::es) [] pos) (zLI sp dvs r D t):=by
 intro jP s σ H Q I h;have ok:X.Ok:=⟨I.ok.mod,I.ok.kind,I.ok.glob,I.ok.blt,I.ok.above,I.ok.inj,I.ok.has,I.ok.cab,I.ok.hd,I.ok.frames,I.ok.stk,I.ok.exf,I.ok.bs,I.ok.bsz,I.ok.noex,I.ok.exfs,I.ok.funs,I.ok.frf⟩;refine wpAny_Call_Name_kw (zCP (X:=X.inTry hs pins0 D) I hg hm ?_ hdb);refine W.callWith_K (h₀:=X.base) I.ok.mod.kin hk (thn (ha pos jP s σ H _ I h) λ us s1 ⟨vs,H1,I1,rv,q⟩=>⟨I1.kIn,?_⟩) he hpl;have r2:Vals (vs++dvs) (us++ds):=rv.append hd;have hl:(us++ds).length=ps.length:=by rw[←r2.length];exact F.len _ _ _ _ q
 refine wpAny_call (codeAny_mono (F.run X.A X.stack s1 H1 ⟨us,[]⟩ (us++ds) (vs++dvs) Q _ hr I1.env0 (hb s1 us I1.kIn hl) r2 q) λ rr s' hq=>?_);cases rr with
 |error e=>exact passT ok hf hst ph I1 hq
 |ok fl =>
  cases fl with
  |ret u=>exact I1.after hq
  |next=>exact False.elim hq
  |brk=>exact False.elim hq
  |cont=>exact False.elim hq
theorem zJu {h0:ExceptHandler}{hs:List ExceptHandler}{body orelse:List Stmt}{tb:Ends->TS}{to:TS}(hb:∀jP D,PSs (X.inTry (h0::hs) jP D) body (tb D)) (ho:PSs X orelse to) :
  PS X (.Try body (h0::hs) orelse [] pos) (λ D σ H=>tb D { D with nx:=to D } σ H):=by
 intro jP s σ H D I h;refine wpAny_Try_except (wpAny_mono (hb jP D [] s σ H _ (I.inTry (h0::hs) D) h) (λ f s1 q=>?_) λ Ω Ω z=>z);cases f with
 |next =>
  obtain⟨σ',H',I',q⟩:=q;exact ho jP s1 σ' H' D (Inv.outTry I.ok I') q
 |brk=>obtain⟨σ',H',I',q⟩:=q;exact⟨σ',H',Inv.outTry I.ok I',q⟩
 |cont=>obtain⟨σ',H',I',q⟩:=q;exact⟨σ',H',Inv.outTry I.ok I',q⟩
 |ret u=>obtain⟨v,σ',H',I',rv,q⟩:=q;exact⟨v,σ',H',Inv.outTry I.ok I',rv,q⟩
end
def rIsiX (K:W.Frag):List V->Hp->VK->Prop:=λ xs H Q=>E5 λ(ea C:Addr) (c:V) (cv:Value) (b:Bool)=>A6 (xs=[.ref ea,c]) (H ea=some (exO ea C)) (W.ExCls K C) (∀u,RelV c u->u=cv) (W.kitOne K (.ref C) cv=some b) (Q (.bl b) H)
theorem zAM {X:Cx}:CallR X (.builtin "isinstance") (rIsiX X.K):=by
 intro jP s σ H xs us Q I r h;obtain⟨ea,C,c,cv,b,rfl,he,hC,hc,e,q⟩:=h;obtain⟨u,w',rfl,ru,rw'⟩:=vals2 r;cases ru;have:=hc w' rw';subst this;exact W.kia_one (W.kitx_exc hC) I.kIn (zKw I.hok he) e (λ z=>nomatch z) λ tk=>⟨.bl b,H,I.tok tk,rfl,q⟩
theorem Fun.okF {P:Program}{w:World}{K:W.Frag}{mg:Str->Option Value}{base:Heap}{x qual:Str}{st:Stmt}{f:Addr}{fd:FuncData}{N ps:List Str}{k:Nat}{sp:Sp}(F:Fun K x qual st f fd) (S:zAX N ps (zAJ st)) (len:∀vs H Q E,sp vs H Q E->vs.length=ps.length)
  (hbody:∀(cdv:Value) (A:Around) (outer:List Env) (s:Shared) (H:Hp) (vs:List V) (Q:VK) (E:XK),Room k (A.deeper (envOfC qual (zAJ st) s.heap.objs.size f cdv))->sp vs H Q E ->
   ∃t,PSs (cxOf (CXF P w) P w K mg base N qual (zAJ st) f cdv A outer s H E) (zAp st) t/\t { nx:=λ Ω H'=>Q .non H',rt:=Q } (start N vs) H):FnOk P w K mg base (CXF P w) (k+1) f fd ps sp:=by
 obtain⟨oc,od,kV,doc,pm,an,cdv,ct,osl,rfl,lk,hcd⟩:=F.ex;exact fn_of lk hcd S len λ A outer s H vs Q E hr hsp=>hbody cdv A outer s H vs Q E hr hsp
theorem FnOk.toF {P:Program}{w:World}{K:W.Frag}{mg:Str->Option Value}{base:Heap}{k:Nat}{f:Addr}{fd:FuncData}{ps:List Str}{sp:Sp}(F:FnOk P w K mg base CX0 k f fd ps sp):FnOk P w K mg base (CXF P w) k f fd ps sp :=
 ⟨F.len,λ A outer s H args us vs Q E hr he hb hv hs=>codeAny_mono (F.run A outer s H args us vs Q E hr he hb hv hs) λ r s' q=>by
  cases r with
  |error e=>exact False.elim q
  |ok fl=>cases fl<;>exact q⟩
noncomputable def ov (H N:Hp):Hp:=λ a=>(N a).or (H a)
theorem zA9:bootBuiltins "ValueError" = some (.type "ValueError"):=by symm
theorem zGa {K:W.Frag}{C:Addr}{c0:Value}{dd:Option Addr}{cd:ClassData}{sl:Array (Option Value)}(lk:K.lookup C=some ⟨c0,dd,.cls cd,sl⟩):(W.clsIn K C).isSome=true:=by
 unfold W.clsIn;rw[lk];rfl
theorem zCD {K:W.Frag}{C D:Addr}{b:Bool}{dd:Option Addr}{cd:ClassData}{sl:Array (Option Value)}(ne:C≠D) (lk:K.lookup D=some ⟨.type "type", dd,.cls cd,sl⟩) (e:W.subIn K (.ref C) (.ref D)=some b):W.kitOne K (.ref C) (.ref D)=some b:=by
 unfold W.kitOne;rw[if_neg (by simp[ne])];show (if ((W.clsIn K D).isSome && W.typeIn K (.ref D) == some (.type "type"))=true then W.subIn K (.ref C) (.ref D) else none)=some b
 have t:W.typeIn K (.ref D)=some (.type "type"):=by
  show (K.lookup D).map (·.cls)=_;rw[lk];rfl
 rw[zGa lk,t,if_pos 41];exact e
theorem zH1 {K:W.Frag}{C:Addr}{b:Bool}{T:String}(hm:W.kitMeta T=true) (e:W.subIn K (.ref C) (.type T)=some b):W.kitOne K (.ref C) (.type T)=some b:=by
 unfold W.kitOne;rw[if_neg (by intro z;cases beq_iff_eq.mp z)];show (if W.kitMeta T=true then W.subIn K (.ref C) (.type T) else none)=some b;rw[if_pos hm];exact e
structure FnF (P:Program) (w:World) (K:W.Frag) (mg:Str->Option Value) (base:Heap) (k:Nat) (x:Str) (f:Addr) (fd:FuncData) (ps:List Str) (sp:Sp):Prop where
 ok:FnOk P w K mg base (CXF P w) k f fd ps sp
 bd:Binds K fd ps []
 kp:W.keepIn K (.ref f)=true
 gl:mg x=some (.ref f)
theorem FnF.up {P:Program}{w:World}{K:W.Frag}{mg:Str->Option Value}{base:Heap}{j k:Nat}{x:Str}{f:Addr}{fd:FuncData}{ps:List Str}{sp:Sp}(F:FnF P w K mg base j x f fd ps sp) (h:j<=k):FnF P w K mg base k x f fd ps sp :=
 ⟨F.ok.mono h,F.bd,F.kp,F.gl⟩
theorem zJz {P:Program}{w:World}{K:W.Frag}{mg:Str->Option Value}{base:Heap}{N:List Str}{qual:Str}{scope:Scope}{f:Addr}{cd:Value}{A:Around}{outer:List Env}{s:Shared}{H:Hp}{E:XK}{CX:CXT} :
  PassesOwn (model (cxOf CX P w K mg base N qual scope f cd A outer s H E).prog (cxOf CX P w K mg base N qual scope f cd A outer s H E).w) (cxOf CX P w K mg base N qual scope f cd A outer s H E).A (cxOf CX P w K mg base N qual scope f cd A outer s H E).env (cxOf CX P w K mg base N qual scope f cd A outer s H E).xe:=PassesOwn.leaving
open PySem.Calls PySem.W
end L2
namespace PyProof.Rows
open PySem PySem.Calls
end PyProof.Rows
namespace L2
open PySem PySem.Calls PySem.Spec PyProof.Rows PySem.W
theorem zBJ (x:Str):Str.empty++x=x:=by
 show (⟨#[]++x.cps⟩:Str)=x;simp
noncomputable def Itel (K:W.Frag) (a:Addr):It :=
 ⟨λ i H=>∃xs x,SqL K H a xs/\xs[i]?=some x,λ i H x H'=>∃T y,H T=none/\x = .ref T/\H'=upd H T (.tup [.int i,y])/\∀xs,SqL K H a xs->xs[i]?=some y,λ i H=>∃xs,SqL K H a xs/\xs.length<=i⟩
theorem zGf {P:Program}{w:World}{K:W.Frag}{es:List Expr}{k:Nat}{pos:Pos}(a e it:Addr) (hei:e≠it) :
  Turn P w K (.Tuple es k pos) (Itel K a) [e,it] e (λ i h=>(∃old,IsEnum h e it i old)/\h.IsListIter it a i) where
 mem:=by simp
 obj:=λ i h st b hb=>by
  obtain⟨⟨old,z⟩,o,e',c,d⟩:=st;rcases lN.mp hb with y|y
  ·subst y;exact⟨_,z,λ v q=>by have q':Data.fields _=Data.cell v:=q;cases q'⟩
  ·cases mX.mp y
   exact⟨o,e',λ v q=>by rw[d] at q;cases q⟩
 keep:=λ i h h' st k=>by
  obtain⟨⟨old,z⟩,o,e',r⟩:=st;exact⟨⟨old,k e 41 _ z⟩,o,k it 41 o e',r⟩
 item:=by
  intro X hP hw hK hc i jP s σ H E I hf st hg;subst hP hw hK;obtain⟨xs,x,hq,hx⟩:=hg;obtain⟨its,rv,p,hz⟩:=I.list hq;obtain⟨u,hu,ru⟩:=rv.get hx;obtain⟨⟨old,he⟩,hit⟩:=st;have p':s.heap.IsList a its.toArray:=p.isList
  have hai:a≠it:=λ z=>by
   obtain⟨o1,q1,c1,_⟩:=p';obtain⟨o2,q2,c2,_⟩:=hit;rw[z,q2] at q1;cases q1;rw[c2] at c1;injection c1 with c3;exact absurd c3 46
  have hae:a≠e:=λ z=>by
   obtain⟨o1,q1,c1,_⟩:=p';rw[z] at q1;have he':s.heap.get? e=some _:=he;rw[he'] at q1;cases q1;injection c1 with c3;exact absurd c3 46
  have hilt:i<its.toArray.size:=by
   have:=(lI.mp hu).1;simpa using this
  refine wpAny_pyNext_enum_itemD (Draws.list (A:=X.A.in1) (I.ok.hd hc) it a hai its.toArray) he ⟨hit,p'⟩ hilt hei (by simp[hei,Ne.symm hae]) λ y h1 tk hy ho hst hT hsz hk=>?_
  have hyu:y=u:=by
   have:(its.toArray)[i]?=some u:=by simpa using hu
   rw[hy] at this;exact mE this
  subst hyu;refine⟨_,rfl,?_⟩;have hn:H s.heap.objs.size=none:=I.fresh
  have I1:Inv X jP σ (upd H s.heap.objs.size (.tup [.int i,x])) { s with heap:=h1,toks:=tk+1 }:=I.turnedL (ch:=[e,it]) (λ b o hb q=>hk b o (λ z=>hb (by simp[z])) (λ z=>hb (by simp[z])) q) hf (lR _)
   ⟨Nat.le_of_lt (zAf (show 2<=1000 by decide)),[.int i tk,y],.cons 43 (.cons ru .nil),_,hT,rfl,_,rfl⟩
  have neT:∀b∈[e,it],b≠s.heap.objs.size:=λ b hb=>by
   rcases lN.mp hb with z|z
   ·subst z;exact lS (lH (show s.heap.get? b=some _ from he))
   ·cases mX.mp z
    obtain⟨o2,q2,_⟩:=hit;exact lS (lH q2)
  refine wpAny_letOwnedTupleGo_enum (s:={ s with heap:=h1,toks:=tk+1 }) ho λ h2 he2 hs2=>⟨.ref s.heap.objs.size,_,?_,rfl,⟨_,x,hn,rfl,rfl,λ ys hy'=>by rw[I.list_inj hy' hq];exact hx⟩,⟨⟨_,he2⟩,?_⟩,λ b hb=>?_⟩
  ·refine I1.turnedN (t':=tk+1) (ch:=[e]) (λ b o hb q=>(hs2.2 b (λ z=>hb (by simp[z]))).trans q) λ b hb=>?_
   have eb:=mX.mp hb;subst eb;obtain⟨f0,f⟩:=hf b 41;exact⟨by rw[zAO (neT b 41)];exact f0,f⟩
  ·obtain⟨o2,q2,r2⟩:=hst.1
   exact⟨o2,(hs2.2 it hei.symm).trans q2,r2⟩
  ·rw[zAO (neT b hb)];exact(hf b hb).1
 done:=by
  intro X hP hw hK hc i jP s σ H E I hf st hg;subst hP hw hK;obtain⟨xs,hq,hx⟩:=hg;obtain⟨its,rv,p,hz⟩:=I.list hq;obtain⟨⟨old,he⟩,hit⟩:=st;have p':s.heap.IsList a its.toArray:=p.isList
  have hai:a≠it:=λ z=>by
   obtain⟨o1,q1,c1,_⟩:=p';obtain⟨o2,q2,c2,_⟩:=hit;rw[z,q2] at q1;cases q1;rw[c2] at c1;injection c1 with c3;exact absurd c3 46
  have hl:=rv.length;have hT:s.TypeIs (.ref e) "enumerate" := ⟨_,he,rfl⟩;unfold pyNext;refine lA (wpAny_attempt (wpAny_callSpecial?_slot (name:=Str.ofString "__next__") hT F.slot_enumerate_next (wpAny_call_entry F.slot_enumerate_next hT F.entry_enumerate_next ?_ (F.args_enumerate_next_1 _))));show wpAny _ _ (field (.ref e) 2 >>= _) _ _ _;refine lA (wpAny_field he rfl (x:=.ref it) rfl ?_);refine lA (wpAny_nextOf_list_end (I.ok.hd hc) hit p' (by simp;lia) λ h1 x hx1 ⟨o,ho,hc'⟩=>?_);refine lA (wpAny_isInstance (T := "StopIteration") (b:=true) ⟨o,ho,hc'⟩ isSubtype_stop ?_);exact lB ⟨rfl,I.turnedN (t':=s.toks) (ch:=[it]) (λ b o hb q=>hx1 b o (λ z=>hb (by simp[z])) q) λ b hb=>hf b (by simp at hb ⊢;exact .inr hb)⟩
 self:=λ Ω Ω Ω Ω Ω st h=>let ⟨⟨_,he⟩,_⟩:=st;wpAny_pyIter_enum he h
def zL7 (K:W.Frag) (ta:TA):TI:=λ σ H R=>ta σ H λ vs H1=>∃a,vs=[.ref a]/\(∃xs,SqL K H1 a xs)/\R (Itel K a) H1
theorem zEd {X:Cx}{es:List Expr}{k:Nat}{tpos:Pos}{a:Expr}{ta:TA}{p pos:Pos}(hg:Gl X "enumerate") (hm:X.mg "enumerate" = none) (ha:PA X [a] ta) (hs:starEach [a] X.env=[(false,eval a X.env)]:=by rfl) :
  PI X (.Tuple es k tpos) (.Call (.Name "enumerate" p) [a] [] pos) (zL7 X.K ta):=by
 intro jP s σ H R I h;refine Call_ (zDJ I hg hm boot_enumerate (PyProof.Rows.callWith_type1 (thn (ha pos jP s σ H _ I h) λ us s1 ⟨vs,H1,I1,r1,q1⟩=>?_) hs rfl));obtain⟨b,e,⟨xs,hq⟩,q⟩:=q1;subst e;obtain⟨u,rfl,ru⟩:=vals1 r1;cases ru;obtain⟨its,rv,tp,hz⟩:=I1.list hq;refine call_enumerate_list tp.isList λ h' he hit hsz hk=>?_;refine wpAny_pyIter_enum he ⟨_,[s1.heap.objs.size+1,s1.heap.objs.size],_,_,H1,rfl,I1.kept (t':=s1.toks) hk,zGf b _ _ (Nat.succ_ne_self _),⟨⟨_,he⟩,hit⟩,λ c hc=>?_,q⟩
 have ge:s1.heap.objs.size<=c:=by
  rcases lN.mp hc with z|z
  ·rw[z];exact Nat.le_succ _
  ·rw[mX.mp z];exact lR _
 exact I1.fpOk ge (I1.hok.fresh ge)
theorem zDs {K:W.Frag}{a:Addr}{xs:List V}{g:TG}{tb:TS}{D:Ends}{σ:St}{H:Hp}(Pv:Nat->St->Hp->Prop) (h0:Pv 0 σ H) (hl:∀i σ H,i<=xs.length->Pv i σ H->SqL K H a xs)
  (hs:∀i x T σ H,xs[i]?=some x->Pv i σ H->H T=none->g (.ref T) σ (upd H T (.tup [.int i,x])) λ σ2 H2=>tb { D with nx:=Pv (i+1),ct:=Pv (i+1),bk:=D.nx } σ2 H2) (hd:∀σ H,Pv xs.length σ H->D.nx σ H) :
  ∃W:Nat->Nat->St->Hp->Prop,(∃m,W 0 m σ H)/\∀i m σ H,W i m σ H ->
   ((Itel K a).stop i H/\D.nx σ H)\/((Itel K a).go i H/\∃N:St->Hp->Prop,68/\∀x H',(Itel K a).yld i H x H'->g x σ H' λ σ2 H2=>tb { D with nx:=N,ct:=N,bk:=D.nx } σ2 H2):=by
 refine⟨λ i m σ H=>m=xs.length - i/\i<=xs.length/\Pv i σ H,⟨xs.length,by simp,lY _,h0⟩,?_⟩;rintro i m σ H ⟨rfl,hi,p⟩;have q:=hl i σ H hi p
 by_cases hlt:i<xs.length
 ·refine .inr ⟨⟨xs,xs[i],q,by simp[hlt]⟩,Pv (i+1),λ σ' H' p'=>⟨xs.length - (i+1),by lia,rfl,hlt,p'⟩,λ x H' y=>?_⟩
  obtain⟨T,z,hT,ex,eH,y⟩:=y;subst ex eH;exact hs i z T σ H (y xs q) p hT
 ·have e:i=xs.length:=by lia
  subst e;exact .inl ⟨⟨xs,q,lR _⟩,hd σ H p⟩
theorem Sf.free {H H':Hp}(g:Sf H H') {a:Addr}(h:H' a=none):H a=none:=by
 cases e:H a with
 |none=>rfl
 |some u =>
  rcases g a u e with z|⟨o,_,z⟩<;>(rw[h] at z;cases z)
end L2
namespace PySem
open Sem (wp)
def KeepD (h h':Heap):Prop:=∀b o,h.get? b=some o->∃o',h'.get? b=some o'/\o'.dict=o.dict
theorem KeepD.refl (h:Heap):KeepD h h:=λ Ω o e=>⟨o,e,rfl⟩
theorem KeepD.trans {h h1 h2:Heap}(x:KeepD h h1) (y:KeepD h1 h2):KeepD h h2:=λ b o e =>
 let ⟨o1,e1,d1⟩:=x b o e;let ⟨o2,e2,d2⟩:=y b o1 e1;⟨o2,e2,d2.trans d1⟩
def KD {α:Type}:Sem α->Prop
 |.pure _=>True
 |.raise _=>True
 |.unsupported _=>True
 |.finish _=>True
 |.rule _ k=>KD (k ())
 |.at _ k=>KD (k ())
 |.load _ _ k=>∀o,KD (k o)
 |.update _ _ f k=>(∀o,(f o).dict=o.dict/\(o.isFreed=false->(f o).isFreed=false))/\KD (k ())
 |.alloc _ k=>∀a,KD (k a)
 |.loadIfAlive _ k=>∀o,KD (k o)
 |.register _ k=>True
 |.fresh k=>∀t,KD (k t)
 |.ask k=>∀t,KD (k t)
 |.stack k=>∀l,KD (k l)
 |.handled _ k=>∀l,KD (k l)
 |.point _ k=>KD (k ())
 |_=>False
theorem KD.bind {α β:Type}{m:Sem α}{k:α->Sem β}(h1:KD m) (h2:∀a,KD (k a)):KD (m >>= k):=by
 show KD (m.bind k)
 induction m with
 |pure a=>exact h2 a
 |raise e=>trivial
 |unsupported e=>trivial
 |finish e=>trivial
 |rule t k ih=>exact ih _ h1
 | «at» p k ih=>exact ih _ h1
 |load a p k ih=>exact λ o=>ih _ (h1 o)
 |update a p f k ih=>exact⟨h1.1,ih _ h1.2⟩
 |alloc o k ih=>exact λ a=>ih _ (h1 a)
 |loadIfAlive a k ih=>exact λ o=>ih _ (h1 o)
 |register a k ih=>trivial
 |fresh k ih=>exact λ o=>ih _ (h1 o)
 |ask k ih=>exact λ o=>ih _ (h1 o)
 |stack k ih=>exact λ o=>ih _ (h1 o)
 |handled o k ih=>exact λ o=>ih _ (h1 o)
 |point l k ih=>exact ih _ h1
 |_=>exact False.elim h1
theorem KD.ite {α:Type}{c:Prop} [Decidable c] {a b:Sem α}(h1:KD a) (h2:KD b):KD (if c then a else b):=by split;exact h1;exact h2
theorem WPM {α:Type}{M:Model}{Γ:Ctx}{E:Value->Pos->Shared->Prop}{t:Sem α}{Q Q':α->Pos->Shared->Prop}{p:Pos}{s:Shared}(h:∀a p s,Q a p s->Q' a p s) (x:wp M Γ t Q E p s):wp M Γ t Q' E p s:=Sem.wp_mono M Γ t h (λ Ω Ω Ω z=>z) p s x
theorem kd_wp {α:Type}{M:Model}{Γ:Ctx}{E:Value->Pos->Shared->Prop}:∀{t:Sem α},KD t->∀{Q:α->Pos->Shared->Prop}(p:Pos) (s:Shared),wp M Γ t Q E p s->wp M Γ t (λ a p' s'=>Q a p' s'/\KeepD s.heap s'.heap) E p s:=by
 intro t
 induction t with
 |pure a=>intro _ Q p s h;exact⟨h,.refl _⟩
 |raise e=>intro _ Q p s h;exact h
 |unsupported e=>intro _ Q p s h;exact h
 |finish e=>intro _ Q p s h;exact h
 |rule t k ih=>intro d Q p s h;exact ih _ d p s h
 | «at» q k ih=>intro d Q p s h;exact ih _ d q s h
 |load a q k ih=>intro d Q p s h;obtain⟨o,ho,h⟩:=h;exact⟨o,ho,ih _ (d o) p s h⟩
 |update a q f k ih =>
  intro d Q p s h;refine⟨h.1,?_⟩;have:=ih _ d.2 p _ h.2
  have kk:KeepD s.heap (s.heap.update a f):=λ b o e=>by
   by_cases hb:b=a
   ·subst hb
    exact⟨f o,mJ f e ((d.1 o).2 (Heap.get?_some_iff.mp e).2),(d.1 o).1⟩
   ·exact⟨o,(Heap.get?_update_ne _ _ _ _ hb).trans e,rfl⟩
  exact WPM (λ a p' s' h=>⟨h.1,kk.trans h.2⟩) this
 |alloc o k ih =>
  intro d Q p s h;have:=ih _ (d _) p _ h;have kk:KeepD s.heap (s.heap.push o):=λ b o' e=>⟨o',lE _ e,rfl⟩;exact WPM (λ a p' s' h=>⟨h.1,kk.trans h.2⟩) this
 |loadIfAlive a k ih=>intro d Q p s h;exact ih _ (d _) p s h
 |register a k ih=>intro d Q p s h;exact h
 |fresh k ih=>intro d Q p s h;exact ih _ (d _) p _ h
 |ask k ih=>intro d Q p s h;exact ih _ (d _) p s h
 |stack k ih=>intro d Q p s h;exact ih _ (d _) p s h
 |handled o k ih=>intro d Q p s h;exact ih _ (d _) p s h
 |point l k ih=>intro d Q p s h;exact ih _ d p s h
 |_=>exact λ h=>False.elim h
theorem zCn {α:Type}{M:Model}{A:Around}{t:Sem α}{Q:α->Shared->Prop}{E:XQ}{s:Shared}(d:KD t) (h:wpAny M A t Q E s):wpAny M A t (λ a s'=>Q a s'/\KeepD s.heap s'.heap) E s :=
 λ Γ p hΓ=>kd_wp d p s (h Γ p hΓ)
theorem zFp (v:Value):KD (fieldsOf v):=by
 unfold fieldsOf;cases v with
 |ref a=>exact KD.bind (λ o=>trivial) λ o=>by split<;>trivial
 |_=>trivial
theorem zDU (v:Value) (i:Nat):KD (field v i):=by
 unfold field;exact KD.bind (zFp v) λ vs=>by split<;>trivial
theorem zCi (v:Value) (i:Nat) (x:Value):KD (setField v i x):=by
 unfold setField;cases v with
 |ref a =>
  unfold updateField;refine KD.bind (λ o=>trivial) λ o=>?_;split
  ·exact KD.ite ⟨λ o=>by obtain⟨c,d,dt,sl⟩:=o;cases dt<;>exact⟨rfl,λ h=>h⟩,trivial⟩ trivial
  ·trivial
 |_=>trivial
theorem zCQ (e:Value) (f:Option Addr):KD (setFlight e f):=by
 unfold setFlight;exact KD.bind (zDU _ _) λ tb=>KD.ite (zCi _ _ _) trivial
theorem zCd:∀l:List Env,KD (readyFrames l)
 |[]=>trivial
 |env::outer=>by
  unfold readyFrames;split
  ·refine KD.bind (λ o=>trivial) λ o=>KD.ite trivial ?_
   refine KD.bind ?_ λ b=>?_
   ·unfold behindIsImport
    exact KD.ite trivial (KD.ite trivial (KD.bind (zDU _ _) λ Ω=>trivial))
   ·refine KD.bind ?_ λ bk=>?_
    ·cases outer with
     |nil =>
      unfold keptBack;refine KD.ite trivial (KD.bind ?_ λ Ω=>trivial);exact λ l=>trivial
     |cons=>trivial
    ·exact KD.bind ⟨λ o=>by obtain⟨c,d,dt,sl⟩:=o;cases dt<;>exact⟨rfl,λ h=>h⟩,trivial⟩ λ Ω=>zCd outer
  ·trivial
theorem zGt (env:Env):KD (frameOf env):=by
 unfold frameOf;refine KD.bind (λ l=>trivial) λ l=>KD.bind ?_ λ o=>by split<;>trivial
 unfold frameObject;split
 ·trivial
 ·exact KD.bind (zCd _) λ Ω=>trivial
theorem zEn (f:Addr) (b:Bool):KD (entryPlaceOf f b):=by
 unfold entryPlaceOf;refine KD.bind (λ l=>trivial) λ l=>?_;split<;>trivial
theorem zFK (ty:String) (vs:List Value):KD (newFields ty vs):=by
 unfold newFields newObj;dsimp only;refine KD.ite (KD.bind trivial λ Ω=>?_) ?_
 all_goals
  unfold newObjAsIs;exact λ a=>trivial
set_option tactic.hygienic true in
theorem zDK (e:Value) (env:Env):KD (noteFrame e env):=by
  unfold noteFrame;split
  · rename_i L _
    refine KD.bind (zDU _ _) λ hd=>?_
    have tl:KD (do let a ← frameOf env;let pl ← entryPlaceOf L (hd != .none);let b ← EntryCells.newEntry hd a .none (rawInt L) .none pl;setField e 1 b) :=
      KD.bind (zGt env) λ a=>KD.bind (zEn _ _) λ pl=>KD.bind (zFK _ _) λ b=>zCi _ _ _
    refine KD.ite ?_ tl;refine KD.bind (zDU _ _) λ x=>KD.ite trivial ?_;exact KD.bind (zCi _ _ _) λ Ω=>tl
  · trivial
theorem zEJ (env:Env) (e:Value):KD (leaving env e):=by
 unfold leaving;exact KD.bind (zDK _ _) λ Ω=>zCQ _ _
end PySem
namespace PySem.W
open PySem PySem.Spec PySem.Calls PyProof.Rows Builtin Builtin.ObjectAttr
def ExD (x D dx:Addr) (h:Heap):Prop:=∃o vs,h.get? x=some o/\o.cls = .ref D/\o.data = .fields vs/\o.dict=some dx
def DictCls (K:Frag) (D:Addr):Prop:=∃c0 dd cd sl,K.lookup D=some ⟨c0,dd,.cls cd,sl⟩/\cd.hasDict=true
theorem ExD.exAt {x D dx:Addr}{h:Heap}(p:ExD x D dx h):ExAt x D h:=let ⟨o,vs,a,b,c,_⟩:=p;⟨o,vs,a,b,c⟩
section
variable {prog:Program}{w:World}{A:Around}{E:XQ}{K:Frag}{x D dx:Addr}{h:Heap}{g:Array GenState}{d:Drawn}{t:Nat}{os:OsState}{mA:Str->Option Value}{name:Str}{v:Value}
theorem zFN {tk:Tok}{Q:Fin->Shared->Prop}(X:K.In h) (p:ExD x D dx h) (hc:findIn K (.ref D) name=some none) (hns:h.Ns1 dx mA) (hv:mA name=some v) (hcd:DictCls K D) (hq:Q (.done (.ret v)) ⟨h,g,d,t,os⟩) :
  wpAny 45 A (Builtin.«object.__getattribute__» ⟨[.ref x,.str name tk],[]⟩) Q E ⟨h,g,d,t,os⟩:=by
 have L0:=p.exAt.ty 45;have L1:=looks_findIn (M:=model prog w) X hc;obtain⟨o,vs,hx,hcl,hdat,hdx⟩:=p;unfold Builtin.«object.__getattribute__»
 repeat (any_goals (first|assumption|with_reducible refine L0.at ?_|with_reducible refine L1.at ?_|(with_reducible refine wpAny_loadPart_at hx ?_;rw[hcl])|wp_step))
 rw[hdat];dsimp only;unfold instanceDict;obtain⟨c0,dd0,cd0,sl0,hK,hHas⟩:=hcd;have hD:=X _ _ hK
 repeat (any_goals (first|assumption|with_reducible refine L0.at ?_|(with_reducible refine wpAny_loadPart_at hx ?_;rw[hcl])|wp_step))
 rw[hdx]
 repeat (any_goals (first|assumption|(with_reducible refine wpAny_nsGet hns.ns ?_;rw[hv])|wp_step))
theorem zIH {tk:Tok}{ex fi:Bool}{Q:XQ}(X:K.In h) (p:ExD x D dx h) (C:ExCls K D) (hcd:DictCls K D) (hc:findIn K (.ref D) name=some none) (hns:h.Ns1 dx mA) (hv:mA name=some v) (hh:handedOut v=pure v) (hq:Q v ⟨h,g,d,t,os⟩) :
  wpAny 45 A (getAttrBy (.ref x) (.str name tk) fi ex) Q E ⟨h,g,d,t,os⟩:=by
 have L0:=p.exAt.ty 45;have L1:=looks_findIn (M:=model prog w) X C.ga;have L2:=looks_findIn (M:=model prog w) X C.gt;have f3:=F.attr_ValueError.ga.bind (.ref x);have hx2:(Value.builtin "BaseException.__getattribute__" == Value.builtin "object.__getattribute__")=false:=by symm
 have hx1:(onTheHeap (Value.ref D) && Value.builtin "BaseException.__getattribute__" == Value.builtin "object.__getattribute__")=false:=by rw[hx2];rfl
 repeat (any_goals (first|assumption|with_reducible refine L0.at ?_|with_reducible refine L1.at ?_|with_reducible refine L2.at ?_|wp_step))
 rw[show onTheHeap (Value.builtin "BaseException.__getattribute__")=false from rfl,Bool.and_false]
 repeat (any_goals (first|assumption|wp_step))
 refine codeAny_call_builtin F.attr_ValueError.ga.plain F.entry_bexc_ga (zDt X p.exAt C.bs (zFN X p hc hns hv hcd ?_))
 repeat (any_goals (first|assumption|wp_step))
theorem ex_own {ex:Bool}{Q:XQ}(X:K.In h) (p:ExD x D dx h) (C:ExCls K D) (hcd:DictCls K D) (hc:findIn K (.ref D) name=some none) (hns:h.Ns1 dx mA) (hv:mA name=some v) (hh:handedOut v=pure v) (hq:Q v ⟨h,g,d,t+1,os⟩) :
  wpAny 45 A (getAttr (.ref x) name ex) Q E ⟨h,g,d,t,os⟩:=by
 unfold getAttr
 repeat (any_goals (first|assumption|with_reducible apply zIH X p C hcd hc hns hv hh|wp_step))
end
structure Exc2 (K:Frag) (D R:Addr):Prop where
 cls:∃dd cd sl,K.lookup D=some ⟨.type "type", dd,.cls cd,sl⟩/\cd.hasDict=true/\cd.mro=[.ref D,.ref R,.type "ValueError", .type "Exception", .type "BaseException", .type "object"]
 sa:findIn K (.ref D) "__setattr__" = some (some (.builtin "object.__setattr__"))
section
variable {prog:Program}{w:World}{A:Around}{E:XQ}{K:Frag}{x D R:Addr}{h:Heap}{g:Array GenState}{d:Drawn}{t:Nat}{os:OsState}{name:Str}{v:Value}{o:Obj}{vs:Array Value}
def zKG (x:Addr) (o:Obj) (name:Str) (v:Value) (h h':Heap):Prop:=∃dx,h.get? dx=none/\dx≠x/\h'.get? x=some { o with dict:=some dx }/\h'.Ns1 dx (λ y=>if y=name then some v else none)/\∀b ob,b≠x->h.get? b=some ob->h'.get? b=some ob
theorem zD5 {tk:Tok}{Q:Fin->Shared->Prop}(X:K.In h) (C:Exc2 K D R) (hx:h.get? x=some o) (hc:o.cls = .ref D) (hd:o.data = .fields vs) (hn:o.dict=none) (hna:findIn K (.ref D) name=some none)
  (hq:∀h' tk',zKG x o name v h h'->Q (.done (.ret .none)) ⟨h',g,d,tk',os⟩) :
  wpAny 45 A (Builtin.«object.__setattr__» ⟨[.ref x,.str name tk,v],[]⟩) Q E ⟨h,g,d,t,os⟩:=by
 have hpass:=PySem.F.store_ValueError.passes (.ref x);obtain⟨dd0,cd0,sl0,hK,hHas,hmro⟩:=C.cls;have hD:=X _ _ hK;have L1:=looks_findIn (M:=model prog w) X hna;unfold Builtin.«object.__setattr__»
 repeat (first|rw[refuse_eq]|(rw[hmro,refuseLoop_ref,refuseLoop_ref,hpass])|(with_reducible refine wpAny_loadPart_at hx ?_;rw[hc])|with_reducible refine L1.at ?_|wp_step)
 rw[hn,hd];dsimp only;refine wpAny_ite_false (by simp[typeHasDict]) ?_;have hx1:(h.push { cls:=.type "dict", data:=.dict #[] }).get? x=some o:=lE _ hx;have hxs:x≠h.objs.size:=lS (lH hx);refine lA (wpAny_alloc' (lA (wpAny_update' hx1 (lB ?_))));have hgd:((h.push { cls:=.type "dict", data:=.dict #[] }).update x λ o=>{ o with dict:=some h.objs.size }).get? h.objs.size=some { cls:=.type "dict", data:=.dict #[] }:=(Heap.get?_update_ne _ _ _ _ hxs.symm).trans (Heap.get?_push_at rfl rfl);have hnd:((h.push { cls:=.type "dict", data:=.dict #[] }).update x λ o=>{ o with dict:=some h.objs.size }).Ns h.objs.size (λ Ω=>none):=⟨_,#[],_,hgd,rfl,λ e he=>absurd he 41,λ Ω=>rfl⟩;dsimp only;unfold storeInDict newKeyGuard;dsimp only;refine lA (lB (lA (wpAny_nsSet1 (Heap.Ns1.of_empty hnd) λ h' hn' hs=>?_)));obtain⟨oD,esD,epD,hoD,hdD,hcD⟩:=hn'.count (Within.cons name v Within.nil);refine lA (wpAny_lookBehind hoD (by rw[hdD];refine pastItsLine_dict (mH hcD ?_);rw[mP,List.length_nil,sizeLine_eq];omega) ?_);refine lB (hq h' _ ⟨h.objs.size,Heap.get?_none_of_le (lR _),hxs.symm,?_,hn',λ b ob hb e=>?_⟩)
 ·refine(hs.2 x hxs).trans (mJ _ hx1 ?_)
  have hfr:=(Heap.get?_some_iff.mp hx).2;obtain⟨oc,od,odt,osl⟩:=o;cases odt<;>first|rfl|exact hfr
 ·exact(hs.2 b (lS (lH e))).trans ((Heap.get?_update_ne _ _ _ _ hb).trans (lE _ e))
theorem ex_store {Q:Unit->Shared->Prop}(X:K.In h) (C:Exc2 K D R) (hob:mroIn K D (.type "object")=some true) (hx:h.get? x=some o) (hc:o.cls = .ref D) (hd:o.data = .fields vs) (hn:o.dict=none) (hna:findIn K (.ref D) name=some none)
  (hq:∀h' tk',zKG x o name v h h'->Q () ⟨h',g,d,tk',os⟩):wpAny 45 A (setAttr (.ref x) name v) Q E ⟨h,g,d,t,os⟩:=by
 have f3:=PySem.F.store_ValueError.slot.bind (.ref x);have L1:=looks_findIn (M:=model prog w) X C.sa;have L2:=looks_mroIn (M:=model prog w) X hob;have kd:=PySem.F.store_ValueError.kind;have sp:=PySem.F.store_ValueError.split;unfold setAttr callSpecial? specialOf
 repeat (any_goals (first|assumption|(with_reducible refine wpAny_loadPart_at hx ?_;rw[hc])|with_reducible refine L1.at ?_|wp_step))
 have chk:∀{M:Model}{A:Around}{E:XQ}{tk:Tok}{t:Nat}{Q:Unit->Shared->Prop},Q () ⟨h,g,d,t,os⟩->wpAny 45 A (checkBuiltinCall "object.__setattr__" ⟨[.ref x,.str name tk,v],[]⟩) Q E ⟨h,g,d,t,os⟩:=by
  intro M A E tk t Q q;have ha:=PySem.F.store_ValueError.args (.ref x) (.str name tk) v;simp only[checkBuiltinCall,kd,sp];unfold isInstance
  repeat (first|(with_reducible refine wpAny_loadPart_at hx ?_;rw[hc])|with_reducible refine L2.at ?_|wp_step)
  exact q
 refine codeAny_call_builtin PySem.F.store_ValueError.slot.plain PySem.F.store_ValueError.entry (chk (M:=model prog w) (zD5 X C hx hc hd hn hna λ h' tk' S=>?_))
 repeat (any_goals (first|assumption|wp_step))
 exact hq h' tk' S
end
abbrev xdata (t:Value):Data:=.fields #[t,.none,.none,.none,.bool false,.none]
section
variable {prog:Program}{w:World}{A:Around}{E:XQ}{K:Frag}{x D R:Addr}{h:Heap}{g:Array GenState}{d:Drawn}{t:Nat}{os:OsState}{tv:Value}{t0:Addr}{o:Obj}
theorem ex_init {Q:XQ}(X:K.In h) (C:Exc2 K D R) (hb:mroIn K D (.type "ValueError")=some true) (hx:h.get? x=some o) (hc:o.cls = .ref D) (hd:o.data=xdata (.ref t0))
  (hq:∀h' t',h'.get? x=some { o with data:=xdata (.ref t') }->(∀b ob,b≠x->h.get? b=some ob->h'.get? b=some ob)->Q .none ⟨h',g,d,t,os⟩):wpAny 45 A (call (.builtin "ValueError.__init__") [.ref x,tv]) Q E ⟨h,g,d,t,os⟩:=by
 have FF:=PySem.F.excBase_ValueError;have L2:=looks_mroIn (M:=model prog w) X hb;have hshort:=FF.noStar;obtain⟨dd0,cd0,sl0,hK,hHas,hmro⟩:=C.cls;have hD:=X _ _ hK;refine wpAny_call (codeAny_call_builtin FF.init.plain FF.initEntry ?_);simp only[checkBuiltinCall,FF.initKind,FF.initSplit,FF.initRow];unfold isInstance
 repeat (first|(with_reducible refine wpAny_loadPart_at hx ?_;rw[hc])|with_reducible refine L2.at ?_|wp_step)
 rw[hd];have hxp:=lE (h:=h) { cls:=Value.type "tuple", data:=Data.seq #[tv] } hx;refine lB (lB (lA (wpAny_setField hxp hd 41 ?_)))
 have hx':((h.push { cls:=Value.type "tuple", data:=Data.seq #[tv] }).update x (Obj.mapFields (·.setIfInBounds 0 (Value.ref h.objs.size)))).get? x=some { o with data:=xdata (.ref h.objs.size) }:=by
  refine(mJ _ hxp ?_).trans ?_
  ·obtain⟨oc,od,odt,osl⟩:=o;simp only at hd;subst hd;rfl
  ·obtain⟨oc,od,odt,osl⟩:=o;simp only at hd;subst hd;rfl
 have fin:=hq _ _ hx' λ b ob hb e=>(Heap.get?_update_ne _ _ _ _ hb).trans (lE _ e)
 repeat (any_goals (first|assumption|exact fin|wp_step))
end
abbrev mroVE:List Value:=[.type "ValueError", .type "Exception", .type "BaseException", .type "object"]
structure Exc3 (K:Frag) (D R f:Addr):Prop extends Exc2 K D R,ExCls K D where
 obj:∃nm q N bs sn sub ab col dd k0 k1 k2 k3 k5,K.lookup D=some (excClassObj nm q D N bs (.ref R::mroVE) true sn sub ab col dd k0 k1 k2 k3 k5 "ValueError.__new__")
 tail:tailIn K mroVE (.ref R::mroVE)=true
 init:findIn K (.ref D) "__init__" = some (some (.ref f))
 fn:typeIn K (.ref f)=some (.type "function")
section
variable {prog:Program}{w:World}{A:Around}{E:XQ}{K:Frag}{x D R f:Addr}{h:Heap}{g:Array GenState}{d:Drawn}{t:Nat}{os:OsState}
abbrev xObj (D t:Addr):Obj:={ cls:=.ref D,data:=xdata (.ref t) }
abbrev tObj (rest:List Value):Obj:={ cls:=.type "tuple", data:=.seq rest.toArray }
theorem ex_make {rest:List Value}{R':Result->Shared->Prop}(X:K.In h) (C:Exc3 K D R f) (hrest:rest.length<=sizeLine)
  (hq:codeAny 45 (A.under (.builtin "type.__call__" ⟨.ref D::rest,[]⟩)) (.call (.ref f) ⟨.ref (h.objs.size+1)::rest,[]⟩) (InitBack (h.objs.size+1) R') ⟨(h.push (tObj rest)).push (xObj D h.objs.size),g,d,t,os⟩) :
  codeAny 45 A (.call (.ref D) ⟨rest,[]⟩) R' ⟨h,g,d,t,os⟩:=by
 obtain⟨nm,q,N,bs,sn,sub,ab,col,dd,k0,k1,k2,k3,k5,hK⟩:=C.obj;have hC:=X _ _ hK;have T:=tail_of_in X C.tail;have FF:=PySem.F.excBase_ValueError;have f1:=tc_lookup;have f2:=tc_bind (.ref D);have hT:(⟨h,g,d,t,os⟩:Shared).TypeIs (.ref D) "type" := ⟨_,hC,rfl⟩;refine codeAny_of_tree ?_;show wpAny _ _ (callAny (.ref D) _) _ _ _
 repeat (any_goals (first|assumption|with_reducible refine wpAny_loadPart_at hC ?_|wp_step))
 refine⟨rfl,?_⟩;refine codeAny_call_builtin_at (Code.quiet_builtin _ (by symm)) entry_typeCall (wpAny_check_type_call_sub hC ?_)
 repeat (first|with_reducible refine wpAny_loadPart_at hC ?_|with_reducible refine wpAny_madeBy_exc hC ?_|wp_step)
 refine codeAny_call_builtin_code (Code.quiet_builtin _ FF.quiet) (wpAny_check_new_subT FF T hC ?_);refine codeAny_exc_new_subT FF T hC ?_ hrest;show wpAny _ _ _ _ _ _;have kp:∀b o,h.get? b=some o->((h.push (tObj rest)).push (xObj D h.objs.size)).get? b=some o:=λ b o e=>lE _ (lE _ e);have hget:((h.push (tObj rest)).push (xObj D h.objs.size)).get? (h.objs.size+1)=some (xObj D h.objs.size):=by heap_get
 have hC1:=kp _ _ hC;have hcC:(Value.ref D::Value.ref R::mroVE).contains (.ref D)=true:=by simp
 have i1:=(looks_findIn (M:=model prog w) X C.init).keeps kp;have b1:=(bind_fn (M:=model prog w) X (.ref (h.objs.size+1)) C.fn).keeps kp;unfold isInstance
 repeat (first|with_reducible refine wpAny_loadPart_at hget ?_|(with_reducible refine wpAny_isSubtype_exc hC1 ?_;rw[hcC])|with_reducible refine i1.at ?_|with_reducible refine b1.at ?_|wp_step)
 show wpAny _ _ (isSubtype (.ref D) (.ref D)) _ _ ⟨(h.push (tObj rest)).push (xObj D h.objs.size),g,d,t,os⟩;refine wpAny_isSubtype_exc hC1 ?_;rw[hcC];refine wpAny_ite_false 39 ?_;refine lA (lD ?_);unfold callSpecial? specialOf
 repeat (first|with_reducible refine wpAny_loadPart_at hget ?_|with_reducible refine i1.at ?_|with_reducible refine b1.at ?_|with_reducible refine wpAny_call ?_|wp_step)
 refine codeAny_mono hq λ r s' z=>?_;rcases r with e|(v|_|_|_)<;>first|exact z|exact z.elim|skip
 obtain⟨rfl,z⟩:=z;exact lB (lB z)
end
end PySem.W
namespace L2
open PySem PySem.Spec PyProof.Rows
noncomputable def exN (ea C:Addr):HO:=.ext λ h=>∃t,h.get? ea=some (W.xObj C t)
noncomputable def exW (ea C dx:Addr):HO:=.ext λ h=>∃t,h.get? ea=some { W.xObj C t with dict:=some dx }
section
variable {P:Program}{w:World}{H H':Hp}{h h':Heap}{ea C dx:Addr}
theorem zKB {t:Addr}(e:h.get? ea=some (W.xObj C t)):ObjOk P w H h ea (exN ea C):=⟨⟨t,e⟩,⟨_,e⟩,λ _ _ ⟨t,e⟩ k=>⟨t,k _ e⟩⟩
theorem zMB {t:Addr}(e:h.get? ea=some { W.xObj C t with dict:=some dx }):ObjOk P w H h ea (exW ea C dx):=⟨⟨t,e⟩,⟨_,e⟩,λ _ _ ⟨t,e⟩ k=>⟨t,k _ e⟩⟩
theorem zIJ (hok:HOk P w H h) (e:H ea=some (exN ea C)):∃t,h.get? ea=some (W.xObj C t):=(hok ea _ e).1
theorem zII (hok:HOk P w H h) (e:H ea=some (exW ea C dx)):∃t,h.get? ea=some { W.xObj C t with dict:=some dx }:=(hok ea _ e).1
end
noncomputable def exC (ea C dx:Addr):HO:=.ext (W.ExD ea C dx)
theorem zMD {P:Program}{w:World}{H:Hp}{h:Heap}{ea C dx:Addr}(p:W.ExD ea C dx h):ObjOk P w H h ea (exC ea C dx):=by
 obtain⟨o,vs,e,hc,hd,hx⟩:=p;exact⟨⟨o,vs,e,hc,hd,hx⟩,⟨o,e⟩,λ h1 h2 ⟨o,vs,e,hc,hd,hx⟩ k=>⟨o,vs,k o e,hc,hd,hx⟩⟩
theorem zFt {P:Program}{w:World}{H:Hp}{h:Heap}{ea C dx:Addr}(hok:HOk P w H h) (e:H ea=some (exC ea C dx)):W.ExD ea C dx h:=(hok ea _ e).1
section
variable {X:Cx}{jP:List (Addr × Obj)}{σ:St}{H H':Hp}{s s':Shared}{h':Heap}{ea dx C:Addr}{φ:Heap->Prop}{o1 o2:HO}{t':Nat}
theorem Inv.two (I:Inv X jP σ H s) (he:H ea=some (.ext φ)) (hdx:s.heap.get? dx=none) (hne:dx≠ea) (k:∀b ob,b≠ea->s.heap.get? b=some ob->h'.get? b=some ob) (thr:∃u,h'.get? ea=some u)
  (n1:ObjOk X.prog X.w (upd (upd H dx o2) ea o1) h' ea o1) (n2:ObjOk X.prog X.w (upd (upd H dx o2) ea o1) h' dx o2):Inv X jP σ (upd (upd H dx o2) ea o1) { s with heap:=h',toks:=t' }:=by
 have hd0:H dx=none:=by
  cases q:H dx with
  |none=>rfl
  |some u=>obtain⟨o,z⟩:=(I.hok dx u q).there;rw[hdx] at z;cases z
 have up:∀b,b≠ea->b≠dx->(upd (upd H dx o2) ea o1) b=H b:=λ b n1 n2=>by rw[zAO n1,zAO n2]
 have nd:∀{b:Addr}{u:HO},H b=some u->b≠dx:=λ q z=>by rw[z,hd0] at q;cases q
 have ndh:∀{b:Addr}{o:Obj},s.heap.get? b=some o->b≠dx:=λ q z=>by rw[z,hdx] at q;cases q
 have nea:∀{b:Addr},H b=none->b≠ea:=λ q z=>by rw[z,he] at q;cases q
 refine I.un ⟨λ b o q n Ω Ω=>k b o (nea n) q,λ b o q n Ω Ω=>⟨o.slots,k b o (nea n) q⟩,λ b o q n Ω=>(up b (nea n) (ndh q)).trans n,λ b o q Ω=>?_,λ b xs q=>?_,λ b o u q=>?_,λ b ps q=>?_⟩ λ b u q=>?_
 ·by_cases z:b=ea
  ·rw[z];exact thr
  ·exact⟨o,k b o z q⟩
 ·exact(up b (λ z=>by rw[z,he] at q;cases q) (nd q)).trans q
 ·exact(up b (λ z=>by rw[z,he] at q;cases q) (nd q)).trans q
 ·exact⟨#[],by rw[Array.append_empty];exact(up b (λ z=>by rw[z,he] at q;cases q) (nd q)).trans q⟩
 ·by_cases z:b=ea
  ·subst z
   rw[zAC] at q;cases q;exact n1
  ·rw[zAO z] at q
   by_cases y:b=dx
   ·subst y
    rw[zAC] at q;cases q;exact n2
   ·rw[zAO y] at q
    refine(I.hok b u q).stay (λ c v hc q2=>k c v (λ x=>?_) q2) (λ c q2=>?_) λ c xs q2=>?_
    ·rcases hc with hc|hc
     ·exact z (hc.symm.trans x)
     ·rw[x,he] at hc;cases hc
    ·exact(up c (λ z=>by rw[z,he] at q2;cases q2) (nd q2)).trans q2
    ·exact(up c (λ z=>by rw[z,he] at q2;cases q2) (nd q2)).trans q2
end
structure XSup (K:W.Frag) (R:Addr):Prop where
 gt:W.specialIn K (.ref R) "__getattribute__" = some (some (.builtin "type.__getattribute__"))
 rd:∃mc,W.readsIn K R mc=true/\W.findCls K (.ref R) mc "__init__" = some (.val (.builtin "ValueError.__init__"))
def zK8 (R D:Addr) (ta:TE) (t:TA):TE:=λ σ H Q=>ta σ H λ x H1=>x = .ref R/\t σ H1 λ vs H2=>∃ea v,vs=[.ref ea,v]/\H2 ea=some (exN ea D)/\Q .non H2
theorem zI1 {X:Cx}{o e:Expr}{es:List Expr}{ta:TE}{t:TA}{R D R':Addr}{apos pos:Pos}{pl:Sem Bool}
  (he:PE X o ta) (M:XSup X.K R) (C:W.Exc2 X.K D R') (hv:W.mroIn X.K D (.type "ValueError")=some true) (ha:PA X (e::es) t)
  (hst:starEach (e::es) X.env=(false,eval e X.env)::starEach es X.env:=by rfl) (hpl:(backTo pos (starEach es X.env)).any (·.1)=false:=by rfl)
  (ht:eval (.Call (.Attribute o "__init__" apos) (e::es) [] pos) X.env=(do
   let ov ← eval o X.env
   standAt apos.atName
   let (f,first) ← holding [ov] (getMethod ov "__init__" pl)
   callWith pos f first (backTo pos (starEach (e::es) X.env)) (backToKw pos (keywordEach [] X.env))):=by rfl) :
  PE X (.Call (.Attribute o "__init__" apos) (e::es) [] pos) (zK8 R D ta t):=by
 intro jP s σ H Q I h;refine W.methodCall_KW (pl:=pl) (thn (he jP s σ H _ I h) λ u s1 ⟨x,H1,I1,rx,ex,q⟩=>?_) ht;subst ex;obtain rfl:u=Value.ref R:=rx;obtain⟨mc,r1,r2⟩:=M.rd;refine W.method_cls I1.kIn M.gt (W.cls_value I1.kIn r1 r2 rfl ?_);refine PyProof.Rows.callWith_builtin1 (thn (ha pos jP _ σ H1 _ (I1.tok (s1.toks+1)) q) λ us s2 ⟨vs,H2,I2,r,ea,v,ev,hea,q2⟩=>?_) hst hpl;subst ev;obtain⟨u1,u2,rfl,ru1,ru2⟩:=vals2 r;cases ru1;obtain⟨t0,ho⟩:=zIJ I2.hok hea;obtain⟨hp,g,d,tk,os⟩:=s2;refine W.ex_init I2.kIn C hv ho rfl rfl λ h' t' e1 k=>?_
 have hu:upd H2 ea (exN ea D)=H2:=by
  funext b
  by_cases z:b=ea
  ·subst z;rw[zAC,hea]
  ·rw[zAO z]
 have I3:=I2.write (x:=ea) (e:=ea) (o:=exN ea D) (h':=h') (t':=tk) (by rw[hea];trivial) (.inl rfl) k ⟨_,e1⟩ (zKB e1);rw[hu] at I3;exact⟨.non,H2,I3,rfl,q2⟩
def sXPut (D:Addr) (ta tv:TE) (f:Str):TS:=λ Ds σ H=>tv σ H λ y H1=>ta σ H1 λ x H2=>∃ea,x = .ref ea/\H2 ea=some (exN ea D)/\∀dx,H2 dx=none->dx≠ea->Ds.nx σ (upd (upd H2 dx (.xd [(f,y)])) ea (exW ea D dx))
theorem zKW {X:Cx}{o value:Expr}{f:Str}{ta tv:TE}{D R:Addr}{pos pos':Pos}(ha:PE X o ta) (hv:PE X value tv) (C:W.Exc2 X.K D R) (hob:W.mroIn X.K D (.type "object")=some true) (hna:W.findIn X.K (.ref D) f=some none)
  (hs:swapsWith value (some (.Attribute o f pos')) pos.line X.env=pure false):PS X (.Assign [.Attribute o f pos'] value pos) (sXPut D ta tv f):=by
 intro jP s σ H Ds I h;refine plainObj_wpAny_Assign_Attribute (thn (hv jP s σ H _ I h) λ u s1 ⟨y,H1,I1,ry,q⟩=>thn (ha jP s1 σ H1 _ I1 q) λ ov s2 ⟨x,H2,I2,rx,ea,ex,hea,q2⟩=>?_) hs;subst ex;obtain rfl:ov=Value.ref ea:=rx;obtain⟨t0,ho⟩:=zIJ I2.hok hea;obtain⟨hp,g,d,tk,os⟩:=s2;refine W.ex_store I2.kIn C hob ho rfl rfl rfl hna λ h' tk' S=>?_;obtain⟨dx,h1,h2,h3,h4,h5⟩:=S
 have hd0:H2 dx=none:=by
  cases q:H2 dx with
  |none=>rfl
  |some u=>obtain⟨o,z⟩:=(I2.hok dx u q).there;rw[h1] at z;cases z
 refine⟨σ,_,I2.two (h':=h') (t':=tk') (o1:=exW ea D dx) (o2:=.xd [(f,y)]) hea h1 h2 h5 ⟨_,h3⟩ (zMB h3) ⟨_,h4,λ z=>?_⟩,q2 dx hd0 h2⟩;show RelO (List.lookup z [(f,y)]) (if z=f then some u else none)
 by_cases e:z=f
 ·subst e
  rw[if_pos rfl,List.lookup_cons_self];exact ry
 ·rw[if_neg e,List.lookup_cons,show (z == f)=false from beq_eq_false_iff_ne.mpr e]
  trivial
def DicAt (h:Heap) (ea:Addr) (dd:Option Addr):Prop:=∃o,h.get? ea=some o/\o.dict=dd
theorem DicAt.keep {h h':Heap}{ea:Addr}{dd:Option Addr}(x:DicAt h ea dd) (k:KeepD h h'):DicAt h' ea dd :=
 let ⟨o,e,d⟩:=x;let ⟨o',e',d'⟩:=k _ _ e;⟨o',e',d'.trans d⟩
noncomputable def CXG (P:Program) (w:World):CXT:=λ outer H s E e s'=>∃ea C dd H',e = .ref ea/\Flew P w outer H s H' ea C s'/\DicAt s'.heap ea dd/\E (.ref C) dd H'
noncomputable def less (H:Hp) (ea:Addr):Hp:=λ b=>if b=ea then none else H b
theorem zBq {H:Hp}{ea b:Addr}(h:b≠ea):less H ea b=H b:=by unfold less;rw[if_neg h]
theorem zDm {H:Hp}{ea:Addr}:less H ea ea=none:=by unfold less;rw[if_pos rfl]
section
variable {P:Program}{w:World}{K:W.Frag}{mg:Str->Option Value}{base:Heap}{N:List Str}{qual:Str}{scope:Scope}{f:Addr}{cd:Value}{A:Around}{outer:List Env}{s:Shared}{H:Hp}{E:XK}
theorem zIS {jP:List 54}{σ:St}{H1:Hp}{s1:Shared}{ea C dx:Addr}(I:Inv (cxOf (CXG P w) P w K mg base N qual scope f cd A outer s H E) jP σ H1 s1) (he:H1 ea=some (exW ea C dx)) (hnew:s.heap.get? ea=none) (q:E (.ref C) (some dx) (less H1 ea)) :
  (cxOf (CXG P w) P w K mg base N qual scope f cd A outer s H E).xe (.ref ea) s1:=by
 obtain⟨t,ho⟩:=zII I.hok he;have ba:Un (frs outer) [] H H1 s.heap s1.heap:=I.base;have ab:s.heap.objs.size<=(cxOf (CXG P w) P w K mg base N qual scope f cd A outer s H E).env.locals:=I.ok.above;have sub:=I.stkSub;have hfree:=I.stkFree;have hstk:=I.stack;have hfrL:=I.free
 have key:=zCn (zEJ (cxOf (CXG P w) P w K mg base N qual scope f cd A outer s H E).env (.ref ea)) (wpAny_leaving_firstW (M:=model P w) (A:=(cxOf (CXG P w) P w K mg base N qual scope f cd A outer s H E).A) (E:=λ Ω Ω=>False) (s:=s1) (base:=W.hideAll s1.heap (ea::frs (cxOf (CXG P w) P w K mg base N qual scope f cd A outer s H E).stack)) (a0:=.ref t)
  (Q:=λ Ω s'=>∃h',s'={ s1 with heap:=h' }/\Heap.LeftW (W.hideAll s1.heap (ea::frs (cxOf (CXG P w) P w K mg base N qual scope f cd A outer s H E).stack)) ((cxOf (CXG P w) P w K mg base N qual scope f cd A outer s H E).env::outer) ea (.ref C) (.ref t) s1.heap h')
  I.ok.frames (W.funFrames_hide hstk λ env he b hb=>lQ _ (List.mem_filterMap.mpr ⟨env,he,hb⟩)) rfl ho (λ b o e=>W.of_hideAll _ e) (W.hideAll_none _ lP) rfl rfl rfl λ h' hL=>⟨h',rfl,hL⟩)
 refine wpAny_mono key (λ _ s' ⟨⟨h',e,hL⟩,kd⟩=>?_) (λ Ω Ω z=>False.elim z);subst e;obtain⟨k1,⟨_,_,k2⟩,k3,k4⟩:=hL;have nea:∀{b:Addr}{u:HO},less H1 ea b=some u->b≠ea:=λ z e=>by rw[e,zDm] at z;cases z
 have eaF:∀{b:Addr}{o:Obj},s.heap.get? b=some o->b≠ea:=λ z e=>by rw[e,hnew] at z;cases z
 have U1:Un (frs outer) [] H (less H1 ea) s.heap s1.heap:=by
  refine⟨ba.keep,ba.slot,λ b o q n hx=>?_,ba.there,λ b xs q=>?_,λ b o u q=>?_,λ b ps q=>?_⟩
  ·rw[zBq (eaF q)];exact ba.free b o q n hx
  ·have:=ba.tups b xs q
   rw[zBq (λ z=>by rw[z,he] at this;cases this)];exact this
  ·have:=ba.frzs b o u q
   rw[zBq (λ z=>by rw[z,he] at this;cases this)];exact this
  ·obtain⟨m,this⟩:=ba.tbls b ps q
   exact⟨m,by rw[zBq (λ z=>by rw[z,he] at this;cases this)];exact this⟩
 have hok2:HOk P w (less H1 ea) s1.heap:=λ b u q=>by
  have nb:=nea q;rw[zBq nb] at q;refine(I.hok b u q).stay (λ Ω Ω Ω z=>z) (λ c z=>?_) λ c xs z=>?_
  ·rw[zBq (λ y=>by rw[y,he] at z;cases z)];exact z
  ·rw[zBq (λ y=>by rw[y,he] at z;cases z)];exact z
 have cov:Cov (frs outer) (less H1 ea) s.heap s1.heap (W.hideAll s1.heap (ea::frs (cxOf (CXG P w) P w K mg base N qual scope f cd A outer s H E).stack)):=λ b o e nb hz=>by
  refine W.hideAll_get _ e λ hm=>?_
  have hb1:b≠ea:=by
   rcases hz with ⟨o0,z⟩|z
   ·exact eaF z
   ·exact λ y=>z (by rw[y];exact zDm)
  rcases lN.mp hm with y|y
  ·exact hb1 y
  ·rcases lN.mp (sub b y) with y|y
   ·rcases hz with ⟨o0,z⟩|z
    ·exact lS (lZ (lH z) ab) y
    ·refine z ?_
     rw[zBq hb1,y];exact hfrL
   ·exact nb y
 have hfd:∀b∈frs outer,less H1 ea b=none/\∃o,s1.heap.get? b=some o/\∀vs,o.data ≠ .fields vs:=λ b hb=>by
  obtain⟨_,o,e,d⟩:=I.ok.funs.mem hb;have hbH:H b=none:=I.ok.frf b hb;obtain⟨sl,e1⟩:=ba.slot b o e hbH hb 41;refine⟨?_,_,e1,d⟩;rw[zBq (eaF e)];exact ba.free b o e hbH 41
 obtain⟨u,k,c⟩:=moved U1 hok2 cov hfd k1 k4;exact⟨ea,C,some dx,less H1 ea,rfl,⟨I.os,I.bare,u,k,hnew,zDm,_,_,⟨k1,W.hideAll_none _ lP,k2,k3⟩,c⟩,DicAt.keep ⟨_,ho,rfl⟩ kd,q⟩
end
section
variable {X:Cx}{jP:List (Addr × Obj)}{σ:St}{H:Hp}{s:Shared}{Q:VK}{us:List Value}{vs:List V}{D R f:Addr}{fd:FuncData}{ps:List Str}{k:Nat}{sp:Sp}
theorem zHO (M:W.Exc3 X.K D R f) (F:FnOk X.prog X.w X.K X.mg X.base CX0 k f fd ps sp) (hr:Room (k+1) X.A) (hb:Binds X.K fd ps []) (I:Inv X jP σ H s) (r:Vals vs us) (hlen:vs.length<=sizeLine)
  (h:∀ea,H ea=none->s.heap.get? ea=none->∃Q0:VK,sp (.ref ea::vs) (upd H ea (exN ea D)) Q0 E0/\∀v H2,Q0 v H2->v = .non/\Q (.ref ea) H2):wpAny 48 X.A (call (.ref D) us) (EP X jP σ Q) X.xe s:=by
 obtain⟨Q0,hq,hQ0⟩:=h (s.heap.objs.size+1) (I.hok.fresh (Nat.le_succ _)) (Heap.get?_none_of_le (Nat.le_succ _));have I1:=I.kept (h':=s.heap.push (W.tObj us)) (t':=s.toks) λ b u q=>lE _ q
 have e2:((s.heap.push (W.tObj us)).push (W.xObj D s.heap.objs.size)).get? (s.heap.objs.size+1)=some (W.xObj D s.heap.objs.size):=by
  have:=lG (s.heap.push (W.tObj us)) (o:=W.xObj D s.heap.objs.size) rfl
  rwa [Heap.size_push] at this
 have I2:=I1.laid (a:=s.heap.objs.size+1) (o:=exN (s.heap.objs.size+1) D) (t':=s.toks) (λ b u q=>lE (W.xObj D s.heap.objs.size) q) (Nat.le_of_eq (Heap.size_push _ _)) (zKB e2);have r2:Vals (V.ref (s.heap.objs.size+1)::vs) (Value.ref (s.heap.objs.size+1)::us):=.cons rfl r
 have hl:(Value.ref (s.heap.objs.size+1)::us++[]).length=ps.length:=by
  have e:=r2.length;rw[F.len _ _ _ _ hq] at e;rw[nX];exact e.symm
 have hb2:=hb _ (Value.ref (s.heap.objs.size+1)::us) I2.kIn hl;rw[nX] at hb2;obtain⟨hp,g,d,tk,os⟩:=s;refine wpAny_call (W.ex_make I.kIn M (by rw[←r.length];exact hlen) (codeAny_mono (F.run _ X.stack _ _ ⟨Value.ref (hp.objs.size+1)::us,[]⟩ (Value.ref (hp.objs.size+1)::us) _ _ E0 (hr.make D us []) (I2.env0.make D us []) hb2 r2 hq) λ r s' hq'=>?_));cases r with
 |error e=>exact False.elim hq'
 |ok fl =>
  cases fl with
  |ret u =>
   obtain⟨v,H',I3,rv,q0⟩:=I2.after hq';obtain⟨ev,q3⟩:=hQ0 v H' q0;subst ev;exact⟨rv,⟨V.ref (hp.objs.size+1),H',I3,rfl,q3⟩⟩
  |next=>exact False.elim hq'
  |brk=>exact False.elim hq'
  |cont=>exact False.elim hq'
end
section
variable {P:Program}{w:World}{K:W.Frag}{mg:Str->Option Value}{base:Heap}{N:List Str}{qual:Str}{scope:Scope}{f:Addr}{cd:Value}{A:Around}{outer:List Env}{s:Shared}{H:Hp}{E:XK}
def zKL (C:Addr) (sp:Sp) (E:XK) (t:TA):TS:=λ _ σ H=>t σ H λ vs H1=>vs.length<=sizeLine/\∀ea,H1 ea=none->sp (.ref ea::vs) (upd H1 ea (exN ea C)) (λ v H2=>v = .non/\∃dx,H2 ea=some (exW ea C dx)/\E (.ref C) (some dx) (less H2 ea)) E0
theorem zHW {x:Str}{np cpos pos:Pos}{e0:Expr}{es:List Expr}{t:TA}{C R fi:Addr}{fd:FuncData}{ps:List Str}{k:Nat}{sp:Sp}(hg:Gl (cxOf (CXG P w) P w K mg base N qual scope f cd A outer s H E) x) (hm:mg x=some (.ref C)) (M:W.Exc3 K C R fi) (F:FnOk P w K mg base CX0 k fi fd ps sp) (hr:Room (k+1) (cxOf (CXG P w) P w K mg base N qual scope f cd A outer s H E).A) (hb:Binds K fd ps []) (hkp:W.keepIn K (.ref C)=true)
  (ha:PA (cxOf (CXG P w) P w K mg base N qual scope f cd A outer s H E) (e0::es) t) (hdb:78=false:=by decide)
  (he:starEach (e0::es) (cxOf (CXG P w) P w K mg base N qual scope f cd A outer s H E).env=(false,eval e0 (cxOf (CXG P w) P w K mg base N qual scope f cd A outer s H E).env)::starEach es (cxOf (CXG P w) P w K mg base N qual scope f cd A outer s H E).env:=by rfl)
  (hpl:(backTo cpos (starEach es (cxOf (CXG P w) P w K mg base N qual scope f cd A outer s H E).env)).any (·.1)=false:=by rfl) :
  PS (cxOf (CXG P w) P w K mg base N qual scope f cd A outer s H E) (.Raise (some (.Call (.Name x np) (e0::es) [] cpos)) none pos) (zKL C sp E t):=by
 intro jP s1 σ H1 D I h;rw[arm_exec_Raise];refine lA (wpAny_standAt ?_);unfold raiseStmt;dsimp only;refine lA (lA (wpAny_Call_Name_kw (zCP I hg hm ?_ hdb)));refine W.callWith_K (h₀:=base) I.ok.mod.kin hkp (thn (ha cpos jP s1 σ H1 _ I h) λ us s2 ⟨vs,H2,I2,r,hl,q⟩=>⟨I2.kIn,?_⟩) he hpl;refine thn (zHO (Q:=λ v H3=>∃ea dx,v = .ref ea/\s2.heap.get? ea=none/\H3 ea=some (exW ea C dx)/\E (.ref C) (some dx) (less H3 ea)) M F hr hb I2 r hl λ ea e1 e2=>⟨_,q ea e1,λ v H3 ⟨ev,dx,a,b⟩=>⟨ev,ea,dx,rfl,e2,a,b⟩⟩) λ v s3 ⟨y,H3,I3,rx,ea,dx,ex,hnw,hea,q3⟩=>lA (wpAny_standAt (lB ?_));subst ex;obtain rfl:v=Value.ref ea:=rx;obtain⟨t0,ho⟩:=zII I3.hok hea
 have hnew:s.heap.get? ea=none:=by
  cases z:s.heap.get? ea with
  |none=>rfl
  |some o =>
   obtain⟨o',z'⟩:=(show Un (frs outer) [] H H2 s.heap s2.heap from I2.base).there ea o z 41;rw[hnw] at z';cases z'
 have hE:=zIS I3 hea hnew q3;have hh:=I.ok.hd rfl;obtain⟨hp,g,d,tk,os⟩:=s3;have Lb:∀{Mo:Model},W.Looks Mo hp (isSubtype (.ref C) (.type "BaseException")) true:=λ{Mo}=>W.looks_mroIn (M:=Mo) I3.kIn M.bs;obtain⟨o,ho,hc,hdat⟩:∃o:Obj,hp.get? ea=some o/\o.cls = .ref C/\o.data=W.xdata (.ref t0):=⟨_,ho,rfl,rfl⟩
 repeat (first|(with_reducible refine wpAny_loadPart_at ho ?_;rw[hc])|with_reducible refine Lb.at ?_|wp_step)
 obtain⟨dd0,cd0,sl0,hK,_,_⟩:=M.cls;have hD:=I3.kIn _ _ hK
 repeat (first|exact wpAny_raiseNew_none hh hE|with_reducible refine wpAny_loadPart_at hD ?_|(with_reducible refine wpAny_loadPart_at ho ?_;rw[hc])|with_reducible refine Lb.at ?_|(with_reducible rw[hdat])|wp_step)
end
theorem Fun.okG {P:Program}{w:World}{K:W.Frag}{mg:Str->Option Value}{base:Heap}{x qual:Str}{st:Stmt}{f:Addr}{fd:FuncData}{N ps:List Str}{k:Nat}{sp:Sp}(F:Fun K x qual st f fd) (S:zAX N ps (zAJ st)) (len:∀vs H Q E,sp vs H Q E->vs.length=ps.length)
  (hbody:∀(cdv:Value) (A:Around) (outer:List Env) (s:Shared) (H:Hp) (vs:List V) (Q:VK) (E:XK),Room k (A.deeper (envOfC qual (zAJ st) s.heap.objs.size f cdv))->sp vs H Q E ->
   ∃t,PSs (cxOf (CXG P w) P w K mg base N qual (zAJ st) f cdv A outer s H E) (zAp st) t/\t { nx:=λ Ω H'=>Q .non H',rt:=Q } (start N vs) H):FnOk P w K mg base (CXG P w) (k+1) f fd ps sp:=by
 obtain⟨oc,od,kV,doc,pm,an,cdv,ct,osl,rfl,lk,hcd⟩:=F.ex;exact fn_of lk hcd S len λ A outer s H vs Q E hr hsp=>hbody cdv A outer s H vs Q E hr hsp
structure FnG (P:Program) (w:World) (K:W.Frag) (mg:Str->Option Value) (base:Heap) (k:Nat) (x:Str) (f:Addr) (fd:FuncData) (ps:List Str) (sp:Sp):Prop where
 ok:FnOk P w K mg base (CXG P w) k f fd ps sp
 bd:Binds K fd ps []
 kp:W.keepIn K (.ref f)=true
 gl:mg x=some (.ref f)
abbrev HRG:=Ends->Addr->Option Addr->St->Hp->Prop
section
variable {X:Cx}{jP:List (Addr × Obj)}{σ:St}{H H':Hp}{s s':Shared}{ea C dx:Addr}{dd:Option Addr}{r:HRG}
def PHG (X:Cx) (hs:List ExceptHandler) (r:HRG):Prop:=∀(jP:List 54) (D:Ends) (σ:St) (ea C:Addr) (dd:Option Addr) (H H0:Hp) (s s0:Shared),Inv X jP σ H0 s0->Flew X.prog X.w X.stack H0 s0 H ea C s->DicAt s.heap ea dd->r D C dd σ H ->
 wpAny 48 X.A (handleBy (.ref ea) X.env hs) (SP X jP D) X.xe s
theorem zHd:PHG X [] (λ Ω Ω Ω Ω Ω=>False):=λ Ω Ω Ω Ω Ω Ω Ω Ω Ω Ω Ω Ω Ω h=>False.elim h
theorem Flew.caughtO (F:Flew X.prog X.w X.stack H s H' ea C s') (I:Inv X jP σ H s) {o1:HO}(n1:ObjOk X.prog X.w (upd H' ea o1) s'.heap ea o1):Inv X jP σ (upd H' ea o1) s':=by
 have ne:∀b u,H' b=some u->b≠ea:=λ b u q=>zAR q F.hn;refine I.call' (ch:=[]) F.os ⟨F.un.keep,F.un.slot,λ b o q n hx=>?_,F.un.there,λ b xs q=>?_,λ b o u q=>?_,λ b ps q=>?_⟩ (λ b u q=>?_) F.bare (λ b z=>absurd z 41)
 ·rw[zAO (λ z=>by rw[z,F.new] at q;cases q)]
  exact F.un.free b o q n hx
 ·have:=F.un.tups b xs q
  rw[zAO (ne b _ this)];exact this
 ·have:=F.un.frzs b o u q
  rw[zAO (ne b _ this)];exact this
 ·obtain⟨m,this⟩:=F.un.tbls b ps q
  exact⟨m,by rw[zAO (ne b _ this)];exact this⟩
 ·by_cases hb:b=ea
  ·subst hb
   rw[zAC] at q;cases q;exact n1
  ·rw[zAO hb] at q
   exact(F.hok b u q).stay (λ Ω Ω Ω z=>z) (λ c z=>by rw[zAO (ne c _ z)];exact z) λ c xs z=>by rw[zAO (ne c _ z)];exact z
theorem Flew.caughtC (F:Flew X.prog X.w X.stack H s H' ea C s') (I:Inv X jP σ H s) (hd:DicAt s'.heap ea (some dx)):Inv X jP σ (upd H' ea (exC ea C dx)) s':=by
 obtain⟨B,a0,hfl,cov⟩:=F.fly;obtain⟨oe,vs,e1,e2,e3,_⟩:=hfl.first;obtain⟨o,e4,e5⟩:=hd;rw[e1] at e4;cases e4;exact F.caughtO I (zMD ⟨oe,vs,e1,e2,e3,e5⟩)
end
noncomputable def hAsG (K:W.Frag) (Da:Addr) (i:Nat) (ts:TS) (r:HRG):HRG:=λ D C dd σ H=>W.ExCls K C/\∃b,W.mroIn K C (.ref Da)=some b /\
 if b=true then ∃dx,dd=some dx/\∀ea,H ea=none->ts (D.less i) (σ.set i (some (.ref ea))) (upd H ea (exC ea C dx)) else r D C dd σ H
section
variable {X:Cx}{x n:Str}{np pos:Pos}{i:Nat}{b0:Stmt}{suite:List Stmt}{rest:List ExceptHandler}{ts:TS}{r:HRG}{Da:Addr}
theorem zED (hN:X.N.Nodup) (hi:X.N[i]?=some n) (hl:X.env.kindOf n=some .local) (hg:Gl X x) (hm:X.mg x=some (.ref Da)) (hD:ExC X.K Da) (hs:∀ea,PSs (X.inX ea) (b0::suite) ts) (hr:PHG X rest r) (hdb:78=false:=by decide) :
  PHG X (.ExceptHandler (some (.Name x np)) (some n) (b0::suite) pos::rest) (hAsG X.K Da i ts r):=by
 intro jP D σ ea C dd H H0 s s0 I F hdic h;obtain⟨hC,b,hb,h⟩:=h;obtain⟨B,a0,hfl,cov⟩:=F.fly;obtain⟨oe,vs,e1,e2,e3,_⟩:=hfl.first;have I1:=F.inv I;refine wpAny_handleBy_cons (codeAny_handlers_test (zCP (X:=X.inX ea) (I1.inX ea) hg hm ?_ hdb)) (by intro q;cases q);obtain⟨hp,g,d,tk,os⟩:=s;refine W.ex_matches I1.kIn ⟨oe,vs,e1,e2,e3⟩ hD.ty hD.bs hD.ic hb ?_;cases b with
 |false=>exact hr jP D σ ea C dd H H0 _ s0 I F hdic (by simpa using h)
 |true =>
  obtain⟨dx,rfl,h3⟩:∃dx,dd=some dx/\∀ea,H ea=none->ts (D.less i) (σ.set i (some (.ref ea))) (upd H ea (exC ea C dx)):=by simpa using h
  refine codeAny_handlers_suite_as ?_;refine wpAny_mono (zCn (zCQ _ _) (PyProof.Rows.lands_againW (Q:=λ Ω s'=>∃h',s'=(⟨h',g,d,tk,os⟩:Shared)/\Heap.FlyingW B X.stack ea (.ref C) a0 h'/\hp.UpToSlots h') hfl λ h' a b=>⟨h',rfl,a,b⟩)) (λ _ s' ⟨⟨h',e,hfl',sm⟩,kd⟩=>?_) λ Ω Ω z=>z;subst e;have F2:=F.on I hfl cov hfl' sm;have I2:=F2.caughtC I (hdic.keep kd);refine zDN (X:=X.inX ea) (v:=.ref ea) (I2.inX ea) hN hi (.inl hl) rfl (λ s3 I3=>?_) (.inr hl);refine wpAny_mono (hs ea jP s3 _ _ _ I3 (h3 ea F.hn)) (λ f s4 q=>?_) λ Ω Ω z=>False.elim z;exact SP.goes I.ok hN hi hl q
noncomputable def eTryG (r:HRG) (D:Ends) (σ:St):XK:=λ c dd H=>∃C,c = .ref C/\r D C dd σ H
theorem zLY {hs:List ExceptHandler}{jP pins':List 54}{D:Ends}{σ:St}{H:Hp}{s s':Shared}{e:Value}(ok:X.Ok) (hf:X.env.frame=some X.env.locals) (hst:X.stack=X.env::X.outer) (ph:PHG X hs r) (I:Inv (X.inTry hs jP D) pins' σ H s) (h:CXG X.prog X.w X.stack H s (eTryG r D σ) e s') :
  (X.inTry hs jP D).xe e s':=by
 obtain⟨ea,C,dd,H',rfl,F,hdic,C2,e2,q⟩:=h;cases e2;have I0:=Inv.outTry ok I;obtain⟨B,a0,hfl,cov⟩:=F.fly;have ff:=ok.frames;rw[hst] at ff;have hfl2:=hfl;rw[hst] at hfl2;obtain⟨hp,g,d,tk,os⟩:=s';refine wpAny_mono (zCn (zDK _ _) (wpAny_looks_onW (M:=model X.prog X.w) (A:=X.A) (E:=X.xe) (s:=⟨hp,g,d,tk,os⟩) (Q:=λ Ω s2=>∃h4,s2=(⟨h4,g,d,tk,os⟩:Shared)/\Heap.HeldW B (X.env::X.outer) ea (.ref C) a0 X.env.locals h4/\hp.UpToSlots h4) ff hf hfl2 λ h4 a b=>⟨h4,rfl,a,b⟩)) (λ _ s2 ⟨⟨h4,e4,hh4,sm4⟩,kd4⟩=>?_) λ Ω Ω z=>z;subst e4;refine wpAny_mono (zCn (zCQ _ _) (wpAny_landsW (M:=model X.prog X.w) (A:=X.A) (E:=X.xe) (s:=⟨h4,g,d,tk,os⟩) (Q:=λ Ω s3=>∃h5,s3=(⟨h5,g,d,tk,os⟩:Shared)/\Heap.FlyingW B (X.env::X.outer) ea (.ref C) a0 h5/\h4.UpToSlots h5) hh4 λ h5 a b=>⟨h5,rfl,a,b⟩)) (λ _ s3 ⟨⟨h5,e5,hfl5,sm5⟩,kd5⟩=>?_) λ Ω Ω z=>z;subst e5;rw[←hst] at hfl5;exact ph jP D σ ea C dd H' H _ s I0 (F.on I0 hfl cov hfl5 (sm4.trans sm5)) ((hdic.keep kd4).keep kd5) q
def zKM (sp:Sp) (dvs:List V) (r:HRG) (D:Ends) (t:TA):TE:=λ σ H Q=>t σ H λ vs H1=>sp (vs++dvs) H1 Q (eTryG r D σ)
theorem zFB {hs:List ExceptHandler}{pins0:List 54}{D:Ends}{k:Nat}{f:Addr}{fd:FuncData}{ps:List Str}{sp:Sp}{dvs:List V}{ds:List Value}{p pos:Pos}{e:Expr}{es:List Expr}{t:TA}
  (hf:X.env.frame=some X.env.locals) (hst:X.stack=X.env::X.outer) (ph:PHG X hs r)
  (F:FnOk X.prog X.w X.K X.mg X.base (CXG X.prog X.w) k f fd ps sp) (hr:Room k X.A) (hg:Gl X x) (hm:X.mg x=some (.ref f)) (hk:W.keepIn X.K (.ref f)=true) (hb:Binds X.K fd ps ds) (hd:Vals dvs ds)
  (ha:PA (X.inTry hs pins0 D) (e::es) t) (hdb:78=false:=by decide) (he:starEach (e::es) X.env=(false,eval e X.env)::starEach es X.env:=by rfl) (hpl:(backTo pos (starEach es X.env)).any (·.1)=false:=by rfl) :
  PE (X.inTry hs pins0 D) (.Call (.Name x p) (e::es) [] pos) (zKM sp dvs r D t):=by
 intro jP s σ H Q I h;have ok:X.Ok:=⟨I.ok.mod,I.ok.kind,I.ok.glob,I.ok.blt,I.ok.above,I.ok.inj,I.ok.has,I.ok.cab,I.ok.hd,I.ok.frames,I.ok.stk,I.ok.exf,I.ok.bs,I.ok.bsz,I.ok.noex,I.ok.exfs,I.ok.funs,I.ok.frf⟩;refine wpAny_Call_Name_kw (zCP (X:=X.inTry hs pins0 D) I hg hm ?_ hdb);refine W.callWith_K (h₀:=X.base) I.ok.mod.kin hk (thn (ha pos jP s σ H _ I h) λ us s1 ⟨vs,H1,I1,rv,q⟩=>⟨I1.kIn,?_⟩) he hpl;have r2:Vals (vs++dvs) (us++ds):=rv.append hd;have hl:(us++ds).length=ps.length:=by rw[←r2.length];exact F.len _ _ _ _ q
 refine wpAny_call (codeAny_mono (F.run X.A X.stack s1 H1 ⟨us,[]⟩ (us++ds) (vs++dvs) Q _ hr I1.env0 (hb s1 us I1.kIn hl) r2 q) λ rr s' hq=>?_);cases rr with
 |error e=>exact zLY ok hf hst ph I1 hq
 |ok fl =>
  cases fl with
  |ret u=>exact I1.after hq
  |next=>exact False.elim hq
  |brk=>exact False.elim hq
  |cont=>exact False.elim hq
end
def rIsiG (K:W.Frag):List V->Hp->VK->Prop:=λ xs H Q=>∃(ea C dx:Addr) (c:V) (b:Bool),xs=[.ref ea,c]/\H ea=some (exC ea C dx)/\W.ExCls K C /\
 ((∃cv,(∀u,RelV c u->u=cv)/\W.kitOne K (.ref C) cv=some b)\/(∃p cs its,c = .ref p/\H p=some (.tup cs)/\(∀us,Vals cs us->us=its)/\W.kitAny K (.ref C) its=some b))/\Q (.bl b) H
theorem zAZ {X:Cx}:CallR X (.builtin "isinstance") (rIsiG X.K):=by
 intro jP s σ H xs us Q I r h;obtain⟨ea,C,dx,c,b,rfl,he,hC,hc,q⟩:=h;obtain⟨u,w',rfl,ru,rw'⟩:=vals2 r;cases ru;rcases hc with ⟨cv,hc,e⟩|⟨p,cs,its,rfl,hp,hc,e⟩
 ·have:=hc w' rw'
  subst this;exact W.kia_one (W.kitx_exc hC) I.kIn (zFt I.hok he).exAt e (λ z=>nomatch z) λ tk=>⟨.bl b,H,I.tok tk,rfl,q⟩
 ·cases rw'
  obtain⟨its',r1,p1,_⟩:=I.tuple (SqT.of hp);have:=hc _ r1;subst this;obtain⟨⟨oc,od,odt,osl⟩,ho,hcl,n,hd⟩:=p1;simp only at hcl hd;subst hcl hd;exact W.kia_tup (W.kitx_exc hC) I.kIn (zFt I.hok he).exAt ho e (λ z=>nomatch z) λ tk=>⟨.bl b,H,I.tok tk,rfl,q⟩
section
variable {P:Program}{w:World}{K:W.Frag}{mg:Str->Option Value}{base:Heap}{N:List Str}{qual:Str}{scope:Scope}{f:Addr}{cd:Value}{A:Around}{outer:List Env}{s:Shared}{H:Hp}{E:XK}
theorem zDV:zEO (CXG P w) (cxOf (CXG P w) P w K mg base N qual scope f cd A outer s H E) E:=by
 rintro jP σ H1 s1 e s' I ⟨ea,C,dd,H',rfl,F,hd,q⟩;obtain⟨B,a0,hfl,cov⟩:=F.fly;have key:=zCn (zEJ (cxOf (CXG P w) P w K mg base N qual scope f cd A outer s H E).env (.ref ea)) (wpAny_leaves_onW (M:=model P w) (A:=(cxOf (CXG P w) P w K mg base N qual scope f cd A outer s H E).A) (E:=λ Ω Ω=>False) (Q:=λ Ω s2=>∃h',s2={ s' with heap:=h' }/\CXF P w outer H s (λ c Ω H2=>c = .ref C/\H2=H') (.ref ea) { s' with heap:=h' }) I.ok.frames rfl hfl λ h' x1 x2=>?_)
 ·refine wpAny_mono key (λ _ s2 ⟨⟨h',e,z⟩,kd⟩=>?_) (λ Ω Ω z=>False.elim z)
  subst e;obtain⟨ea',C',H2,e1,F2,e2,e3⟩:=z;cases e1;cases e2;subst e3;exact⟨ea,C,dd,H2,rfl,F2,hd.keep kd,q⟩
 refine⟨h',rfl,?_⟩;obtain⟨u,k,c⟩:=moved F.un F.hok cov (Flew.frd (X:=cxOf (CXG P w) P w K mg base N qual scope f cd A outer s H E) F I hfl) x1.1 x2;obtain⟨u2,c2⟩:=zDr I u c;refine⟨ea,C,H',rfl,⟨F.os.trans I.os,F.bare,u2,k,?_,F.hn,B,a0,x1,c2⟩,rfl,rfl⟩;cases z:s.heap.get? ea with
 |none=>rfl
 |some o =>
  obtain⟨o',z'⟩:=(show Un (frs outer) [] H H1 s.heap s1.heap from I.base).there ea o z 41;rw[F.new] at z';cases z'
end
section
variable {P:Program}{w:World}{K:W.Frag}{mg:Str->Option Value}{base:Heap}
theorem FunD.okF {x qual:Str}{st:Stmt}{f:Addr}{fd:FuncData}{dvs:List Value}{N ps:List Str}{k:Nat}{sp:Sp}(F:FunD K x qual st f fd dvs) (S:zAX N ps (zAJ st)) (len:∀vs H Q E,sp vs H Q E->vs.length=ps.length)
  (hbody:∀(cdv:Value) (A:Around) (outer:List Env) (s:Shared) (H:Hp) (vs:List V) (Q:VK) (E:XK),Room k (A.deeper (envOfC qual (zAJ st) s.heap.objs.size f cdv))->sp vs H Q E ->
   ∃t,PSs (cxOf (CXF P w) P w K mg base N qual (zAJ st) f cdv A outer s H E) (zAp st) t/\t { nx:=λ Ω H'=>Q .non H',rt:=Q } (start N vs) H):FnOk P w K mg base (CXF P w) (k+1) f fd ps sp:=by
 obtain⟨oc,od,kV,doc,pm,an,cdv,ct,osl,dt,o,n,rfl,lk,hcd,_⟩:=F.ex;exact fn_of lk hcd S len λ A outer s H vs Q E hr hsp=>hbody cdv A outer s H vs Q E hr hsp
theorem FunD.okG {x qual:Str}{st:Stmt}{f:Addr}{fd:FuncData}{dvs:List Value}{N ps:List Str}{k:Nat}{sp:Sp}(F:FunD K x qual st f fd dvs) (S:zAX N ps (zAJ st)) (len:∀vs H Q E,sp vs H Q E->vs.length=ps.length)
  (hbody:∀(cdv:Value) (A:Around) (outer:List Env) (s:Shared) (H:Hp) (vs:List V) (Q:VK) (E:XK),Room k (A.deeper (envOfC qual (zAJ st) s.heap.objs.size f cdv))->sp vs H Q E ->
   ∃t,PSs (cxOf (CXG P w) P w K mg base N qual (zAJ st) f cdv A outer s H E) (zAp st) t/\t { nx:=λ Ω H'=>Q .non H',rt:=Q } (start N vs) H):FnOk P w K mg base (CXG P w) (k+1) f fd ps sp:=by
 obtain⟨oc,od,kV,doc,pm,an,cdv,ct,osl,dt,o,n,rfl,lk,hcd,_⟩:=F.ex;exact fn_of lk hcd S len λ A outer s H vs Q E hr hsp=>hbody cdv A outer s H vs Q E hr hsp
end
def MonQ (sp:Sp):Prop:=∀vs H (Q Q':VK) E,(∀v H,Q v H->Q' v H)->sp vs H Q E->sp vs H Q' E
def spTwo (spF spW:Sp) (n:Nat):Sp:=λ vs H Ω E=>∃(x v y:V) (r:List V),vs=x::v::y::r/\r.length=n/\spF [x,y] H (λ Ω H1=>spW [v,y] H1 (λ Ω Ω=>False) E) E
open PySem.Calls
def tFInt (te:TE):TE:=λ σ H Q=>te σ H λ v H1=>∃i:Int,v = .int i/\i.natAbs<1000/\∀out:Str,Q (.str out) H1
theorem zFq {i:Int}(h:i.natAbs<1000):i.natAbs.log2<1920:=by
 by_cases z:i.natAbs=0
 ·rw[z];decide
 ·exact lZ ((Nat.log2_lt z).mpr (lZ h (show 1000<=2 ^ 10 by decide))) 46
theorem zIA {i:Int}(h:i.natAbs<1000):(Str.ofString (toString i)).length<=2000:=mH (int_text_len_1921 (zFq h)) 46
theorem zKe {X:Cx}{e:Expr}{te:TE}{y z:Str}{j j2} {p1 p2 p3 pos:Pos}(he:PE X e te) (hy:y.length<=1000:=by symm) (hz:z.length<=1000:=by symm):PE X (.JoinedStr [.Constant (.str y) j p2,.FormattedValue e (-1) none p1,.Constant (.str z) j2 p3] pos) (tFInt te):=by
 intro jP s σ H Q I h;refine wpAny_JoinedStr ?_;show wpAny _ _ (eval (.Constant (.str y) j p2) X.env) _ _ s;have e0:Str.empty++y=y:=zBJ _;have big:5000<=sizeLine:=by decide
 refine Calls.Constant_str ⟨y,_,rfl,?_,?_⟩
 ·rw[e0];exact mH hy 46
 show wpAny _ _ (eval (.FormattedValue e (-1) none p1) X.env) _ _ _;refine wpAny_FormattedValue_plain (thn (he jP _ σ H _ (I.tok _) h) λ v s1 ⟨u,H1,I1,r1,i,ex,hi,q⟩=>?_);subst ex;obtain⟨t,rfl⟩:=r1;have hl:=zIA hi;refine wpAny_formatField_int (zFq hi) ?_;refine⟨_,_,rfl,?_,?_⟩
 ·rw[e0,strLen_append];omega
 show wpAny _ _ (eval (.Constant (.str z) j2 p3) X.env) _ _ _;refine Calls.Constant_str ⟨z,_,rfl,?_,?_⟩
 ·rw[e0,strLen_append,strLen_append];omega
 refine⟨?_,.str _,H1,(((I1.tok _).tok _).tok _),43,q _⟩;rw[e0,strLen_append,strLen_append];omega
def zJj (K:W.Frag) (ta:TE) (f:Str):TE:=λ σ H Q=>ta σ H λ x H1=>∃(ea C dx:Addr) (fs:List (Str × V)) (i:Int),x = .ref ea/\H1 ea=some (exC ea C dx)/\H1 dx=some (.xd fs)/\W.ExCls K C/\W.DictCls K C/\W.findIn K (.ref C) f=some none/\fs.lookup f=some (.int i)/\Q (.int i) H1
theorem zI2 {X:Cx}{e:Expr}{ta:TE}{f:Str}{pos:Pos}(he:PE X e ta) (hb:attributeBase e f X.env (eval e X.env)=eval e X.env):PE X (.Attribute e f pos) (zJj X.K ta f):=by
 intro jP s σ H Q I h;refine zK0 hb (thn (he jP s σ H _ I h) λ u s1 ⟨x,H1,I1,rx,ea,C,dx,fs,y,ex,hea,hdx,c1,c2,c3,l,q⟩=>?_);subst ex;obtain rfl:u=Value.ref ea:=rx;obtain⟨hp,g,d,tk,os⟩:=s1;obtain⟨mA,hns,hrel⟩:=(show ObjOk X.prog X.w H1 hp dx (.xd fs) from I1.hok dx _ hdx);have hv:=hrel f;rw[l] at hv;cases em:mA f with
 |none=>rw[em] at hv;exact False.elim hv
 |some v =>
  rw[em] at hv;obtain⟨t,rfl⟩:=(show RelV (.int y) v from hv);exact W.ex_own I1.kIn (zFt I1.hok hea) c1 c2 c3 hns em rfl ⟨.int y,H1,I1.tok _,⟨t,rfl⟩,q⟩
theorem zGO {X:Cx}{K:W.Frag}{e:Expr}{ta:TE}{f:Str}{pos:Pos}(he:PE X e ta) (hb:attributeBase e f X.env (eval e X.env)=eval e X.env) (hK:X.K=K:=by rfl):PE X (.Attribute e f pos) (zJj K ta f):=hK▸zI2 he hb
theorem zFA {X:Cx}{e:Expr}:PE X e (λ Ω Ω Ω=>False):=λ Ω Ω Ω Ω Ω Ω h=>h.elim
def MonE (sp:Sp):Prop:=∀vs H (Q Q':VK) (E E':XK),(∀v H,Q v H->Q' v H)->(∀c d H,E c d H->E' c d H)->sp vs H Q E->sp vs H Q' E'
theorem viaH {G:Prop}{R:Hp->Prop}(A:Hp->Prop) (h:(∀H,A H->R H)->G) (r:∀H,A H->R H):G:=h r
theorem viaG {G:Prop}{R:Addr->Hp->Prop}(A:Addr->Hp->Prop) (h:(∀d H,A d H->R d H)->G) (r:∀d H,A d H->R d H):G:=h r
def NAS:Tr->Prop
 |.num _=>True
 |.say a=>NAS a
 |.bin .add a b=>NAS a/\NAS b
 |_=>False
theorem NAS.sub {t:Tr}(h:NAS t):∀p∈t.subs,p.kd ≠ .mul/\p.kd ≠ .gap:=by
 induction t with
 |num n=>intro p hp;rw[show (Tr.num n).subs=[.num n] from rfl,mX] at hp;subst hp;exact⟨(show Kd.num ≠ .mul by decide),(show Kd.num ≠ .gap by decide)⟩
 |say a ih =>
  intro p hp;rcases lN.mp (show p∈Tr.say a::a.subs from hp) with rfl|hp
  ·exact⟨(show Kd.say ≠ .mul by decide),(show Kd.say ≠ .gap by decide)⟩
  ·exact ih h p hp
 |bin o a b iha ihb =>
  cases o with
  |add =>
   intro p hp;rcases lN.mp (show p∈Tr.bin .add a b::(a.subs++b.subs) from hp) with rfl|hp
   ·exact⟨(show Kd.add ≠ .mul by decide),(show Kd.add ≠ .gap by decide)⟩
   ·rcases lJ.mp hp with hp|hp
    ·exact iha h.1 p hp
    ·exact ihb h.2 p hp
  |_=>exact h.elim
 |_=>exact h.elim
theorem zKH (ρ:Kd->List Nat) (n:Int):wrt ρ (.num n)=1:=rfl
theorem zF2 {ρ:Kd->List Nat}(h:ρ .say=[1,1,1,1]) (t:Tr):wrt ρ (.say t)=wrt ρ t+1:=by
 rw[wrt,h];simp[dot]
 lia
theorem zIk {ρ:Kd->List Nat}{r0 r1 r2:Nat}(h:ρ .add=[r0,r1,r2]) (a b:Tr):wrt ρ (.bin .add a b)=r0+r1 * wrt ρ a+r2 * wrt ρ b:=by
 show (ρ .add).getD 0 0+dot ((ρ .add).drop 1) [wrt ρ a,wrt ρ b]=_;rw[h];simp[dot]
 lia
section
variable {X:Cx}{o e:Expr}{es:List Expr}{te to:TE}{t:TA}{name x:Str}{apos cpos pos p:Pos}{T id:String}
theorem zIv (he:Sd (PE X e te)) (hs:swapsWith e none pos.line X.env=pure false:=by rfl):Sd (PS X (.Expr e pos) (tDrop te)):=⟨zAk he.un hs⟩
theorem zEE {r:List V->Hp->VK->Prop}(hc:CallR X (.type T) r) (hg:Gl X x) (hm:X.mg x=none) (hv:bootBuiltins x=some (.type T)) (ha:Sd (PA X (e::es) t)) (hn:x ≠ "__name__" := by decide) (hdb:78=false:=by decide)
  (he:starEach (e::es) X.env=(false,eval e X.env)::starEach es X.env:=by rfl) (hpl:(backTo pos (starEach es X.env)).any (·.1)=false:=by rfl):Sd (PE X (.Call (.Name x p) (e::es) [] pos) (tCB r t)):=⟨zDg hc hg hm hv ha.un hn hdb he hpl⟩
end
instance instDecDt:DecidableEq Dt:=λ a b=>decidable_of_iff (Dt.beq a b=true) Dt.beq_iff
noncomputable def lookB (x:Str):List Str->Option Nat
 |[]=>none
 |y::r=>if y=x then some 0 else (lookB x r).map (· + 1)
noncomputable def keyB (x:Str) (rs:List Str):Nat ⊕ Str:=match lookB x rs with
 |some k=>.inl k
 |none=>.inr x
noncomputable def keyD:Nat ⊕ Str->Dt
 |.inl k=>.tup [.str "bound", .int k]
 |.inr z=>.tup [.str "free", .str z]
noncomputable def bareN (x:Str) (bs:List Str):Dt:=keyD (keyB x bs.reverse)
noncomputable def sn (x y:Str):List (Str × Str)->Bool
 |[]=>decide (x=y)
 |p::r=>if p.1=x\/p.2=y then decide (p.1=x/\p.2=y) else sn x y r
inductive Lf where
 |name (x:Str)|num (n:Int)|gap (g:Str)|ask (x:Str)|stop (x:Str)
noncomputable def dtL:Lf->List Dt
 |.name x=>[.str "name", .str x]|.num n=>[.str "num", .int n]|.gap g=>[.str "gap", .str g,.tup []]|.ask x=>[.str "ask", .str x]|.stop x=>[.str "stop", .str x]
noncomputable def bareL (l:Lf) (bs:List Str):Dt:=match l with
 |.name x=>bareN x bs
 |l=>.tup (dtL l)
noncomputable def Atom.lf:Atom->Lf
 |.name x=>.name x|.num n=>.num n|.gap g=>.gap g
noncomputable def bareA (bs:List Str) (a:Atom):Dt:=bareL a.lf bs
noncomputable def bare:Tr->List Str->Dt
 |.num n,_=>.tup [.str "num", .int n]
 |.name x,bs=>bareN x bs
 |.ask x,_=>.tup [.str "ask", .str x]
 |.stop x,_=>.tup [.str "stop", .str x]
 |.gap g as,bs=>.tup [.str "gap", .str g,.tup (as.map (bareA bs))]
 |.say a,bs=>.tup [.str "say", bare a bs]
 |.bin o a b,bs=>.tup [.str o.s,bare a bs,bare b bs]
 |.ite a b c,bs=>.tup [.str "if", bare a bs,bare b bs,bare c bs]
 |.lett x a b,bs=>.tup [.str "let", bare a bs,bare b (bs++[x])]
theorem zI3 {X:Cx}{e:Expr}(vs:List V) (h:rowL e=some vs):Sd (PE X e (tLst (tRow vs))):=⟨@zFh X e vs h⟩
theorem zAY {X:Cx}{a b:Expr}{ta tb:TE}{pos:Pos}{op:Operator}{r:R2}(ho:OpR X (binaryOp op) r) (ha:Sd (PE X a ta)) (hb:Sd (PE X b tb)):Sd (PE X (.BinOp a op b pos) (tOp r ta tb)):=⟨pe_op ho ha.un hb.un⟩
theorem pa_cS {X:Cx}{es:List Expr}{te:TE}{tA:TA}{c:Const}{k:Nat}{p:Pos}(ha:Sd (PE X (.Constant c k p) te)) (hr:Sd (PA X es tA)):Sd (PA X (.Constant c k p::es) (tCons te tA)):=⟨zAA ha.un hr.un rfl⟩
theorem pa_bS {X:Cx}{es:List Expr}{te:TE}{tA:TA}{a b:Expr}{op:Operator}{p:Pos}(ha:Sd (PE X (.BinOp a op b p) te)) (hr:Sd (PA X es tA)):Sd (PA X (.BinOp a op b p::es) (tCons te tA)):=⟨zAA ha.un hr.un rfl⟩
theorem zGG {X:Cx}{st:List Stmt}{G:TS->Prop}(h:∃t,Sd (PSs X st t)/\G t):∃t,PSs X st t/\G t:=h.elim λ t ht=>⟨t,ht.1.un,ht.2⟩
theorem pa_tS {X:Cx}{es xs:List Expr}{te:TE}{tA:TA}{k:Nat}{p:Pos}(ha:Sd (PE X (.Tuple xs k p) te)) (hr:Sd (PA X es tA)):Sd (PA X (.Tuple xs k p::es) (tCons te tA)):=⟨zAA ha.un hr.un rfl⟩
theorem pa_iS {X:Cx}{es:List Expr}{te:TE}{tA:TA}{a b:Expr}{p:Pos}(ha:Sd (PE X (.Subscript a b p) te)) (hr:Sd (PA X es tA)):Sd (PA X (.Subscript a b p::es) (tCons te tA)):=⟨zAA ha.un hr.un rfl⟩
theorem pa_nS {X:Cx}{es:List Expr}{te:TE}{tA:TA}{x:Str}{p:Pos}(ha:Sd (PE X (.Name x p) te)) (hr:Sd (PA X es tA)):Sd (PA X (.Name x p::es) (tCons te tA)):=⟨zAA ha.un hr.un rfl⟩
theorem pa_kS {X:Cx}{es xs:List Expr}{ks:List Keyword}{te:TE}{tA:TA}{f:Expr}{p:Pos}(ha:Sd (PE X (.Call f xs ks p) te)) (hr:Sd (PA X es tA)):Sd (PA X (.Call f xs ks p::es) (tCons te tA)):=⟨zAA ha.un hr.un rfl⟩
theorem zBh {X:Cx}{CX:CXT}{k:Nat}{f:Addr}{fd:FuncData}{ps:List Str}{sp:Sp}{ds:List Value}{dvs:List V}{E:XK}{x:Str}{p pos:Pos}{e:Expr}{es:List Expr}{t:TA}(F:FnOk X.prog X.w X.K X.mg X.base CX k f fd ps sp) (hr:Room k X.A) (hg:Gl X x) (hm:X.mg x=some (.ref f)) (hk:W.keepIn X.K (.ref f)=true) (hb:Binds X.K fd ps ds) (hd:Vals dvs ds) (hx:zEO CX X E)
  (ha:Sd (PA X (e::es) t)) (hdb:78=false:=by decide) (he:starEach (e::es) X.env=(false,eval e X.env)::starEach es X.env:=by rfl) (hpl:(backTo pos (starEach es X.env)).any (·.1)=false:=by rfl) :
  Sd (PE X (.Call (.Name x p) (e::es) [] pos) (tCall sp dvs E t)):=⟨zBP F hr hg hm hk hb hd hx ha.un hdb he hpl⟩
noncomputable def gA:Tr:=.gap "a" []
noncomputable def gB:Tr:=.gap "b" []
theorem row3 {ρ:Kd->List Nat}(g:GoodF ρ) {k:Kd}(hk:k.many=2):∃c k1 k2 r,ρ k=c::k1::k2::r/\1<=k1/\1<=k2:=by
 have h1:=(g.ln k).1;have h2:=g.ks k;rw[hk] at h1
 match e:ρ k with
 |[]=>rw[e] at h1;simp at h1
 |[_]=>rw[e] at h1;simp at h1
 |[_,_]=>rw[e] at h1;simp at h1
 |c::k1::k2::r =>
  rw[e] at h2;exact⟨c,k1,k2,r,rfl,(h2 k1 41).1,(h2 k2 41).1⟩
theorem zMA {ρ:Kd->List Nat}(g:GoodF ρ):fallP ρ (.bin .mul gA gB) gB []:=by
 obtain⟨c,k1,k2,r,e,h1,h2⟩:=row3 g (k:=.mul) rfl;refine⟨?_,λ x Ω=>?_⟩
 ·show 1<(ρ .mul).getD 0 0+dot ((ρ .mul).drop 1) [1,1]
  rw[e];simp[dot];lia
 ·show isG x gB<=0+dot ((ρ .mul).drop 1) [isG x gA,isG x gB]
  rw[e];have:isG x gB<=k2 * isG x gB:=Nat.le_mul_of_pos_left _ h2;simp[dot];lia
theorem zL9 {ρ:Kd->List Nat}(g:GoodF ρ) (n:Int):fallP ρ (.bin .mul gB gA) (.num n) [("a", "quiet")]:=by
 obtain⟨c,k1,k2,r,e,h1,h2⟩:=row3 g (k:=.mul) rfl;refine⟨?_,λ x Ω=>lY _⟩;show 1<(ρ .mul).getD 0 0+dot ((ρ .mul).drop 1) [1,1];rw[e];simp[dot];lia
theorem zJJ {ρ:Kd->List Nat}:¬fallP ρ (.bin .add gA gB) (.bin .add gB gA) []:=λ h=>Nat.lt_irrefl _ (show (ρ .add).getD 0 0+dot ((ρ .add).drop 1) [1,1]<(ρ .add).getD 0 0+dot ((ρ .add).drop 1) [1,1] from h.1)
theorem zJI {ρ:Kd->List Nat}(g:GoodF ρ):¬fallP ρ (.bin .sub gA gA) (.bin .sub (.bin .sub gA gA) gA) []:=λ h=>by
 obtain⟨c,k1,k2,r,e,h1,h2⟩:=row3 g (k:=.sub) rfl;have h':(ρ .sub).getD 0 0+dot ((ρ .sub).drop 1) [(ρ .sub).getD 0 0+dot ((ρ .sub).drop 1) [1,1],1]<(ρ .sub).getD 0 0+dot ((ρ .sub).drop 1) [1,1]:=h.1;rw[e] at h';have:1<=c+(k1 * 1+(k2 * 1+0)):=by lia
 have:k1 * 1<=k1 * (c+(k1 * 1+(k2 * 1+0))):=Nat.mul_le_mul_left _ this;simp[dot] at h' this
 lia
theorem zDh {α β γ:Type}{R:β->γ->Prop}{f:α->β}{g:α->γ}(h:∀i,R (f i) (g i)) (ts:List α):Paired R (ts.map f) (ts.map g):=by
 induction ts with
 |nil=>exact .nil
 |cons a r ih=>exact .cons (h a) ih
theorem zLa {X:Cx}{op:Value->Value->Sem Value}:OpR X op (λ Ω Ω Ω Ω=>False):=λ Ω Ω Ω Ω Ω Ω Ω Ω Ω Ω Ω Ω h=>h.elim
inductive Pl (H:Hp):V->Prop
 |non:Pl H .non
 |bl (b:Bool):Pl H (.bl b)
 |int (i:Int):Pl H (.int i)
 |str (x:Str):Pl H (.str x)
 |lst {a:Addr}{xs:List V}(e:H a=some (.lst xs)):Pl H (.ref a)
 |tup {a:Addr}{xs:List V}(e:H a=some (.tup xs)):Pl H (.ref a)
 |dK {a:Addr}(e:H a=some (.dK [])):Pl H (.ref a)
theorem Pl.mono {H H':Hp}(g:Same H H') {x:V}(h:Pl H x):Pl H' x:=by
 cases h with
 |non=>exact .non
 |bl b=>exact .bl b
 |int i=>exact .int i
 |str x=>exact .str x
 |lst e=>exact .lst (g _ _ e)
 |tup e=>exact .tup (g _ _ e)
 |dK e=>exact .dK (g _ _ e)
noncomputable def isW:V->Bool
 |.int _=>true
 |_=>false
noncomputable def okB (m:Int):V->Bool
 |.int i=>decide (1<=i) && decide (i<=m)
 |_=>false
noncomputable def okR (m:Nat) (xs:List V):Bool:=decide (xs.length=m+1) && (okB 9 (xs.getD 0 .non) && (xs.drop 1).all (okB 3))
def tF3 (te:TE):TE:=λ σ H Q=>te σ H λ v H1=>∃x:Str,v = .str x/\x.length<=1000/\∀out:Str,Q (.str out) H1
theorem pe_f3 {X:Cx}{e:Expr}{te:TE}{y z:Str}{j j2} {p1 p2 p3 pos:Pos}(he:PE X e te) (hy:y.length<=1000:=by symm) (hz:z.length<=1000:=by symm):PE X (.JoinedStr [.Constant (.str y) j p2,.FormattedValue e (-1) none p1,.Constant (.str z) j2 p3] pos) (tF3 te):=by
 intro jP s σ H Q I h;refine wpAny_JoinedStr ?_;show wpAny _ _ (eval (.Constant (.str y) j p2) X.env) _ _ s;have e0:Str.empty++y=y:=zBJ _;have big:5000<=sizeLine:=by decide
 refine Calls.Constant_str ⟨y,_,rfl,?_,?_⟩
 ·rw[e0];exact mH hy 46
 show wpAny _ _ (eval (.FormattedValue e (-1) none p1) X.env) _ _ _;refine wpAny_FormattedValue_plain (thn (he jP _ σ H _ (I.tok _) h) λ v s1 ⟨u,H1,I1,r1,x,ex,hx,q⟩=>?_);subst ex;obtain⟨t,rfl⟩:=r1
 have fin:∀(t':Tok) (tk:Nat),∃q' u',(Value.str x t':Value) = .str q' u'/\(Str.empty++y++q').length<=sizeLine/\Joins 48 X.A X.xe (evalEach [.Constant (.str z) j2 p3] X.env) (Str.empty++y++q') (λ out s₁=>out.length<=sizeLine/\EP X jP σ Q (.str out s₁.toks) { s₁ with toks:=s₁.toks+1 }) { s1 with toks:=tk }:=λ t' tk=>by
  refine⟨_,t',rfl,by rw[e0,strLen_append];omega,?_⟩;show wpAny _ _ (eval (.Constant (.str z) j2 p3) X.env) _ _ _;refine Calls.Constant_str ⟨z,_,rfl,?_,?_⟩
  ·rw[e0,strLen_append,strLen_append];omega
  refine⟨?_,.str _,H1,((I1.tok _).tok _),43,q _⟩;rw[e0,strLen_append,strLen_append];omega
 exact wpAny_formatField_str (fin _ _) (fin _ _) (by omega)
def RepV (v:V):Prop:=(∃x:Str,v = .str x/\(PySem.reprText x).length<=1000)\/(∃i:Int,v = .int i/\i.natAbs<1000)\/v = .non
def zLC (te:TE):TE:=λ σ H Q=>te σ H λ v H1=>RepV v/\∀out:Str,Q (.str out) H1
theorem zI5 {X:Cx}{e:Expr}{te:TE}{y:Str}{j} {p1 p2 pos:Pos}(he:PE X e te) (hy:y.length<=1000:=by symm):PE X (.JoinedStr [.FormattedValue e 114 none p1,.Constant (.str y) j p2] pos) (zLC te):=by
 intro jP s σ H Q I h;have big:5000<=sizeLine:=by decide
 refine wpAny_JoinedStr ?_;show wpAny _ _ (eval (.FormattedValue e 114 none p1) X.env) _ _ s;refine wpAny_FormattedValue_repr (thn (he jP s σ H _ I h) λ v s1 ⟨u,H1,I1,r1,hv,q⟩=>?_)
 have fin:∀(r:Str),r.length<=2000->∀(t':Tok) (tk:Nat),∃z u',(Value.str r t':Value) = .str z u'/\(Str.empty++z).length<=sizeLine/\Joins 48 X.A X.xe (evalEach [.Constant (.str y) j p2] X.env) (Str.empty++z) (λ out s₁=>out.length<=sizeLine/\EP X jP σ Q (.str out s₁.toks) { s₁ with toks:=s₁.toks+1 }) { s1 with toks:=tk }:=λ r hr t' tk=>by
  have e0:Str.empty++r=r:=zBJ _;refine⟨_,t',rfl,by rw[e0];omega,?_⟩;show wpAny _ _ (eval (.Constant (.str y) j p2) X.env) _ _ _;refine Calls.Constant_str ⟨y,_,rfl,?_,?_⟩
  ·rw[e0,strLen_append];omega
  ·rw[e0]
   exact⟨by rw[strLen_append];omega,.str (r++y),H1,I1.tok _,43,q _⟩
 rcases hv with ⟨x,rfl,hx⟩|⟨i,rfl,hi⟩|rfl
 ·obtain⟨t,rfl⟩:=r1
  exact pyReprObj_str (wpAny_handedOn (fin _ (by omega) _ _) (fin _ (by omega) _ _) (by omega)) (by omega)
 ·obtain⟨t,rfl⟩:=r1
  have hl:=zIA hi;exact pyReprObj_int (zFq hi) (wpAny_handedOn (fin _ hl _ _) (fin _ hl _ _) (by omega))
 ·cases (show _=Value.none from r1)
  exact pyReprObj_none (wpAny_handedOn (fin _ (by symm) _ _) (fin _ (by symm) _ _) (by symm))
open PySem.W
abbrev OD:=Option Dt
def isO (h:Heap):OD->Value->Prop
 |none,u=>u = .none
 |some d,u=>DA h d u/\d.deep<=8
noncomputable def hshO (w:World):OD->Int
 |none=>reduceHash 0xFCA86420
 |some d=>d.hsh w
theorem zKq {h:Heap}{k l:OD}{u:Value}(a:isO h k u) (b:isO h l u):k=l:=by
 cases k with
 |none =>
  cases l with
  |none=>rfl
  |some e=>cases (show u=Value.none from a);cases b.1
 |some d =>
  cases l with
  |none=>cases (show u=Value.none from b);cases a.1
  |some e=>rw[a.1.inj b.1]
theorem isStr {h:Heap}{k l:OD}{x y:Str}{t t':Tok}(a:isO h k (.str x t)) (b:isO h l (.str y t')):k=l↔x=y:=by
 cases k with
 |none=>cases a
 |some d =>
  cases l with
  |none=>cases b
  |some e =>
   obtain⟨a,_⟩:=a;obtain⟨b,_⟩:=b;cases a;cases b;simp
theorem zJQ {h h':Heap}(g:∀b x,h.IsTuple b x->h'.IsTuple b x) {k:OD}{u:Value}(a:isO h k u):isO h' k u:=by
 cases k with
 |none=>exact a
 |some d=>exact⟨a.1.kept g,a.2⟩
theorem zGh {prog:Program}{w:World}{A:Around}{E:XQ}{s:Shared}{Q:Int->Shared->Prop}(h:Q (reduceHash 0xFCA86420) { s with toks:=s.toks+1 }):wpAny 45 A (pyHash .none) Q E s :=
 W.pyHash_slot (T := "NoneType") rfl F.slot_NoneType_hash F.entry_NoneType_hash (F.args_NoneType_hash_1 _) (beq_builtin_none _) (.inl rfl) (lA (lB (lA (wpAny_mkInt (lB ⟨_,_,rfl,h⟩)))))
section
variable {prog:Program}{w:World}{A:Around}{E:XQ}{s:Shared}
theorem eqO {A:Around}{k l:OD}{u v:Value}(hu:A.units+8<cLine) (a:isO s.heap k u) (b:isO s.heap l v):SeqAt.EqAt A s u v (decide (k=l)):=by
 cases k with
 |none =>
  cases (show u=Value.none from a);cases l with
  |none=>cases (show v=Value.none from b);exact SeqAt.EqAt.same _
  |some e =>
   cases b.1 with
   |int i t=>exact SeqAt.EqAt.none_int i t
   |str x t=>exact SeqAt.EqAt.none_str x t
   |tup h r=>exact SeqAt.EqAt.none_tuple h 31
 |some d =>
  cases l with
  |none =>
   cases (show v=Value.none from b);cases a.1 with
   |int i t=>exact SeqAt.EqAt.int_none i t
   |str x t=>exact SeqAt.EqAt.str_none x t
   |tup h r=>exact SeqAt.EqAt.tuple_none h 31
  |some e =>
   have q:=zKx 8 A a.2 a.1 b.1 hu;rw[zKz] at q;rw[show decide ((some d:OD)=some e)=decide (d=e) by simp];exact q
theorem zJt {k:OD}{u:Value}{Q:Bool->Shared->Prop}(a:isO s.heap k u) (h:Q true s):wpAny 45 A (eqIsQuiet 8 u) Q E s:=by
 cases k with
 |none=>cases (show u=Value.none from a);rw[eqIsQuiet_byValue _ rfl];exact lB h
 |some d=>exact zIt (M:=model prog w) 8 a.2 a.1 h
theorem hashO {k:OD}{u:Value}{Q:Int->Shared->Prop}(hu:A.units+8<cLine) (a:isO s.heap k u) (h:∀n,Q (hshO w k) { s with toks:=s.toks+n }):wpAny 45 A (pyHash u) Q E s:=by
 cases k with
 |none=>cases (show u=Value.none from a);exact zGh (h 1)
 |some d=>exact zKu 8 _ _ a.2 a.1 hu (h _)
theorem zLS {k:OD}{u:Value}{stored:List Value}{Q:Bool->Shared->Prop}(a:isO s.heap k u) (hs:∀v∈stored,∃l,isO s.heap l v) (h:Q false s):wpAny 45 A (tableMayTell u stored) Q E s:=by
 unfold tableMayTell;split
 ·exact lB h
 refine lA (zJt a ?_);rw[if_neg 46];refine lA (wpAny_forIn_list _ (λ rest r s'=>(s'=s/\r=(none,()))/\∀v∈rest,∃l,isO s.heap l v) _ ?_ ?_ _ _ ⟨⟨rfl,rfl⟩,hs⟩)
 ·rintro x rest r s' ⟨⟨rfl,rfl⟩,hr⟩
  obtain⟨l,hl⟩:=hr x lP;refine lA (zJt hl ?_);rw[if_neg 46];exact lB ⟨⟨rfl,rfl⟩,λ v hv=>hr v (lQ _ hv)⟩
 ·rintro r s' ⟨⟨rfl,rfl⟩,_⟩
  exact lB h
end
abbrev RwO:=List (OD × Value × Value)
noncomputable def entO (w:World) (x:OD × Value × Value):DictEntry:=⟨hshO w x.1,x.2.1,x.2.2⟩
def FndO (raw:RwO) (k:OD):Option Nat->Prop
 |none=>∀(j:Nat) (p:Value × Value),raw[j]?≠some (k,p)
 |some j=>∃p,raw[j]?=some (k,p)
section
variable {prog:Program}{w:World}{A:Around}{E:XQ}{s:Shared}{d:Addr}{o:Obj}{es:Array DictEntry}{ep:Nat}{raw:RwO}{k:OD}{u:Value}
theorem zEr (he:es.toList=raw.map (entO w)) (j:Nat):es[j]?=(raw[j]?).map (entO w):=by
 rw[←nP,he,mI]
theorem zJ8 {Q:Option Nat->Shared->Prop}(hu:A.units+8<cLine) (hk:isO s.heap k u) (ho:s.heap.get? d=some o) (hd:o.data = .dict es ep) (he:es.toList=raw.map (entO w)) (his:∀x∈raw,isO s.heap x.1 x.2.1)
  (hn:∀(i j:Nat) (p q:Value × Value),raw[i]?=some (k,p)->raw[j]?=some (k,q)->i=j) (h:∀r,FndO raw k r->Q r s):wpAny 45 A (dictFind d u (hshO w k)) Q E s:=by
 have row:∀{i:Nat}{e:DictEntry},es[i]?=some e->∃x,raw[i]?=some x/\e=entO w x/\isO s.heap x.1 x.2.1:=λ{i e} q=>by
  rw[zEr he] at q;obtain⟨x,hx,rfl⟩:=lV.mp q;exact⟨x,hx,rfl,his x (lK hx)⟩
 have plc:∀{j:Nat}{p:Value × Value},raw[j]?=some (k,p)->es[j]?=some (entO w (k,p)):=λ{j p} q=>by rw[zEr he,q];rfl
 obtain⟨pl,hpl⟩:∃pl,pl=placesWithHash es.size (λ i=>es[i]?.map (·.hash)) (hshO w k):=43
 have mem:∀(j:Nat) (p:Value × Value),raw[j]?=some (k,p)->j∈pl:=λ j p q=>by
  have e:=plc q;have lt:j<es.size:=(Array.getElem?_eq_some_iff.mp e).1;rw[hpl];refine List.mem_filter.mpr ⟨List.mem_range.mpr lt,?_⟩;show (es[j]?.map (·.hash) == some (hshO w k))=true;rw[e];exact beq_self_eq_true _
 have nd:pl.Nodup:=by rw[hpl];exact List.nodup_range.filter _
 have sto:∀v∈pl.filterMap (λ i=>es[i]?.map (·.key)),∃l,isO s.heap l v:=λ v hv=>by
  obtain⟨i,_,hi⟩:=List.mem_filterMap.mp hv;obtain⟨e,h1,rfl⟩:=lV.mp hi;obtain⟨x,_,rfl,h3⟩:=row h1;exact⟨x.1,h3⟩
 have go:∀{l:OD}{p:Value × Value}{x:Nat}{rest:List Nat},raw[x]?=some (l,p)->(∀(j:Nat) (p:Value × Value),raw[j]?=some (k,p)->j∈x::rest)->¬l=k->∀(j:Nat) (p:Value × Value),raw[j]?=some (k,p)->j∈rest:=λ{l p x rest} hy hm ne j p q=>(lN.mp (hm j p q)).elim (λ e=>by
  subst e;rw[hy] at q;injection q with q
  injection q with q
  exact absurd q ne) id
 have gone:∀{x:Nat}{rest:List Nat},es[x]?=none->(∀(j:Nat) (p:Value × Value),raw[j]?=some (k,p)->j∈x::rest)->∀(j:Nat) (p:Value × Value),raw[j]?=some (k,p)->j∈rest:=λ{x rest} hx hm j p q=>(lN.mp (hm j p q)).elim (λ e=>by
  subst e;rw[plc q] at hx;cases hx) id
 have plain:wpAny 45 A (dictWalkPlain d u (hshO w k) es pl) Q E s:=by
  refine lA (wpAny_forIn_list _ (λ rest r s'=>(s'=s/\r=(none,()))/\∀(j:Nat) (p:Value × Value),raw[j]?=some (k,p)->j∈rest) _ ?_ ?_ _ _ ⟨⟨rfl,rfl⟩,mem⟩)
  ·rintro x rest r s' ⟨⟨rfl,rfl⟩,hm⟩
   cases hx:es[x]? with
   |none=>exact lB ⟨⟨rfl,rfl⟩,gone hx hm⟩
   |some e =>
    obtain⟨⟨l,p⟩,hy,rfl,hi⟩:=row hx;dsimp only
    by_cases hh:((entO w (l,p)).hash == hshO w k)=true
    ·rw[if_pos hh]
     refine lA (wpAny_dictEpoch ho hd (lA (eqO hu hi hk _ _ _ _ (lA (wpAny_dictEpoch ho hd ?_)))));rw[if_neg 41]
     by_cases c:l=k
     ·subst c
      rw[if_pos 41];exact lA (wpAny_rule (lB (lB (h (some x) ⟨p,hy⟩))))
     ·rw[if_neg (by simpa using c)]
      exact lA (wpAny_rule (lB ⟨⟨rfl,rfl⟩,go hy hm c⟩))
    ·rw[if_neg hh]
     refine lB ⟨⟨rfl,rfl⟩,go hy hm λ c=>hh ?_⟩;subst c;exact beq_self_eq_true _
  ·rintro r s' ⟨⟨rfl,rfl⟩,hm⟩
   exact lB (h none λ j p q=>nomatch hm j p q)
 have heap:¬(es.any λ e=>e.key == u && e.hash != hshO w k)=true:=by
  rw[←Array.any_toList,List.any_eq_true];rintro⟨e,hin,hc⟩;rw[he] at hin;obtain⟨x,hx,rfl⟩:=mC.mp hin;have hi:=his x hx;obtain⟨c1,c2⟩:=Bool.and_eq_true_iff.mp hc;rw[show x.2.1=u from eq_of_beq c1] at hi;have:=zKq hi hk;simp[entO,this] at c2
 have byV:∀x t,u = .str x t->(es.all λ e=>isExactStrKey e.key)=true->wpAny 45 A (foundByValue d u es x) Q E s:=by
  rintro x t rfl hall
  have key:∀{i:Nat}{e:DictEntry},es[i]?=some e->∃(y:Str) (t':Tok) (l:OD) (p:Value × Value),e.key = .str y t'/\raw[i]?=some (l,p)/\isO s.heap l (.str y t'):=λ{i e} q=>by
   have z:=Array.all_eq_true'.mp hall e (Array.mem_of_getElem? q);obtain⟨⟨l,p⟩,hx,rfl,hi⟩:=row q
   obtain⟨y,t',ek⟩:∃y t',p.1=Value.str y t':=by
    revert z;show isExactStrKey p.1=true->_;cases p.1<;>first|exact λ Ω=>⟨_,_,rfl⟩|exact λ z=>nomatch z
   exact⟨y,t',l,p,ek,hx,by rw[←ek];exact hi⟩
  unfold foundByValue;cases hf:es.findIdx? (λ e=>e.key.isStr x) with
  |none =>
   refine lB (h none λ j p q=>?_);have hz:=Array.findIdx?_eq_none_iff.mp hf _ (Array.mem_of_getElem? (plc q));obtain⟨y,t',l,p',ek,hy,hi⟩:=key (plc q);rw[hy] at q;cases q;rw[ek,(isStr hi hk).mp rfl] at hz;simp[Value.isStr] at hz
  |some i =>
   obtain⟨hlt,hi,_⟩:=Array.findIdx?_eq_some_iff_getElem.mp hf;have ei:=Array.getElem?_eq_getElem hlt;obtain⟨y,t',l,p',ek,hy,hl⟩:=key ei
   have exy:y=x:=by
    rw[ek] at hi;exact eq_of_beq hi
   have el:=(isStr hl hk).mpr exy;dsimp only;simp only[ei];rw[ek];refine lA (wpAny_dictEpoch ho hd (lA (eqO hu hl hk _ _ _ _ (lA (wpAny_dictEpoch ho hd ?_)))));rw[if_neg 41,if_pos (by simpa using el)];exact lA (wpAny_rule (lB (h (some i) ⟨p',by rw[←el];exact hy⟩)))
 unfold dictFind
 try with_reducible refine lD ?_
 refine lA (wpAny_dictEntries ho hd ?_)
 extract_lets -underBinder jp
 have hj:wpAny 45 A (jp ()) Q E s:=by
  show wpAny _ _ (jp ()) _ _ _;unfold jp
  extract_lets -underBinder pl' st jp2
  have ep:pl'=pl:=hpl.symm;have est:st=pl'.filterMap (λ i=>es[i]?.map (·.key)):=rfl;refine wpAny_ite_split (λ Ω=>by rw[ep];exact plain) λ Ω=>?_
  have hj2:wpAny 45 A (jp2 ()) Q E s:=by
   unfold jp2
   extract_lets -underBinder jp3
   have hj3:wpAny 45 A (jp3 false) Q E s:=by
    unfold jp3
    extract_lets -underBinder jp4
    have hj4:wpAny 45 A (jp4 ()) Q E s:=by
     unfold jp4
     refine lA (wpAny_mono (wpAny_forIn_list _ (λ rest r s'=>(s'=s/\rest.Nodup)/\∃hit,r=(none,hit)/\((hit=none/\∀(j:Nat) (p:Value × Value),raw[j]?=some (k,p)->j∈rest)\/∃j p,hit=some j/\raw[j]?=some (k,p)/\j∉rest))
      (λ r s'=>s'=s/\((∃i,r=(some (some i),r.2)/\FndO raw k (some i))\/(∃t,r=(none,t)/\FndO raw k t))) ?_ ?_ _ _ ⟨⟨rfl,by rw[ep];exact nd⟩,none,rfl,.inl ⟨rfl,by rw[ep];exact mem⟩⟩) (λ r s' z=>?_) λ Ω Ω z=>z)
     rotate_left 2
     ·obtain⟨r1,r2⟩:=r
      obtain⟨rfl,⟨i,e,f⟩|⟨t,e,f⟩⟩:=z<;>cases e
      ·exact lB (h _ f)
      ·exact lB (h _ f)
     ·rintro x rest r s' ⟨⟨rfl,hnd⟩,hit,rfl,hh⟩
      obtain⟨hxr,hnd'⟩:=rL.mp hnd;cases hx:es[x]? with
      |none =>
       refine lB ⟨⟨rfl,hnd'⟩,hit,rfl,hh.imp (λ z=>⟨z.1,gone hx z.2⟩) λ⟨j,p,a,b,c⟩=>⟨j,p,a,b,λ m=>c (lQ _ m)⟩⟩
      |some e =>
       obtain⟨⟨l,p⟩,hy,rfl,hi⟩:=row hx;have stay:¬l=k->(hit=none/\∀(j:Nat) (p:Value × Value),raw[j]?=some (k,p)->j∈rest)\/∃j p,hit=some j/\raw[j]?=some (k,p)/\j∉rest:=λ c=>hh.imp (λ z=>⟨z.1,go hy z.2 c⟩) λ⟨j,p,a,b,c⟩=>⟨j,p,a,b,λ m=>c (lQ _ m)⟩;dsimp only
       by_cases hq:((entO w (l,p)).hash == hshO w k)=true
       ·rw[if_pos hq]
        refine lA (wpAny_dictEpoch ho hd (lA (eqO hu hi hk _ _ _ _ (lA (wpAny_dictEpoch ho hd ?_)))));rw[if_neg 41]
        by_cases c:l=k
        ·subst c
         rw[if_pos 41];rcases hh with ⟨rfl,_⟩|⟨j,q,_,hj,hn'⟩
         ·rw[if_neg 41]
          refine lA (wpAny_rule ?_);refine wpAny_ite_split (λ Ω=>lB ⟨rfl,.inl ⟨x,rfl,p,hy⟩⟩) λ Ω=>lB ⟨⟨rfl,hnd'⟩,some x,rfl,.inr ⟨x,p,rfl,hy,hxr⟩⟩
         ·exact absurd (hn _ _ _ _ hj hy▸lP) hn'
        ·rw[if_neg (by simpa using c)]
         refine lA (wpAny_rule ?_);rw[if_neg 41];exact lB ⟨⟨rfl,hnd'⟩,hit,rfl,stay c⟩
       ·rw[if_neg hq]
        refine lB ⟨⟨rfl,hnd'⟩,hit,rfl,stay λ c=>hq ?_⟩;subst c;exact beq_self_eq_true _
     ·rintro r s' ⟨⟨rfl,_⟩,hit,rfl,hh⟩
      refine⟨rfl,.inr ⟨hit,rfl,?_⟩⟩;rcases hh with ⟨rfl,hm⟩|⟨j,p,rfl,hj,_⟩
      ·exact λ j p q=>nomatch hm j p q
      ·exact⟨p,hj⟩
    clear_value jp4
    rw[if_neg 41];exact hj4
   clear_value jp3
   refine wpAny_ite_split (λ Ω=>lA (lB hj3)) λ Ω=>lA (zLS hk (by rw[est,ep];exact sto) hj3)
  clear_value jp2
  split
  ·rw[if_neg heap];exact hj2
  ·exact hj2
 clear_value jp
 split
 ·split
  ·exact byV _ _ rfl (by assumption)
  ·exact hj
 ·exact hj
noncomputable def putX {α:Type}(xs:List (OD × α × α)) (k:OD) (y v:α):List (OD × α × α):=if k∈xs.map (·.1) then xs.map (λ x=>if x.1=k then (x.1,x.2.1,v) else x) else xs++[(k,y,v)]
theorem zHV {α:Type}(xs:List (OD × α × α)) (k:OD) (y v:α):(putX xs k y v).map (·.1)=if k∈xs.map (·.1) then xs.map (·.1) else xs.map (·.1)++[k]:=by
 unfold putX;split
 ·rw[nY]
  refine List.map_congr_left λ x Ω=>?_;dsimp only[Function.comp];split<;>rfl
 ·simp
set_option tactic.hygienic true in
theorem zHU {α:Type}{xs:List (OD × α × α)}(h:(xs.map (·.1)).Nodup) (k:OD) (y v:α):((putX xs k y v).map (·.1)).Nodup:=by
 rw[zHV];split
 ·exact h
 ·rename_i n
  exact List.nodup_append.mpr ⟨h,by simp,λ a ha b hb e=>n (by rw[mX] at hb;rw[←hb,←e];exact ha)⟩
theorem zKp {α β:Type}{f:OD × α × α->β}{g:β->β}{v:α}(hg:∀x,g (f x)=f (x.1,x.2.1,v)):∀{xs:List (OD × α × α)}{j:Nat}{k:OD}{p:α × α},(xs.map (·.1)).Nodup->xs[j]?=some (k,p)->(xs.map f).modify j g=(xs.map (λ x=>if x.1=k then (x.1,x.2.1,v) else x)).map f:=by
 intro xs
 induction xs with
 |nil=>intro j k p _ e;simp at e
 |cons x xs ih =>
  intro j k p hn e;rw[mL,rL] at hn;cases j with
  |zero =>
   simp at e;have ek:x.1=k:=by rw[e]
   have same:xs.map (λ x=>if x.1=k then (x.1,x.2.1,v) else x)=xs:=by
    conv=>rhs;rw[←List.map_id xs]
    refine List.map_congr_left λ y hy=>if_neg λ z=>hn.1 ?_;rw[ek,←z];exact mC.mpr ⟨y,hy,rfl⟩
   rw[mL,mL,if_pos ek,mL,same,←hg];rfl
  |succ j =>
   have e':xs[j]?=some (k,p):=by simpa using e
   have ne:¬x.1=k:=λ z=>hn.1 (by
    rw[z];exact mC.mpr ⟨(k,p),lK e',rfl⟩)
   rw[mL,mL,if_neg ne,mL,←ih hn.2 e'];rfl
def DctO (w:World) (h:Heap) (a:Addr) (raw:RwO):Prop:=∃o es ep,h.get? a=some o/\o.ExactDict/\o.data = .dict es ep/\es.toList=raw.map (entO w)/\∀x∈raw,isO h x.1 x.2.1
theorem zKK {h h':Heap}{a:Addr}(ho:h.get? a=some o) (hd:o.data = .dict es ep) (sb:Heap.SameBut a h h') (b:Addr) (x:Array Value):h.IsTuple b x->h'.IsTuple b x:=by
 rintro⟨o',ho',hc,n,hd'⟩
 have hne:b≠a:=by
  rintro rfl;rw[ho'] at ho;cases ho;rw[hd'] at hd;cases hd
 exact⟨o',(sb.2 b hne).trans ho',hc,n,hd'⟩
theorem uniqO (hn:(raw.map (·.1)).Nodup) (i j:Nat) (p q:Value × Value) (hi:raw[i]?=some (k,p)) (hj:raw[j]?=some (k,q)):i=j:=by
 have a:(raw.map (·.1))[i]?=some k:=by rw[mI,hi];rfl
 have b:(raw.map (·.1))[j]?=some k:=by rw[mI,hj];rfl
 exact(List.getElem?_inj (lI.mp a).1 hn).mp (a.trans b.symm)
theorem zLv (h:FndO raw k none):k∉raw.map (·.1):=λ m=>by
 obtain⟨x,hx,rfl⟩:=mC.mp m;obtain⟨j,hj⟩:=List.mem_iff_getElem?.mp hx;exact h j x.2 hj
theorem zGY {Q:Option Value->Shared->Prop}(hu:A.units+8<cLine) (hk:isO s.heap k u) (hm:DctO w s.heap d raw) (hn:∀(i j:Nat) (p q:Value × Value),raw[i]?=some (k,p)->raw[j]?=some (k,q)->i=j) (h:∀n r,FndO raw k r->Q (r.bind λ j=>raw[j]?.map (·.2.2)) { s with toks:=s.toks+n }):wpAny 45 A (dictGet d u) Q E s:=by
 obtain⟨o,es,ep,ho,_,hd,he,his⟩:=hm;unfold dictGet
 try with_reducible refine lD ?_
 refine lA (hashO hu hk λ n=>lA (zJ8 (s:={ s with toks:=s.toks+n }) hu hk ho hd he his hn λ r hr=>?_));cases r with
 |none=>exact lB (h n none hr)
 |some j =>
  refine lA (wpAny_dictEntries (s:={ s with toks:=s.toks+n }) ho hd ?_);have:=h n (some j) hr;rw[zEr he j];rw[show (Option.map (·.val) (Option.map (entO w) raw[j]?))=raw[j]?.map (·.2.2) by rw[Option.map_map];rfl];exact lB this
theorem zJU {v:Value}{p:Value}{j:Nat}{Q:XQ}(hu:A.units+9<cLine) (hk:isO s.heap k u) (hm:DctO w s.heap d raw) (hn:(raw.map (·.1)).Nodup) (hj:raw[j]?=some (k,p,v)) (h:∀n,Q v { s with toks:=s.toks+n }):wpAny 45 A (getItem (.ref d) u) Q E s:=by
 have hT:s.TypeIs (.ref d) "dict" := let ⟨o,_,_,ho,hc,_⟩:=hm;⟨o,ho,hc.1⟩;unfold getItem
 try with_reducible refine lD ?_
 refine lA (wpAny_sequenceKey hT 46 (lA (wpAny_callSpecial?_slot (name:=Str.ofString "__getitem__") hT slot_dict_getitem
  (wpAny_call_entry slot_dict_getitem hT entry_dict_getitem ?_ (args_dict_getitem _ _)))))
 show wpAny _ _ (dictGet d u >>= _) _ _ s;refine lA (zGY (by show A.units+1+8<cLine;lia) hk hm (uniqO hn) λ n r hr=>?_);cases r with
 |none=>exact absurd hj (hr j _)
 |some i =>
  obtain⟨q,hi⟩:=hr;have:=uniqO hn _ _ _ _ hi hj;subst this;rw[show ((some i:Option Nat).bind λ j=>raw[j]?.map (·.2.2))=some v by rw[Option.bind_some,hj];rfl];exact lB ⟨v,rfl,lB (h n)⟩
theorem zLw {Q:XQ}(hu:A.units+9<cLine) (hk:isO s.heap k u) (hs:(d == sysModules)=false) (hm:DctO w s.heap d raw) (hn:k∉raw.map (·.1)) (h:∀n,Q (.bool true) { s with toks:=s.toks+n }):wpAny 45 A (compareOp .NotIn u (.ref d)) Q E s:=by
  have hT:s.TypeIs (.ref d) "dict" := let ⟨o,_,_,ho,hc,_⟩:=hm;⟨o,ho,hc.1⟩;show wpAny _ _ (do return .bool (!(← contains (.ref d) u))) Q E s;refine lA ?_;unfold contains
  try with_reducible refine lD ?_
  refine lA (wpAny_specialOf hT slot_dict_contains.lookup ?_);show wpAny _ _ (if (some (Value.builtin "dict.__contains__") == some Value.none)=true then _ else _) _ E s;rw[if_neg (by rw[beq_builtin_none];exact lX)];refine lA (wpAny_callSpecialUnlessNone?_slot (name:=Str.ofString "__contains__") hT slot_dict_contains (wpAny_call_entry slot_dict_contains hT entry_dict_contains ?_ (args_dict_contains _ _)));show wpAny _ _ (dictGet d u >>= _) _ _ s;refine lA (zGY (by show A.units+1+8<cLine;lia) hk hm (λ i Ω Ω Ω hi=>absurd (mC.mpr ⟨_,lK hi,rfl⟩) hn) λ n r hr=>?_);cases r with
  |some i =>
    obtain⟨q,hi⟩:=hr;exact absurd (mC.mpr ⟨_,lK hi,rfl⟩) hn
  |none =>
    show wpAny _ _ (Builtin.Dict.pendingKey? d u >>= _) _ _ _;exact lA (wpAny_pendingKey_other hs (lB ⟨_,rfl,wpAny_truthy_bool (lB (h n))⟩))
theorem zIq {v:Value}{Q:Unit->Shared->Prop}(hu:A.units+9<cLine) (hk:isO s.heap k u) (hm:DctO w s.heap d raw) (hn:(raw.map (·.1)).Nodup) (hz:raw.length<=sizeLine) (h:∀h' n,(((putX raw k u v).map (·.1)).Nodup)->DctO w h' d (putX raw k u v)->Heap.SameBut d s.heap h'->Q () { s with heap:=h',toks:=s.toks+n }):wpAny 45 A (setItem (.ref d) u v) Q E s:=by
 have hT:s.TypeIs (.ref d) "dict" := let ⟨o,_,_,ho,hc,_⟩:=hm;⟨o,ho,hc.1⟩;obtain⟨o,es,ep,ho,hc,hd,he,his⟩:=hm;have hz':es.size<=sizeLine:=by rw[←Array.length_toList,he,lC];exact hz
 unfold setItem
 try with_reducible refine lD ?_
 refine lA (wpAny_sequenceKey hT 46 (lA (wpAny_callSpecial?_slot (name:=Str.ofString "__setitem__") hT slot_dict_setitem
  (wpAny_call_entry slot_dict_setitem hT entry_dict_setitem ?_ (args_dict_setitem _ _ _)))))
 show wpAny _ _ (Builtin.Dict.notOrdered "__setitem__" ⟨[.ref d,u,v],[]⟩ >>= _) _ _ s;refine lA (wpAny_notOrdered_dict hT ?_);show wpAny _ _ (dictSet d u v >>= _) _ _ s;unfold dictSet;refine lA ?_
 try with_reducible refine lD ?_
 refine lA (hashO (by show A.units+1+8<cLine;lia) hk λ n=>?_);unfold dictSetHashed
 try with_reducible refine lD ?_
 refine lA (zJ8 (s:={ s with toks:=s.toks+n }) (by show A.units+1+8<cLine;lia) hk ho hd he his (uniqO hn) λ r hr=>?_);have kept:∀{h':Heap},Heap.SameBut d s.heap h'->∀{l:OD}{z:Value},isO s.heap l z->isO h' l z:=λ sb=>zJQ (zKK ho hd sb);cases r with
 |none =>
  have nk:=zLv hr;have ep':putX raw k u v=raw++[(k,u,v)]:=if_neg nk;have nd':=zHU hn k u v;rw[ep'] at h nd';refine lA (wpAny_rule (wpAny_updateDictKeys (hz:=hz') (s:={ s with toks:=s.toks+n }) ho hd (lB ⟨.none,rfl,lB (h _ n nd' ⟨_,_,ep+1,mJ _ ho (Obj.isFreed_of_dict (Obj.data_mapDictKeys hd _)),hc.mapDictKeys _,Obj.data_mapDictKeys hd _,by simp[he,entO],λ x hx=>?_⟩ (Heap.SameBut.update ..))⟩)));rcases lJ.mp hx with hx|hx
  ·exact kept (Heap.SameBut.update ..) (his x hx)
  ·rw[mX] at hx
   subst hx;exact kept (Heap.SameBut.update ..) hk
 |some j =>
  obtain⟨p,hj⟩:=hr;have ik:k∈raw.map (·.1):=mC.mpr ⟨_,lK hj,rfl⟩;have nd':=zHU hn k u v;have ep':putX raw k u v=raw.map (λ x=>if x.1=k then (x.1,x.2.1,v) else x):=if_pos ik;rw[ep'] at h nd';refine lA (wpAny_rule (lA (wpAny_updateDict (s:={ s with toks:=s.toks+n }) ho hd (wpAny_point (lB ⟨.none,rfl,lB (h _ n nd' ⟨_,_,ep,mJ _ ho (Obj.isFreed_of_dict (Obj.data_mapDict hd _)),hc.mapDict _,Obj.data_mapDict hd _,?_,λ x hx=>?_⟩ (Heap.SameBut.update ..))⟩)))))
  ·have:=zKp (f:=entO w) (g:=λ e:DictEntry=>{ e with val:=v }) (v:=v) (λ Ω=>rfl) hn hj
   rw[←he] at this;rw[←this];obtain⟨l⟩:=es;simp
  ·obtain⟨y,hy,rfl⟩:=mC.mp hx
   split<;>exact kept (Heap.SameBut.update ..) (his y hy)
end
abbrev XO:=List (OD × V × V)
abbrev KTO:XO->RwO->Prop:=Paired λ p q=>p.1=q.1/\RelV p.2.1 q.2.1/\RelV p.2.2 q.2.2
def KyO (H:Hp):OD->V->Prop
 |none,v=>v = .non
 |some d,v=>DR H d v/\d.deep<=8
def KeysO (H:Hp) (xs:XO):Prop:=∀x∈xs,KyO H x.1 x.2.1
def dOp (w:World) (a:Addr) (xs:XO) (h:Heap):Prop:=(a == sysModules)=false/\∃raw,KTO xs raw/\∃o es ep,h.get? a=some o/\o.ExactDict/\o.data = .dict es ep/\es.toList=raw.map (entO w)/\(raw.map (·.1)).Nodup
noncomputable def dO (w:World) (a:Addr) (xs:XO):HO:=.ext (dOp w a xs)
section
variable {P:Program}{w:World}{H H':Hp}{h:Heap}{a:Addr}{xs:XO}{raw:RwO}{k:OD}{y v:V}
theorem KyO.mono (t:Tk H H') (g:KyO H k v):KyO H' k v:=by
 cases k with
 |none=>exact g
 |some d=>exact⟨g.1.mono t,g.2⟩
theorem KeysO.mono (t:Tk H H') (g:KeysO H xs):KeysO H' xs:=λ x hx=>(g x hx).mono t
theorem KyO.is {u:Value}(ok:HOk P w H h) (g:KyO H k v) (r:RelV v u):isO h k u:=by
 cases k with
 |none=>cases (show v = .non from g);exact r
 |some d=>exact⟨DR.da ok g.1 r,g.2⟩
theorem KTO.at (rel:KTO xs raw) {i:Nat}{p:OD × V × V}(hp:xs[i]?=some p):∃q,raw[i]?=some q/\p.1=q.1/\RelV p.2.1 q.2.1/\RelV p.2.2 q.2.2:=by
 induction rel generalizing i with
 |nil=>simp at hp
 | @cons p' q' ps qs h t ih =>
  cases i with
  |zero=>simp at hp;subst hp;exact⟨q',rfl,h⟩
  |succ i=>exact ih (i:=i) (by simpa using hp)
theorem KTO.keys (rel:KTO xs raw):xs.map (·.1)=raw.map (·.1):=by
 induction rel with
 |nil=>rfl
 |cons h t ih=>rw[mL,mL,h.1,ih]
theorem KTO.is (ok:HOk P w H h) (rel:KTO xs raw) (g:KeysO H xs):∀x∈raw,isO h x.1 x.2.1:=by
 induction rel with
 |nil=>exact λ x hx=>nomatch hx
 | @cons p q ps qs hq t ih =>
  intro x hx;rcases lN.mp hx with e|hx
  ·subst e
   rw[←hq.1];exact(g p lP).is ok hq.2.1
  ·exact ih (λ z hz=>g z (lQ _ hz)) x hx
theorem KTO.over {r:Value}(rel:KTO xs raw) (k:OD) (rv:RelV v r):KTO (xs.map λ x=>if x.1=k then (x.1,x.2.1,v) else x) (raw.map λ x=>if x.1=k then (x.1,x.2.1,r) else x):=by
 induction rel with
 |nil=>exact .nil
 | @cons p q ps qs h t ih =>
  rw[mL,mL];refine .cons ?_ ih;rw[←h.1];split
  ·exact⟨rfl,h.2.1,rv⟩
  ·exact h
theorem KTO.put {u r:Value}(rel:KTO xs raw) (k:OD) (ry:RelV y u) (rv:RelV v r):KTO (putX xs k y v) (putX raw k u r):=by
 unfold putX;rw[rel.keys];split
 ·exact rel.over k rv
 ·exact Paired.snoc rel ⟨rfl,ry,rv⟩
theorem zIR (x:dOp w a xs h):ObjOk P w H h a (dO w a xs):=by
 refine⟨x,?_,λ h1 h2 y k=>?_⟩
 ·obtain⟨_,raw,_,o,_,_,q,_⟩:=x
  exact⟨o,q⟩
 ·obtain⟨hs,raw,rel,o,es,ep,q,r⟩:=y
  exact⟨hs,raw,rel,o,es,ep,k o q,r⟩
def DicO (w:World) (H:Hp) (a:Addr) (xs:XO):Prop:=Rd H a (dO w a xs)/\KeysO H xs
def DicX (w:World) (H:Hp) (a:Addr) (xs:XO):Prop:=(H a=some (dO w a xs)/\KeysO H xs)\/(H a=some (.dK [])/\xs=[])
theorem DicO.raws (ok:HOk P w H h) (g:DicO w H a xs):∃raw,(a == sysModules)=false/\KTO xs raw/\DctO w h a raw/\(raw.map (·.1)).Nodup:=by
 obtain⟨⟨hs,raw,rel,o,es,ep,h1,h2,h3,h4,h5⟩,_⟩:=g.1.ok ok;exact⟨raw,hs,rel,⟨o,es,ep,h1,h2,h3,h4,rel.is ok g.2⟩,h5⟩
theorem DicX.raws (ok:HOk P w H h) (g:DicX w H a xs):Mut (H a)/\KeysO H xs/\∃raw,(a == sysModules)=false/\KTO xs raw/\DctO w h a raw/\(raw.map (·.1)).Nodup:=by
 rcases g with ⟨g,hk⟩|⟨g,rfl⟩
 ·exact⟨by rw[g];exact True.intro,hk,DicO.raws ok ⟨.inl g,hk⟩⟩
 ·obtain⟨_,hs,vs,rel,o,es,ep,h1,h2,h3,_,h4,_⟩:=dk_of ok g
  cases rel
  have e0:es.toList=[]:=by
   generalize es.toList=L at h4;cases h4;rfl
  exact⟨by rw[g];exact True.intro,(λ x hx=>nomatch hx),[],hs,.nil,⟨o,es,ep,h1,h2,h3,by simpa using e0,λ x hx=>nomatch hx⟩,List.nodup_nil⟩
theorem zIu {x:OD × V × V}(h:x∈putX xs k y v):(x.1=k/\x.2.1=y)\/∃z∈xs,x.1=z.1/\x.2.1=z.2.1:=by
 unfold putX at h;split at h
 ·obtain⟨z,hz,rfl⟩:=mC.mp h
  refine .inr ⟨z,hz,?_⟩;split<;>exact⟨rfl,rfl⟩
 ·rcases lJ.mp h with h|h
  ·exact .inr ⟨x,h,rfl,rfl⟩
  ·rw[mX] at h
   subst h;exact .inl ⟨rfl,rfl⟩
end
def sOPut (w:World) (td ty tv:TE):TS:=λ D σ H=>tv σ H λ v H1=>td σ H1 λ x H2=>ty σ H2 λ y H3=>E3 λ(a:Addr) (k:OD) (xs:XO)=>A5 (x = .ref a) (DicX w H3 a xs) (xs.length<1000) (KyO H3 k y)
 (H3 a≠none->Tk H3 (upd H3 a (dO w a (putX xs k y v)))->KeysO (upd H3 a (dO w a (putX xs k y v))) (putX xs k y v)->D.nx σ (upd H3 a (dO w a (putX xs k y v))))
def tOGet (w:World) (td ty:TE):TE:=λ σ H Q=>td σ H λ x H1=>ty σ H1 λ y H2=>E5 λ(a:Addr) (k:OD) (xs:XO) (j:Nat) (p:V × V)=>A5 (x = .ref a) (DicO w H2 a xs) (KyO H2 k y) (xs[j]?=some (k,p)) (Q p.2 H2)
section
variable {X:Cx}{o i e value:Expr}{pos pos':Pos}{td ty tv:TE}
theorem zFd (hu:X.A.units+150<cLine) (ho:PE X o td) (hi:PE X i ty) (hv:PE X value tv) (hs:swapsWith value (some (.Subscript o i pos')) pos.line X.env=pure false) :
  PS X (.Assign [.Subscript o i pos'] value pos) (sOPut X.w td ty tv):=by
 intro jP s σ H D I h;refine wpAny_Assign_Subscript (thn (hv jP s σ H _ I h) λ r s1 ⟨v,H1,I1,rv,q1⟩=>thn (ho jP s1 σ H1 _ I1 q1) λ u s2 ⟨x,H2,I2,rx,q2⟩=>thn (hi jP s2 σ H2 _ I2 q2) λ iv s3 ⟨y,H3,I3,ry,a,k,xs,ex,d,hl,hk,q3⟩=>?_) hs;subst ex;obtain rfl:u=Value.ref a:=rx;obtain⟨mu,ky,raw,hsy,rel,dd,nd⟩:=d.raws I3.hok;have hz:raw.length<=sizeLine:=Nat.le_of_lt (zAf (by rw[←Paired.length rel];lia));have ntup:∀c ys,H3 c=some (.tup ys)->c≠a:=λ c ys r z=>by subst z;rw[r] at mu;exact mu
 have tk:Tk H3 (upd H3 a (dO X.w a (putX xs k y v))):=λ c ys ec=>by rw[zAO (ntup c ys ec)];exact ec
 refine zIq 31 (hk.is I3.hok ry) dd nd hz λ h' n nd' dd' sb=>?_;obtain⟨q,es,ep,hq,h2,h3,h4,_⟩:=dd';refine⟨σ,_,zEs I3 mu sb ⟨q,hq⟩ (zIR ⟨hsy,_,rel.put k ry rv,q,es,ep,hq,h2,h3,h4,nd'⟩),q3 (λ z=>by rw[z] at mu;exact mu) tk λ x hx=>?_⟩;rcases zIu hx with ⟨e1,e2⟩|⟨z,hz,e1,e2⟩
 ·rw[e1,e2];exact hk.mono tk
 ·rw[e1,e2];exact(ky z hz).mono tk
theorem zKd (hu:X.A.units+150<cLine) (ho:PE X o td) (hi:PE X i ty) (hs:NoSl i):PE X (.Subscript o i pos) (tOGet X.w td ty):=by
 intro jP s σ H Q I h;refine zHH PySem.F.slot_dict_getitem.lookup hs (thn (ho jP s σ H _ I h) λ u s1 ⟨x,H1,I1,rx,q1⟩=>thn (hi jP s1 σ H1 _ I1 q1) λ iv s2 ⟨y,H2,I2,ry,a,k,xs,j,p,ex,d,hk,hj,q2⟩=>?_);subst ex;obtain rfl:u=Value.ref a:=rx;obtain⟨raw,hsy,rel,dd,nd⟩:=d.raws I2.hok;obtain⟨⟨k',u',v'⟩,hr,e1,_,rv⟩:=rel.at hj;dsimp only at e1;subst e1;exact⟨let ⟨o,_,_,ho,hc,_⟩:=dd;⟨o,ho,hc.1⟩,zJU 31 (hk.is I2.hok ry) dd nd hr λ n=>⟨p.2,H2,I2.tok _,rv,q2⟩⟩
end
section
variable {X:Cx}
theorem zHi {d:Addr}(hu:X.A.units+150<cLine) (k:KDic X.K X.w.params d):OpR X (compareOp .NotIn) (λ x y H Q=>∃l:OD,KyO H l x/\(∀z,l≠some (.str z))/\y = .ref d/\Q (.bl true) H):=by
 intro jP s σ H x y v u Q I rx ry h;obtain⟨l,hl,hn,rfl,q⟩:=h;cases ry;obtain⟨es,n,hlk,hk⟩:=k.ex
 have key:∀e∈es.toList,∃(x:Str) (t:Tok),e.key = .str x t/\e.hash=hshO X.w (some (.str x)):=λ e he=>by
  obtain⟨x,t,e1,e2⟩:=hk.all e he;exact⟨x,t,e1,e2⟩
 obtain⟨raw,er,hr⟩:∃raw:RwO,es.toList=raw.map (entO X.w)/\∀x∈raw,∃z t,x.1=some (.str z)/\x.2.1=Value.str z t:=by
  clear hlk;generalize es.toList=L at key;clear hk
  induction L with
  |nil=>exact⟨[],rfl,λ x hx=>nomatch hx⟩
  |cons e L ih =>
   obtain⟨raw,er,hr⟩:=ih λ e he=>key e (lQ _ he);obtain⟨x,t,e1,e2⟩:=key e lP;refine⟨(some (.str x),e.key,e.val)::raw,?_,λ y hy=>(lN.mp hy).elim (λ z=>by subst z;exact⟨x,t,rfl,e1⟩) (hr y)⟩;rw[mL,←er];show e::L=⟨_,e.key,e.val⟩::L;rw[←e2]
 refine zLw 31 (hl.is I.hok rx) k.sy ⟨_,es,n,I.kIn _ _ hlk,⟨rfl,rfl,rfl⟩,rfl,er,λ x hx=>?_⟩ (λ m=>?_) λ n=>⟨.bl true,H,I.tok _,rfl,q⟩
 ·obtain⟨z,t,e1,e2⟩:=hr x hx
  rw[e1,e2];exact⟨.str z t,by simp[Dt.deep]⟩
 ·obtain⟨x,hx,e⟩:=mC.mp m
  obtain⟨z,t,e1,_⟩:=hr x hx;exact hn z (by rw[←e,e1])
theorem zKh (hu:X.A.units<cLine):OpR X (compareOp .NotEq) (λ x y H Q=>∃(z:Str) (l:OD),x = .str z/\KyO H l y/\Q (.bl (!decide (l=some (.str z)))) H):=by
 intro jP s σ H x y v u Q I rx ry h;obtain⟨z,l,rfl,hl,q⟩:=h;obtain⟨t,rfl⟩:=rx;cases l with
 |none =>
  cases (show y = .non from hl);cases (show u=Value.none from ry);exact SeqAt.RcNeAt.str_none z t _ _ _ _ ⟨.bl true,H,I,rfl,q⟩
 |some d =>
  obtain⟨hl,_⟩:=hl;cases hl with
  |int i =>
   obtain⟨t2,rfl⟩:=ry;exact SeqAt.RcNeAt.str_int z t i t2 _ _ _ _ ⟨.bl true,H,I,rfl,q⟩
  |str x =>
   obtain⟨t2,rfl⟩:=ry;refine SeqAt.RcNeAt.str_str z t x t2 _ _ _ _ ⟨.bl (!(z == x)),H,I,rfl,?_⟩
   have e:(!decide ((some (Dt.str x):OD)=some (.str z)))=!(z == x):=by
    by_cases c:z=x
    ·subst c;simp
    ·rw[decide_eq_false (λ w=>c (by injection w with w;injection w with w;exact w.symm)),beq_eq_false_iff_ne.mpr c]
   rw[e] at q;exact q
  |tup ha hq =>
   cases ry;obtain⟨_,its,rv,p⟩:=I.hok _ _ ha;exact SeqAt.RcNeAt.str_tuple z t p hu _ _ _ _ ⟨.bl true,H,I,rfl,q⟩
theorem zIa:CallR X (.builtin "isinstance") (λ xs H Q=>E4 λ(a:Addr) (ys:XO) (T:String) (b:Bool)=>A4 (xs=[.ref a,.ty T]) (DicO X.w H a ys) (W.kitOne X.K (.type "dict") (.type T)=some b) (Q (.bl b) H)):=by
 intro jP s σ H xs us Q I r h;obtain⟨a,ys,T,b,rfl,d,hk,q⟩:=h;obtain⟨u,w',rfl,ru,rw'⟩:=vals2 r;cases ru;cases rw';obtain⟨raw,_,_,⟨o,es,ep,h1,h2,_⟩,_⟩:=d.raws I.hok;exact W.kia_one W.kitx_dict I.kIn ⟨o,h1,h2.1⟩ hk (λ z=>nomatch z) λ tk=>⟨.bl b,H,I.tok tk,rfl,q⟩
end
noncomputable def Ito (w:World) (o:Obj) (a:Addr) (xs:XO):It :=
 ⟨λ i H=>H a=some (.frz o (dO w a xs))/\i<xs.length,λ i H x H'=>H'=H/\∃p,xs[i]?=some p/\x=p.2.1,λ i H=>H a=some (.frz o (dO w a xs))/\xs.length<=i⟩
theorem zID {X:Cx}{jP:List 54}{σ:L2.St}{H:Hp}{s:Shared}{a:Addr}{o:Obj}{xs:XO}{es:Array DictEntry}{ep:Nat}(I:Inv X jP σ H s) (ha:H a=some (.frz o (dO X.w a xs))) (hd:o.data = .dict es ep) :
  (a == sysModules)=false/\zEP s.heap a es ep/\es.size=xs.length/\∀(i:Nat) (p:OD × V × V),xs[i]?=some p->∃e:DictEntry,es[i]?=some e/\RelV p.2.1 e.key:=by
 obtain⟨e,⟨hs,raw,rel,o',es',ep',h1,c1,d1,l1,nd⟩,_⟩:=(show ObjOk X.prog X.w H s.heap a (.frz o (dO X.w a xs)) from I.hok a _ ha);rw[e] at h1;cases h1;rw[hd] at d1;cases d1;have hl:=Paired.length rel
 have hz:es.size=raw.length:=by
  have:=congrArg List.length l1;simpa using this
 refine⟨hs,⟨o,e,c1,hd⟩,by lia,λ i p hp=>?_⟩;obtain⟨q,hq,_,r2,_⟩:=rel.at hp;exact⟨_,by rw[zEr l1,hq];rfl,r2⟩
theorem zJi {P:Program}{w:World}{K:W.Frag}{tg:Expr}(a it:Addr) (o:Obj) (xs:XO):Turn P w K tg (Ito w o a xs) [it] it (λ i h=>∃es ep,o.data = .dict es ep/\h.IsKeyIter it a i es.size ep) where
 mem:=by simp
 obj:=λ i h st b hb=>by
  have e:b=it:=by simpa using hb
  subst e;obtain⟨_,_,_,ob,e,c,d⟩:=st;exact⟨ob,e,λ v z=>by rw[d] at z;cases z⟩
 keep:=λ i h h' st k=>by
  obtain⟨es,ep,hd,ob,e,r⟩:=st;exact⟨es,ep,hd,ob,k it 41 ob e,r⟩
 item:=by
  intro X hP hw hK hc i jP s σ H E I hf st hg;subst hP hw hK;obtain⟨ha,hi⟩:=hg;obtain⟨es,ep,hd,hit⟩:=st;obtain⟨hs,hm,hz,hk⟩:=zID I ha hd;obtain⟨ent,hent,hkey⟩:=hk i _ (lW hi);have hi2:i<es.size:=by lia
  obtain⟨f0,f1,f2,f3,f4,f5⟩:=hf it 41;refine zKP hit hm hi2 λ h' hit' sb=>?_;have I1:Inv X jP σ H { s with heap:=h' }:=I.turned (t':=s.toks) (λ b o hb e=>(sb.2 b hb).trans e) f0 f1 f3 f4 f5;obtain⟨ob,e,c,d⟩:=id hit';rw[Array.getElem?_eq_getElem hi2] at hent;cases hent;exact⟨_,rfl,go_of (s:={ s with heap:=h' }) e c d 46 ⟨_,H,I1,hkey,⟨rfl,_,lW hi,rfl⟩,⟨es,ep,hd,hit'⟩,λ b hb=>(hf b hb).1⟩⟩
 done:=by
  intro X hP hw hK hc i jP s σ H E I hf st hg;subst hP hw hK;obtain⟨ha,hi⟩:=hg;obtain⟨es,ep,hd,hit⟩:=st;obtain⟨hs,hm,hz,hk⟩:=zID I ha hd;obtain⟨f0,f1,f2,f3,f4,f5⟩:=hf it 41;exact zLN (I.ok.hd hc) hit hm 31 λ h' eb=>⟨rfl,I.turned (t':=s.toks) (λ b o hb e=>eb b o hb e) f0 f1 f3 f4 f5⟩
 self:=λ A i s Q E st h=>by
  obtain⟨es,ep,hd,hit⟩:=st;refine wpAny_pyIter_slot hit.typeIs F.slot_dict_keyiterator_iter (wpAny_call_entry F.slot_dict_keyiterator_iter hit.typeIs F.entry_dict_keyiterator_iter ?_ (F.args_dict_keyiterator_iter_1 _));show wpAny _ _ (ret (.ref it)) _ _ s;exact lB ⟨_,rfl, "dict_keyiterator", _,hit.typeIs,F.slot_dict_keyiterator_next.lookup,h⟩
def Fz (H H':Hp):Prop:=∀b u,H b=some u->H' b=some u\/∃p o,u=HO.ext p/\H' b=some (.frz o (.ext p))
theorem Same.fz {H H':Hp}(g:Same H H'):Fz H H':=λ b u e=>.inl (g b u e)
theorem Fz.refl (H:Hp):Fz H H:=(Same.refl H).fz
theorem Fz.trans {H H1 H2:Hp}(a:Fz H H1) (b:Fz H1 H2):Fz H H2:=λ c u e=>by
 rcases a c u e with h|⟨p,o,rfl,h⟩
 ·exact b c u h
 ·rcases b c _ h with h|⟨p',o',z,h⟩
  ·exact .inr ⟨p,o,rfl,h⟩
  ·cases z
theorem Fz.keep {H H':Hp}(g:Fz H H') {b:Addr}{u:HO}(n:∀p,u ≠ .ext p) (e:H b=some u):H' b=some u:=by
 rcases g b u e with h|⟨p,o,z,h⟩
 ·exact h
 ·exact absurd z (n p)
theorem Fz.tk {H H':Hp}(g:Fz H H'):Tk H H':=λ b xs e=>g.keep (λ p z=>nomatch z) e
theorem Fz.dO {H H':Hp}(g:Fz H H') {w:World}{a:Addr}{xs:XO}(e:DicO w H a xs):DicO w H' a xs:=by
 refine⟨?_,e.2.mono g.tk⟩;rcases e.1 with h|⟨o,h⟩
 ·rcases g a _ h with h|⟨p,o,z,h⟩
  ·exact .inl h
  ·cases z
   exact .inr ⟨o,h⟩
 ·exact .inr ⟨o,g.keep (λ p z=>nomatch z) h⟩
def zL8 (w:World) (tl:TE):TI:=λ σ H R=>tl σ H λ x H1=>E2 λ(a:Addr) (xs:XO)=>A3 (x = .ref a) (Rd H1 a (dO w a xs)) (∀o H2,Fz H1 H2->H2 a=some (.frz o (dO w a xs))->R (Ito w o a xs) H2)
theorem zI0 {X:Cx}{tg l:Expr}{tl:TE}(hl:PE X l tl):PI X tg l (zL8 X.w tl):=by
 intro jP s σ H R I h;refine thn (hl jP s σ H _ I h) λ v s1 ⟨x,H1,I1,r1,a,xs,e,hrd,q⟩=>?_;subst e;cases r1;obtain⟨⟨hs,raw,rel,o,es,ep,h1,c1,d1,l1,nd⟩,_⟩:=hrd.ok I1.hok;refine zKQ hs ⟨o,h1,c1,d1⟩ ?_;have lt:=lH h1;rcases id hrd with ha|⟨o',ha⟩
 ·have fz:Fz H1 (upd H1 a (.frz o (dO X.w a xs))):=λ b u e=>by
   by_cases z:b=a
   ·subst z
    rw[ha] at e;cases e;exact .inr ⟨_,o,rfl,zAC⟩
   ·exact .inl (by rw[zAO z];exact e)
  refine⟨s1.heap.objs.size,[s1.heap.objs.size],_,_,upd H1 a (.frz o (dO X.w a xs)),rfl,I1.write (t':=s1.toks) (x:=a) (e:=a) (by rw[ha];exact True.intro) (.inl rfl) (λ b o Ω e=>lE _ e) ⟨o,lE _ h1⟩ ?_,zJi a _ o xs,⟨es,ep,d1,_,lG _ rfl,rfl,rfl⟩,λ b hb=>?_,q o _ fz zAC⟩
  ·exact⟨lE _ h1,zIR ⟨hs,raw,rel,o,es,ep,lE _ h1,c1,d1,l1,nd⟩⟩
  ·have e:b=s1.heap.objs.size:=by simpa using hb
   subst e;exact I1.fpOk (lR _) (by rw[zAO (Nat.ne_of_gt lt)];exact I1.hok.fresh (lR _))
 ·have eo:o'=o:=by
   have e1:s1.heap.get? a=some o':=(show ObjOk X.prog X.w H1 s1.heap a (.frz o' (dO X.w a xs)) from I1.hok a _ ha).1;rw[h1] at e1;cases e1;rfl
  subst eo;refine⟨s1.heap.objs.size,[s1.heap.objs.size],_,_,H1,rfl,I1.kept (t':=s1.toks) λ b o e=>lE _ e,zJi a _ o' xs,⟨es,ep,d1,_,lG _ rfl,rfl,rfl⟩,λ b hb=>?_,q o' H1 (Fz.refl H1) ha⟩;have e:b=s1.heap.objs.size:=by simpa using hb
  subst e;exact I1.fpOk (lR _) (I1.hok.fresh (lR _))
theorem zIF {w:World}{o:Obj}{a:Addr}{xs:XO}{g:TG}{tb:TS}{D:Ends}{σ:L2.St}{H:Hp}(Pv:Nat->L2.St->Hp->Prop) (h0:Pv 0 σ H) (hl:∀i σ H,i<=xs.length->Pv i σ H->H a=some (.frz o (dO w a xs)))
  (hs:∀i p σ H,xs[i]?=some p->Pv i σ H->g p.2.1 σ H λ σ2 H2=>tb { D with nx:=Pv (i+1),ct:=Pv (i+1),bk:=D.nx } σ2 H2) (hd:∀σ H,Pv xs.length σ H->D.nx σ H) :
  ∃W:Nat->Nat->L2.St->Hp->Prop,(∃m,W 0 m σ H)/\∀i m σ H,W i m σ H ->
   ((Ito w o a xs).stop i H/\D.nx σ H)\/((Ito w o a xs).go i H/\∃N:L2.St->Hp->Prop,68/\∀x H',(Ito w o a xs).yld i H x H'->g x σ H' λ σ2 H2=>tb { D with nx:=N,ct:=N,bk:=D.nx } σ2 H2):=by
 refine⟨λ i m σ H=>m=xs.length - i/\i<=xs.length/\Pv i σ H,⟨xs.length,by simp,lY _,h0⟩,?_⟩;rintro i m σ H ⟨rfl,hi,p⟩;have q:=hl i σ H hi p
 by_cases hlt:i<xs.length
 ·refine .inr ⟨⟨q,hlt⟩,Pv (i+1),λ σ' H' p'=>⟨xs.length - (i+1),by lia,rfl,hlt,p'⟩,λ x H' y=>?_⟩
  obtain⟨e,p',hp',ex⟩:=y;subst e ex;exact hs i p' σ _ hp' p
 ·have e:i=xs.length:=by lia
  subst e;exact .inl ⟨⟨q,lR _⟩,hd σ H p⟩
theorem zLQ {h:Heap}{a:Addr}{items:Array Value}{x:Str}{t:Tok}(ht:h.IsTuple a items) (e:items.toList=[.str x t]):Reads h (.ref a) (.tuple [.str x]) []:=by
 obtain⟨o,h1,h2,n,h3⟩:=ht;exact .tuple h1 h2 h3 (by rw[e];exact .cons (.str x t) .nil)
def zLB (te:TE):TE:=λ σ H Q=>te σ H λ v H1=>(∃(a:Addr),v = .ref a/\DR H1 (.tup [.str "say"]) v)/\∀out:Str,Q (.str out) H1
theorem zI4 {X:Cx}{e:Expr}{te:TE}{y:Str}{j} {p1 p2 pos:Pos}(hg:X.A.guards=some []) (hu:X.A.units+150<cLine) (he:PE X e te) (hy:y.length<=1000:=by symm):PE X (.JoinedStr [.FormattedValue e 114 none p1,.Constant (.str y) j p2] pos) (zLB te):=by
 intro jP s σ H Q I h;have big:5000<=sizeLine:=by decide
 refine wpAny_JoinedStr ?_;show wpAny _ _ (eval (.FormattedValue e 114 none p1) X.env) _ _ s;refine wpAny_FormattedValue_repr (thn (he jP s σ H _ I h) λ v s1 ⟨u,H1,I1,r1,⟨a,eu,hd⟩,q⟩=>?_);subst eu;cases r1;cases hd with
 |tup ha hq =>
  obtain⟨_,its,rv,p⟩:=I1.hok a _ ha;cases hq with
  |cons h1 h2 =>
   cases h2;cases h1;obtain⟨u1,us,rfl,⟨t,rfl⟩,rs⟩:∃u1 us,its=u1::us/\RelV (.str "say") u1/\Vals [] us:=by cases rv with|cons a b=>exact⟨_,_,rfl,a,b⟩
   cases rs
   have fin:∀(r:Str),r.length<=2000->∀(t':Tok) (s2:Shared),(∃h' tk,s2={ s1 with heap:=h',toks:=tk }/\∀b o,s1.heap.get? b=some o->h'.get? b=some o)->∃z u',(Value.str r t':Value) = .str z u'/\(Str.empty++z).length<=sizeLine/\Joins 48 X.A X.xe (evalEach [.Constant (.str y) j p2] X.env) (Str.empty++z) (λ out s₁=>out.length<=sizeLine/\EP X jP σ Q (.str out s₁.toks) { s₁ with toks:=s₁.toks+1 }) s2:=λ r hr t' s2 ⟨h',tk,es,hk⟩=>by
    subst es;have e0:Str.empty++r=r:=zBJ _;refine⟨_,t',rfl,by rw[e0];lia,?_⟩;show wpAny _ _ (eval (.Constant (.str y) j p2) X.env) _ _ _;refine Calls.Constant_str ⟨y,_,rfl,?_,?_⟩
    ·rw[e0,strLen_append];lia
    ·rw[e0]
     exact⟨by rw[strLen_append];lia,.str (r++y),H1,(I1.kept (t':=tk) hk).tok _,43,q _⟩
   refine pyReprObj_of_reads (zLQ (show s1.heap.IsTuple a _ from p) rfl) (by symm) (λ Ω z=>nomatch z) hg (Nat.lt_of_le_of_lt (Nat.add_le_add_left (show PyData.depth (.tuple [.str "say"])<=150 by symm) _) hu) (λ Ω Ω e=>e) (λ h' u tk hk=>?_) (by symm)
   have hl:(PyData.tuple [.str "say"]).shown.length<=2000:=by symm
   refine wpAny_formatField_str ?_ ?_ (mH hl 46)
   ·exact fin _ hl _ _ ⟨h',_,rfl,hk⟩
   ·exact fin _ hl _ _ ⟨h',_,rfl,hk⟩
theorem zLZ {X:Cx}{op:Value->Value->Sem Value}{r1 r2:R2}(h1:OpR X op r1) (h2:OpR X op r2):OpR X op (λ x y H Q=>r1 x y H Q\/r2 x y H Q):=λ jP s σ H x y v u Q I rx ry h=>h.elim (h1 jP s σ H x y v u Q I rx ry) (h2 jP s σ H x y v u Q I rx ry)
theorem zJG {kd:Kd}{r:List Nat}(g:zBb kd r):okR kd.many (natV r)=true:=by
 obtain⟨c,ks,rfl⟩:∃c ks,r=c::ks:=by
  cases r with
  |nil=>have:=g.ln;simp at this
  |cons c ks=>exact⟨c,ks,rfl⟩
 have h1:1<=c:=g.c1;have h9:c<=9:=g.c9;unfold okR;rw[zBx,decide_eq_true g.ln,Bool.true_and];show ((decide (1<=(c:Int)) && decide ((c:Int)<=9)) && (natV ks).all (okB 3))=true;rw[decide_eq_true 31,decide_eq_true 31,Bool.true_and,Bool.true_and,List.all_eq_true];intro x hx;obtain⟨n,hn,rfl⟩:=mC.mp (show x∈ks.map λ(n:Nat)=>V.int (n:Int) from hx);have:=g.ks n (by simpa using hn);show (decide (1<=(n:Int)) && decide ((n:Int)<=3))=true;rw[decide_eq_true 31,decide_eq_true 31];rfl
theorem zLX {X:Cx}{e:Expr}{t1 t2:TE}(h1:PE X e t1) (h2:PE X e t2):PE X e (λ σ H Q=>t1 σ H Q\/t2 σ H Q):=λ jP s σ H Q I h=>h.elim (h1 jP s σ H Q I) (h2 jP s σ H Q I)
def Plo:HO->Prop
 |.lst _=>True
 |.tup _=>True
 |.dK []=>True
 |_=>False
def PlM (H H':Hp):Prop:=∀b u,Plo u->H b=some u->H' b=some u
theorem PlM.at {H H':Hp}(g:PlM H H') {b:Addr}{u:HO}(e:H b=some u) (z:Plo u):H' b=some u:=g b u z e
theorem Same.plm {H H':Hp}(g:Same H H'):PlM H H':=λ b u Ω e=>g b u e
theorem Fz.sf {H H':Hp}(g:Fz H H'):Sf H H':=λ b u e=>(g b u e).imp id λ⟨p,o,z,h⟩=>by subst z;exact⟨o,trivial,h⟩
theorem Fz.plm {H H':Hp}(g:Fz H H'):PlM H H':=λ b u z e=>g.keep (λ p c=>by rw[c] at z;exact z) e
theorem zKY {H:Hp}{d:Addr}{kvs:List 97}(o:Obj) (e:H d=some 84) (n:kvs≠[]):PlM H (upd H d (.frz o 84)):=λ b u z eb=>by
 by_cases c:b=d
 ·subst c
  rw[e] at eb;cases eb;cases kvs with
  |nil=>exact absurd rfl n
  |cons p ps=>exact z.elim
 ·rw[zAO c];exact eb
theorem Pl.step {H H':Hp}(g:PlM H H') {x:V}(h:Pl H x):Pl H' x:=by
 cases h with
 |non=>exact .non
 |bl b=>exact .bl b
 |int i=>exact .int i
 |str x=>exact .str x
 |lst e=>exact .lst (g _ _ trivial e)
 |tup e=>exact .tup (g _ _ trivial e)
 |dK e=>exact .dK (g _ _ trivial e)
def BadR (H:Hp) (m:Nat) (v:V):Prop:=Pl H v/\∀a xs,v = .ref a->H a=some (.tup xs)->(∀x∈xs,Pl H x)/\okR m xs=false
theorem BadR.step {H H':Hp}(g:PlM H H') {m:Nat}{v:V}(h:BadR H m v):BadR H' m v:=⟨h.1.step g,λ a xs e e'=>by
 subst e;obtain⟨h1,h2⟩:=h;cases h1 with
 |lst e=>rw[g.at e trivial] at e';cases e'
 |dK e=>rw[g.at e trivial] at e';cases e'
 |tup e =>
  have:=g.at e trivial;rw[e'] at this;cases this;exact⟨λ x hx=>((h2 a xs rfl e).1 x hx).step g,(h2 a xs rfl e).2⟩⟩
def GoodX (H:Hp) (y:OD × V × V):Prop:=∃(kd:Kd) (r:List Nat) (b:Addr),zBb kd r/\y.1=some (.str kd.s)/\y.2.2 = .ref b/\H b=some (.tup (natV r))
def OddK:OD->Prop
 |none=>True
 |some (.int i)=>i.natAbs<1000
 |some (.tup ds)=>ds=[.str "say"]
 |_=>False
def BadX (K:W.Frag) (md:Addr) (H:Hp) (y:OD × V × V):Prop :=
 (∃z:Str,y.1=some (.str z)/\W.nsIn K md z=some none/\(PySem.reprText z).length<=1000)\/OddK y.1\/∃kd:Kd,kd.leaf=false/\y.1=some (.str kd.s)/\BadR H kd.many y.2.2
theorem GoodX.step {H H':Hp}(g:Tk H H') {y:OD × V × V}:GoodX H y->GoodX H' y
 |⟨kd,r,b,a,e1,e2,h⟩=>⟨kd,r,b,a,e1,e2,g _ _ h⟩
theorem BadX.step {K:W.Frag}{md:Addr}{H H':Hp}(g:PlM H H') {y:OD × V × V}(h:BadX K md H y):BadX K md H' y :=
 h.imp id λ h=>h.imp id λ⟨kd,a,e,b⟩=>⟨kd,a,e,b.step g⟩
def Spo (K:W.Frag) (w:World) (md:Addr) (H:Hp) (sv:V):Prop :=
 (Pl H sv/\∀a kvs,sv = .ref a->H a≠some 84)\/E4 λ(d:Addr) (xs:XO) (n:Nat) (x:OD × V × V)=>A6 (sv = .ref d) (DicO w H d xs) (xs.length<=100) (xs[n]?=some x) (BadX K md H x) (∀y∈xs.take n,GoodX H y)
theorem Spo.step {K:W.Frag}{w:World}{md:Addr}{H H':Hp}(g:Fz H H') {sv:V}(h:Spo K w md H sv):Spo K w md H' sv:=by
 rcases h with ⟨h,n⟩|⟨d,xs,n,x,e,hd,hl,hx,hb,hg⟩
 ·refine .inl ⟨h.step g.plm,λ a kvs e e'=>?_⟩
  subst e;cases h with
  |lst e=>rw[g.plm.at e trivial] at e';cases e'
  |tup e=>rw[g.plm.at e trivial] at e';cases e'
  |dK e=>exact n a _ rfl e
 ·exact .inr ⟨d,xs,n,x,e,g.dO hd,hl,hx,hb.step g.plm,λ y hy=>(hg y hy).step g.tk⟩
theorem zH0 {H:Hp}{x:Str}{v:V}(h:KyO H (some (.str x)) v):v = .str x:=by
 obtain⟨h,_⟩:=h;cases h;rfl
theorem zCl {H:Hp}{m:Nat}{p:Addr}{xs:List V}(e:H p=some (.tup xs)) (hp:∀x∈xs,Pl H x) (ho:okR m xs=false):BadR H m (.ref p):=⟨.tup e,λ a ys ea ey=>by
 cases ea;rw[e] at ey;cases ey;exact⟨hp,ho⟩⟩
theorem zFy {m:Nat}{xs:List V}(h:xs.length≠m+1):okR m xs=false:=by unfold okR;rw[decide_eq_false h];rfl
theorem zGc {m i:Nat}{xs:List V}(h:i<xs.length) {x:V}(h0:i=0->okB 9 x=false) (h1:i≠0->okB 3 x=false):okR m (xs.take i++[x]++xs.drop (i+1))=false:=by
 unfold okR
 by_cases z:i=0
 ·subst z
  rw[show xs.take 0++[x]++xs.drop (0+1)=x::xs.drop 1 by simp];rw[show (x::xs.drop 1).getD 0 .non=x from rfl,h0 rfl,Bool.false_and,Bool.and_false]
 ·have:((xs.take i++[x]++xs.drop (i+1)).drop 1).all (okB 3)=false:=by
   rw[List.all_eq_false];refine⟨x,?_,by rw[h1 z];decide⟩;rw[nE,List.drop_append_of_le_length (by rw[mQ];lia)];simp
  rw[this,Bool.and_false,Bool.and_false]
theorem zEc (H:Hp) {r:List Nat}:∀x∈natV r,Pl H x:=λ x hx=>by
 obtain⟨n,_,rfl⟩:=mC.mp (show x∈r.map λ(n:Nat)=>V.int (n:Int) from hx);exact .int _
theorem pl_at {H:Hp}{r:List Nat}{i:Nat}{x:V}(hx:Pl H x):∀y∈(natV r).take i++[x]++(natV r).drop (i+1),Pl H y:=λ y hy=>by
 rcases lJ.mp hy with h|h
 ·rcases lJ.mp h with h|h
  ·exact zEc H y (List.mem_of_mem_take h)
  ·rw[mX.mp h];exact hx
 ·exact zEc H y (List.mem_of_mem_drop h)
theorem cutUp (xs:List V) (i:Nat) (h:i<=xs.length):cutV xs none (some (i:Int))=xs.take i:=by
 have e:HT.sIx xs.length 0 none=0:=rfl;unfold cutV;rw[e,HT.sIx_nat,Nat.min_eq_left h];simp
theorem zKy (xs:List V) (i:Nat) (h:i<=xs.length):cutV xs (some (i:Int)) none=xs.drop i:=by
 unfold cutV;rw[HT.sIx_nat,HT.sIx_none,Nat.min_eq_left h];exact nB 41
theorem viaS {G:Prop}{E:L2.St->Hp->Prop}(A:L2.St->Hp->Prop) (h:(∀σ H2,A σ H2->E σ H2)->G) (r:∀σ H2,A σ H2->E σ H2):G:=h r
noncomputable def noSg:List Str:=["num", "name", "ask", "stop", "gap", "Say", "", "lets"]
def NoSg (K:W.Frag) (md:Addr):Prop:=∀z∈noSg,W.nsIn K md z=some none
theorem sg_at (z:Int):∃kd:Kd,kd.leaf=false/\1<=kd.many/\kd.many<=3/\atI sgsV (z % 7)=some (.str kd.s)/\atI [V.int 2,.int 3,.int 3,.int 3,.int 3,.int 4,.int 3] (z % 7)=some (.int (((kd.many+1:Nat):Int))):=by
 rcases (show z % 7=0\/z % 7=1\/z % 7=2\/z % 7=3\/z % 7=4\/z % 7=5\/z % 7=6 by lia) with e|e|e|e|e|e|e<;>rw[e]
 ·exact⟨.say,rfl,by decide,by decide,rfl,rfl⟩
 ·exact⟨.add,rfl,by decide,by decide,rfl,rfl⟩
 ·exact⟨.sub,rfl,by decide,by decide,rfl,rfl⟩
 ·exact⟨.mul,rfl,by decide,by decide,rfl,rfl⟩
 ·exact⟨.thn,rfl,by decide,by decide,rfl,rfl⟩
 ·exact⟨.ite,rfl,by decide,by decide,rfl,rfl⟩
 ·exact⟨.lett,rfl,by decide,by decide,rfl,rfl⟩
theorem zLu {K:W.Frag}{md:Addr}(hW:NoSg K md) {H:Hp}{p:Addr}(hp:H p=some (.tup [.str "say"])) (z:Int):∃(k:OD) (v:V),atI [V.str "num", .str "name", .str "ask", .str "stop", .str "gap", .str "Say", .str "", .str "lets", .int 3,.non,.ref p] (z % 11)=some v/\KyO H k v/\((∃z:Str,k=some (.str z)/\W.nsIn K md z=some none/\(PySem.reprText z).length<=1000)\/OddK k):=by
 have word:∀(i:Nat) (x:Str),noSg[i]?=some x->(PySem.reprText x).length<=1000->∃(k:OD) (v:V),V.str x=v/\KyO H k v/\((∃z:Str,k=some (.str z)/\W.nsIn K md z=some none/\(PySem.reprText z).length<=1000)\/OddK k):=λ i x h hl =>
  ⟨some (.str x),_,rfl,⟨.str x,by simp[Dt.deep]⟩,.inl ⟨x,rfl,hW x (lK h),hl⟩⟩
 rcases (show z % 11=0\/z % 11=1\/z % 11=2\/z % 11=3\/z % 11=4\/z % 11=5\/z % 11=6\/z % 11=7\/z % 11=8\/z % 11=9\/z % 11=10 by lia) with e|e|e|e|e|e|e|e|e|e|e<;>rw[e]
 ·obtain⟨k,v,rfl,h⟩:=word 0 _ rfl (by symm);exact⟨k,_,rfl,h⟩
 ·obtain⟨k,v,rfl,h⟩:=word 1 _ rfl (by symm);exact⟨k,_,rfl,h⟩
 ·obtain⟨k,v,rfl,h⟩:=word 2 _ rfl (by symm);exact⟨k,_,rfl,h⟩
 ·obtain⟨k,v,rfl,h⟩:=word 3 _ rfl (by symm);exact⟨k,_,rfl,h⟩
 ·obtain⟨k,v,rfl,h⟩:=word 4 _ rfl (by symm);exact⟨k,_,rfl,h⟩
 ·obtain⟨k,v,rfl,h⟩:=word 5 _ rfl (by symm);exact⟨k,_,rfl,h⟩
 ·obtain⟨k,v,rfl,h⟩:=word 6 _ rfl (by symm);exact⟨k,_,rfl,h⟩
 ·obtain⟨k,v,rfl,h⟩:=word 7 _ rfl (by symm);exact⟨k,_,rfl,h⟩
 ·exact⟨some (.int 3),_,rfl,⟨.int 3,by simp[Dt.deep]⟩,.inr (by show (3:Int).natAbs<1000;decide)⟩
 ·exact⟨none,_,rfl,rfl,.inr trivial⟩
 ·exact⟨some (.tup [.str "say"]),_,rfl,⟨.tup hp (.cons (.str _) .nil),by simp[Dt.deep,Dt.deeps]⟩,.inr rfl⟩
theorem zEY {xs:XO}{k:OD}{y v:V}(h:k∉xs.map (·.1)):putX xs k y v=xs++[(k,y,v)]:=if_neg h
set_option tactic.hygienic true in
theorem zHT {xs:XO}{k:OD}{y v:V}(h:(k,y,v)∈xs) (hs:∀z∈xs,z.1=k->z=(k,y,v)):putX xs k y v=xs:=by
 unfold putX;rw[if_pos (List.mem_map.mpr ⟨_,h,rfl⟩)]
 conv=>rhs;rw[←List.map_id xs]
 refine List.map_congr_left λ z hz=>?_;split
 ·rename_i e
  rw[hs z hz e];rfl
 ·rfl
theorem zHM {H H':Hp}{a:Addr}{o:HO}(h:H a=none) (g:Sf H H'):Sf H (upd H' a o):=λ b u e=>by
 have n:b≠a:=λ z=>by rw[z,h] at e;cases e
 rw[zAO n];exact g b u e
theorem zFf {H H':Hp}{a:Addr}{o:HO}(h:H a=none) (g:PlM H H'):PlM H (upd H' a o):=λ b u z e=>by
 have n:b≠a:=λ z=>by rw[z,h] at e;cases e
 rw[zAO n];exact g b u z e
theorem zHP {H:Hp}{rs:Scl}{kvs:List 97}(h:Paired (RowAt H) rs kvs):∀p∈kvs,∃q,RowAt H q p:=by
 induction h with
 |nil=>exact λ p hp=>nomatch hp
 |cons h t ih=>exact λ p hp=>(lN.mp hp).elim (λ e=>⟨_,e▸h⟩) (ih p)
noncomputable def ofK (p:Key × V):OD × V × V:=(some (match p.1 with|.inl i=>.int i|.inr x=>.str x),kV p.1,p.2)
theorem zKn {p q:Key × V}(h:(ofK p).1=(ofK q).1):p.1=q.1:=by
 obtain⟨p1,p2⟩:=p;obtain⟨q1,q2⟩:=q;cases p1<;>cases q1<;>simp[ofK] at h ⊢<;>exact h
theorem zKm {kvs:List 97}(nd:(kvs.map (·.1)).Nodup) {i:Nat}{p:Key × V}(hp:kvs[i]?=some p):(ofK p).1∉((kvs.take i).map ofK).map (·.1):=λ m=>by
 rw[nY] at m;obtain⟨q,hq,e⟩:=mC.mp m;obtain⟨j,hj⟩:=List.mem_iff_getElem?.mp hq
 have hji:j<i:=by
  have:=(lI.mp hj).1;rw[mQ] at this
  lia
 rw[List.getElem?_take,if_pos hji] at hj;have a:(kvs.map (·.1))[i]?=some p.1:=by rw[mI,hp];rfl
 have b:(kvs.map (·.1))[j]?=some p.1:=by rw[mI,hj,←zKn e];rfl
 have:=(List.getElem?_inj (lI.mp a).1 nd).mp (a.trans b.symm)
 lia
theorem lenX {k:OD}{v1 v2:V}{L0:XO}(h:L0=[]\/L0=[(k,v1,v2)]) {kvs:List 97}(hl:kvs.length<=8) {i:Nat}{f:OD × V × V->Bool}:(L0++((kvs.take i).map ofK).filter f).length<1000:=by
 have a:=List.length_filter_le f ((kvs.take i).map ofK);rw[lC,mQ] at a;rw[mK];have b:L0.length<=1:=by rcases h with rfl|rfl<;>simp
 lia
section
variable {X:Cx}
theorem zHY {α β:Type}{R:α->β->Prop}:∀{xs:List α}{ys:List β},Paired R xs ys->xs.length=ys.length
 |_,_,.nil=>rfl
 |_,_,.cons _ t=>by simp[zHY t]
theorem zHZ {α β:Type}{R:α->β->Prop}{xs:List α}{ys:List β}(h:Paired R xs ys):∀(j:Nat) (g1:j<xs.length) (g2:j<ys.length),R xs[j] ys[j]:=by
 induction h with
 |nil=>exact λ U g=>absurd g (Nat.not_lt_zero _)
 |cons h _ ih=>exact λ j=>match j with|0=>λ U U=>h|j+1=>λ g1 g2=>ih j (by simpa using g1) (by simpa using g2)
end
section
variable {X:Cx}
def SmV (H:Hp) (u v:V):Prop:=(u=v/\flatV u=true/\eqV u u=true)\/(∃c,u = .ref c/\v = .ref c)\/∃c d,u = .ref c/\v = .ref d/\H c=some (.lst [])/\H d=some (.lst [])
def rNeS (K:W.Frag):R2:=λ x y H Q=>E4 λ(a b:Addr) (xs ys:List V)=>A6 (x = .ref a) (y = .ref b) (SqT K H a xs) (SqT K H b ys) (Paired (SmV H) xs ys) (Q (.bl false) H)
theorem zCy (hu:X.A.units+1<cLine):OpR X (compareOp .NotEq) (rNeS X.K):=by
 intro jP s σ H x y v u Q I rx ry h;obtain⟨a,b,xs,ys,rfl,rfl,ha,hb,hp,q⟩:=h;cases rx;cases ry;obtain⟨its,rv,p,_⟩:=I.tuple ha;obtain⟨its2,rv2,p2,_⟩:=I.tuple hb;have l1:=rv.length;have l2:=rv2.length;have l3:=zHY hp;refine SeqAt.RcNeAt.tuples (e:=λ Ω=>true) (show s.heap.IsTuple _ its.toArray from p) (show s.heap.IsTuple _ its2.toArray from p2) 31 (λ j h1 h2=>?_) _ _ _ _ ?_
 ·have g1:j<xs.length:=by rw[l1];simpa using h1
  have g2:j<ys.length:=by lia
  obtain⟨u1,eu,r1⟩:=rv.get (lW g1);obtain⟨u2,ev,r2⟩:=rv2.get (lW g2);have e1:its.toArray[j]=u1:=by obtain⟨_,q⟩:=lI.mp eu;simpa using q
  have e2:its2.toArray[j]=u2:=by obtain⟨_,q⟩:=lI.mp ev;simpa using q
  rw[e1,e2];rcases zHZ hp j g1 g2 with ⟨e,f,ee⟩|⟨c,ec,ed⟩|⟨c,d,ec,ed,hc,hd⟩
  ·rw[←e] at r2
   have:=zKD (A:=X.A.in1) (s:=s) r1 r2 f f;rw[ee] at this;exact this
  ·rw[ec] at r1
   rw[ed] at r2;cases r1;cases r2;exact SeqAt.EqAt.same _
  ·rw[ec] at r1
   rw[ed] at r2;cases r1;cases r2
   by_cases hcd:c=d
   ·subst hcd
    exact SeqAt.EqAt.same _
   obtain⟨_,i1,n1,v1,m1,f1⟩:=I.lstM hc;obtain⟨_,i2,n2,v2,m2,f2⟩:=I.lstM hd;cases v1;cases v2;refine SeqAt.EqAt.of_refs hcd ?_;exact SeqAt.RcAt.lists (A:=X.A.in1) (s:=s) (e:=λ Ω=>true) (show s.heap.IsList c (List.toArray []) from⟨_,f1,rfl,_,rfl⟩) (show s.heap.IsList d (List.toArray []) from⟨_,f2,rfl,_,rfl⟩) rfl (by rw[show X.A.in1.units=X.A.units+1 from rfl];lia) λ j h1 Ω=>absurd h1 41
 ·have ez:((List.range (min its.toArray.size its2.toArray.size)).all (λ Ω=>true) && its.toArray.size == its2.toArray.size)=true:=by simp;lia
  first|(rw[ez];exact⟨.bl false,H,I,rfl,q⟩)|exact⟨.bl false,H,I,by simp;lia,q⟩
end
theorem FnOk.ex {P:Program}{w:World}{K:W.Frag}{mg:Str->Option Value}{base:Heap}{CX:CXT}{k:Nat}{f:Addr}{fd:FuncData}{ps:List Str}{α:Type}{sp:α->Sp}(F:∀n,FnOk P w K mg base CX k f fd ps (sp n)):FnOk P w K mg base CX k f fd ps (λ vs H Q E=>∃n,sp n vs H Q E) :=
 ⟨λ vs H Q E ⟨n,h⟩=>(F n).len vs H Q E h,λ A outer s H args us vs Q E hr e b v ⟨n,h⟩=>(F n).run A outer s H args us vs Q E hr e b v h⟩
def spNo:Sp:=λ Ω Ω Ω Ω=>False
theorem no_ok {P:Program}{w:World}{K:W.Frag}{mg:Str->Option Value}{base:Heap}{CX:CXT}{k:Nat}{f:Addr}{fd:FuncData}{ps:List Str}:FnOk P w K mg base CX k f fd ps spNo:=⟨λ Ω Ω Ω Ω h=>h.elim,λ Ω Ω Ω Ω Ω Ω Ω Ω Ω Ω Ω Ω Ω h=>h.elim⟩
theorem me_no:MonE spNo:=λ Ω Ω Ω Ω Ω Ω Ω Ω h=>h
theorem Sf.seq {K:W.Frag}{H H':Hp}(g:Sf H H') {a:Addr}{xs:List V}(h:SqL K H a xs):SqL K H' a xs:=by
 rcases h with (h|⟨o,h⟩)|h
 ·exact .inl (.inl (g.lst h))
 ·exact .inl (.inr ⟨o,g.keep id h⟩)
 ·exact .inr h
theorem zJr {K:W.Frag}{H H':Hp}{d:Addr}{kvs:List 97}(hd:H d=some 84) (g:∀b,b≠d->H' b=H b) {a:Addr}{xs:List V}(h:SqL K H a xs):SqL K H' a xs:=by
 rcases h with (h|⟨o,h⟩)|h
 ·exact .inl (.inl (by rw[g a λ z=>by subst z;rw[hd] at h;cases h];exact h))
 ·exact .inl (.inr ⟨o,by rw[g a λ z=>by subst z;rw[hd] at h;cases h];exact h⟩)
 ·exact .inr h
def RwsK (H:Hp) (kvs:List 97):Prop:=(∀p∈kvs,∃q,RowAt H q p)/\(kvs.map (·.1)).Nodup
theorem RwsK.drop {H:Hp}{kvs:List 97}(h:RwsK H kvs) (k:Key):RwsK H (dropK kvs k)/\valV (dropK kvs k) k=none:=by
 refine⟨⟨λ p hp=>h.1 p (List.mem_filter.mp hp).1,h.2.sublist (List.filter_sublist.map _)⟩,?_⟩;cases e:valV (dropK kvs k) k with
 |none=>rfl
 |some v =>
  obtain⟨p,hp,z⟩:=mC.mp (zKJ e);have:=lT (List.mem_filter.mp hp).2;exact absurd z this
set_option tactic.hygienic true in
theorem RwsK.put {H:Hp}{kvs:List 97}(h:RwsK H kvs) {k:Kd}{r:List Nat}{b:Addr}(g:zBb k r) (hb:H b=some (.tup (natV r))):RwsK H (putK kvs (Sum.inr k.s) (.ref b)):=by
 have row:RowAt H (k,r) ((Sum.inr k.s:Key),V.ref b):=⟨g,rfl,b,rfl,hb⟩;unfold putK
 by_cases c:(kvs.any λ kv=>decide (kv.1=(Sum.inr k.s:Key)))=true
 ·rw[if_pos c]
  refine⟨λ p hp=>?_,?_⟩
  ·obtain⟨q,hq,rfl⟩:=mC.mp hp
   split
   ·rename_i e
    rw[e];exact⟨_,row⟩
   ·exact h.1 q hq
  ·rw[nY]
   have e:((λ x:Key × V=>x.1) ∘ λ kv:Key × V=>if kv.1=Sum.inr k.s then (kv.1,V.ref b) else kv)=λ x=>x.1:=by
    funext x;dsimp only[Function.comp];split<;>rfl
   rw[e];exact h.2
 ·rw[if_neg c]
  have nv:valV kvs (Sum.inr k.s:Key)=none:=by
   rw[zBs] at c;simpa using c
  refine⟨λ p hp=>(lJ.mp hp).elim (h.1 p) λ m=>by rw[mX.mp m];exact⟨_,row⟩,?_⟩;rw[mU];exact zFk h.2 (zF4 nv)
theorem RwsK.mono {H H':Hp}(t:Tk H H') {kvs:List 97}(h:RwsK H kvs):RwsK H' kvs:=⟨λ p hp=>let ⟨q,z⟩:=h.1 p hp;⟨q,z.mono t⟩,h.2⟩
theorem zGR:∀{r s:List Nat},natV r=natV s->r=s
 |[],[],_=>rfl
 |a::r,b::s,h=>by
  have h':V.int (a:Int)::natV r=V.int (b:Int)::natV s:=h;injection h' with h1 h2
  injection h1 with h1
  rw[zGR h2,Int.ofNat.inj h1]
 |[],_::_,h=>nomatch h
 |_::_,[],h=>nomatch h
theorem RwsK.sc {H:Hp}{d:Addr}{kvs:List 97}(h:RwsK H kvs) (hd:Rd H d 84) (hl:kvs.length<=8) {r:List Nat}{b:Addr}(ha:valV kvs (Sum.inr Kd.add.s:Key)=some (.ref b)) (hb:H b=some (.tup (natV r))) (hs:valV kvs (Sum.inr Kd.say.s:Key)=none):∃sc:Scl,ScD H d sc kvs/\sc.lookup .add=some r/\sc.lookup .say=none:=by
 obtain⟨sc,ps⟩:∃sc:Scl,Paired (RowAt H) sc kvs:=by
  have:=h.1;clear ha hs hl hd h
  induction kvs with
  |nil=>exact⟨[],.nil⟩
  |cons p kvs ih =>
   obtain⟨q,hq⟩:=this p lP;obtain⟨sc,ps⟩:=ih λ x hx=>this x (lQ _ hx);exact⟨q::sc,.cons hq ps⟩
 refine⟨sc,⟨hd,ps,h.2,hl⟩,?_,?_⟩
 ·rcases zCI ps .add with ⟨_,z⟩|⟨r',b',e,z,hb'⟩
  ·rw[ha] at z;cases z
  ·rw[ha] at z
   cases z;rw[hb] at hb';injection hb' with hb'
   injection hb' with hb'
   rw[e,zGR hb']
 ·rcases zCI ps .say with ⟨e,_⟩|⟨r',b',e,z,hb'⟩
  ·exact e
  ·rw[hs] at z;cases z
theorem NAS.kds {t:Tr}(h:NAS t) {k:Kd}(hk:k = .mul\/k = .gap):∀p∈t.subs,k≠p.kd:=λ p hp e=>by
 obtain⟨h1,h2⟩:=h.sub p hp;rcases hk with rfl|rfl
 ·exact h1 e.symm
 ·exact h2 e.symm
set_option tactic.hygienic true in
theorem zFY {K:Frag}{R:Addr}{newId:String}(q:excIn K R mroVE newId=true):tailIn K mroVE (.ref R::mroVE)=true:=by
 unfold excIn at q;split at q
 ·rename_i dd cd sl ho
  split at q
  ·simp only[Bool.and_eq_true,beq_iff_eq,Bool.not_eq_true'] at q
   obtain⟨⟨⟨⟨_,_⟩,_⟩,hok⟩,hni⟩:=q;unfold tailIn;refine Bool.or_eq_true_iff.mpr (.inr ?_);dsimp only;rw[ho];simp only[Bool.and_eq_true,beq_iff_eq];refine⟨⟨hok,hni⟩,?_⟩;unfold tailIn;exact Bool.or_eq_true_iff.mpr (.inl (beq_self_eq_true _))
  ·cases q
 ·cases q
end L2
namespace K26
open PySem PySem.Spec L2 PyProof.Rows
section
variable {P:Program}{w:World}{K:W.Frag}{mg:Str->Option Value}{base:Heap}{k n:Nat}{D R cS f fi g g1 g2 g3 md oa:Addr}{fd fdi gd gd1 gd2 gd3:FuncData}
def top (i:Nat):Stmt:=PySem.Challenge.pw_recastle_k26_refused_to_turn.main.body.getD i (.Pass ⟨0,0,0,0⟩)
abbrev zB6:Stmt:=top 10
theorem zDy:zAX ["tree"] ["tree"] (zAJ zB6):=scI
abbrev zFc:Stmt:=top 11
theorem zIr:zAX ["tree"] ["tree"] (zAJ zFc):=scI
abbrev zBy:Stmt:=top 14
theorem zAi:zAX ["tree", "found", "level", "deeper", "place", "part", "number", "inner"] ["tree"] (zAJ zBy):=scI
noncomputable def zDx (t:Tr):Int:=t.head
def zCa:Sp:=λ vs H Q Ω=>E2 λ t v=>A3 (vs=[v]) (Rep H t v) (Q (.int (zDx t)) H)
theorem zD1 {k:Nat}{f:Addr}{fd:FuncData}{lv:Addr}(F:Fun K "parts_begin" "parts_begin" zB6 f fd) (z_len:mg "len" = none) (zMG:mg "LEAF_SIGNS" = some (.ref lv)) (hL:zFX K lv) :
  FnOk P w K mg base CX0 (k+1) f fd ["tree"] zCa:=by
 refine F.ok zDy 55 38
 ·obtain⟨t,v,rfl,_⟩:=h
  rfl
 obtain⟨t,v,rfl,hR,q⟩:=h
 refine⟨_,(zAF (ps_if (zAT (r:=rIn K false) zHl (iC (r:=rIxT K) zA4 (pv 0)) (zAN (v:=.ref _) 39 zMG 39) rfl) (zAH (zAs (cL z_len (zAA (pv 0) zAB)))) zAV)
  (zAF (ps_if (zAT op_eq (iC (r:=rIxT K) zA4 (pv 0)) zAQ (zAe _)) (zAH (zAs zAE)) zAV)
  (zAH (zAs zAE)))),?_⟩
 obtain⟨a,hs,us,rfl,ha,hl,hp⟩:=hR.all;have h0:atI (V.str t.kd.s::hs++us) 0=some (.str t.kd.s):=zAu (j:=0) rfl;refine⟨_,rfl,a,_,0,_,rfl,rfl,SqT.of ha,h0,lv,zGE,rfl,.inr (.inr hL),rfl,rfl,_,rfl,?_⟩;show if inV (.str t.kd.s) zGE=true then _ else _
 rw[zJR];refine ite2 (λ c=>?_) (λ c=>?_)
 ·refine⟨_,rfl,a,_,rfl,.inr (SqT.of ha),?_⟩
  have e:((V.str t.sign::hs++us).length:Int)=zDx t:=by
   have hu:us.length=0:=by
    rw[←hp.length];cases t with
    |bin o a b=>cases o<;>cases c
    |_=>first|rfl|cases c
   rw[mK,mP,hu];unfold zDx
   lia
  rw[e];exact q
 ·refine⟨_,rfl,a,_,0,_,rfl,rfl,SqT.of ha,h0,rfl,_,rfl,?_⟩
  refine ite2 (λ d=>?_) (λ d=>?_)
  ·have z:t.kd = .lett:=Kd.eq_iff.mp (lT d)
   have e:zDx t=2:=by
    cases t with
    |lett x a b=>rfl
    |bin o a b=>cases o<;>cases z
    |_=>cases z
   rw[e] at q;exact q
  ·have e:zDx t=1:=by
    cases t with
    |lett x a b=>exact absurd rfl d
    |bin o a b=>rfl
    |ite a b c=>rfl
    |say a=>rfl
    |_=>exact absurd rfl c
   rw[e] at q;exact q
def zET:Sp:=λ vs H Q Ω=>E2 λ t v=>A3 (vs=[v]) (Rep H t v) (∀p H' us,Same H H'->H' p=some (.tup us)->Paired (Rep H') t.parts us->Q (.ref p) H')
theorem zJD (F:Fun K "parts" "parts" zFc f fd) (zMH:FnB P w K mg base k "parts_begin" g gd ["tree"] zCa) :
  FnOk P w K mg base CX0 (k+1) f fd ["tree"] zET:=by
 refine F.ok zIr 55 38
 ·obtain⟨t,v,rfl,_⟩:=h
  rfl
 obtain⟨t,v,rfl,hR,q⟩:=h;refine⟨_,(zAH (zAs (zBB zB4 (pv 0) (zBM (pe_cl zMH hr (zAA (pv 0) zAB))) zBN))),?_⟩;obtain⟨a,hs,us,rfl,ha,hl,hp⟩:=hR.all;have hn:(V.str t.sign::hs++us).length=t.head+us.length:=by rw[mK,mP];lia
 have h1:=zJT t
 have e1:HT.sIx (V.str t.sign::hs++us).length 0 (some (zDx t))=t.head:=by
  show HT.sIx _ 0 (some ((t.head:Nat):Int))=_;rw[HT.sIx_nat,hn]
  lia
 have e2:cutV (V.str t.sign::hs++us) (some (zDx t)) none=us:=by
  unfold cutV;rw[e1,HT.sIx_none,hn]
  have:(V.str t.sign::hs++us).drop t.head=us:=by
   rw[←hl];exact List.drop_left' rfl
  rw[this,nB 31]
 refine⟨_,rfl,_,rfl,t,_,rfl,hR,_,rfl,a,_,rfl,ha,λ z=>?_,λ p H' g e=>?_⟩
 ·rw[e1] at z
  lia
 ·rw[e2] at e
  exact q p H' us g e (Paired.mapP hp λ Ω Ω r=>r.mono g.tk)
def PPl (H:Hp) (x:PlT) (v:V):Prop:=∃u,PlV H (x.1,u) v/\Rep H x.2 u
theorem PPl.mono {H H':Hp}(k:Tk H H') {x:PlT}{v:V}:PPl H x v->PPl H' x v
 |⟨u,h,r⟩=>⟨u,h.mono k,r.mono k⟩
theorem zHx {α β:Type}(g:α->β):∀{qs l:List β},qs.Perm l->∀{Z:List α},Z.map g=l->∃Z':List α,Z'.Perm Z/\Z'.map g=qs:=by
 intro qs l h
 induction h with
 |nil =>
  intro Z e;have:Z=[]:=List.map_eq_nil_iff.mp e;subst this;exact⟨[],.nil,rfl⟩
 |cons x _ ih =>
  intro Z e;obtain⟨z,Z2,rfl,e1,e2⟩:=List.map_eq_cons_iff.mp e;obtain⟨Z',h1,h2⟩:=ih e2;exact⟨z::Z',h1.cons z,by simp[e1,h2]⟩
 |swap x y l =>
  intro Z e;obtain⟨z,Z2,rfl,e1,e2⟩:=List.map_eq_cons_iff.mp e;obtain⟨z2,Z3,rfl,e3,e4⟩:=List.map_eq_cons_iff.mp e2;exact⟨z2::z::Z3,.swap _ _ _,by simp[e1,e3,e4]⟩
 |trans _ _ ih1 ih2 =>
  intro Z e;obtain⟨Z1,h1,h2⟩:=ih2 e;obtain⟨Z2,h3,h4⟩:=ih1 h2;exact⟨Z2,h3.trans h1,h4⟩
theorem zE7 {H:Hp}{F:List PlT}{us:List V}(h:Paired (PPl H) F us):∃Z:List (PlT × V),Z.map (·.1)=F/\Paired (PlV H) (Z.map λ z=>(z.1.1,z.2)) us/\∀z∈Z,Rep H z.1.2 z.2:=by
 induction h with
 |nil=>exact⟨[],rfl,.nil,λ z h=>nomatch h⟩
 |cons r q ih =>
  obtain⟨Z,h1,h2,h3⟩:=ih;obtain⟨u,hu,ru⟩:=r;refine⟨(_,u)::Z,by simp[h1],.cons hu h2,λ z hz=>?_⟩;rcases nU.mp hz with rfl|hz
  ·exact ru
  ·exact h3 z hz
theorem zGJ {H:Hp}:∀{Z:List (PlT × V)}{us:List V},Paired (PlV H) (Z.map λ z=>(z.1.1,z.2)) us->(∀z∈Z,Rep H z.1.2 z.2)->Paired (λ x v=>∃pl,PPl H (pl,x) v) (Z.map λ z=>z.1.2) us
 |[],_,h,_=>by
  cases h;exact .nil
 |z::Z,_,h,k=>by
  rw[mL] at h ⊢;cases h with
  |cons r q=>exact .cons ⟨z.1.1,z.2,r,k z lP⟩ (zGJ q λ y hy=>k y (lQ _ hy))
def zE4:Sp:=λ vs H Q Ω=>E2 λ(t:Tr) (v:V)=>A4 (vs=[v]) (Rep H t v) (t.size<=300) (∀(l:Addr) (us:List V) (F:List Tr) (H':Hp),Same H H'->H' l=some (.lst us)->Paired (λ x v=>∃pl,PPl H' (pl,x) v) F us->F.Perm t.subs->Q (.ref l) H')
theorem zHn (F:Fun K "placed_parts" "placed_parts" zBy f fd) (z_enumerate:mg "enumerate" = none) (z_sorted:mg "sorted" = none) (zMI:FnB P w K mg base k "parts" g1 gd1 ["tree"] zET):FnOk P w K mg base CX0 (k+1) f fd ["tree"] zE4:=by
 refine F.ok zAi 55 38
 ·obtain⟨t,v,rfl,_⟩:=h
  rfl
 obtain⟨t,v,rfl,hR,hsz,q⟩:=h;have hu5:=hu150 hr
 refine⟨_,(zAF (pS (i:=1) zAi.nd (zBv zAB:PE _ _ _))
  (zAF (pS (i:=2) zAi.nd (zBv (zAA (zAc (zAA (zAc zAB:PE _ _ _) (zAA (pv 0) zAB)):PE _ _ _) zAB):PE _ _ _))
  (zAF (zCV PassesOwn.never (zDP (pv 2) (λ Ω=>rfl)) (zAF (zAk (pe_bm rZ tH tI zDk 90 (zAA (pv 2) zAB)))
  (zAF (pS (i:=3) zAi.nd (zBv zAB:PE _ _ _))
  (zAF (zBQ PassesOwn.never rfl (zC6 (pv 2)) (zCG rfl (zAb (pGn (i:=4) zAi.nd) (zAb (pGn (i:=5) zAi.nd) zBS))) (zAH (zBQ PassesOwn.never rfl (zKb 39 z_enumerate (zAA (pe_cl zMI hr (zAA (pv 5) zAB)) zAB)) (zCG rfl (zAb (pGn (i:=6) zAi.nd) (zAb (pGn (i:=7) zAi.nd) zBS))) (zAH (pAp (pv 3) (zAc (zAA (pe_op zB0 (pv 4) (zAc (zAA (pv 6) zAB):PE _ _ _)) (zAA (pv 7) zAB)):PE _ _ _))))))
  (zAH (pS (i:=2) zAi.nd (pv 3)))))))
  (zAH (zAs (zAI (zEu hu5) 39 z_sorted PyProof.Rows.boot_sorted (zAA 90 zAB))))))),?_⟩
 have d2:2<=sizeLine:=by decide
 refine⟨(by show 0<=sizeLine;decide),λ fo hfo=>⟨(by show 0<=sizeLine;decide),λ pe hpe=>⟨_,rfl,d2,λ pr hpr=>⟨(by show 1<=sizeLine;decide),λ l hl=>?_⟩⟩⟩⟩;have g1:=zAD (o:=.lst []) hfo;have g2:=zAD (o:=.tup []) hpe;have g3:=zAD (o:=.tup [.ref pe,v]) hpr;have g4:=zAD (o:=.lst [.ref pr]) hl;have g23:=g2.trans g3;have gA:=g1.trans (g23.trans g4)
 refine⟨(λ m σ' H'=>E10 λ(l:Addr) (ls fs:List V) (L Fd:List PlT) (s3 s4 s5 s6 s7:Option V)=>A11 (σ'=[some v,some (.ref fo),some (.ref l),s3,s4,s5,s6,s7]) (Same H H') (H l=none) (l≠fo) (H' fo=some (.lst fs)) (H' l=some (.lst ls)) (Paired (PPl H') Fd fs) (Paired (PPl H') L ls) (m=szP L) ((Fd++allP L).Perm (psub [] t)) (∀x∈L,x.1.length+x.2.size<=300)),
  ⟨szP [([],t)],l,[.ref pr],[],[([],t)],[],none,none,none,none,none,rfl,gA,(g1.trans g23).free hl,?_,g4 _ _ (g23 _ _ zAC),zAC,.nil,.cons ⟨v,⟨pr,pe,rfl,g4 _ _ zAC,g4 _ _ (g3 _ _ zAC)⟩,hR.mono gA.tk⟩ .nil,rfl,by simp[allP],by simpa using hsz⟩,?_⟩
 ·exact Ne.symm (zAR (g23 _ _ (zAC (H:=H) (a:=fo) (o:=.lst []))) hl)
 rintro m σ' Hw ⟨l,ls,fs,L,Fd,s3,s4,s5,s6,s7,rfl,gw,hl,hlf,ef,el,pF,pL,rfl,hperm,hdp0⟩;have lL:ls.length=L.length:=zAw pL;have lF:fs.length=Fd.length:=zAw pF;have hZ:=zE0 L
 have hcnt:Fd.length+szP L<=300:=by
  have:=hperm.length_eq;rw[mK,zJh,zBX] at this
  lia
 refine⟨_,rfl,_,.inl ⟨ls,SqL.of el,rfl⟩,?_⟩;refine ite2 (λ c=>?_) (λ c=>?_)
 ·refine⟨_,λ Ω Ω h=>h,?_⟩
  refine⟨_,rfl,.inl ⟨rfl,_,SqL.of ef⟩,_,rfl,fo,l,fs,ls,rfl,rfl,ef,el,zA0 31,?_⟩;have ef1:=@zAC Hw fo (.lst (fs++ls));have el1:(upd Hw fo (.lst (fs++ls))) l=some (.lst ls):=by rw[zAO hlf];exact el
  have gw1:Same H (upd Hw fo (.lst (fs++ls))):=zAz gw hfo;have tk1:Tk Hw (upd Hw fo (.lst (fs++ls))):=Tk.lst ef;show tSeq _ _ _ _ (upd Hw fo (.lst (fs++ls)));generalize upd Hw fo _=H1 at ef1 el1 gw1 tk1 ⊢;refine⟨(by show 0<=sizeLine;decide),λ dp hdp=>?_⟩;have g4:=zAD (o:=.lst []) hdp;have hdpH:H dp=none:=gw1.free hdp;have ndf:dp≠fo:=Ne.symm (zAR ef1 hdp);have ndl:dp≠l:=Ne.symm (zAR el1 hdp);refine⟨_,rfl,l,rfl,⟨ls,SqL.of (g4 _ _ el1)⟩,?_⟩;refine zC2 (xs:=ls) (λ i σ' H'=>E5 λ(dps:List V) (s4 s5 s6 s7:Option V)=>A7 (σ'=[some v,some (.ref fo),some (.ref l),some (.ref dp),s4,s5,s6,s7]) (Same H H') (Tk H1 H') (H' fo=some (.lst (fs++ls))) (H' l=some (.lst ls)) (H' dp=some (.lst dps)) (Paired (PPl H') ((L.take i).flatMap kidsP) dps)) ?_ ?_ ?_ ?_
  ·exact⟨[],s4,s5,s6,s7,rfl,gw1.trans g4,g4.tk,g4 _ _ ef1,g4 _ _ el1,zAC,.nil⟩
  ·rintro i σ1 H2 _ ⟨dps,s4,s5,s6,s7,rfl,g5,k5,ef5,el5,ed5,p5⟩
   exact SqL.of el5
  ·rintro i x σ1 H2 hx ⟨dps,s4,s5,s6,s7,rfl,g5,k5,ef5,el5,ed5,p5⟩
   obtain⟨⟨pl,tq⟩,eq,rq⟩:=zA5 pL hx;obtain⟨u,⟨b,c',rfl,hb,hc'⟩,ru⟩:=rq.mono (tk1.trans k5);dsimp only at hb hc' ru;refine⟨b,_,rfl,SqT.of hb,rfl,_,_,rfl,_,_,rfl,rfl,?_⟩
   have hflat:((L.take (i+1)).flatMap kidsP)=((L.take i).flatMap kidsP)++kidsP (pl,tq):=by
    rw[zBL eq,List.flatMap_append];simp
   have hlen:((L.take i).flatMap kidsP).length+(kidsP (pl,tq)).length<=300:=by
    have z2:=zKN ((L.take (i+1)).flatMap kidsP);have z3:=zE0 (L.take (i+1));have z4:szP (L.take (i+1))<=szP L:=by unfold szP;rw[List.map_take];exact zIn _ _
    rw[hflat,mK] at z2;rw[hflat] at z3
    lia
   refine⟨_,rfl,tq,u,rfl,ru,λ pp H3 us g6 ep hus=>⟨pp,rfl,⟨us,SqT.of ep⟩,?_⟩⟩;have lus:us.length=tq.parts.length:=zAw hus;refine zJW (xs:=us) (λ j σ' H'=>E3 λ(dps':List V) (s6 s7:Option V)=>A7 (σ'=[some v,some (.ref fo),some (.ref l),some (.ref dp),some (.ref c'),some u,s6,s7]) (Same H H') (Tk H3 H') (H' fo=some (.lst (fs++ls))) (H' l=some (.lst ls)) (H' dp=some (.lst dps')) (Paired (PPl H') (((L.take i).flatMap kidsP)++(kidsP (pl,tq)).take j) dps')) ?_ ?_ ?_ ?_
   ·refine⟨dps,s6,s7,rfl,g5.trans g6,.refl _,g6 _ _ ef5,g6 _ _ el5,g6 _ _ ed5,?_⟩
    rw[List.take_zero,nX];exact Paired.mapP p5 λ Ω Ω z=>z.mono g6.tk
   ·rintro j σ3 H5 _ ⟨dps5,s6,s7,rfl,g7,k7,ef7,el7,ed7,p7⟩
    exact SqT.of (k7 _ _ ep)
   ·rintro j x T σ3 H5 hx ⟨dps5,s6,s7,rfl,g7,k7,ef7,el7,ed7,p7⟩ hT
    have gT:=zAD (o:=.tup [.int j,x]) hT;obtain⟨cc,ec,rc⟩:=zA5 hus hx;have kk:=zH4 (pl:=pl) ec
    have ld:dps5.length<=300:=by
     rw[zAw p7,mK,mQ]
     lia
    refine⟨T,_,rfl,SqT.of zAC,rfl,_,_,rfl,_,_,rfl,rfl,?_⟩;have ed8:=gT _ _ ed7;have hc8:(upd H5 T (.tup [.int j,x])) c'=some (.tup (pl.map V.int)):=gT.tk _ _ (k7 _ _ (g6.tk _ _ hc'));refine⟨_,rfl,.inl ⟨rfl,_,SqL.of ed8⟩,_,rfl,_,rfl,(by show 1<=sizeLine;decide),λ pj hpj=>?_⟩;have gj:=zAD (o:=.tup [.int j]) hpj
    have hpl:pl.length<=300:=by
     have h9:=hdp0 _ (lK eq);dsimp only at h9
     lia
    refine⟨c',pj,_,_,rfl,rfl,gj.tk _ _ hc8,zAC,zA0 (by simp;lia),λ pn H6 g9 e9=>?_⟩;refine⟨_,rfl,d2,λ pt hpt=>?_⟩;have g10:=zAD (o:=.tup [.ref pn,x]) hpt;have gB:=gT.trans (gj.trans (g9.trans g10));have ed9:=gB _ _ ed7;refine⟨dp,dps5,_,rfl,rfl,ed9,zAf 31,?_⟩;have tkz:Tk _ _:=Tk.lst (o:=.lst (dps5++[.ref pt])) ed9;have e9':H6 pn=some (.tup ((pl++[(j:Int)]).map V.int)):=by rw[e9,mU];rfl
    refine⟨dps5++[.ref pt],_,_,rfl,zAz (g7.trans gB) hdpH,k7.trans (gB.tk.trans tkz),by rw[zAO (Ne.symm ndf)];exact gB _ _ ef7,by rw[zAO (Ne.symm ndl)];exact gB _ _ el7,zAC,?_⟩;rw[zBL kk,←nE];exact zBG (Paired.mapP p7 λ Ω Ω z=>z.mono (gB.tk.trans tkz)) (.cons ⟨x,⟨pt,pn,rfl,tkz _ _ zAC,tkz _ _ (g10.tk _ _ e9')⟩,rc.mono (k7.trans (gB.tk.trans tkz))⟩ .nil)
   ·rintro σ3 H5 ⟨dps5,s6,s7,rfl,g7,k7,ef7,el7,ed7,p7⟩
    have ek:(kidsP (pl,tq)).take us.length=kidsP (pl,tq):=nB (by rw[zH3];lia);rw[ek,←hflat] at p7;exact⟨dps5,_,_,_,_,rfl,g7,k5.trans (g6.tk.trans k7),ef7,el7,ed7,p7⟩
  ·rintro σ1 H2 ⟨dps,s4,s5,s6,s7,rfl,g5,k5,ef5,el5,ed5,p5⟩
   rw[nB 31] at p5
   have hpos:0<L.length:=by
    rw[←lL];cases ls with
    |nil=>simp at c
    |cons _ _=>simp
   refine⟨_,rfl,szP (L.flatMap kidsP),by lia,dp,dps,fs++ls,L.flatMap kidsP,Fd++L,some (.ref dp),s4,s5,s6,s7,rfl,g5,hdpH,ndf,ef5,ed5,zBG (Paired.mapP pF λ Ω Ω z=>z.mono (tk1.trans k5)) (Paired.mapP pL λ Ω Ω z=>z.mono (tk1.trans k5)),p5,rfl,?_,?_⟩
   ·rw[nE]
    exact((zEN L).symm.append_left Fd).trans hperm
   ·intro x hx
    obtain⟨y,hy,hx⟩:=List.mem_flatMap.mp hx;have h9:=hdp0 y hy;unfold kidsP at hx;obtain⟨z,hz,rfl⟩:=mC.mp hx;have h8:z.1∈y.2.parts:=List.fst_mem_of_mem_zipIdx hz;have h7:=zFC h8;simp
    lia
 ·have e0:ls=[]:=by
   cases ls with
   |nil=>rfl
   |cons _ _=>simp at c
  have eL:L=[]:=by
   subst e0;cases L with
   |nil=>rfl
   |cons _ _=>simp at lL
  subst eL;have hperm':Fd.Perm (psub [] t):=by simpa[allP] using hperm
  obtain⟨Z,w1,w2,w3⟩:=zE7 pF;have hfst:((Z.map λ z=>(z.1.1,z.2)).map (·.1))=Fd.map (·.1):=by rw[←w1,nY,nY];rfl
  have hlz:Z.length=Fd.length:=by rw[←w1,lC]
  refine⟨_,rfl,fo,fs,Z.map λ z=>(z.1.1,z.2),rfl,ef,w2,?_,by rw[lC];lia,λ l' zs qs hl' pq hq Ω=>?_⟩
  ·rw[hfst]
   exact(hperm'.map _).nodup_iff.mpr (zCB t [])
  ·obtain⟨Z',z1,rfl⟩:=zHx _ hq rfl
   have gl:=zAD (o:=.lst zs) hl'
   have e1:(Z'.map (·.1)).Perm (psub [] t):=by
    refine(z1.map _).trans ?_;rw[w1];exact hperm'
   have e5:(Z'.map λ z=>z.1.2).Perm t.subs:=by
    rw[←zBg t []];have:=e1.map (·.2)
    rwa [nY] at this
   have hj:=Paired.mapP (zGJ pq λ z hz=>w3 z (z1.mem_iff.mp hz)) λ _ _ (⟨pl,h⟩:∃pl,PPl _ (pl,_) _)=>(⟨pl,h.mono gl.tk⟩:∃pl,PPl _ (pl,_) _);exact q l' zs _ _ (gw.trans gl) zAC hj e5
abbrev zCU:Stmt:=top 9
theorem zDb:zAX ["value"] ["value"] (zAJ zCU):=scI
abbrev zBt:Stmt:=top 71
theorem zCq:zAX ["value", "most"] ["value", "most"] (zAJ zBt):=scI
abbrev zBW:Stmt:=top 72
theorem zCL:zAX ["row", "many"] ["row", "many"] (zAJ zBW):=scI
abbrev zBf:Stmt:=top 73
theorem zBV:zAX ["scale", "sign"] ["scale"] (zAJ zBf):=scI
def zDY:Sp:=λ vs H Q Ω=>∃i:Int,vs=[.int i]/\Q (.bl true) H
theorem zFj (F:Fun K "is_whole" "is_whole" zCU f fd) (z_isinstance:mg "isinstance" = none) (z_int:mg "int" = none) (z_bool:mg "bool" = none):FnOk P w K mg base CX0 (k+1) f fd ["value"] zDY:=by
 refine F.ok zDb 55 38
 ·obtain⟨i,rfl,_⟩:=h
  rfl
 obtain⟨i,rfl,q⟩:=h;refine⟨_,(zAH (zAs (zA7 (cI z_isinstance z_int PyProof.Rows.boot_int (pv 0)) (zAg (zJx (cI z_isinstance z_bool PyProof.Rows.boot_bool (pv 0))))))),?_⟩;refine⟨_,rfl,_, "int", _,true,rfl,.int i,rfl,true,rfl,?_⟩;exact⟨_,rfl,_, "bool", _,false,rfl,.int i,rfl,false,rfl,q⟩
def zCp:Sp:=λ vs H Q Ω=>E2 λ(i m:Int)=>A4 (vs=[.int i,.int m]) (1<=i) (i<=m) (Q (.bl true) H)
theorem zEg (F:Fun K "is_between" "is_between" zBt f fd) (zMJ:FnB P w K mg base k "is_whole" g1 gd1 ["value"] zDY):FnOk P w K mg base CX0 (k+1) f fd ["value", "most"] zCp:=by
 refine F.ok zCq 55 38
 ·obtain⟨i,m,rfl,_⟩:=h
  rfl
 obtain⟨i,m,rfl,h1,h2,q⟩:=h;refine⟨_,(zAH (zAs (zA7 (pe_cl zMJ hr (zAA (pv 0) zAB)) (zAg (zGP op_le op_le zAE (pv 0) 90))))),?_⟩;refine⟨_,rfl,i,rfl,true,rfl,?_⟩;refine⟨_,rfl,_,_,rfl,rfl,_,rfl,iteY h1 ?_⟩;refine⟨_,rfl,_,_,rfl,rfl,?_⟩;show Q (.bl (decide (i<=m))) H;rw[decide_eq_true h2];exact q
def zCJ:Sp:=λ vs H Q Ω=>E3 λ(a:Addr) (k:Kd) (r:List Nat)=>A4 (vs=[.ref a,.int (k.many:Int)]) (H a=some (.tup (natV r))) (zBb k r) (∀H',Same H H'->Q (.bl true) H')
theorem zJf (n:Nat):(List.replicate n true).all id=true:=by simp
theorem zDj {k:Nat}{f g1:Addr}{fd gd1:FuncData}{t1 t2:Tok}(F:Fun K "is_scale_row" "is_scale_row" zBW f fd) (z_isinstance:mg "isinstance" = none) (z_tuple:mg "tuple" = none) (z_len:mg "len" = none) (z_all:mg "all" = none)
  (zMK:mg "MOST_OWN" = some (.int 9 t1)) (zML:mg "MOST_TIMES" = some (.int 3 t2)) (zMM:FnB P w K mg base k "is_between" g1 gd1 ["value", "most"] zCp):FnOk P w K mg base CX0 (k+1) f fd ["row", "many"] zCJ:=by
 refine F.ok zCL 55 38
 ·obtain⟨a,kd,r,rfl,_⟩:=h
  rfl
 obtain⟨a,kd,r,rfl,ha,gr,q⟩:=h
 refine⟨_,(zAF (ps_if (pw_or (zCc (zCN (cI z_isinstance z_tuple PyProof.Rows.boot_tuple (pv 0)))) (zHS (zAT op_ne (cL z_len (zAA (pv 0) zAB)) (pe_op zA8 90 zAE) (zAe _)))).pt (zAH (zAs pe_bl)) zAV)
  66),?_⟩
 obtain⟨c,ks,rfl⟩:∃c ks,r=c::ks:=by
  cases r with
  |nil=>have:=gr.ln;simp at this
  |cons c ks=>exact⟨c,ks,rfl⟩
 have hln:ks.length=kd.many:=by have:=gr.ln;simpa using this
 have ha':H a=some (.tup (V.int (c:Int)::natV ks)):=ha;refine⟨_,rfl,_, "tuple", _,true,rfl,.tup ha',rfl,_,rfl,iteF ?_⟩;refine⟨_,rfl,a,_,rfl,.inr (SqT.of ha'),_,rfl,_,_,rfl,rfl,rfl,_,rfl,iteNS ?_ ?_⟩
 ·rw[mP,zBx,hln]
  rfl
 have c1:(1:Int)<=(c:Int):=by have:=gr.c1;simp at this;lia
 have c9:(c:Int)<=9:=by have:=gr.c9;simp at this;lia
 refine⟨_,rfl,a,_,0,_,rfl,rfl,SqT.of ha',zAu (j:=0) rfl,_,_,rfl,c1,c9,true,rfl,?_⟩;refine⟨_,rfl,1,rfl,a,_,rfl,SqT.of ha',zEt _ _,λ p hp=>?_⟩;rw[cut1];refine⟨p,rfl,⟨_,SqT.of zAC⟩,λ acc hacc=>?_⟩;have g1:=zAD (o:=.tup (natV ks)) hp;have ep:=@zAC H p (.tup (natV ks));generalize upd H p _=H1 at g1 ep hacc ⊢;refine zFQ (xs:=natV ks) (λ i H'=>Same H1 H'/\H' acc=some (.lst ((List.replicate i true).map V.bl))) ⟨zAD hacc,zAC⟩ (λ i H' Ω h=>SqT.of (h.1 _ _ ep)) ?_ ?_
 ·rintro i x Hx hx ⟨gx,ex⟩
  obtain⟨n,hn,rfl⟩:∃n,ks[i]?=some n/\x=V.int (n:Int):=by
   unfold natV at hx;rw[mI] at hx;obtain⟨n,h1,h2⟩:=lV.mp hx;exact⟨n,h1,h2.symm⟩
  have hb:=gr.ks n (by simpa using lK hn);have hi:i<ks.length:=(lI.mp hn).1;have hm3:=zEk kd;refine⟨.skip .nil,_,rfl,_,_,rfl,by lia,by lia,_,ex,zAf (by simp;lia),zAz gx hacc,?_⟩;rw[zAC,List.replicate_succ',mU];rfl
 rintro H2 ⟨g2,e2⟩;refine⟨acc,_,rfl,e2,?_⟩;rw[zJf];exact q H2 (g1.trans g2)
def zBT:Sp:=λ vs H Q Ω=>E2 λ(d:Addr) (rs:Scl)=>A3 (vs=[.ref d]) (ScAt H d rs) (∀H',Sf H H'->Q .non H')
theorem zD2 (F:Fun K "check_scale" "check_scale" zBf f fd) (z_isinstance:mg "isinstance" = none) (z_dict:mg "dict" = none)
  (zMN:mg "MANY_PARTS" = some (.ref md)) (h_MANY_PARTS:KDic K w.params md) (hM:ManyK K md) (zMO:FnB P w K mg base k "is_scale_row" g1 gd1 ["row", "many"] zCJ):FnOk P w K mg base CX0 (k+1) f fd ["scale"] zBT:=by
 refine F.ok zBV 55 38
 ·obtain⟨d,rs,rfl,_⟩:=h
  rfl
 obtain⟨d,rs,rfl,⟨kvs,sc⟩,q⟩:=h;have hu:=hu_of hr
 refine⟨_,(zAF (ps_if (zCc (zCN (zAI zIb 39 z_isinstance rT (zAA (pv 0) (zAA (zA2 (v:=.ty _) 39 z_dict rV 39) zAB))))) (zAH zCu) zAV)
  (zAH (zBQ PassesOwn.never rfl (zFg (pv 0)) (pGn (i:=1) zBV.nd) (zAF (ps_if (zAT (zFD h_MANY_PARTS) 90 (zAN (v:=.ref _) 39 zMN 39) rfl) (zAH zCu) zAV)
  (zAH (ps_if (zCc (zCN (pe_cl zMO hr (zAA (zEf hu (pv 0) 90 (λ Ω Ω=>rfl)) (zAA (pe_ix (ix_kd h_MANY_PARTS) (zAN (v:=.ref _) 39 zMN 39) 90 (λ Ω Ω=>rfl)) zAB))))) (zAH zCu) zAV)))))),?_⟩
 refine⟨_,rfl,d,kvs, "dict", true,rfl,sc.rd,rfl,_,rfl,iteF ?_⟩;refine⟨_,rfl,d,kvs,rfl,?_⟩;have hrd:=sc.rd;rcases hrd with e|⟨o,e⟩
 ·refine .inr ⟨e,λ o=>?_⟩
  have gf:=Sf.frz o e;have ef:=@zAC H d (.frz o 84);generalize upd H d _=H1 at gf ef ⊢;have sc1:=sc.mono gf;refine zEq (o:=o) (a:=d) (kvs:=kvs) (λ i σ' H'=>∃s1,σ'=[some (.ref d),s1]/\Same H1 H') ⟨none,rfl,.refl _⟩ ?_ ?_ ?_
  ·rintro i σ' H' _ ⟨s1,rfl,g⟩
   exact g _ _ ef
  ·rintro i p σ' H' hp ⟨s1,rfl,g⟩
   have sc2:=sc1.mono g.sf;obtain⟨⟨kd,r⟩,hr2,gr,e1,b,e2,hb⟩:=zCg sc2.ps hp;obtain⟨p1,p2⟩:=p;dsimp only at e1 e2 gr hb;subst e1 e2;obtain⟨tk,hm⟩:=hM kd gr.lf;have gv:DGet H' d (.str kd.s) (some (.ref b)):=.inl ⟨kvs,Sum.inr kd.s,sc2.rd,rfl,(zF3 sc2.nd hp).symm⟩;refine⟨_,rfl,kd.s,_,rfl,rfl,hm,_,rfl,iteF ?_⟩;refine⟨_,rfl,_,rfl,d,_,rfl,gv,?_⟩;refine⟨_,rfl,kd.s,_,.int (kd.many:Int),rfl,rfl,hm,⟨tk,rfl⟩,b,kd,r,rfl,hb,gr,λ H2 g2=>⟨_,rfl,iteF ⟨_,rfl,g.trans g2⟩⟩⟩
  ·rintro σ' H' ⟨s1,rfl,g⟩
   exact q H' (gf.trans g.sf)
 ·refine .inl ⟨o,e,?_⟩
  have gf:=Sf.refl H;have ef:=e;have sc1:=sc.mono gf;refine zEq (o:=o) (a:=d) (kvs:=kvs) (λ i σ' H'=>∃s1,σ'=[some (.ref d),s1]/\Same H H') ⟨none,rfl,.refl _⟩ ?_ ?_ ?_
  ·rintro i σ' H' _ ⟨s1,rfl,g⟩
   exact g _ _ ef
  ·rintro i p σ' H' hp ⟨s1,rfl,g⟩
   have sc2:=sc1.mono g.sf;obtain⟨⟨kd,r⟩,hr2,gr,e1,b,e2,hb⟩:=zCg sc2.ps hp;obtain⟨p1,p2⟩:=p;dsimp only at e1 e2 gr hb;subst e1 e2;obtain⟨tk,hm⟩:=hM kd gr.lf;have gv:DGet H' d (.str kd.s) (some (.ref b)):=.inl ⟨kvs,Sum.inr kd.s,sc2.rd,rfl,(zF3 sc2.nd hp).symm⟩;refine⟨_,rfl,kd.s,_,rfl,rfl,hm,_,rfl,iteF ?_⟩;refine⟨_,rfl,_,rfl,d,_,rfl,gv,?_⟩;refine⟨_,rfl,kd.s,_,.int (kd.many:Int),rfl,rfl,hm,⟨tk,rfl⟩,b,kd,r,rfl,hb,gr,λ H2 g2=>⟨_,rfl,iteF ⟨_,rfl,g.trans g2⟩⟩⟩
  ·rintro σ' H' ⟨s1,rfl,g⟩
   exact q H' (gf.trans g.sf)
abbrev zBm:Stmt:=top 74
theorem zAl:zAX ["tree", "scale", "found", "level", "deeper", "part", "weight", "row"] ["tree", "scale"] (zAJ zBm):=scI
abbrev zEW:Stmt:=top 75
theorem zGH:zAX ["tree", "scale"] ["tree", "scale"] (zAJ zEW):=scI
def zC5:Sp:=λ vs H Q Ω=>E4 λ(t:Tr) (v:V) (d:Addr) (rs:Scl)=>A5 (vs=[v,.ref d]) (Rep H t v) (ScAt H d rs) (t.size<=300) (∀(l:Addr) (us:List V) (F:List TW) (H':Hp),Same H H'->H' l=some (.lst us)->Paired (PWt H') F us->(∀β,sumCB β F=wB (rowF rs) β t)->F.length<=300->(∀p∈F,Wb 300 p)->Q (.ref l) H')
theorem zGj (F:Fun K "weighed_parts" "weighed_parts" zBm f fd) (z_zip:mg "zip" = none) (zMP:mg "ONES" = some (.ref oa)) (hO:OnesK K oa)
  (zMI:FnB P w K mg base k "parts" g1 gd1 ["tree"] zET):FnOk P w K mg base CX0 (k+1) f fd ["tree", "scale"] zC5:=by
 refine F.ok zAl 55 38
 ·obtain⟨t,v,d,rs,rfl,_⟩:=h
  rfl
 obtain⟨t,v,d,rs,rfl,hR,⟨kvs,sc⟩,hsz,q⟩:=h;have hu:=hu_of hr;have gF:GoodF (rowF rs):=zDd (zDq sc.ps)
 refine⟨_,(zAF (pS (i:=2) zAl.nd (zBv zAB:PE _ _ _))
  (zAF (pS (i:=3) zAl.nd (zBv (zAA (zAc (zAA (pv 0) (zAA zAE zAB)):PE _ _ _) zAB):PE _ _ _))
  (zAF (zCV PassesOwn.never (zDP (pv 3) (λ Ω=>rfl)) (zAF (zAk (pe_bm rZ tH tI zDk (pv 2) (zAA (pv 3) zAB)))
  (zAF (pS (i:=4) zAl.nd (zBv zAB:PE _ _ _))
  (zAF (zBQ PassesOwn.never rfl (zC6 (pv 3)) (zCG rfl (zAb (pGn (i:=5) zAl.nd) (zAb (zBz (i:=6) zAl.nd rfl (Or.inr rfl)) zBS))) (zAF (pS (i:=7) zAl.nd (zDR hu 90 (iC (r:=rIxT K) zA4 (pv 5)) (zAN (v:=.ref _) 39 zMP 39) ⟨rfl,rfl,rfl,rfl⟩))
  (zAH (zAk (pe_bm rZ tH tI zDk (pv 4) (zAA (zCX ["inner", "times", "weight"] [none,none,some 6] rfl (zLV 39 z_zip (zAA (pe_cl zMI hr (zAA (pv 5) zAB)) (zAA (zBB (r:=rSlT K) zE5 (pv 7) (zBM zAE) zBN) zAB))) (λ Ω Ω Ω Ω Ω=>(zHe (K:=K) (n:=2) rfl rfl (zAb (zBz (i:=0) (show List.Nodup (["inner", "times", "weight"]:List Str) by symm) rfl (Or.inl rfl)) (zAb (zBz (i:=1) (show List.Nodup (["inner", "times", "weight"]:List Str) by symm) rfl (Or.inl rfl)) zBS)))) (λ Ω Ω Ω Ω Ω=>zDe) (λ Ω Ω Ω Ω Ω=>(zAc (zAA (pv 0) (zAA (pe_op zHj (pv 2) 90) zAB)):PE _ _ _)) rfl) zAB))))))
  (zAH (pS (i:=3) zAl.nd (pv 4)))))))
  (zAH (zAs (pv 2)))))),?_⟩
 have d2:2<=sizeLine:=by decide
 refine⟨(by show 0<=sizeLine;decide),λ fo hfo=>⟨_,rfl,d2,λ pr hpr=>⟨(by show 1<=sizeLine;decide),λ l hl=>?_⟩⟩⟩;have g1:=zAD (o:=.lst []) hfo;have g2:=zAD (o:=.tup [v,.int 1]) hpr;have g3:=zAD (o:=.lst [.ref pr]) hl;have gA:=g1.trans (g2.trans g3);have hlH:H l=none:=(g1.trans g2).free hl;have hlf:l≠fo:=Ne.symm (zAR (g2 _ _ zAC) hl)
 refine⟨(λ m σ' H'=>E9 λ(l:Addr) (ls fs:List V) (L Fd:List TW) (s4 s5 s6 s7:Option V)=>A13 (σ'=[some v,some (.ref d),some (.ref fo),some (.ref l),s4,s5,s6,s7]) (Same H H') (H l=none) (l≠fo) (H' fo=some (.lst fs)) (H' l=some (.lst ls)) (Paired (PWt H') Fd fs) (Paired (PWt H') L ls) (m=szZ L) (∀β,sumCB β Fd+sumSB (rowF rs) β L=wB (rowF rs) β t) (Fd.length+szZ L<=t.size) (∀p∈Fd,Wb 300 p) (∀p∈L,Wb 300 p)),
  ⟨t.size,l,[.ref pr],[],[(t,1)],[],none,none,none,none,rfl,gA,hlH,hlf,g3 _ _ (g2 _ _ zAC),zAC,.nil,.cons ⟨pr,v,rfl,g3 _ _ zAC,hR.mono gA.tk⟩ .nil,by simp[szZ],by intro β;simp[sumCB,sumSB],by simp[szZ],by simp,?_⟩,?_⟩
 ·intro p hp
  have e:=mX.mp hp;subst e;unfold Wb;rw[Nat.one_mul];exact Nat.pow_le_pow_right 46 hsz
 rintro m σ' Hw ⟨l,ls,fs,L,Fd,s4,s5,s6,s7,rfl,gw,hl,hlf,ef,el,pF,pL,rfl,hsum,hcnt,wF,wL⟩;have lL:ls.length=L.length:=zAw pL;have lF:fs.length=Fd.length:=zAw pF;have hZ:=zDW (rowF rs) L;refine⟨_,rfl,_,.inl ⟨ls,SqL.of el,rfl⟩,?_⟩;refine ite2 (λ c=>?_) (λ c=>?_)
 ·refine⟨_,λ Ω Ω h=>h,?_⟩
  refine⟨_,rfl,.inl ⟨rfl,_,SqL.of ef⟩,_,rfl,fo,l,fs,ls,rfl,rfl,ef,el,zA0 31,?_⟩;have ef1:=@zAC Hw fo (.lst (fs++ls));have el1:(upd Hw fo (.lst (fs++ls))) l=some (.lst ls):=by rw[zAO hlf];exact el
  have gw1:Same H (upd Hw fo (.lst (fs++ls))):=zAz gw hfo;have tk1:Tk Hw (upd Hw fo (.lst (fs++ls))):=Tk.lst ef;show tSeq _ _ _ _ (upd Hw fo (.lst (fs++ls)));generalize upd Hw fo _=H1 at ef1 el1 gw1 tk1 ⊢;refine⟨(by show 0<=sizeLine;decide),λ dp hdp=>?_⟩;have g4:=zAD (o:=.lst []) hdp;have hdpH:H dp=none:=gw1.free hdp;have ndf:dp≠fo:=Ne.symm (zAR ef1 hdp);have ndl:dp≠l:=Ne.symm (zAR el1 hdp);refine⟨_,rfl,l,rfl,⟨ls,SqL.of (g4 _ _ el1)⟩,?_⟩;refine zC2 (xs:=ls) (λ i σ' H'=>E4 λ(dps:List V) (s5 s6 s7:Option V)=>A7 (σ'=[some v,some (.ref d),some (.ref fo),some (.ref l),some (.ref dp),s5,s6,s7]) (Same H H') (Tk H1 H') (H' fo=some (.lst (fs++ls))) (H' l=some (.lst ls)) (H' dp=some (.lst dps)) (Paired (PWt H') ((L.take i).flatMap (zBH (rowF rs))) dps)) ?_ ?_ ?_ ?_
  ·exact⟨[],s5,s6,s7,rfl,gw1.trans g4,g4.tk,g4 _ _ ef1,g4 _ _ el1,zAC,.nil⟩
  ·rintro i σ1 H2 _ ⟨dps,s5,s6,s7,rfl,g5,k5,ef5,el5,ed5,p5⟩
   exact SqL.of el5
  ·rintro i x σ1 H2 hx ⟨dps,s5,s6,s7,rfl,g5,k5,ef5,el5,ed5,p5⟩
   obtain⟨⟨tq,wq⟩,eq,rq⟩:=zA5 pL hx;have hmem:(tq,wq)∈L:=lK eq;obtain⟨a,u,rfl,ha,ru⟩:=rq.mono (tk1.trans k5);dsimp only at ha ru;have sc5:=sc.mono g5.sf;obtain⟨o,rp,gv,eo,hrow⟩:=zJs sc5 hO tq.kd;obtain⟨c0,ks,er⟩:=zGI gF tq.kd;obtain⟨pa,hs,us,rfl,hpa,hhl,hparts⟩:=ru.all;have at0:atI (V.str tq.kd.s::hs++us) 0=some (.str tq.kd.s):=zAu (j:=0) rfl;refine⟨a,_,rfl,SqT.of ha,rfl,_,_,rfl,_,_,rfl,rfl,?_⟩;refine⟨_,rfl,d,rfl,.inl ⟨kvs,sc5.rd⟩,_,rfl,pa,_,0,_,rfl,rfl,SqT.of hpa,at0,o,gv,?_⟩;rw[eo];rw[er] at hrow;have hrow':SqT K H2 rp (V.int (c0:Int)::natV ks):=hrow;refine⟨_,rfl,.inl ⟨rfl,_,SqL.of ed5⟩,?_⟩;refine⟨_,rfl,tq,_,rfl,ru,λ pp H3 us3 g6 e6 hus=>?_⟩;have hrow6:SqT K H3 rp (V.int (c0:Int)::natV ks):=zIo g6 hrow';refine⟨_,rfl,1,rfl,rp,_,rfl,hrow6,zEt _ _,λ pz hpz=>?_⟩;rw[cut1];have g7:=zAD (o:=.tup (natV ks)) hpz;have ez:=@zAC H3 pz (.tup (natV ks));have ep7:=g7 _ _ e6;have hus7:Paired (Rep (upd H3 pz (.tup (natV ks)))) tq.parts us3:=Paired.mapP hus λ Ω Ω z=>z.mono g7.tk;have g57:=g6.trans g7;generalize upd H3 pz _=H4 at g57 ez ep7 hus7 ⊢;refine⟨pp,pz,us3,natV ks,rfl,ep7,ez,λ acc hacc=>?_⟩;have lus:us3.length=tq.parts.length:=zAw hus7
   have lch:(zBH (rowF rs) (tq,wq)).length=min us3.length (natV ks).length:=by
    unfold zBH;rw[List.length_zipWith,lus,zBx];dsimp only;rw[er];rfl
   have wq0:=(wL _ hmem);refine zIU (xs:=us3) (ys:=natV ks) (λ i H'=>Same H4 H'/\∃zs,H' acc=some (.lst zs)/\Paired (PWt H') ((zBH (rowF rs) (tq,wq)).take i) zs) ⟨zAD hacc,[],zAC,by rw[List.take_zero];exact .nil⟩ (λ i H' Ω h=>⟨h.1 _ _ ep7,h.1 _ _ ez⟩) ?_ ?_
   ·rintro j x y T Hx hx2 hy2 ⟨gx,zs,ezs,pz⟩ hT
    obtain⟨ti,eti,rti⟩:=zA5 hus7 hx2;obtain⟨kn,ekn,rfl⟩:=zKo hy2;have hkn:kn∈(rowF rs tq.kd).drop 1:=by rw[er];exact lK ekn
    have hk3:=(gF.ks _ kn hkn).2;have g8:=zAD (o:=.tup [x,.int (kn:Int)]) hT
    have hj:j<(zBH (rowF rs) (tq,wq)).length:=by
     rw[lch];have a1:=(lI.mp hx2).1;have a2:=(lI.mp hy2).1
     lia
    have lzs:zs.length<=j:=by rw[zAw pz,mQ];lia
    have echild:(zBH (rowF rs) (tq,wq))[j]?=some (ti,wq * kn):=by
     have ekn':((rowF rs tq.kd).drop 1)[j]?=some kn:=by rw[er];exact ekn
     unfold zBH;rw[List.getElem?_zipWith];dsimp only;rw[eti,ekn']
    have hk9:kn<=9:=by lia
    refine⟨T,_,rfl,SqT.of zAC,rfl,_,_,rfl,_,_,rfl,rfl,.skip (.skip (.keep .nil)),?_⟩;refine⟨_,rfl,_,rfl,_,rfl,_,_,rfl,rfl,⟨zIh (wq0.lt 46),zGD hk9⟩,d2,λ pt hpt=>?_⟩;have g9:=zAD (o:=.tup [x,.int ((wq:Int) * (kn:Int))]) hpt;have gz:=gx.trans (g8.trans g9);refine⟨zs,g9 _ _ (g8 _ _ ezs),zAf (by have:=lus;have hp3:tq.parts.length<=3:=zHf tq;lia),zAz gz hacc,_,zAC,?_⟩;rw[zBL echild];have tk9:Tk Hx _:=g8.tk.trans (g9.tk.trans (Tk.lst (o:=.lst (zs++[.ref pt])) (g9 _ _ (g8 _ _ ezs))));have tk8:Tk _ _:=(Tk.lst (o:=.lst (zs++[.ref pt])) (g9 _ _ (g8 _ _ ezs)));refine zBG (Paired.mapP pz λ Ω Ω z=>z.mono tk9) (.cons ⟨pt,x,rfl,tk8 _ _ ?_,rti.mono (gx.tk.trans tk9)⟩ .nil);rw[zAC,Int.natCast_mul]
   rintro H5 ⟨g8,zs,ezs,pz⟩;rw[nB 31] at pz;have g58:=g57.trans g8;have ed8:=g58 _ _ ed5;have lz:zs.length=(zBH (rowF rs) (tq,wq)).length:=zAw pz;have ldp:dps.length=((L.take i).flatMap (zBH (rowF rs))).length:=zAw p5
   have hflat:((L.take (i+1)).flatMap (zBH (rowF rs)))=((L.take i).flatMap (zBH (rowF rs)))++zBH (rowF rs) (tq,wq):=by
    rw[zBL eq,List.flatMap_append];simp
   have hlen:dps.length+zs.length<=1000:=by
    have z1:=zJX (rowF rs) (L.take (i+1));rw[hflat,mK] at z1;have z2:=zIm L (i+1)
    lia
   refine⟨dp,acc,dps,zs,rfl,rfl,ed8,ezs,zA0 hlen,?_⟩;have tkz:Tk H5 (upd H5 dp (.lst (dps++zs))):=Tk.lst ed8;refine⟨dps++zs,_,_,_,rfl,zAz (g5.trans g58) hdpH,k5.trans (g58.tk.trans tkz),by rw[zAO (Ne.symm ndf)];exact g58 _ _ ef5,by rw[zAO (Ne.symm ndl)];exact g58 _ _ el5,zAC,?_⟩;rw[hflat];exact zBG (Paired.mapP p5 λ Ω Ω z=>z.mono (g58.tk.trans tkz)) (Paired.mapP pz λ Ω Ω z=>z.mono tkz)
  ·rintro σ1 H2 ⟨dps,s5,s6,s7,rfl,g5,k5,ef5,el5,ed5,p5⟩
   rw[nB 31] at p5
   have hpos:0<L.length:=by
    rw[←lL];cases ls with
    |nil=>simp at c
    |cons _ _=>simp
   refine⟨_,rfl,szZ (L.flatMap (zBH (rowF rs))),by lia,dp,dps,fs++ls,L.flatMap (zBH (rowF rs)),Fd++L,some (.ref dp),s5,s6,s7,rfl,g5,hdpH,ndf,ef5,ed5,zBG (Paired.mapP pF λ Ω Ω z=>z.mono (tk1.trans k5)) (Paired.mapP pL λ Ω Ω z=>z.mono (tk1.trans k5)),p5,rfl,?_,?_,?_,zG4 gF wL⟩
   ·intro β
    have:=zDX (rowF rs) β L;have:=hsum β;rw[zE2]
    lia
   ·rw[mK]
    lia
   ·intro p hp
    rcases lJ.mp hp with h|h
    ·exact wF p h
    ·exact wL p h
 ·have e0:ls=[]:=by
   cases ls with
   |nil=>rfl
   |cons _ _=>simp at c
  have eL:L=[]:=by
   subst e0;cases L with
   |nil=>rfl
   |cons _ _=>simp at lL
  subst eL;refine⟨_,rfl,q fo fs Fd Hw gw ef pF (λ β=>?_) 31 wF⟩;have:=hsum β;have:sumSB (rowF rs) β []=0:=rfl
  lia
def zCo:Sp:=λ vs H Q Ω=>E4 λ(t:Tr) (v:V) (d:Addr) (rs:Scl)=>A5 (vs=[v,.ref d]) (Rep H t v) (ScAt H d rs) (t.size<=300) (∀H':Hp,Sf H H'->Q (.int ((wrt (rowF rs) t:Nat):Int)) H')
theorem zI8 (F:Fun K "worth" "worth" zEW f fd) (z_sum:mg "sum" = none) (zMP:mg "ONES" = some (.ref oa)) (hO:OnesK K oa)
  (zMQ:FnB P w K mg base k "check_scale" g1 gd1 ["scale"] zBT) (zMR:FnB P w K mg base k "weighed_parts" g2 gd2 ["tree", "scale"] zC5):FnOk P w K mg base CX0 (k+1) f fd ["tree", "scale"] zCo:=by
 refine F.ok zGH 55 38
 ·obtain⟨t,v,d,rs,rfl,_⟩:=h
  rfl
 obtain⟨t,v,d,rs,rfl,hR,hsc,hsz,q⟩:=h;have hu:=hu_of hr
 refine⟨_,(zAF (zAk (pe_cl zMQ hr (zAA 90 zAB)))
  (zAH (zAs (zAI (zIY rfl) 39 z_sum zId (zAA (zCX ["part", "weight", "scale"] [none,none,some 1] rfl (zC6 (pe_cl zMR hr (zAA (pv 0) (zAA 90 zAB)))) (λ Ω Ω Ω Ω Ω=>(zHe (K:=K) (n:=2) rfl rfl (zAb (zBz (i:=0) (show List.Nodup (["part", "weight", "scale"]:List Str) by symm) rfl (Or.inl rfl)) (zAb (zBz (i:=1) (show List.Nodup (["part", "weight", "scale"]:List Str) by symm) rfl (Or.inl rfl)) zBS)))) (λ Ω Ω Ω Ω Ω=>zDe) (λ Ω Ω Ω Ω Ω=>(pe_op zHj 90 (pe_ix (r:=rIxT K) zA4 (zDR hu (pv 2) (iC (r:=rIxT K) zA4 (pv 0)) (zAN (v:=.ref _) 39 zMP 39) ⟨rfl,rfl,rfl,rfl⟩) zAE (λ Ω Ω=>rfl)))) rfl) zAB))))),?_⟩
 refine⟨_,rfl,d,rs,rfl,hsc,λ H1 gf=>?_⟩;have sc1:=hsc.mono gf;refine⟨_,rfl,_,rfl,t,v,d,rs,rfl,hR.mono gf.tk,sc1,hsz,λ l us L H2 g2 el pL hC hlen hW=>⟨l,rfl,⟨us,SqL.of el⟩,λ acc hacc=>?_⟩⟩;obtain⟨kvs,sc2⟩:=sc1.mono g2.sf;have gF:GoodF (rowF rs):=zDd (zDq sc2.ps);refine zGx (xs:=us) (λ i H'=>Same H2 H'/\H' acc=some (.lst (((L.take i).map λ p=>((p.2 * (rowF rs p.1.kd).getD 0 0:Nat):Int)).map V.int))) ⟨zAD hacc,zAC⟩ (λ i H' Ω h=>SqL.of (h.1 _ _ el)) ?_ ?_
 ·rintro i x Hx hx ⟨gx,ex⟩
  obtain⟨⟨tq,wq⟩,eq,rq⟩:=zA5 pL hx;have hi:i<us.length:=(lI.mp hx).1;have lu:=zAw pL;obtain⟨a,u,rfl,ha,ru⟩:=rq.mono gx.tk;dsimp only at ha ru;have sc3:=sc2.mono gx.sf;obtain⟨o,rp,gv,eo,hrow⟩:=zJs sc3 hO tq.kd;obtain⟨c0,ks,er⟩:=zGI gF tq.kd;obtain⟨pa,hs,us',rfl,hpa,hhl,hparts⟩:=ru.all;have at0:atI (V.str tq.kd.s::hs++us') 0=some (.str tq.kd.s):=zAu (j:=0) rfl;have c9:c0<=9:=by have:=gF.c9 tq.kd;rw[er] at this;simpa using this
  rw[er] at hrow;refine⟨a,_,rfl,SqT.of ha,rfl,_,_,rfl,_,_,rfl,rfl,.skip (.skip (.keep .nil)),?_⟩;refine⟨_,rfl,_,rfl,d,rfl,.inl ⟨kvs,sc3.rd⟩,_,rfl,pa,_,0,_,rfl,rfl,SqT.of hpa,at0,o,gv,?_⟩;refine⟨rp,_,0,_,eo,rfl,hrow,zAu (j:=0) rfl,_,_,rfl,rfl,⟨zIh ((hW _ (lK eq)).lt 46),zGD c9⟩,_,ex,zAf (by simp;lia),zAz gx hacc,?_⟩;rw[zAC,zBL eq,mU,mU];have e1:(rowF rs tq.kd).getD 0 0=c0:=by rw[er];rfl
  simp only[mL,List.map_nil,e1,Int.natCast_mul]
 rintro H3 ⟨g3,e3⟩;rw[nB (by rw[zAw pL];exact lR _)] at e3;refine⟨acc,_,rfl,e3,?_⟩;rw[zF6 (λ p=>p.2 * (rowF rs p.1.kd).getD 0 0)]
 have e:(L.map λ p=>p.2 * (rowF rs p.1.kd).getD 0 0).sum=wrt (rowF rs) t:=by
  rw[zCm gF t];exact hC (own (rowF rs))
 rw[e];exact q H3 (gf.trans (g2.trans g3).sf)
abbrev zB8:Stmt:=top 76
theorem zBU:zAX ["shape", "scale", "weights", "part", "weight"] ["shape", "scale"] (zAJ zB8):=scI
abbrev zEX:Stmt:=top 77
theorem zCr:zAX ["rule", "scale", "kinds", "left", "right"] ["rule", "scale"] (zAJ zEX):=scI
def zHJ:Sp:=λ vs H Q Ω=>E4 λ(t:Tr) (v:V) (d:Addr) (rs:Scl)=>A5 (vs=[v,.ref d]) (Rep H t v) (ScAt H d rs) (t.size<=300) (∀(e:Addr) (kvs:List 97) (H':Hp),Same H H'->H' e=some 84->GWt (λ g=>gw (rowF rs) g t) kvs->kvs.length<=300->Q (.ref e) H')
theorem zKj (F:Fun K "gap_weights" "gap_weights" zB8 f fd)
  (zMR:FnB P w K mg base k "weighed_parts" g1 gd1 ["tree", "scale"] zC5):FnOk P w K mg base CX0 (k+1) f fd ["shape", "scale"] zHJ:=by
 refine F.ok zBU 55 38
 ·obtain⟨t,v,d,rs,rfl,_⟩:=h
  rfl
 obtain⟨t,v,d,rs,rfl,hR,hsc,hsz,q⟩:=h;have hu:=hu_of hr
 refine⟨_,(zAF (pS (i:=2) zBU.nd zCx)
  (zAF (zBQ PassesOwn.never rfl (zC6 (pe_cl zMR hr (zAA (pv 0) (zAA 90 zAB)))) (zCG rfl (zAb (pGn (i:=3) zBU.nd) (zAb (pGn (i:=4) zBU.nd) zBS))) (zAH (ps_if (zAT op_eq (iC (r:=rIxT K) zA4 (pv 3)) zAQ (zAe _)) (zAH (zFe hu (pv 2) (iC (r:=rIxT K) zA4 (pv 3)) (pe_op zA8 (zDR hu (pv 2) (iC (r:=rIxT K) zA4 (pv 3)) zAE ⟨rfl,rfl,rfl,rfl⟩) (pv 4)) rfl)) zAV)))
  (zAH (zAs (pv 2))))),?_⟩
 refine λ dw hdw=>?_;have g1:=zAD (o:=.dK []) hdw;refine⟨_,rfl,_,rfl,t,v,d,rs,rfl,hR.mono g1.tk,hsc.mono g1.sf,hsz,λ l us L H2 g2 el pL hC hlen hW=>⟨l,rfl,⟨us,SqL.of el⟩,?_⟩⟩;have lu:us.length=L.length:=zAw pL;have edw:H2 dw=some (.dK []):=g2 _ _ zAC;have nld:l≠dw:=λ z=>by rw[z,edw] at el;cases el
 refine zC2 (xs:=us) (λ i σ' H'=>E3 λ(kvs:List (Key × V)) (s3 s4:Option V)=>A7 (σ'=[some v,some (.ref d),some (.ref dw),s3,s4]) (Same H H') (Tk H2 H') (H' l=some (.lst us)) (H' dw=some 84) (GWt (λ g=>sumCB (isG g) (L.take i)) kvs) (kvs.length<=i)) ?_ ?_ ?_ ?_
 ·exact⟨[],none,none,rfl,g1.trans g2,.refl _,el,edw,⟨by simp,λ g=>.inr ⟨rfl,rfl⟩⟩,lR _⟩
 ·rintro i σ' H' _ ⟨kvs,s3,s4,rfl,g,tk,el',ed,gt,le⟩
  exact SqL.of el'
 ·rintro i x σ' H' hx ⟨kvs,s3,s4,rfl,g,tk,el',ed,gt,le⟩
  obtain⟨⟨tq,wq⟩,eq,rq⟩:=zA5 pL hx;have hi:i<us.length:=(lI.mp hx).1;obtain⟨a,u,rfl,ha,ru⟩:=rq.mono tk;dsimp only at ha ru;obtain⟨pa,hs,us',rfl,hpa,hhl,hparts⟩:=ru.all;have at0:atI (V.str tq.kd.s::hs++us') 0=some (.str tq.kd.s):=zAu (j:=0) rfl;refine⟨a,_,rfl,SqT.of ha,rfl,_,_,rfl,_,_,rfl,rfl,?_⟩;refine⟨_,rfl,pa,_,0,_,rfl,rfl,SqT.of hpa,at0,rfl,_,rfl,ite2 (λ c=>?_) (λ c=>?_)⟩
  ·have z:tq.kd = .gap:=Kd.eq_iff.mp (lT c)
   cases tq with
   |gap x as =>
    obtain⟨a',b',us2,e,ha',_⟩:=ru;cases e;have at1:atI [V.str "gap", .str x,.ref b'] 1=some (.str x):=zAu (j:=1) rfl;have gv:DGet H' dw (.str x) (valV kvs (Sum.inr x:Key)):=.inl ⟨kvs,Sum.inr x,.inl ed,rfl,rfl⟩;refine⟨_,rfl,dw,rfl,.inl ⟨kvs,.inl ed⟩,_,rfl,pa,_,1,_,rfl,rfl,SqT.of ha',at1,_,gv,?_⟩;have gx:=gt.get x;rw[gx];refine⟨_,rfl,_,_,rfl,rfl,_,rfl,_,rfl,pa,_,1,_,rfl,rfl,SqT.of ha',at1,dw,_,rfl,DPut.k (k:=Sum.inr x) ed (zAf 31),?_⟩
    have e1:((sumCB (isG x) (L.take i):Nat):Int)+(wq:Int)=((sumCB (isG x) (L.take (i+1)):Nat):Int):=by
     rw[zC4 _ eq,show isG x (Tr.gap x as)=1 from if_pos rfl];simp
    show Ends.nx _ _ (upd H' dw (.dK (putK kvs (Sum.inr x) (V.int (((sumCB (isG x) (L.take i):Nat):Int)+(wq:Int))))));rw[e1];have tkd:Tk H' (upd H' dw (.dK (putK kvs (Sum.inr x:Key) (.int ((sumCB (isG x) (L.take (i+1)):Nat):Int))))):=Tk.dk ed;refine⟨_,_,_,rfl,zAz g hdw,tk.trans tkd,by rw[zAO nld];exact el',zAC,?_,?_⟩
    ·refine GWt.put (f':=λ g=>sumCB (isG g) (L.take (i+1))) gt (x:=x) λ g hg=>?_
     have e0:isG g (Tr.gap x as)=0:=if_neg (λ z=>hg z.symm);show sumCB (isG g) (L.take (i+1))=sumCB (isG g) (L.take i);rw[zC4 _ eq,e0,Nat.mul_zero,Nat.add_zero]
    ·have:=zBr kvs (Sum.inr x:Key) (.int ((sumCB (isG x) (L.take (i+1)):Nat):Int))
     lia
   |bin o a b=>cases o<;>cases z
   |_=>cases z
  ·have z:¬tq.kd = .gap:=λ z=>c (lU (by rw[z];rfl))
   refine⟨kvs,_,_,rfl,g,tk,el',ed,gt.congr λ g=>?_,by lia⟩;rw[zC4 _ eq,zKr z,Nat.mul_zero,Nat.add_zero]
 ·rintro σ' H' ⟨kvs,s3,s4,rfl,g,tk,el',ed,gt,le⟩
  rw[nB 31] at gt;exact⟨_,rfl,q dw kvs H' g ed (gt.congr λ g=>(hC (isG g)).symm) 31⟩
def zCH (H:Hp) (r:Addr) (t1 t2:Tr) (kds:List (Str × Str)):Prop:=∃(u1 u2:V) (ka:Addr) (o:Obj) (ys:List V),H r=some (.tup [u1,u2,.ref ka])/\Rep H t1 u1/\Rep H t2 u2/\H ka=some (.frz o (.tup ys))/\o.dict=none/\Paired (PrV H) ys (kdV kds)
theorem zJ6 {H H':Hp}(g:Sf H H') {a:Addr}{o:Obj}{u:HO}(h:H a=some (.frz o u)):H' a=some (.frz o u):=g.keep id h
theorem zCH.mono {H H':Hp}(g:Sf H H') {r:Addr}{t1 t2:Tr}{kds:List (Str × Str)}:zCH H r t1 t2 kds->zCH H' r t1 t2 kds
 |⟨u1,u2,ka,o,ys,h1,h2,h3,h4,h5,h6⟩=>⟨u1,u2,ka,o,ys,g.tk _ _ h1,h2.mono g.tk,h3.mono g.tk,zJ6 g h4,h5,Paired.mapP h6 λ _ _ ⟨b,e,hb⟩=>⟨b,e,g.tk _ _ hb⟩⟩
def zDO:Sp:=λ vs H Q Ω=>E6 λ(r d:Addr) (t1 t2:Tr) (kds:List (Str × Str)) (rs:Scl)=>A8 (vs=[.ref r,.ref d]) (zCH H r t1 t2 kds) (t1.size<=122) (t2.size<=122) ((kds.map (·.1)).Nodup) (kds.length<=300) (ScAt H d rs) (∀(b:Bool) (H':Hp),Sf H H'->(b=true↔fallP (rowF rs) t1 t2 kds)->Q (.bl b) H')
theorem zJF (F:Fun K "falls" "falls" zEX f fd) (z_dict:mg "dict" = none) (z_all:mg "all" = none)
  (zMS:FnB P w K mg base k "worth" g1 gd1 ["tree", "scale"] zCo) (zMT:FnB P w K mg base k "gap_weights" g2 gd2 ["shape", "scale"] zHJ):FnOk P w K mg base CX0 (k+1) f fd ["rule", "scale"] zDO:=by
 refine F.ok zCr 55 38
 ·obtain⟨r,d,t1,t2,kds,rs,rfl,_⟩:=h
  rfl
 obtain⟨r,d,t1,t2,kds,rs,rfl,hR,hs1,hs2,nd,hkl,hsc,q⟩:=h;have hu:=hu_of hr
 refine⟨_,(zAF (ps_if (zAT op_le (pe_cl zMS hr (zAA (iC (r:=rIxT K) zA4 (pv 0)) (zAA 90 zAB))) (pe_cl zMS hr (zAA (iC (r:=rIxT K) zA4 (pv 0)) (zAA 90 zAB))) (zAe _)) (zAH (zAs pe_bl)) zAV)
  (zAF (zE6 (i:=2) zCr.nd rfl (Or.inr rfl) (zDg (zEL rfl) 39 z_dict rV (zAA (iC (r:=rIxT K) zA4 (pv 0)) zAB)))
  (zAF (zE6 (i:=3) zCr.nd rfl (Or.inr rfl) (pe_cl zMT hr (zAA (iC (r:=rIxT K) zA4 (pv 0)) (zAA 90 zAB))))
  (zAF (zE6 (i:=4) zCr.nd rfl (Or.inr rfl) (pe_cl zMT hr (zAA (iC (r:=rIxT K) zA4 (pv 0)) (zAA 90 zAB))))
  (zAH (zAs (zAI (zDw rfl) 39 z_all PyProof.Rows.boot_all (zAA (zCX ["gap", "right", "left", "kinds"] [none,some 4,some 3,some 2] rfl (zFg (pv 4)) (λ Ω Ω Ω Ω Ω=>(zBz (i:=0) (show List.Nodup (["gap", "right", "left", "kinds"]:List Str) by symm) rfl (Or.inl rfl))) (λ Ω Ω Ω Ω Ω=>(zKU (zAT op_ne (zI7 hu (pv 3) (pv 0) ⟨rfl,rfl,rfl,rfl⟩) zAQ (zAe _)))) (λ Ω Ω Ω Ω Ω=>(zFi op_ge (zDR hu (pv 2) (pv 0) zAE ⟨rfl,rfl,rfl,rfl⟩) (zEf hu 90 (pv 0) (λ Ω Ω=>rfl)) (zAe _))) rfl) zAB)))))))),?_⟩
 obtain⟨u1,u2,ka,o,ys,er,r1,r2,ek,hdn,pk⟩:=hR;have at0:atI [u1,u2,V.ref ka] 0=some u1:=zAu (j:=0) rfl;have at1:atI [u1,u2,V.ref ka] 1=some u2:=zAu (j:=1) rfl;have at2:atI [u1,u2,V.ref ka] 2=some (.ref ka):=zAu (j:=2) rfl;refine⟨_,rfl,r,_,0,_,rfl,rfl,SqT.of er,at0,_,rfl,t1,u1,d,rs,rfl,r1,hsc,by lia,λ H1 f1=>?_⟩;refine⟨_,rfl,r,_,1,_,rfl,rfl,SqT.of (f1.tk _ _ er),at1,_,rfl,t2,u2,d,rs,rfl,r2.mono f1.tk,hsc.mono f1,by lia,λ H2 f2=>?_⟩;have f12:=f1.trans f2;refine⟨_,_,rfl,rfl,_,rfl,ite2 (λ c=>?_) (λ c=>?_)⟩
 ·have c':((wrt (rowF rs) t1:Nat):Int)<=((wrt (rowF rs) t2:Nat):Int):=lT c
  refine q false H2 f12 ⟨(λ z=>nomatch z),λ z=>?_⟩
  have:=z.1
  lia
 have c':¬((wrt (rowF rs) t1:Nat):Int)<=((wrt (rowF rs) t2:Nat):Int):=λ z=>c (lU z);have pk2:Paired (PrV H2) ys (kdV kds):=Paired.mapP pk λ _ _ ⟨b,e,hb⟩=>⟨b,e,f12.tk _ _ hb⟩;refine⟨_,rfl,r,_,2,_,rfl,rfl,SqT.of (f12.tk _ _ er),at2,ka,o,ys,kdV kds,rfl,zJ6 f12 ek,hdn,pk2,by unfold kdV;rw[lC];lia,λ dk hdk=>?_⟩;have g3:=zAD (o:=.dK (zBo [] (kdV kds))) hdk;have edk:=@zAC H2 dk (.dK (zBo [] (kdV kds)));generalize upd H2 dk _=H3 at g3 edk ⊢;have f13:=f12.trans g3.sf;refine⟨_,rfl,r,_,0,_,rfl,rfl,SqT.of (f13.tk _ _ er),at0,_,rfl,t1,u1,d,rs,rfl,r1.mono f13.tk,hsc.mono f13,by lia,λ dl kl H4 g4 edl gl hl=>?_⟩;have f14:=f13.trans g4.sf;refine⟨_,rfl,r,_,1,_,rfl,rfl,SqT.of (f14.tk _ _ er),at1,_,rfl,t2,u2,d,rs,rfl,r2.mono f14.tk,hsc.mono f14,by lia,λ dr kr H5 g5 edr gr hlr=>?_⟩;have f15:=f14.trans g5.sf;have edk5:=g5 _ _ (g4 _ _ edk);have edl5:=g5 _ _ edl;refine⟨_,rfl,dr,kr,rfl,.inr ⟨edr,λ ob=>?_⟩⟩;have f56:=Sf.frz ob edr;have edr6:=@zAC H5 dr (.frz ob (.dK kr));generalize upd H5 dr _=H6 at f56 edr6 ⊢;have rdk:Rd H6 dk (.dK (zBo [] (kdV kds))):=f56.rd (.inl edk5);have rdl:Rd H6 dl (.dK kl):=f56.rd (.inl edl5);refine λ acc hacc=>?_
 refine zGy (o:=ob) (a:=dr) (kvs:=kr) (λ i H'=>Same H6 H'/\∃bs:List Bool,H' acc=some (.lst (bs.map V.bl))/\bs.length<=i /\
   ((∀b∈bs,b=true)↔∀p∈kr.take i,∀g:Str,p.1=(Sum.inr g:Key)->(g,("number" : Str))∉kds->gw (rowF rs) g t2<=gw (rowF rs) g t1)) ?_ ?_ ?_ ?_
 ·exact⟨zAD hacc,[],zAC,lR _,by simp⟩
 ·rintro i H' _ ⟨g,_⟩
  exact g _ _ edr6
 ·rintro i p H' hp ⟨g,bs,eb,lb,hb⟩
  obtain⟨x,ex⟩:=gr.ks p (lK hp);have hi:i<kr.length:=(lI.mp hp).1;obtain⟨p1,p2⟩:=p;dsimp only at ex;subst ex;obtain⟨z,ez,sz,hz⟩:=zL6 nd x;have rdk':=g.sf.rd rdk;have rdl':=g.sf.rd rdl;have rdr':Rd H' dr (.dK kr):=.inr ⟨ob,g _ _ edr6⟩;refine⟨.skip (.keep (.keep (.keep .nil))),_,rfl,dk,rfl,.inl ⟨_,rdk'⟩,_,rfl,_,.inl ⟨_,Sum.inr x,rdk',rfl,rfl⟩,?_⟩;rw[ez];refine⟨sz,_,rfl,?_⟩;have take1:=zBL hp;refine ite2 (λ c=>?_) (λ c=>?_)
  ·have nn:(x,("number" : Str))∉kds:=λ w=>by
    have:=hz.mpr w;rw[this] at c;simp at c
   have gvl:DGet H' dl (.str x) (valV kl (Sum.inr x:Key)):=.inl ⟨kl,Sum.inr x,rdl',rfl,rfl⟩
   have evr:valV kr (Sum.inr x:Key)=some (.int ((gw (rowF rs) x t2:Nat):Int)):=by
    rcases gr.vl x with h|⟨h,_⟩
    ·exact h
    ·exfalso
     have:(kr.find? λ kv=>decide (kv.1=(Sum.inr x:Key)))=none:=by
      unfold valV at h;exact Option.map_eq_none_iff.mp h
     have:=List.find?_eq_none.mp this _ (lK hp);simp at this
   have gvr:DGet H' dr (.str x) (some (.int ((gw (rowF rs) x t2:Nat):Int))):=.inl ⟨kr,Sum.inr x,rdr',rfl,evr.symm⟩;refine⟨_,rfl,dl,rfl,.inl ⟨kl,rdl'⟩,_,rfl,_,gvl,?_⟩;rw[gl.get x];refine⟨_,rfl,_,rfl,dr,_,rfl,gvr,_,_,rfl,rfl,_,eb,zAf (by rw[lC];lia),zAz g hacc,bs++[decide (((gw (rowF rs) x t2:Nat):Int)<=((gw (rowF rs) x t1:Nat):Int))],?_,by simp;lia,?_⟩
   ·rw[zAC,mU]
    rfl
   ·rw[take1]
    constructor
    ·intro hall p hpm g0 eg0 hn
     rcases lJ.mp hpm with h|h
     ·exact hb.mp (λ b hbm=>hall b (lJ.mpr (.inl hbm))) p h g0 eg0 hn
     ·have e:=mX.mp h
      subst e;have:=Sum.inr.inj eg0;subst this;have:=lT (hall _ (lJ.mpr (.inr (mX.mpr rfl))))
      lia
    ·intro hall b hbm
     rcases lJ.mp hbm with h|h
     ·exact hb.mpr (λ p hp'=>hall p (lJ.mpr (.inl hp'))) b h
     ·rw[mX.mp h]
      have:=hall _ (lJ.mpr (.inr (mX.mpr rfl))) x rfl nn;exact lU 31
  ·have nn:(x,("number" : Str))∈kds:=by
    refine hz.mp ?_;have:decide (z=V.str "number")=true:=by simpa using c
    exact lT this
   refine⟨g,bs,eb,by lia,?_⟩;rw[take1];constructor
   ·intro hall p hpm g0 eg0 hn
    rcases lJ.mp hpm with h|h
    ·exact hb.mp hall p h g0 eg0 hn
    ·have e:=mX.mp h
     subst e;have:=Sum.inr.inj eg0;subst this;exact absurd nn hn
   ·intro hall
    exact hb.mpr λ p hp'=>hall p (lJ.mpr (.inl hp'))
 ·rintro H7 ⟨g,bs,eb,lb,hb⟩
  rw[mR] at hb;refine⟨acc,bs,rfl,eb,q _ H7 (f15.trans (f56.trans g.sf)) ?_⟩;rw[List.all_eq_true];constructor
  ·intro hall
   refine⟨by lia,λ g0 hn=>?_⟩;rcases gr.vl g0 with h|⟨_,h⟩
   ·obtain⟨p,hp,_⟩:=lV.mp (show (kr.find? λ kv=>decide (kv.1=(Sum.inr g0:Key))).map (·.2)=_ from h)
    exact hb.mp (λ b hb'=>hall b hb') p (List.mem_of_find?_eq_some hp) g0 (by have hk:=List.find?_some hp;exact lT hk) hn
   ·lia
  ·intro hf b hbm
   exact hb.mpr (λ p Ω g0 Ω hn=>hf.2 g0 hn) b hbm
abbrev zB7:Stmt:=top 91
theorem zDz:zAX ["_law_script", "_law_k"] ["_law_script", "_law_k"] (zAJ zB7):=scI
abbrev zCe:Stmt:=top 92
theorem zAm:zAX ["_law_cells", "_law_scale_here", "_law_sign", "_law_cell", "_law_many", "_law_row", "_law_rest", "_law_k"] ["_law_cells"] (zAJ zCe):=scI
def zEA (K:W.Frag):Sp:=λ vs H Q Ω=>E3 λ(a:Addr) (ns:List Int) (k:Int)=>A4 (vs=[.ref a,.int k]) (SqL K H a (ns.map V.int)) (0<=k) (Q (.int (ns.getD k.toNat 0)) H)
theorem zGl (F:Fun K "_law_cell_at" "_law_cell_at" zB7 f fd) (z_len:mg "len" = none):FnOk P w K mg base CX0 (k+1) f fd ["_law_script", "_law_k"] (zEA K):=by
 refine F.ok zDz 55 38
 ·obtain⟨a,ns,k,rfl,_⟩:=h
  rfl
 obtain⟨a,ns,k,rfl,hS,h0,q⟩:=h
 refine⟨_,(zAF (ps_if (zAT op_lt 90 (cL z_len (zAA (pv 0) zAB)) (zAe _)) (zAH (zAs (pe_ix (r:=rIxL K) zBI (pv 0) 90 (λ Ω Ω=>rfl)))) zAV)
  (zAH (zAs zAE))),?_⟩
 refine⟨_,rfl,_,rfl,a,_,rfl,.inl hS,_,_,rfl,rfl,_,rfl,?_⟩;refine ite2 (λ c=>?_) (λ c=>?_)
 ·have c':k<((ns.map V.int).length:Int):=lT c
  rw[lC] at c';have hl:k.toNat<ns.length:=by lia
  have e:((k.toNat:Nat):Int)=k:=by lia
  have at_:=zAu (xs:=ns.map V.int) (j:=k.toNat) (v:=.int ns[k.toNat]) (by simp[hl]);rw[e] at at_;refine⟨_,rfl,_,rfl,a,_,k,_,rfl,rfl,hS,at_,?_⟩;have e2:ns.getD k.toNat 0=ns[k.toNat]:=by rw[List.getD_eq_getElem?_getD,nV hl,Option.getD_some]
  rw[←e2];exact q
 ·have c':¬k<((ns.map V.int).length:Int):=λ z=>c (lU z)
  rw[lC] at c'
  have e2:ns.getD k.toNat 0=0:=by
   rw[List.getD_eq_getElem?_getD,List.getElem?_eq_none 31];rfl
  rw[e2] at q;exact q
def zF9:Sp:=λ vs H Q Ω=>E2 λ(a:Addr) (cs:List Int)=>A4 (vs=[.ref a]) (H a=some (.lst (cs.map V.int))) (cs.length=7) (∀(d:Addr) (rs:Scl) (kvs:List 97) (H':Hp),Same H H'->H' d=some 84->ScD H' d rs kvs->kvs.length<=7->Q (.ref d) H')
theorem zJB (F:Fun K "_law_scale" "_law_scale" zCe f fd) (z_range:mg "range" = none) (z_zip:mg "zip" = none):FnOk P w K mg base CX0 (k+1) f fd ["_law_cells"] zF9:=by
 refine F.ok zAm 55 38
 ·obtain⟨a,cs,rfl,_⟩:=h
  rfl
 obtain⟨a,cs,rfl,ha,hcs,q⟩:=h;have hu:=hu_of hr
 refine⟨_,(zAF (pS (i:=1) zAm.nd zCx)
  (zAF (zBQ PassesOwn.never rfl (zKa 39 z_zip (zAA (zFh [.str "say", .str "add", .str "sub", .str "mul", .str "then", .str "if", .str "let"] 39:PE _ _ _) (zAA (pv 0) zAB))) (zCG rfl (zAb (pGn (i:=2) zAm.nd) (zAb (pGn (i:=3) zAm.nd) zBS))) (zAF (pS (i:=4) zAm.nd zAE)
  (zAF (ps_if (zAT op_eq (pv 2) zAQ (zAe _)) (zAH (pS (i:=4) zAm.nd zAE)) zAV)
  (zAF (ps_if (zAT op_eq (pv 2) zAQ (zAe _)) (zAH (pS (i:=4) zAm.nd zAE)) zAV)
  (zAH (ps_if (zAT op_gt (pe_op zAa (pv 3) zAE) zAE (zAe _)) (zAF (pS (i:=5) zAm.nd (zAc (zAA (pe_op zA8 zAE (pe_op zAa (pe_op zAr (pv 3) zAE) zAE)) zAB):PE _ _ _))
  (zAF (pS (i:=6) zAm.nd (pe_op zAr (pv 3) zAE))
  (zAF (zBQ PassesOwn.never rfl (zCv 39 z_range (zAA (pv 4) zAB)) (pGn (i:=7) zAm.nd) (zAF (pS (i:=5) zAm.nd (pe_op zB0 (pv 5) (zAc (zAA (pe_op zA8 zAE (pe_op zAa (pv 6) zAE)) zAB):PE _ _ _)))
  (zAH (pS (i:=6) zAm.nd (pe_op zAr (pv 6) zAE)))))
  (zAH (zFe hu 90 (pv 2) (pv 5) rfl))))) zAV))))))
  (zAH (zAs 90)))),?_⟩
 have d1:1<=sizeLine:=by decide
 refine λ d hd=>⟨(by show 7<=sizeLine;decide),λ ls hls=>⟨_,rfl,ls,a,sgsV,cs.map V.int,rfl,zAC,?_,?_⟩⟩
 ·exact zAD hls _ _ (zAD hd _ _ ha)
 have g0:=(zAD (o:=.dK []) hd).trans (zAD (o:=.lst [.str "say", .str "add", .str "sub", .str "mul", .str "then", .str "if", .str "let"]) hls);have ea0:(upd (upd H d (.dK [])) ls (.lst [.str "say", .str "add", .str "sub", .str "mul", .str "then", .str "if", .str "let"])) a=some (.lst (cs.map V.int)):=g0 _ _ ha;have ed0:(upd (upd H d (.dK [])) ls (.lst [.str "say", .str "add", .str "sub", .str "mul", .str "then", .str "if", .str "let"])) d=some (.dK []):=zAD (o:=.lst [.str "say", .str "add", .str "sub", .str "mul", .str "then", .str "if", .str "let"]) hls _ _ zAC;have el0:(upd (upd H d (.dK [])) ls (.lst [.str "say", .str "add", .str "sub", .str "mul", .str "then", .str "if", .str "let"])) ls=some (.lst sgsV):=zAC;have nld:ls≠d:=Ne.symm (zAR (zAC (H:=H) (a:=d) (o:=.dK [])) hls);have nad:a≠d:=zAR ha hd;show ∃W,_;generalize upd (upd H d _) ls _=H0 at g0 ea0 ed0 el0 ⊢;have lcs:min sgsV.length (cs.map V.int).length=7:=by rw[lC,hcs];rfl
 refine zJV (xs:=sgsV) (ys:=cs.map V.int) (λ i σ' H'=>E8 λ(rs:Scl) (kvs:List (Key × V)) (s2 s3 s4 s5 s6 s7:Option V)=>A9 (σ'=[some (.ref a),some (.ref d),s2,s3,s4,s5,s6,s7]) (Same H H') (H' a=some (.lst (cs.map V.int))) (H' ls=some (.lst sgsV)) (H' d=some 84) (Paired (RowAt H') rs kvs) ((kvs.map (·.1)).Nodup) (kvs.length<=i) (∀p∈rs,p.1∈sgs.take i)) ⟨[],[],none,none,none,none,none,none,rfl,g0,ea0,el0,ed0,.nil,List.nodup_nil,lR _,by simp⟩ ?_ ?_ ?_
 ·rintro i σ' H' _ ⟨rs,kvs,s2,s3,s4,s5,s6,s7,rfl,g,ea,el,ed,ps,nd,le,hin⟩
  exact⟨el,ea⟩
 ·rintro i x y T σ' H' hx hy ⟨rs,kvs,s2,s3,s4,s5,s6,s7,rfl,g,ea,el,ed,ps,nd,le,hin⟩ hT
  obtain⟨kd,hkd,rfl,hlf⟩:=zLL hx
  obtain⟨c,hc,rfl⟩:∃c,cs[i]?=some c/\y=V.int c:=by
   rw[mI] at hy;obtain⟨c,h1,h2⟩:=lV.mp hy;exact⟨c,h1,h2.symm⟩
  have hi7:i<7:=by
   have:=(lI.mp hx).1;exact this
  have gT:=zAD (o:=.tup [.str kd.s,.int c]) hT;have etk:=zBL hkd
  have fin0:∀p∈rs,p.1∈sgs.take (i+1):=λ p hp=>by
   rw[etk];exact lJ.mpr (.inl (hin p hp))
  refine⟨T,_,rfl,SqT.of zAC,rfl,_,_,rfl,_,_,rfl,rfl,?_⟩;have gA:=g.trans gT;have ea1:=gT _ _ ea;have el1:=gT _ _ el;have ed1:=gT _ _ ed;have ps1:Paired (RowAt (upd H' T (.tup [.str kd.s,.int c]))) rs kvs:=Paired.mapP ps λ Ω Ω z=>z.mono gT.tk;show tSeq _ _ _ _ (upd H' T (.tup [.str kd.s,.int c]));generalize upd H' T _=H1 at gA ea1 el1 ed1 ps1 ⊢;refine⟨_,rfl,rfl,_,rfl,ite2 (λ c1=>?_) (λ c1=>?_)⟩
  ·have ek:kd = .say:=Kd.eq_iff.mp (lT c1)
   have hm:kd.many=1:=by rw[ek];rfl
   refine⟨_,rfl,rfl,_,rfl,iteN (by rw[ek];symm) ?_⟩;refine⟨_,rfl,_,_,rfl,rfl,(show (0:Int)<3 by decide),_,_,rfl,rfl,_,rfl,ite2 (λ Ω=>?_) (λ Ω=>?_)⟩
   ·have m0:=rJ (c / 3) (show (9:Int)≠0 by decide)
    have m1:=rK (c / 3) (show (0:Int)<9 by decide);refine⟨_,rfl,_,_,rfl,rfl,⟨(show (0:Int)<3 by decide),(show (3:Int)<1073741824 by decide)⟩,_,_,rfl,rfl,(show (0:Int)<9 by decide),_,_,rfl,rfl,d1,λ p1 hp1=>?_⟩;refine⟨_,rfl,_,_,rfl,rfl,⟨(show (0:Int)<27 by decide),(show (27:Int)<1073741824 by decide)⟩,?_⟩;dsimp only;generalize hc1:1+c / 3 % 9=c1v at hp1 ⊢;have gp:=zAD (o:=.tup [.int c1v]) hp1;refine⟨_,rfl,1,rfl,by decide,by decide,?_⟩;refine zCR (n:=(1:Int).toNat) (λ j σ' H'=>E4 λ(r:List Nat) (p:Addr) (z:Int) (s7:Option V)=>A7 (σ'=[some (.ref a),some (.ref d),some (.str kd.s),some (.int c),some (.int 1),some (.ref p),some (.int z),s7]) (Same H1 H') (H' p=some (.tup (natV r))) (r.length=j+1) (1<=r.getD 0 0) (r.getD 0 0<=9) (∀x∈r.drop 1,1<=x/\x<=3)) ?_ ?_ ?_
    ·refine⟨[c1v.toNat],p1,_,s7,rfl,gp,?_,rfl,?_,?_,by simp⟩
     ·rw[zAC]
      exact congrArg (λ x=>some (HO.tup x)) (zB2 [] c1v 31)
     ·show 1<=c1v.toNat
      lia
     ·show c1v.toNat<=9
      lia
    ·rintro j σ2 H2 hj ⟨r,p,z,s7,rfl,g2,ep,lr,b1,b9,bk⟩
     have hj3:j<1:=by simpa using hj
     have z0:=rJ z (show (3:Int)≠0 by decide);have z1:=rK z (show (0:Int)<3 by decide);refine⟨_,rfl,_,rfl,_,_,rfl,rfl,(show (0:Int)<3 by decide),_,_,rfl,rfl,d1,λ pt hpt=>?_⟩;have g3:=zAD (o:=.tup [.int (1+z % 3)]) hpt;refine⟨p,pt,_,_,rfl,rfl,g3 _ _ ep,zAC,zA0 (by rw[zBx];simp;lia),λ p' H3 g4 e4=>?_⟩;refine⟨_,rfl,_,_,rfl,rfl,⟨(show (0:Int)<3 by decide),(show (3:Int)<1073741824 by decide)⟩,?_⟩;rw[zB2 r (1+z % 3) 31] at e4
     obtain⟨r0,rt,er⟩:∃r0 rt,r=r0::rt:=by
      cases r with
      |nil=>simp at lr
      |cons r0 rt=>exact⟨r0,rt,rfl⟩
     subst er;refine⟨(r0::rt)++[(1+z % 3).toNat],p',_,_,rfl,g2.trans (g3.trans g4),e4,by simp at lr ⊢;lia,b1,b9,?_⟩;intro x hx;have hx':x∈rt++[(1+z % 3).toNat]:=hx;rcases lJ.mp hx' with h|h
     ·exact bk x h
     ·have:=mX.mp h
      lia
    ·rintro σ2 H2 ⟨r,p,z,s7,rfl,g2,ep,lr,b1,b9,bk⟩
     have ed2:=g2 _ _ ed1
     have nv:valV kvs (Sum.inr kd.s:Key)=none:=by
      rcases zCI ps1 kd with ⟨_,h⟩|⟨r',b,h,_⟩
      ·exact h
      ·rw[zCZ (rs:=rs) (k:=kd) ?_] at h
       ·cases h
       ·intro z
        obtain⟨p0,hp0,ez⟩:=mC.mp z;exact zFb hkd (ez▸hin p0 hp0)
     refine⟨_,rfl,_,rfl,_,rfl,d,_,rfl,DPut.k (k:=Sum.inr kd.s) ed2 (zAf 31),?_⟩;have tkd:Tk H2 (upd H2 d (.dK (putK kvs (Sum.inr kd.s:Key) (.ref p)))):=Tk.dk ed2;refine⟨rs++[(kd,r)],putK kvs (Sum.inr kd.s:Key) (.ref p),_,_,_,_,_,_,rfl,zAz (gA.trans g2) hd,by rw[zAO nad];exact g2 _ _ ea1,by rw[zAO nld];exact g2 _ _ el1,zAC,?_,zFl _ nd nv,?_,?_⟩
     ·have pz:Paired (RowAt (upd H2 d (.dK (putK kvs (Sum.inr kd.s:Key) (.ref p))))) (rs++[(kd,r)]) (kvs++[((Sum.inr kd.s:Key),V.ref p)]):=zCC (Paired.mapP ps1 λ Ω Ω z=>z.mono (g2.tk.trans tkd)) (.cons ⟨⟨hlf,by rw[lr,hm];rfl,b1,b9,bk⟩,rfl,p,rfl,tkd _ _ ep⟩ .nil)
      rw[←zCA (V.ref p) nv] at pz;exact pz
     ·rw[zCA _ nv,mK]
      show kvs.length+1<=i+1
      lia
     ·intro p0 hp0
      rcases lJ.mp hp0 with h|h
      ·exact fin0 p0 h
      ·rw[mX.mp h,etk]
       exact lJ.mpr (.inr 41)
   ·exact⟨rs,kvs,_,_,_,_,_,_,rfl,gA,ea1,el1,ed1,ps1,nd,by lia,fin0⟩
  ·refine⟨_,rfl,rfl,_,rfl,ite2 (λ c2=>?_) (λ c2=>?_)⟩
   ·have ek:kd = .ite:=Kd.eq_iff.mp (lT c2)
    have hm:kd.many=3:=by rw[ek];rfl
    refine⟨_,rfl,_,_,rfl,rfl,(show (0:Int)<3 by decide),_,_,rfl,rfl,_,rfl,ite2 (λ Ω=>?_) (λ Ω=>?_)⟩
    ·have m0:=rJ (c / 3) (show (9:Int)≠0 by decide)
     have m1:=rK (c / 3) (show (0:Int)<9 by decide);refine⟨_,rfl,_,_,rfl,rfl,⟨(show (0:Int)<3 by decide),(show (3:Int)<1073741824 by decide)⟩,_,_,rfl,rfl,(show (0:Int)<9 by decide),_,_,rfl,rfl,d1,λ p1 hp1=>?_⟩;refine⟨_,rfl,_,_,rfl,rfl,⟨(show (0:Int)<27 by decide),(show (27:Int)<1073741824 by decide)⟩,?_⟩;dsimp only;generalize hc1:1+c / 3 % 9=c1v at hp1 ⊢;have gp:=zAD (o:=.tup [.int c1v]) hp1;refine⟨_,rfl,3,rfl,by decide,by decide,?_⟩;refine zCR (n:=(3:Int).toNat) (λ j σ' H'=>E4 λ(r:List Nat) (p:Addr) (z:Int) (s7:Option V)=>A7 (σ'=[some (.ref a),some (.ref d),some (.str kd.s),some (.int c),some (.int 3),some (.ref p),some (.int z),s7]) (Same H1 H') (H' p=some (.tup (natV r))) (r.length=j+1) (1<=r.getD 0 0) (r.getD 0 0<=9) (∀x∈r.drop 1,1<=x/\x<=3)) ?_ ?_ ?_
     ·refine⟨[c1v.toNat],p1,_,s7,rfl,gp,?_,rfl,?_,?_,by simp⟩
      ·rw[zAC]
       exact congrArg (λ x=>some (HO.tup x)) (zB2 [] c1v 31)
      ·show 1<=c1v.toNat
       lia
      ·show c1v.toNat<=9
       lia
     ·rintro j σ2 H2 hj ⟨r,p,z,s7,rfl,g2,ep,lr,b1,b9,bk⟩
      have hj3:j<3:=by simpa using hj
      have z0:=rJ z (show (3:Int)≠0 by decide);have z1:=rK z (show (0:Int)<3 by decide);refine⟨_,rfl,_,rfl,_,_,rfl,rfl,(show (0:Int)<3 by decide),_,_,rfl,rfl,d1,λ pt hpt=>?_⟩;have g3:=zAD (o:=.tup [.int (1+z % 3)]) hpt;refine⟨p,pt,_,_,rfl,rfl,g3 _ _ ep,zAC,zA0 (by rw[zBx];simp;lia),λ p' H3 g4 e4=>?_⟩;refine⟨_,rfl,_,_,rfl,rfl,⟨(show (0:Int)<3 by decide),(show (3:Int)<1073741824 by decide)⟩,?_⟩;rw[zB2 r (1+z % 3) 31] at e4
      obtain⟨r0,rt,er⟩:∃r0 rt,r=r0::rt:=by
       cases r with
       |nil=>simp at lr
       |cons r0 rt=>exact⟨r0,rt,rfl⟩
      subst er;refine⟨(r0::rt)++[(1+z % 3).toNat],p',_,_,rfl,g2.trans (g3.trans g4),e4,by simp at lr ⊢;lia,b1,b9,?_⟩;intro x hx;have hx':x∈rt++[(1+z % 3).toNat]:=hx;rcases lJ.mp hx' with h|h
      ·exact bk x h
      ·have:=mX.mp h
       lia
     ·rintro σ2 H2 ⟨r,p,z,s7,rfl,g2,ep,lr,b1,b9,bk⟩
      have ed2:=g2 _ _ ed1
      have nv:valV kvs (Sum.inr kd.s:Key)=none:=by
       rcases zCI ps1 kd with ⟨_,h⟩|⟨r',b,h,_⟩
       ·exact h
       ·rw[zCZ (rs:=rs) (k:=kd) ?_] at h
        ·cases h
        ·intro z
         obtain⟨p0,hp0,ez⟩:=mC.mp z;exact zFb hkd (ez▸hin p0 hp0)
      refine⟨_,rfl,_,rfl,_,rfl,d,_,rfl,DPut.k (k:=Sum.inr kd.s) ed2 (zAf 31),?_⟩;have tkd:Tk H2 (upd H2 d (.dK (putK kvs (Sum.inr kd.s:Key) (.ref p)))):=Tk.dk ed2;refine⟨rs++[(kd,r)],putK kvs (Sum.inr kd.s:Key) (.ref p),_,_,_,_,_,_,rfl,zAz (gA.trans g2) hd,by rw[zAO nad];exact g2 _ _ ea1,by rw[zAO nld];exact g2 _ _ el1,zAC,?_,zFl _ nd nv,?_,?_⟩
      ·have pz:Paired (RowAt (upd H2 d (.dK (putK kvs (Sum.inr kd.s:Key) (.ref p))))) (rs++[(kd,r)]) (kvs++[((Sum.inr kd.s:Key),V.ref p)]):=zCC (Paired.mapP ps1 λ Ω Ω z=>z.mono (g2.tk.trans tkd)) (.cons ⟨⟨hlf,by rw[lr,hm];rfl,b1,b9,bk⟩,rfl,p,rfl,tkd _ _ ep⟩ .nil)
       rw[←zCA (V.ref p) nv] at pz;exact pz
      ·rw[zCA _ nv,mK]
       show kvs.length+1<=i+1
       lia
      ·intro p0 hp0
       rcases lJ.mp hp0 with h|h
       ·exact fin0 p0 h
       ·rw[mX.mp h,etk]
        exact lJ.mpr (.inr 41)
    ·exact⟨rs,kvs,_,_,_,_,_,_,rfl,gA,ea1,el1,ed1,ps1,nd,by lia,fin0⟩
   ·have hm:kd.many=2:=by
     cases kd with
     |say=>exact absurd rfl c1
     |ite=>exact absurd rfl c2
     |num=>cases hlf
     |name=>cases hlf
     |ask=>cases hlf
     |stop=>cases hlf
     |gap=>cases hlf
     |_=>rfl
    refine⟨_,rfl,_,_,rfl,rfl,(show (0:Int)<3 by decide),_,_,rfl,rfl,_,rfl,ite2 (λ Ω=>?_) (λ Ω=>?_)⟩
    ·have m0:=rJ (c / 3) (show (9:Int)≠0 by decide)
     have m1:=rK (c / 3) (show (0:Int)<9 by decide);refine⟨_,rfl,_,_,rfl,rfl,⟨(show (0:Int)<3 by decide),(show (3:Int)<1073741824 by decide)⟩,_,_,rfl,rfl,(show (0:Int)<9 by decide),_,_,rfl,rfl,d1,λ p1 hp1=>?_⟩;refine⟨_,rfl,_,_,rfl,rfl,⟨(show (0:Int)<27 by decide),(show (27:Int)<1073741824 by decide)⟩,?_⟩;dsimp only;generalize hc1:1+c / 3 % 9=c1v at hp1 ⊢;have gp:=zAD (o:=.tup [.int c1v]) hp1;refine⟨_,rfl,2,rfl,by decide,by decide,?_⟩;refine zCR (n:=(2:Int).toNat) (λ j σ' H'=>E4 λ(r:List Nat) (p:Addr) (z:Int) (s7:Option V)=>A7 (σ'=[some (.ref a),some (.ref d),some (.str kd.s),some (.int c),some (.int 2),some (.ref p),some (.int z),s7]) (Same H1 H') (H' p=some (.tup (natV r))) (r.length=j+1) (1<=r.getD 0 0) (r.getD 0 0<=9) (∀x∈r.drop 1,1<=x/\x<=3)) ?_ ?_ ?_
     ·refine⟨[c1v.toNat],p1,_,s7,rfl,gp,?_,rfl,?_,?_,by simp⟩
      ·rw[zAC]
       exact congrArg (λ x=>some (HO.tup x)) (zB2 [] c1v 31)
      ·show 1<=c1v.toNat
       lia
      ·show c1v.toNat<=9
       lia
     ·rintro j σ2 H2 hj ⟨r,p,z,s7,rfl,g2,ep,lr,b1,b9,bk⟩
      have hj3:j<2:=by simpa using hj
      have z0:=rJ z (show (3:Int)≠0 by decide);have z1:=rK z (show (0:Int)<3 by decide);refine⟨_,rfl,_,rfl,_,_,rfl,rfl,(show (0:Int)<3 by decide),_,_,rfl,rfl,d1,λ pt hpt=>?_⟩;have g3:=zAD (o:=.tup [.int (1+z % 3)]) hpt;refine⟨p,pt,_,_,rfl,rfl,g3 _ _ ep,zAC,zA0 (by rw[zBx];simp;lia),λ p' H3 g4 e4=>?_⟩;refine⟨_,rfl,_,_,rfl,rfl,⟨(show (0:Int)<3 by decide),(show (3:Int)<1073741824 by decide)⟩,?_⟩;rw[zB2 r (1+z % 3) 31] at e4
      obtain⟨r0,rt,er⟩:∃r0 rt,r=r0::rt:=by
       cases r with
       |nil=>simp at lr
       |cons r0 rt=>exact⟨r0,rt,rfl⟩
      subst er;refine⟨(r0::rt)++[(1+z % 3).toNat],p',_,_,rfl,g2.trans (g3.trans g4),e4,by simp at lr ⊢;lia,b1,b9,?_⟩;intro x hx;have hx':x∈rt++[(1+z % 3).toNat]:=hx;rcases lJ.mp hx' with h|h
      ·exact bk x h
      ·have:=mX.mp h
       lia
     ·rintro σ2 H2 ⟨r,p,z,s7,rfl,g2,ep,lr,b1,b9,bk⟩
      have ed2:=g2 _ _ ed1
      have nv:valV kvs (Sum.inr kd.s:Key)=none:=by
       rcases zCI ps1 kd with ⟨_,h⟩|⟨r',b,h,_⟩
       ·exact h
       ·rw[zCZ (rs:=rs) (k:=kd) ?_] at h
        ·cases h
        ·intro z
         obtain⟨p0,hp0,ez⟩:=mC.mp z;exact zFb hkd (ez▸hin p0 hp0)
      refine⟨_,rfl,_,rfl,_,rfl,d,_,rfl,DPut.k (k:=Sum.inr kd.s) ed2 (zAf 31),?_⟩;have tkd:Tk H2 (upd H2 d (.dK (putK kvs (Sum.inr kd.s:Key) (.ref p)))):=Tk.dk ed2;refine⟨rs++[(kd,r)],putK kvs (Sum.inr kd.s:Key) (.ref p),_,_,_,_,_,_,rfl,zAz (gA.trans g2) hd,by rw[zAO nad];exact g2 _ _ ea1,by rw[zAO nld];exact g2 _ _ el1,zAC,?_,zFl _ nd nv,?_,?_⟩
      ·have pz:Paired (RowAt (upd H2 d (.dK (putK kvs (Sum.inr kd.s:Key) (.ref p))))) (rs++[(kd,r)]) (kvs++[((Sum.inr kd.s:Key),V.ref p)]):=zCC (Paired.mapP ps1 λ Ω Ω z=>z.mono (g2.tk.trans tkd)) (.cons ⟨⟨hlf,by rw[lr,hm];rfl,b1,b9,bk⟩,rfl,p,rfl,tkd _ _ ep⟩ .nil)
       rw[←zCA (V.ref p) nv] at pz;exact pz
      ·rw[zCA _ nv,mK]
       show kvs.length+1<=i+1
       lia
      ·intro p0 hp0
       rcases lJ.mp hp0 with h|h
       ·exact fin0 p0 h
       ·rw[mX.mp h,etk]
        exact lJ.mpr (.inr 41)
    ·exact⟨rs,kvs,_,_,_,_,_,_,rfl,gA,ea1,el1,ed1,ps1,nd,by lia,fin0⟩
 ·rintro σ' H' ⟨rs,kvs,s2,s3,s4,s5,s6,s7,rfl,g,ea,el,ed,ps,nd,le,hin⟩
  rw[lcs] at le;exact⟨_,rfl,q d rs kvs H' g ed ⟨.inl ed,ps,nd,mH le 46⟩ le⟩
abbrev zB9:Stmt:=top 28
theorem zD0:zAX ["one", "other", "pairs"] ["one", "other", "pairs"] (zAJ zB9):=scI
abbrev s_fit:Stmt:=top 58
theorem zDG:zAX ["rule", "tree", "kinds", "wanted", "filling", "level", "deeper", "shape", "part", "pairs", "number", "both"] ["rule", "tree", "kinds"] (zAJ s_fit):=scI
abbrev zBa:Stmt:=top 81
theorem zCS:zAX ["rules", "tree", "kinds", "found", "place", "part", "number", "rule"] ["rules", "tree", "kinds"] (zAJ zBa):=scI
abbrev zCM:Stmt:=top 87
theorem zB5:zAX ["rules", "tree", "kinds", "choose", "row", "found", "taken"] ["rules", "tree", "kinds", "choose"] (zAJ zCM):=scI
def zGC:Sp:=λ vs H Q Ω=>E5 λ(t u:Tr) (v1 v2 pw:V)=>A5 (vs=[v1,v2,pw]) (Rep H t v1) (Rep H u v2) (t.kd≠u.kd) (Q (.bl false) H)
theorem zJE (F:Fun K "alike_heads" "alike_heads" zB9 f fd):FnOk P w K mg base CX0 (k+1) f fd ["one", "other", "pairs"] zGC:=by
 refine F.ok zD0 55 38
 ·obtain⟨t,u,v1,v2,pw,rfl,_⟩:=h
  rfl
 obtain⟨t,u,v1,v2,pw,rfl,r1,r2,hne,q⟩:=h;refine⟨_,(zAF (ps_if (zAT op_ne (iC (r:=rIxT K) zA4 (pv 0)) (iC (r:=rIxT K) zA4 90) (zAe _)) (zAH (zAs pe_bl)) zAV) zAj),?_⟩;obtain⟨a,hs,us,rfl,ha,_,_⟩:=r1.all;obtain⟨b,hs2,us2,rfl,hb,_,_⟩:=r2.all;have h0:atI (V.str t.kd.s::hs++us) 0=some (.str t.kd.s):=zAu (j:=0) rfl;have h1:atI (V.str u.kd.s::hs2++us2) 0=some (.str u.kd.s):=zAu (j:=0) rfl;refine⟨_,rfl,a,_,0,_,rfl,rfl,SqT.of ha,h0,_,rfl,b,_,0,_,rfl,rfl,SqT.of hb,h1,rfl,_,rfl,ite2 (λ Ω=>q) (λ c=>?_)⟩;have:¬V.str t.kd.s=V.str u.kd.s:=λ z=>hne (Kd.eq_iff.mp z);exact absurd (by simp[this]) c
def zJo:Sp:=λ vs H Q Ω=>E7 λ(r:Addr) (t1 t2 u:Tr) (kds:List (Str × Str)) (v kn:V)=>A7 (vs=[.ref r,v,kn]) (zCH H r t1 t2 kds) (Rep H u v) (t1.kd≠u.kd) (t1.kd ≠ .gap) (kds.length<=300) (∀H',Same H H'->Q .non H')
theorem zLk {k:Nat}{f g1:Addr}{fd gd1:FuncData}{dvs:List Value}(F:FunD K "fit" "fit" s_fit f fd dvs) (z_dict:mg "dict" = none) (zMU:FnB P w K mg base k "alike_heads" g1 gd1 ["one", "other", "pairs"] zGC):FnOk P w K mg base CX0 (k+1) f fd ["rule", "tree", "kinds"] zJo:=by
 refine F.ok zDG 55 38
 ·obtain⟨r,t1,t2,u,kds,v,kn,rfl,_⟩:=h
  rfl
 obtain⟨r,t1,t2,u,kds,v,kn,rfl,⟨u1,u2,ka,o,ys,er,ra,rb,eka,hod,hpr⟩,ru,hne,hng,hk3,q⟩:=h
 refine⟨_,(zAF (pS (i:=3) zDG.nd (zDg (zEL rfl) 39 z_dict rV (zAA (iC (r:=rIxT K) zA4 (pv 0)) zAB)))
  (zAF (pS (i:=4) zDG.nd zCx)
  (zAF (pS (i:=5) zDG.nd (zBv (zAA (zAc (zAA (iC (r:=rIxT K) zA4 (pv 0)) (zAA 90 (zAA (zAc zAB:PE _ _ _) zAB))):PE _ _ _) zAB):PE _ _ _))
  (zAF (zCV PassesOwn.never (zDP (pv 5) (λ Ω=>rfl)) (zAF (pS (i:=6) zDG.nd (zBv zAB:PE _ _ _))
  (zAF (zBQ PassesOwn.never rfl (zC6 (pv 5)) (zCG rfl (zAb (pGn (i:=7) zDG.nd) (zAb (pGn (i:=8) zDG.nd) (zAb (pGn (i:=9) zDG.nd) zBS)))) (zAH (ps_if (zAT op_eq (iC (r:=rIxT K) zA4 (pv 7)) zAQ (zAe _)) zAj (zAH (ps_if (zCc (zCN (pe_cl zMU hr (zAA (pv 7) (zAA (pv 8) (zAA (pv 9) zAB)))))) (zAH (zAs zDf)) zAj)))))
  zAj))) zAj)))),?_⟩
 have d1:1<=sizeLine:=by decide
 have d3:3<=sizeLine:=by decide
 refine⟨_,rfl,r,_,2,_,rfl,rfl,SqT.of er,rfl,ka,o,ys,kdV kds,rfl,eka,hod,hpr,(by simp[kdV];lia),λ wd hwd=>?_⟩;refine λ fl hfl=>?_;have k1:=zAD (o:=.dK (zBo [] (kdV kds))) hwd;have k2:=zAD (o:=.dK []) hfl;have k12:=k1.trans k2;refine⟨_,rfl,r,_,0,_,rfl,rfl,SqT.of (k12 _ _ er),rfl,_,rfl,(by show 0<=sizeLine;decide),λ p0 h0=>⟨d3,λ p1 h1=>⟨d1,λ l hl=>?_⟩⟩⟩;have k3:=zAD (o:=.tup []) h0;have k4:=zAD (o:=.tup [u1,v,.ref p0]) h1;have k5:=zAD (o:=.lst [.ref p1]) hl;have kA:=k12.trans (k3.trans (k4.trans k5));have ep1:=k5 _ _ (zAC (H:=upd (upd (upd H wd (.dK (zBo [] (kdV kds)))) fl (.dK [])) p0 (.tup [])) (a:=p1) (o:=.tup [u1,v,.ref p0]));have el:=@zAC (upd (upd (upd (upd H wd (.dK (zBo [] (kdV kds)))) fl (.dK [])) p0 (.tup [])) p1 (.tup [u1,v,.ref p0])) l (.lst [.ref p1]);generalize upd (upd (upd (upd (upd H wd _) fl _) p0 _) p1 _) l _=H1 at kA ep1 el ⊢;refine⟨λ m σ' H'=>m=0/\σ'=[some (.ref r),some v,some kn,some (.ref wd),some (.ref fl),some (.ref l),none,none,none,none,none,none]/\H'=H1,⟨0,rfl,rfl,rfl⟩,?_⟩;rintro m σ' Hw ⟨rfl,rfl,rfl⟩;refine⟨_,rfl,_,.inl ⟨_,SqL.of el,rfl⟩,iteT ?_⟩;refine⟨_,λ Ω Ω h=>h,?_⟩;refine⟨(by show 0<=sizeLine;decide),λ dp hdp=>?_⟩;have k6:=zAD (o:=.lst []) hdp;refine⟨_,rfl,l,rfl,⟨_,SqL.of (k6 _ _ el)⟩,?_⟩;refine zC2 (xs:=[.ref p1]) (λ i σ' H'=>i=0/\σ'=[some (.ref r),some v,some kn,some (.ref wd),some (.ref fl),some (.ref l),some (.ref dp),none,none,none,none,none]/\H'=upd Hw dp (.lst [])) ⟨rfl,rfl,rfl⟩ ?_ ?_ ?_
 ·rintro i σ' H' _ ⟨rfl,rfl,rfl⟩
  exact SqL.of (k6 _ _ el)
 ·rintro i x σ' H' hx ⟨rfl,rfl,rfl⟩
  cases hx;have kB:=kA.trans k6;have rA:=ra.mono kB.tk;have rU:=ru.mono kB.tk;obtain⟨b,hs,us,rfl,hb,_,_⟩:=rA.all;have h0:atI (V.str t1.kd.s::hs++us) 0=some (.str t1.kd.s):=zAu (j:=0) rfl;refine⟨p1,_,rfl,SqT.of (k6 _ _ ep1),rfl,_,_,rfl,_,_,rfl,_,_,rfl,rfl,?_⟩;refine⟨_,rfl,b,_,0,_,rfl,rfl,SqT.of hb,h0,rfl,_,rfl,iteN (λ z=>hng (Kd.eq_iff (b:=.gap) |>.mp z)) ?_⟩;refine⟨_,rfl,_,rfl,_,rfl,t1,u,_,v,_,rfl,rA,rU,hne,_,rfl,iteT ?_⟩;exact q _ kB
 ·rintro σ' H' ⟨z,_⟩
  cases z
def zF8:Sp:=λ vs H Q Ω=>E5 λ(l:Addr) (rs:List V) (u:Tr) (v kn:V)=>A7 (vs=[.ref l,v,kn]) (H l=some (.lst rs)) (rs.length<=100) (Rep H u v) (u.size<=300) (∀x∈rs,∃r t1 t2 kds,x = .ref r/\zCH H r t1 t2 kds/\t1.kd ≠ .gap/\kds.length<=300/\∀p∈u.subs,t1.kd≠p.kd) (∀(f:Addr) (H':Hp),H f=none->Same H H'->H' f=some (.lst [])->Q (.ref f) H')
theorem zJA {k:Nat}{f g1 g2:Addr}{fd gd1 gd2:FuncData}{dvs:List Value}(F:FunD K "steps" "steps" zBa f fd dvs) (z_enumerate:mg "enumerate" = none) (zMV:FnB P w K mg base k "placed_parts" g1 gd1 ["tree"] zE4) (G_fit:FnB P w K mg base k "fit" g2 gd2 ["rule", "tree", "kinds"] zJo):FnOk P w K mg base CX0 (k+1) f fd ["rules", "tree", "kinds"] zF8:=by
 refine F.ok zCS 55 38
 ·obtain⟨l,rs,u,v,kn,rfl,_⟩:=h
  rfl
 obtain⟨l,rs,u,v,kn,rfl,el,lr,ru,hz,hrs,q⟩:=h
 refine⟨_,(zAF (pS (i:=3) zCS.nd (zBv zAB:PE _ _ _))
  (zAF (zBQ PassesOwn.never rfl (zC6 (pe_cl zMV hr (zAA 90 zAB))) (zCG rfl (zAb (pGn (i:=4) zCS.nd) (zAb (pGn (i:=5) zCS.nd) zBS))) (zAH (zBQ PassesOwn.never rfl (zEd 39 z_enumerate (zAA (pv 0) zAB)) (zCG rfl (zAb (pGn (i:=6) zCS.nd) (zAb (pGn (i:=7) zCS.nd) zBS))) (zAH (ps_if (zAT zKg (pe_cl G_fit hr (zAA (pv 7) (zAA (pv 5) (zAA (pv 2) zAB)))) zDf (zAe _)) (zAH (pAp (pv 3) (zAc (zAA (pv 6) (zAA (pv 4) zAB)):PE _ _ _))) zAV)))))
  (zAH (zAs (pv 3))))),?_⟩
 refine⟨(by show 0<=sizeLine;decide),λ fl hfl=>?_⟩;have k1:=zAD (o:=.lst []) hfl;refine⟨_,rfl,u,v,rfl,ru.mono k1.tk,hz,λ l2 us2 F2 H2 k2 e2 p2 perm=>⟨l2,rfl,⟨us2,SqL.of e2⟩,?_⟩⟩;have k12:=k1.trans k2;refine zC2 (xs:=us2) (λ i σ' H'=>E4 λ(s4 s5 s6 s7:Option V)=>σ'=[some (.ref l),some v,some kn,some (.ref fl),s4,s5,s6,s7]/\Same H2 H') ⟨none,none,none,none,rfl,.refl _⟩ ?_ ?_ ?_
 ·rintro i σ' H' _ ⟨s4,s5,s6,s7,rfl,g⟩
  exact SqL.of (g _ _ e2)
 ·rintro i x σ' H' hx ⟨s4,s5,s6,s7,rfl,g⟩
  obtain⟨p,hp,pl,y,⟨b,c,rfl,hb,hc⟩,rp⟩:=zA5 p2 hx;have hpm:p∈u.subs:=perm.mem_iff.mp (lK hp);refine⟨b,_,rfl,SqT.of (g _ _ hb),rfl,_,_,rfl,_,_,rfl,rfl,?_⟩;have gA:=k12.trans g;refine⟨_,rfl,l,rfl,⟨rs,SqL.of (gA _ _ el)⟩,?_⟩;refine zDs (xs:=rs) (λ j σ' H3=>E2 λ(s6 s7:Option V)=>σ'=[some (.ref l),some v,some kn,some (.ref fl),some (.ref c),some y,s6,s7]/\Same H' H3) ⟨s6,s7,rfl,.refl _⟩ ?_ ?_ ?_
  ·rintro j σ3 H3 _ ⟨s6,s7,rfl,g3⟩
   exact SqL.of ((gA.trans g3) _ _ el)
  ·rintro j z T σ3 H3 hz ⟨s6,s7,rfl,g3⟩ hT
   obtain⟨r,t1,t2,kds,rfl,hru,hng,hk,hne⟩:=hrs _ (lK hz);have g4:=zAD (o:=.tup [.int j,.ref r]) hT;have gB:=gA.trans (g3.trans g4);refine⟨T,_,rfl,SqT.of zAC,rfl,_,_,rfl,_,_,rfl,rfl,?_⟩;refine⟨_,rfl,_,rfl,_,rfl,r,t1,t2,p,kds,y,kn,rfl,hru.mono gB.sf,rp.mono (g.trans (g3.trans g4)).tk,hne p hpm,hng,hk,λ H5 g5=>?_⟩;refine⟨rfl,_,rfl,iteF ?_⟩;exact⟨_,_,rfl,g3.trans (g4.trans g5)⟩
  ·rintro σ3 H3 ⟨s6,s7,rfl,g3⟩
   exact⟨_,_,_,_,rfl,g.trans g3⟩
 ·rintro σ' H' ⟨s4,s5,s6,s7,rfl,g⟩
  exact⟨_,rfl,q fl H' hfl (k12.trans g) (g _ _ (k2 _ _ zAC))⟩
def zEU:Sp:=λ vs H Q Ω=>E6 λ(l:Addr) (rs:List V) (u:Tr) (v kn ch:V)=>A7 (vs=[.ref l,v,kn,ch]) (H l=some (.lst rs)) (rs.length<=100) (Rep H u v) (u.size<=300) (∀x∈rs,∃r t1 t2 kds,x = .ref r/\zCH H r t1 t2 kds/\t1.kd ≠ .gap/\kds.length<=300/\∀p∈u.subs,t1.kd≠p.kd) (∀(p e:Addr) (H':Hp),H e=none->Same H H'->H' p=some (.tup [v,.ref e])->H' e=some (.lst [])->Q (.ref p) H')
theorem zKk (F:Fun K "all_turned" "all_turned" zCM f fd) (zMW:FnB P w K mg base k "steps" g1 gd1 ["rules", "tree", "kinds"] zF8):FnOk P w K mg base CX0 (k+1) f fd ["rules", "tree", "kinds", "choose"] zEU:=by
 refine F.ok zB5 55 38
 ·obtain⟨l,rs,u,v,kn,ch,rfl,_⟩:=h
  rfl
 obtain⟨l,rs,u,v,kn,ch,rfl,el,lr,ru,hz,hrs,q⟩:=h;refine⟨_,(zAF (pS (i:=4) zB5.nd (zBv zAB:PE _ _ _)) (zAF (pS (i:=5) zB5.nd (pe_cl zMW hr (zAA (pv 0) (zAA 90 (zAA (pv 2) zAB))))) (zAF (zCV PassesOwn.never (zDP (pv 5) (λ Ω=>rfl)) zAj) (zAH (zAs (zAc (zAA 90 (zAA (pv 4) zAB)):PE _ _ _)))))),?_⟩;refine⟨(by show 0<=sizeLine;decide),λ e he=>?_⟩;have k1:=zAD (o:=.lst []) he;refine⟨_,rfl,_,rfl,_,rfl,l,rs,u,v,kn,rfl,k1 _ _ el,lr,ru.mono k1.tk,hz,?_,λ fl H2 hfl k2 e2=>?_⟩
 ·intro x hx
  obtain⟨r,t1,t2,kds,rfl,hru,hng,hk,hne⟩:=hrs x hx;exact⟨r,t1,t2,kds,rfl,hru.mono k1.sf,hng,hk,hne⟩
 refine⟨λ m σ' H'=>m=0/\σ'=[some (.ref l),some v,some kn,some ch,some (.ref e),some (.ref fl),none]/\H'=H2,⟨0,rfl,rfl,rfl⟩,?_⟩;rintro m σ' Hw ⟨rfl,rfl,rfl⟩;refine⟨_,rfl,_,.inl ⟨_,SqL.of e2,rfl⟩,iteF ?_⟩;refine⟨_,rfl,_,rfl,(by show 2<=sizeLine;decide),λ p hp=>?_⟩;have k3:=zAD (o:=.tup [v,.ref e]) hp;exact q p e _ he (k1.trans (k2.trans k3)) zAC (k3 _ _ (k2 _ _ zAC))
abbrev zBD:Stmt:=top 85
theorem zAq:zAX ["rules", "scale", "number", "rule"] ["rules", "scale"] (zAJ zBD):=scI
abbrev zBe:Stmt:=top 86
theorem zCb:zAX ["tree", "scale"] ["tree", "scale"] (zAJ zBe):=scI
abbrev zBA:Stmt:=top 88
theorem zDa:zAX ["rules", "tree", "scale", "way", "kinds"] ["rules", "tree", "scale", "way", "kinds"] (zAJ zBA):=scI
abbrev zBn:Stmt:=top 89
theorem zCK:zAX ["rules", "tree", "scale", "choose"] ["rules", "tree", "scale", "choose"] (zAJ zBn):=scI
abbrev Rl3:=Tr × Tr × List (Str × Str)
def RlA (H:Hp) (q:Rl3) (x:V):Prop:=∃r,x = .ref r/\zCH H r q.1 q.2.1 q.2.2/\q.1.size<=122/\q.2.1.size<=122/\(q.2.2.map (·.1)).Nodup/\q.2.2.length<=300
theorem RlA.mono {H H':Hp}(g:Sf H H') {q:Rl3}{x:V}:RlA H q x->RlA H' q x
 |⟨r,e,h,z⟩=>⟨r,e,h.mono g,z⟩
def RlsA (H:Hp) (l:Addr) (qs:List Rl3):Prop:=∃rs,H l=some (.lst rs)/\Paired (RlA H) qs rs/\rs.length<=100
theorem RlsA.mono {H H':Hp}(g:Sf H H') {l:Addr}{qs:List Rl3}:RlsA H l qs->RlsA H' l qs
 |⟨rs,h,p,z⟩=>⟨rs,g.lst h,Paired.mapP p λ Ω Ω r=>r.mono g,z⟩
def fallQ (sc:Scl) (q:Rl3):Prop:=fallP (rowF sc) q.1 q.2.1 q.2.2
def zDF:Sp:=λ vs H Q Ω=>E4 λ(l d:Addr) (qs:List Rl3) (sc:Scl)=>A5 (vs=[.ref l,.ref d]) (RlsA H l qs) (ScAt H d sc) (∀q∈qs,fallQ sc q) (∀H',Sf H H'->Q .non H')
theorem zLr (F:Fun K "check_falling" "check_falling" zBD f fd) (z_enumerate:mg "enumerate" = none) (zMQ:FnB P w K mg base k "check_scale" g1 gd1 ["scale"] zBT) (zMX:FnB P w K mg base k "falls" g2 gd2 ["rule", "scale"] zDO):FnOk P w K mg base CX0 (k+1) f fd ["rules", "scale"] zDF:=by
 refine F.ok zAq 55 38
 ·obtain⟨l,d,qs,sc,rfl,_⟩:=h
  rfl
 obtain⟨l,d,qs,sc,rfl,⟨rs,el,hp,lr⟩,hsc,hf,q⟩:=h
 refine⟨_,(zAF (zAk (pe_cl zMQ hr (zAA 90 zAB)))
  (zAH (zBQ PassesOwn.never rfl (zEd 39 z_enumerate (zAA (pv 0) zAB)) (zCG rfl (zAb (pGn (i:=2) zAq.nd) (zAb (pGn (i:=3) zAq.nd) zBS))) (zAH (ps_if (zCc (zCN (pe_cl zMX hr (zAA (pv 3) (zAA 90 zAB))))) (zAH zCu) zAV))))),?_⟩
 refine⟨_,rfl,d,sc,rfl,hsc,λ H1 g1=>?_⟩;refine⟨_,rfl,l,rfl,⟨rs,SqL.of (g1.lst el)⟩,?_⟩;refine zDs (xs:=rs) (λ i σ' H'=>E2 λ(s2 s3:Option V)=>σ'=[some (.ref l),some (.ref d),s2,s3]/\Sf H H') ⟨none,none,rfl,g1⟩ ?_ ?_ ?_
 ·rintro i σ' H' _ ⟨s2,s3,rfl,g⟩
  exact SqL.of (g.lst el)
 ·rintro i x T σ' H' hx ⟨s2,s3,rfl,g⟩ hT
  obtain⟨q3,hq,r,rfl,hru,z1,z2,z3,z4⟩:=zA5 hp hx;have g2:=g.trans (zAD (o:=.tup [.int i,.ref r]) hT).sf;refine⟨T,_,rfl,SqT.of zAC,rfl,_,_,rfl,_,_,rfl,rfl,?_⟩;refine⟨_,rfl,_,rfl,r,d,q3.1,q3.2.1,q3.2.2,sc,rfl,hru.mono g2,z1,z2,z3,z4,hsc.mono g2,λ b H3 g3 hb=>?_⟩;have:b=true:=hb.mpr (hf q3 (lK hq));subst this;exact⟨_,rfl,iteF ⟨_,_,rfl,g2.trans g3⟩⟩
 ·rintro σ' H' ⟨s2,s3,rfl,g⟩
  exact q H' g
def zHK:Sp:=λ vs H Q Ω=>E4 λ(t:Tr) (v:V) (d:Addr) (sc:Scl)=>A6 (vs=[v,.ref d]) (Rep H t v) (ScAt H d sc) (t.size<=300) (wrt (rowF sc) t<=200) (∀H',Sf H H'->Q .non H')
theorem zLn {k:Nat}{f g1:Addr}{fd gd1:FuncData}{tk:Tok}(F:Fun K "check_worth" "check_worth" zBe f fd) (zMY:mg "MOST_WORTH" = some (.int 200 tk)) (zMS:FnB P w K mg base k "worth" g1 gd1 ["tree", "scale"] zCo):FnOk P w K mg base CX0 (k+1) f fd ["tree", "scale"] zHK:=by
 refine F.ok zCb 55 38
 ·obtain⟨t,v,d,sc,rfl,_⟩:=h
  rfl
 obtain⟨t,v,d,sc,rfl,rt,hsc,hz,hw,q⟩:=h;refine⟨_,(zAH (ps_if (zAT op_gt (pe_cl zMS hr (zAA (pv 0) (zAA 90 zAB))) (zAN (v:=.int 200) 39 zMY 43) (zAe _)) (zAH zCu) zAV)),?_⟩;refine⟨_,rfl,_,rfl,t,v,d,sc,rfl,rt,hsc,hz,λ H1 g1=>⟨_,_,rfl,rfl,_,rfl,ite2 (λ c=>absurd (lT c) 31) (λ Ω=>q H1 g1)⟩⟩
structure Trn (H:Hp) (l d:Addr) (v:V) (qs:List Rl3) (u:Tr) (sc:Scl):Prop where
 rl:RlsA H l qs
 hs:ScAt H d sc
 fl:∀q∈qs,fallQ sc q
 rp:Rep H u v
 sz:u.size<=300
 un:∀q∈qs,q.1.kd ≠ .gap/\∀p∈u.subs,q.1.kd≠p.kd
theorem Trn.mono {H H':Hp}(g:Sf H H') {l d:Addr}{v:V}{qs:List Rl3}{u:Tr}{sc:Scl}(h:Trn H l d v qs u sc):Trn H' l d v qs u sc:=⟨h.rl.mono g,h.hs.mono g,h.fl,h.rp.mono g.tk,h.sz,h.un⟩
theorem Trn.all {H:Hp}{l d:Addr}{v:V}{qs:List Rl3}{u:Tr}{sc:Scl}(h:Trn H l d v qs u sc) {Q:VK}{E:XK}{kn ch:V}(q:∀(p e:Addr) (H':Hp),H e=none->Same H H'->H' p=some (.tup [v,.ref e])->H' e=some (.lst [])->Q (.ref p) H'):zEU [.ref l,v,kn,ch] H Q E:=by
 obtain⟨rs,el,hp,lr⟩:=h.rl;refine⟨l,rs,u,v,kn,ch,rfl,el,lr,h.rp,h.sz,λ x hx=>?_,q⟩;obtain⟨i,hi,rfl⟩:=List.getElem_of_mem hx;obtain⟨q3,hq,r,e,hru,z1,z2,z3,z4⟩:=zA5 hp (lW hi);obtain⟨u1,u2⟩:=h.un q3 (lK hq);exact⟨r,_,_,_,e,hru,u1,z4,u2⟩
def zF7 (ch:Bool):Sp:=λ vs H Q Ω=>E7 λ(l d:Addr) (v y:V) (qs:List Rl3) (u:Tr) (sc:Scl)=>A4 (vs=(if ch=true then [.ref l,v,.ref d,y] else [.ref l,v,.ref d,.str "inner", .non])) (Trn H l d v qs u sc) (wrt (rowF sc) u<=200) (∀(p e:Addr) (H':Hp),H e=none->Sf H H'->H' p=some (.tup [v,.ref e])->H' e=some (.lst [])->Q (.ref p) H')
theorem zFE (F:Fun K "turned_by" "turned_by" zBn f fd) (zMZ:FnB P w K mg base k "check_falling" g1 gd1 ["rules", "scale"] zDF) (zMa:FnB P w K mg base k "check_worth" g2 gd2 ["tree", "scale"] zHK) (zMb:FnB P w K mg base k "all_turned" g3 gd3 ["rules", "tree", "kinds", "choose"] zEU):FnOk P w K mg base CX0 (k+1) f fd ["rules", "tree", "scale", "choose"] (zF7 true):=by
 refine F.ok zCK 55 38
 ·obtain⟨l,d,v,y,qs,u,sc,rfl,_⟩:=h
  rfl
 obtain⟨l,d,v,y,qs,u,sc,rfl,ht,hw,q⟩:=h
 refine⟨_,(zAF (zAk (pe_cl zMZ hr (zAA (pv 0) (zAA (pv 2) zAB))))
  (zAF (zAk (pe_cl zMa hr (zAA 90 (zAA (pv 2) zAB))))
  (zAH (zAs (pe_cl zMb hr (zAA (pv 0) (zAA 90 (zAA zDf (zAA (pv 3) zAB))))))))),?_⟩
 refine⟨_,rfl,_,rfl,l,d,qs,sc,rfl,ht.rl,ht.hs,ht.fl,λ H1 g1=>?_⟩;have t1:=ht.mono g1;refine⟨_,rfl,_,rfl,u,v,d,sc,rfl,t1.rp,t1.hs,t1.sz,hw,λ H2 g2=>?_⟩;have g12:=g1.trans g2;exact⟨_,rfl,_,rfl,_,rfl,(t1.mono g2).all (E:=E) λ p e H3 he k3 ep ee=>q p e H3 (g12.free he) (g12.trans k3.sf) ep ee⟩
theorem zGk {k:Nat}{f g1 g2 g3 fi:Addr}{fd gd1 gd2 gd3:FuncData}{dvs:List Value}(F:FunD K "turned" "turned" zBA f fd dvs) (zMc:mg "innermost" = some (.ref fi)) (zMZ:FnB P w K mg base k "check_falling" g1 gd1 ["rules", "scale"] zDF) (zMa:FnB P w K mg base k "check_worth" g2 gd2 ["tree", "scale"] zHK) (zMb:FnB P w K mg base k "all_turned" g3 gd3 ["rules", "tree", "kinds", "choose"] zEU):FnOk P w K mg base CX0 (k+1) f fd ["rules", "tree", "scale", "way", "kinds"] (zF7 false):=by
 refine F.ok zDa 55 38
 ·obtain⟨l,d,v,y,qs,u,sc,rfl,_⟩:=h
  rfl
 obtain⟨l,d,v,y,qs,u,sc,rfl,ht,hw,q⟩:=h
 refine⟨_,(zAF (zAk (pe_cl zMZ hr (zAA (pv 0) (zAA (pv 2) zAB))))
  (zAF (zAk (pe_cl zMa hr (zAA 90 (zAA (pv 2) zAB))))
  (zAF (ps_if (zAT op_eq (pv 3) zAQ (zAe _)) zAj zAV)
  (zAH (zAs (pe_cl zMb hr (zAA (pv 0) (zAA 90 (zAA (pv 4) (zAA (zAN (v:=.ref _) 39 zMc 39) zAB)))))))))),?_⟩
 refine⟨_,rfl,_,rfl,l,d,qs,sc,rfl,ht.rl,ht.hs,ht.fl,λ H1 g1=>?_⟩;have t1:=ht.mono g1;refine⟨_,rfl,_,rfl,u,v,d,sc,rfl,t1.rp,t1.hs,t1.sz,hw,λ H2 g2=>?_⟩;have g12:=g1.trans g2;refine⟨_,rfl,rfl,_,rfl,iteN (by symm) ?_⟩;exact⟨_,rfl,_,rfl,_,rfl,(t1.mono g2).all (E:=E) λ p e H3 he k3 ep ee=>q p e H3 (g12.free he) (g12.trans k3.sf) ep ee⟩
theorem zJ1 {k:Nat}{f g1 g2:Addr}{fd gd1 gd2:FuncData}{spF spW:Sp}(mF:MonQ spF) (mW:MonQ spW) (F:Fun K "turned_by" "turned_by" zBn f fd) (zMZ:FnF P w K mg base k "check_falling" g1 gd1 ["rules", "scale"] spF) (zMa:FnF P w K mg base k "check_worth" g2 gd2 ["tree", "scale"] spW):FnOk P w K mg base (CXF P w) (k+1) f fd ["rules", "tree", "scale", "choose"] (spTwo spF spW 1):=by
 refine F.okF zCK 55 38
 ·obtain⟨x,v,y,r,rfl,hl,_⟩:=h
  simp[hl]
 obtain⟨x,v,y,r,rfl,hl,h⟩:=h
 obtain⟨z,rfl⟩:∃z,r=[z]:=by
  match r,hl with
  |[z],_=>exact⟨z,rfl⟩
 refine⟨_,(zAF (zAk (zBP zMZ.ok hr 39 zMZ.gl zMZ.kp zMZ.bd .nil zCE (zAA (pv 0) (zAA (pv 2) zAB))))
  (zAF (zAk (zBP zMa.ok hr 39 zMa.gl zMa.kp zMa.bd .nil zCE (zAA 90 (zAA (pv 2) zAB)))) zAj)),?_⟩
 exact⟨_,rfl,_,rfl,mF _ _ _ _ _ (λ Ω H1 h1=>⟨_,rfl,_,rfl,mW _ _ _ _ _ (λ Ω Ω h2=>h2.elim) h1⟩) h⟩
theorem zJ0 {k:Nat}{f g1 g2:Addr}{fd gd1 gd2:FuncData}{spF spW:Sp}(mF:MonQ spF) (mW:MonQ spW) {dvs:List Value}(F:FunD K "turned" "turned" zBA f fd dvs) (zMZ:FnF P w K mg base k "check_falling" g1 gd1 ["rules", "scale"] spF) (zMa:FnF P w K mg base k "check_worth" g2 gd2 ["tree", "scale"] spW):FnOk P w K mg base (CXF P w) (k+1) f fd ["rules", "tree", "scale", "way", "kinds"] (spTwo spF spW 2):=by
 refine F.okF zDa 55 38
 ·obtain⟨x,v,y,r,rfl,hl,_⟩:=h
  simp[hl]
 obtain⟨x,v,y,r,rfl,hl,h⟩:=h
 obtain⟨z,z',rfl⟩:∃z z',r=[z,z']:=by
  match r,hl with
  |[z,z'],_=>exact⟨z,z',rfl⟩
 refine⟨_,(zAF (zAk (zBP zMZ.ok hr 39 zMZ.gl zMZ.kp zMZ.bd .nil zCE (zAA (pv 0) (zAA (pv 2) zAB))))
  (zAF (zAk (zBP zMa.ok hr 39 zMa.gl zMa.kp zMa.bd .nil zCE (zAA 90 (zAA (pv 2) zAB)))) zAj)),?_⟩
 exact⟨_,rfl,_,rfl,mF _ _ _ _ _ (λ Ω H1 h1=>⟨_,rfl,_,rfl,mW _ _ _ _ _ (λ Ω Ω h2=>h2.elim) h1⟩) h⟩
theorem zLf {k:Nat}{f g1 g2:Addr}{fd gd1 gd2:FuncData}{spF spW:Sp}(mF:MonQ spF) (mW:MonQ spW) (F:Fun K "turned_by" "turned_by" zBn f fd) (zMZ:FnG P w K mg base k "check_falling" g1 gd1 ["rules", "scale"] spF) (zMa:FnG P w K mg base k "check_worth" g2 gd2 ["tree", "scale"] spW):FnOk P w K mg base (CXG P w) (k+1) f fd ["rules", "tree", "scale", "choose"] (spTwo spF spW 1):=by
 refine F.okG zCK 55 38
 ·obtain⟨x,v,y,r,rfl,hl,_⟩:=h
  simp[hl]
 obtain⟨x,v,y,r,rfl,hl,h⟩:=h
 obtain⟨z,rfl⟩:∃z,r=[z]:=by
  match r,hl with
  |[z],_=>exact⟨z,rfl⟩
 refine⟨_,(zAF (zAk (zBP zMZ.ok hr 39 zMZ.gl zMZ.kp zMZ.bd .nil zDV (zAA (pv 0) (zAA (pv 2) zAB))))
  (zAF (zAk (zBP zMa.ok hr 39 zMa.gl zMa.kp zMa.bd .nil zDV (zAA 90 (zAA (pv 2) zAB)))) zAj)),?_⟩
 exact⟨_,rfl,_,rfl,mF _ _ _ _ _ (λ Ω H1 h1=>⟨_,rfl,_,rfl,mW _ _ _ _ _ (λ Ω Ω h2=>h2.elim) h1⟩) h⟩
theorem zLe {k:Nat}{f g1 g2:Addr}{fd gd1 gd2:FuncData}{spF spW:Sp}(mF:MonQ spF) (mW:MonQ spW) {dvs:List Value}(F:FunD K "turned" "turned" zBA f fd dvs) (zMZ:FnG P w K mg base k "check_falling" g1 gd1 ["rules", "scale"] spF) (zMa:FnG P w K mg base k "check_worth" g2 gd2 ["tree", "scale"] spW):FnOk P w K mg base (CXG P w) (k+1) f fd ["rules", "tree", "scale", "way", "kinds"] (spTwo spF spW 2):=by
 refine F.okG zDa 55 38
 ·obtain⟨x,v,y,r,rfl,hl,_⟩:=h
  simp[hl]
 obtain⟨x,v,y,r,rfl,hl,h⟩:=h
 obtain⟨z,z',rfl⟩:∃z z',r=[z,z']:=by
  match r,hl with
  |[z,z'],_=>exact⟨z,z',rfl⟩
 refine⟨_,(zAF (zAk (zBP zMZ.ok hr 39 zMZ.gl zMZ.kp zMZ.bd .nil zDV (zAA (pv 0) (zAA (pv 2) zAB))))
  (zAF (zAk (zBP zMa.ok hr 39 zMa.gl zMa.kp zMa.bd .nil zDV (zAA 90 (zAA (pv 2) zAB)))) zAj)),?_⟩
 exact⟨_,rfl,_,rfl,mF _ _ _ _ _ (λ Ω H1 h1=>⟨_,rfl,_,rfl,mW _ _ _ _ _ (λ Ω Ω h2=>h2.elim) h1⟩) h⟩
def zD9 (cT:Addr):Sp:=λ vs H Ω E=>∃(t:Tr) (v:V) (d:Addr) (sc:Scl),vs=[v,.ref d]/\Rep H t v/\ScAt H d sc/\t.size<=300/\200<wrt (rowF sc) t/\∀H',Sf H H'->E (.ref cT) none H'
theorem zLm {k:Nat}{f g1 cT:Addr}{fd gd1:FuncData}{tk:Tok}(F:Fun K "check_worth" "check_worth" zBe f fd) (zMY:mg "MOST_WORTH" = some (.int 200 tk)) (zMd:mg "TooGreat" = some (.ref cT)) (x_TooGreat:W.excIn K cT bmVE "ValueError.__new__" = true) (zMS:FnB P w K mg base k "worth" g1 gd1 ["tree", "scale"] zCo):FnOk P w K mg base (CXF P w) (k+1) f fd ["tree", "scale"] (zD9 cT):=by
 refine F.okF zCb 55 38
 ·obtain⟨t,v,d,sc,rfl,_⟩:=h
  rfl
 obtain⟨t,v,d,sc,rfl,rt,hsc,hz,hw,q⟩:=h;refine⟨_,(zAH (ps_if (zAT op_gt (pe_cl zMS hr (zAA (pv 0) (zAA 90 zAB))) (zAN (v:=.int 200) 39 zMY 43) (zAe _)) (zAH (zDQ 39 zMd x_TooGreat (zAA zAQ zAB))) zAV)),?_⟩;refine⟨_,rfl,_,rfl,t,v,d,sc,rfl,rt,hsc,hz,λ H1 g1=>⟨_,_,rfl,rfl,_,rfl,ite2 (λ Ω=>⟨(by show 1<=sizeLine;decide),q H1 g1⟩) (λ c=>absurd (lU 31) c)⟩⟩
theorem zHr:MonQ zDF:=λ vs H Q Q' E m h=>by
 obtain⟨l,d,qs,sc,e,a,b,c,q⟩:=h;exact⟨l,d,qs,sc,e,a,b,c,λ H' g=>m _ _ (q H' g)⟩
theorem zHp {cT:Addr}:MonQ (zD9 cT):=λ vs H Q Q' E m h=>h
noncomputable abbrev zAv:Stmt:=zKt (top 6) 0
theorem zCs:zAX ["self", "number"] ["self", "number"] (zAJ zAv):=scI
def zJm (D:Addr):Sp:=λ vs H Q Ω=>E2 λ(ea:Addr) (i:Int)=>A4 (vs=[.ref ea,.int i]) (H ea=some (exN ea D)) (i.natAbs<1000) (∀dx,H dx=none->dx≠ea->Q .non (upd (upd H dx (.xd [("number", .int i)])) ea (exW ea D dx)))
theorem zLh (F:Fun K "__init__" "NoFall.__init__" zAv f fd) (zMe:mg "RecastError" = some (.ref R)) (XS:XSup K R) (C:W.Exc3 K D R f) (hv:W.mroIn K D (.type "ValueError")=some true) (hna:W.findIn K (.ref D) "number" = some none) :
  FnOk P w K mg base CX0 (k+1) f fd ["self", "number"] (zJm D):=by
 refine F.ok zCs 55 38
 ·obtain⟨ea,x,rfl,_⟩:=h
  rfl
 obtain⟨ea,x,rfl,hea,hx,q⟩:=h;refine⟨_,(zAF (zAk (zI1 (zAN (v:=.ref _) 39 zMe 39) XS C.toExc2 hv (zAA (pv 0) (zAA (zKe 90) zAB)))) (zAH (zKW (pv 0) 90 C.toExc2 C.ob hna rfl))),?_⟩;refine⟨rfl,_,rfl,_,rfl,x,rfl,hx,λ out=>⟨ea,_,rfl,hea,?_⟩⟩;exact⟨_,rfl,_,rfl,ea,rfl,hea,λ dx h1 h2=>q dx h1 h2⟩
def zDE (D:Addr):Sp:=λ vs H Ω E=>∃(l d:Addr) (qs:List Rl3) (sc:Scl) (n:Nat) (q:Rl3),vs=[.ref l,.ref d]/\RlsA H l qs/\ScAt H d sc/\qs[n]?=some q/\¬fallQ sc q/\(∀p∈qs.take n,fallQ sc p)/\∀dx H',Sf H H'->H' dx=some (.xd [("number", .int (n:Int))])->E (.ref D) (some dx) H'
theorem zHq {D:Addr}:MonQ (zDE D):=λ vs H Q Q' E m h=>h
theorem zLp (F:Fun K "check_falling" "check_falling" zBD f fd) (z_enumerate:mg "enumerate" = none) (zMf:mg "NoFall" = some (.ref D)) (C:W.Exc3 K D R fi) (hkp:W.keepIn K (.ref D)=true) (zMg:∃j,j+1=k/\FnOk P w K mg base CX0 j fi fdi ["self", "number"] (zJm D)) (hbi:Binds K fdi ["self", "number"] []) (zMQ:FnB P w K mg base k "check_scale" g1 gd1 ["scale"] zBT) (zMX:FnB P w K mg base k "falls" g2 gd2 ["rule", "scale"] zDO):FnOk P w K mg base (CXG P w) (k+1) f fd ["rules", "scale"] (zDE D):=by
 refine F.okG zAq 55 38
 ·obtain⟨l,d,qs,sc,n,q3,rfl,_⟩:=h
  rfl
 obtain⟨l,d,qs,sc,n,q3,rfl,⟨rs,el,hp,lr⟩,hsc,hn,hnf,hf,q⟩:=h;obtain⟨j,rfl,hI⟩:=zMg
 refine⟨_,(zAF (zAk (pe_cl zMQ hr (zAA 90 zAB)))
  (zAH (zBQ zJz rfl (zEd 39 z_enumerate (zAA (pv 0) zAB)) (zCG rfl (zAb (pGn (i:=2) zAq.nd) (zAb (pGn (i:=3) zAq.nd) zBS))) (zAH (ps_if (zCc (zCN (pe_cl zMX hr (zAA (pv 3) (zAA 90 zAB))))) (zAH (zHW 39 zMf C hI hr hbi hkp (zAA (pv 2) zAB))) zAV))))),?_⟩
 have hnl:n<rs.length:=by
  have:=(lI.mp hn).1;have:=hp.length
  lia
 refine⟨_,rfl,d,sc,rfl,hsc,λ H1 g1=>?_⟩;refine⟨_,rfl,l,rfl,⟨rs,SqL.of (g1.lst el)⟩,?_⟩;refine zDs (xs:=rs) (λ i σ' H'=>E2 λ(s2 s3:Option V)=>A3 (σ'=[some (.ref l),some (.ref d),s2,s3]) (Sf H H') (i<=n)) ⟨none,none,rfl,g1,lY _⟩ ?_ ?_ ?_
 ·rintro i σ' H' _ ⟨s2,s3,rfl,g,hi⟩
  exact SqL.of (g.lst el)
 ·rintro i x T σ' H' hx ⟨s2,s3,rfl,g,hi⟩ hT
  obtain⟨q4,hq,r,rfl,hru,z1,z2,z3,z4⟩:=zA5 hp hx;have g2:=g.trans (zAD (o:=.tup [.int i,.ref r]) hT).sf;refine⟨T,_,rfl,SqT.of zAC,rfl,_,_,rfl,_,_,rfl,rfl,?_⟩;refine⟨_,rfl,_,rfl,r,d,q4.1,q4.2.1,q4.2.2,sc,rfl,hru.mono g2,z1,z2,z3,z4,hsc.mono g2,λ b H3 g3 hb=>?_⟩;have g13:=g2.trans g3;rcases Nat.lt_or_ge i n with h|h
  ·have:b=true:=hb.mpr (hf q4 (by
    rw[List.mem_take_iff_getElem];obtain⟨hlt,e⟩:=lI.mp hq;exact⟨i,by lia,e⟩))
   subst this;exact⟨_,rfl,iteF ⟨_,_,rfl,g13,h⟩⟩
  ·have e:i=n:=by lia
   subst e;rw[hn] at hq;cases hq
   have:b=false:=by
    cases b with
    |false=>rfl
    |true=>exact absurd (hb.mp rfl) hnf
   subst this;refine⟨_,rfl,iteT ⟨_,rfl,(by show 1<=sizeLine;decide),λ ea hea=>⟨ea,(i:Int),rfl,zAC,by lia,λ dx h1 h2=>⟨rfl,dx,zAC,q dx _ (λ b u hb=>?_) ?_⟩⟩⟩⟩
   ·have n1:b≠ea:=zAR hb (g13.free hea)
    rw[zAO h2] at h1;have n2:b≠dx:=zAR hb (g13.free h1);rw[zBq n1,zAO n1,zAO n2,zAO n1];exact g13 b u hb
   ·rw[zBq h2,zAO h2,zAC]
 ·rintro σ' H' ⟨s2,s3,rfl,g,hi⟩
  exact absurd hi 31
abbrev zCT:Stmt:=top 98
theorem zAG:zAX ["_law_way", "_law_rules_here", "_law_tree", "_law_scale_here", "_law_told_here", "e", "_law_based"] ["_law_way", "_law_rules_here", "_law_tree", "_law_scale_here"] (zAJ zCT):=scI
structure Hd (K:W.Frag) (cR cS cN cT cX:Addr) (kind:Str):Prop where
 x:W.ExCls K cX
 oR:W.kitOne K (.ref cX) (.ref cR)=some true
 oV:W.kitOne K (.ref cX) (.type "ValueError")=some true
 oN:W.kitOne K (.ref cX) (.ref cN)=some false
 wh:(kind = "scale" /\ W.mroIn K cX (.ref cS)=some true/\W.kitOne K (.ref cX) (.ref cT)=some false)\/(kind = "great" /\ W.mroIn K cX (.ref cS)=some false/\W.mroIn K cX (.ref cN)=some false/\W.mroIn K cX (.ref cT)=some true/\W.kitOne K (.ref cX) (.ref cS)=some false)
def zES (spWo spFa spTn spTb:Sp) (cX ff:Addr) (kind:Str):Sp:=λ vs H Q Ω=>E6 λ(way:Int) (l:Addr) (x0:V) (rs:List V) (v y:V)=>A4 (vs=[.int way,.ref l,v,y]) (H l=some (.lst (x0::rs))) (way=0\/way=1\/way=2\/way=3) (∀H1,Same H H1->(way=0->spWo [v,y] H1 (λ Ω Ω=>False) (λ c Ω H2=>c = .ref cX/\∀p H3,Same H2 H3->H3 p=some (.tup [.str kind,.int 0,.bl true,.bl false])->Q (.ref p) H3)) /\
 (way=1->spFa [x0,y] H1 (λ Ω Ω=>False) (λ c Ω H2=>c = .ref cX/\∀p H3,Same H2 H3->H3 p=some (.tup [.str kind,.int 0,.bl true,.bl false])->Q (.ref p) H3)) /\
 (way=2->spTn [.ref l,v,y,.str "inner", .non] H1 (λ Ω Ω=>False) (λ c Ω H2=>c = .ref cX/\∀p H3,Same H2 H3->H3 p=some (.tup [.str kind,.int 0,.bl true,.bl false])->Q (.ref p) H3)) /\
 (way=3->spTb [.ref l,v,y,.ref ff] H1 (λ Ω Ω=>False) (λ c Ω H2=>c = .ref cX/\∀p H3,Same H2 H3->H3 p=some (.tup [.str kind,.int 0,.bl true,.bl false])->Q (.ref p) H3)))
theorem zGQ {k:Nat}{f g1 g2 g3 g4 cR cS cN cT cX ff:Addr}{fd gd1 gd2 gd3 gd4:FuncData}{spWo spFa spTn spTb:Sp}{kind:Str}{ds:List Value}(F:Fun K "_law_told" "_law_told" zCT f fd) (z_isinstance:mg "isinstance" = none) (z_ValueError:mg "ValueError" = none) (zMe:mg "RecastError" = some (.ref cR)) (zMh:mg "NoScale" = some (.ref cS)) (zMf:mg "NoFall" = some (.ref cN)) (zMd:mg "TooGreat" = some (.ref cT)) (zMi:ExC K cS) (zMj:ExC K cN) (zMk:ExC K cT) (m__law_first:mg "_law_first" = some (.ref ff))
  (X:Hd K cR cS cN cT cX kind) (mo:MonE spWo) (mf:MonE spFa) (mt:MonE spTn) (mb:MonE spTb) (zMS:FnF P w K mg base k "worth" g1 gd1 ["tree", "scale"] spWo) (zMX:FnF P w K mg base k "falls" g2 gd2 ["rule", "scale"] spFa) (zMl:FnF P w K mg base k "turned" g3 gd3 ["rules", "tree", "scale", "way", "kinds"] spTn) (hbd:Binds K gd3 ["rules", "tree", "scale", "way", "kinds"] ds) (hvd:Vals [.str "inner", .non] ds) (zMm:FnF P w K mg base k "turned_by" g4 gd4 ["rules", "tree", "scale", "choose"] spTb) :
  FnOk P w K mg base CX0 (k+1) f fd ["_law_way", "_law_rules_here", "_law_tree", "_law_scale_here"] (zES spWo spFa spTn spTb cX ff kind):=by
 refine F.ok zAG 55 38
 ·obtain⟨way,l,x0,rs,v,y,rfl,_⟩:=h
  rfl
 obtain⟨way,l,x0,rs,v,y,rfl,hl,hw,hc⟩:=h
 refine⟨_,(zAF (pS (i:=4) zAG.nd (zAc (zAA zAQ zAB):PE _ _ _))
  (zAF (zJu (λ Ω Ω=>(zAH (ps_if (zAT op_eq (pv 0) zAE (zAe _)) (zAH (zAk (zDS rfl rfl (ph_as zAG.nd (i:=5) rfl rfl 39 zMh zMi (λ Ω=>(zAF 33
  53)) (ph_as zAG.nd (i:=5) rfl rfl 39 zMf zMj (λ Ω=>(zAF 33
  49)) (ph_as zAG.nd (i:=5) rfl rfl 39 zMd zMk (λ Ω=>(zAF 33
  52)) zGN))) zMS.ok hr 39 zMS.gl zMS.kp zMS.bd .nil (zAA (pv 2) (zAA (pv 3) zAB))))) (zAH (ps_if (zAT op_eq (pv 0) zAE (zAe _)) (zAH (zAk (zDS rfl rfl (ph_as zAG.nd (i:=5) rfl rfl 39 zMh zMi (λ Ω=>(zAF 33
  53)) (ph_as zAG.nd (i:=5) rfl rfl 39 zMf zMj (λ Ω=>(zAF 33
  49)) (ph_as zAG.nd (i:=5) rfl rfl 39 zMd zMk (λ Ω=>(zAF 33
  52)) zGN))) zMX.ok hr 39 zMX.gl zMX.kp zMX.bd .nil (zAA (iC (r:=rIxL K) zBI 90) (zAA (pv 3) zAB))))) (zAH (ps_if (zAT op_eq (pv 0) zAE (zAe _)) (zAH (zAk (zDS rfl rfl (ph_as zAG.nd (i:=5) rfl rfl 39 zMh zMi (λ Ω=>(zAF 33
  53)) (ph_as zAG.nd (i:=5) rfl rfl 39 zMf zMj (λ Ω=>(zAF 33
  49)) (ph_as zAG.nd (i:=5) rfl rfl 39 zMd zMk (λ Ω=>(zAF 33
  52)) zGN))) zMl.ok hr 39 zMl.gl zMl.kp hbd hvd (zAA 90 (zAA (pv 2) (zAA (pv 3) zAB)))))) (zAH (zAk (zDS rfl rfl (ph_as zAG.nd (i:=5) rfl rfl 39 zMh zMi (λ Ω=>(zAF 33
  53)) (ph_as zAG.nd (i:=5) rfl rfl 39 zMf zMj (λ Ω=>(zAF 33
  49)) (ph_as zAG.nd (i:=5) rfl rfl 39 zMd zMk (λ Ω=>(zAF 33
  52)) zGN))) zMm.ok hr 39 zMm.gl zMm.kp zMm.bd .nil (zAA 90 (zAA (pv 2) (zAA (pv 3) (zAA (zAN (v:=.ref _) 39 m__law_first 39) zAB)))))))))))))) zAV)
  (zAH (zAs (pv 4))))),?_⟩
 have d1:1<=sizeLine:=by decide
 have d4:4<=sizeLine:=by decide
 refine⟨d1,λ p0 hp0=>?_⟩;have k1:=zAD (o:=.tup [.str "taken"]) hp0;dsimp only[gName];generalize upd H p0 _=H1 at k1 ⊢;obtain⟨c0,c1,c2,c3⟩:=hc H1 k1;have hl1:=k1 _ _ hl;apply viaH (λ H2=>∀p H3,Same H2 H3->H3 p=some (.tup [.str kind,.int 0,.bl true,.bl false])->Q (.ref p) H3)
 ·intro rest
  refine⟨_,rfl,rfl,_,rfl,ite2 (λ e=>?_) (λ n0=>?_)⟩
  ·exact⟨_,rfl,_,rfl,mo _ _ _ _ _ _ (λ Ω Ω z=>z.elim) (λ c d H2 z=>⟨cX,z.1,rest H2 z.2⟩) (c0 (V.int.inj (lT e)))⟩
  refine⟨_,rfl,rfl,_,rfl,ite2 (λ e=>?_) (λ n1=>?_)⟩
  ·exact⟨_,rfl,l,_,0,_,rfl,rfl,SqL.of hl1,zAu (j:=0) rfl,_,rfl,mf _ _ _ _ _ _ (λ Ω Ω z=>z.elim) (λ c d H2 z=>⟨cX,z.1,rest H2 z.2⟩) (c1 (V.int.inj (lT e)))⟩
  refine⟨_,rfl,rfl,_,rfl,ite2 (λ e=>?_) (λ n2=>?_)⟩
  ·exact⟨_,rfl,_,rfl,_,rfl,mt _ _ _ _ _ _ (λ Ω Ω z=>z.elim) (λ c d H2 z=>⟨cX,z.1,rest H2 z.2⟩) (c2 (V.int.inj (lT e)))⟩
  have e3:way=3:=by
   rcases hw with e|e|e|e
   ·exact absurd (by rw[e];exact lU rfl) n0
   ·exact absurd (by rw[e];exact lU rfl) n1
   ·exact absurd (by rw[e];exact lU rfl) n2
   ·exact e
  exact⟨_,rfl,_,rfl,_,rfl,mb _ _ _ _ _ _ (λ Ω Ω z=>z.elim) (λ c d H2 z=>⟨cX,z.1,rest H2 z.2⟩) (c3 e3)⟩
 intro H2 hq;rcases X.wh with ⟨rfl,h1,h2⟩|⟨rfl,h1,h2,h3,h4⟩
 ·refine⟨X.x,true,h1,iteT λ ea hea=>?_⟩
  have e2:=@zAC H2 ea (exO ea cX);have k2:=zAD (o:=exO ea cX) hea;generalize upd H2 ea _=H4 at e2 k2 ⊢;refine⟨_,rfl,ea,cX,.ref cR,.ref cR,true,rfl,e2,X.x,(λ u r=>r),X.oR,_,rfl,iteT ⟨_,rfl,ea,cX,.ty "ValueError", .type "ValueError", true,rfl,e2,X.x,(λ u r=>r),X.oV,?_⟩⟩;refine⟨_,rfl,_,rfl,ea,cX,.ref cN,.ref cN,false,rfl,e2,X.x,(λ u r=>r),X.oN,_,rfl,iteF ⟨_,rfl,ea,cX,.ref cT,.ref cT,false,rfl,e2,X.x,(λ u r=>r),h2,d4,λ p hp=>⟨_,rfl,hq p _ (k2.trans (zAD hp)) zAC⟩⟩⟩
 ·refine⟨X.x,false,h1,iteF ⟨X.x,false,h2,iteF ⟨X.x,true,h3,iteT λ ea hea=>?_⟩⟩⟩
  have e2:=@zAC H2 ea (exO ea cX);have k2:=zAD (o:=exO ea cX) hea;generalize upd H2 ea _=H4 at e2 k2 ⊢;refine⟨_,rfl,ea,cX,.ref cR,.ref cR,true,rfl,e2,X.x,(λ u r=>r),X.oR,_,rfl,iteT ⟨_,rfl,ea,cX,.ty "ValueError", .type "ValueError", true,rfl,e2,X.x,(λ u r=>r),X.oV,?_⟩⟩;refine⟨_,rfl,_,rfl,ea,cX,.ref cS,.ref cS,false,rfl,e2,X.x,(λ u r=>r),h4,_,rfl,iteF ⟨_,rfl,ea,cX,.ref cN,.ref cN,false,rfl,e2,X.x,(λ u r=>r),X.oN,d4,λ p hp=>⟨_,rfl,hq p _ (k2.trans (zAD hp)) zAC⟩⟩⟩
structure HdN (K:W.Frag) (cR cS cN cT:Addr):Prop where
 x:W.ExCls K cN
 dc:W.DictCls K cN
 nb:W.findIn K (.ref cN) "number" = some none
 oR:W.kitOne K (.ref cN) (.ref cR)=some true
 oV:W.kitOne K (.ref cN) (.type "ValueError")=some true
 oS:W.kitOne K (.ref cN) (.ref cS)=some false
 oT:W.kitOne K (.ref cN) (.ref cT)=some false
 mS:W.mroIn K cN (.ref cS)=some false
 mN:W.mroIn K cN (.ref cN)=some true
def zER (spTn spTb:Sp) (cN ff:Addr) (n:Int):Sp:=λ vs H Q Ω=>E4 λ(way:Int) (l:Addr) (v y:V)=>A3 (vs=[.int way,.ref l,v,y]) (way=2\/way=3) (∀H1,Same H H1 ->
 (way=2->spTn [.ref l,v,y,.str "inner", .non] H1 (λ Ω Ω=>False) (λ c d H2=>c = .ref cN/\∃dx,d=some dx/\H2 dx=some (.xd [("number", .int n)])/\∀p H3,Same H2 H3->H3 p=some (.tup [.str "fall", .int n,.bl true,.bl false])->Q (.ref p) H3)) /\
 (way=3->spTb [.ref l,v,y,.ref ff] H1 (λ Ω Ω=>False) (λ c d H2=>c = .ref cN/\∃dx,d=some dx/\H2 dx=some (.xd [("number", .int n)])/\∀p H3,Same H2 H3->H3 p=some (.tup [.str "fall", .int n,.bl true,.bl false])->Q (.ref p) H3)))
theorem zI9 {k:Nat}{f g3 g4 cR cS cN cT ff:Addr}{fd gd3 gd4:FuncData}{spTn spTb:Sp}{n:Int}{ds:List Value}(F:Fun K "_law_told" "_law_told" zCT f fd) (z_isinstance:mg "isinstance" = none) (z_ValueError:mg "ValueError" = none) (zMe:mg "RecastError" = some (.ref cR)) (zMh:mg "NoScale" = some (.ref cS)) (zMf:mg "NoFall" = some (.ref cN)) (zMd:mg "TooGreat" = some (.ref cT)) (zMi:ExC K cS) (zMj:ExC K cN) (zMk:ExC K cT) (m__law_first:mg "_law_first" = some (.ref ff))
  (X:HdN K cR cS cN cT) (mt:MonE spTn) (mb:MonE spTb) (zMl:FnG P w K mg base k "turned" g3 gd3 ["rules", "tree", "scale", "way", "kinds"] spTn) (hbd:Binds K gd3 ["rules", "tree", "scale", "way", "kinds"] ds) (hvd:Vals [.str "inner", .non] ds) (zMm:FnG P w K mg base k "turned_by" g4 gd4 ["rules", "tree", "scale", "choose"] spTb) :
  FnOk P w K mg base CX0 (k+1) f fd ["_law_way", "_law_rules_here", "_law_tree", "_law_scale_here"] (zER spTn spTb cN ff n):=by
 refine F.ok zAG 55 38
 ·obtain⟨way,l,v,y,rfl,_⟩:=h
  rfl
 obtain⟨way,l,v,y,rfl,hw,hc⟩:=h
 refine⟨_,(zAF (pS (i:=4) zAG.nd (zAc (zAA zAQ zAB):PE _ _ _))
  (zAF (zJu (λ Ω Ω=>(zAH (ps_if (zAT op_eq (pv 0) zAE (zAe _)) zAj (zAH (ps_if (zAT op_eq (pv 0) zAE (zAe _)) zAj (zAH (ps_if (zAT op_eq (pv 0) zAE (zAe _)) (zAH (zAk (zFB rfl rfl (zED zAG.nd (i:=5) rfl rfl 39 zMh zMi (λ Ω=>(zAF 44
  (zAH (pS (i:=4) zAG.nd (zAc (zAA zAQ (zAA zAE (zAA (pv 6) (zAA (pe_or (zAI (r:=rIsiG K) zAZ 39 z_isinstance rT (zAA (pv 5) (zAA (zAN (v:=.ref _) 39 zMf 39) zAB))) (zAg (zAI (r:=rIsiG K) zAZ 39 z_isinstance rT (zAA (pv 5) (zAA (zAN (v:=.ref _) 39 zMd 39) zAB))))) zAB)))):PE _ _ _))))) (zED zAG.nd (i:=5) rfl rfl 39 zMf zMj (λ Ω=>(zAF 44
  (zAH (pS (i:=4) zAG.nd (zAc (zAA zAQ (zAA (zGO (K:=K) (pv 5) rfl) (zAA (pv 6) (zAA (pe_or (zAI (r:=rIsiG K) zAZ 39 z_isinstance rT (zAA (pv 5) (zAA (zAN (v:=.ref _) 39 zMh 39) zAB))) (zAg (zAI (r:=rIsiG K) zAZ 39 z_isinstance rT (zAA (pv 5) (zAA (zAN (v:=.ref _) 39 zMd 39) zAB))))) zAB)))):PE _ _ _))))) (zED zAG.nd (i:=5) rfl rfl 39 zMd zMk (λ Ω=>(zAF 44
  (zAH (pS (i:=4) zAG.nd (zAc (zAA zAQ (zAA zAE (zAA (pv 6) (zAA (pe_or (zAI (r:=rIsiG K) zAZ 39 z_isinstance rT (zAA (pv 5) (zAA (zAN (v:=.ref _) 39 zMh 39) zAB))) (zAg (zAI (r:=rIsiG K) zAZ 39 z_isinstance rT (zAA (pv 5) (zAA (zAN (v:=.ref _) 39 zMf 39) zAB))))) zAB)))):PE _ _ _))))) zHd))) zMl.ok hr 39 zMl.gl zMl.kp hbd hvd (zAA 90 (zAA (pv 2) (zAA (pv 3) zAB)))))) (zAH (zAk (zFB rfl rfl (zED zAG.nd (i:=5) rfl rfl 39 zMh zMi (λ Ω=>(zAF 44
  (zAH (pS (i:=4) zAG.nd (zAc (zAA zAQ (zAA zAE (zAA (pv 6) (zAA (pe_or (zAI (r:=rIsiG K) zAZ 39 z_isinstance rT (zAA (pv 5) (zAA (zAN (v:=.ref _) 39 zMf 39) zAB))) (zAg (zAI (r:=rIsiG K) zAZ 39 z_isinstance rT (zAA (pv 5) (zAA (zAN (v:=.ref _) 39 zMd 39) zAB))))) zAB)))):PE _ _ _))))) (zED zAG.nd (i:=5) rfl rfl 39 zMf zMj (λ Ω=>(zAF 44
  (zAH (pS (i:=4) zAG.nd (zAc (zAA zAQ (zAA (zGO (K:=K) (pv 5) rfl) (zAA (pv 6) (zAA (pe_or (zAI (r:=rIsiG K) zAZ 39 z_isinstance rT (zAA (pv 5) (zAA (zAN (v:=.ref _) 39 zMh 39) zAB))) (zAg (zAI (r:=rIsiG K) zAZ 39 z_isinstance rT (zAA (pv 5) (zAA (zAN (v:=.ref _) 39 zMd 39) zAB))))) zAB)))):PE _ _ _))))) (zED zAG.nd (i:=5) rfl rfl 39 zMd zMk (λ Ω=>(zAF 44
  (zAH (pS (i:=4) zAG.nd (zAc (zAA zAQ (zAA zAE (zAA (pv 6) (zAA (pe_or (zAI (r:=rIsiG K) zAZ 39 z_isinstance rT (zAA (pv 5) (zAA (zAN (v:=.ref _) 39 zMh 39) zAB))) (zAg (zAI (r:=rIsiG K) zAZ 39 z_isinstance rT (zAA (pv 5) (zAA (zAN (v:=.ref _) 39 zMf 39) zAB))))) zAB)))):PE _ _ _))))) zHd))) zMm.ok hr 39 zMm.gl zMm.kp zMm.bd .nil (zAA 90 (zAA (pv 2) (zAA (pv 3) (zAA (zAN (v:=.ref _) 39 m__law_first 39) zAB)))))))))))))) zAV)
  (zAH (zAs (pv 4))))),?_⟩
 have d1:1<=sizeLine:=by decide
 have d4:4<=sizeLine:=by decide
 refine⟨d1,λ p0 hp0=>?_⟩;have k1:=zAD (o:=.tup [.str "taken"]) hp0;dsimp only[gName];generalize upd H p0 _=H1 at k1 ⊢;obtain⟨c2,c3⟩:=hc H1 k1
 have hw0:¬decide (V.int way=V.int 0)=true:=λ z=>by
  have:=V.int.inj (lT z)
  lia
 have hw1:¬decide (V.int way=V.int 1)=true:=λ z=>by
  have:=V.int.inj (lT z)
  lia
 apply viaG (λ dx H2=>H2 dx=some (.xd [("number", .int n)])/\∀p H3,Same H2 H3->H3 p=some (.tup [.str "fall", .int n,.bl true,.bl false])->Q (.ref p) H3)
 ·intro rest
  refine⟨_,rfl,rfl,_,rfl,ite2 (λ e=>absurd e hw0) (λ Ω=>?_)⟩;refine⟨_,rfl,rfl,_,rfl,ite2 (λ e=>absurd e hw1) (λ Ω=>?_)⟩;refine⟨_,rfl,rfl,_,rfl,ite2 (λ e=>?_) (λ n2=>?_)⟩
  ·exact⟨_,rfl,_,rfl,_,rfl,mt _ _ _ _ _ _ (λ Ω Ω z=>z.elim) (λ c d H2 z=>⟨cN,z.1,by obtain⟨dx,rfl,z2⟩:=z.2;exact rest dx H2 z2⟩) (c2 (V.int.inj (lT e)))⟩
  have e3:way=3:=by
   rcases hw with e|e
   ·exact absurd (by rw[e];exact lU rfl) n2
   ·exact e
  exact⟨_,rfl,_,rfl,_,rfl,mb _ _ _ _ _ _ (λ Ω Ω z=>z.elim) (λ c d H2 z=>⟨cN,z.1,by obtain⟨dx,rfl,z2⟩:=z.2;exact rest dx H2 z2⟩) (c3 e3)⟩
 rintro dx H2 ⟨hdx,hq⟩;refine⟨X.x,false,X.mS,iteF ⟨X.x,true,X.mN,iteT ⟨dx,rfl,λ ea hea=>?_⟩⟩⟩;have e2:=@zAC H2 ea (exC ea cN dx);have k2:=zAD (o:=exC ea cN dx) hea;have hd2:=k2 _ _ hdx;generalize upd H2 ea _=H4 at e2 k2 hd2 ⊢;refine⟨_,rfl,ea,cN,dx,.ref cR,true,rfl,e2,X.x,.inl ⟨.ref cR,(λ u r=>r),X.oR⟩,_,rfl,iteT ⟨_,rfl,ea,cN,dx,.ty "ValueError", true,rfl,e2,X.x,.inl ⟨.type "ValueError", (λ u r=>r),X.oV⟩,?_⟩⟩;refine⟨_,rfl,ea,cN,dx,_,n,rfl,e2,hd2,X.x,X.dc,X.nb,rfl,?_⟩;refine⟨_,rfl,_,rfl,ea,cN,dx,.ref cS,false,rfl,e2,X.x,.inl ⟨.ref cS,(λ u r=>r),X.oS⟩,_,rfl,iteF ⟨_,rfl,ea,cN,dx,.ref cT,false,rfl,e2,X.x,.inl ⟨.ref cT,(λ u r=>r),X.oT⟩,d4,λ p hp=>⟨_,rfl,hq p _ (k2.trans (zAD hp)) zAC⟩⟩⟩
abbrev zBR:Stmt:=top 96
theorem zAd:zAX ["_law_scale_here", "_law_cell", "_law_tree", "_law_much", "_law_row"] ["_law_scale_here", "_law_cell"] (zAJ zBR):=scI
def zJq:Sp:=λ vs H Q Ω=>E6 λ(d:Addr) (c:Int) (sc:Scl) (r0 r1 r2:Nat)=>A5 (vs=[.ref d,.int c]) (ScAt H d sc) (sc.lookup .add=some [r0,r1,r2]) (sc.lookup .say=none) (∀(t:Tr) (v:V) (H':Hp),Same H H'->Rep H' t v->wrt (rowF sc) t=200->t.size<=200->NAS t->Q v H')
theorem zLt (F:Fun K "_law_two_hundred" "_law_two_hundred" zBR f fd):FnOk P w K mg base CX0 (k+1) f fd ["_law_scale_here", "_law_cell"] zJq:=by
 refine F.ok zAd 55 38
 ·obtain⟨d,c,sc,r0,r1,r2,rfl,_⟩:=h
  rfl
 obtain⟨d,c,sc,r0,r1,r2,rfl,⟨kvs,hs⟩,ha,hsy,q⟩:=h;have hu:=hu_of hr
 refine⟨_,(Sd.un (zAK (pSS (i:=2) zAd.nd (zAh (zAU ⟨zAQ⟩ (zAU ⟨pe_op zAa 90 (pe_op zDI zAE zAE)⟩ ⟨zAB⟩))))
  (zAK (pSS (i:=3) zAd.nd ⟨zAE⟩)
  (zAK (pSS (i:=4) zAd.nd ⟨zEf hu (pv 0) zAQ (λ Ω Ω=>rfl)⟩)
  (zAK ⟨zCV PassesOwn.never (zAT op_le (pe_op zA8 (pe_op zA8 (iC (r:=rIxT K) zA4 (pv 4)) (pe_op zHk (iC (r:=rIxT K) zA4 (pv 4)) (pv 3))) (iC (r:=rIxT K) zA4 (pv 4))) zAE (zAe _)) (zAF (pS (i:=2) zAd.nd (zAc (zAA zAQ (zAA (pv 2) (zAA (zAc (zAA zAQ (zAA (pe_op zAa 90 (pe_op zDI zAE zAE)) zAB)):PE _ _ _) zAB))):PE _ _ _))
  (zAH (pS (i:=3) zAd.nd (pe_op zA8 (pe_op zA8 (iC (r:=rIxT K) zA4 (pv 4)) (pe_op zHk (iC (r:=rIxT K) zA4 (pv 4)) (pv 3))) (iC (r:=rIxT K) zA4 (pv 4))))))⟩
  (zAK ⟨zCV PassesOwn.never (zAT op_lt (pv 3) zAE (zAe _)) (zAF (pS (i:=2) zAd.nd (zAc (zAA zAQ (zAA (pv 2) zAB)):PE _ _ _))
  (zAH (pS (i:=3) zAd.nd (pe_op zA8 (pv 3) zAE))))⟩
  (zAt (zBK ⟨pv 2⟩)))))))),?_⟩
 have d2:2<=sizeLine:=by decide
 have d3:3<=sizeLine:=by decide
 have gr:zBb .add [r0,r1,r2]:=zCh (zDq hs.ps) ha;have c1:1<=r0:=gr.c1;have c9:r0<=9:=gr.c9;have k1:1<=r1/\r1<=3:=gr.ks r1 41;have k2:1<=r2/\r2<=3:=gr.ks r2 41;have eA:rowF sc .add=[r0,r1,r2]:=by unfold rowF;rw[ha];rfl
 have eS:rowF sc .say=[1,1,1,1]:=by unfold rowF;rw[hsy];rfl
 obtain⟨b,ev,hb⟩:∃b,valV kvs (Sum.inr Kd.add.s:Key)=some (.ref b)/\H b=some (.tup (natV [r0,r1,r2])):=by
  rcases zCI hs.ps .add with ⟨z,_⟩|⟨r,b,z,e,hb⟩
  ·rw[ha] at z;cases z
  ·rw[ha] at z;cases z;exact⟨b,e,hb⟩
 have n10:(0:Int)<10 ^ 30:=by decide
 have n9:(0:Int)<10 ^ 9:=by decide
 refine⟨_,rfl,_,_,rfl,rfl,⟨by decide,by decide,by decide⟩,_,_,rfl,rfl,n10,d2,λ p0 hp0=>?_⟩;have g0:=zAD (o:=.tup [.str "num", .int (c % 10 ^ (30:Int).toNat)]) hp0;have r0':Rep (upd H p0 (.tup [.str "num", .int (c % 10 ^ (30:Int).toNat)])) (.num (c % 10 ^ (30:Int).toNat)) (.ref p0):=⟨p0,rfl,zAC⟩;dsimp only[gName];generalize upd H p0 _=H1 at g0 r0' ⊢;refine⟨_,rfl,d,_,rfl,.inl ⟨kvs,Sum.inr Kd.add.s,g0.sf.rd hs.rd,rfl,ev.symm⟩,?_⟩;dsimp only[gName];have hb1:=g0 _ _ hb;refine⟨λ m σ' H'=>∃(t:Tr) (v:V) (u:Nat),σ'=[some (.ref d),some (.int c),some v,some (.int (u:Int)),some (.ref b)]/\Same H H'/\Rep H' t v/\wrt (rowF sc) t=u/\t.size<=u/\NAS t/\u<=200/\m=200 - u,⟨199,.num (c % 10 ^ (30:Int).toNat),_,1,rfl,g0,r0',rfl,lR _,trivial,by decide,rfl⟩,?_⟩;rintro m σ' H' ⟨t,v,u,rfl,g,rt,wt,st,nt,hu2,rfl⟩;have hb':=g _ _ hb;have cm:CMul (r1:Int) (u:Int):=.inl ⟨by lia,by lia⟩;refine⟨_,rfl,b,_,0,_,rfl,rfl,SqT.of hb',zAu (j:=0) rfl,_,rfl,b,_,1,_,rfl,rfl,SqT.of hb',zAu (j:=1) rfl,_,rfl,_,_,rfl,rfl,cm,_,_,rfl,rfl,_,rfl,b,_,2,_,rfl,rfl,SqT.of hb',zAu (j:=2) rfl,_,_,rfl,rfl,_,_,rfl,rfl,_,rfl,ite2 (λ e=>?_) (λ Ω=>?_)⟩
 ·have le:(r0:Int)+(r1:Int) * (u:Int)+(r2:Int)<=200:=lT e
  have le':r0+r1 * u+r2<=200:=by
   have:((r0+r1 * u+r2:Nat):Int)=(r0:Int)+(r1:Int) * (u:Int)+(r2:Int):=by push_cast;rfl
   lia
  refine⟨_,λ Ω Ω h=>h,?_⟩;refine⟨_,rfl,_,rfl,_,_,rfl,rfl,⟨by decide,by decide,by decide⟩,_,_,rfl,rfl,n9,d2,λ p1 hp1=>?_⟩;have k3:=zAD (o:=.tup [.str "num", .int (c % 10 ^ (9:Int).toNat)]) hp1;have e3:Rep (upd H' p1 (.tup [.str "num", .int (c % 10 ^ (9:Int).toNat)])) (.num (c % 10 ^ (9:Int).toNat)) (.ref p1):=⟨p1,rfl,zAC⟩;generalize upd H' p1 _=H3 at k3 e3 ⊢;refine⟨d3,λ p2 hp2=>?_⟩;have k4:=zAD (o:=.tup [.str "add", v,.ref p1]) hp2;have e4:=@zAC H3 p2 (.tup [.str "add", v,.ref p1]);dsimp only[gName];generalize upd H3 p2 _=H4 at k4 e4 ⊢;have k34:=k3.trans k4;have hb4:=(g.trans k34) _ _ hb;refine⟨_,rfl,b,_,0,_,rfl,rfl,SqT.of hb4,zAu (j:=0) rfl,_,rfl,b,_,1,_,rfl,rfl,SqT.of hb4,zAu (j:=1) rfl,_,rfl,_,_,rfl,rfl,cm,_,_,rfl,rfl,_,rfl,b,_,2,_,rfl,rfl,SqT.of hb4,zAu (j:=2) rfl,_,_,rfl,rfl,?_⟩;have ru:u<=r1 * u:=Nat.le_mul_of_pos_left u 31;refine⟨200 - (r0+r1 * u+r2),by lia,.bin .add t (.num (c % 10 ^ (9:Int).toNat)),.ref p2,r0+r1 * u+r2,?_,g.trans k34,⟨p2,_,_,rfl,e4,rt.mono k34.tk,e3.mono k4.tk⟩,?_,?_,⟨nt,trivial⟩,le',rfl⟩
  ·show [_,_,_,some (V.int ((r0:Int)+(r1:Int) * (u:Int)+(r2:Int))),_]=_
   rw[show ((r0+r1 * u+r2:Nat):Int)=(r0:Int)+(r1:Int) * (u:Int)+(r2:Int) by push_cast;rfl]
  ·rw[zIk eA,zKH,wt];lia
  ·show t.size+1+1<=_
   lia
 ·refine⟨λ m σ' H'=>∃(t:Tr) (v:V) (u:Nat),σ'=[some (.ref d),some (.int c),some v,some (.int (u:Int)),some (.ref b)]/\Same H H'/\Rep H' t v/\wrt (rowF sc) t=u/\t.size<=u/\NAS t/\u<=200/\m=200 - u,⟨200 - u,t,v,u,rfl,g,rt,wt,st,nt,hu2,rfl⟩,?_⟩
  clear cm hb' wt st nt hu2 rt g;rintro m σ' H' ⟨t,v,u,rfl,g,rt,wt,st,nt,hu2,rfl⟩;refine⟨_,rfl,_,_,rfl,rfl,_,rfl,ite2 (λ e=>?_) (λ e=>?_)⟩
  ·have lt:(u:Int)<200:=lT e
   refine⟨_,λ Ω Ω h=>h,?_⟩;refine⟨_,rfl,d2,λ p1 hp1=>?_⟩;have k3:=zAD (o:=.tup [.str "say", v]) hp1;have e3:=@zAC H' p1 (.tup [.str "say", v]);dsimp only[gName];generalize upd H' p1 _=H3 at k3 e3 ⊢;refine⟨_,rfl,_,_,rfl,rfl,200 - (u+1),by lia,.say t,.ref p1,u+1,rfl,g.trans k3,⟨p1,_,rfl,e3,rt.mono k3.tk⟩,by rw[zF2 eS,wt],(by show t.size+1<=_;lia),nt,by lia,rfl⟩
  ·have ge:¬(u:Int)<200:=λ z=>e (lU z)
   have e2:u=200:=by lia
   subst e2;exact⟨_,rfl,q t v H' g rt wt st nt⟩
abbrev zCf:Stmt:=top 95
theorem zAy:zAX ["_law_cell", "_law_a", "_law_b", "_law_good", "_law_bad_here", "_law_many", "_law_rules_here", "_law_k", "_law_worse"] ["_law_cell"] (zAJ zCf):=scI
noncomputable def qT (n:Int) (i:Nat):Rl3:=if i=0 then (.bin .mul gA gB,gB,[]) else if i=1 then (.bin .mul gB gA,.num n,[("a", "quiet")]) else if i=2 then (.bin .add gA gB,.bin .add gB gA,[]) else (.bin .sub gA gA,.bin .sub (.bin .sub gA gA) gA,[])
theorem zHR {n:Int}{sc:Scl}(g:GoodF (rowF sc)) {i:Nat}(h:i<=1):fallQ sc (qT n i):=by
 rcases (show i=0\/i=1 by lia) with rfl|rfl
 ·exact zMA g
 ·exact zL9 g n
theorem qT_no {n:Int}{sc:Scl}(g:GoodF (rowF sc)) {i:Nat}(h:i=2\/i=3):¬fallQ sc (qT n i):=by
 rcases h with rfl|rfl
 ·exact zJJ
 ·exact zJI g
theorem zLT {n:Int}{i:Nat}(h:i<=1):(qT n i).1.kd = .mul:=by
 rcases (show i=0\/i=1 by lia) with rfl|rfl<;>rfl
structure RlG (n:Nat) (qg qw:List Rl3):Prop where
 ln:1<=qg.length
 fl:∀sc:Scl,GoodF (rowF sc)->∀q∈qg,fallQ sc q
 ml:∀q∈qg,q.1.kd = .mul
 bd:∃q,qw[n]?=some q/\∀sc:Scl,GoodF (rowF sc)->¬fallQ sc q
 bf:∀sc:Scl,GoodF (rowF sc)->∀p∈qw.take n,fallQ sc p
def zGA:Sp:=λ vs H Q Ω=>∃c:Int,vs=[.int c]/\∀(p lg lw:Addr) (n:Nat) (qg qw:List Rl3) (H':Hp),Same H H'->H' p=some (.tup [.ref lg,.ref lw,.int (n:Int)])->RlsA H' lg qg->RlsA H' lw qw->RlG n qg qw->Q (.ref p) H'
theorem zJC (F:Fun K "_law_rules" "_law_rules" zCf f fd) (z_range:mg "range" = none) (z_list:mg "list" = none) (z_min:mg "min" = none):FnOk P w K mg base CX0 (k+1) f fd ["_law_cell"] zGA:=by
 refine F.ok zAy 55 38
 ·obtain⟨c,rfl,_⟩:=h
  rfl
 obtain⟨c,rfl,q⟩:=h
 refine zGG ⟨_,(zAK (pSS (i:=1) zAy.nd (zAh (pa_cS ⟨zAQ⟩ (pa_cS ⟨zAQ⟩ (pa_tS (zAh ⟨zAB⟩) ⟨zAB⟩)))))
  (zAK (pSS (i:=2) zAy.nd (zAh (pa_cS ⟨zAQ⟩ (pa_cS ⟨zAQ⟩ (pa_tS (zAh ⟨zAB⟩) ⟨zAB⟩)))))
  (zAK (pSS (i:=3) zAy.nd (zBO (pa_tS (zAh (pa_tS (zAh (pa_cS ⟨zAQ⟩ (pa_nS ⟨pv 1⟩ (pa_nS ⟨pv 2⟩ ⟨zAB⟩)))) (pa_nS ⟨pv 2⟩ (zAU ⟨zEe zAB⟩ ⟨zAB⟩)))) (pa_tS (zAh (pa_tS (zAh (pa_cS ⟨zAQ⟩ (pa_nS ⟨pv 2⟩ (pa_nS ⟨pv 1⟩ ⟨zAB⟩)))) (pa_tS (zAh (pa_cS ⟨zAQ⟩ (pa_bS (zAY zAa ⟨pv 0⟩ (zAY zDI ⟨zAE⟩ ⟨zAE⟩)) ⟨zAB⟩))) (zAU ⟨zEe (zAA (zAc (zAA zAQ (zAA zAQ zAB)):PE _ _ _) zAB)⟩ ⟨zAB⟩)))) ⟨zAB⟩))))
  (zAK (pSS (i:=4) zAy.nd (zBO (pa_tS (zAh (pa_tS (zAh (pa_cS ⟨zAQ⟩ (pa_nS ⟨pv 1⟩ (pa_nS ⟨pv 2⟩ ⟨zAB⟩)))) (pa_tS (zAh (pa_cS ⟨zAQ⟩ (pa_nS ⟨pv 2⟩ (pa_nS ⟨pv 1⟩ ⟨zAB⟩)))) (zAU ⟨zEe zAB⟩ ⟨zAB⟩)))) (pa_tS (zAh (pa_tS (zAh (pa_cS ⟨zAQ⟩ (pa_nS ⟨pv 1⟩ (pa_nS ⟨pv 1⟩ ⟨zAB⟩)))) (pa_tS (zAh (pa_cS ⟨zAQ⟩ (pa_tS (zAh (pa_cS ⟨zAQ⟩ (pa_nS ⟨pv 1⟩ (pa_nS ⟨pv 1⟩ ⟨zAB⟩)))) (pa_nS ⟨pv 1⟩ ⟨zAB⟩)))) (zAU ⟨zEe zAB⟩ ⟨zAB⟩)))) ⟨zAB⟩))))
  (zAK (pSS (i:=5) zAy.nd (zAY zA8 ⟨zAE⟩ (zAY zAa ⟨pv 0⟩ ⟨zAE⟩)))
  (zAK (pSS (i:=6) zAy.nd (zBO ⟨zAB⟩))
  (zAK ⟨zBQ PassesOwn.never rfl (zCv 39 z_range (zAA (pv 5) zAB)) (pGn (i:=7) zAy.nd) (zAH (pAp (pv 6) (pe_ix (r:=rIxL K) zBI (pv 3) (pe_op zAa (pe_op zA8 (pe_op zAr (pv 0) zAE) (pv 7)) zAE) (λ Ω Ω=>rfl))))⟩
  (zAK (pSS (i:=8) zAy.nd (zEE zDL 39 z_list PyProof.Rows.boot_list (pa_nS ⟨pv 6⟩ ⟨zAB⟩)))
  (zAK ⟨zHX (pe_ix (r:=rIxL K) zBI (pv 4) (pe_op zAa (pe_op zAr (pv 0) zAE) zAE) (λ Ω Ω=>rfl)) (zJw (pv 8) (pe_op zAa (pe_op zAr (pv 0) zAE) (pv 5)) zGF)⟩
  (zAK ⟨zHX (pe_ix (r:=rIxL K) zBI (pv 4) (pe_op zAa (pe_op zAr (pv 0) zAE) zAE) (λ Ω Ω=>rfl)) (zJw (pv 8) (pe_op zAa (pe_op zAr (pv 0) zAE) (pv 5)) zGF)⟩
  (zAt (zBK (zAh (pa_nS ⟨pv 6⟩ (pa_nS ⟨pv 8⟩ (pa_kS ⟨zAI (zIZ rfl) 39 z_min PyProof.Rows.boot_min (zAA (pe_op zAa (pe_op zAr (pv 0) zAE) (pv 5)) (zAA (pe_op zAa (pe_op zAr (pv 0) zAE) (pv 5)) zAB))⟩ ⟨zAB⟩)))))))))))))))),?_⟩
 have d0:0<=sizeLine:=by decide
 have d1:1<=sizeLine:=by decide
 have d2:2<=sizeLine:=by decide
 have d3:3<=sizeLine:=by decide
 refine⟨d0,λ xa hxa=>?_⟩;have sxa:=zAD (o:=.tup []) hxa;have exa:=@zAC H xa (.tup []);generalize upd H xa _=H1 at sxa exa ⊢;refine⟨d3,λ pa hpa=>?_⟩;have spa:=zAD (o:=.tup [.str "gap", .str "a", .ref xa]) hpa;have epa:=@zAC H1 pa (.tup [.str "gap", .str "a", .ref xa]);generalize upd H1 pa _=H2 at spa epa ⊢;dsimp only[gName];refine⟨d0,λ xb hxb=>?_⟩;have sxb:=zAD (o:=.tup []) hxb;have exb:=@zAC H2 xb (.tup []);generalize upd H2 xb _=H3 at sxb exb ⊢;refine⟨d3,λ pb hpb=>?_⟩;have spb:=zAD (o:=.tup [.str "gap", .str "b", .ref xb]) hpb;have epb:=@zAC H3 pb (.tup [.str "gap", .str "b", .ref xb]);generalize upd H3 pb _=H4 at spb epb ⊢;dsimp only[gName];have k4:=sxa.trans (spa.trans (sxb.trans spb));have rA:Rep H4 gA (.ref pa):=⟨pa,xa,[],rfl,(sxb.trans spb) _ _ epa,(spa.trans (sxb.trans spb)) _ _ exa,by decide,.nil⟩;have rB:Rep H4 gB (.ref pb):=⟨pb,xb,[],rfl,epb,spb _ _ exb,by decide,.nil⟩;clear sxa spa sxb spb exa epa exb epb hxa hpa hxb hpb;refine⟨_,rfl,_,rfl,d3,λ m1 hm1=>?_⟩;have sm1:=zAD (o:=.tup [.str "mul", .ref pa,.ref pb]) hm1;have em1:=@zAC H4 m1 (.tup [.str "mul", .ref pa,.ref pb]);generalize upd H4 m1 _=H5 at sm1 em1 ⊢;refine⟨_,rfl,d0,λ q1 o1 hq1 ho1=>?_⟩;have sq1:=zAD (o:=.frz o1 (.tup [])) hq1;have eq1:=@zAC H5 q1 (.frz o1 (.tup []));generalize upd H5 q1 _=H6 at sq1 eq1 ⊢;refine⟨d3,λ r1 hr1=>?_⟩;have sr1:=zAD (o:=.tup [.ref m1,.ref pb,.ref q1]) hr1;have er1:=@zAC H6 r1 (.tup [.ref m1,.ref pb,.ref q1]);generalize upd H6 r1 _=H7 at sr1 er1 ⊢;have k47:=sm1.trans (sq1.trans sr1);have R1:zCH H7 r1 (.bin .mul gA gB) gB []:=⟨.ref m1,.ref pb,q1,o1,[],er1,⟨m1,_,_,rfl,(sq1.trans sr1) _ _ em1,rA.mono k47.tk,rB.mono k47.tk⟩,rB.mono k47.tk,sr1 _ _ eq1,ho1,.nil⟩;clear sm1 sq1 sr1 em1 eq1 er1 hm1 hq1 hr1;refine⟨_,rfl,_,rfl,d3,λ m2 hm2=>?_⟩;have sm2:=zAD (o:=.tup [.str "mul", .ref pb,.ref pa]) hm2;have em2:=@zAC H7 m2 (.tup [.str "mul", .ref pb,.ref pa]);generalize upd H7 m2 _=H8 at sm2 em2 ⊢;refine⟨_,rfl,_,_,rfl,rfl,⟨by decide,by decide,by decide⟩,_,_,rfl,rfl,(show (0:Int)<10 ^ 30 by decide),d2,λ n2 hn2=>?_⟩;have sn2:=zAD (o:=.tup [.str "num", .int (c % 10 ^ (30:Int).toNat)]) hn2;have en2:=@zAC H8 n2 (.tup [.str "num", .int (c % 10 ^ (30:Int).toNat)]);generalize upd H8 n2 _=H9 at sn2 en2 ⊢;refine⟨d2,λ y2 hy2=>?_⟩;have sy2:=zAD (o:=.tup [.str "a", .str "quiet"]) hy2;have ey2:=@zAC H9 y2 (.tup [.str "a", .str "quiet"]);generalize upd H9 y2 _=H10 at sy2 ey2 ⊢;refine⟨d1,λ q2 o2 hq2 ho2=>?_⟩;have sq2:=zAD (o:=.frz o2 (.tup [.ref y2])) hq2;have eq2:=@zAC H10 q2 (.frz o2 (.tup [.ref y2]));generalize upd H10 q2 _=H11 at sq2 eq2 ⊢;refine⟨d3,λ r2 hr2=>?_⟩;have sr2:=zAD (o:=.tup [.ref m2,.ref n2,.ref q2]) hr2;have er2:=@zAC H11 r2 (.tup [.ref m2,.ref n2,.ref q2]);generalize upd H11 r2 _=H12 at sr2 er2 ⊢;have k712:=sm2.trans (sn2.trans (sy2.trans (sq2.trans sr2)));have k412:=k47.trans k712;have R2:zCH H12 r2 (.bin .mul gB gA) (.num (c % 10 ^ (30:Int).toNat)) [("a", "quiet")]:=⟨.ref m2,.ref n2,q2,o2,[.ref y2],er2,⟨m2,_,_,rfl,(sn2.trans (sy2.trans (sq2.trans sr2))) _ _ em2,rB.mono k412.tk,rA.mono k412.tk⟩,⟨n2,rfl,(sy2.trans (sq2.trans sr2)) _ _ en2⟩,sr2 _ _ eq2,ho2,.cons ⟨y2,rfl,(sq2.trans sr2) _ _ ey2⟩ .nil⟩;have R1':=R1.mono k712.sf;have rA':=rA.mono k412.tk;have rB':=rB.mono k412.tk;have k012:=k4.trans k412;clear sm2 sn2 sy2 sq2 sr2 em2 en2 ey2 eq2 er2 hm2 hn2 hy2 hq2 hr2 R1 rA rB k4 k47 k412 k712;refine⟨d2,λ lg hlg=>?_⟩;have slg:=zAD (o:=.lst [.ref r1,.ref r2]) hlg;have elg:=@zAC H12 lg (.lst [.ref r1,.ref r2]);generalize upd H12 lg _=H13 at slg elg ⊢;dsimp only[gName];have R1a:=R1'.mono slg.sf;have R2a:=R2.mono slg.sf;have rA3:=rA'.mono slg.tk;have rB3:=rB'.mono slg.tk;have k013:=k012.trans slg;clear R1' R2 rA' rB' slg k012 hlg;refine⟨_,rfl,_,rfl,d3,λ m1 hm1=>?_⟩;have sm1:=zAD (o:=.tup [.str "add", .ref pa,.ref pb]) hm1;have em1:=@zAC H13 m1 (.tup [.str "add", .ref pa,.ref pb]);generalize upd H13 m1 _=H14 at sm1 em1 ⊢;refine⟨_,rfl,_,rfl,d3,λ m2 hm2=>?_⟩;have sm2:=zAD (o:=.tup [.str "add", .ref pb,.ref pa]) hm2;have em2:=@zAC H14 m2 (.tup [.str "add", .ref pb,.ref pa]);generalize upd H14 m2 _=H15 at sm2 em2 ⊢;refine⟨d0,λ q1 o1 hq1 ho1=>?_⟩;have sq1:=zAD (o:=.frz o1 (.tup [])) hq1;have eq1:=@zAC H15 q1 (.frz o1 (.tup []));generalize upd H15 q1 _=H16 at sq1 eq1 ⊢;refine⟨d3,λ b1 hb1=>?_⟩;have sb1:=zAD (o:=.tup [.ref m1,.ref m2,.ref q1]) hb1;have eb1:=@zAC H16 b1 (.tup [.ref m1,.ref m2,.ref q1]);generalize upd H16 b1 _=H17 at sb1 eb1 ⊢;have k17:=sm1.trans (sm2.trans (sq1.trans sb1));have B1:zCH H17 b1 (.bin .add gA gB) (.bin .add gB gA) []:=⟨.ref m1,.ref m2,q1,o1,[],eb1,⟨m1,_,_,rfl,(sm2.trans (sq1.trans sb1)) _ _ em1,rA3.mono k17.tk,rB3.mono k17.tk⟩,⟨m2,_,_,rfl,(sq1.trans sb1) _ _ em2,rB3.mono k17.tk,rA3.mono k17.tk⟩,sb1 _ _ eq1,ho1,.nil⟩;clear sm1 sm2 sq1 sb1 em1 em2 eq1 eb1 hm1 hm2 hq1 hb1;refine⟨_,rfl,_,rfl,d3,λ m1 hm1=>?_⟩;have sm1:=zAD (o:=.tup [.str "sub", .ref pa,.ref pa]) hm1;have em1:=@zAC H17 m1 (.tup [.str "sub", .ref pa,.ref pa]);generalize upd H17 m1 _=H18 at sm1 em1 ⊢;refine⟨_,rfl,_,rfl,d3,λ m2 hm2=>?_⟩;have sm2:=zAD (o:=.tup [.str "sub", .ref pa,.ref pa]) hm2;have em2:=@zAC H18 m2 (.tup [.str "sub", .ref pa,.ref pa]);generalize upd H18 m2 _=H19 at sm2 em2 ⊢;refine⟨_,rfl,d3,λ m3 hm3=>?_⟩;have sm3:=zAD (o:=.tup [.str "sub", .ref m2,.ref pa]) hm3;have em3:=@zAC H19 m3 (.tup [.str "sub", .ref m2,.ref pa]);generalize upd H19 m3 _=H20 at sm3 em3 ⊢;refine⟨d0,λ q1 o1 hq1 ho1=>?_⟩;have sq1:=zAD (o:=.frz o1 (.tup [])) hq1;have eq1:=@zAC H20 q1 (.frz o1 (.tup []));generalize upd H20 q1 _=H21 at sq1 eq1 ⊢;refine⟨d3,λ b2 hb2=>?_⟩;have sb2:=zAD (o:=.tup [.ref m1,.ref m3,.ref q1]) hb2;have eb2:=@zAC H21 b2 (.tup [.ref m1,.ref m3,.ref q1]);generalize upd H21 b2 _=H22 at sb2 eb2 ⊢;have k22:=sm1.trans (sm2.trans (sm3.trans (sq1.trans sb2)));have k1322:=k17.trans k22;have B2:zCH H22 b2 (.bin .sub gA gA) (.bin .sub (.bin .sub gA gA) gA) []:=⟨.ref m1,.ref m3,q1,o1,[],eb2,⟨m1,_,_,rfl,(sm2.trans (sm3.trans (sq1.trans sb2))) _ _ em1,rA3.mono k1322.tk,rA3.mono k1322.tk⟩,⟨m3,_,_,rfl,(sq1.trans sb2) _ _ em3,⟨m2,_,_,rfl,(sm3.trans (sq1.trans sb2)) _ _ em2,rA3.mono k1322.tk,rA3.mono k1322.tk⟩,rA3.mono k1322.tk⟩,sb2 _ _ eq1,ho1,.nil⟩;have B1a:=B1.mono k22.sf;have R1b:=R1a.mono k1322.sf;have R2b:=R2a.mono k1322.sf;have elg2:=k1322 _ _ elg;have k022:=k013.trans k1322;clear sm1 sm2 sm3 sq1 sb2 em1 em2 em3 eq1 eb2 hm1 hm2 hm3 hq1 hb2 B1 R1a R2a rA3 rB3 elg k013 k17 k22 k1322;refine⟨d2,λ lb hlb=>?_⟩;have slb:=zAD (o:=.lst [.ref b1,.ref b2]) hlb;have elb:=@zAC H22 lb (.lst [.ref b1,.ref b2]);generalize upd H22 lb _=H23 at slb elb ⊢;dsimp only[gName];have k023:=k022.trans slb;have elg3:=slb _ _ elg2
 obtain⟨mN,hm1,hm4,emN⟩:∃mN:Nat,1<=mN/\mN<=4/\(1:Int)+c % 4=(mN:Int):=by
  have a0:=rJ c (show (4:Int)≠0 by decide);have a1:=rK c (show (0:Int)<4 by decide);exact⟨(1+c % 4).toNat,by lia,by lia,by lia⟩
 refine⟨_,rfl,_,_,rfl,rfl,(show (0:Int)<4 by decide),_,_,rfl,rfl,?_⟩;rw[emN];dsimp only[gName];refine⟨d0,λ lr hlr=>?_⟩;have slr:=zAD (o:=.lst []) hlr;have elr:=@zAC H23 lr (.lst []);generalize upd H23 lr _=H24 at slr elr ⊢;dsimp only[gName];have k24:=slb.trans slr;obtain⟨vT,evT⟩:∃vT:Nat->V,vT=λ i=>if i=0 then .ref r1 else if i=1 then .ref r2 else if i=2 then .ref b1 else .ref b2:=43
 refine⟨_,rfl,(mN:Int),rfl,by lia,by lia,?_⟩;have hlr22:=slb.free hlr;refine zCR (n:=((mN:Nat):Int).toNat) (λ i σ' H'=>E2 λ(s7:Option V) (ts:List Nat)=>A5 (σ'=[some (.int c),some (.ref pa),some (.ref pb),some (.ref lg),some (.ref lb),some (.int (mN:Int)),some (.ref lr),s7,none]) (Same H23 H') (H' lr=some (.lst (ts.map vT))) (ts.length=i) (∀x∈ts,x<=1)) ⟨none,[],rfl,slr,elr,rfl,(λ x hx=>nomatch hx)⟩ ?_ ?_
 ·rintro i σ' H' hi ⟨s7,ts,rfl,g,el,lt,ht⟩
  rw[Int.toNat_natCast] at hi
  obtain⟨tg,htg,atg⟩:∃tg:Nat,tg<=1/\atI [V.ref r1,V.ref r2] ((c / 4+(0+(i:Int))) % 2)=some (vT tg):=by
   rcases (show (c / 4+(0+(i:Int))) % 2=0\/(c / 4+(0+(i:Int))) % 2=1 by lia) with e|e<;>rw[e,evT]
   ·exact⟨0,by decide,rfl⟩
   ·exact⟨1,by decide,rfl⟩
  refine⟨_,rfl,.inl ⟨rfl,_,SqL.of el⟩,_,rfl,_,rfl,_,_,rfl,rfl,65,_,rfl,_,_,rfl,rfl,_,_,rfl,rfl,(show (0:Int)<2 by decide),lg,_,_,_,rfl,rfl,SqL.of (g _ _ elg3),atg,lr,_,_,rfl,rfl,el,zAf (by rw[lC];lia),?_⟩;refine⟨_,ts++[tg],rfl,zAz g hlr,by rw[zAC,mU];rfl,by simp[lt],λ x hx=>?_⟩;rcases lJ.mp hx with h|h
  ·exact ht x h
  ·rw[mX.mp h];exact htg
 rintro σ' H25 ⟨s7,ts,rfl,g25,el,lt,ht⟩;rw[Int.toNat_natCast] at lt;refine⟨_,rfl,lr,_,rfl,.inl (SqL.of el),λ lw hlw=>?_⟩;have slw:=zAD (o:=.lst (ts.map vT)) hlw;have elw:=@zAC H25 lw (.lst (ts.map vT));have nlw:lr≠lw:=zAR el hlw;have hlwH:H23 lw=none:=g25.free hlw;generalize upd H25 lw _=H26 at slw elw ⊢;dsimp only[gName]
 have pickB:∀z:Int,∃tg:Nat,(tg=2\/tg=3)/\atI [V.ref b1,V.ref b2] (z % 2)=some (vT tg):=λ z=>by
  rcases (show z % 2=0\/z % 2=1 by lia) with e|e<;>rw[e,evT]
  ·exact⟨2,.inl rfl,rfl⟩
  ·exact⟨3,.inr rfl,rfl⟩
 have pickN:∀z:Int,∃i:Nat,i<mN/\z % (mN:Int)=(i:Int):=λ z=>by
  have a0:=rJ z (show (mN:Int)≠0 by lia);have a1:=rK z (show (0:Int)<(mN:Int) by lia);exact⟨(z % (mN:Int)).toNat,by lia,by lia⟩
 obtain⟨t1,ht1,at1⟩:=pickB (c / 32);obtain⟨t2,ht2,at2⟩:=pickB (c / 256);obtain⟨i1,hi1,ei1⟩:=pickN (c / 8);obtain⟨i2,hi2,ei2⟩:=pickN (c / 64);have k2326:=g25.trans slw;have elb6:=k2326 _ _ elb;have mp:(0:Int)<(mN:Int):=by lia
 have ix:∀{n i:Nat},i<n->ixN n (i:Int)=some i:=λ{n i} h=>by
  unfold ixN;rw[if_pos (Int.natCast_nonneg _),if_pos 31,Int.toNat_natCast]
 refine⟨_,rfl,_,rfl,_,_,rfl,rfl,65,_,_,rfl,rfl,(show (0:Int)<2 by decide),lb,_,_,_,rfl,rfl,SqL.of elb6,at1,_,rfl,_,rfl,_,_,rfl,rfl,65,_,rfl,_,_,rfl,rfl,mp,lw,_,_,i1,rfl,rfl,elw,?_,?_⟩
 ·rw[ei1];exact ix (by rw[lC,lt];exact hi1)
 rw[show (ts.map vT).set i1 (vT t1)=(ts.set i1 t1).map vT from List.map_set.symm];have s27:Same H23 (upd H26 lw (.lst ((ts.set i1 t1).map vT))):=zAz k2326 hlwH;have e27:=@zAC H26 lw (.lst ((ts.set i1 t1).map vT));have l27:(upd H26 lw (.lst ((ts.set i1 t1).map vT))) lr=some (.lst (ts.map vT)):=by rw[zAO nlw];exact slw _ _ el
 generalize upd H26 lw _=H27 at s27 e27 l27 ⊢;refine⟨_,rfl,_,rfl,_,_,rfl,rfl,65,_,_,rfl,rfl,(show (0:Int)<2 by decide),lb,_,_,_,rfl,rfl,SqL.of (s27 _ _ elb),at2,_,rfl,_,rfl,_,_,rfl,rfl,65,_,rfl,_,_,rfl,rfl,mp,lw,_,_,i2,rfl,rfl,e27,?_,?_⟩
 ·rw[ei2];exact ix (by rw[lC,List.length_set,lt];exact hi2)
 rw[show ((ts.set i1 t1).map vT).set i2 (vT t2)=((ts.set i1 t1).set i2 t2).map vT from List.map_set.symm];have s28:Same H23 (upd H27 lw (.lst (((ts.set i1 t1).set i2 t2).map vT))):=zAz s27 hlwH;have e28:=@zAC H27 lw (.lst (((ts.set i1 t1).set i2 t2).map vT));have l28:(upd H27 lw (.lst (((ts.set i1 t1).set i2 t2).map vT))) lr=some (.lst (ts.map vT)):=by rw[zAO nlw];exact l27
 generalize upd H27 lw _=H28 at s28 e28 l28 ⊢;refine⟨_,rfl,_,rfl,_,rfl,_,_,rfl,rfl,65,_,rfl,_,_,rfl,rfl,mp,_,rfl,_,_,rfl,rfl,65,_,rfl,_,_,rfl,rfl,mp,_,_,rfl,d3,λ p hp=>?_⟩;rw[ei1,ei2]
 obtain⟨n,en,hn1,hn2,hn3⟩:∃n:Nat,(if (i2:Int)<(i1:Int) then (i2:Int) else (i1:Int))=(n:Int)/\n<=i1/\n<=i2/\(n=i1\/n=i2):=by
  by_cases z:(i2:Int)<(i1:Int)
  ·exact⟨i2,by rw[if_pos z],by lia,lR _,.inr rfl⟩
  ·exact⟨i1,by rw[if_neg z],lR _,by lia,.inl rfl⟩
 rw[en];have sp:=zAD (o:=.tup [.ref lr,.ref lw,.int (n:Int)]) hp;have ep:=@zAC H28 p (.tup [.ref lr,.ref lw,.int (n:Int)]);have l29:=sp _ _ l28;have w29:=sp _ _ e28;generalize upd H28 p _=H29 at sp ep l29 w29 ⊢;have k2229:=slb.trans (s28.trans sp)
 have hR:∀i,RlA H29 (qT (c % 10 ^ (30:Int).toNat) i) (vT i):=λ i=>by
  rw[evT];unfold qT;dsimp only
  by_cases h0:i=0
  ·rw[if_pos h0,if_pos h0];exact⟨r1,rfl,R1b.mono k2229.sf,by decide,by decide,by decide,by decide⟩
  ·rw[if_neg h0,if_neg h0]
   by_cases h1:i=1
   ·rw[if_pos h1,if_pos h1];exact⟨r2,rfl,R2b.mono k2229.sf,(show 3<=122 by decide),(show 1<=122 by decide),by simp,(show 1<=300 by decide)⟩
   ·rw[if_neg h1,if_neg h1]
    by_cases h2:i=2
    ·rw[if_pos h2,if_pos h2];exact⟨b1,rfl,B1a.mono k2229.sf,by decide,by decide,by decide,by decide⟩
    ·rw[if_neg h2,if_neg h2];exact⟨b2,rfl,B2.mono k2229.sf,by decide,by decide,by decide,by decide⟩
 refine q p lr lw n (ts.map (qT (c % 10 ^ (30:Int).toNat))) (((ts.set i1 t1).set i2 t2).map (qT (c % 10 ^ (30:Int).toNat))) H29 (k022.trans k2229) ep ⟨_,l29,zDh hR _,by rw[lC];lia⟩ ⟨_,w29,zDh hR _,by rw[lC,List.length_set,List.length_set];lia⟩ ⟨?_,λ sc gs x hx=>?_,λ x hx=>?_,?_,λ sc gs x hx=>?_⟩
 ·rw[lC];lia
 ·obtain⟨i,hi,rfl⟩:=mC.mp hx
  exact zHR gs (ht i hi)
 ·obtain⟨i,hi,rfl⟩:=mC.mp hx
  exact zLT (ht i hi)
 ·obtain⟨tg,htg,etg⟩:∃tg,(tg=2\/tg=3)/\((ts.set i1 t1).set i2 t2)[n]?=some tg:=by
   rcases Nat.decEq n i2 with h|h
   ·have e:n=i1:=hn3.resolve_right h
    refine⟨t1,ht1,?_⟩;rw[List.getElem?_set_ne (Ne.symm h),e,rP 31]
   ·refine⟨t2,ht2,?_⟩
    rw[h,rP (by rw[List.length_set];lia)]
  exact⟨_,by rw[mI,etg];rfl,λ sc gs=>qT_no gs htg⟩
 ·rw[←List.map_take] at hx
  obtain⟨i,hi,rfl⟩:=mC.mp hx;refine zHR gs (ht i ?_);rw[List.mem_take_iff_getElem] at hi;obtain⟨m,hm,e⟩:=hi;rw[List.getElem_set_ne 31,List.getElem_set_ne 31] at e;rw[←e];exact List.getElem_mem _
def spWoA (spS:Sp):Sp:=λ vs H Ω E=>∃v y:V,vs=[v,y]/\spS [y] H (λ Ω Ω=>False) E
theorem zLd {k:Nat}{f g1:Addr}{fd gd1:FuncData}{spS:Sp}(mS:MonE spS) (F:Fun K "worth" "worth" zEW f fd) (zMQ:FnF P w K mg base k "check_scale" g1 gd1 ["scale"] spS):FnOk P w K mg base (CXF P w) (k+1) f fd ["tree", "scale"] (spWoA spS):=by
 refine F.okF zGH 55 38
 ·obtain⟨v,y,rfl,_⟩:=h
  rfl
 obtain⟨v,y,rfl,h⟩:=h;refine⟨_,(zAF (zAk (zBP zMQ.ok hr 39 zMQ.gl zMQ.kp zMQ.bd .nil zCE (zAA 90 zAB))) zAj),?_⟩;exact⟨_,rfl,mS _ _ _ _ _ _ (λ Ω Ω z=>z.elim) (λ Ω Ω Ω z=>z) h⟩
def spCfA (spS:Sp):Sp:=λ vs H Ω E=>∃v y:V,vs=[v,y]/\spS [y] H (λ Ω Ω=>False) E
theorem zLq {k:Nat}{f g1:Addr}{fd gd1:FuncData}{spS:Sp}(mS:MonE spS) (F:Fun K "check_falling" "check_falling" zBD f fd) (zMQ:FnF P w K mg base k "check_scale" g1 gd1 ["scale"] spS):FnOk P w K mg base (CXF P w) (k+1) f fd ["rules", "scale"] (spCfA spS):=by
 refine F.okF zAq 55 38
 ·obtain⟨v,y,rfl,_⟩:=h
  rfl
 obtain⟨v,y,rfl,h⟩:=h;refine⟨_,(zAF (zAk (zBP zMQ.ok hr 39 zMQ.gl zMQ.kp zMQ.bd .nil zCE (zAA 90 zAB))) zAj),?_⟩;exact⟨_,rfl,mS _ _ _ _ _ _ (λ Ω Ω z=>z.elim) (λ Ω Ω Ω z=>z) h⟩
def spFaA (spS:Sp):Sp:=λ vs H Ω E=>∃(r:Addr) (us:List V) (u y:V),vs=[.ref r,y]/\H r=some (.tup (u::us))/\spS [y] H (λ Ω Ω=>False) E
theorem zLl {k:Nat}{f g1:Addr}{fd gd1:FuncData}{spS:Sp}(mS:MonE spS) (F:Fun K "falls" "falls" zEX f fd) (zMS:FnF P w K mg base k "worth" g1 gd1 ["tree", "scale"] (spWoA spS)):FnOk P w K mg base (CXF P w) (k+1) f fd ["rule", "scale"] (spFaA spS):=by
 refine F.okF zCr 55 38
 ·obtain⟨r,us,u,y,rfl,_⟩:=h
  rfl
 obtain⟨r,us,u,y,rfl,hr0,h⟩:=h;refine⟨_,(zAF (ps_if (zAT (r:=λ Ω Ω Ω Ω=>False) zLa (zBP zMS.ok hr 39 zMS.gl zMS.kp zMS.bd .nil zCE (zAA (iC (r:=rIxT K) zA4 (pv 0)) (zAA 90 zAB))) zFA (zAe _)) zAj zAV) zAj),?_⟩;exact⟨_,rfl,r,_,0,_,rfl,rfl,SqT.of hr0,zAu (j:=0) rfl,_,rfl,u,y,rfl,mS _ _ _ _ _ _ (λ Ω Ω z=>z.elim) (λ Ω Ω Ω z=>z) h⟩
def sp_wh:Sp:=λ vs H Q Ω=>∃(x:V),A3 (vs=[x]) (Pl H x) (Q (.bl (isW x)) H)
theorem ok_wh (F:Fun K "is_whole" "is_whole" zCU f fd) (z_isinstance:mg "isinstance" = none) (z_int:mg "int" = none) (z_bool:mg "bool" = none):FnOk P w K mg base CX0 (k+1) f fd ["value"] sp_wh:=by
 refine F.ok zDb 55 38
 ·obtain⟨x,rfl,_⟩:=h
  rfl
 obtain⟨x,rfl,hx,q⟩:=h;refine⟨_,(zAH (zAs (zA7 (cI z_isinstance z_int PyProof.Rows.boot_int (pv 0)) (zAg (zJx (cI z_isinstance z_bool PyProof.Rows.boot_bool (pv 0))))))),?_⟩;cases hx with
 |non=>exact⟨_,rfl,_, "int", _,false,rfl,.non,rfl,false,rfl,q⟩
 |bl b =>
  refine⟨_,rfl,_, "int", _,true,rfl,.bl b,rfl,true,rfl,?_⟩;exact⟨_,rfl,_, "bool", _,true,rfl,.bl b,rfl,true,rfl,q⟩
 |int i =>
  refine⟨_,rfl,_, "int", _,true,rfl,.int i,rfl,true,rfl,?_⟩;exact⟨_,rfl,_, "bool", _,false,rfl,.int i,rfl,false,rfl,q⟩
 |str x=>exact⟨_,rfl,_, "int", _,false,rfl,.str x,rfl,false,rfl,q⟩
 |lst e=>exact⟨_,rfl,_, "int", _,false,rfl,.lst e,rfl,false,rfl,q⟩
 |tup e=>exact⟨_,rfl,_, "int", _,false,rfl,.tup e,rfl,false,rfl,q⟩
 |dK e=>exact⟨_,rfl,_, "int", _,false,rfl,.dK e,rfl,false,rfl,q⟩
def sp_bt:Sp:=λ vs H Q Ω=>E2 λ(x:V) (m:Int)=>A3 (vs=[x,.int m]) (Pl H x) (Q (.bl (okB m x)) H)
theorem ok_bt (F:Fun K "is_between" "is_between" zBt f fd) (zMJ:FnB P w K mg base k "is_whole" g1 gd1 ["value"] sp_wh):FnOk P w K mg base CX0 (k+1) f fd ["value", "most"] sp_bt:=by
 refine F.ok zCq 55 38
 ·obtain⟨x,m,rfl,_⟩:=h
  rfl
 obtain⟨x,m,rfl,hx,q⟩:=h;refine⟨_,(zAH (zAs (zA7 (pe_cl zMJ hr (zAA (pv 0) zAB)) (zAg (zGP op_le op_le zAE (pv 0) 90))))),?_⟩;refine⟨_,rfl,x,rfl,hx,_,rfl,?_⟩;cases hx with
 |int i =>
  refine⟨_,rfl,_,_,rfl,rfl,_,rfl,ite2 (λ c=>?_) (λ c=>?_)⟩
  ·have c':1<=i:=lT c
   refine⟨_,rfl,_,_,rfl,rfl,?_⟩;have e:okB m (.int i)=decide (i<=m):=by show (decide (1<=i) && decide (i<=m))=_;rw[decide_eq_true c'];rfl
   rw[e] at q;exact q
  ·have c':¬1<=i:=λ z=>c (lU z)
   have e:okB m (.int i)=false:=by show (decide (1<=i) && decide (i<=m))=_;rw[decide_eq_false c'];rfl
   rw[e] at q
   first|exact q|(rw[decide_eq_false c'];exact q)
 |_=>exact q
def zJn:Sp:=λ vs H Q Ω=>E2 λ(v:V) (m:Nat)=>A5 (vs=[v,.int (m:Int)]) (m<=10) (Pl H v) ((∀a xs,v = .ref a->H a≠some (.tup xs))->Q (.bl false) H) (∀a xs,v = .ref a->H a=some (.tup xs)->(∀x∈xs,Pl H x)/\∀H',Same H H'->Q (.bl (okR m xs)) H')
theorem zLj {k:Nat}{f g1:Addr}{fd gd1:FuncData}{t1 t2:Tok}(F:Fun K "is_scale_row" "is_scale_row" zBW f fd) (z_isinstance:mg "isinstance" = none) (z_tuple:mg "tuple" = none) (z_len:mg "len" = none) (z_all:mg "all" = none)
  (zMK:mg "MOST_OWN" = some (.int 9 t1)) (zML:mg "MOST_TIMES" = some (.int 3 t2)) (zMM:FnB P w K mg base k "is_between" g1 gd1 ["value", "most"] sp_bt):FnOk P w K mg base CX0 (k+1) f fd ["row", "many"] zJn:=by
 refine F.ok zCL 55 38
 ·obtain⟨v,m,rfl,_⟩:=h
  rfl
 obtain⟨v,m,rfl,hm,hv,qn,qt⟩:=h
 refine⟨_,(zAF (ps_if (pw_or (zCc (zCN (cI z_isinstance z_tuple PyProof.Rows.boot_tuple (pv 0)))) (zHS (zAT op_ne (cL z_len (zAA (pv 0) zAB)) (pe_op zA8 90 zAE) (zAe _)))).pt (zAH (zAs pe_bl)) zAV)
  66),?_⟩
 cases hv with
 |non=>exact⟨_,rfl,_, "tuple", _,false,rfl,.non,rfl,_,rfl,iteT (qn λ a xs z=>nomatch z)⟩
 |bl b=>exact⟨_,rfl,_, "tuple", _,false,rfl,.bl b,rfl,_,rfl,iteT (qn λ a xs z=>nomatch z)⟩
 |int i=>exact⟨_,rfl,_, "tuple", _,false,rfl,.int i,rfl,_,rfl,iteT (qn λ a xs z=>nomatch z)⟩
 |str x=>exact⟨_,rfl,_, "tuple", _,false,rfl,.str x,rfl,_,rfl,iteT (qn λ a xs z=>nomatch z)⟩
 |lst e=>exact⟨_,rfl,_, "tuple", _,false,rfl,.lst e,rfl,_,rfl,iteT (qn λ a xs z z2=>by cases z;rw[e] at z2;cases z2)⟩
 |dK e=>exact⟨_,rfl,_, "tuple", _,false,rfl,.dK e,rfl,_,rfl,iteT (qn λ a xs z z2=>by cases z;rw[e] at z2;cases z2)⟩
 | @tup a xs e =>
 obtain⟨hp,q⟩:=qt a xs rfl e;refine⟨_,rfl,_, "tuple", _,true,rfl,.tup e,rfl,_,rfl,iteF ?_⟩;refine⟨_,rfl,a,_,rfl,.inr (SqT.of e),_,rfl,_,_,rfl,rfl,rfl,_,rfl,ite2 (λ c=>?_) (λ c=>?_)⟩
 ·have hl:¬xs.length=m+1:=λ z=>by
   rw[z] at c;simp at c
  have:okR m xs=false:=by unfold okR;rw[decide_eq_false hl];rfl
  rw[this] at q;exact q H (.refl _)
 have hl:xs.length=m+1:=Classical.byContradiction λ z=>c (by
  have:¬V.int (xs.length:Int)=V.int ((m:Int)+1):=λ e=>z (by have:=V.int.inj e;lia);simp[this])
 obtain⟨x0,ys,rfl⟩:∃x0 ys,xs=x0::ys:=by
  cases xs with
  |nil=>simp at hl
  |cons x0 ys=>exact⟨x0,ys,rfl⟩
 have eR:okR m (x0::ys)=(okB 9 x0 && ys.all (okB 3)):=by
  unfold okR;rw[decide_eq_true hl];rfl
 rw[eR] at q;refine⟨_,rfl,a,_,0,_,rfl,rfl,SqT.of e,zAu (j:=0) rfl,_,_,rfl,hp x0 lP,_,rfl,?_⟩;refine ite2 (λ c0=>?_) (λ c0=>?_)
 ·rw[c0,Bool.true_and] at q
  refine⟨_,rfl,1,rfl,a,_,rfl,SqT.of e,zEt _ _,λ p hpn=>?_⟩;rw[cut1];refine⟨p,rfl,⟨_,SqT.of zAC⟩,λ acc hacc=>?_⟩;have g1:=zAD (o:=.tup ys) hpn;have ep:=@zAC H p (.tup ys);generalize upd H p _=H1 at g1 ep hacc ⊢;refine zFQ (xs:=ys) (λ i H'=>Same H1 H'/\H' acc=some (.lst (((ys.take i).map (okB 3)).map V.bl))) ⟨zAD hacc,zAC⟩ (λ i H' Ω h=>SqT.of (h.1 _ _ ep)) ?_ ?_
  ·rintro i x Hx hx ⟨gx,ex⟩
   have hi:i<ys.length:=(lI.mp hx).1;refine⟨.skip .nil,_,rfl,x,3,rfl,(hp x (lQ _ (lK hx))).mono (g1.trans gx),_,ex,zAf (by simp at hl ⊢;lia),zAz gx hacc,?_⟩;rw[zAC,zBL hx,mU,mU];rfl
  rintro H2 ⟨g2,e2⟩;refine⟨acc,_,rfl,e2,?_⟩;rw[mR];have:(ys.map (okB 3)).all id=ys.all (okB 3):=by rw[List.all_map];rfl
  rw[this];exact q H2 (g1.trans g2)
 ·have c0':okB 9 x0=false:=by simpa using c0
  rw[c0',Bool.false_and] at q
  first|exact q H (.refl _)|(rw[c0'];exact q H (.refl _))
def zDZ (K:W.Frag) (w:World) (md cS:Addr):Sp:=λ vs H Ω E=>∃sv:V,vs=[sv]/\Spo K w md H sv/\∀H',Fz H H'->E (.ref cS) none H'
theorem zLo (F:Fun K "check_scale" "check_scale" zBf f fd) (z_isinstance:mg "isinstance" = none) (z_dict:mg "dict" = none) (zMh:mg "NoScale" = some (.ref cS)) (x_NoScale:W.excIn K cS bmVE "ValueError.__new__" = true)
  (zMN:mg "MANY_PARTS" = some (.ref md)) (h_MANY_PARTS:KDic K w.params md) (hM:ManyK K md) (zMO:FnB P w K mg base k "is_scale_row" g1 gd1 ["row", "many"] zJn):FnOk P w K mg base (CXF P w) (k+1) f fd ["scale"] (zDZ K w md cS):=by
 refine F.okF zBV 55 38
 ·obtain⟨sv,rfl,_⟩:=h
  rfl
 obtain⟨sv,rfl,⟨hp,hn⟩|⟨d,xs,n,x3,rfl,hd,hl,hx3,hbad,hgood⟩,q⟩:=h
 ·refine⟨_,(zAF (ps_if (zCc (zCN (cI z_isinstance z_dict rV (pv 0)))) (zAH (zDQ 39 zMh x_NoScale (zAA zAQ zAB))) zAV) zAj),?_⟩
  have fin:(1<=sizeLine)/\E (.ref cS) none H:=⟨by decide,q H (Fz.refl H)⟩;cases hp with
  |non=>exact⟨_,rfl,_, "dict", _,false,rfl,.non,rfl,_,rfl,iteT fin⟩
  |bl b=>exact⟨_,rfl,_, "dict", _,false,rfl,.bl b,rfl,_,rfl,iteT fin⟩
  |int i=>exact⟨_,rfl,_, "dict", _,false,rfl,.int i,rfl,_,rfl,iteT fin⟩
  |str x=>exact⟨_,rfl,_, "dict", _,false,rfl,.str x,rfl,_,rfl,iteT fin⟩
  |lst e=>exact⟨_,rfl,_, "dict", _,false,rfl,.lst e,rfl,_,rfl,iteT fin⟩
  |tup e=>exact⟨_,rfl,_, "dict", _,false,rfl,.tup e,rfl,_,rfl,iteT fin⟩
  |dK e=>exact absurd e (hn _ _ rfl)
 have hu:=hu_of hr;have hu5:=hu150 hr
 refine⟨_,(zAF (ps_if (zCc (zCN (zAI zIa 39 z_isinstance rT (zAA (pv 0) (zAA (zA2 (v:=.ty _) 39 z_dict rV 39) zAB))))) zAj zAV)
  (zAH (zBQ zJz rfl (zI0 (pv 0)) (pGn (i:=1) zBV.nd) (zAF (ps_if (zAT (zLZ (zFD h_MANY_PARTS) (zHi hu5 h_MANY_PARTS)) 90 (zAN (v:=.ref _) 39 zMN 39) rfl) (zAH (zDQ 39 zMh x_NoScale (zAA (zLX (zI5 90) (zI4 hr.gd hu5 90)) zAB))) zAV)
  (zAH (ps_if (zCc (zCN (pe_cl zMO hr (zAA (zKd hu5 (pv 0) 90 (λ Ω Ω=>rfl)) (zAA (pe_ix (ix_kd h_MANY_PARTS) (zAN (v:=.ref _) 39 zMN 39) 90 (λ Ω Ω=>rfl)) zAB))))) (zAH (zDQ 39 zMh x_NoScale (zAA (pe_f3 90) zAB))) zAV)))))),?_⟩
 have hnl:n<xs.length:=(lI.mp hx3).1;have d1:1<=sizeLine:=by decide
 refine⟨_,rfl,d,xs, "dict", true,rfl,hd,rfl,_,rfl,iteF ?_⟩;refine⟨_,rfl,d,xs,rfl,hd.1,λ o H1 gf ef=>?_⟩;refine zIF (o:=o) (a:=d) (xs:=xs) (λ i σ' H'=>∃s1,A3 (σ'=[some (.ref d),s1]) (Same H1 H') (i<=n)) ⟨none,rfl,.refl _,lY _⟩ ?_ ?_ ?_
 ·rintro i σ' H' _ ⟨s1,rfl,g,hi⟩
  exact g _ _ ef
 ·rintro i p σ' H' hp ⟨s1,rfl,g,hi⟩
  have gg:=gf.trans g.fz;have hdo:DicO w H' d xs:=⟨.inr ⟨o,g _ _ ef⟩,hd.2.mono gg.tk⟩;have hky:KyO H' p.1 p.2.1:=hdo.2 p (lK hp);rcases Nat.lt_or_ge i n with h|h
  ·obtain⟨kd,r,b,gr,e1,e2,hb⟩:=hgood p (by
    rw[List.mem_take_iff_getElem];obtain⟨hlt,e⟩:=lI.mp hp;exact⟨i,by lia,e⟩)
   obtain⟨p1,p2,p3⟩:=p;dsimp only at e1 e2 hky ⊢;subst e1 e2;have e2:=zH0 hky;subst e2;obtain⟨tk,hm⟩:=hM kd gr.lf;have hb':=gg.tk _ _ hb;refine⟨_,rfl,.inl ⟨kd.s,_,rfl,rfl,hm,_,rfl,iteF ?_⟩⟩;refine⟨_,rfl,_,rfl,d,_,xs,i,_,rfl,hdo,hky,hp,?_⟩;refine⟨_,rfl,kd.s,_,.int (kd.many:Int),rfl,rfl,hm,⟨tk,rfl⟩,.ref b,kd.many,rfl,(by have:=zEk kd;lia),.tup hb',(λ n=>absurd hb' (n b _ rfl)),λ a xs e e'=>?_⟩;cases e;rw[hb'] at e';cases e';refine⟨λ x hx=>?_,λ H2 g2=>⟨_,rfl,?_⟩⟩
   ·obtain⟨m,_,rfl⟩:=mC.mp (show x∈r.map λ(n:Nat)=>V.int (n:Int) from hx)
    exact .int _
   ·rw[zJG gr]
    exact iteF ⟨_,rfl,g.trans g2,h⟩
  ·have e:i=n:=by lia
   subst e;rw[hx3] at hp;cases hp;have hbad':=hbad.step gg.plm;obtain⟨p1,p2,p3⟩:=x3;rcases hbad' with ⟨z,ez,hz,hzl⟩|ho|⟨kd,hkl,ek,hpl,hrow⟩
   ·dsimp only at ez hky ⊢
    subst ez;have e2:=zH0 hky;subst e2;refine⟨_,rfl,.inl ⟨z,_,rfl,rfl,hz,_,rfl,iteT ?_⟩⟩;exact .inl ⟨_,rfl,.inl ⟨z,rfl,hzl⟩,λ out=>⟨d1,q H' gg⟩⟩
   ·dsimp only at ho hky ⊢
    refine⟨_,rfl,.inr ⟨p1,hky,(λ z e=>by rw[e] at ho;exact ho),rfl,_,rfl,iteT ?_⟩⟩;cases p1 with
    |none=>exact .inl ⟨_,rfl,.inr (.inr hky),λ out=>⟨d1,q H' gg⟩⟩
    |some dt =>
     cases dt with
     |str x=>exact ho.elim
     |int i =>
      have e2:p2 = .int i:=by
       obtain⟨h,_⟩:=hky;cases h;rfl
      exact .inl ⟨_,rfl,.inr (.inl ⟨i,e2,ho⟩),λ out=>⟨d1,q H' gg⟩⟩
     |tup ds =>
      have e3:ds=[.str "say"]:=ho;subst e3;obtain⟨h,_⟩:=hky;obtain⟨a,rfl⟩:∃a,p2 = .ref a:=by cases h;exact⟨_,rfl⟩
      exact .inr ⟨_,rfl,⟨a,rfl,h⟩,λ out=>⟨d1,q H' gg⟩⟩
   ·dsimp only at ek hpl hrow hky ⊢
    subst ek;have e2:=zH0 hky;subst e2;obtain⟨tk,hm⟩:=hM kd hkl;refine⟨_,rfl,.inl ⟨kd.s,_,rfl,rfl,hm,_,rfl,iteF ?_⟩⟩;refine⟨_,rfl,_,rfl,d,_,xs,i,_,rfl,hdo,hky,hx3,?_⟩;have hks:kd.s.length<=1000:=by cases kd<;>symm
    refine⟨_,rfl,kd.s,_,.int (kd.many:Int),rfl,rfl,hm,⟨tk,rfl⟩,p3,kd.many,rfl,(by have:=zEk kd;lia),hpl,(λ Ω=>⟨_,rfl,iteT ⟨_,rfl,kd.s,rfl,hks,λ out=>⟨d1,q H' gg⟩⟩⟩),λ a xs e e'=>?_⟩;obtain⟨hx,ho⟩:=hrow a xs e e';refine⟨hx,λ H2 g2=>⟨_,rfl,?_⟩⟩;rw[ho];exact iteT ⟨_,rfl,kd.s,rfl,hks,λ out=>⟨d1,q H2 (gg.trans g2.fz)⟩⟩
 ·rintro σ' H' ⟨s1,rfl,g,hi⟩
  exact absurd hi 31
theorem zCO {md cS:Addr}:MonE (zDZ K w md cS):=λ vs H Q Q' E E' m n h=>by
 obtain⟨sv,e,a,q⟩:=h;exact⟨sv,e,a,λ H' g=>n _ _ _ (q H' g)⟩
theorem zLx {spS:Sp}(hs:MonE spS):MonE (spWoA spS):=λ vs H Q Q' E E' m n h=>by
 obtain⟨v,y,e,q⟩:=h;exact⟨v,y,e,hs _ _ _ _ _ _ (λ Ω Ω z=>z) n q⟩
theorem zGU {spS:Sp}(hs:MonE spS):MonE (spCfA spS):=λ vs H Q Q' E E' m n h=>by
 obtain⟨v,y,e,q⟩:=h;exact⟨v,y,e,hs _ _ _ _ _ _ (λ Ω Ω z=>z) n q⟩
theorem zLy {spS:Sp}(hs:MonE spS):MonE (spFaA spS):=λ vs H Q Q' E E' m n h=>by
 obtain⟨r,us,u,y,e,a,q⟩:=h;exact⟨r,us,u,y,e,a,hs _ _ _ _ _ _ (λ Ω Ω z=>z) n q⟩
theorem zJ4:MonE zDF:=λ vs H Q Q' E E' m n h=>by
 obtain⟨l,d,qs,sc,e,a,b,c,q⟩:=h;exact⟨l,d,qs,sc,e,a,b,c,λ H' g=>m _ _ (q H' g)⟩
theorem zJ2 {cT:Addr}:MonE (zD9 cT):=λ vs H Q Q' E E' m n h=>by
 obtain⟨t,v,d,sc,e,a,b,c,f,q⟩:=h;exact⟨t,v,d,sc,e,a,b,c,f,λ H' g=>n _ _ _ (q H' g)⟩
theorem zJ3 {D:Addr}:MonE (zDE D):=λ vs H Q Q' E E' m n h=>by
 obtain⟨l,d,qs,sc,k,q3,e,a,b,c,f,g,q⟩:=h;exact⟨l,d,qs,sc,k,q3,e,a,b,c,f,g,λ dx H' g e=>n _ _ _ (q dx H' g e)⟩
theorem zEF {spF spW:Sp}{k:Nat}(hf:MonE spF) (hw:MonE spW):MonE (spTwo spF spW k):=λ vs H Q Q' E E' m n h=>by
 obtain⟨x,v,y,r,e,l,q⟩:=h;exact⟨x,v,y,r,e,l,hf _ _ _ _ _ _ (λ Ω Ω z=>hw _ _ _ _ _ _ (λ Ω Ω z=>z) n z) n q⟩
theorem MonE.q {sp:Sp}(h:MonE sp):MonQ sp:=λ vs H Q Q' E m=>h vs H Q Q' E E m λ Ω Ω Ω z=>z
abbrev zDc:Stmt:=top 93
theorem zBk:zAX ["_law_cell", "_law_row", "_law_pick", "_law_at", "_law_bad_here"] ["_law_cell", "_law_row"] (zAJ zDc):=scI
def zJp:Sp:=λ vs H Q Ω=>E4 λ(c:Int) (a:Addr) (r:List Nat) (m:Nat)=>A7 (vs=[.int c,.ref a]) (H a=some (.tup (natV r))) (r.length=m+1) (1<=m) (m<=3) (2<=c % 10) (∀v H',Same H H'->BadR H' m v->Q v H')
theorem zLs (F:Fun K "_law_bad" "_law_bad" zDc f fd) (z_len:mg "len" = none) (z_list:mg "list" = none):FnOk P w K mg base CX0 (k+1) f fd ["_law_cell", "_law_row"] zJp:=by
 refine F.ok zBk 55 38
 ·obtain⟨c,a,r,m,rfl,_⟩:=h
  rfl
 obtain⟨c,a,r,m,rfl,ha,hl,hm1,hm3,hc,q⟩:=h
 refine zGG ⟨_,(zAK (pSS (i:=2) zBk.nd (zAY zAr ⟨pv 0⟩ ⟨zAE⟩))
  (zAK (pSS (i:=3) zBk.nd (zAY zAa ⟨pv 2⟩ ⟨cL z_len (zAA 90 zAB)⟩))
  (zAK (zB1 ⟨zAT op_eq (pe_op zAa (pv 0) zAE) zAE (zAe _)⟩ (zAt (zBK ⟨zBB zB4 90 zBN (zBM (pe_un zG5 zAE))⟩)) ⟨zAV⟩)
  (zAK (zB1 ⟨zAT op_eq (pe_op zAa (pv 0) zAE) zAE (zAe _)⟩ (zAt (zBK (zAY zB0 ⟨pv 1⟩ (zAh (zAU ⟨zAE⟩ ⟨zAB⟩))))) ⟨zAV⟩)
  (zAK (zB1 ⟨zAT op_eq (pe_op zAa (pv 0) zAE) zAE (zAe _)⟩ (zAK (pSS (i:=4) zBk.nd (zCw (r:=rIxL K) zBI (zBO (zAU ⟨zAE⟩ (zAU ⟨zAE⟩ (pa_bS (zAY zHh ⟨pe_un zG5 zAE⟩ (zAY zAa ⟨pv 2⟩ (zAY zDI ⟨zAE⟩ ⟨zAE⟩))) (pa_bS (zAY zA8 ⟨zAE⟩ (zAY zAa ⟨pv 2⟩ (zAY zDI ⟨zAE⟩ ⟨zAE⟩))) ⟨zAB⟩))))) (zAY zAa ⟨pv 2⟩ ⟨zAE⟩) (λ Ω Ω=>rfl)))
  (zAt (zBK (zAY zB0 (zAh (pa_nS ⟨pv 4⟩ ⟨zAB⟩)) ⟨zBB zB4 90 (zBM zAE) zBN⟩)))) ⟨zAV⟩)
  (zAK (zB1 ⟨zAT op_eq (pe_op zAa (pv 0) zAE) zAE (zAe _)⟩ (zAK (pSS (i:=3) zBk.nd (zAY zA8 ⟨zAE⟩ (zAY zAa ⟨pv 2⟩ (zAY zHh ⟨cL z_len (zAA 90 zAB)⟩ ⟨zAE⟩))))
  (zAK (pSS (i:=4) zBk.nd (zCw (r:=rIxL K) zBI (zBO (zAU ⟨zAE⟩ (zAU ⟨zAE⟩ (pa_bS (zAY zHh ⟨pe_un zG5 zAE⟩ (zAY zAa ⟨pv 2⟩ (zAY zDI ⟨zAE⟩ ⟨zAE⟩))) (pa_bS (zAY zA8 ⟨zAE⟩ (zAY zAa ⟨pv 2⟩ (zAY zDI ⟨zAE⟩ ⟨zAE⟩))) ⟨zAB⟩))))) (zAY zAa (zAY zAr ⟨pv 2⟩ ⟨zAE⟩) ⟨zAE⟩) (λ Ω Ω=>rfl)))
  (zAt (zBK (zAY zB0 (zAY zB0 ⟨zBB zB4 90 zBN (zBM (pv 3))⟩ (zAh (pa_nS ⟨pv 4⟩ ⟨zAB⟩))) ⟨zBB zB4 90 (zBM (pe_op zA8 (pv 3) zAE)) zBN⟩))))) ⟨zAV⟩)
  (zAK (zB1 ⟨zAT op_eq (pe_op zAa (pv 0) zAE) zAE (zAe _)⟩ (zAt (zBK (zEE zDL 39 z_list PyProof.Rows.boot_list (pa_nS ⟨pv 1⟩ ⟨zAB⟩)))) ⟨zAV⟩)
  (zAK (zB1 ⟨zAT op_eq (pe_op zAa (pv 0) zAE) zAE (zAe _)⟩ (zAt (zBK (zAY zB0 (zAY zB0 ⟨zBB zB4 90 zBN (zBM (pv 3))⟩ (zAh (zAU ⟨pe_bl⟩ ⟨zAB⟩))) ⟨zBB zB4 90 (zBM (pe_op zA8 (pv 3) zAE)) zBN⟩))) ⟨zAV⟩)
  (zAK (zB1 ⟨zAT op_eq (pe_op zAa (pv 0) zAE) zAE (zAe _)⟩ (zAt (zBK (zAY zB0 (zAY zB0 ⟨zBB zB4 90 zBN (zBM (pv 3))⟩ (zAh (pa_iS (zCw (r:=rIxL K) zBI (zBO (pa_cS ⟨zAQ⟩ (zAU ⟨zDf⟩ (pa_tS (zAh (zAU ⟨zAE⟩ ⟨zAB⟩)) (zAU (zBO (zAU ⟨zAE⟩ ⟨zAB⟩)) ⟨zAB⟩))))) (zAY zAa (zAY zAr ⟨pv 2⟩ ⟨zAE⟩) ⟨zAE⟩) (λ Ω Ω=>rfl)) ⟨zAB⟩))) ⟨zBB zB4 90 (zBM (pe_op zA8 (pv 3) zAE)) zBN⟩))) ⟨zAV⟩)
  (zAt (zBK (zCw (r:=rIxL K) zBI (zBO (zAU ⟨zDf⟩ (zAU ⟨zAE⟩ (pa_cS ⟨zAQ⟩ (zAU ⟨zCx⟩ (zAU ⟨pe_bl⟩ (pa_tS (zAh ⟨zAB⟩) ⟨zAB⟩))))))) (zAY zAa ⟨pv 2⟩ ⟨zAE⟩) (λ Ω Ω=>rfl))))))))))))),?_⟩
 have d1:1<=sizeLine:=by decide
 have z10:(0:Int)<10:=by decide
 have ln:(natV r).length=m+1:=by rw[zBx];exact hl
 refine⟨_,rfl,_,_,rfl,rfl,65,?_⟩;dsimp only[gName];generalize c / 10=pk
 obtain⟨i0,hi0,ei0⟩:∃i0:Nat,i0<m+1/\pk % (((natV r).length:Nat):Int)=(i0:Int):=by
  rw[ln];have a0:=rJ pk (show ((m+1:Nat):Int)≠0 by lia);have a1:=rK pk (show (0:Int)<((m+1:Nat):Int) by lia);exact⟨(pk % ((m+1:Nat):Int)).toNat,by lia,by lia⟩
 refine⟨_,rfl,_,rfl,a,_,rfl,.inr (SqT.of ha),_,_,rfl,rfl,(by rw[ln];lia),?_⟩;rw[ei0];dsimp only[gName]
 have nw1:∀i:Nat,i<m+1->¬(HT.sIx (natV r).length 0 none=0/\HT.sIx (natV r).length (natV r).length (some (i:Int))=(natV r).length):=λ i hi z=>by
  have:=z.2;rw[HT.sIx_nat,ln] at this
  lia
 have nw2:∀i:Nat,¬(HT.sIx (natV r).length 0 (some ((i:Int)+1))=0/\HT.sIx (natV r).length (natV r).length none=(natV r).length):=λ i z=>by
  have:=z.1;rw[show ((i:Int)+1)=((i+1:Nat):Int) by push_cast;rfl,HT.sIx_nat,ln] at this
  lia
 have cu:∀i:Nat,i<m+1->cutV (natV r) none (some (i:Int))=(natV r).take i:=λ i hi=>cutUp _ _ 31
 have cf:∀i:Nat,i<m+1->cutV (natV r) (some ((i:Int)+1)) none=(natV r).drop (i+1):=λ i hi=>by
  rw[show ((i:Int)+1)=((i+1:Nat):Int) by push_cast;rfl];exact zKy _ _ 31
 refine⟨_,rfl,_,_,rfl,rfl,z10,rfl,_,rfl,ite2 (λ e=>?_) (λ n2=>?_)⟩
 ·have sx:HT.sIx (natV r).length (natV r).length (some (-1))=m:=by
   rw[ln];unfold HT.sIx;simp
   lia
  refine⟨_,rfl,1,rfl,-1,rfl,a,_,rfl,ha,(λ z=>by have:=z.2;rw[sx,ln] at this;lia),λ p1 H1 g1 e1=>?_⟩;refine q _ H1 g1 (zCl e1 (λ x hx=>?_) (zFy ?_))
  ·exact zEc H1 x (List.mem_of_mem_drop (List.mem_of_mem_take hx))
  ·unfold cutV
   rw[sx,mQ]
   lia
 refine⟨_,rfl,_,_,rfl,rfl,z10,rfl,_,rfl,ite2 (λ e=>?_) (λ n3=>?_)⟩
 ·refine⟨_,rfl,d1,λ p hp=>?_⟩
  have k1:=zAD (o:=.tup [.int 1]) hp;refine⟨a,p,_,_,rfl,rfl,k1 _ _ ha,zAC,zA0 (by rw[ln];simp;lia),λ p2 H2 g2 e2=>?_⟩;refine q _ H2 (k1.trans g2) (zCl e2 (λ x hx=>?_) (zFy (by rw[mK,ln];simp)));rcases lJ.mp hx with h|h
  ·exact zEc H2 x h
  ·rw[mX.mp h];exact .int 1
 refine⟨_,rfl,_,_,rfl,rfl,z10,rfl,_,rfl,ite2 (λ e=>?_) (λ n4=>?_)⟩
 ·have zp:(0:Int)<10 ^ 30:=by decide
  have z0:=rJ pk (show (10:Int) ^ (30:Int).toNat≠0 by decide)
  obtain⟨b,ax,hb⟩:∃b:Int,atI [V.int 0,.int 10,.int (-1 - pk % 10 ^ (30:Int).toNat),.int (10+pk % 10 ^ (30:Int).toNat)] (pk % 4)=some (.int b)/\(b<1\/9<b):=by
   rcases (show pk % 4=0\/pk % 4=1\/pk % 4=2\/pk % 4=3 by lia) with e|e|e|e<;>rw[e]
   ·exact⟨_,rfl,by lia⟩
   ·exact⟨_,rfl,by lia⟩
   ·exact⟨_,rfl,by lia⟩
   ·exact⟨_,rfl,by lia⟩
  refine⟨1,rfl,_,rfl,_,_,rfl,rfl,⟨by decide,by decide,by decide⟩,_,_,rfl,rfl,zp,_,_,rfl,rfl,_,rfl,_,_,rfl,rfl,⟨by decide,by decide,by decide⟩,_,_,rfl,rfl,zp,_,_,rfl,rfl,(show 4<=sizeLine by decide),λ L hL=>?_⟩;have kL:=zAD (o:=.lst [V.int 0,.int 10,.int (-1 - pk % 10 ^ (30:Int).toNat),.int (10+pk % 10 ^ (30:Int).toNat)]) hL;have eL:=@zAC H L (.lst [V.int 0,.int 10,.int (-1 - pk % 10 ^ (30:Int).toNat),.int (10+pk % 10 ^ (30:Int).toNat)]);generalize upd H L _=H1 at kL eL ⊢;refine⟨_,rfl,_,_,rfl,rfl,(show (0:Int)<4 by decide),L,_,_,_,rfl,rfl,SqL.of eL,ax,?_⟩;dsimp only[gName];refine⟨_,rfl,d1,λ p2 hp2=>?_⟩;have k2:=kL.trans (zAD (o:=.tup [.int b]) hp2);refine⟨_,rfl,1,rfl,a,_,rfl,k2 _ _ ha,nw2 0,λ p1 H3 g1 e1=>?_⟩;have e1':H3 p1=some (.tup ((natV r).drop 1)):=e1.trans (congrArg (λ z=>some (HO.tup z)) (cf 0 31));refine⟨p2,p1,_,_,rfl,rfl,g1 _ _ zAC,e1',zA0 (by rw[nC,ln];simp;lia),λ p5 H5 g5 e5=>?_⟩;refine q _ H5 (k2.trans (g1.trans g5)) (zCl e5 (pl_at (r:=r) (i:=0) (.int b)) (zGc (xs:=natV r) (i:=0) 31 (λ Ω=>?_) λ z=>absurd rfl z));show (decide (1<=b) && decide (b<=9))=false;rcases hb with h|h
  ·rw[decide_eq_false 31];rfl
  ·rw[decide_eq_false (show ¬b<=9 by lia),Bool.and_false]
 refine⟨_,rfl,_,_,rfl,rfl,z10,rfl,_,rfl,ite2 (λ e=>?_) (λ n5=>?_)⟩
 ·have zp:(0:Int)<10 ^ 30:=by decide
  have z0:=rJ pk (show (10:Int) ^ (30:Int).toNat≠0 by decide)
  obtain⟨i5,hi1,hi5,ei5⟩:∃i5:Nat,1<=i5/\i5<m+1/\(1:Int)+pk % ((((natV r).length:Nat):Int) - 1)=(i5:Int):=by
   rw[ln,show (((m+1:Nat):Int) - 1)=(m:Int) by push_cast;lia];have a0:=rJ pk (show (m:Int)≠0 by lia);have a1:=rK pk (show (0:Int)<(m:Int) by lia);exact⟨(1+pk % (m:Int)).toNat,by lia,by lia,by lia⟩
  refine⟨_,rfl,_,rfl,a,_,rfl,.inr (SqT.of ha),_,_,rfl,rfl,_,_,rfl,rfl,(by rw[ln];push_cast;lia),_,_,rfl,rfl,?_⟩;rw[ei5];dsimp only[gName]
  obtain⟨b,ax,hb⟩:∃b:Int,atI [V.int 0,.int 4,.int (-1 - pk % 10 ^ (30:Int).toNat),.int (4+pk % 10 ^ (30:Int).toNat)] (pk / 3 % 4)=some (.int b)/\(b<1\/3<b):=by
   rcases (show pk / 3 % 4=0\/pk / 3 % 4=1\/pk / 3 % 4=2\/pk / 3 % 4=3 by lia) with e|e|e|e<;>rw[e]
   ·exact⟨_,rfl,by lia⟩
   ·exact⟨_,rfl,by lia⟩
   ·exact⟨_,rfl,by lia⟩
   ·exact⟨_,rfl,by lia⟩
  refine⟨1,rfl,_,rfl,_,_,rfl,rfl,⟨by decide,by decide,by decide⟩,_,_,rfl,rfl,zp,_,_,rfl,rfl,_,rfl,_,_,rfl,rfl,⟨by decide,by decide,by decide⟩,_,_,rfl,rfl,zp,_,_,rfl,rfl,(show 4<=sizeLine by decide),λ L hL=>?_⟩;have kL:=zAD (o:=.lst [V.int 0,.int 4,.int (-1 - pk % 10 ^ (30:Int).toNat),.int (4+pk % 10 ^ (30:Int).toNat)]) hL;have eL:=@zAC H L (.lst [V.int 0,.int 4,.int (-1 - pk % 10 ^ (30:Int).toNat),.int (4+pk % 10 ^ (30:Int).toNat)]);generalize upd H L _=H0 at kL eL ⊢;refine⟨_,rfl,_,_,rfl,rfl,65,_,_,rfl,rfl,(show (0:Int)<4 by decide),L,_,_,_,rfl,rfl,SqL.of eL,ax,?_⟩;dsimp only[gName];refine⟨_,rfl,_,rfl,_,rfl,a,_,rfl,kL _ _ ha,nw1 i5 hi5,λ p1 H1 g1 e1=>?_⟩;rw[cu i5 hi5] at e1;refine⟨_,rfl,d1,λ p2 hp2=>?_⟩;have k2:=zAD (o:=.tup [.int b]) hp2;refine⟨p1,p2,_,_,rfl,rfl,k2 _ _ e1,zAC,zA0 (by rw[mQ,ln];simp;lia),λ p3 H3 g3 e3=>?_⟩;have g13:=kL.trans (g1.trans (k2.trans g3));refine⟨_,rfl,_,rfl,_,_,rfl,rfl,_,rfl,a,_,rfl,g13 _ _ ha,nw2 i5,λ p4 H4 g4 e4=>?_⟩;rw[cf i5 hi5] at e4;refine⟨p3,p4,_,_,rfl,rfl,g4 _ _ e3,e4,zA0 (by rw[mK,mQ,nC,ln];simp;lia),λ p5 H5 g5 e5=>?_⟩;refine q _ H5 (g13.trans (g4.trans g5)) (zCl e5 (pl_at (.int b)) (zGc 31 (λ z=>absurd z 31) λ Ω=>?_));show (decide (1<=b) && decide (b<=3))=false;rcases hb with h|h
  ·rw[decide_eq_false 31];rfl
  ·rw[decide_eq_false (show ¬b<=3 by lia),Bool.and_false]
 refine⟨_,rfl,_,_,rfl,rfl,z10,rfl,_,rfl,ite2 (λ e=>?_) (λ n6=>?_)⟩
 ·refine⟨_,rfl,a,_,rfl,.inr (SqT.of ha),λ p hp=>?_⟩
  exact q _ _ (zAD hp) ⟨.lst zAC,λ b xs eb ex=>by cases eb;rw[zAC] at ex;cases ex⟩
 refine⟨_,rfl,_,_,rfl,rfl,z10,rfl,_,rfl,ite2 (λ e=>?_) (λ n7=>?_)⟩
 ·refine⟨_,rfl,_,rfl,_,rfl,a,_,rfl,ha,nw1 i0 hi0,λ p1 H1 g1 e1=>?_⟩
  rw[cu i0 hi0] at e1;refine⟨d1,λ p2 hp2=>?_⟩;have k2:=zAD (o:=.tup [.bl true]) hp2;refine⟨p1,p2,_,_,rfl,rfl,k2 _ _ e1,zAC,zA0 (by rw[mQ,ln];simp;lia),λ p3 H3 g3 e3=>?_⟩;have g13:=g1.trans (k2.trans g3);refine⟨_,rfl,_,rfl,_,_,rfl,rfl,_,rfl,a,_,rfl,g13 _ _ ha,nw2 i0,λ p4 H4 g4 e4=>?_⟩;rw[cf i0 hi0] at e4;refine⟨p3,p4,_,_,rfl,rfl,g4 _ _ e3,e4,zA0 (by rw[mK,mQ,nC,ln];simp;lia),λ p5 H5 g5 e5=>?_⟩;exact q _ H5 (g13.trans (g4.trans g5)) (zCl e5 (pl_at (.bl true)) (zGc 31 (λ Ω=>rfl) λ Ω=>rfl))
 refine⟨_,rfl,_,_,rfl,rfl,z10,rfl,_,rfl,ite2 (λ e=>?_) (λ n8=>?_)⟩
 ·refine⟨_,rfl,_,rfl,_,rfl,a,_,rfl,ha,nw1 i0 hi0,λ p1 H1 g1 e1=>?_⟩
  rw[cu i0 hi0] at e1;refine⟨d1,λ t1 ht1=>?_⟩;have k1:=zAD (o:=.tup [.int 1]) ht1;have et:=@zAC H1 t1 (.tup [.int 1]);generalize upd H1 t1 _=H1a at k1 et ⊢;refine⟨d1,λ l1 hl1=>?_⟩;have k1b:=zAD (o:=.lst [.int 1]) hl1;have el:=@zAC H1a l1 (.lst [.int 1]);generalize upd H1a l1 _=H1b at k1b el ⊢
  obtain⟨x,ax,hx,hb⟩:∃x:V,atI [V.str "1", .non,.ref t1,.ref l1] (pk / 4 % 4)=some x/\Pl H1b x/\∀n,okB n x=false:=by
   rcases (show pk / 4 % 4=0\/pk / 4 % 4=1\/pk / 4 % 4=2\/pk / 4 % 4=3 by lia) with e|e|e|e<;>rw[e]
   ·exact⟨_,rfl,.str _,λ Ω=>rfl⟩
   ·exact⟨_,rfl,.non,λ Ω=>rfl⟩
   ·exact⟨_,rfl,.tup (k1b _ _ et),λ Ω=>rfl⟩
   ·exact⟨_,rfl,.lst el,λ Ω=>rfl⟩
  refine⟨(show 4<=sizeLine by decide),λ L hL=>⟨_,rfl,_,_,rfl,rfl,65,_,_,rfl,rfl,(show (0:Int)<4 by decide),L,_,_,_,rfl,rfl,SqL.of zAC,ax,d1,λ p2 hp2=>?_⟩⟩;have kL:=zAD (o:=.lst [V.str "1", .non,.ref t1,.ref l1]) hL;have k2:=kL.trans (zAD (o:=.tup [x]) hp2);have k12:=k1.trans (k1b.trans k2);refine⟨p1,p2,_,_,rfl,rfl,k12 _ _ e1,zAC,zA0 (by rw[mQ,ln];simp;lia),λ p3 H3 g3 e3=>?_⟩;have g13:=g1.trans (k12.trans g3);refine⟨_,rfl,_,rfl,_,_,rfl,rfl,_,rfl,a,_,rfl,g13 _ _ ha,nw2 i0,λ p4 H4 g4 e4=>?_⟩;rw[cf i0 hi0] at e4;refine⟨p3,p4,_,_,rfl,rfl,g4 _ _ e3,e4,zA0 (by rw[mK,mQ,nC,ln];simp;lia),λ p5 H5 g5 e5=>?_⟩;exact q _ H5 (g13.trans (g4.trans g5)) (zCl e5 (pl_at (hx.mono (k2.trans (g3.trans (g4.trans g5))))) (zGc 31 (λ Ω=>hb 9) λ Ω=>hb 3))
 refine λ dd hdd=>?_;have k1:=zAD (o:=.dK []) hdd;have et:=@zAC H dd (.dK []);generalize upd H dd _=H1 at k1 et ⊢;refine⟨(show 0<=sizeLine by decide),λ t0 ht0=>?_⟩;have k2:=zAD (o:=.tup []) ht0;have e2:=@zAC H1 t0 (.tup []);generalize upd H1 t0 _=H2 at k2 e2 ⊢;refine⟨(show 6<=sizeLine by decide),λ L hL=>?_⟩;have k3:=zAD (o:=.lst [V.non,.int 1,.str "111", .ref dd,.bl true,.ref t0]) hL;have e3:=@zAC H2 L (.lst [V.non,.int 1,.str "111", .ref dd,.bl true,.ref t0]);generalize upd H2 L _=H3 at k3 e3 ⊢;have et3:=(k2.trans k3) _ _ et
 obtain⟨x,ax,hx⟩:∃x:V,atI [V.non,.int 1,.str "111", .ref dd,.bl true,.ref t0] (pk % 6)=some x/\BadR H3 m x:=by
  rcases (show pk % 6=0\/pk % 6=1\/pk % 6=2\/pk % 6=3\/pk % 6=4\/pk % 6=5 by lia) with e|e|e|e|e|e<;>rw[e]
  ·exact⟨_,rfl,.non,(λ a xs z=>nomatch z)⟩
  ·exact⟨_,rfl,.int 1,(λ a xs z=>nomatch z)⟩
  ·exact⟨_,rfl,.str _,(λ a xs z=>nomatch z)⟩
  ·exact⟨_,rfl,.dK et3,λ a xs z z2=>by cases z;rw[et3] at z2;cases z2⟩
  ·exact⟨_,rfl,.bl true,(λ a xs z=>nomatch z)⟩
  ·exact⟨_,rfl,zCl (k3 _ _ e2) (λ x hx=>nomatch hx) (zFy 41)⟩
 exact⟨_,rfl,_,_,rfl,rfl,(show (0:Int)<6 by decide),L,_,_,_,rfl,rfl,SqL.of e3,ax,q _ _ (k1.trans (k2.trans k3)) hx⟩
abbrev zBd:Stmt:=top 94
theorem zAo:zAX ["_law_scale_here", "_law_cell", "_law_signs", "_law_sign", "_law_row", "_law_found", "_law_other"] ["_law_scale_here", "_law_cell"] (zAJ zBd):=scI
def zJl (K:W.Frag) (w:World) (md:Addr):Sp:=λ vs H Q Ω=>E4 λ(d:Addr) (c:Int) (rs:Scl) (kvs:List (Key × V))=>A5 (vs=[.ref d,.int c]) (H d=some 84) (ScD H d rs kvs) (kvs≠[]) (∀v H',Sf H H'->Spo K w md H' v->Q v H')
theorem zLg (F:Fun K "_law_spoiled" "_law_spoiled" zBd f fd) (hW:NoSg K md) (zMn:FnB P w K mg base k "_law_bad" g1 gd1 ["_law_cell", "_law_row"] zJp):FnOk P w K mg base CX0 (k+1) f fd ["_law_scale_here", "_law_cell"] (zJl K w md):=by
 refine F.ok zAo 55 38
 ·obtain⟨d,c,rs,kvs,rfl,_⟩:=h
  rfl
 obtain⟨d,c,rs,kvs,rfl,hd,hsc,hne,q⟩:=h;have hu:=hu_of hr;have hu5:=hu150 hr;have hu0:(A.deeper (envOfC "_law_spoiled" (zAJ zBd) s.heap.objs.size f cdv)).units<cLine:=hr.units0
 refine zGG ⟨_,(zAK (zB1 ⟨zAT op_eq (pe_op zAa 90 zAE) zAE (zAe _)⟩ (zAt (zBK (zCw (r:=rIxL K) zBI (zBO (zAU ⟨zDf⟩ (zAU (zBO ⟨zAB⟩) (pa_tS (zAh ⟨zAB⟩) (zAU ⟨zAE⟩ (pa_cS ⟨zAQ⟩ (zAU ⟨pe_bl⟩ (zAU (zBO (pa_tS (zAh (pa_cS ⟨zAQ⟩ (pa_tS (zAh (zAU ⟨zAE⟩ (zAU ⟨zAE⟩ ⟨zAB⟩))) ⟨zAB⟩))) ⟨zAB⟩)) ⟨zAB⟩)))))))) (zAY zAa (zAY zAr ⟨pv 1⟩ ⟨zAE⟩) ⟨zAE⟩) (λ Ω Ω=>rfl)))) ⟨zAV⟩)
  (zAK (pSS (i:=2) zAo.nd (zI3 [.str "say", .str "add", .str "sub", .str "mul", .str "then", .str "if", .str "let"] (by symm)))
  (zAK (pSS (i:=3) zAo.nd (zCw (r:=rIxL K) zBI ⟨pv 2⟩ (zAY zAa (zAY zAr ⟨pv 1⟩ ⟨zAE⟩) ⟨zAE⟩) (λ Ω Ω=>rfl)))
  (zAK (zB1 ⟨zAT op_eq (pe_op zAa 90 zAE) zAE (zAe _)⟩ (zAK (pSS (i:=3) zAo.nd (zCw (r:=rIxL K) zBI (zBO (pa_cS ⟨zAQ⟩ (pa_cS ⟨zAQ⟩ (pa_cS ⟨zAQ⟩ (pa_cS ⟨zAQ⟩ (pa_cS ⟨zAQ⟩ (pa_cS ⟨zAQ⟩ (pa_cS ⟨zAQ⟩ (pa_cS ⟨zAQ⟩ (zAU ⟨zAE⟩ (zAU ⟨zDf⟩ (pa_tS (zAh (pa_cS ⟨zAQ⟩ ⟨zAB⟩)) ⟨zAB⟩)))))))))))) (zAY zAa (zAY zAr ⟨pv 1⟩ ⟨zAE⟩) ⟨zAE⟩) (λ Ω Ω=>rfl)))
  (zAt (pSS (i:=4) zAo.nd ⟨zBB zHL (zKc [.int 1,.int 1,.int 1] 39:PE _ _ _) zBN (zBM (pe_op zA8 zAE (pe_op zAa (pe_op zAr 90 zAE) zAE)))⟩))) (zAK (pSS (i:=4) zAo.nd ⟨zBB zHL (zAc (zAA (pe_op zA8 zAE (pe_op zAa (pe_op zAr 90 zAE) zAE)) (zAA (pe_op zA8 zAE (pe_op zAa (pe_op zAr 90 zAE) zAE)) (zAA zAE (zAA zAE zAB)))):PE _ _ _) zBN (zBM (pe_ix (r:=rIxL K) zBI (zFh [.int 2,.int 3,.int 3,.int 3,.int 3,.int 4,.int 3] 39:PE _ _ _) (pe_op zAa (pe_op zAr 90 zAE) zAE) (λ Ω Ω=>rfl)))⟩)
  (zAt (pSS (i:=4) zAo.nd (zBh zMn.ok hr 39 zMn.gl zMn.kp zMn.bd .nil pass0 (pa_bS (zAY zA8 (zAY zAa ⟨pv 1⟩ ⟨zAE⟩) (zAY zHk ⟨zAE⟩ (zAY zAa (zAY zAr ⟨pv 1⟩ ⟨zAE⟩) (zAY zDI ⟨zAE⟩ ⟨zAE⟩)))) (pa_nS ⟨pv 4⟩ ⟨zAB⟩)))))))
  (zAK (pSS (i:=5) zAo.nd ⟨zCx⟩)
  (zAK (zB1 ⟨zAT op_eq (pe_op zAa (pe_op zAr 90 zAE) zAE) zAE (zAe _)⟩ (zAt ⟨zFd hu5 (pv 5) (pv 3) (pv 4) rfl⟩) ⟨zAV⟩)
  (zAK ⟨zBQ PassesOwn.never rfl (zFg (pv 0)) (pGn (i:=6) zAo.nd) (zAH (ps_if (zAT (zKh hu0) (pv 6) (pv 3) (zAe _)) (zAH (zFd hu5 (pv 5) (pv 6) (zEf hu (pv 0) (pv 6) (λ Ω Ω=>rfl)) rfl)) zAV))⟩
  (zAK ⟨zFd hu5 (pv 5) (pv 3) (pv 4) rfl⟩
  (zAt (zBK ⟨pv 5⟩)))))))))),?_⟩
 have d1:1<=sizeLine:=by decide
 have z10:(0:Int)<10:=by decide
 refine⟨_,rfl,_,_,rfl,rfl,z10,rfl,_,rfl,ite2 (λ e=>?_) (λ n0=>?_)⟩
 ·refine⟨(show 0<=sizeLine by decide),λ l1 hl1=>?_⟩
  have k1:=zAD (o:=.lst []) hl1;have e1:=@zAC H l1 (.lst []);generalize upd H l1 _=H1 at k1 e1 ⊢;refine⟨(show 0<=sizeLine by decide),λ t1 ht1=>?_⟩;have k2:=zAD (o:=.tup []) ht1;have e2:=@zAC H1 t1 (.tup []);generalize upd H1 t1 _=H2 at k2 e2 ⊢;refine⟨(show 2<=sizeLine by decide),λ p1 hp1=>?_⟩;have k3:=zAD (o:=.tup [.int 1,.int 1]) hp1;generalize upd H2 p1 _=H3 at k3 ⊢;refine⟨(show 2<=sizeLine by decide),λ p2 hp2=>?_⟩;have k4:=zAD (o:=.tup [.str "say", .ref p1]) hp2;generalize upd H3 p2 _=H4 at k4 ⊢;refine⟨d1,λ l2 hl2=>?_⟩;have k5:=zAD (o:=.lst [.ref p2]) hl2;have e5:=@zAC H4 l2 (.lst [.ref p2]);generalize upd H4 l2 _=H5 at k5 e5 ⊢;refine⟨(show 7<=sizeLine by decide),λ L hL=>?_⟩;have k6:=zAD (o:=.lst [V.non,.ref l1,.ref t1,.int 1,.str "say", .bl true,.ref l2]) hL;have e6:=@zAC H5 L (.lst [V.non,.ref l1,.ref t1,.int 1,.str "say", .bl true,.ref l2]);generalize upd H5 L _=H6 at k6 e6 ⊢;have k36:=k3.trans (k4.trans (k5.trans k6));have f1:=(k2.trans k36) _ _ e1;have f2:=k36 _ _ e2;have f5:=k6 _ _ e5
  obtain⟨x,ax,hx,hn⟩:∃x:V,atI [V.non,.ref l1,.ref t1,.int 1,.str "say", .bl true,.ref l2] (c / 10 % 7)=some x/\Pl H6 x/\∀a kvs,x = .ref a->H6 a≠some (.dK kvs):=by
   generalize c / 10=z;rcases (show z % 7=0\/z % 7=1\/z % 7=2\/z % 7=3\/z % 7=4\/z % 7=5\/z % 7=6 by lia) with e|e|e|e|e|e|e<;>rw[e]
   ·exact⟨_,rfl,.non,λ a kvs z=>nomatch z⟩
   ·exact⟨_,rfl,.lst f1,λ a kvs z z2=>by cases z;rw[f1] at z2;cases z2⟩
   ·exact⟨_,rfl,.tup f2,λ a kvs z z2=>by cases z;rw[f2] at z2;cases z2⟩
   ·exact⟨_,rfl,.int 1,λ a kvs z=>nomatch z⟩
   ·exact⟨_,rfl,.str _,λ a kvs z=>nomatch z⟩
   ·exact⟨_,rfl,.bl true,λ a kvs z=>nomatch z⟩
   ·exact⟨_,rfl,.lst f5,λ a kvs z z2=>by cases z;rw[f5] at z2;cases z2⟩
  exact⟨_,rfl,_,_,rfl,rfl,65,_,_,rfl,rfl,(show (0:Int)<7 by decide),L,_,_,_,rfl,rfl,SqL.of e6,ax,q _ _ (k1.trans (k2.trans k36)).sf (.inl ⟨hx,hn⟩)⟩
 refine⟨(show 7<=sizeLine by decide),λ sg hsg=>?_⟩;have k1:=zAD (o:=.lst sgsV) hsg;have e1:=@zAC H sg (.lst sgsV);dsimp only[gName]
 change tSeq _ _ _ _ (upd H sg (.lst sgsV))
 generalize upd H sg _=H1 at k1 e1 ⊢;obtain⟨kd,hkl,hm1,hm3,as,al⟩:=sg_at (c / 10);refine⟨_,rfl,_,rfl,_,_,rfl,rfl,65,_,_,rfl,rfl,(show (0:Int)<7 by decide),sg,_,_,_,rfl,rfl,SqL.of e1,as,?_⟩;dsimp only[gName];apply viaS (λ σ' H'=>E3 λ(k:OD) (kv rv:V)=>A4 (σ'=[some (.ref d),some (.int c),some (.ref sg),some kv,some rv,none,none]) (Same H1 H') (KyO H' k kv) (BadX K md H' (k,kv,rv)))
 ·intro rest
  refine⟨_,rfl,_,_,rfl,rfl,z10,rfl,_,rfl,ite2 (λ e=>?_) (λ n1=>?_)⟩
  ·refine⟨d1,λ p hp=>?_⟩
   have g1:=zAD (o:=.tup [.str "say"]) hp;have ep:=@zAC H1 p (.tup [.str "say"]);generalize upd H1 p _=H2 at g1 ep ⊢;refine⟨(show 11<=sizeLine by decide),λ L hL=>?_⟩;have g2:=zAD (o:=.lst [V.str "num", .str "name", .str "ask", .str "stop", .str "gap", .str "Say", .str "", .str "lets", .int 3,.non,.ref p]) hL;have eL:=@zAC H2 L (.lst [V.str "num", .str "name", .str "ask", .str "stop", .str "gap", .str "Say", .str "", .str "lets", .int 3,.non,.ref p]);generalize upd H2 L _=H3 at g2 eL ⊢;obtain⟨kk,kv,ax,hky,hodd⟩:=zLu hW (g2 _ _ ep) (c / 10);refine⟨_,rfl,_,_,rfl,rfl,65,_,_,rfl,rfl,(show (0:Int)<11 by decide),L,_,_,_,rfl,rfl,SqL.of eL,ax,?_⟩;dsimp only[gName];refine⟨(show 3<=sizeLine by decide),λ p3 hp3=>?_⟩;have g3:=zAD (o:=.tup [V.int 1,.int 1,.int 1]) hp3;have e3:=@zAC H3 p3 (.tup [V.int 1,.int 1,.int 1])
   change zFZ _ (upd H3 p3 (.tup [V.int 1,.int 1,.int 1])) _
   generalize upd H3 p3 _=H4 at g3 e3 ⊢;refine⟨_,rfl,_,_,rfl,rfl,65,_,_,rfl,rfl,(show (0:Int)<2 by decide),_,_,rfl,rfl,_,rfl,p3,_,rfl,e3,λ p4 H5 g5 e5=>?_⟩;have g35:=g3.trans g5;dsimp only[gName];exact rest _ _ ⟨kk,kv,.ref p4,rfl,g1.trans (g2.trans g35),hky.mono g35.tk,hodd.imp id .inl⟩
  ·have z40:(0:Int)<10 ^ 40:=by decide
   obtain⟨a,ea,ha1,ha9⟩:∃a:Nat,1+c / 70 % 9=(a:Int)/\1<=a/\a<=9:=⟨(1+c / 70 % 9).toNat,by lia,by lia,by lia⟩;obtain⟨b,eb,hb1,hb3⟩:∃b:Nat,1+c / 630 % 3=(b:Int)/\1<=b/\b<=3:=⟨(1+c / 630 % 3).toNat,by lia,by lia,by lia⟩;have er : [V.int (1+c / 70 % 9),.int (1+c / 630 % 3),.int 2,.int 3]=natV [a,b,2,3]:=by rw[ea,eb];rfl
   refine⟨_,rfl,_,_,rfl,rfl,65,_,_,rfl,rfl,(show (0:Int)<9 by decide),_,_,rfl,rfl,_,rfl,_,_,rfl,rfl,65,_,_,rfl,rfl,(show (0:Int)<3 by decide),_,_,rfl,rfl,(show 4<=sizeLine by decide),λ p3 hp3=>?_⟩;have g3:=zAD (o:=.tup (natV [a,b,2,3])) hp3;have e3:=@zAC H1 p3 (.tup (natV [a,b,2,3]));rw[er]
   change zFZ _ (upd H1 p3 (.tup (natV [a,b,2,3]))) _
   generalize upd H1 p3 _=H4 at g3 e3 ⊢;refine⟨(show 7<=sizeLine by decide),λ L hL=>?_⟩;have g4:=zAD (o:=.lst [V.int 2,.int 3,.int 3,.int 3,.int 3,.int 4,.int 3]) hL;have eL:=@zAC H4 L (.lst [V.int 2,.int 3,.int 3,.int 3,.int 3,.int 4,.int 3]);refine⟨_,rfl,_,_,rfl,rfl,65,_,_,rfl,rfl,(show (0:Int)<7 by decide),L,_,_,_,rfl,rfl,SqL.of eL,al,_,rfl,p3,_,rfl,g4 _ _ e3,λ p4 H5 g5 e5=>?_⟩;rw[cutUp _ _ (by rw[zBx];simp;lia)] at e5;have e5':H5 p4=some (.tup (natV ([a,b,2,3].take (kd.many+1)))):=by rw[e5];simp[natV]
   dsimp only[gName];have g15:Same H1 H5:=g3.trans (g4.trans g5)
   have c2:∀z:Int,2<=(c % 10+10 * z) % 10:=λ z=>by
    have m0:c % 10≠0:=λ w=>n0 (by rw[w];exact lU rfl);have m1:c % 10≠1:=λ w=>n1 (by rw[w];exact lU rfl)
    lia
   refine⟨_,rfl,_,_,rfl,rfl,z10,_,rfl,_,_,rfl,rfl,65,_,_,rfl,rfl,⟨by decide,by decide,by decide⟩,_,_,rfl,rfl,z40,_,_,rfl,rfl,.inl 65,_,_,rfl,rfl,_,rfl,?_⟩;refine⟨_,p4,[a,b,2,3].take (kd.many+1),kd.many,rfl,e5',(by rw[mQ];simp;lia),hm1,hm3,c2 _,λ v H6 g6 hb=>?_⟩;dsimp only[gName];exact rest _ _ ⟨some (.str kd.s),_,v,rfl,g15.trans g6,⟨.str _,by simp[Dt.deep]⟩,.inr (.inr ⟨kd,hkl,rfl,hb⟩)⟩
 rintro σ' H2 ⟨kk,kv,rv,rfl,k2,hky,hbad⟩;have k02:=k1.trans k2;have hd2:=k02 _ _ hd;have hrow:=zHP hsc.ps;refine λ fa hfa=>?_;have e3:=@zAC H2 fa (.dK []);have hdf:d≠fa:=λ z=>by rw[z,hfa] at hd2;cases hd2
 have S3:Sf H2 (upd H2 fa (.dK [])):=(zAD hfa).sf;have P3:PlM H2 (upd H2 fa (.dK [])):=(zAD hfa).plm;have hd3:(upd H2 fa (.dK [])) d=some 84:=by rw[zAO hdf];exact hd2
 dsimp only[gName];generalize upd H2 fa _=H3 at e3 S3 P3 hd3 ⊢;apply viaS (λ σ' H'=>∃(L0:XO),A6 (σ'=[some (.ref d),some (.int c),some (.ref sg),some kv,some rv,some (.ref fa),none]) (L0=[]\/L0=[(kk,kv,rv)]) (DicX w H' fa L0) (Sf H2 H') (PlM H2 H') (H' d=some 84))
 ·intro rest
  refine⟨_,rfl,_,_,rfl,rfl,65,_,_,rfl,rfl,(show (0:Int)<2 by decide),rfl,_,rfl,ite2 (λ e=>?_) (λ n1=>?_)⟩
  ·refine⟨_,rfl,_,rfl,_,rfl,fa,kk,[],rfl,.inr ⟨e3,rfl⟩,46,hky.mono S3.tk,λ nn tk ky=>?_⟩
   have ex:putX [] kk kv rv=[(kk,kv,rv)]:=zEY 41;rw[ex] at ky ⊢;exact rest _ _ ⟨[(kk,kv,rv)],rfl,.inr rfl,.inl ⟨zAC,ky⟩,zHM hfa S3,zFf hfa P3,by rw[zAO hdf];exact hd3⟩
  ·exact rest _ _ ⟨[],rfl,.inl rfl,.inr ⟨e3,rfl⟩,S3,P3,hd3⟩
 rintro σ' H4 ⟨L0,rfl,hL0,hdx,S4,P4,hd4⟩;refine⟨_,rfl,d,kvs,rfl,.inr ⟨hd4,λ o=>?_⟩⟩;have S5:Sf H2 (upd H4 d (.frz o 84)):=S4.trans (Sf.frz o hd4);have P5:PlM H2 (upd H4 d (.frz o 84)):=λ b u z e=>zKY o hd4 hne b u z (P4 b u z e);have hd5:=@zAC H4 d (.frz o 84)
 have hdx5:DicX w (upd H4 d (.frz o 84)) fa L0:=by
  have tk:=(Sf.frz o hd4).tk;unfold DicX at hdx ⊢;rw[zAO (Ne.symm hdf)];exact hdx.imp (λ z=>⟨z.1,z.2.mono tk⟩) id
 generalize upd H4 d _=H5 at S5 P5 hd5 hdx5 ⊢;refine zEq (o:=o) (a:=d) (kvs:=kvs) (λ i σ' H'=>∃s6,A5 (σ'=[some (.ref d),some (.int c),some (.ref sg),some kv,some rv,some (.ref fa),s6]) (DicX w H' fa (L0++((kvs.take i).map ofK).filter λ x=>decide (x.1≠kk))) (Sf H2 H') (PlM H2 H') (H' d=some (.frz o 84))) ⟨none,rfl,by simpa using hdx5,S5,P5,hd5⟩ ?_ ?_ ?_
 ·rintro i σ' H' _ ⟨s6,rfl,hx,hS,hP,h⟩
  exact h
 ·rintro i p σ' H' hp ⟨s6,rfl,hx,hS,hP,hd'⟩
  obtain⟨⟨kd',r'⟩,gr,e1,b,e2,hb⟩:=hrow p (lK hp);have gv:DGet H' d (kV p.1) (some p.2):=.inl ⟨kvs,p.1,.inr ⟨o,hd'⟩,rfl,(zF3 hsc.nd hp).symm⟩
  have tk1:(kvs.take (i+1)).map ofK=(kvs.take i).map ofK++[ofK p]:=by
   rw[List.take_add_one,hp,mU];rfl
  have fresh:=zKm hsc.nd hp;rw[tk1,List.filter_append];obtain⟨p1,p2⟩:=p;dsimp only at e1 e2 gr gv;subst e1 e2;dsimp only[gName];refine⟨_,rfl,_,rfl,kd'.s,kk,rfl,hky.mono hS.tk,_,rfl,ite2 (λ e=>?_) (λ n=>?_)⟩
  ·have ne:(ofK (Sum.inr kd'.s,V.ref b)).1≠kk:=λ z=>by
    rw[←z] at e;simp[ofK] at e
   have ef:List.filter (λ x:OD × V × V=>decide (x.1≠kk)) [ofK (Sum.inr kd'.s,V.ref b)]=[ofK (Sum.inr kd'.s,V.ref b)]:=List.filter_cons_of_pos (p:=λ x:OD × V × V=>decide (x.1≠kk)) (lU ne);rw[ef];refine⟨_,rfl,_,rfl,d,_,rfl,gv,_,rfl,_,rfl,fa,some (.str kd'.s),_,rfl,hx,lenX hL0 hsc.le,⟨.str _,by simp[Dt.deep]⟩,λ nn tk ky=>?_⟩
   have ex:putX (L0++((kvs.take i).map ofK).filter λ x=>decide (x.1≠kk)) (some (.str kd'.s)) (kV (Sum.inr kd'.s)) (V.ref b)=L0++((((kvs.take i).map ofK).filter λ x=>decide (x.1≠kk))++[ofK (Sum.inr kd'.s,V.ref b)]):=by
    rw[zEY,nE]
    ·rfl
    ·rw[mU]
     refine λ m=>(lJ.mp m).elim (λ m=>?_) λ m=>fresh ?_
     ·rcases hL0 with rfl|rfl
      ·exact nomatch m
      ·exact ne (mX.mp m)
     ·obtain⟨x,hx,e⟩:=mC.mp m
      exact mC.mpr ⟨x,(List.mem_filter.mp hx).1,e⟩
   rw[ex] at ky ⊢;exact⟨_,rfl,.inl ⟨zAC,ky⟩,zHM hfa hS,zFf hfa hP,by rw[zAO hdf];exact hd'⟩
  ·have eq:(ofK (Sum.inr kd'.s,V.ref b)).1=kk:=by
    have:kk=some (.str kd'.s):=by simpa using n
    rw[this];rfl
   have ef:List.filter (λ x:OD × V × V=>decide (x.1≠kk)) [ofK (Sum.inr kd'.s,V.ref b)]=[]:=List.filter_cons_of_neg (p:=λ x:OD × V × V=>decide (x.1≠kk)) (by simp[eq]);rw[ef,nX];exact⟨_,rfl,hx,hS,hP,hd'⟩
 ·rintro σ' H' ⟨s6,rfl,hx,hS,hP,hd'⟩
  rw[mR] at hx
  have hR:∀y∈(kvs.map ofK).filter (λ x=>decide (x.1≠kk)),y.1≠kk/\∃p∈kvs,ofK p=y:=λ y hy=>by
   obtain⟨h1,h2⟩:=List.mem_filter.mp hy;exact⟨lT h2,mC.mp h1⟩
  have hl:((kvs.map ofK).filter (λ x=>decide (x.1≠kk))).length<=8:=mH (List.length_filter_le _ _) (by rw[lC];exact hsc.le);generalize (kvs.map ofK).filter (λ x=>decide (x.1≠kk))=R at hx hR hl;have sf:∀o,Sf H (upd H' fa o):=λ o=>k02.sf.trans (zHM hfa hS)
  have good:∀o,∀y∈R,GoodX (upd H' fa o) y:=λ o y hy=>by
   obtain⟨_,p,hp,rfl⟩:=hR y hy;obtain⟨⟨kd',r'⟩,gr,e1,b,e2,hb⟩:=hrow p hp;obtain⟨p1,p2⟩:=p;dsimp only at e1 e2 gr hb;subst e1 e2;exact⟨kd',r',b,gr,rfl,rfl,(sf o).tk _ _ hb⟩
  have bad:∀o,BadX K md (upd H' fa o) (kk,kv,rv):=λ o=>hbad.step (zFf hfa hP)
  have kR:kk∉R.map (·.1):=λ m=>by
   obtain⟨y,hy,e⟩:=mC.mp m;exact(hR y hy).1 e
  refine⟨_,rfl,_,rfl,_,rfl,fa,kk,_,rfl,hx,(by rcases hL0 with rfl|rfl<;>simp<;>lia),hky.mono hS.tk,λ nn tk ky=>?_⟩;rcases hL0 with rfl|rfl
  ·have ex:putX ([]++R) kk kv rv=R++[(kk,kv,rv)]:=zEY kR
   rw[ex] at ky ⊢;exact⟨_,rfl,q _ _ (sf _) (.inr ⟨fa,_,R.length,(kk,kv,rv),rfl,⟨.inl zAC,ky⟩,(by rw[mK];simp;lia),41,bad _,λ y hy=>good _ y (by simpa using hy)⟩)⟩
  ·have ex:putX ([(kk,kv,rv)]++R) kk kv rv=(kk,kv,rv)::R:=zHT lP λ z hz e=>(lN.mp hz).elim id λ h=>absurd e (hR z h).1
   rw[ex] at ky ⊢;exact⟨_,rfl,q _ _ (sf _) (.inr ⟨fa,_,0,(kk,kv,rv),rfl,⟨.inl zAC,ky⟩,(by rw[mP];lia),rfl,bad _,λ y hy=>nomatch hy⟩)⟩
def sp_tS (K:W.Frag) (w:World) (md cS ff:Addr):Sp:=zES (spWoA (zDZ K w md cS)) (spFaA (zDZ K w md cS)) (spTwo (spCfA (zDZ K w md cS)) spNo 2) (spTwo (spCfA (zDZ K w md cS)) spNo 1) cS ff "scale"
def sp_tN (cN ff:Addr):Sp:=λ vs H Q E=>∃n:Int,zER (spTwo (zDE cN) spNo 2) (spTwo (zDE cN) spNo 1) cN ff n vs H Q E
def sp_tT (cT ff:Addr):Sp:=zES spNo spNo (spTwo zDF (zD9 cT) 2) (spTwo zDF (zD9 cT) 1) cT ff "great"
theorem RlsA.first {H:Hp}{l:Addr}{qs:List Rl3}(h:RlsA H l qs) (n:qs≠[]):∃(q:Rl3) (rs:List V) (r:Addr) (u:V) (us:List V),H l=some (.lst (.ref r::rs))/\qs[0]?=some q/\RlA H q (.ref r)/\H r=some (.tup (u::us)):=by
 obtain⟨rs,e,p,_⟩:=h;cases p with
 |nil=>exact absurd rfl n
 | @cons q x qs xs hq ps =>
  obtain⟨r,rfl,hr,z⟩:=id hq;obtain⟨u1,u2,ka,o,ys,h1,_⟩:=hr;exact⟨q,xs,r,u1,_,e,rfl,hq,h1⟩
theorem zK6 {md cS ff:Addr}{H:Hp}{Q:VK}{E:XK}{way:Int}{l:Addr}{qs:List Rl3}{v sv:V}(hl:RlsA H l qs) (hn:qs≠[]) (hw:way=0\/way=1\/way=2\/way=3) (hs:Spo K w md H sv)
  (q:∀p H3,Sf H H3->Spo K w md H3 sv->H3 p=some (.tup [.str "scale", .int 0,.bl true,.bl false])->Q (.ref p) H3):sp_tS K w md cS ff [.int way,.ref l,v,sv] H Q E:=by
 obtain⟨q0,rs,r,u,us,hl0,_,_,hr⟩:=hl.first hn;refine⟨way,l,.ref r,rs,v,sv,rfl,hl0,hw,λ H1 k1=>?_⟩;have key:zDZ K w md cS [sv] H1 (λ Ω Ω=>False) (λ c Ω H2=>c = .ref cS/\∀p H3,Same H2 H3->H3 p=some (.tup [.str "scale", .int 0,.bl true,.bl false])->Q (.ref p) H3):=⟨sv,rfl,hs.step k1.fz,λ H2 g=>⟨rfl,λ p H3 k3 e=>q p H3 ((k1.sf.trans g.sf).trans k3.sf) (((hs.step k1.fz).step g).step k3.fz) e⟩⟩;exact⟨λ Ω=>⟨v,sv,rfl,key⟩,λ Ω=>⟨r,us,u,sv,rfl,k1 _ _ hr,key⟩,λ Ω=>⟨_,v,sv,[_,_],rfl,rfl,_,_,rfl,zCO _ _ _ _ _ _ (λ Ω Ω z=>z.elim) (λ Ω Ω Ω z=>z) key⟩,λ Ω=>⟨_,v,sv,[_],rfl,rfl,_,_,rfl,zCO _ _ _ _ _ _ (λ Ω Ω z=>z.elim) (λ Ω Ω Ω z=>z) key⟩⟩
theorem zK7 {cN ff:Addr}{H:Hp}{Q:VK}{E:XK}{way:Int}{l d:Addr}{qs:List Rl3}{sc:Scl}{v:V}{n:Nat}{q0:Rl3}(hl:RlsA H l qs) (hw:way=2\/way=3) (hs:ScAt H d sc) (hq:qs[n]?=some q0) (hb:¬fallQ sc q0) (hf:∀p∈qs.take n,fallQ sc p)
  (q:∀p H3,Sf H H3->H3 p=some (.tup [.str "fall", .int (n:Int),.bl true,.bl false])->Q (.ref p) H3):sp_tN cN ff [.int way,.ref l,v,.ref d] H Q E:=by
 refine⟨(n:Int),way,l,v,.ref d,rfl,hw,λ H1 k1=>?_⟩
 have key:∀Q0:VK,zDE cN [.ref l,.ref d] H1 Q0 (λ c dd H2=>c = .ref cN/\∃dx,dd=some dx/\H2 dx=some (.xd [("number", .int (n:Int))])/\∀p H3,Same H2 H3->H3 p=some (.tup [.str "fall", .int (n:Int),.bl true,.bl false])->Q (.ref p) H3):=λ Q0 =>
  ⟨l,d,qs,sc,n,q0,rfl,hl.mono k1.sf,hs.mono k1.sf,hq,hb,hf,λ dx H2 g e=>⟨rfl,dx,rfl,e,λ p H3 k3 e3=>q p H3 ((k1.sf.trans g).trans k3.sf) e3⟩⟩
 exact⟨λ Ω=>⟨_,v,_,[_,_],rfl,rfl,key _⟩,λ Ω=>⟨_,v,_,[_],rfl,rfl,key _⟩⟩
theorem zK5 {cT ff:Addr}{H:Hp}{Q:VK}{E:XK}{way:Int}{l d:Addr}{qs:List Rl3}{sc:Scl}{v:V}{t:Tr}(hl:RlsA H l qs) (hn:qs≠[]) (hw:way=2\/way=3) (hs:ScAt H d sc) (hf:∀p∈qs,fallQ sc p) (ht:Rep H t v) (hz:t.size<=300) (hg:200<wrt (rowF sc) t)
  (q:∀p H3,Sf H H3->H3 p=some (.tup [.str "great", .int 0,.bl true,.bl false])->Q (.ref p) H3):sp_tT cT ff [.int way,.ref l,v,.ref d] H Q E:=by
 obtain⟨q0,rs,r,u,us,hl0,_,_,hr⟩:=hl.first hn;refine⟨way,l,.ref r,rs,v,.ref d,rfl,hl0,hw.elim (λ e=>.inr (.inr (.inl e))) (λ e=>.inr (.inr (.inr e))),λ H1 k1=>?_⟩
 have key:zDF [.ref l,.ref d] H1 (λ Ω H1=>zD9 cT [v,.ref d] H1 (λ Ω Ω=>False) (λ c Ω H2=>c = .ref cT/\∀p H3,Same H2 H3->H3 p=some (.tup [.str "great", .int 0,.bl true,.bl false])->Q (.ref p) H3)) (λ c Ω H2=>c = .ref cT/\∀p H3,Same H2 H3->H3 p=some (.tup [.str "great", .int 0,.bl true,.bl false])->Q (.ref p) H3) :=
  ⟨l,d,qs,sc,rfl,hl.mono k1.sf,hs.mono k1.sf,hf,λ H2 g=>⟨t,v,d,sc,rfl,(ht.mono k1.tk).mono g.tk,(hs.mono k1.sf).mono g,hz,hg,λ H3 g3=>⟨rfl,λ p H4 k4 e=>q p H4 (((k1.sf.trans g).trans g3).trans k4.sf) e⟩⟩⟩
 exact⟨λ e=>by rcases hw with h|h<;>rw[e] at h<;>exact absurd h 46,λ e=>by rcases hw with h|h<;>rw[e] at h<;>exact absurd h 46,λ Ω=>⟨_,v,_,[_,_],rfl,rfl,key⟩,λ Ω=>⟨_,v,_,[_],rfl,rfl,key⟩⟩
abbrev s_law:Stmt:=top 99
theorem zBl:zAX ["_law_script", "_law_scale_here", "_law_first_here", "_law_spoiled_here", "_law_good", "_law_worse", "_law_small", "_law_great", "_law_some", "_law_tree", "_law_way", "_law_found"] ["_law_script"] (zAJ s_law):=scI
def zGB (K:W.Frag):Sp:=λ vs H Q Ω=>E2 λ(a:Addr) (ns:List Int)=>A3 (vs=[.ref a]) (SqL K H a (ns.map V.int)) (∀H',Q (.bl true) H')
theorem zLi {k:Nat}{f g1 g2 g3 g4 g5 g6 g7 g8 g9 g10 ff md cS cN cT:Addr}{fd gd1 gd2 gd3 gd4 gd5 gd6 gd7 gd8 gd9 gd10:FuncData}{ds:List Value}(F:Fun K "law" "law" s_law f fd) (z_range:mg "range" = none) (z_isinstance:mg "isinstance" = none) (z_bool:mg "bool" = none) (m__law_first:mg "_law_first" = some (.ref ff))
  (zMo:FnB P w K mg base k "_law_scale" g1 gd1 ["_law_cells"] zF9) (zMp:FnB P w K mg base k "_law_cell_at" g2 gd2 ["_law_script", "_law_k"] (zEA K)) (zMq:FnB P w K mg base k "_law_spoiled" g3 gd3 ["_law_scale_here", "_law_cell"] (zJl K w md))
  (zMr:FnB P w K mg base k "_law_rules" g4 gd4 ["_law_cell"] zGA) (zMs:FnB P w K mg base k "_law_two_hundred" g5 gd5 ["_law_scale_here", "_law_cell"] zJq)
  (zMt:FnB P w K mg base k "_law_told" g6 gd6 ["_law_way", "_law_rules_here", "_law_tree", "_law_scale_here"] (sp_tS K w md cS ff)) (zMu:FnB P w K mg base k "_law_told" g6 gd6 ["_law_way", "_law_rules_here", "_law_tree", "_law_scale_here"] (sp_tN cN ff)) (zMv:FnB P w K mg base k "_law_told" g6 gd6 ["_law_way", "_law_rules_here", "_law_tree", "_law_scale_here"] (sp_tT cT ff))
  (zMl:FnB P w K mg base k "turned" g7 gd7 ["rules", "tree", "scale", "way", "kinds"] (zF7 false)) (hbd:Binds K gd7 ["rules", "tree", "scale", "way", "kinds"] ds) (hvd:Vals [.str "inner", .non] ds) (zMm:FnB P w K mg base k "turned_by" g8 gd8 ["rules", "tree", "scale", "choose"] (zF7 true))
  (zMS:FnB P w K mg base k "worth" g9 gd9 ["tree", "scale"] zCo) (zMX:FnB P w K mg base k "falls" g10 gd10 ["rule", "scale"] zDO):FnOk P w K mg base CX0 (k+1) f fd ["_law_script"] (zGB K):=by
 refine F.ok zBl 55 38
 ·obtain⟨a,ns,rfl,_⟩:=h
  rfl
 obtain⟨a,ns,rfl,hS,qf⟩:=h;have hu:=hu_of hr
 refine zGG ⟨_,(zAK (pSS (i:=1) zBl.nd (zBh zMo.ok hr 39 zMo.gl zMo.kp zMo.bd .nil pass0 (zAU ⟨zCX ["_law_k", "_law_script"] [none,some 0] rfl (zCv 39 z_range (zAA zAE zAB)) (λ Ω Ω Ω Ω Ω=>(zBz (i:=0) (show List.Nodup (["_law_k", "_law_script"]:List Str) by symm) rfl (Or.inl rfl))) (λ Ω Ω Ω Ω Ω=>zDe) (λ Ω Ω Ω Ω Ω=>(pe_cl zMp hr (zAA 90 (zAA (pv 0) zAB)))) rfl⟩ ⟨zAB⟩)))
  (zAK (zB1 ⟨zAT (zLc hu) zAQ 90 rfl⟩ (zAt (zIv ⟨zI6 90 zAQ ⟨rfl,rfl,rfl,rfl⟩⟩)) ⟨zAV⟩)
  (zAK (pSS (i:=2) zBl.nd 82)
  (zAK ⟨zFe hu 90 zAQ (zAc (zAA (pe_op zA8 zAE (pe_op zAa (pe_op zAr (pv 2) zAE) zAE)) (zAA (pe_op zA8 zAE (pe_op zAa (pe_op zAr (pv 2) zAE) zAE)) (zAA (pe_op zA8 zAE (pe_op zAa (pe_op zAr (pv 2) zAE) zAE)) zAB))):PE _ _ _) rfl⟩
  (zAK (pSS (i:=3) zBl.nd (zBh zMq.ok hr 39 zMq.gl zMq.kp zMq.bd .nil pass0 (pa_nS ⟨pv 1⟩ (pa_kS 82 ⟨zAB⟩))))
  (zAK ⟨zHX (pe_cl zMr hr (zAA (pe_cl zMp hr (zAA (pv 0) (zAA zAE zAB))) zAB)) (zCG rfl (zAb (pGn (i:=4) zBl.nd) (zAb (pGn (i:=5) zBl.nd) (zAb (pGn (i:=2) zBl.nd) zBS))))⟩
  (zAK (pSS (i:=6) zBl.nd (zBh zMs.ok hr 39 zMs.gl zMs.kp zMs.bd .nil pass0 (pa_nS ⟨pv 1⟩ (pa_kS 82 ⟨zAB⟩))))
  (zAK (pSS (i:=7) zBl.nd (zAh (pa_cS ⟨zAQ⟩ (pa_nS ⟨pv 6⟩ ⟨zAB⟩))))
  (zAK (pSS (i:=8) zBl.nd (zCw (r:=rIxL K) zBI (zBO (pa_nS ⟨pv 4⟩ (pa_nS ⟨pv 5⟩ ⟨zAB⟩))) (zAY zAa 82 ⟨zAE⟩) (λ Ω Ω=>rfl)))
  (zAK (pSS (i:=9) zBl.nd (zCw (r:=rIxL K) zBI (zBO (pa_nS ⟨pv 6⟩ (pa_nS ⟨pv 7⟩ ⟨zAB⟩))) (zAY zAa 82 ⟨zAE⟩) (λ Ω Ω=>rfl)))
  (zAK ⟨zBQ PassesOwn.never rfl (zCv 39 z_range (zAA zAE zAB)) (pGn (i:=10) zBl.nd) (zAH (ps_if (zAT (r:=rNeS K) (zCy hu) (pe_cl zMt hr (zAA (pv 10) (zAA (pv 8) (zAA (pv 9) (zAA (pv 3) zAB))))) (zAc (zAA zAQ (zAA zAE (zAA pe_bl (zAA pe_bl zAB)))):PE _ _ _) (zAe _)) (zAH (zAs pe_bl)) zAV))⟩
  (zAK ⟨zBQ PassesOwn.never rfl (zGM (zAc (zAA zAE (zAA zAE zAB)):PE _ _ _)) (pGn (i:=10) zBl.nd) (zAF (zBQ PassesOwn.never rfl (zGM (zAc (zAA (pv 6) (zAA (pv 7) zAB)):PE _ _ _)) (pGn (i:=9) zBl.nd) (zAF (pS (i:=11) zBl.nd (pe_cl zMu hr (zAA (pv 10) (zAA (pv 5) (zAA (pv 9) (zAA 90 zAB))))))
  (zAH (ps_if (pw_or (zAT (r:=rNeS K) (zCy hu) (pv 11) (zAc (zAA zAQ (zAA (pv 2) (zAA pe_bl (zAA pe_bl zAB)))):PE _ _ _) (zAe _)) (zHS (zCN (cI z_isinstance z_bool PyProof.Rows.boot_bool (iC (r:=rIxT K) zA4 (pv 11)))))).pt (zAH (zAs pe_bl)) zAV))))
  (zAH (ps_if (zAT (r:=rNeS K) (zCy hu) (pe_cl zMv hr (zAA (pv 10) (zAA (pv 4) (zAA (pv 7) (zAA 90 zAB))))) (zAc (zAA zAQ (zAA zAE (zAA pe_bl (zAA pe_bl zAB)))):PE _ _ _) (zAe _)) (zAH (zAs pe_bl)) zAV)))⟩
  (zAK (zB1 ⟨zAT (r:=rNeS K) (zCy hu) (zBP zMl.ok hr 39 zMl.gl zMl.kp hbd hvd pass0 (zAA (pv 4) (zAA (pv 6) (zAA 90 zAB)))) (zAc (zAA (pv 6) (zAA (zBv zAB:PE _ _ _) zAB)):PE _ _ _) (zAe _)⟩ (zAt (zBK ⟨pe_bl⟩)) ⟨zAV⟩)
  (zAK (zB1 ⟨zAT (r:=rNeS K) (zCy hu) (pe_cl zMm hr (zAA (pv 4) (zAA (pv 6) (zAA 90 (zAA (zAN (v:=.ref _) 39 m__law_first 39) zAB))))) (zAc (zAA (pv 6) (zAA (zBv zAB:PE _ _ _) zAB)):PE _ _ _) (zAe _)⟩ (zAt (zBK ⟨pe_bl⟩)) ⟨zAV⟩)
  (zAt (zBK ⟨zA7 (zFi op_eq (pe_cl zMS hr (zAA (pv 6) (zAA 90 zAB))) zAE (zAe _)) (zAg (zFi zLb (pe_cl zMX hr (zAA (iC (r:=rIxL K) zBI (pv 4)) (zAA 90 zAB))) pe_bl (zAe _)))⟩)))))))))))))))),?_⟩
 have d2:2<=sizeLine:=by decide
 have d4:4<=sizeLine:=by decide
 have d3:3<=sizeLine:=by decide
 refine⟨7,rfl,by decide,by decide,λ acc hacc=>?_⟩;refine zFx (n:=(7:Int).toNat) (λ i H'=>Same H H'/\∃cs:List Int,H' acc=some (.lst (cs.map V.int))/\cs.length=i) ⟨zAD hacc,[],zAC,rfl⟩ ?_ ?_
 ·rintro i Hx hi ⟨gx,cs,ex,lx⟩
  have hi7:i<7:=by simpa using hi
  refine⟨.skip (.keep .nil),_,rfl,_,rfl,a,ns,_,rfl,gx.seq hS,by lia,_,ex,zAf (by rw[lC];lia),zAz gx hacc,cs++[ns.getD ((0:Int)+(i:Int)).toNat 0],?_,by simp[lx]⟩;rw[zAC,mU];rfl
 rintro H1 ⟨g1,cs,ea,lcs⟩;refine⟨acc,cs,rfl,ea,lcs,λ d rs kvs H2 g2 ed hsc hkl=>?_⟩;have hS2:=(g1.trans g2).seq hS;have rw2:RwsK H2 kvs:=⟨zHP hsc.ps,hsc.nd⟩;dsimp only[gName];apply viaS (λ σ' H'=>∃(kvs1:List 97),A6 (σ'=[some (.ref a),some (.ref d),none,none,none,none,none,none,none,none,none,none]) (H' d=some (.dK kvs1)) (RwsK H' kvs1) (valV kvs1 (Sum.inr Kd.say.s:Key)=none) (kvs1.length<=7) (SqL K H' a (ns.map V.int)))
 ·intro rest
  refine⟨_,rfl,d,_,rfl,DGet.k (k:=Sum.inr Kd.say.s) ed,_,rfl,ite2 (λ e=>?_) (λ e=>?_)⟩
  ·obtain⟨v,hv⟩:=Option.isSome_iff_exists.mp e
   refine⟨_,rfl,d,rfl,.inl ⟨kvs,.inl ed⟩,kvs,Sum.inr Kd.say.s,v,ed,rfl,hv,?_⟩;exact rest _ _ ⟨_,rfl,zAC,(rw2.drop _).1.mono (Tk.dk ed),(rw2.drop _).2,mH (zGX _ _) hkl,zJr ed (λ b n=>zAO n) hS2⟩
  ·exact rest _ _ ⟨kvs,rfl,ed,rw2,by simpa using e,hkl,hS2⟩
 rintro σ' H3 ⟨kvs1,rfl,ed3,rw3,hsay3,hl3,hS3⟩;refine⟨_,rfl,a,ns,1,rfl,hS3,by decide,?_⟩;dsimp only[gName];generalize ns.getD (1:Int).toNat 0=c1;obtain⟨r0,e0,h01,h09⟩:∃r:Nat,2+c1 / 3 % 8=(r:Int)/\1<=r/\r<=9:=⟨(2+c1 / 3 % 8).toNat,by lia,by lia,by lia⟩;obtain⟨r1,e1,h11,h13⟩:∃r:Nat,1+c1 / 27 % 3=(r:Int)/\1<=r/\r<=3:=⟨(1+c1 / 27 % 3).toNat,by lia,by lia,by lia⟩;obtain⟨r2,e2,h21,h23⟩:∃r:Nat,1+c1 / 81 % 3=(r:Int)/\1<=r/\r<=3:=⟨(1+c1 / 81 % 3).toNat,by lia,by lia,by lia⟩
 have gr:zBb .add [r0,r1,r2]:=⟨rfl,rfl,h01,h09,λ x hx=>by
  rcases lN.mp (show x∈[r1,r2] from hx) with rfl|hx
  ·exact⟨h11,h13⟩
  ·rw[mX.mp hx];exact⟨h21,h23⟩⟩
 have er : [V.int (2+c1 / 3 % 8),.int (1+c1 / 27 % 3),.int (1+c1 / 81 % 3)]=natV [r0,r1,r2]:=by rw[e0,e1,e2];rfl
 refine⟨_,rfl,_,_,rfl,rfl,65,_,_,rfl,rfl,(show (0:Int)<8 by decide),_,_,rfl,rfl,_,rfl,_,_,rfl,rfl,65,_,_,rfl,rfl,(show (0:Int)<3 by decide),_,_,rfl,rfl,_,rfl,_,_,rfl,rfl,65,_,_,rfl,rfl,(show (0:Int)<3 by decide),_,_,rfl,rfl,d3,λ p hp=>?_⟩;rw[er];have g4:=zAD (o:=.tup (natV [r0,r1,r2])) hp;have ep4:=@zAC H3 p (.tup (natV [r0,r1,r2]));have ed4:=g4 _ _ ed3;have rw4:=rw3.mono g4.tk;have hS4:=g4.seq hS3;generalize upd H3 p _=H4 at g4 ep4 ed4 rw4 hS4 ⊢;refine⟨_,rfl,d,_,rfl,DPut.k (k:=Sum.inr Kd.add.s) ed4 (zAf 31),?_⟩;have tk5:Tk H4 (upd H4 d (.dK (putK kvs1 (Sum.inr Kd.add.s:Key) (.ref p)))):=Tk.dk ed4;have ed5:=@zAC H4 d (.dK (putK kvs1 (Sum.inr Kd.add.s:Key) (.ref p)));have hS5:SqL K (upd H4 d (.dK (putK kvs1 (Sum.inr Kd.add.s:Key) (.ref p)))) a (ns.map V.int):=zJr ed4 (λ b n=>zAO n) hS4;have rw5:=(rw4.put gr ep4).mono tk5;have va:valV (putK kvs1 (Sum.inr Kd.add.s:Key) (.ref p)) (Sum.inr Kd.add.s:Key)=some (.ref p):=by rw[zDM,if_pos rfl]
 have vs:valV (putK kvs1 (Sum.inr Kd.add.s:Key) (.ref p)) (Sum.inr Kd.say.s:Key)=none:=by rw[zDM,if_neg 46];exact hsay3
 have l5:(putK kvs1 (Sum.inr Kd.add.s:Key) (.ref p)).length<=8:=mH (zBr _ _ _) 31;have ep5:=tk5 _ _ ep4;generalize upd H4 d _=H5 at tk5 ed5 hS5 rw5 ep5 ⊢;generalize putK kvs1 (Sum.inr Kd.add.s:Key) (.ref p)=kvs2 at ed5 rw5 va vs l5;obtain⟨sc,hsc5,hadd,hsay⟩:=rw5.sc (.inl ed5) l5 va ep5 vs;have ne5:kvs2≠[]:=λ z=>by rw[z] at va;cases va
 have hgood:GoodF (rowF sc):=zDd (zDq hsc5.ps);refine⟨_,rfl,_,rfl,a,ns,7,rfl,hS5,by decide,d,_,sc,kvs2,rfl,ed5,hsc5,ne5,λ sv H6 g6 hspo=>?_⟩;dsimp only[gName];refine⟨_,rfl,a,ns,8,rfl,g6.seq hS5,by decide,_,rfl,λ p7 lg lw n qg qw H7 g7 ep7 hlg hlw hg=>?_⟩;refine⟨p7,_,rfl,SqT.of ep7,rfl,_,_,rfl,_,_,rfl,_,_,rfl,rfl,?_⟩;dsimp only[gName];have g67:=g6.trans g7.sf;have hsc7:=hsc5.mono g67;refine⟨_,rfl,_,rfl,a,ns,9,rfl,g67.seq hS5,by decide,d,_,sc,r0,r1,r2,rfl,⟨kvs2,hsc7⟩,hadd,hsay,λ t v H8 g8 rt wt zt nt=>?_⟩;dsimp only[gName];refine⟨_,rfl,d2,λ gp hgp=>?_⟩;have g9:=zAD (o:=.tup [.str "say", v]) hgp;have egp:=@zAC H8 gp (.tup [.str "say", v]);dsimp only[gName];generalize upd H8 gp _=H9 at g9 egp ⊢;have g79:=g8.trans g9;have g59:=g67.trans g79.sf;have hspo9:=hspo.step (g7.trans g79).fz;have sc9:ScAt H9 d sc:=⟨kvs2,hsc7.mono g79.sf⟩;have lg9:=hlg.mono g79.sf;have lw9:=hlw.mono g79.sf;have rt9:=rt.mono g9.tk;have rg9:Rep H9 (.say t) (.ref gp):=⟨gp,v,rfl,egp,rt9⟩;have hS9:=g59.seq hS5;have wg:wrt (rowF sc) (.say t)=201:=by rw[zF2 (by unfold rowF;rw[hsay];rfl),wt]
 have zg:(Tr.say t).size<=300:=by show t.size+1<=300;lia
 have qgn:qg≠[]:=λ z=>by have:=hg.ln;rw[z] at this;exact absurd this 46
 obtain⟨qb,hqb,hqn⟩:=hg.bd;have qwn:qw≠[]:=λ z=>by rw[z] at hqb;cases hqb
 clear hspo hlg hlw rt g8 g9 g79 g67 g59;refine⟨_,rfl,_,rfl,d2,λ L1 hL1=>?_⟩;have g10:=zAD (o:=.lst [.ref lg,.ref lw]) hL1;have eL1:=@zAC H9 L1 (.lst [.ref lg,.ref lw]);generalize upd H9 L1 _=H10 at g10 eL1 ⊢
 obtain⟨lx,qx,ax,lx10,qxn⟩:∃(lx:Addr) (qx:List Rl3),atI [V.ref lg,.ref lw] (ns.getD (0:Int).toNat 0 % 2)=some (.ref lx)/\RlsA H10 lx qx/\qx≠[]:=by
  rcases (show ns.getD (0:Int).toNat 0 % 2=0\/ns.getD (0:Int).toNat 0 % 2=1 by lia) with e|e<;>rw[e]
  ·exact⟨lg,qg,rfl,lg9.mono g10.sf,qgn⟩
  ·exact⟨lw,qw,rfl,lw9.mono g10.sf,qwn⟩
 refine⟨_,rfl,a,ns,0,rfl,g10.seq hS9,by decide,_,_,rfl,rfl,(show (0:Int)<2 by decide),L1,_,_,_,rfl,rfl,SqL.of eL1,ax,?_⟩;dsimp only[gName];refine⟨_,rfl,_,rfl,d2,λ L2 hL2=>?_⟩;have g11:=zAD (o:=.lst [v,.ref gp]) hL2;have eL2:=@zAC H10 L2 (.lst [v,.ref gp]);generalize upd H10 L2 _=H11 at g11 eL2 ⊢
 obtain⟨tv,at_⟩:∃tv:V,atI [v,.ref gp] (ns.getD (2:Int).toNat 0 % 2)=some tv:=by
  rcases (show ns.getD (2:Int).toNat 0 % 2=0\/ns.getD (2:Int).toNat 0 % 2=1 by lia) with e|e<;>rw[e]
  ·exact⟨_,rfl⟩
  ·exact⟨_,rfl⟩
 refine⟨_,rfl,a,ns,2,rfl,(g10.trans g11).seq hS9,by decide,_,_,rfl,rfl,(show (0:Int)<2 by decide),L2,_,_,_,rfl,rfl,SqL.of eL2,at_,?_⟩;have hspo11:=hspo9.step (g10.trans g11).fz;have g911:=(g10.trans g11).sf;dsimp only[gName];have s4:∀(Hx:Hp) (x:Str) (b1:Int) (b2 b3:Bool),Paired (SmV Hx) [V.str x,.int b1,.bl b2,.bl b3] [V.str x,.int b1,.bl b2,.bl b3]:=λ Hx x b1 b2 b3=>.cons (.inl ⟨rfl,rfl,by simp[eqV]⟩) (.cons (.inl ⟨rfl,rfl,by simp[eqV]⟩) (.cons (.inl ⟨rfl,rfl,by simp[eqV]⟩) (.cons (.inl ⟨rfl,rfl,by simp[eqV]⟩) .nil)));refine⟨4,rfl,by decide,by decide,?_⟩;refine zCR (n:=(4:Int).toNat) (λ i σ' H'=>∃(s10:Option V),A3 (σ'=[some (.ref a),some (.ref d),some (.int (n:Int)),some sv,some (.ref lg),some (.ref lw),some v,some (.ref gp),some (.ref lx),some tv,s10,none]) (Sf H11 H') (Spo K w md H' sv)) ⟨none,rfl,Sf.refl _,hspo11⟩ ?_ ?_
 ·rintro i σ' H' hi ⟨s10,rfl,g,hs⟩
  have hi4:i<4:=by simpa using hi
  refine⟨_,rfl,_,rfl,_,rfl,_,rfl,?_⟩;refine zK6 (lx10.mono (g11.sf.trans g)) qxn 31 hs λ p H3 g3 hs3 ep=>?_;refine⟨d4,λ p4 hp4=>?_⟩;have k4:=zAD (o:=.tup [V.str "scale", .int 0,.bl true,.bl false]) hp4;exact⟨p,p4,_,_,rfl,rfl,SqT.of (k4 _ _ ep),SqT.of zAC,s4 _ _ _ _ _,_,rfl,iteF ⟨_,rfl,g.trans (g3.trans k4.sf),hs3.step k4.fz⟩⟩
 rintro σ' H12 ⟨s10,rfl,g12,_⟩;refine⟨d2,λ tp htp=>?_⟩;have k13:=zAD (o:=.tup [V.int 2,.int 3]) htp;have etp:=@zAC H12 tp (.tup [V.int 2,.int 3]);generalize upd H12 tp _=H13 at k13 etp ⊢;have g913:=(g911.trans g12).trans k13.sf;refine⟨tp,rfl,⟨_,SqT.of etp⟩,?_⟩;refine zIE (xs:=[V.int 2,.int 3]) (λ i σ' H'=>E3 λ(s9 s10 s11:Option V)=>σ'=[some (.ref a),some (.ref d),some (.int (n:Int)),some sv,some (.ref lg),some (.ref lw),some v,some (.ref gp),some (.ref lx),s9,s10,s11]/\Sf H13 H') ⟨_,_,_,rfl,Sf.refl _⟩ ?_ ?_ ?_
 ·rintro i σ' H' _ ⟨s9,s10,s11,rfl,g⟩
  exact SqT.of (g.tk _ _ etp)
 ·rintro i x σ' H14 hx ⟨s9,s10,s11,rfl,g14⟩
  obtain⟨wy,rfl,hwy⟩:∃wy:Int,x = .int wy/\(wy=2\/wy=3):=by
   rcases lN.mp (lK hx) with rfl|hx
   ·exact⟨2,rfl,.inl rfl⟩
   ·exact⟨3,mX.mp hx,.inr rfl⟩
  dsimp only[gName];refine⟨_,rfl,_,rfl,d2,λ tq htq=>?_⟩;have k15:=zAD (o:=.tup [v,.ref gp]) htq;have etq:=@zAC H14 tq (.tup [v,.ref gp]);generalize upd H14 tq _=H15 at k15 etq ⊢;have g915:=(g913.trans g14).trans k15.sf;refine⟨tq,rfl,⟨_,SqT.of etq⟩,?_⟩;refine zIE (xs:=[v,.ref gp]) (λ i σ' H'=>E2 λ(s9 s11:Option V)=>σ'=[some (.ref a),some (.ref d),some (.int (n:Int)),some sv,some (.ref lg),some (.ref lw),some v,some (.ref gp),some (.ref lx),s9,some (.int wy),s11]/\Sf H15 H') ⟨_,_,rfl,Sf.refl _⟩ ?_ ?_ ?_
  ·rintro i σ' H' _ ⟨s9,s11,rfl,g⟩
   exact SqT.of (g.tk _ _ etq)
  ·rintro i x σ' H16 _ ⟨s9,s11,rfl,g16⟩
   dsimp only[gName];have g916:=g915.trans g16;refine⟨_,rfl,_,rfl,_,rfl,_,rfl,?_⟩;refine zK7 (lw9.mono g916) hwy (sc9.mono g916) hqb (hqn sc hgood) (hg.bf sc hgood) λ p H3 g3 ep=>?_;dsimp only[gName];refine⟨_,rfl,_,rfl,d4,λ p4 hp4=>?_⟩;have k4:=zAD (o:=.tup [V.str "fall", .int (n:Int),.bl true,.bl false]) hp4;refine⟨p,p4,_,_,rfl,rfl,SqT.of (k4 _ _ ep),SqT.of zAC,s4 _ _ _ _ _,_,rfl,iteF ?_⟩;exact⟨_,rfl,p,_,1,_,rfl,rfl,SqT.of (k4 _ _ ep),rfl,_, "bool", _,false,rfl,.int _,rfl,_,rfl,iteF ⟨_,_,rfl,g16.trans (g3.trans k4.sf)⟩⟩
  ·rintro σ' H16 ⟨s9,s11,rfl,g16⟩
   have g916:=g915.trans g16;refine⟨_,rfl,_,rfl,_,rfl,_,rfl,?_⟩;refine zK5 (lg9.mono g916) qgn hwy (sc9.mono g916) (hg.fl sc hgood) (rg9.mono g916.tk) zg (by rw[wg];decide) λ p H3 g3 ep=>?_;refine⟨d4,λ p4 hp4=>?_⟩;have k4:=zAD (o:=.tup [V.str "great", .int 0,.bl true,.bl false]) hp4;exact⟨p,p4,_,_,rfl,rfl,SqT.of (k4 _ _ ep),SqT.of zAC,s4 _ _ _ _ _,_,rfl,iteF ⟨_,_,_,rfl,g14.trans (k15.sf.trans (g16.trans (g3.trans k4.sf)))⟩⟩
 rintro σ' H14 ⟨s9,s10,s11,rfl,g14⟩;have g914:=g913.trans g14;dsimp only;obtain⟨cv,hs0,us0,ecv,_⟩:=rt9.all;subst ecv;have trn:∀Hx,Sf H9 Hx->Trn Hx lg d (.ref cv) qg t sc:=λ Hx g=>⟨lg9.mono g,sc9.mono g,hg.fl sc hgood,rt9.mono g.tk,by lia,λ q hq=>⟨by rw[hg.ml q hq];decide,λ p hp=>by rw[hg.ml q hq];exact nt.kds (.inl rfl) p hp⟩⟩;have w2:wrt (rowF sc) t<=200:=by rw[wt];decide
 refine⟨_,rfl,_,rfl,_,rfl,lg,d,.ref cv,.non,qg,t,sc,rfl,trn _ g914,w2,λ p e H15 he g15 ep ee=>?_⟩;refine⟨_,rfl,(show 0<=sizeLine by decide),λ e2 he2=>?_⟩;have k16:=zAD (o:=.lst []) he2;have ee2:=@zAC H15 e2 (.lst []);generalize upd H15 e2 _=H16 at k16 ee2 ⊢;refine⟨d2,λ p2 hp2=>?_⟩;have k17:=zAD (o:=.tup [V.ref cv,.ref e2]) hp2;have ep2:=@zAC H16 p2 (.tup [V.ref cv,.ref e2]);generalize upd H16 p2 _=H17 at k17 ep2 ⊢;have g917:=(g914.trans g15).trans (k16.trans k17).sf;refine⟨p,p2,_,_,rfl,rfl,SqT.of ((k16.trans k17) _ _ ep),SqT.of ep2,.cons (.inr (.inl ⟨cv,rfl,rfl⟩)) (.cons (.inr (.inr ⟨e,e2,rfl,rfl,(k16.trans k17) _ _ ee,k17 _ _ ee2⟩)) .nil),_,rfl,iteF ?_⟩;refine⟨_,rfl,_,rfl,_,rfl,lg,d,.ref cv,.ref ff,qg,t,sc,rfl,trn _ g917,w2,λ p3 e3 H18 he3 g18 ep3 ee3=>?_⟩;refine⟨_,rfl,(show 0<=sizeLine by decide),λ e4 he4=>?_⟩;have k19:=zAD (o:=.lst []) he4;have ee4:=@zAC H18 e4 (.lst []);generalize upd H18 e4 _=H19 at k19 ee4 ⊢;refine⟨d2,λ p4 hp4=>?_⟩;have k20:=zAD (o:=.tup [V.ref cv,.ref e4]) hp4;have ep4:=@zAC H19 p4 (.tup [V.ref cv,.ref e4]);generalize upd H19 p4 _=H20 at k20 ep4 ⊢;have g920:=(g917.trans g18).trans (k19.trans k20).sf;refine⟨p3,p4,_,_,rfl,rfl,SqT.of ((k19.trans k20) _ _ ep3),SqT.of ep4,.cons (.inr (.inl ⟨cv,rfl,rfl⟩)) (.cons (.inr (.inr ⟨e3,e4,rfl,rfl,(k19.trans k20) _ _ ee3,k20 _ _ ee4⟩)) .nil),_,rfl,iteF ?_⟩;obtain⟨q0,rs0,r,u0,us,hl0,hq0,hql,_⟩:=(lg9.mono g920).first qgn;obtain⟨_,er0,hru,z1,z2,z3,z4⟩:=id hql;cases er0;refine⟨_,rfl,_,rfl,t,.ref cv,d,sc,rfl,rt9.mono g920.tk,sc9.mono g920,by lia,λ H21 g21=>?_⟩;refine⟨rfl,_,rfl,?_⟩;rw[if_pos (decide_eq_true (by rw[wt];rfl))];refine⟨_,rfl,lg,_,0,_,rfl,rfl,SqL.of (g21.lst hl0),zAu (j:=0) rfl,_,rfl,r,d,q0.1,q0.2.1,q0.2.2,sc,rfl,hru.mono g21,z1,z2,z3,z4,(sc9.mono g920).mono g21,λ b H22 g22 hb=>?_⟩;have e:b=true:=hb.mpr (hg.fl sc hgood q0 (lK hq0));subst e;exact⟨true,rfl,rfl,qf _⟩
theorem zDA {K:W.Frag}{f:Addr}{oc:Value}{od:Option Addr}{fd:FuncData}{sl:Array (Option Value)}(l:K.lookup f=some ⟨oc,od,.func fd,sl⟩):W.keepIn K (.ref f)=true:=by unfold W.keepIn;dsimp only;rw[l]
def DfA (K:W.Frag) (x:Str) (s:Stmt) (f:Addr):Prop:=∃fd,W.nsIn K mainGlobals x=some (some (.ref f))/\Fun K x x s f fd
theorem dfa {K:W.Frag}{x:Str}{st:Stmt}{f:Addr}{oc:Value}{od an:Option Addr}{osl:Array (Option Value)}{kV doc pm cdv ct:Value}(a:W.nsIn K mainGlobals x=some (some (.ref f))) (l:K.lookup f=some ⟨oc,od,.func (W.fnOf x x (zA6 st) (zAp st) (zAJ st) .none kV doc pm an cdv ct),osl⟩) (c:W.codeIn K cdv x=true):DfA K x st f:=⟨_,a,zIC l c (zDA l)⟩
theorem DfA.go {K:W.Frag}{x:Str}{s:Stmt}{f:Addr}{h:Heap}{mg:Str->Option Value}(d:DfA K x s f) (X:K.In h) (G:h.Ns mainGlobals mg):∃fd,Fun K x x s f fd/\mg x=some (.ref f):=d.elim λ fd h=>⟨fd,h.2,W.mg_of X G h.1⟩
theorem us1 {p:List Value->Prop}(h:∀a,p [a]):∀us:List Value,us.length=1->p us:=λ us q=>by
 obtain _|⟨a,us⟩:=us
 ·cases q
 obtain _|⟨z,us⟩:=us
 ·exact h a
 ·simp at q
theorem us2 {p:List Value->Prop}(h:∀a b,p [a,b]):∀us:List Value,us.length=2->p us:=λ us q=>by
 obtain _|⟨a,us⟩:=us
 ·cases q
 obtain _|⟨b,us⟩:=us
 ·cases q
 obtain _|⟨z,us⟩:=us
 ·exact h a b
 ·simp at q
theorem us3 {p:List Value->Prop}(h:∀a b c,p [a,b,c]):∀us:List Value,us.length=3->p us:=λ us q=>by
 obtain _|⟨a,us⟩:=us
 ·cases q
 obtain _|⟨b,us⟩:=us
 ·cases q
 obtain _|⟨c,us⟩:=us
 ·cases q
 obtain _|⟨z,us⟩:=us
 ·exact h a b c
 ·simp at q
theorem us4 {p:List Value->Prop}(h:∀a b c d,p [a,b,c,d]):∀us:List Value,us.length=4->p us:=λ us q=>by
 obtain _|⟨a,us⟩:=us
 ·cases q
 obtain _|⟨b,us⟩:=us
 ·cases q
 obtain _|⟨c,us⟩:=us
 ·cases q
 obtain _|⟨d,us⟩:=us
 ·cases q
 obtain _|⟨z,us⟩:=us
 ·exact h a b c d
 ·simp at q
theorem ud2:∀{us:List Value},us.length=2->∃a b,us=[a,b]
 |[a,b],_=>⟨a,b,rfl⟩
theorem ud3:∀{us:List Value},us.length=3->∃a b c,us=[a,b,c]
 |[a,b,c],_=>⟨a,b,c,rfl⟩
theorem ud5:∀{us:List Value},us.length=5->∃a b c d e,us=[a,b,c,d,e]
 |[a,b,c,d,e],_=>⟨a,b,c,d,e,rfl⟩
theorem all_mk {l:W.OpenLaw}{w:World}{K:W.Frag}{h:Heap}{mg:Str->Option Value}{fa f0 f1 f2 f3 f4 f5 f6 f7 f8 f9 f10 f11 f12 f13 f14 f15 f16 f17 f18 f19 f20 f21 f22 f23 f24 f25 f26 f27 lv_LEAF_SIGNS zMw zMi zMj zMk ff fi md oa:Addr}(X:K.In h) (G:h.Ns mainGlobals mg) (hfa:mg "law" = some (.ref fa))
  {od5 an5:Option Addr}{sl5:Array (Option Value)}{oc5 kV5 dc5 pm5 cd5 ct5:Value}
  {dt5:Addr}{odT5:Option Addr}{slT5:Array (Option Value)}{ocT5:Value}{nT5:Nat}
  {od13 an13:Option Addr}{sl13:Array (Option Value)}{oc13 kV13 dc13 pm13 cd13 ct13:Value}
  {dt13:Addr}{odT13:Option Addr}{slT13:Array (Option Value)}{ocT13:Value}{nT13:Nat}
  {od17 an17:Option Addr}{sl17:Array (Option Value)}{oc17 kV17 dc17 pm17 cd17 ct17:Value}
  {dt17:Addr}{odT17:Option Addr}{slT17:Array (Option Value)}{ocT17:Value}{nT17:Nat}
  {od26 an26:Option Addr}{sl26:Array (Option Value)}{oc26 kV26 dc26 pm26 cd26 ct26:Value}
  {od27 an27:Option Addr}{sl27:Array (Option Value)}{oc27 kV27 dc27 pm27 cd27 ct27:Value}
  {odC0:Option Addr}{slC0:Array (Option Value)}{nC0:Nat}{tC0_0 tC0_1 tC0_2 tC0_3 tC0_4:Tok}
  {tkI:Tok}{dd_RecastError dd_NoScale dd_NoFall dd_TooGreat:Option Addr}{cd_RecastError cd_NoScale cd_NoFall cd_TooGreat:ClassData}{sl_RecastError sl_NoScale sl_NoFall sl_TooGreat:Array (Option Value)}
  {xnm xq:Str}{xN:Addr}{xbs xsub:List Value}{xsn:List Str}{xab:Bool}{xcol:Option Bool}{xdd:Option Addr}{xk0 xk1 xk2 xk3 xk5:Option Value}
  {odO:Option Addr}{slO:Array (Option Value)}{nM nO:Nat}{v1 v2 v3 v4 w1 w2 w3 x1 x2 x3 x4 x5 x6 x7:Tok}{esM:Array DictEntry}
  (a0:DfA K "is_whole" zCU f0)
  (a1:DfA K "parts_begin" zB6 f1)
  (a2:DfA K "parts" zFc f2)
  (a3:DfA K "placed_parts" zBy f3)
  (a4:DfA K "alike_heads" zB9 f4)
  (a5:W.nsIn K mainGlobals "fit" = some (some (.ref f5)))
  (l5:K.lookup f5=some ⟨oc5,od5,.func (W.fnOf "fit" "fit" (zA6 s_fit) (zAp s_fit) (zAJ s_fit) (.ref dt5) kV5 dc5 pm5 an5 cd5 ct5),sl5⟩) (c5:W.codeIn K cd5 "fit" = true)
  (lT5:K.lookup dt5=some ⟨ocT5,odT5,.seq #[.none] nT5,slT5⟩)
  (a6:DfA K "is_between" zBt f6)
  (a7:DfA K "is_scale_row" zBW f7)
  (a8:DfA K "check_scale" zBf f8)
  (a9:DfA K "weighed_parts" zBm f9)
  (a10:DfA K "worth" zEW f10)
  (a11:DfA K "gap_weights" zB8 f11)
  (a12:DfA K "falls" zEX f12)
  (a13:W.nsIn K mainGlobals "steps" = some (some (.ref f13)))
  (l13:K.lookup f13=some ⟨oc13,od13,.func (W.fnOf "steps" "steps" (zA6 zBa) (zAp zBa) (zAJ zBa) (.ref dt13) kV13 dc13 pm13 an13 cd13 ct13),sl13⟩) (c13:W.codeIn K cd13 "steps" = true)
  (lT13:K.lookup dt13=some ⟨ocT13,odT13,.seq #[.none] nT13,slT13⟩)
  (a14:DfA K "check_falling" zBD f14)
  (a15:DfA K "check_worth" zBe f15)
  (a16:DfA K "all_turned" zCM f16)
  (a17:W.nsIn K mainGlobals "turned" = some (some (.ref f17)))
  (l17:K.lookup f17=some ⟨oc17,od17,.func (W.fnOf "turned" "turned" (zA6 zBA) (zAp zBA) (zAJ zBA) (.ref dt17) kV17 dc17 pm17 an17 cd17 ct17),sl17⟩) (c17:W.codeIn K cd17 "turned" = true)
  (lT17:K.lookup dt17=some ⟨ocT17,odT17,.seq #[(.str "inner" tkI),.none] nT17,slT17⟩)
  (a18:DfA K "turned_by" zBn f18)
  (a19:DfA K "_law_cell_at" zB7 f19)
  (a20:DfA K "_law_scale" zCe f20)
  (a21:DfA K "_law_bad" zDc f21)
  (a22:DfA K "_law_spoiled" zBd f22)
  (a23:DfA K "_law_rules" zCf f23)
  (a24:DfA K "_law_two_hundred" zBR f24)
  (a25:DfA K "_law_told" zCT f25)
  (a26:W.nsIn K mainGlobals "law" = some (some (.ref f26)))
  (l26:K.lookup f26=some ⟨oc26,od26,.func (W.fnOf "law" "law" (zA6 s_law) (zAp s_law) (zAJ s_law) .none kV26 dc26 pm26 an26 cd26 ct26),sl26⟩) (c26:W.codeIn K cd26 "law" = true)
  (a27:W.findIn K (.ref zMj) "__init__" = some (some (.ref f27))) (i27:W.isFn K (.ref f27)=true)
  (l27:K.lookup f27=some ⟨oc27,od27,.func (W.fnOf "__init__" "NoFall.__init__" (zA6 zAv) (zAp zAv) (zAJ zAv) .none kV27 dc27 pm27 an27 cd27 ct27),sl27⟩) (c27:W.codeIn K cd27 "NoFall.__init__" = true)
  (aC0:W.nsIn K mainGlobals "LEAF_SIGNS" = some (some (.ref lv_LEAF_SIGNS))) (lC0:K.lookup lv_LEAF_SIGNS=some ⟨.type "tuple", odC0,.seq #[.str "num" tC0_0,.str "name" tC0_1,.str "ask" tC0_2,.str "stop" tC0_3,.str "gap" tC0_4] nC0,slC0⟩)
  (aX0:W.nsIn K mainGlobals "RecastError" = some (some (.ref zMw)))
  (aX1:W.nsIn K mainGlobals "NoScale" = some (some (.ref zMi)))
  (aX2:W.nsIn K mainGlobals "NoFall" = some (some (.ref zMj)))
  (aX3:W.nsIn K mainGlobals "TooGreat" = some (some (.ref zMk)))
  (lk_RecastError:K.lookup zMw=some ⟨.type "type", dd_RecastError,.cls cd_RecastError,sl_RecastError⟩)
  (NoScale_ga:W.findIn K (.ref zMi) "__getattribute__" = some (some (.builtin "BaseException.__getattribute__")))
  (NoScale_gt:W.findIn K (.ref zMi) "__getattr__" = some none)
  (NoScale_bs:W.mroIn K zMi (.type "BaseException")=some true)
  (NoScale_cl:W.findIn K (.ref zMi) "__class__" = some (some (.builtin "object.__class__")))
  (NoScale_ob:W.mroIn K zMi (.type "object")=some true)
  (NoScale_ty:W.typeIn K (.ref zMi)=some (.type "type"))
  (lk_NoScale:K.lookup zMi=some ⟨.type "type", dd_NoScale,.cls cd_NoScale,sl_NoScale⟩)
  (NoFall_ga:W.findIn K (.ref zMj) "__getattribute__" = some (some (.builtin "BaseException.__getattribute__")))
  (NoFall_gt:W.findIn K (.ref zMj) "__getattr__" = some none)
  (NoFall_bs:W.mroIn K zMj (.type "BaseException")=some true)
  (NoFall_cl:W.findIn K (.ref zMj) "__class__" = some (some (.builtin "object.__class__")))
  (NoFall_ob:W.mroIn K zMj (.type "object")=some true)
  (NoFall_ty:W.typeIn K (.ref zMj)=some (.type "type"))
  (lk_NoFall:K.lookup zMj=some ⟨.type "type", dd_NoFall,.cls cd_NoFall,sl_NoFall⟩)
  (TooGreat_ga:W.findIn K (.ref zMk) "__getattribute__" = some (some (.builtin "BaseException.__getattribute__")))
  (TooGreat_gt:W.findIn K (.ref zMk) "__getattr__" = some none)
  (TooGreat_bs:W.mroIn K zMk (.type "BaseException")=some true)
  (TooGreat_cl:W.findIn K (.ref zMk) "__class__" = some (some (.builtin "object.__class__")))
  (TooGreat_ob:W.mroIn K zMk (.type "object")=some true)
  (TooGreat_ty:W.typeIn K (.ref zMk)=some (.type "type"))
  (lk_TooGreat:K.lookup zMk=some ⟨.type "type", dd_TooGreat,.cls cd_TooGreat,sl_TooGreat⟩)
  (sv_NoScale:W.subIn K (.ref zMi) (.type "ValueError")=some true)
  (ne_NoScaleRecastError:zMi≠zMw)
  (sb_NoScaleRecastError:W.subIn K (.ref zMi) (.ref zMw)=some true)
  (ne_NoScaleNoFall:zMi≠zMj)
  (sb_NoScaleNoFall:W.subIn K (.ref zMi) (.ref zMj)=some false)
  (ne_NoScaleTooGreat:zMi≠zMk)
  (sb_NoScaleTooGreat:W.subIn K (.ref zMi) (.ref zMk)=some false)
  (sv_NoFall:W.subIn K (.ref zMj) (.type "ValueError")=some true)
  (ne_NoFallRecastError:zMj≠zMw)
  (sb_NoFallRecastError:W.subIn K (.ref zMj) (.ref zMw)=some true)
  (ne_NoFallNoScale:zMj≠zMi)
  (sb_NoFallNoScale:W.subIn K (.ref zMj) (.ref zMi)=some false)
  (ne_NoFallTooGreat:zMj≠zMk)
  (sb_NoFallTooGreat:W.subIn K (.ref zMj) (.ref zMk)=some false)
  (sv_TooGreat:W.subIn K (.ref zMk) (.type "ValueError")=some true)
  (ne_TooGreatRecastError:zMk≠zMw)
  (sb_TooGreatRecastError:W.subIn K (.ref zMk) (.ref zMw)=some true)
  (ne_TooGreatNoScale:zMk≠zMi)
  (sb_TooGreatNoScale:W.subIn K (.ref zMk) (.ref zMi)=some false)
  (ne_TooGreatNoFall:zMk≠zMj)
  (sb_TooGreatNoFall:W.subIn K (.ref zMk) (.ref zMj)=some false)
  (mr_NoScaleNoScale:W.mroIn K zMi (.ref zMi)=some true)
  (mr_TooGreatNoScale:W.mroIn K zMk (.ref zMi)=some false)
  (mr_TooGreatNoFall:W.mroIn K zMk (.ref zMj)=some false)
  (mr_TooGreatTooGreat:W.mroIn K zMk (.ref zMk)=some true)
  (mr_NoFallNoScale:W.mroIn K zMj (.ref zMi)=some false)
  (mr_NoFallNoFall:W.mroIn K zMj (.ref zMj)=some true)
  (lkN:K.lookup zMj=some (excClassObj xnm xq zMj xN xbs (.ref zMw::W.mroVE) true xsn xsub xab xcol xdd xk0 xk1 xk2 xk3 xk5 "ValueError.__new__"))
  (mV:W.mroIn K zMj (.type "ValueError")=some true)
  (nNum:W.findIn K (.ref zMj) "number" = some none)
  (nSa:W.findIn K (.ref zMj) "__setattr__" = some (some (.builtin "object.__setattr__")))
  (kpN:W.keepIn K (.ref zMj)=true)
  (fnI:W.typeIn K (.ref f27)=some (.type "function"))
  (xR:W.excIn K zMw W.mroVE "ValueError.__new__" = true)
  (x_NoScale:W.excIn K zMi bmVE "ValueError.__new__" = true)
  (x_TooGreat:W.excIn K zMk bmVE "ValueError.__new__" = true)
  (spR:W.specialIn K (.ref zMw) "__getattribute__" = some (some (.builtin "type.__getattribute__")))
  (rdR:W.readsIn K zMw (.type "type")=true)
  (fcR:W.findCls K (.ref zMw) (.type "type") "__init__" = some (.val (.builtin "ValueError.__init__")))
  (aLf:W.nsIn K mainGlobals "_law_first" = some (some (.ref ff)))
  (aIn:W.nsIn K mainGlobals "innermost" = some (some (.ref fi)))
  (aMw:W.nsIn K mainGlobals "MOST_WORTH" = some (some (.int 200 w3)))
  (aM:W.nsIn K mainGlobals "MANY_PARTS" = some (some (.ref md)))
  (lM:K.lookup md=some ⟨.type "dict", none,.dict esM nM,#[]⟩)
  (kM:W.KeysLit w.params esM.toList)
  (sM:(md == sysModules)=false)
  (n0:W.nsIn K md "say" = some (some (.int 1 x1)))
  (n1:W.nsIn K md "add" = some (some (.int 2 x2)))
  (n2:W.nsIn K md "sub" = some (some (.int 2 x3)))
  (n3:W.nsIn K md "mul" = some (some (.int 2 x4)))
  (n4:W.nsIn K md "then" = some (some (.int 2 x5)))
  (n5:W.nsIn K md "if" = some (some (.int 3 x6)))
  (n6:W.nsIn K md "let" = some (some (.int 2 x7)))
  (q0:W.nsIn K md "num" = some none)
  (q1:W.nsIn K md "name" = some none)
  (q2:W.nsIn K md "ask" = some none)
  (q3:W.nsIn K md "stop" = some none)
  (q4:W.nsIn K md "gap" = some none)
  (q5:W.nsIn K md "Say" = some none)
  (q6:W.nsIn K md "" = some none)
  (q7:W.nsIn K md "lets" = some none)
  (aO:W.nsIn K mainGlobals "ONES" = some (some (.ref oa)))
  (lO:K.lookup oa=some ⟨.type "tuple", odO,.seq #[.int 1 v1,.int 1 v2,.int 1 v3,.int 1 v4] nO,slO⟩)
  (aW:W.nsIn K mainGlobals "MOST_OWN" = some (some (.int 9 w1)))
  (aT:W.nsIn K mainGlobals "MOST_TIMES" = some (some (.int 3 w2)))
  (z_len:W.nsIn K mainGlobals "len" = some none)
  (z_range:W.nsIn K mainGlobals "range" = some none)
  (z_zip:W.nsIn K mainGlobals "zip" = some none)
  (z_isinstance:W.nsIn K mainGlobals "isinstance" = some none)
  (z_int:W.nsIn K mainGlobals "int" = some none)
  (z_bool:W.nsIn K mainGlobals "bool" = some none)
  (z_tuple:W.nsIn K mainGlobals "tuple" = some none)
  (z_list:W.nsIn K mainGlobals "list" = some none)
  (z_all:W.nsIn K mainGlobals "all" = some none)
  (z_sum:W.nsIn K mainGlobals "sum" = some none)
  (z_sorted:W.nsIn K mainGlobals "sorted" = some none)
  (z_enumerate:W.nsIn K mainGlobals "enumerate" = some none)
  (z_dict:W.nsIn K mainGlobals "dict" = some none)
  (z_min:W.nsIn K mainGlobals "min" = some none)
  (z_ValueError:W.nsIn K mainGlobals "ValueError" = some none)
  : ∃fd:FuncData,(∀(s:Shared) (v:Value),BindsTo s fd ⟨[v],[]⟩ [("_law_script", v)])/\∀base:Heap,K.In base->base.Ns mainGlobals mg->FnOk l.prog w K mg base CX0 13 fa fd ["_law_script"] (zGB K):=by
 have e:=hfa.symm.trans (W.mg_of X G a26);cases e;have z_len:=W.mg_none_of X G z_len;have z_range:=W.mg_none_of X G z_range;have z_zip:=W.mg_none_of X G z_zip;have z_isinstance:=W.mg_none_of X G z_isinstance;have z_int:=W.mg_none_of X G z_int;have z_bool:=W.mg_none_of X G z_bool;have z_tuple:=W.mg_none_of X G z_tuple;have z_list:=W.mg_none_of X G z_list;have z_all:=W.mg_none_of X G z_all;have z_sum:=W.mg_none_of X G z_sum;have z_sorted:=W.mg_none_of X G z_sorted;have z_enumerate:=W.mg_none_of X G z_enumerate;have z_dict:=W.mg_none_of X G z_dict;have z_min:=W.mg_none_of X G z_min;have z_ValueError:=W.mg_none_of X G z_ValueError;have zMG:=W.mg_of X G aC0;have h_LEAF_SIGNS:zFX K lv_LEAF_SIGNS:=⟨_,_,_,lC0,rfl,rfl,(by show 5<=sizeLine;decide),(.cons 43 (.cons 43 (.cons 43 (.cons 43 (.cons 43 .nil)))))⟩;have zMe:=W.mg_of X G aX0;have zMh:=W.mg_of X G aX1;have zMf:=W.mg_of X G aX2;have zMd:=W.mg_of X G aX3;have XNoScale:ExC K zMi:=⟨⟨NoScale_ga,NoScale_gt,NoScale_bs,NoScale_cl,NoScale_ob,zGa lk_NoScale⟩,NoScale_ty⟩;have XNoFall:ExC K zMj:=⟨⟨NoFall_ga,NoFall_gt,NoFall_bs,NoFall_cl,NoFall_ob,zGa lk_NoFall⟩,NoFall_ty⟩;have XTooGreat:ExC K zMk:=⟨⟨TooGreat_ga,TooGreat_gt,TooGreat_bs,TooGreat_cl,TooGreat_ob,zGa lk_TooGreat⟩,TooGreat_ty⟩;have XS:XSup K zMw:=⟨spR,_,rdR,fcR⟩;have XC:W.Exc3 K zMj zMw f27:={ toExc2:=⟨⟨_,_,_,lkN,rfl,rfl⟩,nSa⟩,toExCls:=XNoFall.toExCls,obj:=⟨_,_,_,_,_,_,_,_,_,_,_,_,_,_,lkN⟩,tail:=zFY xR,init:=a27,fn:=fnI };have XSd:Hd K zMw zMi zMj zMk zMi "scale" := ⟨XNoScale.toExCls,zCD ne_NoScaleRecastError lk_RecastError sb_NoScaleRecastError,zH1 (by symm) sv_NoScale,zCD ne_NoScaleNoFall lk_NoFall sb_NoScaleNoFall,.inl ⟨rfl,mr_NoScaleNoScale,zCD ne_NoScaleTooGreat lk_TooGreat sb_NoScaleTooGreat⟩⟩;have XTd:Hd K zMw zMi zMj zMk zMk "great" := ⟨XTooGreat.toExCls,zCD ne_TooGreatRecastError lk_RecastError sb_TooGreatRecastError,zH1 (by symm) sv_TooGreat,zCD ne_TooGreatNoFall lk_NoFall sb_TooGreatNoFall,.inr ⟨rfl,mr_TooGreatNoScale,mr_TooGreatNoFall,mr_TooGreatTooGreat,zCD ne_TooGreatNoScale lk_NoScale sb_TooGreatNoScale⟩⟩;have XNd:HdN K zMw zMi zMj zMk:=⟨XNoFall.toExCls,⟨_,_,_,_,lkN,rfl⟩,nNum,zCD ne_NoFallRecastError lk_RecastError sb_NoFallRecastError,zH1 (by symm) sv_NoFall,zCD ne_NoFallNoScale lk_NoScale sb_NoFallNoScale,zCD ne_NoFallTooGreat lk_TooGreat sb_NoFallTooGreat,mr_NoFallNoScale,mr_NoFallNoFall⟩;have mLF:=W.mg_of X G aLf;have mIn:=W.mg_of X G aIn;have mMW:=W.mg_of X G aMw;have mM:=W.mg_of X G aM;have hM:KDic K w.params md:=⟨⟨esM,nM,lM,kM⟩,sM⟩
 have hY:ManyK K md:=λ k hk=>by
  cases k with
  |say=>exact⟨_,n0⟩
  |add=>exact⟨_,n1⟩
  |sub=>exact⟨_,n2⟩
  |mul=>exact⟨_,n3⟩
  |thn=>exact⟨_,n4⟩
  |ite=>exact⟨_,n5⟩
  |lett=>exact⟨_,n6⟩
  |_=>cases hk
 have hW:NoSg K md:=by
  unfold NoSg noSg;simp only[List.forall_mem_cons];exact⟨q0,q1,q2,q3,q4,q5,q6,q7,λ Ω h=>nomatch h⟩
 have vT:Vals [.str "inner", .non] [.str "inner" tkI,.none]:=.cons 43 (.cons rfl .nil);have mO:=W.mg_of X G aO;have hO:OnesK K oa:=⟨_,_,_,lO,rfl,rfl,(by show 4<=sizeLine;decide),.cons 43 (.cons 43 (.cons 43 (.cons 43 .nil)))⟩;have mW:=W.mg_of X G aW;have mT:=W.mg_of X G aT;obtain⟨_,F0,m0⟩:=a0.go X G;have b0:=F0.binds (ps:=["value"]) λ Ω Ω Ω Ω Ω Ω=>us1 λ Ω=>rfl;obtain⟨_,F1,m1⟩:=a1.go X G;have b1:=F1.binds (ps:=["tree"]) λ Ω Ω Ω Ω Ω Ω=>us1 λ Ω=>rfl;obtain⟨_,F2,m2⟩:=a2.go X G;have b2:=F2.binds (ps:=["tree"]) λ Ω Ω Ω Ω Ω Ω=>us1 λ Ω=>rfl;obtain⟨_,F3,m3⟩:=a3.go X G;have b3:=F3.binds (ps:=["tree"]) λ Ω Ω Ω Ω Ω Ω=>us1 λ Ω=>rfl;obtain⟨_,F4,m4⟩:=a4.go X G;have b4:=F4.binds (ps:=["one", "other", "pairs"]) λ Ω Ω Ω Ω Ω Ω=>us3 λ Ω Ω Ω=>rfl;have k5:=zDA l5;have F5:=zFr (st:=s_fit) (dvs:=[.none]) l5 c5 k5 lT5 rfl;have b50:Binds K (W.fnOf "fit" "fit" (zA6 s_fit) (zAp s_fit) (zAJ s_fit) (.ref dt5) kV5 dc5 pm5 an5 cd5 ct5) ["rule", "tree", "kinds"] []:=λ s us X hl=>by obtain⟨a,b,c,rfl⟩:=ud3 (us:=us) (by simpa using hl);first|exact .of_eq rfl|exact W.binds_K X rfl lT5 rfl rfl rfl
 have b51:Binds K (W.fnOf "fit" "fit" (zA6 s_fit) (zAp s_fit) (zAJ s_fit) (.ref dt5) kV5 dc5 pm5 an5 cd5 ct5) ["rule", "tree", "kinds"] [.none]:=λ s us X hl=>by obtain⟨a,b,rfl⟩:=ud2 (us:=us) (by simpa using hl);first|exact .of_eq rfl|exact W.binds_K X rfl lT5 rfl rfl rfl
 have m5:=W.mg_of X G a5;obtain⟨_,F6,m6⟩:=a6.go X G;have b6:=F6.binds (ps:=["value", "most"]) λ Ω Ω Ω Ω Ω Ω=>us2 λ Ω Ω=>rfl;obtain⟨_,F7,m7⟩:=a7.go X G;have b7:=F7.binds (ps:=["row", "many"]) λ Ω Ω Ω Ω Ω Ω=>us2 λ Ω Ω=>rfl;obtain⟨_,F8,m8⟩:=a8.go X G;have b8:=F8.binds (ps:=["scale"]) λ Ω Ω Ω Ω Ω Ω=>us1 λ Ω=>rfl;obtain⟨_,F9,m9⟩:=a9.go X G;have b9:=F9.binds (ps:=["tree", "scale"]) λ Ω Ω Ω Ω Ω Ω=>us2 λ Ω Ω=>rfl;obtain⟨_,F10,m10⟩:=a10.go X G;have b10:=F10.binds (ps:=["tree", "scale"]) λ Ω Ω Ω Ω Ω Ω=>us2 λ Ω Ω=>rfl;obtain⟨_,F11,m11⟩:=a11.go X G;have b11:=F11.binds (ps:=["shape", "scale"]) λ Ω Ω Ω Ω Ω Ω=>us2 λ Ω Ω=>rfl;obtain⟨_,F12,m12⟩:=a12.go X G;have b12:=F12.binds (ps:=["rule", "scale"]) λ Ω Ω Ω Ω Ω Ω=>us2 λ Ω Ω=>rfl;have k13:=zDA l13;have F13:=zFr (st:=zBa) (dvs:=[.none]) l13 c13 k13 lT13 rfl;have b130:Binds K (W.fnOf "steps" "steps" (zA6 zBa) (zAp zBa) (zAJ zBa) (.ref dt13) kV13 dc13 pm13 an13 cd13 ct13) ["rules", "tree", "kinds"] []:=λ s us X hl=>by obtain⟨a,b,c,rfl⟩:=ud3 (us:=us) (by simpa using hl);first|exact .of_eq rfl|exact W.binds_K X rfl lT13 rfl rfl rfl
 have b131:Binds K (W.fnOf "steps" "steps" (zA6 zBa) (zAp zBa) (zAJ zBa) (.ref dt13) kV13 dc13 pm13 an13 cd13 ct13) ["rules", "tree", "kinds"] [.none]:=λ s us X hl=>by obtain⟨a,b,rfl⟩:=ud2 (us:=us) (by simpa using hl);first|exact .of_eq rfl|exact W.binds_K X rfl lT13 rfl rfl rfl
 have m13:=W.mg_of X G a13;obtain⟨_,F14,m14⟩:=a14.go X G;have b14:=F14.binds (ps:=["rules", "scale"]) λ Ω Ω Ω Ω Ω Ω=>us2 λ Ω Ω=>rfl;obtain⟨_,F15,m15⟩:=a15.go X G;have b15:=F15.binds (ps:=["tree", "scale"]) λ Ω Ω Ω Ω Ω Ω=>us2 λ Ω Ω=>rfl;obtain⟨_,F16,m16⟩:=a16.go X G;have b16:=F16.binds (ps:=["rules", "tree", "kinds", "choose"]) λ Ω Ω Ω Ω Ω Ω=>us4 λ Ω Ω Ω Ω=>rfl;have k17:=zDA l17;have F17:=zFr (st:=zBA) (dvs:=[(.str "inner" tkI),.none]) l17 c17 k17 lT17 rfl;have b170:Binds K (W.fnOf "turned" "turned" (zA6 zBA) (zAp zBA) (zAJ zBA) (.ref dt17) kV17 dc17 pm17 an17 cd17 ct17) ["rules", "tree", "scale", "way", "kinds"] []:=λ s us X hl=>by obtain⟨a,b,c,d,e,rfl⟩:=ud5 (us:=us) (by simpa using hl);first|exact .of_eq rfl|exact W.binds_K X rfl lT17 rfl rfl rfl
 have b172:Binds K (W.fnOf "turned" "turned" (zA6 zBA) (zAp zBA) (zAJ zBA) (.ref dt17) kV17 dc17 pm17 an17 cd17 ct17) ["rules", "tree", "scale", "way", "kinds"] [(.str "inner" tkI),.none]:=λ s us X hl=>by obtain⟨a,b,c,rfl⟩:=ud3 (us:=us) (by simpa using hl);first|exact .of_eq rfl|exact W.binds_K X rfl lT17 rfl rfl rfl
 have m17:=W.mg_of X G a17;obtain⟨_,F18,m18⟩:=a18.go X G;have b18:=F18.binds (ps:=["rules", "tree", "scale", "choose"]) λ Ω Ω Ω Ω Ω Ω=>us4 λ Ω Ω Ω Ω=>rfl;obtain⟨_,F19,m19⟩:=a19.go X G;have b19:=F19.binds (ps:=["_law_script", "_law_k"]) λ Ω Ω Ω Ω Ω Ω=>us2 λ Ω Ω=>rfl;obtain⟨_,F20,m20⟩:=a20.go X G;have b20:=F20.binds (ps:=["_law_cells"]) λ Ω Ω Ω Ω Ω Ω=>us1 λ Ω=>rfl;obtain⟨_,F21,m21⟩:=a21.go X G;have b21:=F21.binds (ps:=["_law_cell", "_law_row"]) λ Ω Ω Ω Ω Ω Ω=>us2 λ Ω Ω=>rfl;obtain⟨_,F22,m22⟩:=a22.go X G;have b22:=F22.binds (ps:=["_law_scale_here", "_law_cell"]) λ Ω Ω Ω Ω Ω Ω=>us2 λ Ω Ω=>rfl;obtain⟨_,F23,m23⟩:=a23.go X G;have b23:=F23.binds (ps:=["_law_cell"]) λ Ω Ω Ω Ω Ω Ω=>us1 λ Ω=>rfl;obtain⟨_,F24,m24⟩:=a24.go X G;have b24:=F24.binds (ps:=["_law_scale_here", "_law_cell"]) λ Ω Ω Ω Ω Ω Ω=>us2 λ Ω Ω=>rfl;obtain⟨_,F25,m25⟩:=a25.go X G;have b25:=F25.binds (ps:=["_law_way", "_law_rules_here", "_law_tree", "_law_scale_here"]) λ Ω Ω Ω Ω Ω Ω=>us4 λ Ω Ω Ω Ω=>rfl;have k26:=zDA l26;have F26:=zIC (st:=s_law) l26 c26 k26;have b26:=F26.binds (ps:=["_law_script"]) λ Ω Ω Ω Ω Ω Ω=>us1 λ Ω=>rfl;have m26:=W.mg_of X G a26;have k27:=zDA l27;have F27:=zIC (st:=zAv) l27 c27 k27;have b27:=F27.binds (ps:=["self", "number"]) λ Ω Ω Ω Ω Ω Ω=>us2 λ Ω Ω=>rfl;refine⟨W.fnOf "law" "law" (zA6 s_law) (zAp s_law) (zAJ s_law) .none kV26 dc26 pm26 an26 cd26 ct26,λ s v=>.of_eq rfl,λ base Ω Ω=>?_⟩;have G1:FnB l.prog w K mg base 1 "parts_begin" f1 _ _ _:=⟨zD1 (k:=0) F1 z_len zMG h_LEAF_SIGNS,b1,F1.kp,m1⟩;have G2:FnB l.prog w K mg base 2 "parts" f2 _ _ _:=⟨zJD F2 (G1.up (k:=1) 46),b2,F2.kp,m2⟩;have G3:FnB l.prog w K mg base 3 "placed_parts" f3 _ _ _:=⟨zHn F3 z_enumerate z_sorted (G2.up (k:=2) 46),b3,F3.kp,m3⟩;have G0:FnB l.prog w K mg base 1 "is_whole" f0 _ _ _:=⟨zFj (k:=0) F0 z_isinstance z_int z_bool,b0,F0.kp,m0⟩;have G6:FnB l.prog w K mg base 2 "is_between" f6 _ _ _:=⟨zEg F6 (G0.up (k:=1) 46),b6,F6.kp,m6⟩;have G7:FnB l.prog w K mg base 3 "is_scale_row" f7 _ _ _:=⟨zDj F7 z_isinstance z_tuple z_len z_all mW mT (G6.up (k:=2) 46),b7,F7.kp,m7⟩;have G8:FnB l.prog w K mg base 4 "check_scale" f8 _ _ _:=⟨zD2 F8 z_isinstance z_dict mM hM hY (G7.up (k:=3) 46),b8,F8.kp,m8⟩;have G9:FnB l.prog w K mg base 3 "weighed_parts" f9 _ _ _:=⟨zGj F9 z_zip mO hO (G2.up (k:=2) 46),b9,F9.kp,m9⟩;have G10:FnB l.prog w K mg base 5 "worth" f10 _ _ _:=⟨zI8 F10 z_sum mO hO (G8.up (k:=4) 46) (G9.up (k:=4) 46),b10,F10.kp,m10⟩;have G11:FnB l.prog w K mg base 4 "gap_weights" f11 _ _ _:=⟨zKj F11 (G9.up (k:=3) 46),b11,F11.kp,m11⟩;have G12:FnB l.prog w K mg base 6 "falls" f12 _ _ _:=⟨zJF F12 z_dict z_all (G10.up (k:=5) 46) (G11.up (k:=5) 46),b12,F12.kp,m12⟩;have G4:FnB l.prog w K mg base 1 "alike_heads" f4 _ _ _:=⟨zJE (k:=0) F4,b4,F4.kp,m4⟩;have G5:FnB l.prog w K mg base 2 "fit" f5 _ _ _:=⟨zLk F5 z_dict (G4.up (k:=1) 46),b50,k5,m5⟩;have G13:FnB l.prog w K mg base 4 "steps" f13 _ _ _:=⟨zJA F13 z_enumerate (G3.up (k:=3) 46) (G5.up (k:=3) 46),b130,k13,m13⟩;have G16:FnB l.prog w K mg base 5 "all_turned" f16 _ _ _:=⟨zKk F16 (G13.up (k:=4) 46),b16,F16.kp,m16⟩;have G14:FnB l.prog w K mg base 7 "check_falling" f14 _ _ _:=⟨zLr F14 z_enumerate (G8.up (k:=6) 46) (G12.up (k:=6) 46),b14,F14.kp,m14⟩;have G15:FnB l.prog w K mg base 6 "check_worth" f15 _ _ _:=⟨zLn F15 mMW (G10.up (k:=5) 46),b15,F15.kp,m15⟩;have G17:FnB l.prog w K mg base 8 "turned" f17 _ _ _:=⟨zGk F17 mIn (G14.up (k:=7) 46) (G15.up (k:=7) 46) (G16.up (k:=7) 46),b170,k17,m17⟩;have G18:FnB l.prog w K mg base 8 "turned_by" f18 _ _ _:=⟨zFE F18 (G14.up (k:=7) 46) (G15.up (k:=7) 46) (G16.up (k:=7) 46),b18,F18.kp,m18⟩;have gF0:FnF l.prog w K mg base 7 "check_falling" f14 _ _ _:=⟨((G14.up (k:=7) 46)).ok.toF,b14,F14.kp,m14⟩;have gWT:FnF l.prog w K mg base 7 "check_worth" f15 _ _ _:=⟨zLm F15 mMW zMd x_TooGreat (G10.up (k:=6) 46),b15,F15.kp,m15⟩;have gTT:FnF l.prog w K mg base 8 "turned" f17 _ _ _:=⟨zJ0 zHr zHp F17 gF0 gWT,b170,k17,m17⟩;have gBT:FnF l.prog w K mg base 8 "turned_by" f18 _ _ _:=⟨zJ1 zHr zHp F18 gF0 gWT,b18,F18.kp,m18⟩;have gW0:FnF l.prog w K mg base 8 "worth" f10 _ _ _:=⟨(no_ok (k:=8)),b10,F10.kp,m10⟩;have gN0:FnF l.prog w K mg base 8 "falls" f12 _ _ _:=⟨(no_ok (k:=8)),b12,F12.kp,m12⟩;have gToldT:FnB l.prog w K mg base 9 "_law_told" f25 _ _ _:=⟨zGQ F25 z_isinstance z_ValueError zMe zMh zMf zMd XNoScale XNoFall XTooGreat mLF XTd me_no me_no (zEF zJ4 zJ2) (zEF zJ4 zJ2) gW0 gN0 gTT b172 vT gBT,b25,F25.kp,m25⟩;have sW:FnB l.prog w K mg base 1 "is_whole" f0 _ _ _:=⟨ok_wh (k:=0) F0 z_isinstance z_int z_bool,b0,F0.kp,m0⟩;have sB:FnB l.prog w K mg base 2 "is_between" f6 _ _ _:=⟨ok_bt F6 sW,b6,F6.kp,m6⟩;have sR:FnB l.prog w K mg base 3 "is_scale_row" f7 _ _ _:=⟨zLj F7 z_isinstance z_tuple z_len z_all mW mT sB,b7,F7.kp,m7⟩;have sC:FnF l.prog w K mg base 4 "check_scale" f8 _ _ _:=⟨zLo F8 z_isinstance z_dict zMh x_NoScale mM hM hY sR,b8,F8.kp,m8⟩;have sWo:FnF l.prog w K mg base 5 "worth" f10 _ _ _:=⟨zLd zCO F10 sC,b10,F10.kp,m10⟩;have sFa:FnF l.prog w K mg base 6 "falls" f12 _ _ _:=⟨zLl zCO F12 sWo,b12,F12.kp,m12⟩;have sCf:FnF l.prog w K mg base 5 "check_falling" f14 _ _ _:=⟨zLq zCO F14 sC,b14,F14.kp,m14⟩;have sCw:FnF l.prog w K mg base 5 "check_worth" f15 _ _ _:=⟨(no_ok (k:=5)),b15,F15.kp,m15⟩;have sTn:FnF l.prog w K mg base 6 "turned" f17 _ _ _:=⟨zJ0 (MonE.q (zGU zCO)) (MonE.q me_no) F17 sCf sCw,b170,k17,m17⟩;have sTb:FnF l.prog w K mg base 6 "turned_by" f18 _ _ _:=⟨zJ1 (MonE.q (zGU zCO)) (MonE.q me_no) F18 sCf sCw,b18,F18.kp,m18⟩;have gToldS:FnB l.prog w K mg base 7 "_law_told" f25 _ _ _:=⟨zGQ F25 z_isinstance z_ValueError zMe zMh zMf zMd XNoScale XNoFall XTooGreat mLF XSd (zLx zCO) (zLy zCO) (zEF (zGU zCO) me_no) (zEF (zGU zCO) me_no) (sWo.up (k:=6) 46) sFa sTn b172 vT sTb,b25,F25.kp,m25⟩;have G27:=zLh (P:=l.prog) (w:=w) (mg:=mg) (base:=base) (k:=7) F27 zMe XS XC mV nNum;have nCf:FnG l.prog w K mg base 10 "check_falling" f14 _ _ _:=⟨zLp (k:=9) F14 z_enumerate zMf XC kpN ⟨8,rfl,G27⟩ b27 (G8.up (k:=9) 46) (G12.up (k:=9) 46),b14,F14.kp,m14⟩;have nCw:FnG l.prog w K mg base 10 "check_worth" f15 _ _ _:=⟨(no_ok (k:=10)),b15,F15.kp,m15⟩;have nTn:FnG l.prog w K mg base 11 "turned" f17 _ _ _:=⟨zLe zHq (MonE.q me_no) F17 nCf nCw,b170,k17,m17⟩;have nTb:FnG l.prog w K mg base 11 "turned_by" f18 _ _ _:=⟨zLf zHq (MonE.q me_no) F18 nCf nCw,b18,F18.kp,m18⟩;have gToldN:FnB l.prog w K mg base 12 "_law_told" f25 _ _ _:=⟨FnOk.ex (sp:=λ n:Int=>zER (spTwo (zDE zMj) spNo 2) (spTwo (zDE zMj) spNo 1) zMj ff n) λ n=>zI9 (n:=n) F25 z_isinstance z_ValueError zMe zMh zMf zMd XNoScale XNoFall XTooGreat mLF XNd (zEF zJ3 me_no) (zEF zJ3 me_no) nTn b172 vT nTb,b25,F25.kp,m25⟩;have G19:FnB l.prog w K mg base 1 "_law_cell_at" f19 _ _ _:=⟨zGl (k:=0) F19 z_len,b19,F19.kp,m19⟩;have G20:FnB l.prog w K mg base 1 "_law_scale" f20 _ _ _:=⟨zJB (k:=0) F20 z_range z_zip,b20,F20.kp,m20⟩;have G21:FnB l.prog w K mg base 1 "_law_bad" f21 _ _ _:=⟨zLs (k:=0) F21 z_len z_list,b21,F21.kp,m21⟩;have G22:FnB l.prog w K mg base 2 "_law_spoiled" f22 _ _ _:=⟨zLg F22 hW (G21.up (k:=1) 46),b22,F22.kp,m22⟩;have G23:FnB l.prog w K mg base 1 "_law_rules" f23 _ _ _:=⟨zJC (k:=0) F23 z_range z_list z_min,b23,F23.kp,m23⟩;have G24:FnB l.prog w K mg base 1 "_law_two_hundred" f24 _ _ _:=⟨zLt (k:=0) F24,b24,F24.kp,m24⟩;exact zLi F26 z_range z_isinstance z_bool mLF (G20.up (k:=12) 46) (G19.up (k:=12) 46) (G22.up (k:=12) 46) (G23.up (k:=12) 46) (G24.up (k:=12) 46) (gToldS.up (k:=12) 46) gToldN (gToldT.up (k:=12) 46) (G17.up (k:=12) 46) b172 vT (G18.up (k:=12) 46) (G10.up (k:=12) 46) (G12.up (k:=12) 46)
theorem walk {l:W.OpenLaw}{q:Program}{loose:List Str}{XP:(Str->Option Value)->Heap->Prop}{YP:World->Heap->Prop}{d:DefRec}{K:Params->W.Frag}(hn:l.most=some 63) (hdf:d.params.defaults=[])
  (hY:∀(w:World) (h:Heap),YP w h->(K w.params).In h)
  (F:∀(w:World) (mg:Str->Option Value) (fa:Addr) (h:Heap),(K w.params).In h->h.Ns mainGlobals mg->mg d.name=some (.ref fa) ->
   ∃fd:FuncData,(∀(s:Shared) (u:Value),BindsTo s fd ⟨[u],[]⟩ [("_law_script", u)])/\∀base:Heap,(K w.params).In base->base.Ns mainGlobals mg->FnOk l.prog w (K w.params) mg base CX0 13 fa fd ["_law_script"] (zGB (K w.params))) :
  W.WalkO q loose XP YP l.row.toRowW d [] (λ f vs=>PySem.call f vs) :=
 L2.walk_of (n:=63) (k:=13) (x := "_law_script") (CX:=λ Ω=>CX0) (sp:=λ w=>zGB (K w.params)) hn 46 hdf ⟨rfl,by decide,by decide,rfl⟩ hY F (λ Ω Ω a ns hl Ω hS=>⟨a,ns,rfl,hS,λ Ω=>rfl⟩) λ Ω Ω Ω Ω Ω z=>z
end
end K26
namespace PySem.W.Fast
def tw15863464132004280577:Unit:=()
def tw12205187175083084968:Unit:=()
def tw4381845979796667818:Unit:=()
def tw2412828392708942547:Unit:=()
def tw8654971813927908997:Unit:=()
def tw3109109757964842285:Unit:=()
def tw10481147779579381077:Unit:=()
def tw10867046489964503133:Unit:=()
def tw12377240748730549839:Unit:=()
def tw13242227769638754122:Unit:=()
def tw2675521325875830275:Unit:=()
def tw4080014580735405238:Unit:=()
def tw18023557408755299682:Unit:=()
def tw13230559589543193251:Unit:=()
def tw6399579722507071295:Unit:=()
def tw16795243923092892445:Unit:=()
def tw17231935192954488980:Unit:=()
def tw11695572687408588255:Unit:=()
def tw15755139502190148485:Unit:=()
def tw9837551957275183213:Unit:=()
def tw17171326946684387830:Unit:=()
def tw2474765540536741983:Unit:=()
def tw3816334372950543101:Unit:=()
def tw15485465452000811240:Unit:=()
def tw7209528193545803735:Unit:=()
def tw1633235551057076406:Unit:=()
def tw8358197043510114254:Unit:=()
def tw14887886851896166596:Unit:=()
def tw14767727610542680302:Unit:=()
def tw10512608101208167364:Unit:=()
def tw9617230705484232876:Unit:=()
def tw1030672596491293948:Unit:=()
def tw14388680814648235020:Unit:=()
def tw3517832410921761312:Unit:=()
def tw17926000501446776523:Unit:=()
def tw15779048704940192363:Unit:=()
def tw12731269373917660488:Unit:=()
def tw14990710148821114320:Unit:=()
def tw1297403884493106168:Unit:=()
def tw7037938043983084959:Unit:=()
def tw15732176289229556635:Unit:=()
def tw7117108259582892150:Unit:=()
def tw2306325979747537521:Unit:=()
def tw12646173248097864725:Unit:=()
def tw9288339660384604755:Unit:=()
def tw1601729468451569874:Unit:=()
def tw9592369270818601767:Unit:=()
def tw8093038672274429511:Unit:=()
def tw13584114411999367657:Unit:=()
def tw2529653236572715:Unit:=()
def tw2276389715848869926:Unit:=()
def tw3063721932022241978:Unit:=()
def tw16924757804942348217:Unit:=()
def tw48856665178276958:Unit:=()
def tw7922699668821674229:Unit:=()
def tw15698453434690925346:Unit:=()
def tw10948613308561482087:Unit:=()
def tw14759899050828516592:Unit:=()
def tw11437968054305507907:Unit:=()
def tw1564856798080423323:Unit:=()
def tw11431126315362768235:Unit:=()
def tw13519752079261627794:Unit:=()
def tw11203306921666083510:Unit:=()
def tw18089416293467052298:Unit:=()
def tw14968894243548869685:Unit:=()
def tw16138135689503416052:Unit:=()
def tw3165051493288624938:Unit:=()
def tw11487772413877629744:Unit:=()
def tw11999799904546532520:Unit:=()
def tw10441088256730990291:Unit:=()
def tw16534855739436770083:Unit:=()
def tw25002517071875557:Unit:=()
def tw7345858813336027360:Unit:=()
def tw11073438683223912749:Unit:=()
def tw5606117599749893964:Unit:=()
def tw4022425032765537841:Unit:=()
def tw6553647636639757487:Unit:=()
def tw10645680067126038855:Unit:=()
def tw10718576239692714369:Unit:=()
def tw18330769230049340657:Unit:=()
def tw2763884742135396305:Unit:=()
def tw12056294837453717848:Unit:=()
def tw8883590258508501273:Unit:=()
def tw7129178190590068466:Unit:=()
def tw12803652476713531811:Unit:=()
def tw5560753036877156666:Unit:=()
def tw2079649937398106382:Unit:=()
def tw203646818860200669:Unit:=()
def tw14837254890578084057:Unit:=()
def tw4862205141064166385:Unit:=()
def tw13869332889168401260:Unit:=()
def tw1008360494142610005:Unit:=()
def tw2293163068963866321:Unit:=()
def tw10473267080334119582:Unit:=()
def tw64278352947910985:Unit:=()
def tw16923089757680287962:Unit:=()
def tw18198674304753000583:Unit:=()
def tw12683829373092922245:Unit:=()
def tw3253062627367025727:Unit:=()
def tw6616472115414086512:Unit:=()
def tw6612453334060987811:Unit:=()
def tw9904749681516719128:Unit:=()
def tw5746588839077052472:Unit:=()
def tw5569672753172902953:Unit:=()
def tw8240758440766805194:Unit:=()
def tw6374926032453627604:Unit:=()
def tw657174019232332898:Unit:=()
def tw6973964623581825781:Unit:=()
def tw17532248707097823503:Unit:=()
def tw8272701381529034099:Unit:=()
def tw15006765077633598626:Unit:=()
def tw14699076843474714650:Unit:=()
def tw15876266213383975240:Unit:=()
def tw10919924013496564442:Unit:=()
def tw11709775231000937839:Unit:=()
def tw17564715225810089390:Unit:=()
def tw18225574828814306700:Unit:=()
def tw8476559293982901525:Unit:=()
def tw8927009109235330689:Unit:=()
def tw16779692833491090566:Unit:=()
def tw11819491281592859003:Unit:=()
def tw2640296045276579106:Unit:=()
def tw12458884202982950549:Unit:=()
def tw12338990124072424269:Unit:=()
def tw3379763577508965310:Unit:=()
def tw10504442412293127490:Unit:=()
def tw12376066997073903691:Unit:=()
def tw10660485940265672181:Unit:=()
def tw13231035141963752533:Unit:=()
def tw15209079390841888048:Unit:=()
def tw17541326765995955519:Unit:=()
def tw10225238364905947558:Unit:=()
def tw3849116520431388107:Unit:=()
def tw15721178284026552840:Unit:=()
def tw18203541376174574740:Unit:=()
def tw2009981359110732071:Unit:=()
def tw149223436145322995:Unit:=()
def tw13767193224091564010:Unit:=()
def tw14742015095056019525:Unit:=()
def tw1439844181258532069:Unit:=()
def tw4276599650762723276:Unit:=()
def tw1097368702652580685:Unit:=()
def tw14820099982177002094:Unit:=()
def tw12987255133153818339:Unit:=()
def tw6464658737058067517:Unit:=()
def tw4002660617827754198:Unit:=()
def tw6250336660836995528:Unit:=()
end PySem.W.Fast
open PySem PySem.W PyProof.Rows K26
set_option maxRecDepth 100000 in
set_option maxHeartbeats 0 in
theorem PySem.Challenge.cw_recastle_k26_refused_to_turn_holds : PySem.Challenge.rw_recastle_k26_refused_to_turn.Holds := by
 w_on;o_law;k_head;(case hw=>w_witness2)
 k_fill
 refine K26.walk (l:=PySem.Challenge.rw_recastle_k26_refused_to_turn) rfl rfl (λ w h Y=>W.kIn_of Y) ?F
 case F =>
  intro w mg fa h KX G hmg
  refine' K26.all_mk KX G hmg (dfa ?_ ?_ ?_) (dfa ?_ ?_ ?_) (dfa ?_ ?_ ?_) (dfa ?_ ?_ ?_) (dfa ?_ ?_ ?_) ?a5 ?l5 ?c5 ?lT5 (dfa ?_ ?_ ?_) (dfa ?_ ?_ ?_) (dfa ?_ ?_ ?_) (dfa ?_ ?_ ?_) (dfa ?_ ?_ ?_) (dfa ?_ ?_ ?_) (dfa ?_ ?_ ?_) ?a13 ?l13 ?c13 ?lT13 (dfa ?_ ?_ ?_) (dfa ?_ ?_ ?_) (dfa ?_ ?_ ?_) ?a17 ?l17 ?c17 ?lT17 (dfa ?_ ?_ ?_) (dfa ?_ ?_ ?_) (dfa ?_ ?_ ?_) (dfa ?_ ?_ ?_) (dfa ?_ ?_ ?_) (dfa ?_ ?_ ?_) (dfa ?_ ?_ ?_) (dfa ?_ ?_ ?_) ?a26 ?l26 ?c26 ?a27 ?i27 ?l27 ?c27 ?aC0 ?lC0 ?aX0 ?aX1 ?aX2 ?aX3 ?lk_RecastError ?NoScale_ga ?NoScale_gt ?NoScale_bs ?NoScale_cl ?NoScale_ob ?NoScale_ty ?lk_NoScale ?NoFall_ga ?NoFall_gt ?NoFall_bs ?NoFall_cl ?NoFall_ob ?NoFall_ty ?lk_NoFall ?TooGreat_ga ?TooGreat_gt ?TooGreat_bs ?TooGreat_cl ?TooGreat_ob ?TooGreat_ty ?lk_TooGreat ?sv_NoScale ?ne_NoScaleRecastError ?sb_NoScaleRecastError ?ne_NoScaleNoFall ?sb_NoScaleNoFall ?ne_NoScaleTooGreat ?sb_NoScaleTooGreat ?sv_NoFall ?ne_NoFallRecastError ?sb_NoFallRecastError ?ne_NoFallNoScale ?sb_NoFallNoScale ?ne_NoFallTooGreat ?sb_NoFallTooGreat ?sv_TooGreat ?ne_TooGreatRecastError ?sb_TooGreatRecastError ?ne_TooGreatNoScale ?sb_TooGreatNoScale ?ne_TooGreatNoFall ?sb_TooGreatNoFall ?mr_NoScaleNoScale ?mr_TooGreatNoScale ?mr_TooGreatNoFall ?mr_TooGreatTooGreat ?mr_NoFallNoScale ?mr_NoFallNoFall ?lkN ?mV ?nNum ?nSa ?kpN ?fnI ?xR ?x_NoScale ?x_TooGreat ?spR ?rdR ?fcR ?aLf ?aIn ?aMw ?aM ?lM ?kM ?sM ?n0 ?n1 ?n2 ?n3 ?n4 ?n5 ?n6 ?q0 ?q1 ?q2 ?q3 ?q4 ?q5 ?q6 ?q7 ?aO ?lO ?aW ?aT ?z_len ?z_range ?z_zip ?z_isinstance ?z_int ?z_bool ?z_tuple ?z_list ?z_all ?z_sum ?z_sorted ?z_enumerate ?z_dict ?z_min ?z_ValueError
  (case aX0=>k_is);(case aX1=>k_is);(case aX2=>k_is);(case aX3=>k_is);(case ne_NoScaleRecastError=>decide);(case ne_NoScaleNoFall=>decide);(case ne_NoScaleTooGreat=>decide);(case ne_NoFallRecastError=>decide);(case ne_NoFallNoScale=>decide);(case ne_NoFallTooGreat=>decide);(case ne_TooGreatRecastError=>decide);(case ne_TooGreatNoScale=>decide);(case ne_TooGreatNoFall=>decide);(case xR=>k_exc);(case x_NoScale=>k_exc);(case x_TooGreat=>k_exc);(case aM=>k_is);(case lM=>k_is);(case kM=>k_keys);(case sM=>decide)
  all_goals try k_is
#print axioms PySem.Challenge.cw_recastle_k26_refused_to_turn_holds