import PyProof.Rows.All
import Wide.All
import OpenK.AllK
import Wide.FinOn
import Lean
import PyProof.EqAt
import PyProof.EqKinds
import PyProof.TupleCall
import PyProof.NeKinds
import PyProof.AttrMissHeap
import KE.KDictOf
import KE.KDictLaws
import KE.KSortTup
import PyProof.Rows.SortWalk
import PyProof.Rows.SortShellK
import PySem.Challenge.RW_recastle_k72_pairs_refused
local macro_rules|`(tactic|symm)=>`(tactic|decide +kernel)
abbrev XQ:=PySem.Value->PySem.Shared->Prop
abbrev mD:=@List.length_map
abbrev mH:=@List.size_toArray
abbrev mJ:=@List.getElem?_map
abbrev mK:=@List.length_append
abbrev mL:=@List.map_cons
abbrev mM:=@List.length_cons
abbrev mO:=@List.length_take
abbrev mP:=@List.take_length
abbrev mQ:=@List.map_append
abbrev mR:=@List.mem_singleton
abbrev mW:=@List.take_of_length_le
abbrev mX:=@List.length_drop
abbrev mY:=@List.mem_flatMap
abbrev mZ:=@List.append_assoc
abbrev nG:=@List.mem_of_mem_take
abbrev nI:=@Nat.le_succ
abbrev nJ:=@Array.getElem?_toList
abbrev nL:=@List.flatMap_append
abbrev nM:=@List.length_eq_zero_iff
abbrev nO:=@List.mem_append
abbrev nP:=@List.mem_cons
abbrev nQ:=@List.getElem?_eq_getElem
abbrev nT:=@List.append_nil
abbrev nW:=@List.map_map
abbrev rG:=@List.nodup_cons
abbrev rK:=@List.flatMap_cons
abbrev rL:=@List.getElem?_set_self
abbrev rM:=@Bool.eq_false_iff
abbrev rO:=@PyProof.Rows.boot_tuple
abbrev rP:=@PyProof.Rows.boot_isinstance
abbrev rV:=@PySem.F.plainAttrs_list
abbrev rW:=@PySem.F.plainAttrs_dict
abbrev rZ:=@PySem.F.slot_list_extend
abbrev tE:=@PySem.F.type_list_extend
abbrev lA:=@PySem.wpAny_bind
abbrev lB:=@PySem.wpAny_pure
abbrev lD:=@PySem.wpAny_ite_false
abbrev lE:=@PySem.wpAny_holding
abbrev lG:=@PySem.Heap.get?_push_of_some
abbrev lH:=@PySem.Heap.get?_push_size
abbrev lI:=@PySem.Heap.lt_size
abbrev lJ:=@List.getElem?_eq_some_iff
abbrev lK:=@List.mem_append
abbrev lM:=@List.mem_of_getElem?
abbrev lN:=@List.mem_cons
abbrev lO:=@List.mem_cons_self
abbrev lP:=@List.mem_cons_of_mem
abbrev lQ:=@Nat.le_refl
abbrev lS:=@Nat.ne_of_lt
abbrev lT:=@of_decide_eq_true
abbrev lU:=@decide_eq_true
abbrev lV:=@Option.map_eq_some_iff
abbrev lW:=@List.getElem?_eq_getElem
abbrev lX:=@Bool.false_ne_true
abbrev lY:=@Nat.zero_le
abbrev lZ:=@Nat.lt_of_lt_of_le
abbrev mB:=@List.mem_append_right
abbrev mC:=@List.mem_map
abbrev mE:=@Option.some.inj
abbrev mF:=@List.mem_append_left
abbrev mG:=@Nat.le_trans
abbrev mI:=@PySem.Heap.get?_update_self
set_option Elab.async false
set_option tactic.hygienic false
set_option linter.all false
set_option maxRecDepth 100000
set_option maxHeartbeats 4000000
namespace L2
open PySem PySem.Spec PyProof.Rows
abbrev Key:=Sum Int Str
noncomputable def keyIs:Key->Value->Bool
 |.inl k,v=>Value.isInt k v
 |.inr x,v=>Value.isStrOf x v
noncomputable def keyH (w:World):Key->Int
 |.inl k=>hashInt k
 |.inr x=>hashStr w x
theorem zAl:∀{k:Key}{v:Value},keyIs k v=true->(∃i t,k=Sum.inl i/\v=Value.int i t)\/(∃x t,k=Sum.inr x/\v=Value.str x t)
 |.inl i,v,h=>by
  obtain⟨t,e⟩:=Value.isInt_shape (k:=i) (v:=v) h;exact .inl ⟨i,t,rfl,e⟩
 |.inr x,v,h=>by
  obtain⟨t,e⟩:=Value.isStrOf_shape (x:=x) (v:=v) h;exact .inr ⟨x,t,rfl,e⟩
theorem zEI (i:Int) (t:Tok):keyIs (.inl i) (.int i t)=true:=by simp[keyIs,Value.isInt]
theorem zEH (x:Str) (t:Tok):keyIs (.inr x) (.str x t)=true:=by simp[keyIs,Value.isStrOf]
theorem zNM (a b:Int):decide ((Sum.inl a:Key)=Sum.inl b)=(a == b):=by
 by_cases e:a=b
 ·subst e;simp
 ·have h:¬(Sum.inl a:Key)=Sum.inl b:=λ q=>e (Sum.inl.inj q)
  rw[decide_eq_false h];exact(beq_eq_false_iff_ne.mpr e).symm
theorem zNJ (a b:Str):decide ((Sum.inr a:Key)=Sum.inr b)=decide (a=b):=by
 by_cases e:a=b
 ·subst e;simp
 ·have h:¬(Sum.inr a:Key)=Sum.inr b:=λ q=>e (Sum.inr.inj q)
  rw[decide_eq_false h,decide_eq_false e]
theorem zNL (a:Int) (b:Str):decide ((Sum.inl a:Key)=Sum.inr b)=false:=decide_eq_false (λ q=>nomatch q)
theorem zNK (a:Str) (b:Int):decide ((Sum.inr a:Key)=Sum.inl b)=false:=decide_eq_false (λ q=>nomatch q)
noncomputable def zAc (prog:Program) (w:World):PySem.KeyKind prog w Key where
 is:=keyIs
 hash:=keyH w
 inj:=λ v a b ha hb=>by
  rcases zAl ha with ⟨i,t,rfl,rfl⟩|⟨x,t,rfl,rfl⟩
  ·rcases zAl hb with ⟨j,u,rfl,e⟩|⟨y,u,rfl,e⟩
   ·injection e with e1 _;rw[e1]
   ·exact nomatch e
  ·rcases zAl hb with ⟨j,u,rfl,e⟩|⟨y,u,rfl,e⟩
   ·exact nomatch e
   ·injection e with e1 _;rw[e1]
 byValue:=λ k v h=>by
  rcases zAl h with ⟨i,t,rfl,rfl⟩|⟨x,t,rfl,rfl⟩<;>rfl
 pyHash:=λ hv h=>by
  rcases zAl hv with ⟨i,t,rfl,rfl⟩|⟨x,t,rfl,rfl⟩
  ·exact wpAny_pyHash_int h
  ·exact wpAny_pyHash_str h
 eqBool:=λ hu hv h=>by
  rcases zAl hu with ⟨i,t,rfl,rfl⟩|⟨x,t,rfl,rfl⟩
  ·rcases zAl hv with ⟨j,u,rfl,rfl⟩|⟨y,u,rfl,rfl⟩
   ·rw[zNM] at h;exact wpAny_eqBool_int h
   ·rw[zNL] at h;exact SeqAt.EqAt.int_str i t y u _ _ _ _ h
  ·rcases zAl hv with ⟨j,u,rfl,rfl⟩|⟨y,u,rfl,rfl⟩
   ·rw[zNK] at h;exact SeqAt.EqAt.str_int x t j u _ _ _ _ h
   ·rw[zNJ] at h;exact wpAny_eqBool_str h
 «strs»:=λ k x t v h=>by
  rcases zAl h with ⟨i,u,rfl,e⟩|⟨y,u,rfl,e⟩
  ·exact nomatch e
  ·injection e with e1 _
   subst e1;cases v<;>rfl
theorem zGi (prog:Program) (w:World) (i:Int) (t:Tok):(zAc prog w).is (.inl i) (.int i t)=true:=zEI i t
theorem zGh (prog:Program) (w:World) (x:Str) (t:Tok):(zAc prog w).is (.inr x) (.str x t)=true:=zEH x t
inductive V where
 |non|bl (b:Bool)|int (i:Int)|str (x:Str)|byt (b:Array UInt8)|flt (b:UInt64)|ref (a:Addr)|ty (n:String)
 deriving DecidableEq
def RelV:V->Value->Prop
 |.non,u=>u=Value.none
 |.bl b,u=>u=Value.bool b
 |.int i,u=>∃t,u=Value.int i t
 |.str x,u=>∃t,u=Value.str x t
 |.byt b,u=>∃t,u=Value.bytes b t
 |.flt b,u=>∃t,u=Value.float b t
 |.ref a,u=>u=Value.ref a
 |.ty n,u=>u=Value.type n
abbrev Vals:List V->List Value->Prop:=Paired RelV
theorem Vals.length {xs:List V}{us:List Value}(r:Vals xs us):xs.length=us.length:=Paired.length r
theorem Vals.get {xs:List V}{us:List Value}{i:Nat}{x:V}(h:Vals xs us):xs[i]?=some x->∃u,us[i]?=some u/\RelV x u:=by
 induction h generalizing i with
 |nil=>exact λ e=>nomatch e
 |cons h t ih=>cases i with
  |zero=>exact λ e=>⟨_,rfl,by cases e;exact h⟩
  |succ i=>exact λ e=>ih (i:=i) (by simpa using e)
theorem Vals.set {x:V}{u:Value}(r:RelV x u):∀{xs:List V}{us:List Value}(i:Nat),Vals xs us->Vals (xs.set i x) (us.set i u)
 |_,_,_,.nil=>.nil
 |_,_,0,.cons _ t=>.cons r t
 |_,_,i+1,.cons q t=>.cons q (Vals.set r i t)
theorem Vals.append {xs ys:List V}{us ws:List Value}(h:Vals xs us) (s:Vals ys ws):Vals (xs++ys) (us++ws):=by
 induction h with
 |nil=>exact s
 |cons r t ih=>exact .cons r ih
theorem Vals.take:∀{xs:List V}{us:List Value}(n:Nat),Vals xs us->Vals (xs.take n) (us.take n)
 |_,_,0,_=>.nil
 |_,_,_+1,.nil=>.nil
 |_,_,n+1,.cons r t=>.cons r (Vals.take n t)
theorem Vals.drop:∀{xs:List V}{us:List Value}(n:Nat),Vals xs us->Vals (xs.drop n) (us.drop n)
 |_,_,0,r=>r
 |_,_,_+1,.nil=>.nil
 |_,_,n+1,.cons _ t=>Vals.drop n t
def RelO:Option V->Option Value->Prop
 |some v,some u=>RelV v u
 |none,none=>True
 |_,_=>False
def KV {κ:Type}:List (κ × V)->List (κ × Value)->Prop:=Paired λ(p:κ × V) (q:κ × Value)=>p.1=q.1/\RelV p.2 q.2
noncomputable def kV:Key->V
 |.inl i=>.int i
 |.inr x=>.str x
inductive HO where
 |lst (xs:List V)
 |tup (xs:List V)
 |dK (kvs:List (Key × V))|dT (kvs:List (List Key × V))
 |set (S:Int->Bool) (n:Nat)
 |ins (C dx:Addr) (fs:List (Str × V))
 |own (x:Addr)
 |xd (fs:List (Str × V))
 |met (f x:Addr)
 |rng (lo hi:Int)
 |frz (o:Obj) (u:HO)
 |tbl (ps:Array Value)
 |ext (φ:Heap->Prop)
abbrev Hp:=Addr->Option HO
noncomputable def upd (H:Hp) (a:Addr) (o:HO):Hp:=λ b=>if b=a then some o else H b
theorem zAA {H:Hp}{a:Addr}{o:HO}:upd H a o a=some o:=by unfold upd;rw[if_pos rfl]
theorem zAK {H:Hp}{a b:Addr}{o:HO}(h:b≠a):upd H a o b=H b:=by unfold upd;rw[if_neg h]
theorem ne_of {H:Hp}{a b:Addr}{o u:HO}(h:H a=some o) (h':H b=some u) (d:o≠u):a≠b:=by
 intro e;subst e;rw[h] at h';exact d (mE h')
theorem zAL {H:Hp}{a b:Addr}{o:HO}(h:H a=some o) (h':H b=none):a≠b:=by
 intro e;subst e;rw[h] at h';cases h'
section
variable (P:Program) (w:World)
def ObjOk (H:Hp) (h:Heap) (a:Addr):HO->Prop
 |.lst xs=>xs.length<=sizeLine/\∃(its:List Value) (n:Nat),Vals xs its/\h.get? a=some { cls:=.type "list", data:=.seq its.toArray n }
 |.tup xs=>xs.length<=sizeLine/\∃its:List Value,Vals xs its/\IsTup h a its.toArray
 |.dK kvs=>kvs.length<=sizeLine/\(a == sysModules)=false/\∃vs,KV kvs vs/\h.DictOf (zAc P w) a vs
 |.dT kvs=>kvs.length<=sizeLine/\(a == sysModules)=false/\∃xs:List (List Key × Addr × Value),
   Paired (λ(p:List Key × V) (q:List Key × Addr × Value)=>p.1=q.1/\H q.2.1=some (.tup (p.1.map kV))/\RelV p.2 q.2.2) kvs xs /\
   ∃o es ep,h.get? a=some o/\o.ExactDict/\o.data = .dict es ep/\es.toList=xs.map (entryOfKey (tupleKind (zAc P w)))/\(xs.map (·.1)).Nodup
 |.set S n=>h.SetOf (intKind P w) a S n
 |.ins C dx fs=>H dx=some (.own a)/\fs.length<=1000/\dx≠a/\h.get? a=some (W.instObj C dx) /\
   ∃mA,h.Ns1 dx mA/\(∀f,RelO (fs.lookup f) (mA f))/\PySem.Within mA (fs.map (·.1))
 |.own _=>∃o,h.get? a=some o
 |.xd fs=>∃mA,h.Ns1 a mA/\∀f,RelO (fs.lookup f) (mA f)
 |.rng lo hi=>∃t u v,h.get? a=some { cls:=.type "range", data:=.fields #[.int lo t,.int hi u,.int 1 v] }
 |.frz o u=>h.get? a=some o/\ObjOk H h a u
 |.tbl ps=>h.get? a=some { cls:=.none,data:=.fields ps }
 |.met f x=>h.get? a=some (W.methodObj (.ref f) (.ref x))
 |.ext φ=>φ h/\(∃o,h.get? a=some o)/\∀h1 h2:Heap,φ h1->(∀o,h1.get? a=some o->h2.get? a=some o)->φ h2
def HOk (H:Hp) (h:Heap):Prop:=∀a o,H a=some o->ObjOk P w H h a o
end
section
variable {P:Program}{w:World}{H H':Hp}{h h':Heap}{a:Addr}{o:HO}
theorem ObjOk.lt (x:ObjOk P w H h a o):a<h.objs.size:=by
 cases o with
 |lst xs=>obtain⟨_,_,_,_,e⟩:=x;exact lI e
 |tup xs=>obtain⟨_,_,_,p⟩:=x;exact p.lt
 |dK kvs=>obtain⟨_,_,_,_,o,_,_,e,_⟩:=x;exact lI e
 |dT kvs=>obtain⟨_,_,_,_,o,_,_,e,_⟩:=x;exact lI e
 |set S n=>obtain⟨o,_,_,_,e,_⟩:=x;exact lI e
 |ins C dx fs=>obtain⟨_,_,_,e,_⟩:=x;exact lI e
 |own y=>obtain⟨_,e⟩:=x;exact lI e
 |xd fs=>obtain⟨_,⟨_,_,_,e,_⟩,_⟩:=x;exact lI e
 |rng lo hi=>obtain⟨_,_,_,e⟩:=x;exact lI e
 |frz ob u=>obtain⟨e,_⟩:=x;exact lI e
 |tbl ps=>exact lI (show h.get? a=some _ from x)
 |met f y=>exact lI (show h.get? a=some _ from x)
 |ext φ=>obtain⟨_,⟨_,e⟩,_⟩:=x;exact lI e
theorem Paired.mapP {α β:Type}{F G:α->β->Prop}{l₁:List α}{l₂:List β}(h:Paired F l₁ l₂) (f:∀a b,F a b->G a b):Paired G l₁ l₂:=by
 induction h with
 |nil=>exact .nil
 |cons r t ih=>exact .cons (f _ _ r) ih
theorem ObjOk.stay (x:ObjOk P w H h a o) (k:∀b u,(b=a\/H b=some (.own a))->h.get? b=some u->h'.get? b=some u)
  (ho:∀b,H b=some (.own a)->H' b=some (.own a)) (ht:∀b xs,H b=some (.tup xs)->H' b=some (.tup xs)):ObjOk P w H' h' a o:=by
 induction o with
 |lst xs=>obtain⟨z,its,n,r,e⟩:=x;exact⟨z,its,n,r,k _ _ (.inl rfl) e⟩
 |tup xs=>obtain⟨z,its,r,ob,e,c⟩:=x;exact⟨z,its,r,ob,k _ _ (.inl rfl) e,c⟩
 |dK kvs=>obtain⟨z,y,vs,r,ob,es,ep,e,c⟩:=x;exact⟨z,y,vs,r,ob,es,ep,k _ _ (.inl rfl) e,c⟩
 |dT kvs =>
  obtain⟨z,y,xs,r,ob,es,ep,e,c⟩:=x;exact⟨z,y,xs,Paired.mapP r λ p q z=>⟨z.1,ht _ _ z.2.1,z.2.2⟩,ob,es,ep,k _ _ (.inl rfl) e,c⟩
 |set S n=>obtain⟨ob,es,ep,t,e,c⟩:=x;exact⟨ob,es,ep,t,k _ _ (.inl rfl) e,c⟩
 |ins C dx fs =>
  obtain⟨d,z,ne,e,mA,⟨od,es,ep,e2,c⟩,r⟩:=x;exact⟨ho _ d,z,ne,k _ _ (.inl rfl) e,mA,⟨od,es,ep,k _ _ (.inr d) e2,c⟩,r⟩
 |own y=>obtain⟨ob,e⟩:=x;exact⟨ob,k _ _ (.inl rfl) e⟩
 |xd fs=>obtain⟨mA,⟨od,es,ep,e,c⟩,r⟩:=x;exact⟨mA,⟨od,es,ep,k _ _ (.inl rfl) e,c⟩,r⟩
 |rng lo hi=>obtain⟨t,u,v,e⟩:=x;exact⟨t,u,v,k _ _ (.inl rfl) e⟩
 |frz ob u ih=>obtain⟨e,q⟩:=x;exact⟨k _ _ (.inl rfl) e,ih q⟩
 |tbl ps =>
  have e:h.get? a=some { cls:=.none,data:=.fields ps }:=x;show h'.get? a=some { cls:=.none,data:=.fields ps };exact k a _ (.inl rfl) e
 |met f y =>
  have e:h.get? a=some (W.methodObj (.ref f) (.ref y)):=x;show h'.get? a=some (W.methodObj (.ref f) (.ref y));exact k a _ (.inl rfl) e
 |ext φ=>obtain⟨p,⟨o,e⟩,st⟩:=x;exact⟨st _ _ p λ o q=>k _ _ (.inl rfl) q,⟨o,k _ _ (.inl rfl) e⟩,st⟩
theorem HOk.lt (x:HOk P w H h) (e:H a=some o):a<h.objs.size:=(x a o e).lt
theorem HOk.fresh (x:HOk P w H h) (e:h.objs.size<=a):H a=none:=by
 cases q:H a with
 |none=>rfl
 |some u=>exact absurd (lZ (x.lt q) e) (Nat.lt_irrefl _)
theorem HOk.kept (x:HOk P w H h) (k:∀b u,h.get? b=some u->h'.get? b=some u):HOk P w H h':=λ a o e =>
 (x a o e).stay (λ b u Ω q=>k b u q) (λ Ω q=>q) λ Ω Ω q=>q
theorem HOk.laid (x:HOk P w H h) (k:∀b u,h.get? b=some u->h'.get? b=some u) (hp:h.objs.size<=a) (new:ObjOk P w (upd H a o) h' a o):HOk P w (upd H a o) h':=λ b u e=>by
 have hn:=x.fresh hp
 by_cases hb:b=a
 ·subst hb;rw[zAA] at e;cases e;exact new
 ·rw[zAK hb] at e
  exact(x b u e).stay (λ c v Ω q=>k c v q) (λ c q=>by rw[zAK (zAL q hn)];exact q) λ c xs q=>by rw[zAK (zAL q hn)];exact q
end
def Rd (H:Hp) (a:Addr) (u:HO):Prop:=H a=some u\/∃o,H a=some (.frz o u)
theorem Rd.ok {P:Program}{w:World}{H:Hp}{h:Heap}{a:Addr}{u:HO}(r:Rd H a u) (x:HOk P w H h):ObjOk P w H h a u:=by
 rcases r with r|⟨o,r⟩
 ·exact x a u r
 ·obtain⟨_,q⟩:=x a _ r
  exact q
def Mut:Option HO->Prop
 |some (.lst _)=>True
 |some (.dK _)=>True
 |some (.dT _)=>True
 |some (.set _ _)=>True
 |some (.ins _ _ _)=>True
 |some (.ext _)=>True
 |_=>False
section
variable {P:Program}{w:World}{H:Hp}{h h':Heap}{x e:Addr}{o':HO}
theorem HOk.write (ok:HOk P w H h) (mu:Mut (H x)) (he:e=x\/H e=some (.own x)) (k:∀b u,b≠e->h.get? b=some u->h'.get? b=some u) (heo:∃u,h'.get? e=some u)
  (new:ObjOk P w (upd H x o') h' x o'):HOk P w (upd H x o') h':=λ b u q=>by
 have nown:∀c y,H c=some (.own y)->c≠x:=λ c y r z=>by subst z;rw[r] at mu;exact mu
 have ntup:∀c xs,H c=some (.tup xs)->c≠x:=λ c xs r z=>by subst z;rw[r] at mu;exact mu
 by_cases hb:b=x
 ·subst hb;rw[zAA] at q;cases q;exact new
 ·rw[zAK hb] at q
  by_cases hbe:b=e
  ·have q':H b=some (.own x):=by
    rcases he with z|z
    ·exact absurd (hbe.trans z) hb
    ·rw[hbe];exact z
   rw[q] at q';cases q';obtain⟨v,hv⟩:=heo;exact⟨v,by rw[hbe];exact hv⟩
  ·refine(ok b u q).stay (λ c v hc r=>k c v ?_ r) (λ c r=>by rw[zAK (nown c b r)];exact r) λ c xs r=>by rw[zAK (ntup c xs r)];exact r
   rcases hc with rfl|hc
   ·exact hbe
   ·rintro rfl
    rcases he with z|z
    ·exact nown c b hc z
    ·rw[hc] at z;cases z;exact hb rfl
end
structure Un (fs ex:List Addr) (H H':Hp) (h h':Heap):Prop where
 keep:∀b o,h.get? b=some o->H b=none->b∉fs->b∉ex->h'.get? b=some o
 slot:∀b o,h.get? b=some o->H b=none->b∈fs->b∉ex->∃sl,h'.get? b=some { o with slots:=sl }
 free:∀b o,h.get? b=some o->H b=none->b∉ex->H' b=none
 there:∀b o,h.get? b=some o->b∉ex->∃o',h'.get? b=some o'
 tups:∀b xs,H b=some (.tup xs)->H' b=some (.tup xs)
 frzs:∀b o u,H b=some (.frz o u)->H' b=some (.frz o u)
 tbls:∀b ps,H b=some (.tbl ps)->∃more,H' b=some (.tbl (ps++more))
section
variable {fs fs' ex ex':List Addr}{H H1 H2:Hp}{h h1 h2 h':Heap}{a x e:Addr}{o:HO}
theorem Un.any (u:Un fs ex H H1 h h1) {b:Addr}{ob:Obj}(q:h.get? b=some ob) (n:H b=none) (hx:b∉ex):∃sl,h1.get? b=some { ob with slots:=sl }:=by
 by_cases hb:b∈fs
 ·exact u.slot b ob q n hb hx
 ·exact⟨ob.slots,u.keep b ob q n hb hx⟩
theorem Un.kept (k:∀b u,h.get? b=some u->h'.get? b=some u):Un fs ex H H h h' :=
 ⟨λ b ob q Ω Ω Ω=>k b ob q,λ b ob q Ω Ω Ω=>⟨ob.slots,k b ob q⟩,λ Ω Ω Ω n Ω=>n,λ b ob q Ω=>⟨ob,k b ob q⟩,λ Ω Ω q=>q,λ Ω Ω Ω q=>q,λ Ω ps q=>⟨#[],by rw[q];simp⟩⟩
theorem Un.refl:Un fs ex H H h h:=Un.kept λ Ω Ω q=>q
theorem Un.laid (k:∀b u,h.get? b=some u->h'.get? b=some u) (hp:h.objs.size<=a) (hn:H a=none):Un fs ex H (upd H a o) h h' where
 keep:=λ b u q Ω Ω Ω=>k b u q
 slot:=λ b u q Ω Ω Ω=>⟨u.slots,k b u q⟩
 free:=λ b u q n Ω=>by rw[zAK (Nat.ne_of_lt (Nat.lt_of_lt_of_le (Heap.lt_size q) hp))];exact n
 there:=λ b u q Ω=>⟨u,k b u q⟩
 tups:=λ b xs q=>by rw[zAK (zAL q hn)];exact q
 frzs:=λ b u xs q=>by rw[zAK (zAL q hn)];exact q
 tbls:=λ b ps q=>⟨#[],by rw[zAK (zAL q hn),q];simp⟩
theorem Un.write (mu:Mut (H x)) (he:e=x\/H e=some (.own x)) (k:∀b u,b≠e->h.get? b=some u->h'.get? b=some u) (heo:∃u,h'.get? e=some u):Un fs ex H (upd H x o) h h':=by
 have hx:∀b,H b=none->b≠x:=λ b n z=>by subst z;rw[n] at mu;exact mu
 have hb:∀b,H b=none->b≠e:=λ b n z=>by
  subst z;rcases he with r|r
  ·exact hx b n r
  ·rw[n] at r;cases r
 have hm:∀b u,H b=some u->¬Mut (some u)->b≠x:=λ b u q nm z=>by subst z;rw[q] at mu;exact nm mu
 refine⟨λ b u q n Ω Ω=>k b u (hb b n) q,λ b u q n Ω Ω=>⟨u.slots,k b u (hb b n) q⟩,λ b u q n Ω=>by rw[zAK (hx b n)];exact n,λ b u q Ω=>?_,
  λ b xs q=>by rw[zAK (hm b _ q λ z=>z)];exact q,λ b u xs q=>by rw[zAK (hm b _ q λ z=>z)];exact q,λ b ps q=>⟨#[],by rw[zAK (hm b _ q λ z=>z),q];simp⟩⟩
 by_cases hbe:b=e
 ·subst hbe;exact heo
 ·exact⟨u,k b u hbe q⟩
end
noncomputable def trk (h:Heap) (H:Hp):List Addr:=(List.range h.objs.size).filter λ a=>(H a).isSome
noncomputable def hidT (h:Heap) (H:Hp):Heap:=W.hideAll h (trk h H)
theorem zJG (h:Heap) (H:Hp):(hidT h H).objs.size=h.objs.size:=W.hideAll_size _ _
theorem zKb {h:Heap}{H:Hp}{b:Addr}{o:Obj}(e:h.get? b=some o) (n:H b=none):(hidT h H).get? b=some o :=
 W.hideAll_get _ e λ hm=>by
  have q:(H b).isSome=true:=(List.mem_filter.mp hm).2;rw[n] at q;simp at q
theorem zL8 {h:Heap}{H:Hp}{b:Addr}{o:Obj}(e:(hidT h H).get? b=some o):h.get? b=some o/\H b=none:=by
 have e':h.get? b=some o:=W.of_hideAll (trk h H) e;refine⟨e',?_⟩;cases q:H b with
 |none=>rfl
 |some x =>
  have hm:b∈trk h H:=List.mem_filter.mpr ⟨List.mem_range.mpr (lI e'),by simp[q]⟩;have z:(hidT h H).get? b=none:=W.hideAll_none (trk h H) hm;rw[z] at e;cases e
noncomputable def zMX (g h:Heap) (L:Addr):List (Addr × Obj):=(List.range h.objs.size).filterMap λ a=>if a=L\/(g.get? a).isSome=true then none else (h.get? a).map λ o=>(a,o)
noncomputable def rest (g h:Heap) (L d:Addr):List (Addr × Obj):=(zMX g h L).filter λ p=>decide (p.1≠d)
structure Mod (K:W.Frag) (mg:Str->Option Value) (base:Heap):Prop where
 kin:K.In base
 glob:base.Ns mainGlobals mg
 blt:∃mb,base.Ns builtinsNs mb/\∀x:Str,x ≠ "__name__" -> mb x=bootBuiltins x
 nolimit:base.NoLimit
structure Cx where
 prog:Program
 w:World
 K:W.Frag
 mg:Str->Option Value
 base:Heap
 A:Around
 N:List Str
 s₀:Shared
 H₀:Hp
 env:Env
 outer:List Env
 stack:List Env
 ex:List Addr
 fn:Str->Bool
 calm:Bool
 pn:List (Addr × Obj)
 xe:Value->Shared->Prop
def frs (l:List Env):List Addr:=l.filterMap (·.frame)
abbrev Cx.fs (X:Cx):List Addr:=frs X.outer
def Vis (sc:Scope) (x:Str):Prop:=sc.names.lookup x=some .local\/sc.names.lookup x=some .cell\/sc.names.lookup x=some .free
def Loc (sc:Scope) (x:Str):Prop:=sc.names.lookup x=some .local\/sc.names.lookup x=some .cell
def Look (env:Env) (h:Heap) (m:Str->Option Value) (x:Str) (u:Value):Prop :=
 (env.kindOf x=some .local/\m x=some u)\/((env.kindOf x=some .cell\/env.kindOf x=some .free)/\∃c,env.cells.lookup x=some c/\h.IsCell c (some u))
structure Cx.Ok (X:Cx):Prop where
 mod:Mod X.K X.mg X.base
 kind:X.env.scope.kind = .function
 glob:X.env.globals=mainGlobals
 blt:X.env.builtins=builtinsNs
 above:X.s₀.heap.objs.size<=X.env.locals
 inj:∀x y c,X.env.cells.lookup x=some c->X.env.cells.lookup y=some c->x=y
 has:∀x,(X.env.kindOf x=some .cell\/X.env.kindOf x=some .free)->∃c,X.env.cells.lookup x=some c
 cab:∀x c,X.fn x=true->X.env.cells.lookup x=some c->X.s₀.heap.objs.size<=c
 hd:X.calm=true->X.A.handled=none
 frames:X.A.frames=some X.stack
 stk:X.stack=X.outer\/(X.stack=X.env::X.outer/\X.env.frame=some X.env.locals)
 exf:∀b∈X.ex,b≠X.env.locals/\∀x c,X.env.cells.lookup x=some c->c≠b
 bs:∀b o,X.base.get? b=some o->X.s₀.heap.get? b=some o/\X.H₀ b=none
 bsz:X.base.objs.size<=X.s₀.heap.objs.size
 noex:∀b o,X.base.get? b=some o->b∉X.ex
 exfs:∀b∈X.ex,b∉X.fs
 funs:X.s₀.heap.FunFrames X.base X.outer
 frf:∀b∈X.fs,X.H₀ b=none
structure Inv (X:Cx) (jP:List (Addr × Obj)) (σ:List (Option V)) (H:Hp) (s:Shared):Prop where
 ok:X.Ok
 os:s.os=X.s₀.os
 bare:AllBare s.gens
 base:Un X.fs X.ex X.H₀ H X.s₀.heap s.heap
 loc:∃m,s.heap.Ns X.env.locals m/\∀(i:Nat) (x:Str) (v:V),X.N[i]?=some x->σ[i]?=some (some v)->Vis X.env.scope x->∃u,RelV v u/\Look X.env s.heap m x u
 cell:∀x c,X.env.cells.lookup x=some c->∃v,s.heap.IsCell c v
 free:H X.env.locals=none
 freeC:∀x c,X.env.cells.lookup x=some c->H c=none
 pin:∀p∈X.pn++jP,s.heap.get? p.1=some p.2/\H p.1=none/\p.1≠X.env.locals/\p.1∉X.fs/\∀v,p.2.data ≠ .cell v
 hok:HOk X.prog X.w H s.heap
 len:σ.length=X.N.length
section
variable {X:Cx}{jP:List (Addr × Obj)}{σ:List (Option V)}{H H':Hp}{s:Shared}{h':Heap}
theorem Cx.Ok.nofr (ok:X.Ok) {b:Addr}{o:Obj}(e:X.base.get? b=some o):b∉X.fs:=λ hb=>by
 have:=(ok.funs.mem hb).1;rw[e] at this;cases this
theorem Inv.bs (I:Inv X jP σ H s):∀b o,X.base.get? b=some o->s.heap.get? b=some o/\H b=none:=λ b o e =>
 ⟨I.base.keep b o (I.ok.bs b o e).1 (I.ok.bs b o e).2 (I.ok.nofr e) (I.ok.noex b o e),I.base.free b o (I.ok.bs b o e).1 (I.ok.bs b o e).2 (I.ok.noex b o e)⟩
theorem Inv.bk (I:Inv X jP σ H s):∀b o,X.base.get? b=some o->s.heap.get? b=some o:=λ b o e=>(I.bs b o e).1
theorem Inv.mod (I:Inv X jP σ H s):Mod X.K X.mg X.base:=I.ok.mod
theorem Inv.kIn (I:Inv X jP σ H s):X.K.In s.heap:=I.ok.mod.kin.keeps I.bk
theorem Inv.lt (I:Inv X jP σ H s):X.env.locals<s.heap.objs.size:=let ⟨_,hn,_⟩:=I.loc;hn.lt
theorem Inv.sz (I:Inv X jP σ H s):X.s₀.heap.objs.size<=s.heap.objs.size:=mG I.ok.above (Nat.le_of_lt I.lt)
theorem Inv.nofs (I:Inv X jP σ H s) {a:Addr}(h:s.heap.objs.size<=a):a∉X.fs:=λ hb=>by
 obtain⟨_,o,ho,_⟩:=I.ok.funs.mem hb;exact absurd (lZ (lI ho) (mG I.sz h)) (Nat.lt_irrefl _)
theorem Inv.cne (I:Inv X jP σ H s):∀x c,X.env.cells.lookup x=some c->c≠X.env.locals:=λ x c e z=>by
 obtain⟨v,o,ho,hd⟩:=I.cell x c e;obtain⟨m,⟨o',es,ep,ho',hd',_⟩,_⟩:=I.loc;rw[z,ho'] at ho;cases ho;rw[hd'] at hd;cases hd
theorem Inv.funs (I:Inv X jP σ H s):s.heap.FunFrames X.base X.outer:=by
 have all:∀(l:List Env),(∀b∈frs l,b∈X.fs)->X.s₀.heap.FunFrames X.base l->s.heap.FunFrames X.base l:=by
  intro l
  induction l with
  |nil=>intro _ _;trivial
  |cons env r ih =>
   intro hs hl;obtain⟨hk,⟨L,o,hf,hn,ho,hd⟩,hr⟩:=hl;have hL:L∈X.fs:=hs L (by unfold frs;rw[List.filterMap_cons,hf];exact lO);obtain⟨sl,e⟩:=I.base.slot L o ho (I.ok.frf L hL) hL λ z=>I.ok.exfs L z hL;exact⟨hk,⟨L,_,hf,hn,e,hd⟩,ih (λ b hb=>hs b (by unfold frs;rw[List.filterMap_cons,hf];exact lP _ hb)) hr⟩
 exact all X.outer (λ Ω hb=>hb) I.ok.funs
theorem Inv.stack (I:Inv X jP σ H s):s.heap.FunFrames X.base X.stack:=by
 rcases I.ok.stk with e|⟨e,hf⟩
 ·rw[e];exact I.funs
 ·rw[e]
  obtain⟨m,hn,_⟩:=I.loc;refine .cons (by rw[I.ok.kind];decide) hf hn ?_ I.funs;exact Heap.get?_none_of_le (mG I.ok.bsz I.ok.above)
theorem Inv.stkSub (I:Inv X jP σ H s):∀b∈frs X.stack,b∈X.env.locals::X.fs:=λ b hb=>by
 rcases I.ok.stk with e|⟨e,hf⟩
 ·rw[e] at hb;exact lP _ hb
 ·rw[e] at hb
  unfold frs at hb;rw[List.filterMap_cons,hf] at hb;exact hb
theorem Inv.stkFree (I:Inv X jP σ H s):∀b∈frs X.stack,H b=none:=λ b hb=>by
 rcases lN.mp (I.stkSub b hb) with e|hb
 ·rw[e];exact I.free
 ·obtain⟨_,o,ho,_⟩:=I.ok.funs.mem hb
  exact I.base.free b o ho (I.ok.frf b hb) λ z=>I.ok.exfs b z hb
theorem Inv.step {g':Array GenState}{t':Nat}{d':Drawn}{ch:List Addr}(I:Inv X jP σ H s)
  (hch:∀b∈ch,(b∈X.ex\/X.s₀.heap.objs.size<=b)/\b≠X.env.locals/\(∀x c,X.env.cells.lookup x=some c->c≠b)/\∀p∈X.pn++jP,p.1≠b)
  (keep:∀b o,b≠X.env.locals->b∉X.fs->b∉ch->s.heap.get? b=some o->H b=none->h'.get? b=some o)
  (slot:∀b o,b≠X.env.locals->b∈X.fs->b∉ch->s.heap.get? b=some o->H b=none->∃sl,h'.get? b=some { o with slots:=sl }) (free:∀b o,b∉ch->s.heap.get? b=some o->H b=none->H' b=none)
  (there:∀b o,b∉ch->s.heap.get? b=some o->∃o',h'.get? b=some o')
  (tups:∀b xs,H b=some (.tup xs)->H' b=some (.tup xs)) (frzs:∀b o u,H b=some (.frz o u)->H' b=some (.frz o u)) (tbls:∀b ps,H b=some (.tbl ps)->∃more,H' b=some (.tbl (ps++more)))
  (ns:∀m,s.heap.Ns X.env.locals m->h'.Ns X.env.locals m) (hok:HOk X.prog X.w H' h') (hg:AllBare g') :
  Inv X jP σ H' { s with heap:=h',gens:=g',drawn:=d',toks:=t' }:=by
 have neL:∀b o,X.s₀.heap.get? b=some o->b≠X.env.locals:=λ b o e=>lS (lZ (lI e) I.ok.above)
 have neC:∀b o,X.s₀.heap.get? b=some o->b∉X.ex->b∉ch:=λ b o e hx hb=>by
  rcases (hch b hb).1 with z|z
  ·exact hx z
  ·exact absurd (lZ (lI e) z) (Nat.lt_irrefl _)
 have cellK:∀x c,X.env.cells.lookup x=some c->∀v,s.heap.IsCell c v->h'.IsCell c v:=λ x c e v ⟨o,ho,hd⟩=>by
  have nch:c∉ch:=λ z=>(hch c z).2.2.1 x c e rfl
  by_cases hc:c∈X.fs
  ·obtain⟨sl,q⟩:=slot c o (I.cne x c e) hc nch ho (I.freeC x c e)
   exact⟨_,q,hd⟩
  ·exact⟨o,keep c o (I.cne x c e) hc nch ho (I.freeC x c e),hd⟩
 refine⟨I.ok,I.os,hg,⟨λ b o e n hb hx=>?_,λ b o e n hb hx=>?_,λ b o e n hx=>?_,λ b o e hx=>?_,λ b xs e=>tups b xs (I.base.tups b xs e),λ b o xs e=>frzs b o xs (I.base.frzs b o xs e),λ b ps e=>?_⟩,?_,λ x c e=>?_,?_,λ x c e=>?_,λ p hp=>?_,hok,I.len⟩
 ·exact keep b o (neL b o e) hb (neC b o e hx) (I.base.keep b o e n hb hx) (I.base.free b o e n hx)
 ·obtain⟨sl,e1⟩:=I.base.slot b o e n hb hx
  obtain⟨sl',e2⟩:=slot b _ (neL b o e) hb (neC b o e hx) e1 (I.base.free b o e n hx);exact⟨sl',e2⟩
 ·obtain⟨o',e1⟩:=I.base.there b o e hx
  exact free b o' (neC b o e hx) e1 (I.base.free b o e n hx)
 ·obtain⟨o',e1⟩:=I.base.there b o e hx
  exact there b o' (neC b o e hx) e1
 ·obtain⟨m1,e1⟩:=I.base.tbls b ps e
  obtain⟨m2,e2⟩:=tbls b _ e1;exact⟨m1++m2,by rw[e2,Array.append_assoc]⟩
 ·obtain⟨m,hn,hl⟩:=I.loc
  refine⟨m,ns m hn,λ i x v e1 e2 e3=>?_⟩;obtain⟨u,r,l⟩:=hl i x v e1 e2 e3;refine⟨u,r,?_⟩;rcases l with l|⟨k,c,e,z⟩
  ·exact .inl l
  ·exact .inr ⟨k,c,e,cellK x c e _ z⟩
 ·obtain⟨v,z⟩:=I.cell x c e
  exact⟨v,cellK x c e v z⟩
 ·obtain⟨m,⟨o,_,_,ho,_⟩,_⟩:=I.loc
  exact free _ o (λ z=>(hch _ z).2.1 rfl) ho I.free
 ·obtain⟨v,o,ho,hd⟩:=I.cell x c e
  exact free c o (λ z=>(hch c z).2.2.1 x c e rfl) ho (I.freeC x c e)
 ·obtain⟨e,n,ne,nf,d⟩:=I.pin p hp
  have nch:p.1∉ch:=λ z=>(hch p.1 z).2.2.2 p hp rfl;exact⟨keep p.1 p.2 ne nf nch e n,free p.1 p.2 nch e n,ne,nf,d⟩
theorem Inv.un {t':Nat}(I:Inv X jP σ H s) (u:Un X.fs [] H H' s.heap h') (hok:HOk X.prog X.w H' h'):Inv X jP σ H' { s with heap:=h',toks:=t' }:=by
 obtain⟨m,⟨o,es,ep,ho,r⟩,_⟩:=id I.loc;obtain⟨sl,hL⟩:=u.any ho I.free (by simp)
 exact I.step (g':=s.gens) (d':=s.drawn) (ch:=[]) (λ Ω z=>nomatch z) (λ b o Ω hb Ω e n=>u.keep b o e n hb (by simp)) (λ b o Ω hb Ω e n=>u.slot b o e n hb (by simp)) (λ b o Ω e n=>u.free b o e n (by simp)) (λ b o Ω e=>u.there b o e (by simp)) u.tups u.frzs u.tbls (λ m' hm=>by
  obtain⟨o',es',ep',ho',r'⟩:=hm;rw[ho] at ho';cases ho';exact⟨_,es',ep',hL,r'⟩) hok I.bare
theorem Inv.call {g':Array GenState}{t':Nat}{d':Drawn}{ch:List Addr}(I:Inv X jP σ H s) (u:Un (frs X.stack) ch H H' s.heap h') (hok:HOk X.prog X.w H' h') (hg:AllBare g')
  (hch:∀b∈ch,(b∈X.ex\/X.s₀.heap.objs.size<=b)/\b≠X.env.locals/\(∀x c,X.env.cells.lookup x=some c->c≠b)/\∀p∈X.pn++jP,p.1≠b) :
  Inv X jP σ H' { s with heap:=h',gens:=g',drawn:=d',toks:=t' }:=by
 obtain⟨m,⟨o,es,ep,ho,r⟩,_⟩:=id I.loc;obtain⟨sl,hL⟩:=u.any ho I.free λ z=>(hch _ z).2.1 rfl
 exact I.step (ch:=ch) hch (λ b o hL hb hc e n=>u.keep b o e n (λ z=>(lN.mp (I.stkSub b z)).elim hL hb) hc) (λ b o Ω Ω hc e n=>u.any e n hc) (λ b o hc e n=>u.free b o e n hc) (λ b o hc e=>u.there b o e hc) u.tups u.frzs u.tbls (λ m' hm=>by
  obtain⟨o',es',ep',ho',r'⟩:=hm;rw[ho] at ho';cases ho';exact⟨_,es',ep',hL,r'⟩) hok hg
theorem Inv.turned {t':Nat}{it:Addr}(I:Inv X jP σ H s) (k:∀b o,b≠it->s.heap.get? b=some o->h'.get? b=some o) (hn:H it=none) (hL:it≠X.env.locals)
  (h1:it∈X.ex\/X.s₀.heap.objs.size<=it) (h2:∀x c,X.env.cells.lookup x=some c->c≠it) (h3:∀p∈X.pn++jP,p.1≠it):Inv X jP σ H { s with heap:=h',toks:=t' }:=by
 have nit:∀b u,H b=some u->b≠it:=λ b u e z=>by rw[z,hn] at e;cases e
 refine I.step (g':=s.gens) (d':=s.drawn) (ch:=[it]) (λ b hb=>?_) (λ b o Ω Ω hc e Ω=>k b o (λ z=>hc (by simp[z])) e) (λ b o Ω Ω hc e Ω=>⟨o.slots,k b o (λ z=>hc (by simp[z])) e⟩) (λ Ω Ω Ω Ω n=>n)
  (λ b o hc e=>⟨o,k b o (λ z=>hc (by simp[z])) e⟩) (λ Ω Ω e=>e) (λ Ω Ω Ω e=>e) (λ b ps e=>⟨#[],by rw[e];simp⟩) (λ m hm=>?_) (λ b u e=>?_) I.bare
 ·have e:b=it:=by simpa using hb
  subst e;exact⟨h1,hL,h2,h3⟩
 ·obtain⟨o,es,ep,ho,r⟩:=hm
  exact⟨o,es,ep,k _ o (Ne.symm hL) ho,r⟩
 ·refine(I.hok b u e).stay (λ c v hc q=>k c v ?_ q) (λ Ω q=>q) λ Ω Ω q=>q
  rcases hc with z|z
  ·rw[z];exact nit b u e
  ·exact nit c _ z
theorem Inv.tok (I:Inv X jP σ H s) (t:Nat):Inv X jP σ H { s with toks:=t }:=I.un (h':=s.heap) (t':=t) Un.refl I.hok
theorem Inv.kept {t':Nat}(I:Inv X jP σ H s) (k:∀b u,s.heap.get? b=some u->h'.get? b=some u):Inv X jP σ H { s with heap:=h',toks:=t' }:=I.un (Un.kept k) (I.hok.kept k)
theorem Inv.laid {a:Addr}{o:HO}{t':Nat}(I:Inv X jP σ H s) (k:∀b u,s.heap.get? b=some u->h'.get? b=some u) (hp:s.heap.objs.size<=a) (new:ObjOk X.prog X.w (upd H a o) h' a o) :
  Inv X jP σ (upd H a o) { s with heap:=h',toks:=t' }:=I.un (Un.laid k hp (I.hok.fresh hp)) (I.hok.laid k hp new)
theorem Inv.write {x e:Addr}{o:HO}{t':Nat}(I:Inv X jP σ H s) (mu:Mut (H x)) (he:e=x\/H e=some (.own x)) (k:∀b u,b≠e->s.heap.get? b=some u->h'.get? b=some u) (heo:∃u,h'.get? e=some u)
  (new:ObjOk X.prog X.w (upd H x o) h' x o):Inv X jP σ (upd H x o) { s with heap:=h',toks:=t' }:=I.un (Un.write mu he k heo) (I.hok.write mu he k heo new)
theorem Inv.weak {σ':List (Option V)}(I:Inv X jP σ H s) (hl:σ'.length=σ.length) (w:∀(i:Nat) v,σ'[i]?=some (some v)->σ[i]?=some (some v)):Inv X jP σ' H s :=
 ⟨I.ok,I.os,I.bare,I.base,let ⟨m,hn,hl'⟩:=I.loc;⟨m,hn,λ i x v e1 e2 e3=>hl' i x v e1 (w i v e2) e3⟩,I.cell,I.free,I.freeC,I.pin,I.hok,hl.trans I.len⟩
theorem Inv.pins_of {pins':List (Addr × Obj)}(I:Inv X jP σ H s) (h:∀p∈pins',s.heap.get? p.1=some p.2/\H p.1=none/\p.1≠X.env.locals/\p.1∉X.fs/\∀v,p.2.data ≠ .cell v):Inv X pins' σ H s :=
 ⟨I.ok,I.os,I.bare,I.base,I.loc,I.cell,I.free,I.freeC,λ p hp=>(lK.mp hp).elim (λ z=>I.pin p (mF _ z)) (h p),I.hok,I.len⟩
theorem zFK {N:List Str}(hN:N.Nodup) {i j:Nat}{x:Str}(a:N[i]?=some x) (b:N[j]?=some x):i=j:=by
 obtain⟨h1,e1⟩:=lJ.mp a;obtain⟨h2,e2⟩:=lJ.mp b;exact(List.getElem_inj hN).mp (e1.trans e2.symm)
theorem zFn {M:Model}{A:Around}{E:XQ}{i:Nat}{x:Str}{v:V}{u:Value}{Q:Unit->Shared->Prop}(I:Inv X jP σ H s) (hN:X.N.Nodup) (hi:X.N[i]?=some x) (hx:Loc X.env.scope x) (r:RelV v u)
  (h:∀s',Inv X jP (σ.set i (some v)) H s'->(∃a,Heap.SameBut a s.heap s'.heap/\(a=X.env.locals\/X.env.cells.lookup x=some a))->Q () s') (hf:X.fn x=true\/X.env.scope.names.lookup x=some .local:=by first|exact .inl rfl|exact .inr rfl|assumption):wpAny M A (storeName X.env x u) Q E s:=by
 obtain⟨m,hn,hl⟩:=id I.loc;have hcls:(X.env.scope.kind == .class || (X.env.scope.kind == .module && X.env.locals != X.env.globals))=false:=by rw[I.ok.kind];rfl
 have hiσ:i<σ.length:=by rw[I.len];exact(lJ.mp hi).1
 have cne:=I.cne
 have tracked:∀{a:Addr}{h':Heap},(∃o,s.heap.get? a=some o/\H a=none)->Heap.SameBut a s.heap h'->HOk X.prog X.w H h':=λ{a h'} ha hs b ob e=>by
  obtain⟨_,_,hfree⟩:=ha;refine(I.hok b ob e).stay (λ c w' hc q=>(hs.2 c ?_).trans q) (λ Ω q=>q) λ Ω Ω q=>q;rintro rfl;rcases hc with rfl|hc
  ·rw[hfree] at e;cases e
  ·rw[hfree] at hc;cases hc
 rcases hx with hk|hk
 ·refine wpAny_storeName_local hk hn (λ h' hn' hs=>?_) hcls
  obtain⟨oL,_,_,hoL,_⟩:=id hn;refine h _ ⟨I.ok,I.os,I.bare,⟨λ b o e n hb hx=>?_,λ b o e n hb hx=>?_,I.base.free,λ b o e hx=>?_,I.base.tups,I.base.frzs,I.base.tbls⟩,⟨_,hn',λ j y v' e1 e2 e3=>?_⟩,λ y c e=>?_,I.free,I.freeC,λ p hp=>?_,tracked ⟨oL,hoL,I.free⟩ hs,by simpa using I.len⟩ ⟨_,hs,.inl rfl⟩
  ·exact(hs.2 b (lS (lZ (lI e) I.ok.above))).trans (I.base.keep b o e n hb hx)
  ·obtain⟨sl,e1⟩:=I.base.slot b o e n hb hx
   exact⟨sl,(hs.2 b (lS (lZ (lI e) I.ok.above))).trans e1⟩
  ·obtain⟨o',e1⟩:=I.base.there b o e hx
   exact⟨o',(hs.2 b (lS (lZ (lI e) I.ok.above))).trans e1⟩
  ·by_cases hj:j=i
   ·subst hj
    rw[hi] at e1;cases e1;rw[rL hiσ] at e2;cases e2;exact⟨u,r,.inl ⟨hk,by simp⟩⟩
   ·rw[List.getElem?_set_ne (Ne.symm hj)] at e2
    obtain⟨u',r',q⟩:=hl j y v' e1 e2 e3;refine⟨u',r',?_⟩;rcases q with ⟨k,e⟩|⟨k,c,e,z⟩
    ·refine .inl ⟨k,?_⟩
     have:y≠x:=λ e=>hj (zFK hN e1 (e▸hi));simp[this,e]
    ·exact .inr ⟨k,c,e,z.sameBut hs (cne y c e)⟩
  ·obtain⟨w',z⟩:=I.cell y c e
   exact⟨w',z.sameBut hs (cne y c e)⟩
  ·obtain⟨e,n,ne,nf,d⟩:=I.pin p hp
   exact⟨(hs.2 p.1 ne).trans e,n,ne,nf,d⟩
 ·have hfn:X.fn x=true:=by
   rcases hf with z|z
   ·exact z
   ·rw[z] at hk;cases hk
  obtain⟨c,hc⟩:=I.ok.has x (.inl hk);obtain⟨w',z⟩:=I.cell x c hc;refine wpAny_storeName_cell I.ok.kind hk hc z (λ h' hc' hs=>?_);obtain⟨oc,hoc,hocd⟩:=id z;refine h { s with heap:=h' } ⟨I.ok,I.os,I.bare,⟨λ b o e n hb hx=>?_,λ b o e n hb hx=>?_,I.base.free,λ b o e hx=>?_,I.base.tups,I.base.frzs,I.base.tbls⟩,⟨m,hn.sameBut hs (Ne.symm (cne x c hc)),λ j y v' e1 e2 e3=>?_⟩,λ y c' e=>?_,I.free,I.freeC,λ p hp=>?_,tracked ⟨oc,hoc,I.freeC x c hc⟩ hs,by simpa using I.len⟩ ⟨c,hs,.inr hc⟩
  ·exact(hs.2 b (lS (lZ (lI e) (I.ok.cab x c hfn hc)))).trans (I.base.keep b o e n hb hx)
  ·obtain⟨sl,e1⟩:=I.base.slot b o e n hb hx
   exact⟨sl,(hs.2 b (lS (lZ (lI e) (I.ok.cab x c hfn hc)))).trans e1⟩
  ·obtain⟨o',e1⟩:=I.base.there b o e hx
   exact⟨o',(hs.2 b (lS (lZ (lI e) (I.ok.cab x c hfn hc)))).trans e1⟩
  ·by_cases hj:j=i
   ·subst hj
    rw[hi] at e1;cases e1;rw[rL hiσ] at e2;cases e2;exact⟨u,r,.inr ⟨.inl hk,c,hc,hc'⟩⟩
   ·rw[List.getElem?_set_ne (Ne.symm hj)] at e2
    obtain⟨u',r',q⟩:=hl j y v' e1 e2 e3;refine⟨u',r',?_⟩;rcases q with q|⟨k,c',e,z'⟩
    ·exact .inl q
    ·refine .inr ⟨k,c',e,z'.sameBut hs ?_⟩
     rintro rfl;exact hj (zFK hN e1 (I.ok.inj _ _ _ e hc▸hi))
  ·by_cases hcc:c'=c
   ·subst hcc;exact⟨_,hc'⟩
   ·obtain⟨w2,z2⟩:=I.cell y c' e
    exact⟨w2,z2.sameBut hs hcc⟩
  ·obtain⟨e,n,ne,nf,d⟩:=I.pin p hp
   refine⟨(hs.2 p.1 ?_).trans e,n,ne,nf,d⟩;intro q;rw[q,hoc] at e;have q':oc=p.2:=mE e;exact d w' (by rw[←q'];exact hocd)
theorem zDh {M:Model}{A:Around}{E:XQ}{i:Nat}{x:Str}{v:V}{u:Value}{Q:Unit->Shared->Prop}(I:Inv X jP σ H s) (hN:X.N.Nodup) (hi:X.N[i]?=some x) (hx:Loc X.env.scope x) (r:RelV v u)
  (h:∀s',Inv X jP (σ.set i (some v)) H s'->Q () s') (hf:X.fn x=true\/X.env.scope.names.lookup x=some .local:=by first|exact .inl rfl|exact .inr rfl|assumption):wpAny M A (storeName X.env x u) Q E s :=
 zFn I hN hi hx r (λ s' I' Ω=>h s' I') hf
theorem Inv.call' {s':Shared}{ch:List Addr}(I:Inv X jP σ H s) (ho:s'.os=s.os) (u:Un (frs X.stack) ch H H' s.heap s'.heap) (hok:HOk X.prog X.w H' s'.heap) (hg:AllBare s'.gens)
  (hch:∀b∈ch,(b∈X.ex\/X.s₀.heap.objs.size<=b)/\b≠X.env.locals/\(∀x c,X.env.cells.lookup x=some c->c≠b)/\∀p∈X.pn++jP,p.1≠b):Inv X jP σ H' s':=by
 obtain⟨h',g',d',t',o'⟩:=s';have e:o'=s.os:=ho;subst e;exact I.call (g':=g') (t':=t') (d':=d') u hok hg hch
end
abbrev XK:=Value->Option Addr->Hp->Prop
abbrev St:=List (Option V)
abbrev VK:=V->Hp->Prop
abbrev TE:=St->Hp->VK->Prop
abbrev TT:=St->Hp->(Bool->Hp->Prop)->Prop
abbrev TA:=St->Hp->(List V->Hp->Prop)->Prop
structure Ends where
 nx:St->Hp->Prop
 rt:VK
 bk:St->Hp->Prop:=λ Ω Ω=>False
 ct:St->Hp->Prop:=λ Ω Ω=>False
abbrev TS:=Ends->St->Hp->Prop
def EP (X:Cx) (jP:List (Addr × Obj)) (σ:St) (Q:VK) (u:Value) (s':Shared):Prop:=∃v H',Inv X jP σ H' s'/\RelV v u/\Q v H'
def TP (X:Cx) (jP:List (Addr × Obj)) (σ:St) (Q:Bool->Hp->Prop) (b:Bool) (s':Shared):Prop:=∃H',Inv X jP σ H' s'/\Q b H'
def AP (X:Cx) (jP:List (Addr × Obj)) (σ:St) (Q:List V->Hp->Prop) (us:List Value) (s':Shared):Prop:=∃vs H',Inv X jP σ H' s'/\Vals vs us/\Q vs H'
def SP (X:Cx) (jP:List (Addr × Obj)) (D:Ends) (f:Flow) (s':Shared):Prop :=
 match f with
 |.next=>∃σ' H',Inv X jP σ' H' s'/\D.nx σ' H'
 |.brk=>∃σ' H',Inv X jP σ' H' s'/\D.bk σ' H'
 |.cont=>∃σ' H',Inv X jP σ' H' s'/\D.ct σ' H'
 |.ret u=>∃v σ' H',Inv X jP σ' H' s'/\RelV v u/\D.rt v H'
def PE (X:Cx) (e:Expr) (t:TE):Prop :=
 ∀(jP:List (Addr × Obj)) (s:Shared) (σ:St) (H:Hp) (Q:VK),Inv X jP σ H s->t σ H Q->wpAny (model X.prog X.w) X.A (eval e X.env) (EP X jP σ Q) X.xe s
def PT (X:Cx) (e:Expr) (t:TT):Prop :=
 ∀(jP:List (Addr × Obj)) (s:Shared) (σ:St) (H:Hp) (Q:Bool->Hp->Prop),Inv X jP σ H s->t σ H Q->wpAny (model X.prog X.w) X.A (isTrue e X.env (eval e X.env)) (TP X jP σ Q) X.xe s
def PW (X:Cx) (e:Expr) (t:TT):Prop :=
 ∀(whole:Sem Value) (jP:List (Addr × Obj)) (s:Shared) (σ:St) (H:Hp) (Q:Bool->Hp->Prop),Inv X jP σ H s->t σ H Q->wpAny (model X.prog X.w) X.A (isTrue e X.env whole) (TP X jP σ Q) X.xe s
theorem PW.pt {X:Cx}{e:Expr}{t:TT}(h:PW X e t):PT X e t:=h _
def PA (X:Cx) (es:List Expr) (t:TA):Prop :=
 ∀(pos:Pos) (jP:List (Addr × Obj)) (s:Shared) (σ:St) (H:Hp) (Q:List V->Hp->Prop),Inv X jP σ H s->t σ H Q->wpAny (model X.prog X.w) X.A (spliced (backTo pos (starEach es X.env))) (AP X jP σ Q) X.xe s
def PS (X:Cx) (st:Stmt) (t:TS):Prop :=
 ∀(jP:List (Addr × Obj)) (s:Shared) (σ:St) (H:Hp) (D:Ends),Inv X jP σ H s->t D σ H->wpAny (model X.prog X.w) X.A (exec st X.env) (SP X jP D) X.xe s
def PSs (X:Cx) (st:List Stmt) (t:TS):Prop :=
 ∀(jP:List (Addr × Obj)) (s:Shared) (σ:St) (H:Hp) (D:Ends),Inv X jP σ H s->t D σ H->wpAny (model X.prog X.w) X.A (execs st X.env) (SP X jP D) X.xe s
theorem thn {α:Type}{t:Sem α}{Q Q':α->Shared->Prop}{M:Model}{A:Around}{E:XQ}{s:Shared}(h:wpAny M A t Q E s) (hQ:∀a s,Q a s->Q' a s):wpAny M A t Q' E s:=wpAny_mono h hQ λ Ω Ω x=>x
section
variable {X:Cx}
inductive tVar (i:Nat) (σ:St) (H:Hp) (Q:VK):Prop
 |mk (v:V) (h:σ[i]?=some (some v)) (q:Q v H)
inductive IsB (Q:Bool->Hp->Prop) (x:V) (H:Hp):Prop
 |mk (c:Bool) (h:x = .bl c) (q:Q c H)
def tC (v:V):TE:=λ Ω H Q=>Q v H
theorem zM3 {i:Nat}{x:Str}{pos:Pos}(hN:X.N[i]?=some x) (hv:Vis X.env.scope x) (hd:(x == ("__debug__" : Str))=false:=by decide) (hcd:(x == ("__classdict__" : Str))=false:=by decide):PE X (.Name x pos) (tVar i):=by
 intro jP s σ H Q I h;obtain⟨v,e,h⟩:=h;obtain⟨m,hn,hl⟩:=I.loc;obtain⟨u,r,l⟩:=hl i x v hN e hv;have fin:EP X jP σ Q u s:=⟨v,H,I,r,h⟩;rcases l with ⟨hk,hm⟩|⟨hk,c,hc,hcell⟩
 ·exact wpAny_Name (wpAny_loadName_local I.ok.kind hk hn hm fin) hd
 ·rcases hk with hk|hk
  ·exact wpAny_Name (wpAny_loadName_cell I.ok.kind hk hc hcell fin) hd
  ·exact wpAny_Name (wpAny_loadName_free I.ok.kind hk hc hcell fin hcd) hd
theorem zAI {i j pos}:PE X (.Constant (.int i) j pos) (tC (.int i)):=λ Ω Ω Ω H Ω I h=>wpAny_Constant_int ⟨.int i,H,I.tok _,⟨_,rfl⟩,h⟩
theorem pe_bl {b j pos}:PE X (.Constant (.bool b) j pos) (tC (.bl b)):=λ Ω Ω Ω H Ω I h=>Constant_bool ⟨.bl b,H,I,rfl,h⟩
theorem zK9 {j pos}:PE X (.Constant .none j pos) (tC .non):=λ Ω Ω Ω H Ω I h=>Constant_none ⟨.non,H,I,rfl,h⟩
theorem zAX {x j pos}:PE X (.Constant (.str x) j pos) (tC (.str x)):=λ Ω Ω Ω H Ω I h=>Calls.Constant_str ⟨.str x,H,I.tok _,⟨_,rfl⟩,h⟩
def Gl (X:Cx) (x:Str):Prop:=X.env.kindOf x=some .globalImplicit
theorem zDM {E:XQ}{jP:List (Addr × Obj)}{s:Shared}{σ:St}{H:Hp}{x:Str}{u:Value}{pos:Pos}{Q:XQ}(I:Inv X jP σ H s) (hg:Gl X x) (hm:X.mg x=some u) (h:Q u s)
  (hd:(x == ("__debug__" : Str))=false:=by decide):wpAny (model X.prog X.w) X.A (eval (.Name x pos) X.env) Q E s :=
 Calls.Name_function_global I.ok.kind hg (Calls.loadGlobal_global (by rw[I.ok.glob];exact I.mod.glob.keeps I.bk) hm h) hd
theorem zCR {E:XQ}{jP:List (Addr × Obj)}{s:Shared}{σ:St}{H:Hp}{x:Str}{u:Value}{pos:Pos}{Q:XQ}(I:Inv X jP σ H s) (hg:Gl X x) (hm:X.mg x=none) (hv:bootBuiltins x=some u) (h:Q u s)
  (hn:x ≠ "__name__" := by decide) (hd:(x == ("__debug__" : Str))=false:=by decide):wpAny (model X.prog X.w) X.A (eval (.Name x pos) X.env) Q E s:=by
 obtain⟨mb,h1,h2⟩:=I.mod.blt;exact Calls.Name_function_global I.ok.kind hg (Calls.loadGlobal_builtin (by rw[I.ok.glob];exact I.mod.glob.keeps I.bk) hm (by rw[I.ok.blt];exact h1.keeps I.bk) ((h2 x hn).trans hv) h) hd
theorem zBB {x:Str}{v:V}{u:Value}{pos:Pos}(hg:Gl X x) (hm:X.mg x=some u) (r:RelV v u) (hd:(x == ("__debug__" : Str))=false:=by decide):PE X (.Name x pos) (tC v) :=
 λ Ω Ω Ω H Ω I h=>zDM I hg hm ⟨v,H,I,r,h⟩ hd
theorem zGd {x:Str}{v:V}{u:Value}{pos:Pos}(hg:Gl X x) (hm:X.mg x=none) (hv:bootBuiltins x=some u) (r:RelV v u) (hn:x ≠ "__name__" := by decide) (hd:(x == ("__debug__" : Str))=false:=by decide):PE X (.Name x pos) (tC v) :=
 λ Ω Ω Ω H Ω I h=>zCR I hg hm hv ⟨v,H,I,r,h⟩ hn hd
variable {a b:Expr}{ta tb:TE}{pos:Pos}
def tB (t:TE):TT:=λ σ H Q=>t σ H (IsB Q)
theorem zCv {e:Expr}{t:TE}(h:PE X e t) (he:∀whole,isTrue e X.env whole=(do let v ← whole;standAt e.pos;holding [v] (truthy v)):=by intro _;rfl):PT X e (tB t):=by
  intro jP s σ H Q I hw;refine isTrue_plain (thn (h jP s σ H _ I hw) λ v s1 ⟨x,H1,I1,r1,q1⟩=>?_) (he _);obtain⟨d,rfl,q⟩:=q1;cases r1;exact wpAny_truthy_bool ⟨H1,I1,q⟩
variable {tA tB':TT}{rest:List Expr}
def tAnd (t u:TT):TT:=λ σ H Q=>t σ H λ c H1=>if c=true then u σ H1 Q else Q false H1
def tOr (t u:TT):TT:=λ σ H Q=>t σ H λ c H1=>if c=true then Q true H1 else u σ H1 Q
def tNot (t:TT):TT:=λ σ H Q=>t σ H λ c H1=>Q (!c) H1
theorem zCj (ha:PT X a tA):PW X (.BoolOp .And [a] pos) tA:=by
 intro wh jP s σ H Q I h;refine isTrue_and (thn (ha jP s σ H Q I h) λ c s1 e=>?_);cases c with
 |true=>exact isTrue_and_nil e
 |false=>exact e
theorem zD1 (ha:PT X a tA):PW X (.BoolOp .Or [a] pos) tA:=by
 intro wh jP s σ H Q I h;refine isTrue_or (thn (ha jP s σ H Q I h) λ c s1 e=>?_);cases c with
 |false=>exact isTrue_or_nil e
 |true=>exact e
theorem zD2 (ha:PT X a tA) (hb:PW X (.BoolOp .And (b::rest) pos) tB'):PW X (.BoolOp .And (a::b::rest) pos) (tAnd tA tB'):=by
 intro wh jP s σ H Q I h;refine isTrue_and (thn (ha jP s σ H _ I h) λ c s1 ⟨H1,I1,q1⟩=>?_);cases c with
 |true=>exact hb wh jP s1 σ H1 Q I1 q1
 |false=>exact⟨H1,I1,q1⟩
theorem pw_or (ha:PT X a tA) (hb:PW X (.BoolOp .Or (b::rest) pos) tB'):PW X (.BoolOp .Or (a::b::rest) pos) (tOr tA tB'):=by
 intro wh jP s σ H Q I h;refine isTrue_or (thn (ha jP s σ H _ I h) λ c s1 ⟨H1,I1,q1⟩=>?_);cases c with
 |true=>exact⟨H1,I1,q1⟩
 |false=>exact hb wh jP s1 σ H1 Q I1 q1
theorem zK6 (ha:PT X a tA):PT X (.UnaryOp .Not a pos) (tNot tA):=by
 intro jP s σ H Q I h;exact isTrue_not (ha jP s σ H (λ c H1=>Q (!c) H1) I h)
def tAndV (ta tb:TE):TE:=λ σ H Q=>ta σ H (IsB λ c H1=>if c=true then tb σ H1 Q else Q (.bl false) H1)
def tOrV (ta tb:TE):TE:=λ σ H Q=>ta σ H λ x H1=>∃c,x = .bl c/\if c=true then Q (.bl true) H1 else tb σ H1 Q
def tNotV (ta:TE):TE:=λ σ H Q=>ta σ H (IsB λ c H1=>Q (.bl (!c)) H1)
theorem zB0 {op} {t:TE}(h:PE X a t):PE X (.BoolOp op [a] pos) t:=λ jP s σ H Q I hw=>BoolOp_one (h jP s σ H Q I hw)
theorem zDV (ha:PE X a ta) (hb:PE X (.BoolOp .And (b::rest) pos) tb):PE X (.BoolOp .And (a::b::rest) pos) (tAndV ta tb):=by
 intro jP s σ H Q I h;refine BoolOp_and (thn (ha jP s σ H _ I h) λ v s1 ⟨x,H1,I1,r1,q1⟩=>?_);obtain⟨c,rfl,q1⟩:=q1;cases r1;refine wpAny_truthy_bool ?_;cases c with
 |true=>exact hb jP s1 σ H1 Q I1 q1
 |false=>exact⟨.bl false,H1,I1,rfl,q1⟩
theorem pe_or (ha:PE X a ta) (hb:PE X (.BoolOp .Or (b::rest) pos) tb):PE X (.BoolOp .Or (a::b::rest) pos) (tOrV ta tb):=by
 intro jP s σ H Q I h;refine BoolOp_or (thn (ha jP s σ H _ I h) λ v s1 ⟨x,H1,I1,r1,q1⟩=>?_);obtain⟨c,rfl,q1⟩:=q1;cases r1;refine wpAny_truthy_bool ?_;cases c with
 |false=>exact hb jP s1 σ H1 Q I1 q1
 |true=>exact⟨.bl true,H1,I1,rfl,q1⟩
theorem zK8 (ha:PE X a ta):PE X (.UnaryOp .Not a pos) (tNotV ta):=by
 intro jP s σ H Q I h;refine UnaryOp_ (thn (ha jP s σ H _ I h) λ v s1 ⟨x,H1,I1,r1,q1⟩=>?_);obtain⟨c,rfl,q1⟩:=q1;cases r1;exact not_of (wpAny_truthy_bool ⟨.bl (!c),H1,I1,rfl,q1⟩)
end
def SqL (K:W.Frag) (H:Hp) (a:Addr) (xs:List V):Prop :=
 Rd H a (.lst xs) \/
  ∃(o:Obj) (its:Array Value) (n:Nat),K.lookup a=some o/\o.cls = .type "list" /\ o.dict=none/\o.data = .seq its n/\its.size<=sizeLine/\Vals xs its.toList
def SqT (K:W.Frag) (H:Hp) (a:Addr) (xs:List V):Prop :=
 Rd H a (.tup xs) \/
  ∃(o:Obj) (its:Array Value) (n:Nat),K.lookup a=some o/\o.cls = .type "tuple" /\ o.data = .seq its n/\its.size<=sizeLine/\Vals xs its.toList
noncomputable def absV:Value->Option V
 |.none=>some .non
 |.bool b=>some (.bl b)
 |.int i _=>some (.int i)
 |.str x _=>some (.str x)
 |.bytes b _=>some (.byt b)
 |.float b _=>some (.flt b)
 |.ref a=>some (.ref a)
 |.type n=>some (.ty n)
 |_=>none
theorem RelV.abs {x:V}{u:Value}(r:RelV x u):absV u=some x:=by
 cases x with
 |non=>cases r;rfl
 |bl _=>cases r;rfl
 |int _=>obtain⟨t,rfl⟩:=r;rfl
 |str _=>obtain⟨t,rfl⟩:=r;rfl
 |byt _=>obtain⟨t,rfl⟩:=r;rfl
 |flt _=>obtain⟨t,rfl⟩:=r;rfl
 |ref _=>cases r;rfl
 |ty _=>cases r;rfl
theorem RelV.inj {x y:V}{u:Value}(r:RelV x u) (q:RelV y u):x=y:=mE (r.abs.symm.trans q.abs)
theorem Vals.inj {xs ys:List V}{us:List Value}(h:Vals xs us):Vals ys us->xs=ys:=by
 induction h generalizing ys with
 |nil=>intro z;cases z;rfl
 |cons r t ih=>intro z;cases z with|cons r' t'=>rw[r.inj r',ih t']
section
variable {X:Cx}{jP:List (Addr × Obj)}{σ:St}{H:Hp}{s:Shared}{a:Addr}{xs ys:List V}
theorem SqL.of {K:W.Frag}(h:H a=some (.lst xs)):SqL K H a xs:=.inl (.inl h)
theorem SqT.of {K:W.Frag}(h:H a=some (.tup xs)):SqT K H a xs:=.inl (.inl h)
theorem Inv.list (I:Inv X jP σ H s) (h:SqL X.K H a xs):∃its:List Value,Vals xs its/\PlainL s.heap a its.toArray/\xs.length<=sizeLine:=by
 rcases h with h|⟨o,its,n,hk,hc,hd,hs,hz,r⟩
 ·obtain⟨z,its,n,r,e⟩:=h.ok I.hok
  exact⟨its,r,⟨_,n,e,rfl,rfl,rfl⟩,z⟩
 ·refine⟨its.toList,r,⟨o,n,I.kIn a o hk,hc,hd,by simpa using hs⟩,?_⟩
  have e:=r.length;simp only[Array.length_toList] at e;omega
theorem Inv.tuple (I:Inv X jP σ H s) (h:SqT X.K H a xs):∃its:List Value,Vals xs its/\IsTup s.heap a its.toArray/\xs.length<=sizeLine:=by
 rcases h with h|⟨o,its,n,hk,hc,hs,hz,r⟩
 ·obtain⟨z,its,r,p⟩:=h.ok I.hok
  exact⟨its,r,p,z⟩
 ·refine⟨its.toList,r,⟨o,I.kIn a o hk,hc,n,by simpa using hs⟩,?_⟩
  have e:=r.length;simp only[Array.length_toList] at e;omega
theorem Inv.list_inj (I:Inv X jP σ H s) (h:SqL X.K H a xs) (h':SqL X.K H a ys):xs=ys:=by
 obtain⟨its,r,⟨o,n,e,_,_,d⟩,_⟩:=I.list h;obtain⟨its',r',⟨o',n',e',_,_,d'⟩,_⟩:=I.list h';rw[e] at e';cases e';rw[d] at d';injection d' with d1 _
 have:its=its':=by simpa using congrArg Array.toList d1
 subst this;exact r.inj r'
theorem Inv.tuple_inj (I:Inv X jP σ H s) (h:SqT X.K H a xs) (h':SqT X.K H a ys):xs=ys:=by
 obtain⟨its,r,⟨o,e,_,n,d⟩,_⟩:=I.tuple h;obtain⟨its',r',⟨o',e',_,n',d'⟩,_⟩:=I.tuple h';rw[e] at e';cases e';rw[d] at d';injection d' with d1 _
 have:its=its':=by simpa using congrArg Array.toList d1
 subst this;exact r.inj r'
end
abbrev Cx.wish (X:Cx) (E:XQ):Cx:={ X with xe:=E }
abbrev Cx.nox (X:Cx):Cx:=X.wish λ Ω Ω=>False
theorem Cx.Ok.wish {X:Cx}(ok:X.Ok) (E:XQ):(X.wish E).Ok :=
 ⟨ok.mod,ok.kind,ok.glob,ok.blt,ok.above,ok.inj,ok.has,ok.cab,ok.hd,ok.frames,ok.stk,ok.exf,ok.bs,ok.bsz,ok.noex,ok.exfs,ok.funs,ok.frf⟩
theorem Cx.Ok.unwish {X:Cx}{E:XQ}(ok:(X.wish E).Ok):X.Ok :=
 ⟨ok.mod,ok.kind,ok.glob,ok.blt,ok.above,ok.inj,ok.has,ok.cab,ok.hd,ok.frames,ok.stk,ok.exf,ok.bs,ok.bsz,ok.noex,ok.exfs,ok.funs,ok.frf⟩
section
variable {X:Cx}{jP:List (Addr × Obj)}{σ:St}{H:Hp}{s:Shared}{E:XQ}
theorem Inv.wish (I:Inv X jP σ H s) (E:XQ):Inv (X.wish E) jP σ H s:=⟨I.ok.wish E,I.os,I.bare,I.base,I.loc,I.cell,I.free,I.freeC,I.pin,I.hok,I.len⟩
theorem Inv.unwish (I:Inv (X.wish E) jP σ H s):Inv X jP σ H s:=⟨I.ok.unwish,I.os,I.bare,I.base,I.loc,I.cell,I.free,I.freeC,I.pin,I.hok,I.len⟩
theorem SP.unwish {D:Ends}{f:Flow}{s':Shared}(h:SP (X.wish E) jP D f s'):SP X jP D f s':=by
 cases f with
 |next=>obtain⟨σ',H',I,q⟩:=h;exact⟨σ',H',I.unwish,q⟩
 |brk=>obtain⟨σ',H',I,q⟩:=h;exact⟨σ',H',I.unwish,q⟩
 |cont=>obtain⟨σ',H',I,q⟩:=h;exact⟨σ',H',I.unwish,q⟩
 |ret u=>obtain⟨v,σ',H',I,r,q⟩:=h;exact⟨v,σ',H',I.unwish,r,q⟩
theorem PSs.nox {st:List Stmt}{t:TS}(h:PSs X.nox st t):PSs X st t:=λ jP s σ H D I hw =>
 wpAny_mono (h jP s σ H D (I.wish _) hw) (λ Ω Ω q=>q.unwish) λ Ω Ω z=>False.elim z
end
section
variable {X:Cx}{st:Stmt}{rest:List Stmt}{t u:TS}{e:Expr}{te:TE}{pos:Pos}
def tNext:TS:=λ D σ H=>D.nx σ H
def tSeq (t u:TS):TS:=λ D σ H=>t { D with nx:=u D } σ H
theorem zAY:PSs X [] tNext:=λ _ _ σ H _ I h=>wpAny_execs_nil ⟨σ,H,I,h⟩
theorem zAE (h1:PS X st t) (h2:PSs X rest u):PSs X (st::rest) (tSeq t u):=by
 intro jP s σ H D I h;refine wpAny_execs_cons (thn (h1 jP s σ H { D with nx:=u D } I h) λ f s1 q=>?_);cases f with
 |next =>
  obtain⟨σ',H',I',q⟩:=q;exact h2 jP s1 σ' H' D I' q
 |ret v=>exact q
 |brk=>exact q
 |cont=>exact q
theorem zAF (h1:PS X st t):PSs X [st] t:=by
 intro jP s σ H D I h;refine wpAny_execs_cons (thn (h1 jP s σ H D I h) λ f s1 q=>?_);cases f with
 |next=>exact wpAny_execs_nil q
 |ret v=>exact q
 |brk=>exact q
 |cont=>exact q
theorem Inv.quiet {jP:List (Addr × Obj)}{σ:St}{H:Hp}{s:Shared}(I:Inv X jP σ H s):interactive X.env=false:=by simp[interactive,I.ok.kind]
def tDrop (te:TE):TS:=λ D σ H=>te σ H λ Ω H1=>D.nx σ H1
theorem zBw (he:PE X e te) (hs:swapsWith e none pos.line X.env=pure false:=by rfl):PS X (.Expr e pos) (tDrop te):=by
 intro jP s σ H D I h;exact wpAny_Expr_any (thn (he jP s σ H _ I h) λ v s1 ⟨x,H1,I1,r1,q1⟩=>⟨σ,H1,I1,q1⟩) I.quiet hs
def tRet (te:TE):TS:=λ D σ H=>te σ H D.rt
theorem zAV (he:PE X e te):PS X (.Return (some e) pos) (tRet te):=by
 intro jP s σ H D I h;exact wpAny_Return_some (thn (he jP s σ H _ I h) λ v s1 ⟨x,H1,I1,r1,q1⟩=>⟨x,σ,H1,I1,r1,q1⟩)
def tIfS (c:TT) (t u:TS):TS:=λ D σ H=>c σ H λ b H1=>if b=true then t D σ H1 else u D σ H1
theorem ps_if {c:Expr}{a b:List Stmt}{tc:TT}(hc:PT X c tc) (ha:PSs X a t) (hb:PSs X b u):PS X (.If c a b pos) (tIfS tc t u):=by
 intro jP s σ H D I h;refine wpAny_If (thn (hc jP s σ H _ I h) λ d s1 ⟨H1,I1,q1⟩=>?_);cases d with
 |true=>exact ha jP s1 σ H1 D I1 q1
 |false=>exact hb jP s1 σ H1 D I1 q1
def zMh:TS:=λ Ω Ω Ω=>False
theorem zIW {sts:List Stmt}:PSs X sts zMh:=λ Ω Ω Ω Ω Ω Ω h=>h.elim
end
abbrev TG:=V->St->Hp->(St->Hp->Prop)->Prop
abbrev TGs:=List V->St->Hp->(St->Hp->Prop)->Prop
def PG (X:Cx) (target:Expr) (t:TG):Prop :=
 ∀(jP:List (Addr × Obj)) (s:Shared) (σ:St) (H:Hp) (v:V) (u:Value) (Q:St->Hp->Prop),Inv X jP σ H s->RelV v u->t v σ H Q ->
  wpAny (model X.prog X.w) X.A (assign target X.env u) (λ Ω s'=>∃σ' H',Inv X jP σ' H' s'/\Q σ' H') X.xe s
def PGs (X:Cx) (ts:List Expr) (t:TGs):Prop :=
 ∀(jP:List (Addr × Obj)) (s:Shared) (σ:St) (H:Hp) (vs:List V) (us:List Value) (Q:St->Hp->Prop),Inv X jP σ H s->Vals vs us->t vs σ H Q ->
  wpAny (model X.prog X.w) X.A (assignInOrder ((assignEach ts X.env).map (·.2)) us) (λ Ω s'=>∃σ' H',Inv X jP σ' H' s'/\Q σ' H') X.xe s
abbrev TSet:=V->V->V->Hp->(Hp->Prop)->Prop
def PSet (X:Cx) (t:TSet):Prop :=
 ∀(jP:List (Addr × Obj)) (s:Shared) (σ:St) (H:Hp) (o i v:V) (ov iv u:Value) (Q:Hp->Prop),Inv X jP σ H s->RelV o ov->RelV i iv->RelV v u->t o i v H Q ->
  wpAny (model X.prog X.w) X.A (setItem ov iv u) (λ Ω s'=>∃H',Inv X jP σ H' s'/\Q H') X.xe s
abbrev TIp:=V->V->Hp->VK->Prop
def PIp (X:Cx) (op:Operator) (t:TIp):Prop :=
 ∀(jP:List (Addr × Obj)) (s:Shared) (σ:St) (H:Hp) (x y:V) (v u:Value) (Q:VK),Inv X jP σ H s->RelV x v->RelV y u->t x y H Q ->
  wpAny (model X.prog X.w) X.A (inplaceOp op v u) (EP X jP σ Q) X.xe s
section
variable {X:Cx}{pos:Pos}
def gName (i:Nat):TG:=λ v σ H Q=>Q (σ.set i (some v)) H
theorem zAf {i:Nat}{x:Str}(hN:X.N.Nodup) (hi:X.N[i]?=some x) (hx:Loc X.env.scope x) (hf:X.fn x=true\/X.env.scope.names.lookup x=some .local:=by first|exact .inl rfl|exact .inr rfl|assumption):PG X (.Name x pos) (gName i):=by
 intro jP s σ H v u Q I r h;exact wpAny_assign_Name (zDh I hN hi hx r (λ s' I'=>⟨_,H,I',h⟩) hf)
theorem pGn {i:Nat}{x:Str}(hN:X.N.Nodup)(hi:X.N[i]?=some x:=by rfl)(hx:Loc X.env.scope x:=by exact Or.inl rfl)(hf:X.fn x=true\/X.env.scope.names.lookup x=some .local:=by first|exact .inl rfl|exact .inr rfl|assumption):PG X (.Name x pos) (gName i):=zAf hN hi hx hf
def gNil:TGs:=λ vs σ H Q=>vs=[]/\Q σ H
inductive gCons (t:TG) (u:TGs) (vs:List V) (σ:St) (H:Hp) (Q:St->Hp->Prop):Prop
 |mk (v:V) (r:List V) (h:vs=v::r) (q:t v σ H λ σ' H'=>u r σ' H' Q)
theorem zBL:PGs X [] gNil:=by
 intro jP s σ H vs us Q I r h;obtain⟨e,h⟩:=h;subst e;cases r;exact assignInOrder_nil ⟨σ,H,I,h⟩
theorem zAZ {e:Expr}{es:List Expr}{t:TG}{u:TGs}(h1:PG X e t) (h2:PGs X es u)
  (hs:(assignEach (e::es) X.env).map (·.2)=assign e X.env::(assignEach es X.env).map (·.2):=by rfl):PGs X (e::es) (gCons t u):=by
 intro jP s σ H vs us Q I r h;obtain⟨v,vr,e1,h⟩:=h;subst e1;cases r with
 |cons r rr =>
  rw[hs];refine assignInOrder_cons (thn (h1 jP s σ H _ _ _ I r h) λ _ s1 ⟨σ1,H1,I1,q1⟩=>?_);exact h2 jP s1 σ1 H1 _ _ Q I1 rr q1
def gTup (K:W.Frag) (n:Nat) (t:TGs):TG:=λ v σ H Q=>∃a xs,v = .ref a/\SqT K H a xs/\xs.length=n/\t xs σ H Q
theorem zCc {es:List Expr}{k:Nat}{t:TGs}{n:Nat}(hc:X.calm=true) (h:PGs X es t)
  (hn:(assignEach es X.env).length=n:=by rfl) (hst:(assignEach es X.env).findIdx? (·.1)=none:=by rfl):PG X (.Tuple es k pos) (gTup X.K n t):=by
 intro jP s σ H v u Q I r hw;obtain⟨a,xs,e1,hq,hl,hw⟩:=hw;subst e1;cases r;obtain⟨its,rv,ht,hz⟩:=I.tuple hq;refine assign_Tuple_tuple (I.ok.hd hc) ht (by simp[hn,←hl,rv.length]) hst λ h' hx=>?_;have I1:Inv X jP σ H { s with heap:=h' }:=I.kept (t':=s.toks) λ b o e=>hx b o (lS (lI e)) e;exact h jP _ σ H xs _ Q I1 (by simpa using rv) hw
def gSub (to ti:TE) (t:TSet):TG:=λ v σ H Q=>to σ H λ o H1=>ti σ H1 λ i H2=>t o i v H2 λ H3=>Q σ H3
theorem zIf {o i:Expr}{to ti:TE}{t:TSet}(ho:PE X o to) (hi:PE X i ti) (hs:PSet X t)
  (ha:∀v,assign (.Subscript o i pos) X.env v=(do
   let ov ← holding [v] (eval o X.env)
   let iv ← holding [v,ov] (eval i X.env)
   standAt pos
   holding [v,ov,iv] (setItem ov iv v)
   release [v,ov,iv] []):=by intro _;rfl):PG X (.Subscript o i pos) (gSub to ti t):=by
 intro jP s σ H v u Q I r h;rw[ha];refine lA (lE (thn (ho jP s σ H _ I h) λ ov s1 ⟨x,H1,I1,r1,q1⟩=>?_));refine lA (lE (thn (hi jP s1 σ H1 _ I1 q1) λ iv s2 ⟨y,H2,I2,r2,q2⟩=>?_));refine lA (wpAny_standAt (lA (lE (thn (hs jP s2 σ H2 x y v ov iv u _ I2 r1 r2 r q2) λ _ s3 ⟨H3,I3,q3⟩=>?_))));exact wpAny_release ⟨σ,H3,I3,q3⟩
def tAsg (te:TE) (g:TG):TS:=λ D σ H=>te σ H λ x H1=>g x σ H1 D.nx
theorem zHH {tg e:Expr}{te:TE}{g:TG}(he:PE X e te) (hg:PG X tg g) (hs:swapsWithSole [tg] e pos.line X.env=pure false:=by rfl) (hw:swappedStores [tg] e X.env=pure none:=by rfl)
  (h1:(assignEach [tg] X.env).map (·.2)=[assign tg X.env]:=by rfl):PS X (.Assign [tg] e pos) (tAsg te g):=by
 intro jP s σ H D I h;refine wpAny_Assign_stores (thn (he jP s σ H _ I h) λ v s1 ⟨x,H1,I1,r1,q1⟩=>?_) hs hw;rw[h1];exact thn (hg jP s1 σ H1 x v _ I1 r1 q1) λ Ω s2 q=>q
theorem zHF {i:Nat}{x:Str}{e:Expr}{te:TE}{pos':Pos}(hN:X.N.Nodup) (hi:X.N[i]?=some x) (hx:Loc X.env.scope x) (he:PE X e te) (hs:swapsWith e (some (.Name x pos')) pos.line X.env=pure false:=by rfl) (hf:X.fn x=true\/X.env.scope.names.lookup x=some .local:=by first|exact .inl rfl|exact .inr rfl|assumption) :
  PS X (.Assign [.Name x pos'] e pos) (tAsg te (gName i)):=by
 intro jP s σ H D I h;refine wpAny_Assign_Name (thn (he jP s σ H _ I h) λ v s1 ⟨y,H1,I1,r1,q1⟩=>?_) hs;exact zDh I1 hN hi hx r1 (λ s2 I2=>⟨_,H1,I2,q1⟩) hf
theorem pS {i:Nat}{x:Str}{e:Expr}{te:TE}{pos':Pos}(hN:X.N.Nodup)(he:PE X e te)(hi:X.N[i]?=some x:=by rfl)(hx:Loc X.env.scope x:=by exact Or.inl rfl)(hs:swapsWith e (some (.Name x pos')) pos.line X.env=pure false:=by rfl)(hf:X.fn x=true\/X.env.scope.names.lookup x=some .local:=by first|exact .inl rfl|exact .inr rfl|assumption):PS X (.Assign [.Name x pos'] e pos) (tAsg te (gName i)):=zHF hN hi hx he hs hf
def tAug (i:Nat) (te:TE) (ti:TIp):TS:=λ D σ H=>∃x,σ[i]?=some (some x)/\te σ H λ y H1=>ti x y H1 λ z H2=>D.nx (σ.set i (some z)) H2
theorem zMz {i:Nat}{x:Str}{e:Expr}{te:TE}{op:Operator}{ti:TIp}{pos':Pos}(hN:X.N.Nodup) (hi:X.N[i]?=some x) (hx:Loc X.env.scope x) (he:PE X e te) (ho:PIp X op ti) (hf:X.fn x=true\/X.env.scope.names.lookup x=some .local:=by first|exact .inl rfl|exact .inr rfl|assumption) :
  PS X (.AugAssign (.Name x pos') op e pos) (tAug i te ti):=by
 intro jP s σ H D I h;obtain⟨v,e1,h⟩:=h;obtain⟨m,hn,hl⟩:=I.loc;have vis:Vis X.env.scope x:=by rcases hx with k|k;exact .inl k;exact .inr (.inl k)
 obtain⟨u,r,l⟩:=hl i x v hi e1 vis;refine wpAny_AugAssign_Name ?_
 have go:wpAny (model X.prog X.w) X.A (eval e X.env) (λ w s₂=>wpAny (model X.prog X.w) X.A (inplaceOp op u w) (λ r s₃=>wpAny (model X.prog X.w) X.A (storeName X.env x r) (λ Ω=>SP X jP D .next) X.xe s₃) X.xe s₂) X.xe s:=by
  refine thn (he jP s σ H _ I h) λ w s1 ⟨y,H1,I1,r1,q1⟩=>?_;refine thn (ho jP s1 σ H1 v y u w _ I1 r r1 q1) λ z s2 ⟨zv,H2,I2,r2,q2⟩=>?_;exact zDh I2 hN hi hx r2 (λ s3 I3=>⟨_,H2,I3,q2⟩) hf
 rcases l with ⟨hk,hm⟩|⟨hk,c,hc,hcell⟩
 ·exact wpAny_loadName_local I.ok.kind hk hn hm go
 ·rcases hk with hk|hk
  ·exact wpAny_loadName_cell I.ok.kind hk hc hcell go
  ·rcases hx with k|k
   ·have:X.env.scope.names.lookup x=some .free:=hk
    rw[k] at this;cases this
   ·have:X.env.scope.names.lookup x=some .free:=hk
    rw[k] at this;cases this
def ipI (f:Int->Int->Int):TIp:=λ x y H Q=>∃i j,x = .int i/\y = .int j/\Q (.int (f i j)) H
theorem zNS:PIp X .Add (ipI λ i j=>i+j):=by
 intro jP s σ H x y v u Q I r1 r2 h;obtain⟨i,j,e1,e2,q⟩:=h;subst e1;subst e2;obtain⟨t,rfl⟩:=r1;obtain⟨t',rfl⟩:=r2;exact iadd_int ⟨.int _,H,I.tok _,⟨_,rfl⟩,q⟩
end
section
variable {X:Cx}{pos:Pos}
def zMf (c:TT) (tb:TS):TS:=λ D σ H=>∃W:Nat->St->Hp->Prop,(∃m,W m σ H)/\∀m σ H,W m σ H ->
 c σ H λ b H1=>if b=true then ∃N:St->Hp->Prop,(∀σ' H',N σ' H'->∃m',m'<m/\W m' σ' H')/\tb { D with nx:=N,ct:=N,bk:=D.nx } σ H1 else D.nx σ H1
theorem zCZ {c:Expr}{body:List Stmt}{tc:TT}{tb:TS}(hp:PassesOwn (model X.prog X.w) X.A X.env X.xe) (hc:PT X c tc) (hb:PSs X body tb):PS X (.While c body [] pos) (zMf tc tb):=by
 intro jP s σ H D I h;obtain⟨W,⟨m0,w0⟩,turn⟩:=h;refine wpAny_While (codeAny_whileLoop (λ n s'=>∃σ' H',Inv X jP σ' H' s'/\W n σ' H') ?_ m0 ⟨σ,H,I,w0⟩);rintro n s1 ⟨σ1,H1,I1,w1⟩;refine wpAny_passesOwn hp (thn (hc jP s1 σ1 H1 _ I1 (turn n σ1 H1 w1)) λ b s2 ⟨H2,I2,q2⟩=>?_);cases b with
 |true =>
  obtain⟨N,hN,q2⟩:=q2;rw[if_pos rfl];refine wpAny_passesOwn hp (thn (hb jP s2 σ1 H2 _ I2 q2) λ f s3 q3=>?_);cases f with
  |next =>
   obtain⟨σ3,H3,I3,n3⟩:=q3;obtain⟨m',hm,w3⟩:=hN σ3 H3 n3;exact⟨m',hm,σ3,H3,I3,w3⟩
  |cont =>
   obtain⟨σ3,H3,I3,n3⟩:=q3;obtain⟨m',hm,w3⟩:=hN σ3 H3 n3;exact⟨m',hm,σ3,H3,I3,w3⟩
  |brk=>exact q3
  |ret v=>exact q3
 |false =>
  rw[if_neg Bool.false_ne_true];exact wpAny_execs_nil ⟨σ1,H2,I2,q2⟩
end
structure It where
 go:Nat->Hp->Prop
 yld:Nat->Hp->V->Hp->Prop
 stop:Nat->Hp->Prop
def FpOk (X:Cx) (jP:List (Addr × Obj)) (H:Hp) (b:Addr):Prop :=
 H b=none/\b≠X.env.locals/\b∉X.fs/\(b∈X.ex\/X.s₀.heap.objs.size<=b)/\(∀x c,X.env.cells.lookup x=some c->c≠b)/\∀p∈X.pn++jP,p.1≠b
theorem Inv.fpOk {X:Cx}{jP:List (Addr × Obj)}{σ:St}{H H':Hp}{s:Shared}{b:Addr}(I:Inv X jP σ H s) (hb:s.heap.objs.size<=b) (hn:H' b=none):FpOk X jP H' b:=by
 refine⟨hn,Nat.ne_of_gt (lZ I.lt hb),I.nofs hb,.inr (mG I.sz hb),λ x c e z=>?_,λ p hp z=>?_⟩
 ·obtain⟨v,q⟩:=I.cell x c e
  exact absurd (lZ q.lt (by rw[z];exact hb)) (Nat.lt_irrefl _)
 ·exact absurd (lZ (lI (I.pin p hp).1) (by rw[z];exact hb)) (Nat.lt_irrefl _)
structure Turn (P:Program) (w:World) (K:W.Frag) (tg:Expr) (J:It) (fp:List Addr) (it:Addr) (tn:Nat->Heap->Prop):Prop where
 mem:it∈fp
 obj:∀i h,tn i h->∀b∈fp,∃o,h.get? b=some o/\∀v,o.data ≠ .cell v
 keep:∀i h h',tn i h->(∀b∈fp,∀o,h.get? b=some o->h'.get? b=some o)->tn i h'
 item:∀(X:Cx),X.prog=P->X.w=w->X.K=K->X.calm=true->∀(i:Nat) (jP:List (Addr × Obj)) (s:Shared) (σ:St) (H:Hp) (E:XQ),Inv X jP σ H s->(∀b∈fp,FpOk X jP H b)->tn i s.heap->J.go i H ->
  wpAny (model P w) X.A (pyNext (.ref it)) (λ r s1=>∃u,r=some u /\
   wpAny (model P w) X.A (letOwnedTupleGo tg (.ref it) u) (λ Ω s2=>∃x H',Inv X jP σ H' s2/\RelV x u/\J.yld i H x H'/\tn (i+1) s2.heap/\∀b∈fp,H' b=none) E s1) E s
 done:∀(X:Cx),X.prog=P->X.w=w->X.K=K->X.calm=true->∀(i:Nat) (jP:List (Addr × Obj)) (s:Shared) (σ:St) (H:Hp) (E:XQ),Inv X jP σ H s->(∀b∈fp,FpOk X jP H b)->tn i s.heap->J.stop i H ->
  wpAny (model P w) X.A (pyNext (.ref it)) (λ r s1=>r=none/\Inv X jP σ H s1) E s
 self:∀(A:Around) (i:Nat) (s:Shared) (Q:XQ) (E:XQ),tn i s.heap->Q (.ref it) s->wpAny (model P w) A (pyIter (.ref it)) Q E s
abbrev TI:=St->Hp->(It->Hp->Prop)->Prop
def PIE (X:Cx) (jP:List (Addr × Obj)) (σ:St) (tg:Expr) (R:It->Hp->Prop) (itv:Value) (s2:Shared):Prop :=
 ∃(it:Addr) (fp:List Addr) (tn:Nat->Heap->Prop) (J:It) (H':Hp),itv = .ref it/\Inv X jP σ H' s2/\Turn X.prog X.w X.K tg J fp it tn/\tn 0 s2.heap/\(∀b∈fp,FpOk X jP H' b)/\R J H'
def PI (X:Cx) (tg iter:Expr) (wi:TI):Prop :=
 ∀(jP:List (Addr × Obj)) (s:Shared) (σ:St) (H:Hp) (R:It->Hp->Prop),Inv X jP σ H s->wi σ H R ->
  wpAny (model X.prog X.w) X.A (eval iter X.env) (λ v s1=>wpAny (model X.prog X.w) X.A (pyIter v) (PIE X jP σ tg R) X.xe s1) X.xe s
theorem go_of {M:Model}{A:Around}{E:XQ}{s:Shared}{tg:Expr}{it:Addr}{u:Value}{o:Obj}{n:String}{vs:Array Value}{Q:Unit->Shared->Prop}(ho:s.heap.get? it=some o) (hc:o.cls = .type n) (hd:o.data = .fields vs)
    (hn:["enumerate", "zip", "dict_itemiterator", "dict_reverseitemiterator", "odict_iterator", "itertools.zip_longest", "itertools.pairwise"].contains n=false) (hQ:Q () s):wpAny M A (letOwnedTupleGo tg (.ref it) u) Q E s:=by
  unfold letOwnedTupleGo
  cases tg<;>first
    |exact lB hQ
    | (cases u<;>first
        |exact lB hQ
        | (refine lA (wpAny_load ho ?_)
           rw[hc,hd];show wpAny M A (if (["enumerate", "zip", "dict_itemiterator", "dict_reverseitemiterator", "odict_iterator", "itertools.zip_longest", "itertools.pairwise"].contains n && vs[0]? == some (rawInt _))=true then _ else _) Q E s;rw[if_neg (by intro h;rw[hn,Bool.false_and] at h;cases h)];exact lB hQ))
noncomputable def Itl (K:W.Frag) (a:Addr):It :=
 ⟨λ i H=>∃xs x,SqL K H a xs/\xs[i]?=some x,λ i H x H'=>H'=H/\∀xs,SqL K H a xs->xs[i]?=some x,λ i H=>∃xs,SqL K H a xs/\xs.length<=i⟩
noncomputable def Itt (K:W.Frag) (a:Addr):It :=
 ⟨λ i H=>∃xs x,SqT K H a xs/\xs[i]?=some x,λ i H x H'=>H'=H/\∀xs,SqT K H a xs->xs[i]?=some x,λ i H=>∃xs,SqT K H a xs/\xs.length<=i⟩
noncomputable def Itr (lo:Int) (n:Nat):It:=⟨λ i Ω=>i<n,λ i H x H'=>H'=H/\x = .int (lo+i),λ i Ω=>n<=i⟩
theorem zIC {P:Program}{w:World}{K:W.Frag}{tg:Expr}(a it:Addr):Turn P w K tg (Itl K a) [it] it (λ i h=>h.IsListIter it a i) where
 mem:=by simp
 obj:=λ i h st b hb=>by
  have e:b=it:=by simpa using hb
  subst e;obtain⟨o,e,c,d⟩:=st;exact⟨o,e,λ v z=>by rw[d] at z;cases z⟩
 keep:=λ i h h' st k=>st.at λ o e=>k it (by simp) o e
 item:=by
  intro X hP hw hK hc i jP s σ H E I hf st hg;subst hP hw hK;obtain⟨xs,x,hq,hx⟩:=hg;obtain⟨its,rv,p,hz⟩:=I.list hq;obtain⟨u,hu,ru⟩:=rv.get hx;obtain⟨f0,f1,f2,f3,f4,f5⟩:=hf it (by simp);refine wpAny_pyNext_list_item st p.isList (x:=u) (by simpa using hu) λ h' st' sb=>?_;have I1:Inv X jP σ H { s with heap:=h' }:=I.turned (t':=s.toks) (λ b o hb e=>(sb.2 b hb).trans e) f0 f1 f3 f4 f5;obtain⟨o,e,c,d⟩:=id st';exact⟨u,rfl,go_of (s:={ s with heap:=h' }) e c d (by decide) ⟨x,H,I1,ru,⟨rfl,λ ys hy=>by rw[I.list_inj hy hq];exact hx⟩,st',λ b hb=>(hf b hb).1⟩⟩
 done:=by
  intro X hP hw hK hc i jP s σ H E I hf st hg;subst hP hw hK;obtain⟨xs,hq,hx⟩:=hg;obtain⟨its,rv,p,hz⟩:=I.list hq;obtain⟨f0,f1,f2,f3,f4,f5⟩:=hf it (by simp);have hl:=rv.length;exact wpAny_pyNext_list_end (I.ok.hd hc) st p.isList (by simp;omega) λ h' eb=>⟨rfl,I.turned (t':=s.toks) (λ b o hb e=>eb b o hb e) f0 f1 f3 f4 f5⟩
 self:=λ Ω Ω Ω Ω Ω st h=>wpAny_pyIter_listiter st h
theorem zHd {P:Program}{w:World}{K:W.Frag}{tg:Expr}(a it:Addr):Turn P w K tg (Itt K a) [it] it (λ i h=>h.IsTupleIter it a i) where
 mem:=by simp
 obj:=λ i h st b hb=>by
  have e:b=it:=by simpa using hb
  subst e;obtain⟨o,e,c,d⟩:=st;exact⟨o,e,λ v z=>by rw[d] at z;cases z⟩
 keep:=λ i h h' st k=>st.at λ o e=>k it (by simp) o e
 item:=by
  intro X hP hw hK hc i jP s σ H E I hf st hg;subst hP hw hK;obtain⟨xs,x,hq,hx⟩:=hg;obtain⟨its,rv,p,hz⟩:=I.tuple hq;obtain⟨u,hu,ru⟩:=rv.get hx;obtain⟨f0,f1,f2,f3,f4,f5⟩:=hf it (by simp);refine wpAny_pyNext_tuple_item st (show s.heap.IsTuple a its.toArray from p) (x:=u) (by simpa using hu) λ h' st' sb=>?_;have I1:Inv X jP σ H { s with heap:=h' }:=I.turned (t':=s.toks) (λ b o hb e=>(sb.2 b hb).trans e) f0 f1 f3 f4 f5;obtain⟨o,e,c,d⟩:=id st';exact⟨u,rfl,go_of (s:={ s with heap:=h' }) e c d (by decide) ⟨x,H,I1,ru,⟨rfl,λ ys hy=>by rw[I.tuple_inj hy hq];exact hx⟩,st',λ b hb=>(hf b hb).1⟩⟩
 done:=by
  intro X hP hw hK hc i jP s σ H E I hf st hg;subst hP hw hK;obtain⟨xs,hq,hx⟩:=hg;obtain⟨its,rv,p,hz⟩:=I.tuple hq;obtain⟨f0,f1,f2,f3,f4,f5⟩:=hf it (by simp);have hl:=rv.length;exact wpAny_pyNext_tuple_end (I.ok.hd hc) st (show s.heap.IsTuple a its.toArray from p) (by simp;omega) λ h' eb=>⟨rfl,I.turned (t':=s.toks) (λ b o hb e=>eb b o hb e) f0 f1 f3 f4 f5⟩
 self:=λ Ω Ω Ω Ω Ω st h=>wpAny_pyIter_tupleiter st h
theorem zHe {P:Program}{w:World}{K:W.Frag}{tg:Expr}(it:Addr) (lo:Int) (n:Nat):Turn P w K tg (Itr lo n) [it] it (λ i h=>IsRangeIter h it (lo+(i:Nat) * 1) ((n:Int) - (i:Nat)) 1) where
 mem:=by simp
 obj:=λ i h st b hb=>by
  have e:b=it:=by simpa using hb
  subst e
  exact⟨_,st,λ v z=>by
   have z':Data.fields _=Data.cell v:=z;cases z'⟩
 keep:=λ i h h' st k=>k it (by simp) _ st
 item:=by
  intro X hP hw hK hc i jP s σ H E I hf st hg;subst hP hw hK;obtain⟨f0,f1,f2,f3,f4,f5⟩:=hf it (by simp);have W:=Walks.range (prog:=X.prog) (w:=X.w) (I.ok.hd hc) it lo 1 n;refine W.item i s _ _ hg st λ v h' tk hv st' kk=>?_;obtain⟨t,rfl⟩:=hv;have I1:Inv X jP σ H { s with heap:=h',toks:=tk }:=I.turned (λ b o hb e=>kk b o (by simpa using hb) e) f0 f1 f3 f4 f5;refine⟨_,rfl,go_of (s:={ s with heap:=h',toks:=tk }) (n := "range_iterator") st' rfl rfl (by decide) ⟨.int (lo+i),H,I1,⟨t,?_⟩,⟨rfl,rfl⟩,st',λ b hb=>(hf b hb).1⟩⟩;rw[Int.mul_one]
 done:=by
  intro X hP hw hK hc i jP s σ H E I hf st hg;subst hP hw hK;obtain⟨f0,f1,f2,f3,f4,f5⟩:=hf it (by simp);exact wpAny_pyNext_range_end (I.ok.hd hc) st (by have:n<=i:=hg;omega) λ h' eb=>⟨rfl,I.turned (t':=s.toks) (λ b o hb e=>eb b o hb e) f0 f1 f3 f4 f5⟩
 self:=λ Ω Ω Ω Ω Ω st h=>wpAny_pyIter_rangeiter st h
section
variable {X:Cx}{tg:Expr}
def iList (K:W.Frag) (tl:TE):TI:=λ σ H R=>tl σ H λ x H1=>∃a,x = .ref a/\(∃xs,SqL K H1 a xs)/\R (Itl K a) H1
def iTup (K:W.Frag) (tl:TE):TI:=λ σ H R=>tl σ H λ x H1=>∃a,x = .ref a/\(∃xs,SqT K H1 a xs)/\R (Itt K a) H1
theorem zAs {l:Expr}{tl:TE}(hl:PE X l tl):PI X tg l (iList X.K tl):=by
 intro jP s σ H R I h;refine thn (hl jP s σ H _ I h) λ v s1 ⟨x,H1,I1,r1,q1⟩=>?_;obtain⟨a,e,⟨xs,hq⟩,q⟩:=q1;subst e;cases r1;obtain⟨its,rv,p,hz⟩:=I1.list hq;refine wpAny_pyIter_list p.isList ?_;refine⟨s1.heap.objs.size,[s1.heap.objs.size],_,_,H1,rfl,I1.kept (t':=s1.toks) λ b o e=>lG _ e,zIC a _,⟨_,lH _ rfl,rfl,rfl⟩,λ b hb=>?_,q⟩;have e:b=s1.heap.objs.size:=by simpa using hb
 subst e;exact I1.fpOk (lQ _) (I1.hok.fresh (lQ _))
theorem zCH {l:Expr}{tl:TE}(hl:PE X l tl):PI X tg l (iTup X.K tl):=by
 intro jP s σ H R I h;refine thn (hl jP s σ H _ I h) λ v s1 ⟨x,H1,I1,r1,q1⟩=>?_;obtain⟨a,e,⟨xs,hq⟩,q⟩:=q1;subst e;cases r1;obtain⟨its,rv,p,hz⟩:=I1.tuple hq;refine wpAny_pyIter_tuple (show s1.heap.IsTuple a its.toArray from p) ?_;refine⟨s1.heap.objs.size,[s1.heap.objs.size],_,_,H1,rfl,I1.kept (t':=s1.toks) λ b o e=>lG _ e,zHd a _,⟨_,lH _ rfl,rfl,rfl⟩,λ b hb=>?_,q⟩;have e:b=s1.heap.objs.size:=by simpa using hb
 subst e;exact I1.fpOk (lQ _) (I1.hok.fresh (lQ _))
theorem zHD {jP:List (Addr × Obj)}{σ:St}{H:Hp}{s:Shared}{R:It->Hp->Prop}{E:XQ}{lo hi:Int}{t u v:Tok}{tk:Nat}(I:Inv X jP σ H s) (h1:-(2 ^ 62)<=lo) (h2:lo<2 ^ 62) (h3:-(2 ^ 62)<=hi) (h4:hi<2 ^ 62)
  (q:R (Itr lo (hi - lo).toNat) H):wpAny (model X.prog X.w) X.A (pyIter (.ref s.heap.objs.size)) (PIE X jP σ tg R) E { s with heap:=s.heap.push { cls:=.type "range", data:=.fields #[.int lo t,.int hi u,.int 1 v] },toks:=tk }:=by
 refine wpAny_pyIter_range (IsRange.new ..) (small_one h1 h2 h3 h4) ?_;have I1:Inv X jP σ H { s with heap:=s.heap.push { cls:=.type "range", data:=.fields #[.int lo t,.int hi u,.int 1 v] },toks:=tk }:=I.kept λ b o e=>lG _ e
 refine⟨(s.heap.push { cls:=.type "range", data:=.fields #[.int lo t,.int hi u,.int 1 v] }).objs.size,[(s.heap.push { cls:=.type "range", data:=.fields #[.int lo t,.int hi u,.int 1 v] }).objs.size],_,_,H,rfl,
  I1.kept (t':=tk) λ b o e=>lG _ e,zHe _ lo (hi - lo).toNat,?_,λ b hb=>?_,q⟩
 ·have e1:lo+((0:Nat):Int) * 1=lo:=by simp
  have e2:(((hi - lo).toNat:Nat):Int) - ((0:Nat):Int)=Builtin.Range.rangeSize lo hi 1:=by rw[rangeSize_one];split<;>omega
  show IsRangeIter _ _ (lo+((0:Nat):Int) * 1) ((((hi - lo).toNat:Nat):Int) - ((0:Nat):Int)) 1;rw[e1,e2];exact lH _ rfl
 ·have e:b=(s.heap.push { cls:=.type "range", data:=.fields #[.int lo t,.int hi u,.int 1 v] }).objs.size:=by simpa using hb
  subst e;exact I1.fpOk (lQ _) (I1.hok.fresh (lQ _))
def iRng1 (ta:TA):TI:=λ σ H R=>ta σ H λ vs H1=>∃j:Int,vs=[.int j] /\ -(2 ^ 62)<=j/\j<2 ^ 62/\R (Itr 0 j.toNat) H1
def iRng2 (ta:TA):TI:=λ σ H R=>ta σ H λ vs H1=>∃i j:Int,vs=[.int i,.int j]/\(-(2 ^ 62)<=i/\i<2 ^ 62 /\ -(2 ^ 62)<=j/\j<2 ^ 62)/\R (Itr i (j - i).toNat) H1
theorem zCz {a:Expr}{ta:TA}{p pos:Pos}(hg:Gl X "range") (hm:X.mg "range" = none) (ha:PA X [a] ta) (hs:starEach [a] X.env=[(false,eval a X.env)]:=by rfl):PI X tg (.Call (.Name "range" p) [a] [] pos) (iRng1 ta):=by
 intro jP s σ H R I h;refine Call_ (zCR I hg hm boot_range (PyProof.Rows.callWith_type1 (thn (ha pos jP s σ H _ I h) λ us s1 ⟨vs,H1,I1,r1,q1⟩=>?_) hs rfl));obtain⟨j,e,q1,q2,q⟩:=q1;subst e;cases r1 with
 |cons r rr =>
  cases rr;obtain⟨t,rfl⟩:=r;exact call_range_1 (zHD I1 (by omega) (by omega) q1 q2 (by simpa using q))
theorem zId {a b:Expr}{ta:TA}{p pos:Pos}(hg:Gl X "range") (hm:X.mg "range" = none) (ha:PA X [a,b] ta) (hs:starEach [a,b] X.env=[(false,eval a X.env),(false,eval b X.env)]:=by rfl) (hs2:starEach [b] X.env=[(false,eval b X.env)]:=by rfl) :
  PI X tg (.Call (.Name "range" p) [a,b] [] pos) (iRng2 ta):=by
 intro jP s σ H R I h;refine Call_ (zCR I hg hm boot_range (PyProof.Rows.callWith_type1 (thn (ha pos jP s σ H _ I h) λ us s1 ⟨vs,H1,I1,r1,q1⟩=>?_) (by rw[hs,hs2]) (by rw[hs2];rfl)));obtain⟨i,j,e,⟨q1,q2,q3,q4⟩,q⟩:=q1;subst e;cases r1 with
 |cons r rr =>
  cases rr with
  |cons r' rr =>
   cases rr;obtain⟨t,rfl⟩:=r;obtain⟨t',rfl⟩:=r';exact call_range_2 (zHD I1 q1 q2 q3 q4 q)
def tFor (wi:TI) (g:TG) (tb:TS):TS:=λ D σ H=>wi σ H λ J H1=>∃W:Nat->Nat->St->Hp->Prop,(∃m,W 0 m σ H1)/\∀i m σ H,W i m σ H ->
 (J.stop i H/\D.nx σ H)\/(J.go i H/\∃N:St->Hp->Prop,(∀σ' H',N σ' H'->∃m',m'<m/\W (i+1) m' σ' H')/\∀x H',J.yld i H x H'->g x σ H' λ σ2 H2=>tb { D with nx:=N,ct:=N,bk:=D.nx } σ2 H2)
noncomputable def zD4 (fp:List Addr) (h:Heap):List (Addr × Obj):=fp.filterMap λ b=>(h.get? b).map λ o=>(b,o)
theorem zBF {fp:List Addr}{h:Heap}{b:Addr}{o:Obj}(hb:b∈fp) (e:h.get? b=some o):(b,o)∈zD4 fp h:=List.mem_filterMap.mpr ⟨b,hb,by rw[e];rfl⟩
theorem zIy {fp:List Addr}{h:Heap}{p:Addr × Obj}(hp:p∈zD4 fp h):p.1∈fp/\h.get? p.1=some p.2:=by
 obtain⟨b,hb,e⟩:=List.mem_filterMap.mp hp;cases q:h.get? b with
 |none=>rw[q] at e;cases e
 |some o =>
  rw[q] at e;have e':(b,o)=p:=mE e;subst e';exact⟨hb,q⟩
theorem Inv.pinned {jP:List (Addr × Obj)}{σ:St}{H:Hp}{s:Shared}{fp:List Addr}(I:Inv X jP σ H s) (hf:∀b∈fp,FpOk X jP H b) (ho:∀b∈fp,∃o,s.heap.get? b=some o/\∀v,o.data ≠ .cell v):Inv X (jP++zD4 fp s.heap) σ H s :=
 I.pins_of λ p hp=>(lK.mp hp).elim (λ z=>I.pin p (mB _ z)) λ z=>by
  obtain⟨hb,e⟩:=zIy z;obtain⟨f0,f1,f2,_⟩:=hf p.1 hb;obtain⟨o,e',d⟩:=ho p.1 hb;rw[e] at e';cases e';exact⟨e,f0,f1,f2,d⟩
theorem Inv.unpinned {jP pl:List (Addr × Obj)}{σ:St}{H:Hp}{s:Shared}(I:Inv X (jP++pl) σ H s):Inv X jP σ H s:=I.pins_of λ p hp=>I.pin p (mB _ (mF _ hp))
theorem zA5 {iter:Expr}{body:List Stmt}{wi:TI}{g:TG}{tb:TS}{pos:Pos}(hp:PassesOwn (model X.prog X.w) X.A X.env X.xe) (hc:X.calm=true) (hi:PI X tg iter wi) (hg:PG X tg g) (hb:PSs X body tb)
  (hs:∀x,foldedSetIterable iter X.env x=pure x:=by intro _;rfl):PS X (.For tg iter body [] pos) (tFor wi g tb):=by
 intro jP s σ H D I h;refine wpAny_For (thn (hi jP s σ H _ I h) λ v s1 h1=>thn h1 λ itv s2 h2=>?_) hs;obtain⟨it,fp,tn,J,H2,e,I2,T,st2,f2,W,⟨m0,w0⟩,turn⟩:=h2;subst e;have stat:∀{H':Hp},(∀b∈fp,H' b=none)->∀b∈fp,FpOk X jP H' b:=λ hn b hb=>⟨hn b hb,(f2 b hb).2⟩;refine codeAny_forLoop_any (λ n s'=>∃i σ' H',Inv X jP σ' H' s'/\tn i s'.heap/\(∀b∈fp,H' b=none)/\W i n σ' H') ?_ m0 ⟨0,σ,H2,I2,st2,λ b hb=>(f2 b hb).1,w0⟩;rintro n s3 ⟨i,σ3,H3,I3,st3,fr3,w3⟩;rcases turn i n σ3 H3 w3 with ⟨stop,qn⟩|⟨go,N,hN,step⟩
 ·refine wpAny_passesOwn hp (thn (T.done X rfl rfl rfl hc i jP s3 σ3 H3 X.xe I3 (stat fr3) st3 stop) λ r s4 ⟨hr,I4⟩=>?_)
  subst hr;exact wpAny_execs_nil ⟨σ3,H3,I4,qn⟩
 ·refine wpAny_passesOwn hp (thn (T.item X rfl rfl rfl hc i jP s3 σ3 H3 X.xe I3 (stat fr3) st3 go) λ r s4 ⟨u,hr,h4⟩=>?_)
  subst hr;refine wpAny_passesOwn hp (thn h4 λ _ s5 ⟨x,H5,I5,r5,y5,st5,fr5⟩=>?_);have I5':=I5.pinned (stat fr5) (T.obj _ _ st5);refine wpAny_passesOwn hp (thn (hg _ s5 σ3 H5 x u _ I5' r5 (step x H5 y5)) λ _ s6 ⟨σ6,H6,I6,q6⟩=>?_);refine wpAny_passesOwn hp (thn (hb _ s6 σ6 H6 _ I6 q6) λ f s7 q7=>?_)
  have again:∀{σ7:St}{H7:Hp},Inv X (jP++zD4 fp s5.heap) σ7 H7 s7->N σ7 H7->∃m,m<n/\∃i σ' H',Inv X jP σ' H' s7/\tn i s7.heap/\(∀b∈fp,H' b=none)/\W i m σ' H':=λ{σ7 H7} I7 n7=>by
   obtain⟨m',hm,w7⟩:=hN σ7 H7 n7;refine⟨m',hm,i+1,σ7,H7,I7.unpinned,T.keep _ _ _ st5 λ b hb o e=>(I7.pin (b,o) (mB _ (mB _ (zBF hb e)))).1,λ b hb=>?_,w7⟩;obtain⟨o,e,d⟩:=T.obj _ _ st5 b hb;exact(I7.pin (b,o) (mB _ (mB _ (zBF hb e)))).2.1
  cases f with
  |next=>obtain⟨σ7,H7,I7,n7⟩:=q7;exact again I7 n7
  |cont=>obtain⟨σ7,H7,I7,n7⟩:=q7;exact again I7 n7
  |brk=>obtain⟨σ7,H7,I7,q7⟩:=q7;exact⟨σ7,H7,I7.unpinned,q7⟩
  |ret v=>obtain⟨x7,σ7,H7,I7,r7,q7⟩:=q7;exact⟨x7,σ7,H7,I7.unpinned,r7,q7⟩
end
theorem zBI {K:W.Frag}{a:Addr}{xs:List V}{g:TG}{tb:TS}{D:Ends}{σ:St}{H:Hp}(Pv:Nat->St->Hp->Prop) (h0:Pv 0 σ H) (hl:∀i σ H,i<=xs.length->Pv i σ H->SqL K H a xs)
  (hs:∀i x σ H,xs[i]?=some x->Pv i σ H->g x σ H λ σ2 H2=>tb { D with nx:=Pv (i+1),ct:=Pv (i+1),bk:=D.nx } σ2 H2) (hd:∀σ H,Pv xs.length σ H->D.nx σ H) :
  ∃W:Nat->Nat->St->Hp->Prop,(∃m,W 0 m σ H)/\∀i m σ H,W i m σ H ->
   ((Itl K a).stop i H/\D.nx σ H)\/((Itl K a).go i H/\∃N:St->Hp->Prop,(∀σ' H',N σ' H'->∃m',m'<m/\W (i+1) m' σ' H')/\∀x H',(Itl K a).yld i H x H'->g x σ H' λ σ2 H2=>tb { D with nx:=N,ct:=N,bk:=D.nx } σ2 H2):=by
 refine⟨λ i m σ H=>m=xs.length - i/\i<=xs.length/\Pv i σ H,⟨xs.length,by simp,lY _,h0⟩,?_⟩;rintro i m σ H ⟨rfl,hi,p⟩;have q:=hl i σ H hi p
 by_cases hlt:i<xs.length
 ·refine .inr ⟨⟨xs,xs[i],q,by simp[hlt]⟩,Pv (i+1),λ σ' H' p'=>⟨xs.length - (i+1),by omega,rfl,hlt,p'⟩,λ x H' y=>?_⟩
  obtain⟨e,y⟩:=y;subst e;exact hs i x σ _ (y xs q) p
 ·have e:i=xs.length:=by omega
  subst e;exact .inl ⟨⟨xs,q,lQ _⟩,hd σ H p⟩
theorem zFY {K:W.Frag}{a:Addr}{xs:List V}{g:TG}{tb:TS}{D:Ends}{σ:St}{H:Hp}(Pv:Nat->St->Hp->Prop) (h0:Pv 0 σ H) (hl:∀i σ H,i<=xs.length->Pv i σ H->SqT K H a xs)
  (hs:∀i x σ H,xs[i]?=some x->Pv i σ H->g x σ H λ σ2 H2=>tb { D with nx:=Pv (i+1),ct:=Pv (i+1),bk:=D.nx } σ2 H2) (hd:∀σ H,Pv xs.length σ H->D.nx σ H) :
  ∃W:Nat->Nat->St->Hp->Prop,(∃m,W 0 m σ H)/\∀i m σ H,W i m σ H ->
   ((Itt K a).stop i H/\D.nx σ H)\/((Itt K a).go i H/\∃N:St->Hp->Prop,(∀σ' H',N σ' H'->∃m',m'<m/\W (i+1) m' σ' H')/\∀x H',(Itt K a).yld i H x H'->g x σ H' λ σ2 H2=>tb { D with nx:=N,ct:=N,bk:=D.nx } σ2 H2):=by
 refine⟨λ i m σ H=>m=xs.length - i/\i<=xs.length/\Pv i σ H,⟨xs.length,by simp,lY _,h0⟩,?_⟩;rintro i m σ H ⟨rfl,hi,p⟩;have q:=hl i σ H hi p
 by_cases hlt:i<xs.length
 ·refine .inr ⟨⟨xs,xs[i],q,by simp[hlt]⟩,Pv (i+1),λ σ' H' p'=>⟨xs.length - (i+1),by omega,rfl,hlt,p'⟩,λ x H' y=>?_⟩
  obtain⟨e,y⟩:=y;subst e;exact hs i x σ _ (y xs q) p
 ·have e:i=xs.length:=by omega
  subst e;exact .inl ⟨⟨xs,q,lQ _⟩,hd σ H p⟩
theorem zEM {lo:Int}{n:Nat}{g:TG}{tb:TS}{D:Ends}{σ:St}{H:Hp}(Pv:Nat->St->Hp->Prop) (h0:Pv 0 σ H)
  (hs:∀i σ H,i<n->Pv i σ H->g (.int (lo+i)) σ H λ σ2 H2=>tb { D with nx:=Pv (i+1),ct:=Pv (i+1),bk:=D.nx } σ2 H2) (hd:∀σ H,Pv n σ H->D.nx σ H) :
  ∃W:Nat->Nat->St->Hp->Prop,(∃m,W 0 m σ H)/\∀i m σ H,W i m σ H ->
   ((Itr lo n).stop i H/\D.nx σ H)\/((Itr lo n).go i H/\∃N:St->Hp->Prop,(∀σ' H',N σ' H'->∃m',m'<m/\W (i+1) m' σ' H')/\∀x H',(Itr lo n).yld i H x H'->g x σ H' λ σ2 H2=>tb { D with nx:=N,ct:=N,bk:=D.nx } σ2 H2):=by
 refine⟨λ i m σ H=>m=n - i/\i<=n/\Pv i σ H,⟨n,by simp,lY _,h0⟩,?_⟩;rintro i m σ H ⟨rfl,hi,p⟩
 by_cases hlt:i<n
 ·refine .inr ⟨hlt,Pv (i+1),λ σ' H' p'=>⟨n - (i+1),by omega,rfl,hlt,p'⟩,λ x H' y=>?_⟩
  obtain⟨e,y⟩:=y;subst e y;exact hs i σ _ hlt p
 ·have e:i=n:=by omega
  subst e;exact .inl ⟨lQ _,hd σ H p⟩
abbrev R2:=V->V->Hp->VK->Prop
def OpR (X:Cx) (f:Value->Value->Sem Value) (r:R2):Prop :=
 ∀(jP:List (Addr × Obj)) (s:Shared) (σ:St) (H:Hp) (x y:V) (v u:Value) (Q:VK),Inv X jP σ H s->RelV x v->RelV y u->r x y H Q ->
  wpAny (model X.prog X.w) X.A (f v u) (EP X jP σ Q) X.xe s
def CallR (X:Cx) (f:Value) (r:List V->Hp->VK->Prop):Prop :=
 ∀(jP:List (Addr × Obj)) (s:Shared) (σ:St) (H:Hp) (xs:List V) (us:List Value) (Q:VK),Inv X jP σ H s->Vals xs us->r xs H Q ->
  wpAny (model X.prog X.w) X.A (call f us) (EP X jP σ Q) X.xe s
def TruR (X:Cx) (r:V->Hp->(Bool->Hp->Prop)->Prop):Prop :=
 ∀(jP:List (Addr × Obj)) (s:Shared) (σ:St) (H:Hp) (x:V) (v:Value) (Q:Bool->Hp->Prop),Inv X jP σ H s->RelV x v->r x H Q ->
  wpAny (model X.prog X.w) X.A (truthy v) (TP X jP σ Q) X.xe s
def tOp (r:R2) (ta tb:TE):TE:=λ σ H Q=>ta σ H λ x H1=>tb σ H1 λ y H2=>r x y H2 Q
inductive rI (C:Int->Int->Prop) (g:Int->Int->V) (x y:V) (H:Hp) (Q:VK):Prop
 |mk (i j:Int) (hx:x = .int i) (hy:y = .int j) (c:C i j) (q:Q (g i j) H)
inductive rI0 (g:Int->Int->V) (x y:V) (H:Hp) (Q:VK):Prop
 |mk (i j:Int) (hx:x = .int i) (hy:y = .int j) (q:Q (g i j) H)
section
variable {X:Cx}{a b c:Expr}{ta tb tc:TE}{pos:Pos}
theorem binT (ha:PE X a ta) (hb:PE X b tb) {jP:List (Addr × Obj)}{s:Shared}{σ:St}{H:Hp}{R:V->V->Hp->Prop}(I:Inv X jP σ H s)
  (h:ta σ H λ x H1=>tb σ H1 λ y H2=>R x y H2) {Q:XQ}{f:Value->Value->Sem Value}
  (hf:∀v u s2 x y H2,Inv X jP σ H2 s2->RelV x v->RelV y u->R x y H2->wpAny (model X.prog X.w) X.A (f v u) Q X.xe s2) :
  wpAny (model X.prog X.w) X.A (eval a X.env) (λ v s₁=>wpAny (model X.prog X.w) X.A (eval b X.env) (λ u s₂=>wpAny (model X.prog X.w) X.A (f v u) Q X.xe s₂) X.xe s₁) X.xe s:=by
 refine thn (ha jP s σ H _ I h) λ v s1 ⟨x,H1,I1,r1,q1⟩=>?_;refine thn (hb jP s1 σ H1 _ I1 q1) λ u s2 ⟨y,H2,I2,r2,q2⟩=>?_;exact hf v u s2 x y H2 I2 r1 r2 q2
theorem pe_op {op:Operator}{r:R2}(ho:OpR X (binaryOp op) r) (ha:PE X a ta) (hb:PE X b tb):PE X (.BinOp a op b pos) (tOp r ta tb):=by
 intro jP s σ H Q I h;exact wpAny_BinOp (binT ha hb I h λ v u s2 x y H2 I2 rx ry q=>ho jP s2 σ H2 x y v u Q I2 rx ry q)
theorem opI {f:Value->Value->Sem Value}{C:Int->Int->Prop}{g:Int->Int->Int}
  (rule:∀(i j:Int) (t u:Tok) (s:Shared) (Q:XQ) (E:XQ),C i j->Q (.int (g i j) s.toks) { s with toks:=s.toks+1 }->wpAny (model X.prog X.w) X.A (f (.int i t) (.int j u)) Q E s) :
  OpR X f (rI C λ i j=>.int (g i j)):=by
 intro jP s σ H x y v u Q I rx ry h;obtain⟨i,j,rfl,rfl,hc,q⟩:=h;obtain⟨t,rfl⟩:=rx;obtain⟨t',rfl⟩:=ry;exact rule i j t t' s _ _ hc ⟨.int (g i j),H,I.tok _,⟨_,rfl⟩,q⟩
theorem opI0 {f:Value->Value->Sem Value}{g:Int->Int->Int}
  (rule:∀(i j:Int) (t u:Tok) (s:Shared) (Q:XQ) (E:XQ),Q (.int (g i j) s.toks) { s with toks:=s.toks+1 }->wpAny (model X.prog X.w) X.A (f (.int i t) (.int j u)) Q E s) :
  OpR X f (rI0 λ i j=>.int (g i j)):=by
 intro jP s σ H x y v u Q I rx ry h;obtain⟨i,j,rfl,rfl,q⟩:=h;obtain⟨t,rfl⟩:=rx;obtain⟨t',rfl⟩:=ry;exact rule i j t t' s _ _ ⟨.int (g i j),H,I.tok _,⟨_,rfl⟩,q⟩
theorem opB0 {f:Value->Value->Sem Value}{g:Int->Int->Bool}
  (rule:∀(i j:Int) (t u:Tok) (s:Shared) (Q:XQ) (E:XQ),Q (.bool (g i j)) s->wpAny (model X.prog X.w) X.A (f (.int i t) (.int j u)) Q E s) :
  OpR X f (rI0 λ i j=>.bl (g i j)):=by
 intro jP s σ H x y v u Q I rx ry h;obtain⟨i,j,rfl,rfl,q⟩:=h;obtain⟨t,rfl⟩:=rx;obtain⟨t',rfl⟩:=ry;exact rule i j t t' s _ _ ⟨.bl (g i j),H,I,rfl,q⟩
def CDiv (i j:Int):Prop:=0<j/\j<1073741824
def CPow (i j:Int):Prop:=0<=j/\j<=1000000/\i.natAbs<2 ^ 64
def CMul (i j:Int):Prop:=(-(2 ^ 64)<i/\i<2 ^ 64)\/(-(2 ^ 64)<j/\j<2 ^ 64)
theorem CMul.ok {i j:Int}(h:CMul i j):IntMulOk i j:=by
 rcases h with ⟨h1,h2⟩|⟨h1,h2⟩
 ·exact .of_left (intBits_le_64 h1 h2)
 ·exact .of_right (intBits_le_64 h1 h2)
theorem zC0:OpR X (binaryOp .Add) (rI0 λ i j=>.int (i+j)):=opI0 λ Ω Ω Ω Ω Ω Ω Ω q=>add_int q
theorem zF4:OpR X (binaryOp .Sub) (rI0 λ i j=>.int (i - j)):=opI0 λ Ω Ω Ω Ω Ω Ω Ω q=>sub_int q
theorem zEq:OpR X (binaryOp .Mult) (rI CMul λ i j=>.int (i * j)):=opI λ Ω Ω Ω Ω Ω Ω Ω hc q=>mul_int q hc.ok
theorem zBM:OpR X (binaryOp .FloorDiv) (rI CDiv λ i j=>.int (i / j)):=opI λ i j Ω Ω Ω Ω Ω hc q=>by
 have h1:(0:Int)<j:=hc.1;have h2:j<1073741824:=hc.2;exact floordiv_int (by omega) (by rw[Int.fdiv_eq_ediv_of_nonneg i (by omega)];exact q) (.inl (PyProof.noPylong_small (by omega)))
theorem zBE:OpR X (binaryOp .Mod) (rI (λ Ω j=>0<j) λ i j=>.int (i % j)):=opI λ i j Ω Ω Ω Ω Ω hc q=>by
 have h1:(0:Int)<j:=hc;exact mod_int' (by omega) (by rw[Int.fmod_eq_emod_of_nonneg i (by omega)];exact q)
theorem zIm:OpR X (binaryOp .Pow) (rI CPow λ i j=>.int (i ^ j.toNat)):=opI λ Ω Ω Ω Ω Ω Ω Ω hc q=>pow_int_small hc.1 hc.2.1 hc.2.2 q
end
noncomputable def scal:V->V->Bool
 |.non,.non=>true|.non,.int _=>true|.int _,.non=>true|.non,.bl _=>true|.bl _,.non=>true|.non,.str _=>true|.str _,.non=>true
 |.int _,.int _=>true|.bl _,.bl _=>true|.str _,.str _=>true|.byt _,.byt _=>true
 |.int _,.str _=>true|.str _,.int _=>true|.bl _,.str _=>true|.str _,.bl _=>true
 |_,_=>false
def rEq:R2:=λ x y H Q=>scal x y=true/\Q (.bl (decide (x=y))) H
def rNe:R2:=λ x y H Q=>scal x y=true/\Q (.bl (!decide (x=y))) H
theorem zJW {i j:Int}:decide (V.int i=V.int j)=(i == j):=by
 rw[Bool.eq_iff_iff];simp
theorem zLM {i j:Bool}:decide (V.bl i=V.bl j)=(i == j):=by
 rw[Bool.eq_iff_iff];simp
theorem zJV {i j:Str}:decide (V.str i=V.str j)=(i == j):=by
 rw[Bool.eq_iff_iff];simp
theorem zJX {i j:Array UInt8}:decide (V.byt i=V.byt j)=(i.toList == j.toList):=by
 rw[Bool.eq_iff_iff];cases i;cases j;simp
section
variable {X:Cx}{a b c:Expr}{ta tb tc:TE}{pos:Pos}
theorem zAm {jP:List (Addr × Obj)}{σ:St}{H:Hp}{s:Shared}{Q:VK}{k k':Bool}(I:Inv X jP σ H s) (q:Q (.bl k) H) (e:k=k'):EP X jP σ Q (.bool k') s:=by
 subst e;exact⟨.bl k,H,I,rfl,q⟩
theorem op_eq:OpR X (compareOp .Eq) rEq:=by
 intro jP s σ H x y v u Q I rx ry h;obtain⟨hs,q⟩:=h;cases x with
 |non =>
  cases rx;cases y with
  |non=>cases ry;exact PySem.EqNone.eq_none_none (zAm I q (by simp))
  |bl j=>cases ry;exact PySem.EqNone.eq_none_bool (zAm I q (by simp))
  |int j=>obtain⟨t',rfl⟩:=ry;exact PySem.EqNone.eq_none_int (zAm I q (by simp))
  |str j=>obtain⟨t',rfl⟩:=ry;exact PySem.EqNone.eq_none_str (zAm I q (by simp))
  |_=>exact absurd (show false=true from hs) lX
 |bl i =>
  cases rx;cases y with
  |non=>cases ry;exact PySem.EqNone.eq_bool_none (zAm I q (by simp))
  |bl j=>cases ry;exact eq_bool (zAm I q zLM)
  |str j=>obtain⟨t',rfl⟩:=ry;exact PySem.EqMixed.eq_bool_str (zAm I q (by simp))
  |_=>exact absurd (show false=true from hs) lX
 |int i =>
  obtain⟨t,rfl⟩:=rx;cases y with
  |non=>cases ry;exact PySem.EqNone.eq_int_none (zAm I q (by simp))
  |int j=>obtain⟨t',rfl⟩:=ry;exact eq_int (zAm I q zJW)
  |str j=>obtain⟨t',rfl⟩:=ry;exact PySem.EqMixed.eq_int_str (zAm I q (by simp))
  |_=>exact absurd (show false=true from hs) lX
 |str i =>
  obtain⟨t,rfl⟩:=rx;cases y with
  |non=>cases ry;exact PySem.EqNone.eq_str_none (zAm I q (by simp))
  |bl j=>cases ry;exact PySem.EqMixed.eq_str_bool (zAm I q (by simp))
  |int j=>obtain⟨t',rfl⟩:=ry;exact PySem.EqMixed.eq_str_int (zAm I q (by simp))
  |str j=>obtain⟨t',rfl⟩:=ry;exact eq_str (zAm I q zJV)
  |_=>exact absurd (show false=true from hs) lX
 |byt i =>
  obtain⟨t,rfl⟩:=rx;cases y with
  |byt j=>obtain⟨t',rfl⟩:=ry;exact W.eq_bytes (zAm I q zJX)
  |_=>exact absurd (show false=true from hs) lX
 |_=>cases y<;>exact absurd (show false=true from hs) lX
theorem op_ne:OpR X (compareOp .NotEq) rNe:=by
 intro jP s σ H x y v u Q I rx ry h;obtain⟨hs,q⟩:=h;cases x with
 |non =>
  cases rx;cases y with
  |non=>cases ry;exact PySem.EqNone.ne_none_none (zAm I q (by simp))
  |bl j=>cases ry;exact PySem.EqNone.ne_none_bool (zAm I q (by simp))
  |int j=>obtain⟨t',rfl⟩:=ry;exact PySem.EqNone.ne_none_int (zAm I q (by simp))
  |str j=>obtain⟨t',rfl⟩:=ry;exact PySem.EqNone.ne_none_str (zAm I q (by simp))
  |_=>exact absurd (show false=true from hs) lX
 |bl i =>
  cases rx;cases y with
  |non=>cases ry;exact PySem.EqNone.ne_bool_none (zAm I q (by simp))
  |bl j=>cases ry;exact ne_bool (zAm I q (congrArg not zLM))
  |str j=>obtain⟨t',rfl⟩:=ry;exact PySem.EqMixed.ne_bool_str (zAm I q (by simp))
  |_=>exact absurd (show false=true from hs) lX
 |int i =>
  obtain⟨t,rfl⟩:=rx;cases y with
  |non=>cases ry;exact PySem.EqNone.ne_int_none (zAm I q (by simp))
  |int j=>obtain⟨t',rfl⟩:=ry;exact ne_int (zAm I q (congrArg not zJW))
  |str j=>obtain⟨t',rfl⟩:=ry;exact PySem.EqMixed.ne_int_str (zAm I q (by simp))
  |_=>exact absurd (show false=true from hs) lX
 |str i =>
  obtain⟨t,rfl⟩:=rx;cases y with
  |non=>cases ry;exact PySem.EqNone.ne_str_none (zAm I q (by simp))
  |bl j=>cases ry;exact PySem.EqMixed.ne_str_bool (zAm I q (by simp))
  |int j=>obtain⟨t',rfl⟩:=ry;exact PySem.EqMixed.ne_str_int (zAm I q (by simp))
  |str j=>obtain⟨t',rfl⟩:=ry;exact ne_str (zAm I q (congrArg not zJV))
  |_=>exact absurd (show false=true from hs) lX
 |byt i =>
  obtain⟨t,rfl⟩:=rx;cases y with
  |byt j=>obtain⟨t',rfl⟩:=ry;exact W.ne_bytes (zAm I q (congrArg not zJX))
  |_=>exact absurd (show false=true from hs) lX
 |_=>cases y<;>exact absurd (show false=true from hs) lX
theorem op_lt:OpR X (compareOp .Lt) (rI0 λ i j=>.bl (decide (i<j))):=opB0 λ Ω Ω Ω Ω Ω Ω Ω q=>lt_int q
theorem op_le:OpR X (compareOp .LtE) (rI0 λ i j=>.bl (decide (i<=j))):=opB0 λ Ω Ω Ω Ω Ω Ω Ω q=>le_int q
theorem op_gt:OpR X (compareOp .Gt) (rI0 λ i j=>.bl (decide (j<i))):=opB0 λ Ω Ω Ω Ω Ω Ω Ω q=>gt_int q
theorem zLv:OpR X (compareOp .IsNot) (λ x y H Q=>y = .non/\Q (.bl (!decide (x = .non))) H):=by
  intro jP s σ H x y v u Q I rx ry h;obtain⟨rfl,q⟩:=h;cases ry;refine isnot_none_gen (zAm I q ?_)
  cases x<;>first
    | (cases rx;rfl)
    | (obtain⟨t,rfl⟩:=rx;rfl)
theorem zAW (b:Expr) {op:CmpOp}(h:op ≠ .In:=by decide) (h2:op ≠ .NotIn:=by decide):behindInMarks op b=false:=by
 have e1:(op == CmpOp.In)=false:=by cases op<;>first|rfl|exact absurd rfl h
 have e2:(op == CmpOp.NotIn)=false:=by cases op<;>first|rfl|exact absurd rfl h2
 cases b<;>simp[behindInMarks,e1,e2]
theorem zAn {op:CmpOp}{r:R2}(ho:OpR X (compareOp op) r) (ha:PE X a ta) (hb:PE X b tb) (hm:behindInMarks op b=false):PE X (.Compare a [op] [b] pos) (tOp r ta tb):=by
 intro jP s σ H Q I h;exact wpAny_Compare1 (binT ha hb I h λ v u s2 x y H2 I2 rx ry q=>ho jP s2 σ H2 x y v u Q I2 rx ry q) hm
def tTest (t:TE):TT:=λ σ H Q=>t σ H (IsB Q)
theorem zAR {op:CmpOp}{r:R2}(ho:OpR X (compareOp op) r) (ha:PE X a ta) (hb:PE X b tb) (hm:behindInMarks op b=false):PT X (.Compare a [op] [b] pos) (tTest (tOp r ta tb)):=by
 intro jP s σ H Q I h
 refine wpAny_isTrue_Compare1 (thn (ha jP s σ H _ I h) λ v s1 ⟨x,H1,I1,r1,q1⟩=>thn (hb jP s1 σ H1 _ I1 q1) λ u s2 ⟨y,H2,I2,r2,q2⟩ =>
  thn (ho jP s2 σ H2 x y v u _ I2 r1 r2 q2) λ c s3 ⟨z,H3,I3,r3,k,e,q3⟩=>?_) hm
 subst e;cases r3;exact wpAny_truthy_bool ⟨H3,I3,q3⟩
def zMl (r r':R2) (ta tb tc:TE):TE:=λ σ H Q=>ta σ H λ x H1=>tb σ H1 λ y H2=>r x y H2 λ z H3=>∃k,z = .bl k /\
 (if k=true then tc σ H3 λ w' H4=>r' y w' H4 Q else Q (.bl false) H3)
theorem zJ3 {op op':CmpOp}{r r':R2}(ho:OpR X (compareOp op) r) (ho':OpR X (compareOp op') r') (ha:PE X a ta) (hb:PE X b tb) (hc:PE X c tc)
  (hm:lastMarks [op,op'] [b,c]=false:=by with_unfolding_all rfl):PT X (.Compare a [op,op'] [b,c] pos) (tTest (zMl r r' ta tb tc)):=by
 intro jP s σ H Q I h
 refine isTrue_chain (thn (ha jP s σ H _ I h) λ v s1 ⟨x,H1,I1,r1,q1⟩=>test_link (thn (hb jP s1 σ H1 _ I1 q1) λ u s2 ⟨y,H2,I2,r2,q2⟩ =>
  thn (ho jP s2 σ H2 x y v u _ I2 r1 r2 q2) λ d s3 ⟨z,H3,I3,r3,k,e,q3⟩=>?_)) hm
 subst e;cases r3;refine wpAny_truthy_bool ?_;cases k with
 |false =>
  obtain⟨k',e',q'⟩:=q3;cases e';exact ite_ff ⟨H3,I3,q'⟩
 |true =>
  refine ite_tt (test_last (thn (hc jP s3 σ H3 _ I3 q3) λ w' s4 ⟨z',H4,I4,r4,q4⟩=>thn (ho' jP s4 σ H4 y z' u w' _ I4 r2 r4 q4) λ d' s5 ⟨z2,H5,I5,r5,k2,e2,q5⟩=>?_));subst e2;cases r5;exact wpAny_truthy_bool ⟨H5,I5,q5⟩
def TruV (K:W.Frag) (x:V) (H:Hp) (k:Bool):Prop :=
 match x with
 |.non=>k=false
 |.bl b=>k=b
 |.int i=>k=(i != 0)
 |.str y=>y.length<=sizeLine/\k=((y.length:Int) != 0)
 |.byt y=>y.size<=sizeLine/\k=((y.size:Int) != 0)
 |.ref p=>(∃xs,SqL K H p xs/\k=!xs.isEmpty)\/(∃xs,SqT K H p xs/\k=!xs.isEmpty)\/∃kvs,H p=some (.dK kvs)/\k=!kvs.isEmpty
 |_=>False
theorem zH4 {κ:Type}{kvs:List (κ × V)}{vs:List (κ × Value)}(r:KV kvs vs):(!vs.isEmpty)=!kvs.isEmpty:=by
 cases r<;>rfl
theorem zEx {xs:List V}{its:List Value}(r:Vals xs its):(!its.toArray.isEmpty)=!xs.isEmpty:=by
 cases r<;>simp
theorem zEt:(sizeLine:Nat)<2 ^ 63:=by rw[sizeLine_eq];decide
theorem zKx:TruR X (λ x H Q=>∃k,TruV X.K x H k/\Q k H):=by
 intro jP s σ H x v Q I rx h;obtain⟨k,e,q⟩:=h;have hl:=zEt;have hs:sizeLine=16777216:=sizeLine_eq;cases x with
 |non =>
  cases rx;have e':k=false:=e;subst e';exact truthy_none ⟨H,I,q⟩
 |bl b =>
  cases rx;have e':k=b:=e;subst e';exact wpAny_truthy_bool ⟨H,I,q⟩
 |int i =>
  obtain⟨t,rfl⟩:=rx;have e':k=(i != 0):=e;subst e';exact PySem.P.truthy_int ⟨H,I,q⟩
 |str y =>
  obtain⟨t,rfl⟩:=rx;obtain⟨hy,e'⟩:y.length<=sizeLine/\k=((y.length:Int) != 0):=e;subst e';exact PySem.P.truthy_str (by omega) ⟨H,I.tok _,q⟩
 |byt y =>
  obtain⟨t,rfl⟩:=rx;obtain⟨hy,e'⟩:y.size<=sizeLine/\k=((y.size:Int) != 0):=e;subst e';exact W.truthy_bytes (by omega) ⟨H,I.tok _,q⟩
 |ref p =>
  cases rx;have e':(∃xs,SqL X.K H p xs/\k=!xs.isEmpty)\/(∃xs,SqT X.K H p xs/\k=!xs.isEmpty)\/∃kvs,H p=some (.dK kvs)/\k=!kvs.isEmpty:=e;rcases e' with ⟨xs,hx,e'⟩|⟨xs,hx,e'⟩|⟨kvs,hx,e'⟩
  ·subst e'
   obtain⟨its,r,pl,hz⟩:=I.list hx;have hlen:=r.length;exact wpAny_truthy_list pl.isList (by simp only[mH];omega) ⟨H,I.tok _,by rw[zEx r];exact q⟩
  ·subst e'
   obtain⟨its,r,pl,hz⟩:=I.tuple hx;have hlen:=r.length;exact truthy_tuple pl (by simp only[mH];omega) ⟨H,I.tok _,by rw[zEx r];exact q⟩
  ·subst e'
   obtain⟨hz,hS,vs,r,m⟩:kvs.length<=sizeLine/\(p == sysModules)=false/\∃vs,KV kvs vs/\s.heap.DictOf (zAc X.prog X.w) p vs:=I.hok p _ hx;have hlen:kvs.length=vs.length:=Paired.length r;exact wpAny_truthy_dict hS m (by omega) ⟨H,I.tok _,by rw[zH4 r];exact q⟩
 |_=>exact(show False from e).elim
theorem zCw (ha:PE X a ta) (he:∀whole,isTrue a X.env whole=(do let v ← whole;standAt a.pos;holding [v] (truthy v))) :
    PT X a (λ σ H Q=>ta σ H λ x H'=>∃k,TruV X.K x H' k/\Q k H'):=by
  intro jP s σ H Q I h;exact isTrue_plain (thn (ha jP s σ H _ I h) λ v s1 ⟨x,H1,I1,r1,q1⟩=>zKx jP s1 σ H1 x v Q I1 r1 q1) (he _)
theorem zDL:OpR X (binaryOp .Add) (λ x y H Q=>∃i j,x = .str i/\y = .str j/\i.length+j.length<=sizeLine/\Q (.str (i++j)) H):=by
 intro jP s σ H x y v u Q I rx ry h;obtain⟨i,j,rfl,rfl,hz,q⟩:=h;obtain⟨t,rfl⟩:=rx;obtain⟨t',rfl⟩:=ry;exact add_str (λ t' tk=>⟨.str (i++j),H,I.tok _,⟨_,rfl⟩,q⟩) hz
theorem vals1 {x:V}{us:List Value}(r:Vals [x] us):∃u,us=[u]/\RelV x u:=by
 cases r with
 |cons r1 r2=>cases r2;exact⟨_,rfl,r1⟩
theorem vals2 {x y:V}{us:List Value}(r:Vals [x,y] us):∃u w',us=[u,w']/\RelV x u/\RelV y w':=by
 cases r with
 |cons r1 r2 =>
  cases r2 with
  |cons r3 r4=>cases r4;exact⟨_,_,rfl,r1,r3⟩
end
structure ObjM (h:Heap) (x dx C:Addr) (mA:Str->Option Value):Prop where
 obj:h.get? x=some (W.instObj C dx)
 ns:h.Ns1 dx mA
 ne:dx≠x
set_option tactic.hygienic true in
theorem zI2 {h:Heap}{dx:Addr}{mA:Str->Option Value}(n:h.Ns1 dx mA):∃od,h.get? dx=some od/\∀name,W.lookIn name od=some (mA name):=by
 obtain⟨o,es,ep,ho,hd,hk,_,hm⟩:=n;refine⟨o,ho,λ name=>?_⟩;have e:=hm name;unfold nsFind findBy at e;rw[←Array.find?_toList] at e;unfold W.lookIn;rw[hd];dsimp only;split
 ·rename_i y q
  rw[q] at e;exact congrArg some e
 ·rename_i q
  rw[q] at e
  have a:es.toList.any (·.refKey)=false:=by
   rw[List.any_eq_false];intro y hy;obtain⟨z,t,hkey⟩:=hk y (Array.mem_toList_iff.mp hy);simp[DictEntry.refKey,hkey]
  have a':¬es.toList.any (·.refKey)=true:=by rw[a];exact lX
  rw[if_neg a'];exact congrArg some e
theorem ObjM.look {h:Heap}{x dx C:Addr}{mA:Str->Option Value}(I:ObjM h x dx C mA):∃od,W.InstAt h x (W.instObj C dx) C (some od)/\∀name,W.lookIn name od=some (mA name) :=
 let ⟨od,ho,hl⟩:=zI2 I.ns
 ⟨od,⟨I.obj,rfl,rfl,ho⟩,hl⟩
theorem RelO.some_of {v:V}{o:Option Value}(r:RelO (some v) o):∃u,o=some u/\RelV v u:=by
 cases o with
 |none=>exact(show False from r).elim
 |some u=>exact⟨u,rfl,r⟩
section
variable {P:Program}{w:World}{H H':Hp}{h h':Heap}{a C dx:Addr}{fs fs':List (Str × V)}
theorem zMH (hok:HOk P w H h) (e:H a=some (.ins C dx fs)):∃mA,ObjM h a dx C mA/\(∀f,RelO (fs.lookup f) (mA f))/\PySem.Within mA (fs.map (·.1))/\fs.length<=1000/\H dx=some (.own a):=by
 obtain⟨d,z,ne,ob,mA,n,r,q⟩:=(show ObjOk P w H h a (.ins C dx fs) from hok a _ e);exact⟨mA,⟨ob,n,ne⟩,r,q,z,d⟩
end
structure Cls (K:W.Frag) (C:Addr):Prop where
 pg:W.plainGet K C Str.empty=true
 hd:W.hasDictIn K C=true
 po:W.plainOver K C=true
 sa:W.findIn K (.ref C) "__setattr__" = some (some (.builtin "object.__setattr__"))
theorem Cls.get {K:W.Frag}{C:Addr}(c:Cls K C) (f:Str):W.plainGet K C f=true:=c.pg
section
variable {X:Cx}{jP:List (Addr × Obj)}{σ:St}{H:Hp}{s:Shared}{A:Around}{E:XQ}{Q:XQ}{c:Value}{b:Bool}
inductive TyOf (K:W.Frag) (H:Hp):V->Value->Prop where
 |non:TyOf K H .non (.type "NoneType")
 |bl (x:Bool):TyOf K H (.bl x) (.type "bool")
 |int (i:Int):TyOf K H (.int i) (.type "int")
 |str (x:Str):TyOf K H (.str x) (.type "str")
 |flt (x:UInt64):TyOf K H (.flt x) (.type "float")
 |lst {a:Addr}{xs:List V}(e:H a=some (.lst xs)):TyOf K H (.ref a) (.type "list")
 |frz {a:Addr}{o:Obj}{xs:List V}(e:H a=some (.frz o (.lst xs))):TyOf K H (.ref a) (.type "list")
 |tup {a:Addr}{xs:List V}(e:H a=some (.tup xs)):TyOf K H (.ref a) (.type "tuple")
 |dK {a:Addr}{kvs:List (Key × V)}(e:H a=some (.dK kvs)):TyOf K H (.ref a) (.type "dict")
 |dT {a:Addr}{kvs:List (List Key × V)}(e:H a=some (.dT kvs)):TyOf K H (.ref a) (.type "dict")
 |ins {a C dx:Addr}{fs:List (Str × V)}(e:H a=some (.ins C dx fs)) (cl:Cls K C) (ha:W.findIn K (.ref C) "__class__" = some (some (.builtin "object.__class__")))
   (hn:W.specialIn K (.builtin "object.__class__") "__get__" = some (some (.builtin "getset_descriptor.__get__"))) (htk:W.takesIn K (.builtin "object.__class__")=some true)
   (hm:W.mroIn K C (.type "object")=some true):TyOf K H (.ref a) (.ref C)
theorem zJC {x:V}{u t:Value}(I:Inv X jP σ H s) (rx:RelV x u) (ty:TyOf X.K H x t) (e:W.kitOne X.K t c=some b) (h:∀tk,Q (.bool b) { s with toks:=tk }) :
  wpAny (model X.prog X.w) A (call (.builtin "isinstance") [u,c]) Q E s:=by
 cases ty with
 |non=>cases (show u=Value.none from rx);exact W.kia_one W.kitx_none I.kIn True.intro e (λ z=>nomatch z) h
 |bl y=>cases (show u=Value.bool y from rx);exact W.kia_one W.kitx_bool I.kIn True.intro e (λ z=>nomatch z) h
 |int i=>obtain⟨t,q⟩:=(show ∃t,u=Value.int i t from rx);cases q;exact W.kia_one W.kitx_int I.kIn True.intro e (λ z=>nomatch z) h
 |str y=>obtain⟨t,q⟩:=(show ∃t,u=Value.str y t from rx);cases q;exact W.kia_one W.kitx_str I.kIn True.intro e (λ z=>nomatch z) h
 |flt y=>obtain⟨t,q⟩:=(show ∃t,u=Value.float y t from rx);cases q;exact W.kia_one W.kitx_float I.kIn True.intro e (λ z=>nomatch z) h
 | @lst a xs ea =>
  cases (show u=Value.ref a from rx);obtain⟨_,_,n,_,h1⟩:=(show ObjOk X.prog X.w H s.heap a (.lst xs) from I.hok a _ ea);exact W.kia_one W.kitx_list I.kIn ⟨_,h1,rfl⟩ e (λ z=>nomatch z) h
 | @frz a ob xs ea =>
  cases (show u=Value.ref a from rx);obtain⟨_,_,_,n,_,h1⟩:=(show ObjOk X.prog X.w H s.heap a (.frz ob (.lst xs)) from I.hok a _ ea);exact W.kia_one W.kitx_list I.kIn ⟨_,h1,rfl⟩ e (λ z=>nomatch z) h
 | @tup a xs ea =>
  cases (show u=Value.ref a from rx);obtain⟨_,_,_,p⟩:=(show ObjOk X.prog X.w H s.heap a (.tup xs) from I.hok a _ ea);obtain⟨o,h1,h2,_⟩:=p;exact W.kia_one W.kitx_tuple I.kIn ⟨o,h1,h2⟩ e (λ z=>nomatch z) h
 | @dK a kvs ea =>
  cases (show u=Value.ref a from rx);obtain⟨_,_,vs,_,p⟩:=(show ObjOk X.prog X.w H s.heap a (.dK kvs) from I.hok a _ ea);obtain⟨o,es,ep,h1,h2,_⟩:=p;exact W.kia_one W.kitx_dict I.kIn ⟨o,h1,h2.1⟩ e (λ z=>nomatch z) h
 | @dT a kvs ea =>
  cases (show u=Value.ref a from rx);obtain⟨_,_,xs,_,o,es,ep,h1,h2,_⟩:=(show ObjOk X.prog X.w H s.heap a (.dT kvs) from I.hok a _ ea);exact W.kia_one W.kitx_dict I.kIn ⟨o,h1,h2.1⟩ e (λ z=>nomatch z) h
 | @ins a C dx fs ea cl ha hn htk hm =>
  cases (show u=Value.ref a from rx);obtain⟨mA,O,_⟩:=zMH I.hok ea;obtain⟨od,J,_⟩:=O.look;exact W.kia_one (W.kitx_own (cl.get _) cl.hd ha hn htk hm) I.kIn J e (λ z=>nomatch z) h
end
structure Room (k:Nat) (A:Around):Prop where
 hd:A.handled=none
 dp:A.depth+3 * k+5<recursionLimit
 un:A.units+16 * k+200<cLine
theorem Room.mono {j k:Nat}{A:Around}(r:Room k A) (h:j<=k):Room j A:=⟨r.hd,by have:=r.dp;omega,by have:=r.un;omega⟩
theorem Room.deeper {k:Nat}{A:Around}(r:Room (k+1) A) (env:Env):Room k (A.deeper env) :=
 ⟨r.hd,by have:=r.dp;show A.depth+1+3 * k+5<_;omega,by have:=r.un;show A.units+3+16 * k+200<_;omega⟩
theorem zH1 {A:Around}{C:Addr}{us:List Value}{kw:List (Str × Value)}:(A.under (.builtin "type.__call__" ⟨.ref C::us,kw⟩)).depth=A.depth+1:=by
 first|rfl|simp[Around.under,Code.weight,Code.isCreation,Code.isGuard,Code.isCaller,Code.frames,Code.isFrame,guardIds]
theorem zH0 {A:Around}{C:Addr}{us:List Value}{kw:List (Str × Value)}:(A.under (.builtin "type.__call__" ⟨.ref C::us,kw⟩)).units=A.units+1:=by
 first|rfl|simp[Around.under,Code.cUnits,Code.frames,Code.isFrame]
theorem Room.make {k:Nat}{A:Around}(r:Room (k+1) A) (C:Addr) (us:List Value) (kw:List (Str × Value)):Room k (A.under (.builtin "type.__call__" ⟨.ref C::us,kw⟩)) :=
 ⟨r.hd,by have:=r.dp;rw[zH1];omega,by have:=r.un;rw[zH0];omega⟩
theorem Room.depth {k:Nat}{A:Around}(r:Room k A):A.depth<recursionLimit:=by have:=r.dp;omega
theorem Room.units {k:Nat}{A:Around}(r:Room k A):A.units+64<cLine:=by have:=r.un;omega
def tNil:TA:=λ Ω H Q=>Q [] H
def tCons (ta:TE) (tr:TA):TA:=λ σ H Q=>ta σ H λ x H1=>tr σ H1 λ xs H2=>Q (x::xs) H2
section
variable {X:Cx}{e:Expr}{es:List Expr}{te:TE}{t:TA}{pos:Pos}
theorem zAD:PA X [] tNil:=λ Ω Ω Ω Ω H Q I h=>Calls.spliced_nil ⟨[],H,I,.nil,h⟩
theorem zAB (ha:PE X e te) (hr:PA X es t) (hs:starEach (e::es) X.env=(false,eval e X.env)::starEach es X.env:=by rfl):PA X (e::es) (tCons te t):=by
 intro pos jP s σ H Q I h;rw[hs];show wpAny _ _ (spliced ((false,eval e X.env)::backTo pos (starEach es X.env))) _ _ s;refine Calls.spliced_cons (thn (ha jP s σ H _ I h) λ u s1 ⟨x,H1,I1,r1,q1⟩=>?_);exact thn (hr pos jP s1 σ H1 _ I1 q1) λ us s2 ⟨xs,H2,I2,r2,q2⟩=>⟨x::xs,H2,I2,.cons r1 r2,q2⟩
def tTup (t:TA):TE:=λ σ H Q=>t σ H λ xs H1=>xs.length<=sizeLine/\∀p,H1 p=none->Q (.ref p) (upd H1 p (.tup xs))
def tLst (t:TA):TE:=λ σ H Q=>t σ H λ xs H1=>xs.length<=sizeLine/\∀p,H1 p=none->Q (.ref p) (upd H1 p (.lst xs))
theorem zAv {x1} (h:PA X es t):PE X (.Tuple es x1 pos) (tTup t):=by
 intro jP s σ H Q I hq;refine wpAny_Tuple_spliced (thn (h pos jP s σ H _ I hq) λ us s1 ⟨xs,H1,I1,r,z,q⟩=>⟨by rw[←r.length];exact z,?_⟩);have hf:H1 s1.heap.objs.size=none:=I1.hok.fresh (lQ _);refine⟨.ref s1.heap.objs.size,upd H1 s1.heap.objs.size (.tup xs),I1.laid (t':=s1.toks) (λ b u e=>lG _ e) (lQ _) ?_,rfl,q _ hf⟩;exact⟨z,us,r,⟨_,lH _ rfl,rfl,_,rfl⟩⟩
theorem zA1 (h:PA X es t):PE X (.List es pos) (tLst t):=by
 intro jP s σ H Q I hq;refine wpAny_List_spliced (thn (h pos jP s σ H _ I hq) λ us s1 ⟨xs,H1,I1,r,z,q⟩=>⟨by rw[←r.length];exact z,?_⟩);have hf:H1 s1.heap.objs.size=none:=I1.hok.fresh (lQ _);refine⟨.ref s1.heap.objs.size,upd H1 s1.heap.objs.size (.lst xs),I1.laid (t':=s1.toks) (λ b u e=>lG _ e) (lQ _) ?_,rfl,q _ hf⟩;exact⟨z,us,0,r,lH _ rfl⟩
end
abbrev Sp:=List V->Hp->VK->XK->Prop
abbrev CXT:=List Env->Hp->Shared->XK->Value->Shared->Prop
structure Env0 (P:Program) (w:World) (K:W.Frag) (mg:Str->Option Value) (base:Heap) (A:Around) (outer:List Env) (s:Shared) (H:Hp):Prop where
 frames:A.frames=some outer
 mod:Mod K mg base
 bs:∀b o,base.get? b=some o->s.heap.get? b=some o/\H b=none
 bsz:base.objs.size<=s.heap.objs.size
 funs:s.heap.FunFrames base outer
 frf:∀b∈frs outer,H b=none
 hok:HOk P w H s.heap
 bare:AllBare s.gens
def CE (outer:List Env) (P:Program) (w:World) (H:Hp) (s:Shared) (Q:VK) (u:Value) (s':Shared):Prop :=
 ∃v H',s'.os=s.os/\AllBare s'.gens/\Un (frs outer) [] H H' s.heap s'.heap/\HOk P w H' s'.heap/\RelV v u/\Q v H'
def CR (CX:CXT) (outer:List Env) (P:Program) (w:World) (H:Hp) (s:Shared) (Q:VK) (E:XK) (r:Result) (s':Shared):Prop :=
 match r with
 |.ok (.ret u)=>CE outer P w H s Q u s'
 |.ok _=>False
 |.error e=>CX outer H s E e s'
structure FnOk (P:Program) (w:World) (K:W.Frag) (mg:Str->Option Value) (base:Heap) (CX:CXT) (k:Nat) (f:Addr) (fd:FuncData) (ps:List Str) (sp:Sp):Prop where
 len:∀vs H Q E,sp vs H Q E->vs.length=ps.length
 run:∀(A:Around) (outer:List Env) (s:Shared) (H:Hp) (args:Args) (us:List Value) (vs:List V) (Q:VK) (E:XK),Room k A->Env0 P w K mg base A outer s H->BindsTo s fd args (ps.zip us)->Vals vs us->sp vs H Q E ->
  codeAny (model P w) A (.call (.ref f) args) (CR CX outer P w H s Q E) s
theorem FnOk.mono {P:Program}{w:World}{K:W.Frag}{mg:Str->Option Value}{base:Heap}{CX:CXT}{j k:Nat}{f:Addr}{fd:FuncData}{ps:List Str}{sp:Sp}(F:FnOk P w K mg base CX j f fd ps sp) (h:j<=k) :
  FnOk P w K mg base CX k f fd ps sp:=⟨F.len,λ A outer s H args us vs Q E hr=>F.run A outer s H args us vs Q E (hr.mono h)⟩
theorem FnOk.imp {P:Program}{w:World}{K:W.Frag}{mg:Str->Option Value}{base:Heap}{CX:CXT}{k:Nat}{f:Addr}{fd:FuncData}{ps:List Str}{sp sp':Sp}(F:FnOk P w K mg base CX k f fd ps sp)
  (h:∀vs H Q E,sp' vs H Q E->sp vs H Q E):FnOk P w K mg base CX k f fd ps sp' :=
 ⟨λ vs H Q E q=>F.len vs H Q E (h _ _ _ _ q),λ A outer s H args us vs Q E hr he hb hv hs=>F.run A outer s H args us vs Q E hr he hb hv (h _ _ _ _ hs)⟩
theorem Env0.make {P:Program}{w:World}{K:W.Frag}{mg:Str->Option Value}{base:Heap}{A:Around}{outer:List Env}{s:Shared}{H:Hp}(e:Env0 P w K mg base A outer s H) (C:Addr) (us:List Value) (kw:List (Str × Value)) :
  Env0 P w K mg base (A.under (.builtin "type.__call__" ⟨.ref C::us,kw⟩)) outer s H:=⟨by first|exact e.frames|(simpa[Around.under,Code.envs,Code.isFrame,pushEnvs] using e.frames),e.mod,e.bs,e.bsz,e.funs,e.frf,e.hok,e.bare⟩
section
variable {X:Cx}{jP:List (Addr × Obj)}{σ:St}{H:Hp}{s s':Shared}
theorem Inv.env0 (I:Inv X jP σ H s):Env0 X.prog X.w X.K X.mg X.base X.A X.stack s H :=
 ⟨I.ok.frames,I.ok.mod,I.bs,mG I.ok.bsz I.sz,I.stack,I.stkFree,I.hok,I.bare⟩
theorem Inv.after {Q:VK}{u:Value}(I:Inv X jP σ H s) (h:CE X.stack X.prog X.w H s Q u s'):EP X jP σ Q u s':=by
 obtain⟨v,H',os,bare,un,hok,r,q⟩:=h;obtain⟨hh,g,d,t,os'⟩:=s';obtain rfl:os'=s.os:=os;exact⟨v,H',I.call (h':=hh) (g':=g) (d':=d) (t':=t) (ch:=[]) un hok bare (λ b z=>absurd z (by simp)),r,q⟩
end
def tCall (sp:Sp) (dvs:List V) (E:XK) (t:TA):TE:=λ σ H Q=>t σ H λ vs H1=>sp (vs++dvs) H1 Q E
def Binds (K:W.Frag) (fd:FuncData) (ps:List Str) (ds:List Value):Prop :=
 ∀(s:Shared) (us:List Value),K.In s.heap->(us++ds).length=ps.length->BindsTo s fd ⟨us,[]⟩ (ps.zip (us++ds))
theorem Binds.all {K:W.Frag}{fd:FuncData}{ps:List Str}(h:∀us:List Value,us.length=ps.length->bindArgs fd ⟨us,[]⟩=pure (ps.zip us)):Binds K fd ps []:=λ s us Ω hl=>by
 rw[nT] at hl ⊢;exact .of_eq (h us hl)
def zE4 (CX:CXT) (X:Cx) (E:XK):Prop:=∀(jP:List (Addr × Obj)) (σ:St) (H:Hp) (s:Shared) (e:Value) (s':Shared),Inv X jP σ H s->CX X.stack H s E e s'->X.xe e s'
section
variable {X:Cx}{CX:CXT}{k:Nat}{f C:Addr}{fd:FuncData}{ps:List Str}{sp:Sp}{dvs:List V}{ds:List Value}{E:XK}{x m:Str}{p pos apos:Pos}{e o:Expr}{es:List Expr}{ta:TE}{t:TA}
theorem zK5 {jP:List (Addr × Obj)}{σ:St}{H:Hp}{s:Shared}{Q:VK}{us:List Value}{vs:List V}(F:FnOk X.prog X.w X.K X.mg X.base CX k f fd ps sp) (hr:Room k X.A) (hb:Binds X.K fd ps ds) (hd:Vals dvs ds) (hx:zE4 CX X E)
  (I:Inv X jP σ H s) (r:Vals vs us) (h:sp (vs++dvs) H Q E):wpAny (model X.prog X.w) X.A (call (.ref f) us) (EP X jP σ Q) X.xe s:=by
 have r2:Vals (vs++dvs) (us++ds):=r.append hd;have hl:(us++ds).length=ps.length:=by rw[←r2.length];exact F.len _ _ _ _ h
 refine wpAny_call (codeAny_mono (F.run X.A X.stack s H ⟨us,[]⟩ (us++ds) (vs++dvs) Q E hr I.env0 (hb s us I.kIn hl) r2 h) λ r s' hq=>?_);cases r with
 |error e=>exact hx jP σ H s e s' I hq
 |ok fl =>
  cases fl with
  |ret u=>exact I.after hq
  |next=>exact False.elim hq
  |brk=>exact False.elim hq
  |cont=>exact False.elim hq
theorem zD5 (F:FnOk X.prog X.w X.K X.mg X.base CX k f fd ps sp) (hr:Room k X.A) (hg:Gl X x) (hm:X.mg x=some (.ref f)) (hk:W.keepIn X.K (.ref f)=true) (hb:Binds X.K fd ps ds) (hd:Vals dvs ds) (hx:zE4 CX X E)
  (ha:PA X (e::es) t) (hdb:(x == ("__debug__" : Str))=false:=by decide) (he:starEach (e::es) X.env=(false,eval e X.env)::starEach es X.env:=by rfl) (hpl:(backTo pos (starEach es X.env)).any (·.1)=false:=by rfl) :
  PE X (.Call (.Name x p) (e::es) [] pos) (tCall sp dvs E t):=by
 intro jP s σ H Q I h;refine wpAny_Call_Name_kw (zDM I hg hm ?_ hdb);refine W.callWith_K (h₀:=X.base) I.ok.mod.kin hk (thn (ha pos jP s σ H _ I h) λ us s1 ⟨vs,H1,I1,r,q⟩=>⟨I1.kIn,?_⟩) he hpl;exact zK5 F hr hb hd hx I1 r q
end
structure zAQ (N P:List Str) (sc:Scope):Prop where
 kind:sc.kind = .function
 co:sc.isCoroutine=false
 gen:sc.isGenerator=false
 nd:N.Nodup
 pre:N.take P.length=P
 par:∀x∈P,sc.names.lookup x=some .local\/sc.names.lookup x=some .cell
 nofree:∀y∈sc.names,y.2 ≠ .free
theorem scI {N P:List Str}{sc:Scope}(a:sc.kind=.function:=by rfl)(b:sc.isCoroutine=false:=by rfl)(c:sc.isGenerator=false:=by rfl)(d:N.Nodup:=by symm)(e:N.take P.length=P:=by rfl)(f:∀x∈P,sc.names.lookup x=some .local\/sc.names.lookup x=some .cell:=by symm)(g:∀y∈sc.names,y.2≠.free:=by symm):zAQ N P sc:=⟨a,b,c,d,e,f,g⟩
theorem zGM {kindOf:Str->Option NameKind}{x:Str}:∀{binds:List (Str × Value)}{m:Str->Option Value},(∀v,(x,v)∉binds)->bindL kindOf binds m x=m x
 |[],_,_=>rfl
 | (n,v)::r,m,h=>by
  unfold bindL;rw[zGM λ w hw=>h w (List.mem_cons_of_mem _ hw)];split
  ·have:x≠n:=by rintro rfl;exact h v lO
   simp[this]
  ·rfl
theorem zGO {kindOf:Str->Option NameKind}{x:Str}:∀{binds:List (Str × Value)}{m:Str->Option Value},(∀v,(x,v)∉binds)->bindC kindOf binds m x=m x
 |[],_,_=>rfl
 | (n,v)::r,m,h=>by
  unfold bindC;rw[zGO λ w hw=>h w (List.mem_cons_of_mem _ hw)];split
  ·rfl
  ·have:x≠n:=by rintro rfl;exact h v lO
   simp[this]
theorem zGN {kindOf:Str->Option NameKind}{x:Str}{v:Value}:∀{P:List Str}{vs:List Value}{i:Nat}{m:Str->Option Value},P.Nodup->P[i]?=some x->vs[i]?=some v->kindOf x=some .local ->
  bindL kindOf (P.zip vs) m x=some v
 |[],_,_,_,_,h,_,_=>by simp at h
 |_::_,[],_,_,_,_,h,_=>by simp at h
 |p::P,w::vs,0,m,nd,h1,h2,hk=>by
  simp at h1 h2;subst h1;subst h2;show bindL kindOf ((p,w)::P.zip vs) m p=_;unfold bindL;rw[zGM λ v hv=>(rG.mp nd).1 (List.of_mem_zip hv).1,if_pos hk];simp
 |p::P,w::vs,i+1,m,nd,h1,h2,hk=>by
  show bindL kindOf ((p,w)::P.zip vs) m x=_;unfold bindL;exact zGN (i:=i) (rG.mp nd).2 (by simpa using h1) (by simpa using h2) hk
theorem zGP {kindOf:Str->Option NameKind}{x:Str}{v:Value}:∀{P:List Str}{vs:List Value}{i:Nat}{m:Str->Option Value},P.Nodup->P[i]?=some x->vs[i]?=some v->kindOf x≠some .local ->
  bindC kindOf (P.zip vs) m x=some v
 |[],_,_,_,_,h,_,_=>by simp at h
 |_::_,[],_,_,_,_,h,_=>by simp at h
 |p::P,w::vs,0,m,nd,h1,h2,hk=>by
  simp at h1 h2;subst h1;subst h2;show bindC kindOf ((p,w)::P.zip vs) m p=_;unfold bindC;rw[zGO λ v hv=>(rG.mp nd).1 (List.of_mem_zip hv).1,if_neg hk];simp
 |p::P,w::vs,i+1,m,nd,h1,h2,hk=>by
  show bindC kindOf ((p,w)::P.zip vs) m x=_;unfold bindC;exact zGP (i:=i) (rG.mp nd).2 (by simpa using h1) (by simpa using h2) hk
noncomputable def start (N:List Str) (vs:List V):St:=vs.map some++List.replicate (N.length - vs.length) none
noncomputable def cxOf (CX:CXT) (P:Program) (w:World) (K:W.Frag) (mg:Str->Option Value) (base:Heap) (N:List Str) (qual:Str) (scope:Scope) (f:Addr) (cd:Value) (A:Around) (outer:List Env) (s:Shared) (H:Hp) (E:XK):Cx where
 prog:=P
 w:=w
 K:=K
 mg:=mg
 base:=base
 A:=A.deeper (envOfC qual scope s.heap.objs.size f cd)
 N:=N
 s₀:=s
 H₀:=H
 env:=envOfC qual scope s.heap.objs.size f cd
 outer:=outer
 stack:=envOfC qual scope s.heap.objs.size f cd::outer
 ex:=[]
 calm:=true
 fn:=λ Ω=>true
 pn:=[]
 xe:=λ e s'=>wpAny (model P w) (A.deeper (envOfC qual scope s.heap.objs.size f cd)) (leaving (envOfC qual scope s.heap.objs.size f cd) e) (λ Ω s''=>CX outer H s E e s'') (λ e' s''=>CX outer H s E e' s'') s'
theorem zHX {sc:Scope}{n:Nat}{x:Str}(h:sc.names.lookup x=some .cell):∃c,(cellsFrom n sc.names []).lookup x=some c:=by
 have q:=W.cellsFrom_some sc.names n [] (.inl h);exact Option.isSome_iff_exists.mp q
theorem zJD {CX:CXT}{P:Program}{w:World}{K:W.Frag}{mg:Str->Option Value}{base:Heap}{N ps:List Str}{qual:Str}{scope:Scope}{f:Addr}{cd:Value}{A:Around}{outer:List Env}{s s1:Shared}{H:Hp}{E:XK}{us:List Value}{vs:List V}
  (S:zAQ N ps scope) (hd:A.handled=none) (e0:Env0 P w K mg base A outer s H) (hl:vs.length=ps.length) (r:Vals vs us)
  (x:InCallC s s.heap.objs.size (bindL (envOfC qual scope s.heap.objs.size f cd).kindOf (ps.zip us) λ Ω=>none) (cellsFrom (s.heap.objs.size+1) scope.names []) (bindC (envOfC qual scope s.heap.objs.size f cd).kindOf (ps.zip us) λ Ω=>none) s1) :
  Inv (cxOf CX P w K mg base N qual scope f cd A outer s H E) [] (start N vs) H s1:=by
 have hpl:ps.length<=N.length:=by have:=congrArg List.length S.pre;rw[mO] at this;omega
 obtain⟨h1,tk,rfl,hk⟩:=x.done;have noA:∀b:Addr,b∉(cxOf CX P w K mg base N qual scope f cd A outer s H E).ex:=λ b z=>absurd (show b∈([]:List Addr) from z) (by simp)
 refine⟨⟨e0.mod,S.kind,rfl,rfl,lQ _,λ y z c h1 h2=>?_,λ y hy=>?_,λ y c Ω h=>?_,λ Ω=>hd,Around.frames_deeper e0.frames,.inr ⟨rfl,rfl⟩,λ b z=>absurd z (noA b),e0.bs,e0.bsz,λ b Ω Ω=>noA b,λ b z=>absurd z (noA b),e0.funs,e0.frf⟩,
  rfl,e0.bare,Un.kept hk,⟨_,x.toInCall.ns,λ i y v h1 h2 h3=>?_⟩,λ y c h=>⟨_,x.cell y c h⟩,e0.hok.fresh (lQ _),λ y c h=>?_,λ p hp=>absurd (show p∈([]:List (Addr × Obj)) from hp) (by simp),e0.hok.kept hk,?_⟩
 ·exact name_of_addr x.apart (PySem.mem_of_lookup h1) (PySem.mem_of_lookup h2)
 ·have hy:scope.names.lookup y=some .cell\/scope.names.lookup y=some .free:=hy
  rcases hy with hy|hy
  ·exact zHX hy
  ·exact absurd rfl (S.nofree _ (PySem.mem_of_lookup hy))
 ·exact Nat.le_of_lt (x.above y c (PySem.mem_of_lookup h))
 ·have hi:i<vs.length:=by
   unfold start at h2
   by_cases hi:i<vs.length
   ·exact hi
   ·rw[List.getElem?_append_right (by simpa using hi)] at h2
    rw[List.getElem?_replicate] at h2;split at h2<;>cases h2
  have ha:vs[i]?=some v:=by
   unfold start at h2;rw[List.getElem?_append_left (by simpa using hi),mJ] at h2;cases e:vs[i]? with
   |none=>rw[e] at h2;cases h2
   |some a=>rw[e] at h2;cases h2;rfl
  obtain⟨u,hu,rv⟩:=r.get ha
  have hp:ps[i]?=some y:=by
   rw[←S.pre,List.getElem?_take_of_lt (by omega)];exact h1
  have ndP:ps.Nodup:=by rw[←S.pre];exact S.nd.sublist (List.take_sublist _ _)
  refine⟨u,rv,?_⟩;rcases S.par y (lM hp) with k|k
  ·exact .inl ⟨k,zGN ndP hp hu k⟩
  ·obtain⟨c,e⟩:=zHX (n:=s.heap.objs.size+1) k
   refine .inr ⟨.inl k,c,e,?_⟩;have q:=x.cell y c e;rw[zGP ndP hp hu (by show scope.names.lookup y≠_;rw[k];decide)] at q;exact q
 ·exact e0.hok.fresh (Nat.le_of_lt (x.above y c (PySem.mem_of_lookup h)))
 ·unfold start
  show _=N.length;rw[mK,mD,List.length_replicate];omega
theorem fn_of {CX:CXT}{P:Program}{w:World}{K:W.Frag}{mg:Str->Option Value}{base:Heap}{k:Nat}{f:Addr}{name qual:Str}{params:Arguments}{body:List Stmt}{scope:Scope}{dV kV doc pm cdv ct oc:Value}{an od:Option Addr}
  {osl:Array (Option Value)}{N ps:List Str}{sp:Sp}(lk:K.lookup f=some ⟨oc,od,.func (W.fnOf name qual params body scope dV kV doc pm an cdv ct),osl⟩) (hcd:W.codeIn K cdv qual=true) (S:zAQ N ps scope)
  (len:∀vs H Q E,sp vs H Q E->vs.length=ps.length)
  (hbody:∀(A:Around) (outer:List Env) (s:Shared) (H:Hp) (vs:List V) (Q:VK) (E:XK),Room k (A.deeper (envOfC qual scope s.heap.objs.size f cdv))->sp vs H Q E ->
   ∃t,PSs (cxOf CX P w K mg base N qual scope f cdv A outer s H E) body t/\t { nx:=λ Ω H'=>Q .non H',rt:=Q } (start N vs) H) :
  FnOk P w K mg base CX (k+1) f (W.fnOf name qual params body scope dV kV doc pm an cdv ct) ps sp:=by
 refine⟨len,λ A outer s H args us vs Q E hr e0 hb r hsp=>?_⟩;have hl:=len _ _ _ _ hsp;have KX:K.In s.heap:=e0.mod.kin.keeps λ b o e=>(e0.bs b o e).1;have lim:s.heap.NoLimit:=e0.mod.nolimit.keeps λ b o e=>(e0.bs b o e).1
 have hkind:∀y∈ps.zip us,scope.names.lookup y.1=some .local\/(scope.names.lookup y.1=some .cell/\((cellsFrom (s.heap.objs.size+1) scope.names []).lookup y.1).isSome=true):=λ⟨n,v⟩ hy=>by
  rcases S.par n (List.of_mem_zip hy).1 with q|q
  ·exact .inl q
  ·exact .inr ⟨q,W.cellsFrom_some _ _ _ (.inl q)⟩
 refine codeAny_call_function hr.depth (KX _ _ lk) rfl S.co S.gen rfl (W.codeRec_of KX hcd) (hb _ _ _ _ ?_);refine wpAny_newFunctionEnv_cells S.kind hkind λ env he s1 x=>?_;subst he;refine⟨lim.keeps x.toInCall.keep,codeAny_func ?_⟩;obtain⟨t,ht,hq⟩:=hbody A outer s H vs Q E (hr.deeper _) hsp;have I:Inv (cxOf CX P w K mg base N qual scope f cdv A outer s H E) [] (start N vs) H s1:=zJD S hr.hd e0 hl r x;refine wpAny_mono (ht [] s1 (start N vs) H _ I hq) (λ fl s' hs=>?_) λ e s' hs=>hs
 have fin:∀{σ':St}{H':Hp}{v:V}{u:Value},Inv (cxOf CX P w K mg base N qual scope f cdv A outer s H E) [] σ' H' s'->RelV v u->Q v H'->CE outer P w H s Q u s' :=
  λ{σ' H' v u} J rv q=>⟨v,H',J.os,J.bare,J.base,J.hok,rv,q⟩
 cases fl with
 |ret u =>
  obtain⟨v,σ',H',J,rv,q⟩:=hs;exact fin J rv q
 |next =>
  obtain⟨σ',H',J,q⟩:=hs;exact fin (v:=V.non) (u:=Value.none) J rfl q
 |brk =>
  obtain⟨_,_,_,q⟩:=hs;exact False.elim q
 |cont =>
  obtain⟨_,_,_,q⟩:=hs;exact False.elim q
section
variable {X:Cx}{x:Str}{p pos:Pos}{e:Expr}{es:List Expr}{t:TA}{id T:String}{r:List V->Hp->VK->Prop}
def tCB (r:List V->Hp->VK->Prop) (t:TA):TE:=λ σ H Q=>t σ H λ vs H1=>r vs H1 Q
theorem zAd (hc:CallR X (.builtin id) r) (hg:Gl X x) (hm:X.mg x=none) (hv:bootBuiltins x=some (.builtin id)) (ha:PA X (e::es) t) (hn:x ≠ "__name__" := by decide) (hdb:(x == ("__debug__" : Str))=false:=by decide)
  (he:starEach (e::es) X.env=(false,eval e X.env)::starEach es X.env:=by rfl) (hpl:(backTo pos (starEach es X.env)).any (·.1)=false:=by rfl):PE X (.Call (.Name x p) (e::es) [] pos) (tCB r t):=by
 intro jP s σ H Q I h;refine wpAny_Call_Name_kw (zCR I hg hm hv ?_ hn hdb);exact PyProof.Rows.callWith_builtin1 (thn (ha pos jP s σ H _ I h) λ us s1 ⟨vs,H1,I1,r1,q1⟩=>hc jP s1 σ H1 vs us Q I1 r1 q1) he hpl
theorem zBQ (hc:CallR X (.type T) r) (hg:Gl X x) (hm:X.mg x=none) (hv:bootBuiltins x=some (.type T)) (ha:PA X (e::es) t) (hn:x ≠ "__name__" := by decide) (hdb:(x == ("__debug__" : Str))=false:=by decide)
  (he:starEach (e::es) X.env=(false,eval e X.env)::starEach es X.env:=by rfl) (hpl:(backTo pos (starEach es X.env)).any (·.1)=false:=by rfl):PE X (.Call (.Name x p) (e::es) [] pos) (tCB r t):=by
 intro jP s σ H Q I h;refine wpAny_Call_Name_kw (zCR I hg hm hv ?_ hn hdb);exact PyProof.Rows.callWith_type1 (thn (ha pos jP s σ H _ I h) λ us s1 ⟨vs,H1,I1,r1,q1⟩=>hc jP s1 σ H1 vs us Q I1 r1 q1) he hpl
end
end L2
namespace HT
open PySem PyProof.Rows
section
variable {prog:Program}{w:World}{A:Around}{E:XQ}{s:Shared}
theorem cat_tup {t b:Addr}{vs ws:List Value}{Q:XQ}(ht:IsTup s.heap t vs.toArray) (hb:IsTup s.heap b ws.toArray) (hv:vs≠[])
  (h1:ws=[]->Q (.ref t) s) (h2:ws≠[]->Q (.ref s.heap.objs.size) { s with heap:=s.heap.push { cls:=.type "tuple", data:=.seq (vs++ws).toArray } })
  (hsz:vs.length+ws.length<=sizeLine):wpAny (model prog w) A (binaryOp .Add (.ref t) (.ref b)) Q E s:=by
 obtain⟨⟨cls,dd,data,sl⟩,ho,hc,n,hd⟩:=id ht;obtain⟨⟨cls2,dd2,data2,sl2⟩,ho2,hc2,n2,hd2⟩:=id hb;simp only at hc hd hc2 hd2;subst hc hd hc2 hd2;have e:vs.toArray++ws.toArray=(vs++ws).toArray:=by simp
 by_cases hw:ws=[]
 ·exact concat_meets ⟨_,ho,rfl⟩ ⟨_,ho2,rfl⟩ noFill_tuple_add seq_tuple_add PySem.F.slot_tuple_add PySem.F.entry_tuple_add (PySem.F.args_tuple_add_2 _ _)
   (tuple_addW1 t b vs.toArray ws.toArray n n2 dd dd2 sl sl2 (by simpa using hv) (by simp[hw])) ⟨ho,ho2,h1 hw⟩
 ·refine concat_meets ⟨_,ho,rfl⟩ ⟨_,ho2,rfl⟩ noFill_tuple_add seq_tuple_add PySem.F.slot_tuple_add PySem.F.entry_tuple_add (PySem.F.args_tuple_add_2 _ _)
   (tuple_addW2 t b vs.toArray ws.toArray n n2 dd dd2 sl sl2 (by simpa using hv) (by simpa using hw) (by rw[mH,mH];exact hsz)) ⟨ho,ho2,?_⟩
  rw[e];exact h2 hw
noncomputable def sIx (n d:Nat):Option Int->Nat
 |none=>d
 |some v=>if v<0 then (v+(n:Int)).toNat else min v.toNat n
theorem sIx_none (n d:Nat):sIx n d none=d:=rfl
theorem sIx_nat (n d k:Nat):sIx n d (some (k:Int))=min k n:=by
 show (if (k:Int)<0 then ((k:Int)+(n:Int)).toNat else min (k:Int).toNat n)=min k n;rw[if_neg (by omega),Int.toNat_natCast]
theorem zMo (n d:Nat) (hd:d<=n) (o:Option Int):sIx n d o<=n:=by
 cases o with
 |none=>exact hd
 |some v =>
  show (if v<0 then (v+(n:Int)).toNat else min v.toNat n)<=n
  by_cases hv:v<0
  ·rw[if_pos hv];omega
  ·rw[if_neg hv];exact Nat.min_le_right _ _
theorem zJi (v:Int) (n d:Nat):(if v<0 then max (v+(n:Int)) 0 else min v (n:Int))=((sIx n d (some v):Nat):Int):=by
 show (if v<0 then max (v+(n:Int)) 0 else min v (n:Int))=(((if v<0 then (v+(n:Int)).toNat else min v.toNat n):Nat):Int)
 by_cases hv:v<0
 ·simp only[if_pos hv];omega
 ·simp only[if_neg hv];omega
theorem zH9 (lo hi:Option Int) (n:Nat):Builtin.Slice.sliceAdjust lo hi 1 (n:Int)=(((sIx n 0 lo:Nat):Int),((sIx n n hi:Nat):Int)):=by
 have h1:¬((1:Int)<0):=by omega
 unfold Builtin.Slice.sliceAdjust;simp only[h1,if_false];refine Prod.ext ?_ ?_
 ·cases lo with
  |none=>rfl
  |some v=>exact zJi v n 0
 ·cases hi with
  |none=>rfl
  |some v=>exact zJi v n n
theorem zHp (i j:Nat):Builtin.Slice.slicePlaces (i:Int) (j:Int) 1=j - i:=by
 unfold Builtin.Slice.slicePlaces;have h1:(1:Int) > 0:=by omega
 simp only[h1,if_true,Int.ediv_one];split<;>omega
theorem zEl {v:Value}{o:Option Int}{Q:Option Int->Shared->Prop}(p:IsPart v o) (h:Q o s):wpAny (model prog w) A (Builtin.Slice.slicePartIndex v) Q E s:=by
 cases p with
 |none=>exact slicePart_none h
 |int i t=>exact slicePart_int h
theorem sliceApplied_gen {sl:Addr}{vl vu:Value}{lo hi:Option Int}{n:Nat}{Q:Int × Int × Nat->Shared->Prop}(hs:s.heap.IsSliceOf sl vl vu .none) (pl:IsPart vl lo) (pu:IsPart vu hi)
  (h:Q (((sIx n 0 lo:Nat):Int),1,sIx n n hi - sIx n 0 lo) s):wpAny (model prog w) A (Builtin.Slice.sliceApplied (.ref sl) (pure (n:Int))) Q E s:=by
 obtain⟨os,hos,hcs,hds⟩:=id hs;unfold Builtin.Slice.sliceApplied Builtin.Slice.sliceFields;refine lA (lA (wpAny_field hos hds (x:=vl) rfl (lA (wpAny_field hos hds (x:=vu) rfl (lA (wpAny_field hos hds (x:=.none) rfl (lB ?_)))))));refine lA (slicePart_none ?_);show wpAny _ _ (if ((1:Int) == 0)=true then _ else _) _ _ s;rw[if_neg (by decide)];refine lA (zEl pl (lA (zEl pu (lA (lB ?_)))));show wpAny _ _ (match Builtin.Slice.sliceAdjust lo hi 1 (n:Int) with|(lo,hi)=>pure (lo,(1:Int),Builtin.Slice.slicePlaces lo hi 1)) _ _ s;rw[zH9 lo hi n];show wpAny _ _ (pure (((sIx n 0 lo:Nat):Int),(1:Int),Builtin.Slice.slicePlaces ((sIx n 0 lo:Nat):Int) ((sIx n n hi:Nat):Int) 1)) _ _ s;rw[zHp];exact lB h
theorem zJ6 (xs:Array Value) (i k:Nat):((List.range k).filterMap λ(m:Nat)=>xs[((i:Int)+(m:Int) * 1).toNat]?).toArray=((xs.toList.drop i).take k).toArray:=by
 have e:(λ(m:Nat)=>xs[((i:Int)+(m:Int) * 1).toNat]?)=λ m=>xs[i+m]?:=by
  funext m;have:((i:Int)+(m:Int) * 1).toNat=i+m:=by omega
  rw[this]
 rw[e];have:=pick_run xs i k;rw[List.filterMap_map] at this;have e2:((λ x=>xs[x]?) ∘ λ x=>i+x)=λ m=>xs[i+m]?:=rfl;rw[e2] at this;rw[this]
theorem getItem_tuple_cut {t sl:Addr}{items:Array Value}{vl vu:Value}{lo hi:Option Int}{Q:XQ}(ht:IsTup s.heap t items) (hs:s.heap.IsSliceOf sl vl vu .none) (pl:IsPart vl lo) (pu:IsPart vu hi)
  (hw:¬(sIx items.size 0 lo=0/\sIx items.size items.size hi=items.size))
  (h:Q (.ref s.heap.objs.size) { s with heap:=s.heap.push { cls:=.type "tuple", data:=.seq ((items.toList.drop (sIx items.size 0 lo)).take (sIx items.size items.size hi - sIx items.size 0 lo)).toArray } })
  (hsz:items.size<=sizeLine):wpAny (model prog w) A (getItem (.ref t) (.ref sl)) Q E s:=by
 have htake:sizeOk (.seq ((items.toList.drop (sIx items.size 0 lo)).take (sIx items.size items.size hi - sIx items.size 0 lo)).toArray):=by
  show ((items.toList.drop (sIx items.size 0 lo)).take (sIx items.size items.size hi - sIx items.size 0 lo)).toArray.size<=sizeLine;rw[mH,mO,mX,Array.length_toList];omega
 have hj:sIx items.size items.size hi<=items.size:=zMo _ _ (lQ _) hi;obtain⟨os,hos,hcs,hds⟩:=id hs;have hTs:s.TypeIs (.ref sl) "slice" := ⟨os,hos,hcs⟩;unfold getItem
 try with_reducible refine lE ?_
 first|refine lA (lB ?_)|skip
 refine lA (wpAny_sequenceKey ht.typeIs (by decide) ?_)
 refine lA (wpAny_callSpecial?_slot (name:=Str.ofString "__getitem__") ht.typeIs PyProof.Rows.slot_tuple_getitem
  (wpAny_call_entry PyProof.Rows.slot_tuple_getitem ht.typeIs entry_tuple_getitem ?_ (args_tuple_getitem _ _)))
 show wpAny _ _ (Builtin.Tuple.tupleItemsOf (.ref t) >>= _) _ _ s;refine lA (tupleItemsOf_ ht ?_);refine lA (wpAny_typeOf hTs ?_);rw[if_pos (by decide)];refine lA (sliceApplied_gen hs pl pu ?_)
 have hno:¬((((sIx items.size 0 lo:Nat):Int) == 0 && (1:Int) == 1 && (sIx items.size items.size hi - sIx items.size 0 lo) == items.size)=true):=by
  intro q;rw[Bool.and_eq_true,Bool.and_eq_true] at q;have q1:((sIx items.size 0 lo:Nat):Int)=0:=eq_of_beq q.1.1;have q2:sIx items.size items.size hi - sIx items.size 0 lo=items.size:=eq_of_beq q.2;exact hw ⟨by omega,by omega⟩
 show wpAny _ _ (if (((sIx items.size 0 lo:Nat):Int) == 0 && (1:Int) == 1 && (sIx items.size items.size hi - sIx items.size 0 lo) == items.size)=true then _ else _) _ _ s;rw[if_neg hno,zJ6]
 first
  |exact lA (m:=Builtin.Tuple.tupleExact _) (wpAny_newObj_type (lB ⟨_,rfl,lB h⟩) htake)
  |exact lA (m:=Builtin.Tuple.tupleExact _) (wpAny_newObj_type (lA (lB (lB ⟨_,rfl,lB h⟩))) htake)
  |exact lA (lA (m:=Builtin.Tuple.tupleExact _) (wpAny_newObj_type (lB (lB ⟨_,rfl,lB h⟩)) htake))
  |exact lA (lA (m:=Builtin.Tuple.tupleExact _) (wpAny_newObj_type (lB ⟨_,rfl,lB h⟩) htake))
end
end HT
namespace L2
open PySem PySem.Spec PyProof.Rows
abbrev TO:=St->Hp->(Option Int->Hp->Prop)->Prop
def PO (X:Cx) (e:Option Expr) (t:TO):Prop :=
 ∀(jP:List (Addr × Obj)) (s:Shared) (σ:St) (H:Hp) (Q:Option Int->Hp->Prop),Inv X jP σ H s->t σ H Q ->
  wpAny (model X.prog X.w) X.A (evalPart e X.env) (λ u s'=>∃o H',Inv X jP σ H' s'/\IsPart u o/\Q o H') X.xe s
def zLU:TO:=λ Ω H Q=>Q none H
inductive IsI (Q:Option Int->Hp->Prop) (x:V) (H:Hp):Prop
 |mk (i:Int) (h:x = .int i) (q:Q (some i) H)
def tPart (t:TE):TO:=λ σ H Q=>t σ H (IsI Q)
section
variable {X:Cx}{e:Expr}{te:TE}{lo hi:Option Expr}{tl th:TO}{pos p2:Pos}
theorem zCO:PO X none zLU:=by
 intro jP s σ H Q I h;rw[evalPart_none];exact lB ⟨none,H,I,.none,h⟩
theorem zA4 (h:PE X e te):PO X (some e) (tPart te):=by
 intro jP s σ H Q I hw;rw[evalPart_some];refine thn (h jP s σ H _ I hw) λ u s1 ⟨x,H1,I1,r1,q1⟩=>?_;obtain⟨i,rfl,q⟩:=q1;obtain⟨t,rfl⟩:=r1;exact⟨some i,H1,I1,.int i t,q⟩
def SlR (X:Cx) (r:V->Option Int->Option Int->Hp->VK->Prop):Prop :=
 ∀(jP:List (Addr × Obj)) (s:Shared) (σ:St) (H:Hp) (x:V) (v vl vu:Value) (lo hi:Option Int) (sl:Addr) (Q:VK),Inv X jP σ H s->RelV x v->s.heap.IsSliceOf sl vl vu .none->IsPart vl lo->IsPart vu hi->r x lo hi H Q ->
  ∃T id,typeLookup (.type T) "__getitem__" = pure (some (.builtin id))/\s.TypeIs v T/\wpAny (model X.prog X.w) X.A (getItem v (.ref sl)) (EP X jP σ Q) X.xe s
def tSl (r:V->Option Int->Option Int->Hp->VK->Prop) (te:TE) (tl th:TO):TE:=λ σ H Q=>te σ H λ x H1=>tl σ H1 λ l H2=>th σ H2 λ u H3=>r x l u H3 Q
theorem zA8 {r:V->Option Int->Option Int->Hp->VK->Prop}(hr:SlR X r) (he:PE X e te) (hl:PO X lo tl) (hu:PO X hi th):PE X (.Subscript e (.Slice lo hi none p2) pos) (tSl r te tl th):=by
 intro jP s σ H Q I h;refine Subscript_ (thn (he jP s σ H _ I h) λ v s1 ⟨x,H1,I1,r1,q1⟩=>?_);refine wpAny_Slice (thn (hl jP s1 σ H1 _ I1 q1) λ vl s2 ⟨l,H2,I2,pl,q2⟩=>thn (hu jP s2 σ H2 _ I2 q2) λ vu s3 ⟨u,H3,I3,pu,q3⟩=>?_);rw[evalPart_none];refine lB ?_;have I4:Inv X jP σ H3 { s3 with heap:=s3.heap.push { cls:=.type "slice", data:=.fields #[vl,vu,.none] } }:=I3.kept (t':=s3.toks) λ b ob q=>lG _ q;obtain⟨T,id,hT,ht,hg⟩:=hr jP { s3 with heap:=s3.heap.push { cls:=.type "slice", data:=.fields #[vl,vu,.none] } } σ H3 x v vl vu l u s3.heap.objs.size Q I4 r1 (Heap.IsSliceOf.new ..) pl pu q3;show wpAny (model X.prog X.w) X.A (subscriptTail e (.Slice lo hi none p2) v (.ref s3.heap.objs.size)) (EP X jP σ Q) X.xe { s3 with heap:=s3.heap.push { cls:=.type "slice", data:=.fields #[vl,vu,.none] } };exact tail_any (ops:=[.ref s3.heap.objs.size,v]) ht hT hg (by with_unfolding_all rfl)
noncomputable def cutV (xs:List V) (lo hi:Option Int):List V:=(xs.drop (HT.sIx xs.length 0 lo)).take (HT.sIx xs.length xs.length hi - HT.sIx xs.length 0 lo)
theorem zEO (xs:List V) (lo hi:Option Int):(cutV xs lo hi).length<=xs.length:=by
 unfold cutV;rw[mO,mX];omega
def rSlT (K:W.Frag):V->Option Int->Option Int->Hp->VK->Prop:=λ x lo hi H Q=>∃a xs,x = .ref a/\SqT K H a xs /\
 ¬(HT.sIx xs.length 0 lo=0/\HT.sIx xs.length xs.length hi=xs.length)/\∀p,H p=none->Q (.ref p) (upd H p (.tup (cutV xs lo hi)))
theorem zK3:SlR X (rSlT X.K):=by
 intro jP s σ H x v vl vu lo hi sl Q I rx hs pl pu h;obtain⟨a,xs,rfl,hx,hw,q⟩:=h;cases rx;obtain⟨its,r,ht,hz⟩:=I.tuple hx;have hlen:its.toArray.size=xs.length:=by rw[mH];exact r.length.symm
 refine⟨"tuple", _,PyProof.Rows.slot_tuple_getitem.lookup,ht.typeIs,?_⟩;refine HT.getItem_tuple_cut ht hs pl pu (by rw[hlen];exact hw) ?_ (by rw[hlen];exact hz);rw[hlen];refine⟨.ref s.heap.objs.size,_,I.laid (t':=s.toks) (o:=.tup (cutV xs lo hi)) (λ b ob q=>lG _ q) (lQ _) ?_,rfl,q _ (I.hok.fresh (lQ _))⟩;exact⟨mG (zEO xs lo hi) hz,_,(r.drop (HT.sIx xs.length 0 lo)).take (HT.sIx xs.length xs.length hi - HT.sIx xs.length 0 lo),IsTup.new _ _⟩
def rCatT (K:W.Frag):R2:=λ x y H Q=>∃a b xs ys,x = .ref a/\y = .ref b/\SqT K H a xs/\SqT K H b ys/\xs≠[]/\xs.length+ys.length<=sizeLine /\
 (ys=[]->Q (.ref a) H)/\(ys≠[]->∀p,H p=none->Q (.ref p) (upd H p (.tup (xs++ys))))
theorem Vals.nil_iff {xs:List V}{us:List Value}(r:Vals xs us):us=[]↔xs=[]:=by
 cases r with
 |nil=>simp
 |cons _ _=>simp
theorem zLy:OpR X (binaryOp .Add) (rCatT X.K):=by
 intro jP s σ H x y v u Q I rx ry h;obtain⟨a,b,xs,ys,rfl,rfl,ha,hb,hx,hz,q1,q2⟩:=h;cases rx;cases ry;obtain⟨its,r1,p1,_⟩:=I.tuple ha;obtain⟨its2,r2,p2,_⟩:=I.tuple hb;refine HT.cat_tup p1 p2 (λ z=>hx (r1.nil_iff.mp z)) (λ z=>⟨.ref a,H,I,rfl,q1 (r2.nil_iff.mp z)⟩) (λ z=>?_) (by rw[←r1.length,←r2.length];exact hz);refine⟨.ref s.heap.objs.size,_,I.laid (t':=s.toks) (o:=.tup (xs++ys)) (λ b ob q=>lG _ q) (lQ _) ?_,rfl,q2 (λ w=>z (r2.nil_iff.mpr w)) _ (I.hok.fresh (lQ _))⟩;exact⟨by rw[mK];exact hz,_,r1.append r2,IsTup.new _ _⟩
end
noncomputable def ixN (n:Nat) (i:Int):Option Nat:=if 0<=i then (if i<n then some i.toNat else none) else if -(n:Int)<=i then some (i+n).toNat else none
noncomputable def atI {α:Type}(xs:List α) (i:Int):Option α:=(ixN xs.length i).bind λ j=>xs[j]?
theorem zJB {n:Nat}{i:Int}{j:Nat}(h:ixN n i=some j):seqIndex? i n=some j/\j<n /\ -(n:Int)<=i/\i<n:=by
 unfold ixN at h
 by_cases h0:0<=i
 ·rw[if_pos h0] at h
  by_cases h1:i<n
  ·rw[if_pos h1] at h
   have e:i.toNat=j:=mE h;exact⟨by rw[seqIndex_of h0 h1,e],by omega,by omega,h1⟩
  ·rw[if_neg h1] at h;cases h
 ·rw[if_neg h0] at h
  by_cases h1 : -(n:Int)<=i
  ·rw[if_pos h1] at h
   have e:(i+n).toNat=j:=mE h;exact⟨by rw[seqIndex_neg (by omega) h1,e],by omega,h1,by omega⟩
  ·rw[if_neg h1] at h;cases h
theorem zGr {α:Type}{xs:List α}{i:Int}{v:α}(h:atI xs i=some v):∃j,seqIndex? i xs.length=some j/\xs[j]?=some v/\j<xs.length /\ -(xs.length:Int)<=i/\i<xs.length:=by
 unfold atI at h;cases e:ixN xs.length i with
 |none=>rw[e] at h;cases h
 |some j =>
  rw[e] at h;obtain⟨h1,h2,h3,h4⟩:=zJB e;exact⟨j,h1,h,h2,h3,h4⟩
theorem zAP {α:Type}{xs:List α}{j:Nat}{v:α}(h:xs[j]?=some v):atI xs (j:Int)=some v:=by
 have hj:j<xs.length:=(lJ.mp h).1
 have e:ixN xs.length (j:Int)=some j:=by
  unfold ixN;rw[if_pos (by omega),if_pos (by omega)];simp
 unfold atI;rw[e];exact h
def zJo (b:Expr):Prop:=∀o i,subscripted b false o i=operate [o,i] (getItem o i)
def IxR (X:Cx) (r:R2):Prop :=
 ∀(value slice:Expr) (jP:List (Addr × Obj)) (s:Shared) (σ:St) (H:Hp) (x y:V) (v u:Value) (Q:VK),Inv X jP σ H s->RelV x v->RelV y u->r x y H Q ->
  subscripted slice false v u=operate [v,u] (getItem v u)->wpAny (model X.prog X.w) X.A (subscriptTail value slice v u) (EP X jP σ Q) X.xe s
def MtR (X:Cx) (id:String) (r:V->List V->Hp->VK->Prop):Prop :=
 ∀(jP:List (Addr × Obj)) (s:Shared) (σ:St) (H:Hp) (x:V) (xs:List V) (v:Value) (us:List Value) (Q:VK),Inv X jP σ H s->RelV x v->Vals xs us->r x xs H Q ->
  wpAny (model X.prog X.w) X.A (call (.builtin id) (v::us)) (EP X jP σ Q) X.xe s
section
variable {X:Cx}{a b:Expr}{ta tb:TE}{pos:Pos}
theorem pe_ix {r:R2}(hr:IxR X r) (ha:PE X a ta) (hb:PE X b tb) (hs:zJo b):PE X (.Subscript a b pos) (tOp r ta tb):=by
 intro jP s σ H Q I h;exact Subscript_ (binT ha hb I h λ v u s2 x y H2 I2 rx ry q=>hr a b jP s2 σ H2 x y v u Q I2 rx ry q (hs _ _))
inductive rIxL (K:W.Frag) (x y:V) (H:Hp) (Q:VK):Prop
 |mk (p:Addr) (xs:List V) (i:Int) (v:V) (hx:x = .ref p) (hy:y = .int i) (s:SqL K H p xs) (a:atI xs i=some v) (q:Q v H)
inductive rIxT (K:W.Frag) (x y:V) (H:Hp) (Q:VK):Prop
 |mk (p:Addr) (xs:List V) (i:Int) (v:V) (hx:x = .ref p) (hy:y = .int i) (s:SqT K H p xs) (a:atI xs i=some v) (q:Q v H)
def rIxS:R2:=λ x y H Q=>∃z i c,x = .str z/\y = .int i/\z.length<=sizeLine/\atI z.cps.toList i=some c/\Q (.str ⟨#[c]⟩) H
theorem zBx:IxR X (rIxL X.K):=by
 intro value slice jP s σ H x y v u Q I rx ry h hs;obtain⟨p,xs,i,z,rfl,rfl,hq,he,q⟩:=h;cases rx;obtain⟨t,rfl⟩:=ry;obtain⟨its,r,pl,hz⟩:=I.list hq;obtain⟨j,h1,h2,h3,h4,h5⟩:=zGr he;obtain⟨w,ew,rw'⟩:=r.get h2;have hl:=r.length;have hn:=zEt;have fin:EP X jP σ Q w s:=⟨z,H,I,rw',q⟩
 by_cases h0:0<=i
 ·have hj:i.toNat=j:=by
   rw[seqIndex_of h0 h5] at h1;exact mE h1
  exact item_listR pl.isList h0 (by omega) (by rw[hj];simpa using ew) fin hs
 ·have hj:(i+(its.toArray.size:Int)).toNat=j:=by
   rw[seqIndex_neg (by omega) h4] at h1;rw[mH,←hl];exact mE h1
  exact subscriptTail_builtinR (x:=w) pl.isList.typeIs slot_list_getitem.lookup
   (wpAny_getItem_list_neg (Q:=λ r s'=>r=w/\EP X jP σ Q r s') pl.isList (by omega) (by rw[mH]<;>omega) (by omega) (by rw[hj];simpa using ew) ⟨rfl,fin⟩) hs
theorem zAS:IxR X (rIxT X.K):=by
 intro value slice jP s σ H x y v u Q I rx ry h hs;obtain⟨p,xs,i,z,rfl,rfl,hq,he,q⟩:=h;cases rx;obtain⟨t,rfl⟩:=ry;obtain⟨its,r,pl,hz⟩:=I.tuple hq;obtain⟨j,h1,h2,h3,h4,h5⟩:=zGr he;obtain⟨w,ew,rw'⟩:=r.get h2;have hl:=r.length;have hn:=zEt;have fin:EP X jP σ Q w s:=⟨z,H,I,rw',q⟩
 exact subscriptTail_builtinR (x:=w) pl.typeIs slot_tuple_getitem.lookup
  (getItem_tuple (j:=j) (Q:=λ r s'=>r=w/\EP X jP σ Q r s') pl (by omega) (by omega) (by rw[mH,←hl];exact h1) (by simpa using ew) ⟨rfl,fin⟩) hs
theorem zJA:IxR X rIxS:=by
 intro value slice jP s σ H x y v u Q I rx ry h hs;obtain⟨z,i,c,rfl,rfl,hz,he,q⟩:=h;obtain⟨t,rfl⟩:=rx;obtain⟨t',rfl⟩:=ry;obtain⟨j,h1,h2,h3,h4,h5⟩:=zGr he;have hl:z.cps.toList.length=z.length:=by simp[Str.length]
 rw[hl] at h1 h4 h5;have hn:=zEt
 exact tail_any (typeIs_str s z t) slot_str_getitem.lookup (getItem_str (c:=c) (by
  have e1:decide (i < -(2 ^ 63:Int))=false:=decide_eq_false (by omega);have e2:decide (i ≥ 2 ^ 63)=false:=decide_eq_false (by omega);rw[e1,e2,Bool.or_false]) (by rw[h1];simpa using h2) ⟨.str ⟨#[c]⟩,H,I.tok _,⟨_,rfl⟩,q⟩) hs
theorem zHz (its:List Value) (n j:Nat) (u:Value):Obj.mapSeq (·.setIfInBounds j u) { cls:=.type "list", data:=.seq its.toArray n }={ cls:=.type "list", data:=.seq (its.set j u).toArray n }:=by
 simp[Obj.mapSeq]
theorem Inv.lst {jP:List (Addr × Obj)}{σ:St}{H:Hp}{s:Shared}{p:Addr}{xs:List V}(I:Inv X jP σ H s) (h:H p=some (.lst xs)) :
  ∃(its:List Value) (n:Nat),Vals xs its/\s.heap.get? p=some { cls:=.type "list", data:=.seq its.toArray n }/\xs.length<=sizeLine:=by
 obtain⟨z,its,n,r,e⟩:=I.hok p _ h;exact⟨its,n,r,e,z⟩
theorem Inv.lstUpd {jP:List (Addr × Obj)}{σ:St}{H:Hp}{s:Shared}{p:Addr}{xs ys:List V}{its its':List Value}{n n':Nat}{f:Obj->Obj}(I:Inv X jP σ H s) (h:H p=some (.lst xs))
  (ho:s.heap.get? p=some { cls:=.type "list", data:=.seq its.toArray n }) (hf:f { cls:=.type "list", data:=.seq its.toArray n }={ cls:=.type "list", data:=.seq its'.toArray n' }) (r:Vals ys its') (hz:ys.length<=sizeLine) (t:Nat) :
  Inv X jP σ (upd H p (.lst ys)) { s with heap:=s.heap.update p f,toks:=t }:=by
 have e:(s.heap.update p f).get? p=some { cls:=.type "list", data:=.seq its'.toArray n' }:=by
  rw[Heap.get?_update_self f ho (by rw[hf]<;>rfl),hf]
 refine I.write (x:=p) (e:=p) (by rw[h];trivial) (.inl rfl) (λ b u hb q=>(Heap.get?_update_other _ _ (Ne.symm hb)).trans q) ⟨_,e⟩ ?_;exact⟨hz,its',n',r,e⟩
def rSetL:V->V->V->Hp->(Hp->Prop)->Prop:=λ o i v H Q=>∃p xs k j,o = .ref p/\i = .int k/\H p=some (.lst xs)/\ixN xs.length k=some j/\Q (upd H p (.lst (xs.set j v)))
theorem zFB:PSet X rSetL:=by
 intro jP s σ H o i v ov iv u Q I ro ri rv h;obtain⟨p,xs,k,j,rfl,rfl,hp,hj,q⟩:=h;cases ro;obtain⟨t,rfl⟩:=ri;obtain⟨its,n,r,ho,hz⟩:=I.lst hp;obtain⟨h1,h2,h3,h4⟩:=zJB hj;have hl:=r.length;have hn:=zEt
 have I':Inv X jP σ (upd H p (.lst (xs.set j v))) { s with heap:=s.heap.update p (Obj.mapSeq (·.setIfInBounds j u)) } :=
  I.lstUpd hp ho (zHz its n j u) (r.set rv j) (by rw[List.length_set];exact hz) s.toks
 by_cases h0:0<=k
 ·have hk:k.toNat=j:=by
   rw[seqIndex_of h0 h4] at h1;exact mE h1
  exact W.ki_setAt ho h0 (by omega) (by rw[mH,←hl];exact h4) (by rw[hk];exact⟨_,I',q⟩)
 ·have hk:(k+(its.toArray.size:Int)).toNat=j:=by
   rw[seqIndex_neg (by omega) h3] at h1;rw[mH,←hl];exact mE h1
  exact W.ki_setBack ho (by omega) (by rw[mH,←hl];exact h3) (by omega) (by rw[hk];exact⟨_,I',q⟩)
theorem zFw (lo hi:Option Int) (n:Nat):(sliceBounds lo hi none n).1=((HT.sIx n 0 lo:Nat):Int)/\(sliceBounds lo hi none n).2.1=((HT.sIx n n hi:Nat):Int)/\(sliceBounds lo hi none n).2.2=1:=by
 refine⟨?_,?_,rfl⟩
 ·cases lo with
  |none=>simp[sliceBounds,HT.sIx]
  |some i =>
   simp only[sliceBounds,HT.sIx,Option.getD_none,show (1:Int) > 0 by decide,if_true]
   by_cases h:i<0
   ·simp only[h,if_true]<;>omega
   ·simp only[h,if_false]<;>omega
 ·cases hi with
  |none=>simp[sliceBounds,HT.sIx]
  |some i =>
   simp only[sliceBounds,HT.sIx,Option.getD_none,show (1:Int) > 0 by decide,if_true]
   by_cases h:i<0
   ·simp only[h,if_true]<;>omega
   ·simp only[h,if_false]<;>omega
theorem zE9 (its:List Value) (lo hi:Option Int):slicePick its.toArray lo hi none=((its.drop (HT.sIx its.length 0 lo)).take (HT.sIx its.length its.length hi - HT.sIx its.length 0 lo)).toArray:=by
 obtain⟨h1,h2,h3⟩:=zFw lo hi its.toArray.size;unfold slicePick;rw[h1,h2,h3];simp only[sliceRange_one,pick_run,mH]<;>rfl
inductive rSlL (K:W.Frag) (x:V) (lo hi:Option Int) (H:Hp) (Q:VK):Prop
 |mk (a:Addr) (xs:List V) (hx:x = .ref a) (s:SqL K H a xs) (q:∀p,H p=none->Q (.ref p) (upd H p (.lst (cutV xs lo hi))))
theorem zDr:SlR X (rSlL X.K):=by
 intro jP s σ H x v vl vu lo hi sl Q I rx hs pl pu h;obtain⟨a,xs,rfl,hx,q⟩:=h;cases rx;obtain⟨its,r,ht,hz⟩:=I.list hx;have hlen:=r.length;refine⟨"list", _,slot_list_getitem.lookup,ht.isList.typeIs,?_⟩;refine wpAny_getItem_list_slice ht.isList hs pl pu .none (by simp) ?_ (by rw[mH]<;>omega);rw[zE9,←hlen];refine⟨.ref s.heap.objs.size,_,I.laid (t':=s.toks) (o:=.lst (cutV xs lo hi)) (λ b ob q=>lG _ q) (lQ _) ?_,rfl,q _ (I.hok.fresh (lQ _))⟩;exact⟨mG (zEO xs lo hi) hz,_,0,(r.drop (HT.sIx xs.length 0 lo)).take (HT.sIx xs.length xs.length hi - HT.sIx xs.length 0 lo),lH _ rfl⟩
noncomputable def flatV:V->Bool
 |.non=>true
 |.bl _=>true
 |.int _=>true
 |.str _=>true
 |_=>false
noncomputable def eqV:V->V->Bool
 |.non,.non=>true
 |.bl a,.bl b=>a == b
 |.bl a,.int b=>(if a then 1 else 0) == b
 |.int a,.bl b=>a == (if b then 1 else 0)
 |.int a,.int b=>a == b
 |.str a,.str b=>a == b
 |_,_=>false
theorem zLL {A:Around}{s:Shared}{y x:V}{u v:Value}(ry:RelV y u) (rx:RelV x v) (fy:flatV y=true) (fx:flatV x=true):SeqAt.EqAt A s u v (eqV y x):=by
 cases y with
 |non =>
  cases ry;cases x with
  |non=>cases rx;exact SeqAt.EqAt.same _
  |bl b=>cases rx;exact SeqAt.EqAt.none_bool b
  |int b=>obtain⟨t,rfl⟩:=rx;exact SeqAt.EqAt.none_int b t
  |str b=>obtain⟨t,rfl⟩:=rx;exact SeqAt.EqAt.none_str b t
  |_=>exact absurd (show false=true from fx) lX
 |bl a =>
  cases ry;cases x with
  |non=>cases rx;exact SeqAt.EqAt.bool_none a
  |bl b=>cases rx;exact SeqAt.EqAt.bool_bool a b
  |int b=>obtain⟨t,rfl⟩:=rx;exact SeqAt.EqAt.bool_int a b t
  |str b=>obtain⟨t,rfl⟩:=rx;exact SeqAt.EqAt.bool_str a b t
  |_=>exact absurd (show false=true from fx) lX
 |int a =>
  obtain⟨t',rfl⟩:=ry;cases x with
  |non=>cases rx;exact SeqAt.EqAt.int_none a t'
  |bl b=>cases rx;exact SeqAt.EqAt.int_bool a t' b
  |int b=>obtain⟨t,rfl⟩:=rx;exact SeqAt.EqAt.int_int a t' b t
  |str b=>obtain⟨t,rfl⟩:=rx;exact SeqAt.EqAt.int_str a t' b t
  |_=>exact absurd (show false=true from fx) lX
 |str a =>
  obtain⟨t',rfl⟩:=ry;cases x with
  |non=>cases rx;exact SeqAt.EqAt.str_none a t'
  |bl b=>cases rx;exact SeqAt.EqAt.str_bool a t' b
  |int b=>obtain⟨t,rfl⟩:=rx;exact SeqAt.EqAt.str_int a t' b t
  |str b=>obtain⟨t,rfl⟩:=rx;exact SeqAt.EqAt.str_str a t' b t
  |_=>exact absurd (show false=true from fx) lX
 |_=>exact absurd (show false=true from fy) lX
noncomputable def eqU (x:V) (u:Value):Bool:=match u with
 |.none=>eqV .non x
 |.bool b=>eqV (.bl b) x
 |.int i _=>eqV (.int i) x
 |.str z _=>eqV (.str z) x
 |_=>false
theorem zLK {x y:V}{u:Value}(r:RelV y u) (f:flatV y=true):eqU x u=eqV y x:=by
 cases y with
 |non=>cases r;rfl
 |bl b=>cases r;rfl
 |int i=>obtain⟨t,rfl⟩:=r;rfl
 |str z=>obtain⟨t,rfl⟩:=r;rfl
 |_=>exact absurd (show false=true from f) lX
theorem zET {x:V}{xs:List V}{us:List Value}(h:Vals xs us):xs.all flatV=true->us.any (eqU x)=xs.any λ y=>eqV y x:=by
 induction h with
 |nil=>exact λ U=>rfl
 |cons r t ih=>intro f;rw[List.all_cons,Bool.and_eq_true] at f;rw[List.any_cons,List.any_cons,zLK r f.1,ih f.2]
theorem zC4 {A:Around}{s:Shared}{x:V}{v:Value}(rx:RelV x v) (fx:flatV x=true){xs:List V}{us:List Value}(z:Vals xs us):xs.all flatV=true->∀u∈us,SeqAt.EqAt A s u v (eqU x u):=by
 induction z with
 |nil=>exact λ U u hu=>nomatch hu
 |cons r t ih =>
  intro f u' hu;rw[List.all_cons,Bool.and_eq_true] at f;rcases nP.mp hu with rfl|hu
  ·rw[zLK r f.1];exact zLL r rx f.1 fx
  ·exact ih f.2 u' hu
noncomputable def inV (x:V) (xs:List V):Bool:=xs.any λ y=>eqV y x
inductive rIn (K:W.Frag) (neg:Bool) (x y:V) (H:Hp) (Q:VK):Prop
 |mk (p:Addr) (xs:List V) (hy:y = .ref p) (s:SqL K H p xs\/SqT K H p xs) (f:flatV x=true) (g:xs.all flatV=true) (q:Q (.bl (if neg then !inV x xs else inV x xs)) H)
theorem zBf:OpR X (compareOp .In) (rIn X.K false):=by
 intro jP s σ H x y v u Q I rx ry h;obtain⟨p,xs,rfl,hq,fx,fs,q⟩:=h;cases ry;rcases hq with hq|hq
 ·obtain⟨its,r,pl,hz⟩:=I.list hq
  refine SeqAt.in_listAt (eqU x) pl.isList (λ w hw=>zC4 rx fx r fs w (by simpa using hw)) ⟨.bl _,H,I,rfl,?_⟩;rw[show its.toArray.any (eqU x)=its.any (eqU x) by simp,zET r fs];exact q
 ·obtain⟨its,r,pl,hz⟩:=I.tuple hq
  refine SeqAt.in_tupleAt (eqU x) pl (λ w hw=>zC4 rx fx r fs w (by simpa using hw)) ⟨.bl _,H,I,rfl,?_⟩;rw[show its.toArray.any (eqU x)=its.any (eqU x) by simp,zET r fs];exact q
theorem zDX:OpR X (compareOp .NotIn) (rIn X.K true):=by
 intro jP s σ H x y v u Q I rx ry h;obtain⟨p,xs,rfl,hq,fx,fs,q⟩:=h;cases ry;rcases hq with hq|hq
 ·obtain⟨its,r,pl,hz⟩:=I.list hq
  refine SeqAt.notIn_listAt (eqU x) pl.isList (λ w hw=>zC4 rx fx r fs w (by simpa using hw)) ⟨.bl _,H,I,rfl,?_⟩;rw[show its.toArray.any (eqU x)=its.any (eqU x) by simp,zET r fs];exact q
 ·obtain⟨its,r,pl,hz⟩:=I.tuple hq
  refine SeqAt.notIn_tupleAt (eqU x) pl (λ w hw=>zC4 rx fx r fs w (by simpa using hw)) ⟨.bl _,H,I,rfl,?_⟩;rw[show its.toArray.any (eqU x)=its.any (eqU x) by simp,zET r fs];exact q
inductive rLen1 (K:W.Frag) (xs:List V) (H:Hp) (Q:VK):Prop
 |mk (p:Addr) (ys:List V) (hx:xs=[.ref p]) (s:SqL K H p ys\/SqT K H p ys) (q:Q (.int ys.length) H)
theorem zDd:CallR X (.builtin "len") (rLen1 X.K):=by
 intro jP s σ H xs us Q I r h;obtain⟨p,ys,rfl,hq,q⟩:=h;obtain⟨u,rfl,rx⟩:=vals1 r;cases rx;have hn:=zEt;rcases hq with hq|hq
 ·obtain⟨its,r',pl,hz⟩:=I.list hq
  have hlen:=r'.length;exact Calls.call_len_list pl.isList (by simp only[mH]<;>omega) ⟨.int ys.length,H,I.tok _,⟨s.toks+1,by rw[mH,hlen]⟩,q⟩
 ·obtain⟨its,r',pl,hz⟩:=I.tuple hq
  have hlen:=r'.length;exact len_tuple pl (by simp only[mH]<;>omega) ⟨.int ys.length,H,I.tok _,⟨s.toks+1,by rw[mH,hlen]⟩,q⟩
theorem cL {X:Cx}{e:Expr}{es:List Expr}{t:TA}{p pos:Pos}(hm:X.mg "len"=none)(ha:PA X (e::es) t)(hg:Gl X "len":=by rfl)(he:starEach (e::es) X.env=(false,eval e X.env)::starEach es X.env:=by rfl)(hpl:(backTo pos (starEach es X.env)).any (·.1)=false:=by rfl):PE X (.Call (.Name "len" p) (e::es) [] pos) (tCB (rLen1 X.K) t):=zAd zDd hg hm PySem.boot_len ha (by decide) (by decide) he hpl
theorem zDc:CallR X (.type "list") (λ xs H Q=>∃p ys,xs=[.ref p]/\(SqL X.K H p ys\/SqT X.K H p ys)/\∀l,H l=none->Q (.ref l) (upd H l (.lst ys))):=by
 intro jP s σ H xs us Q I r h;obtain⟨p,ys,rfl,hq,q⟩:=h;obtain⟨u,rfl,rx⟩:=vals1 r;cases rx
 have fin:∀(its:List Value),Vals ys its->ys.length<=sizeLine->∀(h':Heap) (c':Nat),(∀b o',s.heap.get? b=some o'->h'.get? b=some o') ->
   h'.get? s.heap.objs.size=some { cls:=.type "list", dict:=none,data:=.seq its.toArray c',slots:=#[] }->EP X jP σ Q (.ref s.heap.objs.size) { s with heap:=h' }:=λ its r' hz h' c' kp e =>
  ⟨.ref s.heap.objs.size,_,I.laid (t':=s.toks) kp (lQ _) (show ObjOk X.prog X.w _ h' _ (.lst ys) from⟨hz,its,c',r',e⟩),rfl,q _ (I.hok.fresh (lQ _))⟩
 rcases hq with hq|hq
 ·obtain⟨its,r',pl,hz⟩:=I.list hq
  have hlen:=r'.length;obtain⟨o,ho,hc,n,hd⟩:=pl.isList;exact call_list_seq p (.inl rfl) ho hc hd (λ h' c' kp e=>fin its r' hz h' c' kp e) (by simp only[mH]<;>omega)
 ·obtain⟨its,r',pl,hz⟩:=I.tuple hq
  have hlen:=r'.length;obtain⟨o,ho,hc,n,hd⟩:=pl;exact call_list_seq p (.inr rfl) ho hc hd (λ h' c' kp e=>fin its r' hz h' c' kp e) (by simp only[mH]<;>omega)
theorem zCG:CallR X (.type "tuple") (λ xs H Q=>∃p ys,xs=[.ref p]/\((SqL X.K H p ys/\∀l,H l=none->Q (.ref l) (upd H l (.tup ys)))\/(SqT X.K H p ys/\Q (.ref p) H))):=by
 intro jP s σ H xs us Q I r h;obtain⟨p,ys,rfl,h⟩:=h;obtain⟨u,rfl,rx⟩:=vals1 r;cases rx;rcases h with ⟨hq,q⟩|⟨hq,q⟩
 ·obtain⟨its,r',pl,hz⟩:=I.list hq
  have hlen:=r'.length;refine call_tuple_list pl.isList (λ h' kp=>?_) (by simp only[mH]<;>omega);have I1:Inv X jP σ H { s with heap:=h' }:=I.kept (t':=s.toks) kp
  have I2:Inv X jP σ (upd H h'.objs.size (.tup ys)) { s with heap:=h'.push { cls:=.type "tuple", data:=.seq its.toArray } } :=
   I1.laid (t':=s.toks) (λ b o e=>lG _ e) (lQ _) (show ObjOk X.prog X.w _ _ _ (.tup ys) from⟨hz,its,r',IsTup.new _ _⟩)
  exact⟨.ref h'.objs.size,_,I2,rfl,q _ (I1.hok.fresh (lQ _))⟩
 ·obtain⟨its,r',pl,hz⟩:=I.tuple hq
  exact call_tuple_same pl ⟨.ref p,H,I,rfl,q⟩
def tyV (K:W.Frag) (T:String) (x:V) (H:Hp):Prop:=match x with
 |.str _=>T = "str"
 |.int _=>T = "int"
 |.ref p=>(T = "list" /\ ∃xs,SqL K H p xs)\/(T = "tuple" /\ ∃o,K.lookup p=some o/\o.cls = .type "tuple" /\ o.dict=none) \/
   (T = "dict" /\ ((∃kvs,H p=some (.dK kvs))\/∃kvs,H p=some (.dT kvs)))\/(T = "set" /\ ∃S n,H p=some (.set S n))
 |_=>False
theorem zMb {jP:List (Addr × Obj)}{σ:St}{H:Hp}{s:Shared}{T:String}{x:V}{v:Value}(I:Inv X jP σ H s) (r:RelV x v) (ty:tyV X.K T x H) :
  s.TypeIs v T/\∀a,v = .ref a->∃ob,s.heap.get? a=some ob/\ob.dict=none:=by
 cases x with
 |str z =>
  obtain⟨t,rfl⟩:=r;cases (show T = "str" from ty);exact⟨typeIs_str s z t,λ Ω e=>nomatch e⟩
 |int i =>
  obtain⟨t,rfl⟩:=r;cases (show T = "int" from ty);exact⟨typeIs_int s i t,λ Ω e=>nomatch e⟩
 |ref p =>
  cases r;rcases ty with ⟨rfl,xs,hq⟩|⟨rfl,o,hk,hc,hd⟩|⟨rfl,hk⟩|⟨rfl,S,n,hk⟩
  ·obtain⟨its,_,pl,_⟩:=I.list hq
   refine⟨pl.isList.typeIs,λ a e=>?_⟩;cases e;obtain⟨o,n,e,c,hd,_⟩:=pl;exact⟨o,e,hd⟩
  ·refine⟨⟨o,I.kIn p o hk,hc⟩,λ a e=>?_⟩
   cases e;exact⟨o,I.kIn _ o hk,hd⟩
  ·have z:∃o,s.heap.get? p=some o/\o.ExactDict:=by
    rcases hk with ⟨kvs,hk⟩|⟨kvs,hk⟩
    ·obtain⟨_,_,_,_,o,_,_,e,ex,_⟩:=I.hok p _ hk
     exact⟨o,e,ex⟩
    ·obtain⟨_,_,_,_,o,_,_,e,ex,_⟩:=I.hok p _ hk
     exact⟨o,e,ex⟩
   obtain⟨o,e,ex⟩:=z;refine⟨⟨o,e,ex.1⟩,λ a e2=>?_⟩;cases e2;exact⟨o,e,ex.2.1⟩
  ·obtain⟨o,_,_,_,e,ex,_⟩:=I.hok p _ hk
   refine⟨⟨o,e,ex.1⟩,λ a e2=>?_⟩;cases e2;exact⟨o,e,ex.2.1⟩
 |_=>exact False.elim ty
def tBM (K:W.Frag) (T:String) (r:V->List V->Hp->VK->Prop) (to:TE) (t:TA):TE:=λ σ H Q=>to σ H λ x H1=>tyV K T x H1/\t σ H1 λ xs H2=>r x xs H2 Q
variable {o e:Expr}{es:List Expr}{to:TE}{t:TA}{name:Str}{apos cpos:Pos}{T id:String}{r:V->List V->Hp->VK->Prop}
theorem pe_bm (pa:PlainAttrs T) (slot:Slot T name id) (hty:typeOf (.builtin id)=pure (.type "method_descriptor")) (hm:MtR X id r) (ho:PE X o to) (ha:PA X (e::es) t)
  (hbase:attributeBase o name X.env (eval o X.env)=eval o X.env:=by rfl)
  (hfew:((backTo cpos (starEach (e::es) X.env)).all (λ x=>!x.1) && (backToKw cpos (keywordEach [] X.env)).all (λ x=>x.1.isSome)
   && decide ((e::es).length+([]:List Keyword).length+(if ([]:List Keyword).isEmpty then 0 else 1)<30))=true:=by rfl)
  (hline:(apos.endLine == cpos.line)=true:=by rfl) (hs:starEach (e::es) X.env=(false,eval e X.env)::starEach es X.env:=by rfl) (hplain:(backTo cpos (starEach es X.env)).any (·.1)=false:=by rfl) :
  PE X (.Call (.Attribute o name apos) (e::es) [] cpos) (tBM X.K T r to t):=by
 intro jP s σ H Q I h;refine wpAny_Call_method_late hbase hfew hline rfl (thn (ho jP s σ H _ I h) λ v s1 ⟨x,H1,I1,r1,ty,q1⟩=>?_);obtain⟨h1,h2⟩:=zMb I1 r1 ty;refine⟨T,id,pa,slot,hty,h1,h2,?_⟩;have hA:=ha cpos jP s1 σ H1 _ I1 q1;rw[hs] at hA ⊢;refine Calls.callWith_builtin (by show (false || (backTo cpos (starEach es X.env)).any (·.1))=false;rw[hplain]<;>rfl) (Calls.evalArgs_plain ?_);exact thn hA λ us s2 ⟨vs,H2,I2,r2,q2⟩=>hm jP s2 σ H2 x vs v us Q I2 r1 r2 q2
end
def MtM (X:Cx) (id:String) (r:V->List V->Hp->VK->Prop):Prop :=
 ∀(jP:List (Addr × Obj)) (s:Shared) (σ:St) (H:Hp) (x:V) (xs:List V) (v:Value) (us:List Value) (Q:VK),Inv X jP σ H s->RelV x v->Vals xs us->r x xs H Q ->
  wpAny (model X.prog X.w) X.A (call (.builtin id) (v::us)) (EP X jP σ Q) X.xe s
theorem Vals.one {x:V}{us:List Value}(h:Vals [x] us):∃u,us=[u]/\RelV x u:=by
 cases h with|cons r t=>cases t;exact⟨_,rfl,r⟩
section
variable {X:Cx}{jP:List (Addr × Obj)}{σ:St}{H:Hp}{s:Shared}{l b:Addr}{xs ys zs:List V}
theorem Inv.lset {its its':List Value}{n:Nat}{f:Array Value->Array Value}{t':Nat}(I:Inv X jP σ H s) (hH:H l=some (.lst xs))
  (e:s.heap.get? l=some { cls:=.type "list", data:=.seq its.toArray n }) (hf:f its.toArray=its'.toArray) (hv:Vals ys its') (hz:ys.length<=sizeLine) :
  Inv X jP σ (upd H l (.lst ys)) { s with heap:=s.heap.update l (Obj.mapSeq f),toks:=t' }:=by
 have q:=PySem.IsL.update e f;rw[hf] at q;refine I.write (x:=l) (e:=l) (by rw[hH];exact trivial) (.inl rfl) (λ b' u hb hu=>(Heap.get?_update_other s.heap (Obj.mapSeq f) (Ne.symm hb)).trans hu) ⟨_,q⟩ ?_;exact⟨hz,its',_,hv,q⟩
theorem Inv.lnew {its:List Value}{t':Nat}(I:Inv X jP σ H s) (hv:Vals ys its) (hz:ys.length<=sizeLine) :
  Inv X jP σ (upd H s.heap.objs.size (.lst ys)) { s with heap:=s.heap.push { cls:=.type "list", data:=.seq its.toArray },toks:=t' } :=
 I.laid (λ Ω Ω q=>lG _ q) (lQ _) ⟨hz,its,0,hv,lH _ rfl⟩
theorem Inv.fresh (I:Inv X jP σ H s):H s.heap.objs.size=none:=I.hok.fresh (lQ _)
theorem Inv.lstM (I:Inv X jP σ H s) (hH:H l=some (.lst xs)):xs.length<=sizeLine/\∃(its:List Value) (n:Nat),Vals xs its/\xs.length=its.length/\s.heap.get? l=some { cls:=.type "list", data:=.seq its.toArray n }:=by
 obtain⟨z,its,n,r,e⟩:=I.hok l _ hH;exact⟨z,its,n,r,r.length,e⟩
theorem zHL {n:Nat}(h:n<=sizeLine):Builtin.List.listTooLong n=false:=by
 unfold Builtin.List.listTooLong;exact decide_eq_false (by omega)
end
section
variable {X:Cx}
inductive zIV (x:V) (vs:List V) (H:Hp) (Q:VK):Prop
 |mk (l:Addr) (xs:List V) (y:V) (hx:x = .ref l) (hv:vs=[y]) (e:H l=some (.lst xs)) (z:xs.length<sizeLine) (q:Q .non (upd H l (.lst (xs++[y]))))
theorem zC3:MtM X "list.append" zIV:=by
 intro jP s σ H x vs v us Q I rx rv h;obtain⟨l,xs,y,rfl,rfl,hH,hz,q⟩:=h;cases rx;obtain⟨u,rfl,ru⟩:=rv.one;obtain⟨z,its,n,r,hl,e⟩:=I.lstM hH;refine call_meets F.slot_list_append ⟨_,e,rfl⟩ F.entry_list_append (F.args_list_append_2 _ _) (PySem.list_append l its.toArray n u (by rw[mH];omega)) ⟨e,?_⟩;refine⟨.non,_,I.lset (its':=its++[u]) hH e (by simp) (r.append (.cons ru .nil)) ?_,rfl,q⟩;rw[mK,List.length_singleton];omega
theorem pAp {X:Cx}{o e:Expr}{to te:TE}{apos cpos pos:Pos}(ho:PE X o to)(he:PE X e te)(h1:attributeBase o "append" X.env (eval o X.env)=eval o X.env:=by rfl)(h2:((backTo cpos (starEach [e] X.env)).all (λ x=>!x.1)&&(backToKw cpos (keywordEach [] X.env)).all (λ x=>x.1.isSome)&&decide ([e].length+([]:List Keyword).length+(if ([]:List Keyword).isEmpty then 0 else 1)<30))=true:=by rfl)(h3:(apos.endLine==cpos.line)=true:=by rfl)(h4:starEach [e] X.env=(false,eval e X.env)::starEach [] X.env:=by rfl)(h5:(backTo cpos (starEach [] X.env)).any (·.1)=false:=by rfl)(h6:swapsWith (.Call (.Attribute o "append" apos) [e] [] cpos) none pos.line X.env=pure false:=by rfl):PS X (.Expr (.Call (.Attribute o "append" apos) [e] [] cpos) pos) (tDrop (tBM X.K "list" zIV to (tCons te tNil))):=zBw (pe_bm rV PySem.F.slot_list_append PySem.F.type_list_append zC3 ho (zAB he zAD h4) h1 h2 h3 h4 h5) h6
def zLf:V->List V->Hp->VK->Prop:=λ x vs H Q=>∃l b xs zs,x = .ref l/\vs=[.ref b]/\H l=some (.lst xs)/\H b=some (.lst zs)/\xs.length+zs.length<=sizeLine/\Q .non (upd H l (.lst (xs++zs)))
theorem zC2:MtM X "list.extend" zLf:=by
 intro jP s σ H x vs v us Q I rx rv h;obtain⟨l,b,xs,zs,rfl,rfl,hH,hB,hz,q⟩:=h;cases rx;obtain⟨u,rfl,ru⟩:=rv.one;cases ru;obtain⟨z,its,n,r,hl,e⟩:=I.lstM hH;obtain⟨z2,its2,n2,r2,hl2,e2⟩:=I.lstM hB;have hsz:its.toArray.size+its2.toArray.size<=sizeLine:=by rw[mH,mH];omega
 have hlong:¬(!its.toArray.isEmpty && Builtin.List.listTooLong (its.toArray.size+its2.toArray.size))=true:=by
  rw[zHL hsz,Bool.and_false];exact lX
 refine call_meets F.slot_list_extend ⟨_,e,rfl⟩ F.entry_list_extend (F.args_list_extend_2 _ _)
  (AutoSeq1.list_extend_list_list_0 l its.toArray n b its2.toArray n2 hlong (by rw[mH];omega) (by omega)) ⟨e,e2,?_⟩
 refine⟨.non,_,I.lset (its':=its++its2) hH e (by simp) (r.append r2) ?_,rfl,q⟩;rw[mK];omega
inductive rCat (x y:V) (H:Hp) (Q:VK):Prop
 |mk (l b:Addr) (xs zs:List V) (hx:x = .ref l) (hy:y = .ref b) (e:H l=some (.lst xs)) (e2:H b=some (.lst zs)) (z:xs.length+zs.length<=sizeLine) (q:∀p,H p=none->Q (.ref p) (upd H p (.lst (xs++zs))))
theorem zM9:OpR X (binaryOp .Add) rCat:=by
 intro jP s σ H x y v u Q I rx ry h;obtain⟨l,b,xs,zs,rfl,rfl,hH,hB,hz,q⟩:=h;cases rx;cases ry;obtain⟨z,its,n,r,hl,e⟩:=I.lstM hH;obtain⟨z2,its2,n2,r2,hl2,e2⟩:=I.lstM hB;refine PySem.P.add_list e e2 ?_ (by rw[mH,mH];omega);have ea:its.toArray++its2.toArray=(its++its2).toArray:=by simp
 rw[ea];exact⟨.ref _,_,I.lnew (t':=s.toks) (r.append r2) (by rw[mK];omega),rfl,q _ I.fresh⟩
end
section
variable {κ:Type} [DecidableEq κ]
noncomputable def valV (kvs:List (κ × V)) (k:κ):Option V:=(kvs.find? λ kv=>decide (kv.1=k)).map (·.2)
noncomputable def putK (kvs:List (κ × V)) (k:κ) (v:V):List (κ × V) :=
 if (kvs.any λ kv=>decide (kv.1=k))=true then kvs.map (λ kv=>if kv.1=k then (kv.1,v) else kv) else kvs++[(k,v)]
theorem zA6 {p:κ × V}{r:List (κ × V)}{k:κ}(e:p.1=k):valV (p::r) k=some p.2:=by simp[valV,List.find?_cons,e]
theorem zA7 {p:κ × V}{r:List (κ × V)}{k:κ}(e:¬p.1=k):valV (p::r) k=valV r k:=by simp[valV,List.find?_cons,e]
theorem zCp (k:κ):∀kvs:List (κ × V),(kvs.any λ kv=>decide (kv.1=k))=(valV kvs k).isSome
 |[]=>rfl
 |p::r=>by
  rw[List.any_cons]
  by_cases e:p.1=k
  ·simp only[zA6 e,decide_eq_true e,Bool.true_or,Option.isSome_some]
  ·rw[zA7 e,decide_eq_false e,Bool.false_or];exact zCp k r
theorem zGv (k j:κ) (y:V):∀kvs:List (κ × V),valV (kvs.map λ kv=>if kv.1=k then (kv.1,y) else kv) j=(valV kvs j).map λ x=>if j=k then y else x
 |[]=>rfl
 |p::r=>by
  have ih:=zGv k j y r;rw[mL]
  by_cases h:p.1=k
  ·rw[if_pos h]
   by_cases e:p.1=j
   ·rw[zA6 (p:=(p.1,y)) e,zA6 e,Option.map_some,if_pos (e.symm.trans h)]
   ·rw[zA7 (p:=(p.1,y)) e,zA7 e,ih]
  ·rw[if_neg h]
   by_cases e:p.1=j
   ·rw[zA6 (p:=p) e,zA6 e,Option.map_some,if_neg (λ z=>h (e.trans z))]
   ·rw[zA7 (p:=p) e,zA7 e,ih]
theorem zFi (k j:κ) (y:V):∀kvs:List (κ × V),valV kvs k=none->valV (kvs++[(k,y)]) j=if j=k then some y else valV kvs j
 |[],_=>by
  by_cases e:k=j
  ·rw[if_pos e.symm];exact zA6 (p:=(k,y)) e
  ·rw[if_neg (λ z=>e z.symm)];exact zA7 (p:=(k,y)) e
 |p::r,hn=>by
  rw[List.cons_append];have hk:¬p.1=k:=λ z=>by rw[zA6 z] at hn;cases hn
  rw[zA7 hk] at hn;have ih:=zFi k j y r hn
  by_cases e:p.1=j
  ·rw[zA6 e,zA6 e,if_neg (λ z=>hk (e.trans z))]
  ·rw[zA7 e,zA7 e,ih]
theorem zGu (kvs:List (κ × V)) (k j:κ) (y:V):valV (putK kvs k y) j=if j=k then some y else valV kvs j:=by
 unfold putK
 by_cases a:(kvs.any λ kv=>decide (kv.1=k))=true
 ·rw[if_pos a,zGv]
  rw[zCp] at a
  by_cases e:j=k
  ·obtain⟨x,hx⟩:=Option.isSome_iff_exists.mp a
   rw[if_pos e,e,hx,Option.map_some,if_pos rfl]
  ·rw[if_neg e]
   cases valV kvs j with
   |none=>rfl
   |some x=>rw[Option.map_some,if_neg e]
 ·rw[if_neg a]
  refine zFi k j y kvs ?_;rw[zCp] at a;cases q:valV kvs k with
  |none=>rfl
  |some x=>rw[q] at a;exact(a rfl).elim
theorem zBh (kvs:List (κ × V)) (k:κ) (v:V):(putK kvs k v).length<=kvs.length+1:=by
 unfold putK;split
 ·rw[mD];omega
 ·rw[mK,mM,List.length_nil];omega
theorem RelO.isSome_eq {o:Option V}{u:Option Value}(r:RelO o u):o.isSome=u.isSome:=by
 cases o with
 |none=>cases u with
  |none=>rfl
  |some _=>exact(show False from r).elim
 |some _=>cases u with
  |none=>exact(show False from r).elim
  |some _=>rfl
theorem RelO.getD {o:Option V}{u:Option Value}{d:V}{d':Value}(r:RelO o u) (rd:RelV d d'):RelV (o.getD d) (u.getD d'):=by
 cases o with
 |none=>cases u with
  |none=>exact rd
  |some _=>exact(show False from r).elim
 |some _=>cases u with
  |none=>exact(show False from r).elim
  |some _=>exact r
theorem KV.val {kvs:List (κ × V)}{vs:List (κ × Value)}(r:KV kvs vs) (k:κ):RelO (valV kvs k) (valueAt vs k):=by
 unfold KV at r
 induction r with
 |nil=>exact True.intro
 | @cons p q ps qs h t ih =>
  obtain⟨h1,h2⟩:=h
  by_cases e:p.1=k
  ·have e':q.1=k:=h1.symm.trans e
   have b:valueAt (q::qs) k=some q.2:=by simp[valueAt,List.find?_cons,e']
   rw[zA6 e,b];exact h2
  ·have e':¬q.1=k:=λ z=>e (h1.trans z)
   have b:valueAt (q::qs) k=valueAt qs k:=by simp[valueAt,List.find?_cons,e']
   rw[zA7 e,b];exact ih
theorem KV.any {kvs:List (κ × V)}{vs:List (κ × Value)}(r:KV kvs vs) (k:κ):(kvs.any λ kv=>decide (kv.1=k))=vs.any λ kv=>decide (kv.1=k):=by
 unfold KV at r
 induction r with
 |nil=>rfl
 |cons h t ih=>rw[List.any_cons,List.any_cons,ih,h.1]
theorem KV.repl {kvs:List (κ × V)}{vs:List (κ × Value)}(r:KV kvs vs) (k:κ) {y:V}{u:Value}(ry:RelV y u) :
  KV (kvs.map λ kv=>if kv.1=k then (kv.1,y) else kv) (vs.map λ kv=>if kv.1=k then (kv.1,u) else kv):=by
 unfold KV at r ⊢
 induction r with
 |nil=>exact .nil
 | @cons p q ps qs h t ih =>
  rw[mL,mL];refine .cons ?_ ih;obtain⟨h1,h2⟩:=h
  by_cases e:p.1=k
  ·rw[if_pos e,if_pos (h1.symm.trans e)];exact⟨h1,ry⟩
  ·rw[if_neg e,if_neg (λ z=>e (h1.trans z))];exact⟨h1,h2⟩
theorem KV.put {kvs:List (κ × V)}{vs:List (κ × Value)}(r:KV kvs vs) (k:κ) {y:V}{u:Value}(ry:RelV y u):KV (putK kvs k y) (stored vs k u):=by
 unfold putK stored;rw[r.any k]
 by_cases e:(vs.any λ kv=>decide (kv.1=k))=true
 ·rw[if_pos e,if_pos e];exact r.repl k ry
 ·rw[if_neg e,if_neg e];exact Paired.snoc r ⟨rfl,ry⟩
theorem KV.length {kvs:List (κ × V)}{vs:List (κ × Value)}(r:KV kvs vs):kvs.length=vs.length:=Paired.length r
end
theorem kV_is {P:Program}{w:World}{k:Key}{u:Value}(r:RelV (kV k) u):(zAc P w).is k u=true:=by
 cases k with
 |inl i=>obtain⟨t,e⟩:=(show ∃t,u=Value.int i t from r);subst e;exact zGi P w i t
 |inr x=>obtain⟨t,e⟩:=(show ∃t,u=Value.str x t from r);subst e;exact zGh P w x t
theorem zGB {P:Program}{w:World}:∀{ks:List Key}{us:List Value},Vals (ks.map kV) us->ItemsAre (zAc P w) ks us
 |[],_,r=>by rw[List.map_nil] at r;cases r;exact .nil
 |k::ks,_,r=>by
  rw[mL] at r;cases r with
  |cons h t=>exact .cons (kV_is h) (zGB t)
abbrev KT (H:Hp):List (List Key × V)->List (List Key × Addr × Value)->Prop:=Paired λ p q=>p.1=q.1/\H q.2.1=some (.tup (p.1.map kV))/\RelV p.2 q.2.2
theorem KT.val {H:Hp}{kvs:List (List Key × V)}{xs:List (List Key × Addr × Value)}(r:KT H kvs xs) (k:List Key):RelO (valV kvs k) ((atKey xs k).map (·.2)):=by
 induction r with
 |nil=>exact True.intro
 | @cons p q ps qs h t ih =>
  obtain⟨h1,_,h2⟩:=h
  by_cases e:p.1=k
  ·have e':q.1=k:=h1.symm.trans e
   have b:atKey (q::qs) k=some q.2:=by simp[atKey,List.find?_cons,e']
   rw[zA6 e,b];exact h2
  ·have e':¬q.1=k:=λ z=>e (h1.trans z)
   have b:atKey (q::qs) k=atKey qs k:=by simp[atKey,List.find?_cons,e']
   rw[zA7 e,b];exact ih
theorem KT.repl {H:Hp}{kvs:List (List Key × V)}{xs:List (List Key × Addr × Value)}(r:KT H kvs xs) (k:List Key) {y:V}{u:Value}(ry:RelV y u) :
  KT H (kvs.map λ kv=>if kv.1=k then (kv.1,y) else kv) (xs.map (putAt k u)):=by
 induction r with
 |nil=>exact .nil
 | @cons p q ps qs h t ih =>
  rw[mL,mL];refine .cons ?_ ih;obtain⟨h1,h2,h3⟩:=h;unfold putAt
  by_cases e:p.1=k
  ·rw[if_pos e,if_pos (h1.symm.trans e)];exact⟨h1,h2,ry⟩
  ·rw[if_neg e,if_neg (λ z=>e (h1.trans z))];exact⟨h1,h2,h3⟩
theorem KT.put {H:Hp}{kvs:List (List Key × V)}{xs:List (List Key × Addr × Value)}(r:KT H kvs xs) (k:List Key) {b:Addr}{y:V}{u:Value}(hb:H b=some (.tup (k.map kV))) (ry:RelV y u) :
  KT H (putK kvs k y) (storedH xs k b u):=by
 have e:(kvs.any λ kv=>decide (kv.1=k))=(atKey xs k).isSome:=by
  rw[zCp,(r.val k).isSome_eq,Option.isSome_map]
 unfold putK storedH;rw[e]
 by_cases q:(atKey xs k).isSome=true
 ·rw[if_pos q,if_pos q];exact r.repl k ry
 ·rw[if_neg q,if_neg q];exact Paired.snoc r ⟨rfl,hb,ry⟩
theorem KT.keeps {H H':Hp}{kvs:List (List Key × V)}{xs:List (List Key × Addr × Value)}(r:KT H kvs xs) (ht:∀b ys,H b=some (.tup ys)->H' b=some (.tup ys)):KT H' kvs xs :=
 Paired.mapP r λ Ω Ω z=>⟨z.1,ht _ _ z.2.1,z.2.2⟩
section
variable {P:Program}{w:World}{H:Hp}{h:Heap}{a:Addr}
theorem rd_of {u:HO}(ok:HOk P w H h) (e:Rd H a u):ObjOk P w H h a u:=e.ok ok
theorem dk_rd {kvs:List (Key × V)}(ok:HOk P w H h) (e:Rd H a (.dK kvs)):kvs.length<=sizeLine/\(a == sysModules)=false/\∃vs,KV kvs vs/\h.DictOf (zAc P w) a vs :=
 show ObjOk P w H h a (.dK kvs) from rd_of ok e
theorem dk_of {kvs:List (Key × V)}(ok:HOk P w H h) (e:H a=some (.dK kvs)):kvs.length<=sizeLine/\(a == sysModules)=false/\∃vs,KV kvs vs/\h.DictOf (zAc P w) a vs:=dk_rd ok (.inl e)
theorem zEw {ks:List Key}(ok:HOk P w H h) (e:H a=some (.tup (ks.map kV))):(tupleKind (zAc P w)).is h ks a:=by
 obtain⟨_,its,r,o,h1,h2,n,h3⟩:=(show ObjOk P w H h a (.tup (ks.map kV)) from ok a _ e);exact⟨o,its.toArray,n,h1,h2,h3,by simpa using zGB r⟩
theorem dt_rd {kvs:List (List Key × V)}(ok:HOk P w H h) (e:Rd H a (.dT kvs)):kvs.length<=sizeLine/\(a == sysModules)=false /\
  ∃xs,KT H kvs xs/\h.DictOfH (tupleKind (zAc P w)) a xs:=by
 obtain⟨z,y,xs,r,o,es,ep,h1,h2,h3,h4,h5⟩:=(show ObjOk P w H h a (.dT kvs) from rd_of ok e);refine⟨z,y,xs,r,o,es,ep,h1,h2,h3,h4,λ x hx=>?_,h5⟩
 have all:∀{l:List (List Key × V)}{m:List (List Key × Addr × Value)},KT H l m->∀x∈m,(tupleKind (zAc P w)).is h x.1 x.2.1:=by
  intro l m q
  induction q with
  |nil=>intro x hx;exact nomatch hx
  | @cons p q ps qs hq t ih =>
   intro x hx;rcases lN.mp hx with e|hx
   ·subst e
    exact zEw ok (by rw[←hq.1];exact hq.2.1)
   ·exact ih x hx
 exact all r x hx
theorem dt_of {kvs:List (List Key × V)}(ok:HOk P w H h) (e:H a=some (.dT kvs)):kvs.length<=sizeLine/\(a == sysModules)=false /\
  ∃xs,KT H kvs xs/\h.DictOfH (tupleKind (zAc P w)) a xs:=dt_rd ok (.inl e)
end
def DGet (H:Hp) (a:Addr) (y:V) (r:Option V):Prop :=
 (∃kvs k,Rd H a (.dK kvs)/\y=kV k/\r=valV kvs k)\/∃kvs k b,Rd H a (.dT kvs)/\y = .ref b/\H b=some (.tup (k.map kV))/\r=valV kvs k
def DPut (H:Hp) (a:Addr) (y v:V) (H':Hp):Prop :=
 (∃kvs k,H a=some (.dK kvs)/\y=kV k/\kvs.length<sizeLine/\H'=upd H a (.dK (putK kvs k v))) \/
 ∃kvs k b,H a=some (.dT kvs)/\y = .ref b/\H b=some (.tup (k.map kV))/\kvs.length<sizeLine/\H'=upd H a (.dT (putK kvs k v))
theorem DGet.k {H:Hp}{a:Addr}{kvs:List (Key × V)}{k:Key}(e:H a=some (.dK kvs)):DGet H a (kV k) (valV kvs k):=.inl ⟨kvs,k,.inl e,rfl,rfl⟩
theorem DPut.k {H:Hp}{a:Addr}{kvs:List (Key × V)}{k:Key}{v:V}(e:H a=some (.dK kvs)) (hl:kvs.length<sizeLine):DPut H a (kV k) v (upd H a (.dK (putK kvs k v))):=.inl ⟨kvs,k,e,rfl,hl,rfl⟩
section
variable {X:Cx}{jP:List (Addr × Obj)}{σ:St}{H:Hp}{s:Shared}{a:Addr}{y v:V}{u r:Value}{o:Option V}{A:Around}{E:XQ}
theorem Inv.big (I:Inv X jP σ H s):sysModules<s.heap.objs.size:=by
 have h:mainGlobals<s.heap.objs.size:=(I.mod.glob.keeps I.bk).lt;exact Nat.lt_trans (by decide) h
theorem zJa {Q:XQ}(hu:A.units+1<cLine) (I:Inv X jP σ H s) (g:DGet H a y (some v)) (ry:RelV y u) (h:∀w' s',Inv X jP σ H s'->RelV v w'->Q w' s') :
  wpAny (model X.prog X.w) A (getItem (.ref a) u) Q E s:=by
 rcases g with ⟨kvs,k,e,ey,l⟩|⟨kvs,k,b,e,ey,eb,l⟩
 ·subst ey
  obtain⟨z,hd,vs,rel,dd⟩:=dk_rd I.hok e;obtain⟨w',hw,rw'⟩:=RelO.some_of (v:=v) (o:=valueAt vs k) (by rw[l];exact rel.val k);exact wpAny_getItem_of (kV_is ry) dd.mapOf hw (h w' _ (I.tok _) rw')
 ·subst ey
  cases (show u=Value.ref b from ry);obtain⟨z,hd,xs,rel,dd⟩:=dt_rd I.hok e;obtain⟨w',hw,rw'⟩:=RelO.some_of (v:=v) (o:=(atKey xs k).map (·.2)) (by rw[l];exact rel.val k);obtain⟨p,hp,hp2⟩:=lV.mp hw;refine wpAny_getItem_heap (tupleKind_room_in1 hu) (zEw I.hok eb) dd hp ?_;rw[hp2];exact h w' _ (I.tok _) rw'
theorem d_in {Q:XQ}(hu:A.units+1<cLine) (I:Inv X jP σ H s) (g:DGet H a y o) (ry:RelV y u) (h:∀s',Inv X jP σ H s'->Q (.bool o.isSome) s') :
  wpAny (model X.prog X.w) A (compareOp .In u (.ref a)) Q E s:=by
 rcases g with ⟨kvs,k,e,ey,l⟩|⟨kvs,k,b,e,ey,eb,l⟩
 ·subst ey
  obtain⟨z,hd,vs,rel,dd⟩:=dk_rd I.hok e;refine wpAny_in_of (kV_is ry) hd dd.mapOf ?_;rw[←(rel.val k).isSome_eq,←l];exact h _ (I.tok _)
 ·subst ey
  cases (show u=Value.ref b from ry);obtain⟨z,hd,xs,rel,dd⟩:=dt_rd I.hok e;refine wpAny_in_heap (tupleKind_room_in1 hu) (zEw I.hok eb) hd dd ?_;have q:=(rel.val k).isSome_eq;rw[Option.isSome_map] at q;rw[←q,←l];exact h _ (I.tok _)
theorem zMT {Q:XQ}(hu:A.units+1<cLine) (I:Inv X jP σ H s) (g:DGet H a y o) (ry:RelV y u) (h:∀s',Inv X jP σ H s'->Q (.bool (!o.isSome)) s') :
  wpAny (model X.prog X.w) A (compareOp .NotIn u (.ref a)) Q E s:=by
 rcases g with ⟨kvs,k,e,ey,l⟩|⟨kvs,k,b,e,ey,eb,l⟩
 ·subst ey
  obtain⟨z,hd,vs,rel,dd⟩:=dk_rd I.hok e;refine wpAny_notIn_of (kV_is ry) hd dd.mapOf ?_;rw[←(rel.val k).isSome_eq,←l];exact h _ (I.tok _)
 ·subst ey
  cases (show u=Value.ref b from ry);obtain⟨z,hd,xs,rel,dd⟩:=dt_rd I.hok e;refine wpAny_notIn_heap (tupleKind_room_in1 hu) (zEw I.hok eb) hd dd ?_;have q:=(rel.val k).isSome_eq;rw[Option.isSome_map] at q;rw[←q,←l];exact h _ (I.tok _)
theorem zFd {h':Heap}{t':Nat}{ob:HO}(I:Inv X jP σ H s) (mu:Mut (H a)) (hs:Heap.SameBut a s.heap h') (he:∃q,h'.get? a=some q) (new:ObjOk X.prog X.w (upd H a ob) h' a ob) :
  Inv X jP σ (upd H a ob) { s with heap:=h',toks:=t' } :=
 I.write (x:=a) (e:=a) mu (.inl rfl) (λ b q hb z=>(hs.2 b hb).trans z) he new
theorem zJU {P:Program}{w:World}{H':Hp}{h':Heap}{kvs:List (Key × V)}{vs:List (Key × Value)}(z:kvs.length<=sizeLine) (hd:(a == sysModules)=false) (rel:KV kvs vs) (dd:h'.DictOf (zAc P w) a vs) :
  ObjOk P w H' h' a (.dK kvs):=⟨z,hd,vs,rel,dd⟩
theorem zJZ {H':Hp}{Q:Unit->Shared->Prop}(hu:A.units+1<cLine) (I:Inv X jP σ H s) (g:DPut H a y v H') (ry:RelV y u) (rv:RelV v r) (h:∀s',Inv X jP σ H' s'->Q () s') :
  wpAny (model X.prog X.w) A (setItem (.ref a) u r) Q E s:=by
 rcases g with ⟨kvs,k,e,ey,l,eH⟩|⟨kvs,k,b,e,ey,eb,l,eH⟩
 ·subst ey eH
  obtain⟨z,hd,vs,rel,dd⟩:=dk_of I.hok e;have hz:vs.length<=sizeLine:=by rw[←rel.length];exact z
  have hl:(putK kvs k v).length<=sizeLine:=by have:=zBh kvs k v;omega
  refine wpAny_setItem_pairs (hsz:=hz) (kV_is ry) dd λ h' dd' hs=>h _ ?_;have he:∃q,h'.get? a=some q:=let ⟨q,_,_,hq,_⟩:=dd';⟨q,hq⟩;exact zFd I (by rw[e];exact True.intro) hs he (zJU hl hd (rel.put k rv) dd')
 ·subst ey eH
  cases (show u=Value.ref b from ry);obtain⟨z,hd,xs,rel,dd⟩:=dt_of I.hok e;have hz:xs.length<=sizeLine:=by rw[←Paired.length rel];exact z
  have hl:(putK kvs k v).length<=sizeLine:=by have:=zBh kvs k v;omega
  refine wpAny_setItem_heap (hsz:=hz) (tupleKind_room_in1 hu) (zEw I.hok eb) dd λ h' dd' hs=>h _ ?_;obtain⟨q,es,ep,hq,h2,h3,h4,_,h5⟩:=dd';refine zFd I (by rw[e];exact True.intro) hs ⟨q,hq⟩ ⟨hl,hd,_,(rel.put k eb rv).keeps λ c ys ec=>?_,q,es,ep,hq,h2,h3,h4,h5⟩;rw[zAK (ne_of ec e (λ z=>nomatch z))]
  exact ec
end
def NoSl (i:Expr):Prop:=∀ov iv,subscripted i false ov iv=operate [ov,iv] (getItem ov iv)
theorem zII {prog:Program}{w:World}{A:Around}{E:XQ}{s:Shared}{env:Env}{value slice:Expr}{pos:Pos}{T id:String}{Q:XQ}
  (hl:typeLookup (.type T) "__getitem__" = pure (some (.builtin id))) (hs:NoSl slice)
  (h:wpAny (model prog w) A (eval value env) (λ o s₁=>wpAny (model prog w) A (eval slice env) (λ i s₂=>s₂.TypeIs o T/\wpAny (model prog w) A (getItem o i) Q E s₂) E s₁) E s) :
  wpAny (model prog w) A (eval (.Subscript value slice pos) env) Q E s:=by
 refine Subscript_ (wpAny_mono h (λ o s₁ h₁=>wpAny_mono h₁ (λ i s₂ h₂=>?_) λ Ω Ω x=>x) λ Ω Ω x=>x);obtain⟨hT,h₂⟩:=h₂;unfold subscriptTail;refine lA ?_;rw[getitemInPython_of_ne hT.not_modules];refine lA (wpAny_specialOf hT hl ?_)
 have fin:wpAny (model prog w) A (subscripted slice false o i) (λ r s₃=>wpAny (model prog w) A (letTemporaryGo value o r >>= λ Ω=>pure r) Q E s₃) E s₂:=by
  rw[hs o i];exact wpAny_operating (wpAny_mono h₂ (λ r s₃ h₃=>lA (wpAny_letTemporaryGo (lB h₃))) λ Ω Ω x=>x)
 first
  |exact lB (lA fin)
  |exact lA (lB (lA fin))
  |exact lA fin
theorem zGo {X:Cx}{jP:List (Addr × Obj)}{σ:St}{H:Hp}{s:Shared}{a:Addr}{y:V}{o:Option V}(I:Inv X jP σ H s) (g:DGet H a y o):s.TypeIs (.ref a) "dict" := by
 rcases g with ⟨kvs,k,e,_,_⟩|⟨kvs,k,b,e,_,_,_⟩
 ·obtain⟨_,_,vs,_,dd⟩:=dk_rd I.hok e
  exact dd.typeIs
 ·obtain⟨_,_,xs,_,dd⟩:=dt_rd I.hok e
  exact dd.typeIs
inductive IsG (Q:VK) (x y:V) (H:Hp):Prop
 |mk (a:Addr) (v:V) (h:x = .ref a) (g:DGet H a y (some v)) (q:Q v H)
def tDGet (td ty:TE):TE:=λ σ H Q=>td σ H λ x H1=>ty σ H1 (IsG Q x)
inductive IsP (N:Hp->Prop) (v x y:V) (H:Hp):Prop
 |mk (a:Addr) (H4:Hp) (h:x = .ref a) (p:DPut H a y v H4) (q:N H4)
def sDPut (td ty tv:TE):TS:=λ D σ H=>tv σ H λ v H1=>td σ H1 λ x H2=>ty σ H2 (IsP (D.nx σ) v x)
section
variable {X:Cx}{o i e value:Expr}{pos pos' tpos:Pos}{td ty tv:TE}
theorem zIj (hu:X.A.units+1<cLine) (ho:PE X o td) (hi:PE X i ty) (hs:NoSl i):PE X (.Subscript o i pos) (tDGet td ty):=by
 intro jP s σ H Q I h;refine zII PySem.F.slot_dict_getitem.lookup hs (thn (ho jP s σ H _ I h) λ u s1 ⟨x,H1,I1,rx,q1⟩=>thn (hi jP s1 σ H1 _ I1 q1) λ iv s2 ⟨y,H2,I2,ry,a,v,ex,g,q2⟩=>?_);subst ex;obtain rfl:u=Value.ref a:=rx;exact⟨zGo I2 g,zJa hu I2 g ry λ w' s3 I3 rw'=>⟨v,H2,I3,rw',q2⟩⟩
theorem zLl (hu:X.A.units+1<cLine) (ho:PE X o td) (hi:PE X i ty) (hv:PE X value tv) (hs:swapsWith value (some (.Subscript o i pos')) pos.line X.env=pure false) :
  PS X (.Assign [.Subscript o i pos'] value pos) (sDPut td ty tv):=by
 intro jP s σ H D I h;refine wpAny_Assign_Subscript (thn (hv jP s σ H _ I h) λ r s1 ⟨v,H1,I1,rv,q1⟩=>thn (ho jP s1 σ H1 _ I1 q1) λ u s2 ⟨x,H2,I2,rx,q2⟩=>thn (hi jP s2 σ H2 _ I2 q2) λ iv s3 ⟨y,H3,I3,ry,a,H4,ex,g,q3⟩=>?_) hs;subst ex;obtain rfl:u=Value.ref a:=rx;exact zJZ hu I3 g ry rv λ s4 I4=>⟨σ,H4,I4,q3⟩
end
theorem zKp {P:Program}{w:World}{H:Hp}(h:Heap) (hb:sysModules<h.objs.size):ObjOk P w H (h.push { cls:=.type "dict", data:=.dict #[] }) h.objs.size (.dK []) :=
 ⟨lY _,beq_eq_false_iff_ne.mpr (Ne.symm (lS hb)),[],.nil,Heap.DictOf.new h⟩
def zMj:TE:=λ Ω H Q=>∀p,H p=none->Q (.ref p) (upd H p (.dK []))
section
variable {X:Cx}{pos:Pos}
theorem zFH:PE X (.Dict [] [] pos) zMj:=λ jP s σ H Q I h =>
 wpAny_Dict_empty ⟨.ref s.heap.objs.size,_,I.laid (a:=s.heap.objs.size) (o:=.dK []) (t':=s.toks) (λ Ω Ω q=>lG _ q) (lQ _) (zKp s.heap I.big),rfl,h _ (I.hok.fresh (lQ _))⟩
end
noncomputable def zB1 (kvs more:List (Key × V)):List (Key × V):=more.foldl (λ acc kv=>putK acc kv.1 kv.2) kvs
theorem KV.merge:∀{more:List (Key × V)}{rs:List (Key × Value)}{kvs:List (Key × V)}{vs:List (Key × Value)},KV more rs->KV kvs vs->KV (zB1 kvs more) (merged vs rs):=by
 intro more rs kvs vs r;unfold KV at r
 induction r generalizing kvs vs with
 |nil=>intro q;exact q
 | @cons p q ps qs h t ih =>
  intro r0
  have e:KV (putK kvs p.1 p.2) (stored vs q.1 q.2):=by
   have:=r0.put p.1 h.2;rw[←h.1];exact this
  exact ih e
theorem zC5:∀(more kvs:List (Key × V)),(zB1 kvs more).length<=kvs.length+more.length
 |[],kvs=>by show kvs.length<=kvs.length+0;omega
 |p::r,kvs=>by
  have h1:=zC5 r (putK kvs p.1 p.2);have h2:=zBh kvs p.1 p.2;show (zB1 (putK kvs p.1 p.2) r).length<=_;rw[mM];omega
structure M1 (X:Cx) (o:Expr) (m:Str) (apos:Pos) (e:Expr) (cpos:Pos):Prop where
 base:attributeBase o m X.env (eval o X.env)=eval o X.env
 few:((backTo cpos (starEach [e] X.env)).all (λ x=>!x.1) && (backToKw cpos (keywordEach [] X.env)).all (λ x=>x.1.isSome)
  && decide (([e]:List Expr).length+([]:List Keyword).length+(if ([]:List Keyword).isEmpty then 0 else 1)<30))=true
 line:(apos.endLine == cpos.line)=true
 trees:backTo cpos (starEach [e] X.env)=[(false,eval e X.env)]
def IsD (H:Hp) (a:Addr):Prop:=(∃kvs,Rd H a (.dK kvs))\/∃kvs,Rd H a (.dT kvs)
theorem zNR {X:Cx}{jP:List (Addr × Obj)}{σ:St}{H:Hp}{s:Shared}{a:Addr}(I:Inv X jP σ H s) (d:IsD H a) :
  s.TypeIs (.ref a) "dict" /\ (∀b,Value.ref a = .ref b->∃ob,s.heap.get? b=some ob/\ob.dict=none)/\(a == sysModules)=false:=by
 rcases d with ⟨kvs,e⟩|⟨kvs,e⟩
 ·obtain⟨_,hd,vs,_,dd⟩:=dk_rd I.hok e
  refine⟨dd.typeIs,λ b q=>?_,hd⟩;cases q;obtain⟨ob,_,_,h1,h2,_⟩:=dd;exact⟨ob,h1,h2.2.1⟩
 ·obtain⟨_,hd,xs,_,dd⟩:=dt_rd I.hok e
  refine⟨dd.typeIs,λ b q=>?_,hd⟩;cases q;obtain⟨ob,_,_,h1,h2,_⟩:=dd;exact⟨ob,h1,h2.2.1⟩
section
variable {X:Cx}{jP:List (Addr × Obj)}{σ:St}{H:Hp}{s:Shared}{a:Addr}{y d:V}{u r:Value}{o:Option V}{A:Around}{E:XQ}
theorem zNY {Q:XQ}(hu:A.units+1<cLine) (I:Inv X jP σ H s) (g:DGet H a y o) (ry:RelV y u) (h:∀w' s',Inv X jP σ H s'->RelV (o.getD .non) w'->Q w' s') :
  wpAny (model X.prog X.w) A (call (.builtin "dict.get") [.ref a,u]) Q E s:=by
 rcases g with ⟨kvs,k,e,ey,l⟩|⟨kvs,k,b,e,ey,eb,l⟩
 ·subst ey
  obtain⟨z,hd,vs,rel,dd⟩:=dk_rd I.hok e;refine call_meetsIn PySem.F.slot_dict_get dd.typeIs PySem.F.entry_dict_get (PySem.F.args_dict_get_2 _ _) (meets_dict_get (zAc X.prog X.w) a (kV_is ry) hd) ⟨_,dd.mapOf,h _ _ (I.tok _) ?_⟩;rw[l];exact(rel.val k).getD rfl
 ·subst ey
  cases (show u=Value.ref b from ry);obtain⟨z,hd,xs,rel,dd⟩:=dt_rd I.hok e;refine call_meetsIn PySem.F.slot_dict_get dd.typeIs PySem.F.entry_dict_get (PySem.F.args_dict_get_2 _ _) (meetsH_dict_get (tupleKind (zAc X.prog X.w)) a b hd) ⟨tupleKind_room_in1 hu,k,xs,zEw I.hok eb,dd,h _ _ (I.tok _) ?_⟩;rw[l];exact(rel.val k).getD rfl
end
def zMk (td ty:TE):TE:=λ σ H Q=>td σ H λ x H1=>∃a,x = .ref a/\IsD H1 a/\ty σ H1 λ y H2=>∃o,DGet H2 a y o/\Q (o.getD .non) H2
section
variable {X:Cx}{o e f:Expr}{apos cpos:Pos}{td ty tx:TE}
theorem zKB (hu:X.A.units+1<cLine) (ho:PE X o td) (he:PE X e ty) (m:M1 X o "get" apos e cpos):PE X (.Call (.Attribute o "get" apos) [e] [] cpos) (zMk td ty):=by
 intro jP s σ H Q I h;refine wpAny_Call_method m.base m.few m.line rW PySem.F.slot_dict_get PySem.F.type_dict_get (thn (ho jP s σ H _ I h) λ u s1 ⟨x,H1,I1,rx,a,ex,d,q1⟩=>?_);subst ex;obtain rfl:u=Value.ref a:=rx;obtain⟨t1,t2,_⟩:=zNR I1 d;refine⟨t1,t2,?_⟩;rw[m.trees];refine Calls.callWith_builtin rfl (Calls.evalArgs_plain (Calls.spliced_cons (thn (he jP s1 σ H1 _ I1 q1) λ iv s2 ⟨y,H2,I2,ry,ov,g,q2⟩=>Calls.spliced_nil ?_)));exact zNY hu I2 g ry λ w' s3 I3 rw'=>⟨_,H2,I3,rw',q2⟩
end
end L2
namespace Att
open PySem PySem.W PySem.Calls PyProof.Rows
theorem zEJ {P:Params}{h:Heap}:∀(ns:List Int) (vs:List Value),WellAll P h vs (ns.map WData.int)->IntsAre vs ns:=by
 intro ns
 induction ns with
 |nil =>
  intro vs w;rw[List.map_nil] at w;cases w;exact .nil
 |cons n ns ih =>
  intro vs w;rw[mL] at w;cases w with
  |cons a b =>
   cases a;exact .cons _ _ (ih _ b)
theorem zIS {l:OpenLaw}{n:Nat}(hn:l.most=some n) {P:Params}{h:Heap}{args:List WData}{vals:List Value}
    (hpre:l.row.toRowW.claim.pre args=true) (hwl:WellAll P h vals args) :
    ∃a vs ns,vals=[Value.ref a]/\args=[WData.list (ns.map WData.int)]/\h.get? a=some { cls:=.type "list", data:=.seq vs.toArray }/\IntsAre vs ns/\ns.length<=n:=by
  have hsh:WShape.hasAll [] args [.list .int]=true:=(pre_splitW hpre).1;have hc:l.pre.holds [] { args:=args }=true:=(pre_splitW hpre).2;obtain⟨d,r,rfl,h1,h2⟩:=hasAllW_cons hsh;obtain rfl:=hasAllW_nil h2;obtain⟨xs,rfl,h3⟩:=hasW_list h1;obtain⟨ns,rfl⟩:=items_int h3
  have hlen:ns.length<=n:=by
    unfold OpenLaw.pre at hc
    have h4:(WTm.not (.lt (.lit (.int (n:Int))) (.len (.arg 0)))).holds [] { args:=[.list (ns.map .int)] }=true:=by
      have h4:=(holds_andW hc).1;rw[hn] at h4;exact h4
    have h5:=condW_of h4 (w_not (w_lt w_lit (w_len_list (w_arg rfl))));rw[mD] at h5;refine Nat.le_of_not_lt λ q=>?_;have q':(n:Int)<((ns.length:Nat):Int):=by omega
    first
      | (rw[decide_eq_true q'] at h5;exact absurd h5 (by decide))
      | (simp at h5;omega)
  cases hwl with
  |cons w1 w2 =>
    cases w2;cases w1 with
    |list ho hall=>exact⟨_,_,ns,rfl,rfl,ho,zEJ ns _ hall,hlen⟩
theorem zIa (l:OpenLaw) (args:List WData):l.row.toRowW.claim.post args (.bool true) args=true :=
  postW_of (r:=l.row.toRowW) (X:=(true == true))
    (show WShape.has [] (.bool true) .bool=true by first|rfl|decide|simp[WShape.has,WShape.arms,WShape.armsAll])
    (show (WTm.eq .res (.lit (.bool true))).value [] { args:=args,res:=some (.bool true),after:=args }=some (.bool (true == true)) from w_eq_bool (w_res rfl) w_lit) rfl
theorem attach_call {l:OpenLaw}{n:Nat}{q:Program}{loose:List Str}{XP:(Str->Option Value)->Heap->Prop}{YP:World->Heap->Prop}{d:DefRec}
  (hn:l.most=some n) (hdf:d.params.defaults=[])
  (call:∀(w:World) (s₀ s₁:Shared) (mg mb:Str->Option Value) (fa:Addr) (o:Obj) (pm cd doc:Value) (a:Addr) (vs:List Value) (ns:List Int),
   Ground q loose [] XP w s₀ mg mb s₁.heap->YP w s₁.heap ->
   s₁.heap.get? fa=some o->o.data = .func (docDef d.name d.params d.body d.scope pm cd doc)->s₁.heap.CodeRec cd d.name->mg d.name=some (.ref fa) ->
   s₁.heap.get? a=some { cls:=.type "list", data:=.seq vs.toArray }->IntsAre vs ns->ns.length<=n->s₁.gens=#[] ->
   codeAny (model l.prog w) callerA (.call (.ref fa) ⟨[.ref a],[]⟩) (λ r s'=>r = .ok (.ret (.bool true))/\OldK s₁.heap s'.heap/\s'.os=s₁.os/\AllBare s'.gens) s₁) :
  WalkO q loose XP YP l.row.toRowW d [] (λ f vs=>PySem.call f vs):=by
 intro w s₀ s₁ mg mb G Y fa o pm cd doc dV kV ho hd hcd hD hmg hg args vals as hpre hlay hrd hwl hlo;obtain rfl:dV = .none:=Dflts.none hD hdf;obtain rfl:kV = .none:=Dflts.noKw hD;obtain⟨a,vs,ns,rfl,rfl,hobj,hints,hlen⟩:=zIS hn hpre hwl;refine enter_call (codeAny_mono (call w s₀ s₁ mg mb fa o pm cd doc a vs ns G Y ho (fd_plain hd) hcd hmg hobj hints hlen hg) λ r s' hq=>?_);obtain⟨rfl,h2,h3,h4⟩:=hq;exact⟨.inl ⟨.bool true,.bool true,[],rfl,λ Ω=>rfl,.bool true,zIa l _,λ Ω=>⟨List.Pairwise.nil,λ Ω hm=>(nomatch hm)⟩⟩,h2,h3,h4⟩
end Att
namespace L2
open PySem PySem.Spec PyProof.Rows
theorem zFh {vs:List Value}{ns:List Int}(h:IntsAre vs ns):Vals (ns.map V.int) vs:=by
 induction h with
 |nil=>exact .nil
 |cons n t h ih=>exact .cons ⟨t,rfl⟩ ih
def Only (H:Hp):Prop:=∀b,H b=none\/∃o xs,H b=some (.frz o (.lst xs))
theorem zKY {P:Program}{w:World}{K:W.Frag}{mg mb:Str->Option Value}{CX:CXT}{k:Nat}{fa a:Addr}{fd:FuncData}{x:Str}{sp:Sp}{s₁:Shared}{vs:List Value}{ns:List Int}
  (KX:K.In s₁.heap) (hns:s₁.heap.Ns mainGlobals mg) (hb:s₁.heap.Ns builtinsNs mb) (hbb:∀x:Str,x ≠ "__name__" -> mb x=bootBuiltins x) (hlim:s₁.heap.NoLimit) (hg:s₁.gens=#[])
  (ha:s₁.heap.get? a=some { cls:=.type "list", data:=.seq vs.toArray }) (hi:IntsAre vs ns) (hl:ns.length<=sizeLine) (hr:Room k callerA)
  (F:∀base:Heap,K.In base->base.Ns mainGlobals mg->FnOk P w K mg base CX k fa fd [x] sp) (hbind:∀(s:Shared) (u:Value),BindsTo s fd ⟨[u],[]⟩ [(x,u)])
  (hsp:∀H:Hp,Only H->SqL K H a (ns.map V.int)->sp [.ref a] H (λ v Ω=>v = .bl true) λ Ω Ω Ω=>False)
  (hCX:∀H e s',CX [] H s₁ (λ Ω Ω Ω=>False) e s'->False) :
  codeAny (model P w) callerA (.call (.ref fa) ⟨[.ref a],[]⟩) (λ r s'=>r = .ok (.ret (.bool true))/\OldK s₁.heap s'.heap/\s'.os=s₁.os/\AllBare s'.gens) s₁:=by
 have rv:=zFh hi;have lenV:=hi.length
 have core:∀H:Hp,Only H->SqL K H a (ns.map V.int)->HOk P w H s₁.heap->(∀b,H b≠none->b=a)->(H a≠none->K.lookup a=none) ->
   codeAny (model P w) callerA (.call (.ref fa) ⟨[.ref a],[]⟩) (λ r s'=>r = .ok (.ret (.bool true))/\OldK s₁.heap s'.heap/\s'.os=s₁.os/\AllBare s'.gens) s₁:=by
  intro H hO hS hok hA hK;have base_of:∀{b:Addr}{o:Obj},s₁.heap.get? b=some o->H b=none->(hidT s₁.heap H).get? b=some o:=λ e n=>zKb e n
  have noA:∀{b:Addr}{o:Obj}{es:Array DictEntry}{ep:Nat},s₁.heap.get? b=some o->o.data = .dict es ep->H b=none:=λ{b o es ep} e d=>by
   cases q:H b with
   |none=>rfl
   |some u =>
    have e':b=a:=hA b (by rw[q];simp);subst e';rw[ha] at e;cases e;have d':Data.seq vs.toArray _=Data.dict es ep:=d;cases d'
  have nsK:∀{b:Addr}{m:Str->Option Value},s₁.heap.Ns b m->(hidT s₁.heap H).Ns b m:=λ{b m} ⟨o,es,ep,e,d,r⟩=>⟨o,es,ep,base_of e (noA e d),d,r⟩
  have hKb:K.In (hidT s₁.heap H):=λ b o e=>base_of (KX b o e) (by
   cases q:H b with
   |none=>rfl
   |some u =>
    have e':b=a:=hA b (by rw[q];simp);subst e';rw[hK (by rw[q];simp)] at e;cases e)
  have hM:Mod K mg (hidT s₁.heap H):=⟨hKb,nsK hns,⟨mb,nsK hb,hbb⟩,let ⟨mc,h1,h2⟩:=hlim;⟨mc,nsK h1,h2⟩⟩;have e0:Env0 P w K mg (hidT s₁.heap H) callerA [] s₁ H:=⟨rfl,hM,λ b o e=>zL8 e,Nat.le_of_eq (zJG _ _),trivial,λ b hb=>absurd (show b∈([]:List Addr) from hb) (by simp),hok,.of_eq hg⟩;refine codeAny_mono ((F _ hKb (nsK hns)).run callerA [] s₁ H ⟨[.ref a],[]⟩ [.ref a] [.ref a] _ _ hr e0 (hbind s₁ (.ref a)) (.cons rfl .nil) (hsp H hO hS)) λ r s' h=>?_;cases r with
  |error e=>exact(hCX H e s' h).elim
  |ok fl =>
   cases fl with
   |next=>exact False.elim h
   |brk=>exact False.elim h
   |cont=>exact False.elim h
   |ret u =>
    obtain⟨v,H',os,bare,un,hok',r',q⟩:=h;have q':v = .bl true:=q;subst q';obtain rfl:u=Value.bool true:=r';refine⟨rfl,OldK.of_keep λ b o e=>?_,os,bare⟩;cases q:H b with
    |none=>exact un.keep b o e q (by intro z;exact absurd (show b∈([]:List Addr) from z) (by simp)) (by simp)
    |some u =>
     rcases hO b with z|⟨ob,xs,z⟩
     ·rw[q] at z;cases z
     ·have z2:=un.frzs b ob _ z
      obtain⟨e1,_⟩:=hok b _ z;obtain⟨e2,_⟩:=hok' b _ z2;rw[e] at e1;cases e1;exact e2
 cases hk:K.lookup a with
 |some o =>
  have e:=KX a o hk;rw[ha] at e;cases e;refine core (λ Ω=>none) (λ Ω=>.inl rfl) (.inr ⟨_,vs.toArray,_,hk,rfl,rfl,rfl,by rw[mH,lenV];exact hl,by simpa using rv⟩) (λ b u z=>by have z':(none:Option HO)=some u:=z;cases z') (λ b z=>absurd rfl z) λ z=>absurd rfl z
 |none =>
  refine core (λ b=>if b=a then some (.frz { cls:=.type "list", data:=.seq vs.toArray } (.lst (ns.map V.int))) else none) (λ b=>?_) (.inl (.inr ⟨{ cls:=.type "list", data:=.seq vs.toArray },if_pos rfl⟩)) (λ b u z=>?_) (λ b z=>?_) λ Ω=>hk
  ·by_cases hb:b=a
   ·exact .inr ⟨_,_,if_pos hb⟩
   ·exact .inl (if_neg hb)
  ·by_cases hb:b=a
   ·have z':=(if_pos hb).symm.trans z
    cases z';subst hb;exact⟨ha,by rw[mD];exact hl,vs,_,rv,ha⟩
   ·have z':=(if_neg hb).symm.trans z
    cases z'
  ·by_cases hb:b=a
   ·exact hb
   ·exact absurd (if_neg hb) z
theorem walk_of {l:W.OpenLaw}{n k:Nat}{q:Program}{loose:List Str}{XP:(Str->Option Value)->Heap->Prop}{YP:World->Heap->Prop}{d:DefRec}{K:Params->W.Frag}{CX:World->CXT}{sp:World->Sp}{x:Str}
  (hn:l.most=some n) (hn2:n<=sizeLine) (hdf:d.params.defaults=[]) (hr:Room k callerA)
  (hY:∀(w:World) (h:Heap),YP w h->(K w.params).In h)
  (F:∀(w:World) (mg:Str->Option Value) (fa:Addr) (h:Heap),(K w.params).In h->h.Ns mainGlobals mg->mg d.name=some (.ref fa) ->
   ∃fd:FuncData,(∀(s:Shared) (u:Value),BindsTo s fd ⟨[u],[]⟩ [(x,u)]) /\
    ∀base:Heap,(K w.params).In base->base.Ns mainGlobals mg->FnOk l.prog w (K w.params) mg base (CX w) k fa fd [x] (sp w))
  (hsp:∀(w:World) (H:Hp) (a:Addr) (ns:List Int),ns.length<=n->Only H->SqL (K w.params) H a (ns.map V.int)->sp w [.ref a] H (λ v Ω=>v = .bl true) λ Ω Ω Ω=>False)
  (hCX:∀(w:World) (H:Hp) (s:Shared) (e:Value) (s':Shared),CX w [] H s (λ Ω Ω Ω=>False) e s'->False) :
  W.WalkO q loose XP YP l.row.toRowW d [] (λ f vs=>PySem.call f vs):=by
 refine Att.attach_call hn hdf λ w s₀ s₁ mg mb fa o pm cd doc a vs ns G Y ho hd hcd hmg hobj hints hlen hg=>?_;have KX:=hY w _ Y;obtain⟨fd,hb,hF⟩:=F w mg fa _ KX G.T.g hmg;exact zKY KX G.T.g G.T.b G.T.builtins G.T.nolimit hg hobj hints (mG hlen hn2) hr hF hb (λ H hO hS=>hsp w H a ns hlen hO hS) λ H e s'=>hCX w H s₁ e s'
noncomputable def zMJ (s:Stmt) (j:Nat):Stmt:=match s with
 |.ClassDef _ _ _ body _ _ _ _ _ _ _=>body.getD j (.Pass ⟨0,0,0,0⟩)
 |_=>.Pass ⟨0,0,0,0⟩
noncomputable def zBJ (s:Stmt):Arguments:=match s with
 |.FunctionDef _ a _ _ _ _ _ _ _ _=>a
 |_=>{ posonlyargs:=[],args:=[],vararg:=none,kwonlyargs:=[],kw_defaults:=[],kwarg:=none,defaults:=[] }
noncomputable def zAx (s:Stmt):List Stmt:=match s with
 |.FunctionDef _ _ b _ _ _ _ _ _ _=>b
 |_=>[]
noncomputable def zAH (s:Stmt):Scope:=match s with
 |.FunctionDef _ _ _ _ _ _ sc _ _ _=>sc
 |_=>{ kind:=.function,names:=[],isGenerator:=false,isCoroutine:=false }
abbrev CX0:CXT:=λ Ω Ω Ω Ω Ω Ω=>False
abbrev E0:XK:=λ Ω Ω Ω=>False
theorem pass0 {X:Cx}:zE4 CX0 X E0:=λ Ω Ω Ω Ω Ω Ω Ω h=>h.elim
structure Fun (K:W.Frag) (x qual:Str) (st:Stmt) (f:Addr) (fd:FuncData):Prop where
 ex:∃(oc:Value) (od:Option Addr) (kV doc pm:Value) (an:Option Addr) (cdv ct:Value) (osl:Array (Option Value)),
  fd=W.fnOf x qual (zBJ st) (zAx st) (zAH st) .none kV doc pm an cdv ct/\K.lookup f=some ⟨oc,od,.func fd,osl⟩/\W.codeIn K cdv qual=true
 kp:W.keepIn K (.ref f)=true
section
variable {P:Program}{w:World}{K:W.Frag}{mg:Str->Option Value}{base:Heap}
theorem Fun.ok {x qual:Str}{st:Stmt}{f:Addr}{fd:FuncData}{N ps:List Str}{k:Nat}{sp:Sp}(F:Fun K x qual st f fd) (S:zAQ N ps (zAH st)) (len:∀vs H Q E,sp vs H Q E->vs.length=ps.length)
  (hbody:∀(cdv:Value) (A:Around) (outer:List Env) (s:Shared) (H:Hp) (vs:List V) (Q:VK) (E:XK),Room k (A.deeper (envOfC qual (zAH st) s.heap.objs.size f cdv))->sp vs H Q E ->
   ∃t,PSs (cxOf CX0 P w K mg base N qual (zAH st) f cdv A outer s H E).nox (zAx st) t/\t { nx:=λ Ω H'=>Q .non H',rt:=Q } (start N vs) H):FnOk P w K mg base CX0 (k+1) f fd ps sp:=by
 obtain⟨oc,od,kV,doc,pm,an,cdv,ct,osl,rfl,lk,hcd⟩:=F.ex;refine fn_of lk hcd S len λ A outer s H vs Q E hr hsp=>?_;obtain⟨t,h,q⟩:=hbody cdv A outer s H vs Q E hr hsp;exact⟨t,h.nox,q⟩
theorem Fun.binds {x qual:Str}{st:Stmt}{f:Addr}{fd:FuncData}{ps:List Str}(F:Fun K x qual st f fd)
  (h:∀(kV doc pm:Value) (an:Option Addr) (cdv ct:Value) (us:List Value),us.length=ps.length->bindArgs (W.fnOf x qual (zBJ st) (zAx st) (zAH st) .none kV doc pm an cdv ct) ⟨us,[]⟩=pure (ps.zip us)):Binds K fd ps []:=by
 obtain⟨oc,od,kV,doc,pm,an,cdv,ct,osl,rfl,lk,hcd⟩:=F.ex;exact .all (h kV doc pm an cdv ct)
theorem zJJ {x qual:Str}{st:Stmt}{f:Addr}{oc:Value}{od an:Option Addr}{osl:Array (Option Value)}{kV doc pm cdv ct:Value}(l:K.lookup f=some ⟨oc,od,.func (W.fnOf x qual (zBJ st) (zAx st) (zAH st) .none kV doc pm an cdv ct),osl⟩)
  (c:W.codeIn K cdv qual=true) (k:W.keepIn K (.ref f)=true):Fun K x qual st f (W.fnOf x qual (zBJ st) (zAx st) (zAH st) .none kV doc pm an cdv ct):=⟨⟨oc,od,kV,doc,pm,an,cdv,ct,osl,rfl,l,c⟩,k⟩
end
theorem hu_of {A:Around}{k:Nat}(hr:Room k A):A.units+1<cLine:=Nat.lt_of_le_of_lt (Nat.add_le_add_left (by decide:1<=64) _) hr.units
theorem zAN {n:Nat}(h:n<=1000):n<sizeLine:=Nat.lt_of_le_of_lt h (by decide)
section
variable {X:Cx}
theorem pv (i:Nat) {x:Str}{pos:Pos}(hN:X.N[i]?=some x:=by rfl) (hv:Vis X.env.scope x:=by first|exact Or.inl rfl|exact Or.inr (Or.inl rfl)|exact Or.inr (Or.inr rfl)) (hd:(x == ("__debug__" : Str))=false:=by decide)
  (hcd:(x == ("__classdict__" : Str))=false:=by decide):PE X (.Name x pos) (tVar i):=zM3 hN hv hd hcd
end
theorem iteF {A B:Prop}(h:B):if false=true then A else B:=by
 rw[if_neg Bool.false_ne_true];exact h
theorem iteT {A B:Prop}(h:A):if true=true then A else B:=by
 rw[if_pos rfl];exact h
theorem ite2 {c A B:Prop} [Decidable c] (h1:c->A) (h2:¬c->B):if c then A else B:=by
 by_cases h:c
 ·rw[if_pos h]
  exact h1 h
 ·rw[if_neg h]
  exact h2 h
def Same (H H':Hp):Prop:=∀b o,H b=some o->H' b=some o
theorem Same.refl (H:Hp):Same H H:=λ Ω Ω h=>h
theorem Same.trans {H H1 H2:Hp}(a:Same H H1) (b:Same H1 H2):Same H H2:=λ c o h=>b c o (a c o h)
theorem Same.free {H H':Hp}(e:Same H H') {l:Addr}(h:H' l=Option.none):H l=Option.none:=by
 cases q:H l with
 |none=>rfl
 |some o =>
  rw[e l o q] at h;cases h
theorem Same.seq {K:W.Frag}{H H':Hp}{a:Addr}{xs:List V}(e:Same H H') (h:SqL K H a xs):SqL K H' a xs:=by
 rcases h with (h|⟨o,h⟩)|h
 ·exact .inl (.inl (e _ _ h))
 ·exact .inl (.inr ⟨o,e _ _ h⟩)
 ·exact .inr h
abbrev NoX:Value->Shared->Prop:=λ Ω Ω=>False
theorem noX {al:Type}{t:Sem al}{Q:al->Shared->Prop}{M:Model}{A:Around}{E:XQ}{s:Shared}(h:wpAny M A t Q NoX s):wpAny M A t Q E s :=
 wpAny_mono h (λ Ω Ω q=>q) λ Ω Ω z=>z.elim
noncomputable def capSt (cap:List (Option Nat)) (σ:St):St:=cap.map λ o=>match o with
 |none=>none
 |some j=>(σ[j]?).join
inductive Ext:St->St->Prop
 |nil:Ext [] []
 |skip {a b:St}{x:Option V}:Ext a b->Ext (none::a) (x::b)
 |keep {a b:St}{x:Option V}:Ext a b->Ext (x::a) (x::b)
theorem Ext.len {a b:St}(h:Ext a b):a.length=b.length:=by
 induction h with
 |nil=>rfl
 |skip _ ih=>simp[ih]
 |keep _ ih=>simp[ih]
theorem Ext.get {a b:St}(h:Ext a b):∀(i:Nat) v,a[i]?=some (some v)->b[i]?=some (some v):=by
 induction h with
 |nil=>intro i v e;simp at e
 |skip _ ih =>
  intro i v e;cases i with
  |zero=>simp at e
  |succ i=>simpa using ih i v (by simpa using e)
 |keep _ ih =>
  intro i v e;cases i with
  |zero=>simpa using e
  |succ i=>simpa using ih i v (by simpa using e)
noncomputable def Cx.block (X:Cx) (sc:Scope) (cl:List (Str × Addr)) (N:List Str) (s:Shared) (H:Hp) (C:Addr) (ex:List Addr):Cx where
 prog:=X.prog
 w:=X.w
 K:=X.K
 mg:=X.mg
 base:=X.base
 A:=X.A
 N:=N
 s₀:=s
 H₀:=H
 env:=compEnvC sc cl C X.env
 outer:=X.stack
 stack:=X.stack
 ex:=ex
 fn:=λ Ω=>false
 calm:=X.calm
 pn:=[]
 xe:=NoX
theorem zDO {env:Env}:∀(names:List (Str × NameKind)) (cs:List (Str × Addr)),(∀n,(n,NameKind.free)∈names->∃c,env.cells.lookup n=some c) ->
  (∀x c,cs.lookup x=some c->env.cells.lookup x=some c) ->
  ∃cl:List (Str × Addr),(forIn names cs λ(x:Str × NameKind) (r:List (Str × Addr))=>(if (x.2 == NameKind.free)=true then do let c ← cellOf env x.1;pure (ForInStep.yield ((x.1,c)::r)) else pure (ForInStep.yield r)):Sem (List (Str × Addr)))=pure cl /\
   (∀x c,cl.lookup x=some c->env.cells.lookup x=some c)/\(∀n,(n,NameKind.free)∈names->∃c,cl.lookup n=some c)/\(∀n c,cs.lookup n=some c->∃c,cl.lookup n=some c)
 |[],cs,_,hc=>⟨cs,rfl,hc,λ Ω h=>(nomatch h),λ n c e=>⟨c,e⟩⟩
 | (n,k)::r,cs,h,hc=>by
  by_cases hk:k = .free
  ·subst hk
   obtain⟨c,ec⟩:=h n lO
   have hc':∀x c',((n,c)::cs).lookup x=some c'->env.cells.lookup x=some c':=λ x c' e=>by
    rw[List.lookup_cons] at e;cases hx:x == n with
    |true=>rw[hx] at e;cases e;rw[eq_of_beq hx];exact ec
    |false=>rw[hx] at e;exact hc x c' e
   obtain⟨cl,e1,e2,e3,e4⟩:=zDO r ((n,c)::cs) (λ m hm=>h m (lP _ hm)) hc';refine⟨cl,?_,e2,λ m hm=>?_,λ m c' e=>?_⟩
   ·rw[List.forIn_cons,←e1]
    simp only[beq_self_eq_true,if_true,cellOf,ec];rfl
   ·rcases lN.mp hm with z|z
    ·cases z
     exact e4 n c (by simp)
    ·exact e3 m z
   ·by_cases hm:m=n
    ·subst hm;exact e4 m c (by simp)
    ·exact e4 m c' (by rw[List.lookup_cons,beq_eq_false_iff_ne.mpr hm];exact e)
  ·have hb:(k == NameKind.free)=false:=by simpa using hk
   obtain⟨cl,e1,e2,e3,e4⟩:=zDO r cs (λ m hm=>h m (lP _ hm)) hc;refine⟨cl,?_,e2,λ m hm=>?_,e4⟩
   ·rw[List.forIn_cons,←e1]
    simp only[hb,Bool.false_eq_true,if_false];rfl
   ·rcases lN.mp hm with z|z
    ·cases z;exact absurd rfl hk
    ·exact e3 m z
theorem zDP {sc:Scope}{env:Env}(h:∀n,(n,NameKind.free)∈sc.names->∃c,env.cells.lookup n=some c) :
  ∃cl:List (Str × Addr),closureFor sc env=pure cl/\(∀x c,cl.lookup x=some c->env.cells.lookup x=some c)/\(∀n,(n,NameKind.free)∈sc.names->∃c,cl.lookup n=some c):=by
 obtain⟨cl,e1,e2,e3,_⟩:=zDO (env:=env) sc.names [] h (λ x c e=>by simp at e);refine⟨cl,?_,e2,e3⟩;unfold closureFor;rw[←bind_pure (pure cl),←e1]
theorem zB2 {names:List (Str × NameKind)}{x:Str}{k:NameKind}(h:names.lookup x=some k):(x,k)∈names:=by
 induction names with
 |nil=>simp at h
 |cons p r ih =>
  obtain⟨n,j⟩:=p;rw[List.lookup_cons] at h;cases hx:x == n with
  |true=>rw[hx] at h;cases h;rw[eq_of_beq hx];exact lO
  |false=>rw[hx] at h;exact lP _ (ih h)
set_option tactic.hygienic true in
theorem zDU {sc:Scope}{env:Env}{x:Str}{k:NameKind}(hk:k = .cell\/k = .free) (nc:∀y∈sc.names,y.2 ≠ .cell) (h:(relabel sc env).names.lookup x=some k):(x,NameKind.free)∈sc.names:=by
 have m:=zB2 h;obtain⟨⟨n,j⟩,hm,e⟩:=mC.mp m;have q:(if (j == NameKind.free && env.scope.kind == .function && env.kindOf n == some .cell)=true then (n,NameKind.cell) else (n,j))=(x,k):=e;split at q
 ·rename_i c
  rw[Bool.and_eq_true,Bool.and_eq_true] at c;have j':j = .free:=by simpa using c.1.1
  cases q;rw[j'] at hm;exact hm
 ·cases q
  rcases hk with z|z
  ·exact absurd z (nc _ hm)
  ·rw[z] at hm;exact hm
theorem zAu {sc:Scope}{env:Env}{x:Str}:∀{names:List (Str × NameKind)},names.lookup x=some .free ->
  (names.map λ(n,k)=>if (k == NameKind.free && env.scope.kind == .function && env.kindOf n == some .cell) then (n,NameKind.cell) else (n,k)).lookup x=some .cell \/
  (names.map λ(n,k)=>if (k == NameKind.free && env.scope.kind == .function && env.kindOf n == some .cell) then (n,NameKind.cell) else (n,k)).lookup x=some .free
 |[],h=>by simp at h
 | (n,k)::r,h=>by
  have ih:=@zAu sc env x r;rw[List.lookup_cons] at h
  by_cases c:(k == NameKind.free && env.scope.kind == .function && env.kindOf n == some .cell)=true
  ·rw[mL]
   simp only[c,if_true,List.lookup_cons];cases hx:x == n with
   |true=>exact .inl rfl
   |false=>rw[hx] at h;exact ih h
  ·rw[mL]
   have c':=rM.mpr c;simp only[c',Bool.false_eq_true,if_false,List.lookup_cons];cases hx:x == n with
   |true=>rw[hx] at h;cases h;exact .inr rfl
   |false=>rw[hx] at h;exact ih h
theorem zEP {P:Program}{w:World}{A:Around}{R:Result->Shared->Prop}{s:Shared}{elt tg iter:Expr}{ifs:List Expr}{sc:Scope}{pos:Pos}{it acc:Value}{env:Env}(J:Nat->Shared->Prop)
  (turn:∀n s,J n s->wpAny (model P w) A (pyNext it) (λ r s1=>match r with
   |none=>R (.ok .next) s1
   |some v=>wpAny (model P w) A (letOwnedTupleGo tg it v) (λ Ω s2=>wpAny (model P w) A (assign tg env v) (λ Ω s3 =>
     wpAny (model P w) A (forIn ifs true λ c r=>if r=true then do let ok ← isTrue c env (eval c env);pure (ForInStep.yield ok) else pure (ForInStep.yield r)) (λ ok s4 =>
      if ok=true then wpAny (model P w) A (eval elt env) (λ x s5=>wpAny (model P w) A (call (.builtin "list.append") [acc,x]) (λ Ω s6=>∃m,m<n/\J m s6) NoX s5) NoX s4
      else ∃m,m<n/\J m s4) NoX s3) NoX s2) NoX s1) NoX s) (n:Nat) (h:J n s) :
  codeAny (model P w) A (.compLoop (.ListComp elt [⟨tg,iter,ifs,0⟩] sc pos) 0 it acc env) R s:=by
 refine codeAny_loop rfl J (λ n s hJ=>?_) n h;refine wpAny_noted ?_;rw[compTurn_list];refine lA (wpAny_standAt (lA (noX (thn (turn n s hJ) λ r s1 h1=>?_))));cases r with
 |none=>exact lB h1
 |some v =>
  refine lA (noX (thn h1 λ Ω s2 h2=>?_));refine lA (noX (thn h2 λ Ω s3 h3=>?_));refine lA (noX (thn h3 λ ok s4 h4=>?_));cases ok with
  |false=>exact lB ⟨rfl,h4⟩
  |true=>exact lA (lA (noX (thn h4 λ x s5 h5=>lA (noX (thn h5 λ Ω s6 h6=>lB (lB ⟨rfl,h6⟩))))))
def PTs (X:Cx) (ifs:List Expr) (t:TT):Prop :=
 ∀(jP:List (Addr × Obj)) (s:Shared) (σ:St) (H:Hp) (Q:Bool->Hp->Prop),Inv X jP σ H s->t σ H Q ->
  wpAny (model X.prog X.w) X.A (forIn ifs true λ c r=>if r=true then do let ok ← isTrue c X.env (eval c X.env);pure (ForInStep.yield ok) else pure (ForInStep.yield r)) (TP X jP σ Q) X.xe s
def tYes:TT:=λ Ω H Q=>Q true H
theorem zBA {X:Cx}:PTs X [] tYes:=λ Ω Ω Ω H Ω I h=>wpAny_tests_nil ⟨H,I,h⟩
theorem zDJ {X:Cx}{c:Expr}{t:TT}(h:PT X c t):PTs X [c] t:=λ jP s σ H Q I hq=>wpAny_tests_one (h jP s σ H Q I hq)
def tComp (cap:List (Option Nat)) (wi:TI) (g:TG) (tt:TT) (te:TE):TE:=λ σ H Q=>wi σ H λ J H1=>∀acc,H1 acc=none ->
 ∃W:Nat->Nat->Hp->Prop,(∃m,W 0 m (upd H1 acc (.lst [])))/\∀i m H2,W i m H2 ->
  (J.stop i H2/\Q (.ref acc) H2)\/(J.go i H2/\∃N:Hp->Prop,(∀H',N H'->∃m',m'<m/\W (i+1) m' H')/\∀x H3,J.yld i H2 x H3->g x (capSt cap σ) H3 λ σ2 H4=>Ext (capSt cap σ) σ2/\tt σ2 H4 λ b H5 =>
   if b=true then te σ2 H5 λ y H6=>∃zs,H6 acc=some (.lst zs)/\zs.length<sizeLine/\N (upd H6 acc (.lst (zs++[y])))
   else N H5)
theorem HOk.but {P:Program}{w:World}{H:Hp}{h h':Heap}{C:Addr}(x:HOk P w H h) (n:H C=none) (sb:Heap.SameBut C h h'):HOk P w H h':=λ a o e =>
 (x a o e).stay (λ b u hb q=>(sb.2 b (λ z=>by
  subst z;rcases hb with z|z
  ·subst z;rw[n] at e;cases e
  ·rw[n] at z;cases z)).trans q) (λ Ω q=>q) λ Ω Ω q=>q
theorem Un.but {fs ex:List Addr}{H H':Hp}{h h1 h2:Heap}{C:Addr}(u:Un fs ex H H' h h1) (lt:h.objs.size<=C) (sb:Heap.SameBut C h1 h2):Un fs ex H H' h h2:=by
 have ne:∀b o,h.get? b=some o->b≠C:=λ b o e=>lS (lZ (lI e) lt);refine⟨λ b o e n hb hx=>(sb.2 b (ne b o e)).trans (u.keep b o e n hb hx),λ b o e n hb hx=>?_,u.free,λ b o e hx=>?_,u.tups,u.frzs,u.tbls⟩
 ·obtain⟨sl,q⟩:=u.slot b o e n hb hx
  exact⟨sl,(sb.2 b (ne b o e)).trans q⟩
 ·obtain⟨o',q⟩:=u.there b o e hx
  exact⟨o',(sb.2 b (ne b o e)).trans q⟩
section
variable {X:Cx}
theorem zHZ {jP:List (Addr × Obj)}{σ:St}{H:Hp}{s:Shared}{sc:Scope}{cl:List (Str × Addr)}{N:List Str}{C:Addr}{fp:List Addr}(I:Inv X jP σ H s) (hk:sc.kind = .function) (nc:∀y∈sc.names,y.2 ≠ .cell)
  (hC:s.heap.objs.size<=C) (hf:∀b∈fp,FpOk X jP H b) (hfo:∀b∈fp,∃o,s.heap.get? b=some o) (c1:∀x c,cl.lookup x=some c->X.env.cells.lookup x=some c) (c2:∀n,(n,NameKind.free)∈sc.names->∃c,cl.lookup n=some c) :
  (X.block sc cl N s H C fp).Ok where
 mod:=I.ok.mod
 kind:=hk
 glob:=I.ok.glob
 blt:=I.ok.blt
 above:=hC
 inj:=λ x y c e e'=>I.ok.inj x y c (c1 x c e) (c1 y c e')
 has:=λ x h=>c2 x (h.elim (zDU (.inl rfl) nc) (zDU (.inr rfl) nc))
 cab:=λ x c e=>(nomatch e)
 hd:=I.ok.hd
 frames:=I.ok.frames
 stk:=.inl rfl
 exf:=λ b hb=>⟨λ z=>by
  obtain⟨o,e⟩:=hfo b hb;have lt:=lI e;rw[z] at lt;exact absurd (lZ lt hC) (Nat.lt_irrefl _),λ x c e=>(hf b hb).2.2.2.2.1 x c (c1 x c e)⟩
 bs:=I.bs
 bsz:=mG I.ok.bsz I.sz
 noex:=λ b o e hb=>by
  rcases (hf b hb).2.2.2.1 with z|z
  ·exact I.ok.noex b o e z
  ·exact absurd (lZ (lI (I.ok.bs b o e).1) z) (Nat.lt_irrefl _)
 exfs:=λ b hb hs=>by
  rcases lN.mp (I.stkSub b hs) with z|z
  ·exact(hf b hb).2.1 z
  ·exact(hf b hb).2.2.1 z
 funs:=I.stack
 frf:=I.stkFree
theorem zLu {elt tg iter:Expr}{ifs:List Expr}{sc:Scope}{pos:Pos}{wi:TI}{g:TG}{tt:TT}{te:TE}(N:List Str) (cap:List (Option Nat)) (hc:X.calm=true) (hi:PI X tg iter wi)
  (hg:∀cl s H C ex,PG (X.block sc cl N s H C ex) tg g) (ht:∀cl s H C ex,PTs (X.block sc cl N s H C ex) ifs tt) (he:∀cl s H C ex,PE (X.block sc cl N s H C ex) elt te)
  (hk:sc.kind = .function) (nc:∀y∈sc.names,y.2 ≠ .cell) (hnames:∀y∈sc.names,y.2 = .local->sc.names.lookup y.1=some .local)
  (hfree:∀n,(n,NameKind.free)∈sc.names->X.env.kindOf n=some .cell)
  (hcap:∀(i j:Nat),cap[i]?=some (some j)->∃x,N[i]?=some x/\X.N[j]?=some x/\sc.names.lookup x=some .free) (hlen:cap.length=N.length)
  (hs:∀x,foldedSetIterable iter X.env x=pure x:=by intro _;rfl):PE X (.ListComp elt [⟨tg,iter,ifs,0⟩] sc pos) (tComp cap wi g tt te):=by
 intro jP s σ H Q I h;obtain⟨cl,hclos,c1,c2⟩:=zDP (sc:=sc) (env:=X.env) λ n hn=>I.ok.has n (.inl (hfree n hn));rw[eval_ListComp];refine wpAny_comprehension_free (use:=none) rfl hs hclos hk hnames ?_;refine thn (hi jP s σ H _ I h) λ v s1 h1=>thn h1 λ itv s2 h2=>?_;obtain⟨it,fp,tn,J,H2,e,I2,T,st2,f2,q2⟩:=h2;subst e;have hfr:H2 s2.heap.objs.size=none:=I2.fresh;obtain⟨W,⟨m0,w0⟩,turn⟩:=q2 s2.heap.objs.size hfr;have I3:=I2.lnew (ys:=[]) (its:=[]) (t':=s2.toks) .nil (lY _);have hacc:H2 s2.heap.objs.size=none:=hfr;refine wpAny_newObj_type (wpAny_newFunctionEnv nc (by intro y hy;simp at hy) (λ h4 hns hsb=>?_) hk);generalize hs3:({ s2 with heap:=s2.heap.push { cls:=.type "list", data:=.seq ([]:List Value).toArray } }:Shared)=s3 at hns hsb I3 ⊢;have hheap:s3.heap=s2.heap.push { cls:=.type "list", data:=.seq ([]:List Value).toArray }:=by rw[←hs3]
 generalize hH3:upd H2 s2.heap.objs.size (.lst [])=H3 at I3 w0;have up2:∀b o,s2.heap.get? b=some o->s3.heap.get? b=some o:=λ b o q=>by rw[hheap];exact lG _ q
 have neA:∀b∈fp,b≠s2.heap.objs.size:=λ b hb=>by
  obtain⟨o,q,_⟩:=T.obj _ _ st2 b hb;exact lS (lI q)
 have f3:∀b∈fp,FpOk X jP H3 b:=λ b hb=>⟨by rw[←hH3,zAK (neA b hb)];exact(f2 b hb).1,(f2 b hb).2⟩
 have o3:∀b∈fp,∃o,s3.heap.get? b=some o:=λ b hb=>by
  obtain⟨o,q,_⟩:=T.obj _ _ st2 b hb;exact⟨o,up2 b o q⟩
 have ok':=zHZ (N:=N) (C:=s3.heap.objs.size) I3 hk nc (lQ _) f3 o3 c1 c2;generalize hC:s3.heap.objs.size=C at hns hsb ok' ⊢;have ltC:∀b o,s3.heap.get? b=some o->b≠C:=λ b o q=>by rw[←hC];exact lS (lI q)
 have up4:∀b o,s3.heap.get? b=some o->h4.get? b=some o:=λ b o q=>hsb.extBut b o (ltC b o q) (lG _ q);have st4:tn 0 h4:=T.keep _ _ _ st2 λ b hb o q=>up4 b o (up2 b o q)
 have I4:Inv (X.block sc cl N s3 H3 C fp) [] (capSt cap σ) H3 { s3 with heap:=h4,toks:=s3.toks+([]:List (Str × Value)).length }:=by
  refine⟨ok',rfl,I3.bare,Un.kept up4,⟨_,hns,λ i x v e1 e2 e3=>?_⟩,λ x c q=>?_,?_,λ x c q=>I3.freeC x c (c1 x c q),λ p hp=>(nomatch hp),I3.hok.kept up4,?_⟩
  ·have ee:∃j,cap[i]?=some (some j)/\σ[j]?=some (some v):=by
    unfold capSt at e2;rw[mJ] at e2;cases q:cap[i]? with
    |none=>rw[q] at e2;cases e2
    |some o =>
     rw[q] at e2;cases o with
     |none=>cases e2
     |some j =>
      refine⟨j,rfl,?_⟩;have e2':some ((σ[j]?).join)=some (some v):=e2;cases z:σ[j]? with
      |none=>rw[z] at e2';cases e2'
      |some o' =>
       rw[z] at e2';have e2'':o'=some v:=mE e2';rw[e2'']
   obtain⟨j,ej,es⟩:=ee;obtain⟨x',n1,n2,n3⟩:=hcap i j ej;have e1':N[i]?=some x:=e1;rw[n1] at e1';cases e1';have hfr':(x,NameKind.free)∈sc.names:=zB2 n3;have kc:=hfree x hfr';obtain⟨m,_,hl⟩:=I3.loc;obtain⟨u,r,l⟩:=hl j x v n2 es (.inr (.inl kc));refine⟨u,r,?_⟩;rcases l with ⟨l,_⟩|⟨_,c,ec,z⟩
   ·rw[kc] at l;cases l
   ·obtain⟨c',ec'⟩:=c2 x hfr'
    have:=c1 x c' ec';rw[ec] at this;cases this;obtain⟨oc,q1,q2⟩:=z;exact .inr ⟨zAu (sc:=sc) n3,c,ec',oc,up4 _ _ q1,q2⟩
  ·obtain⟨v,oc,q1,q2⟩:=I3.cell x c (c1 x c q)
   exact⟨v,oc,up4 _ _ q1,q2⟩
  ·exact I3.hok.fresh (by rw[hC];exact lQ _)
  ·show (capSt cap σ).length=N.length
   unfold capSt;rw[mD,hlen]
 have loop:codeAny (model X.prog X.w) X.A (.compLoop (.ListComp elt [⟨tg,iter,ifs,0⟩] sc pos) 0 (.ref it) (.ref s2.heap.objs.size) (compEnvC sc cl C X.env)) (compPost (model X.prog X.w) X.A X.xe none (EP X jP σ Q) (.ref s2.heap.objs.size) C)
   { s3 with heap:=h4,toks:=s3.toks+([]:List (Str × Value)).length }:=by
  have stat:∀{H':Hp},(∀b∈fp,H' b=none)->∀b∈fp,FpOk (X.block sc cl N s3 H3 C fp) [] H' b:=λ hn b hb =>
   ⟨hn b hb,(ok'.exf b hb).1,ok'.exfs b hb,.inl hb,(ok'.exf b hb).2,λ p hp=>(nomatch hp)⟩
  refine zEP (λ n s'=>∃i H',Inv (X.block sc cl N s3 H3 C fp) [] (capSt cap σ) H' s'/\tn i s'.heap/\(∀b∈fp,H' b=none)/\W i n H') ?_ m0 ⟨0,H3,I4,st4,λ b hb=>(f3 b hb).1,w0⟩;rintro n s5 ⟨i,H5,I5,st5,fr5,w5⟩;rcases turn i n H5 w5 with ⟨stop,qn⟩|⟨go,N',hN',step⟩
  ·refine thn (T.done (X.block sc cl N s3 H3 C fp) rfl rfl rfl hc i [] s5 _ H5 NoX I5 (stat fr5) st5 stop) λ r s6 ⟨hr,I6⟩=>?_
   subst hr;obtain⟨m,hm,_⟩:=I6.loc;refine⟨m,hm,λ h' sb=>⟨.ref s2.heap.objs.size,H5,?_,rfl,qn⟩⟩;refine I3.call' (s':={ s6 with heap:=h' }) (ch:=fp) I6.os (I6.base.but (by rw[←hC];exact lQ _) sb) (I6.hok.but I6.free sb) I6.bare λ b hb=>?_;obtain⟨g0,g1,g2,g3,g4,g5⟩:=f3 b hb;exact⟨g3,g1,g4,g5⟩
  ·refine thn (T.item (X.block sc cl N s3 H3 C fp) rfl rfl rfl hc i [] s5 _ H5 NoX I5 (stat fr5) st5 go) λ r s6 ⟨u,hr,h6⟩=>?_
   subst hr;refine thn h6 λ _ s7 ⟨x,H7,I7,r7,y7,st7,fr7⟩=>?_;have I7':=I7.pinned (stat fr7) (T.obj _ _ st7)
   have again:∀{σ8:St}{H8:Hp}{s8:Shared},Inv (X.block sc cl N s3 H3 C fp) ([]++zD4 fp s7.heap) σ8 H8 s8->Ext (capSt cap σ) σ8->N' H8 ->
     ∃m,m<n/\∃i H',Inv (X.block sc cl N s3 H3 C fp) [] (capSt cap σ) H' s8/\tn i s8.heap/\(∀b∈fp,H' b=none)/\W i m H':=λ{σ8 H8 s8} I8 ex n8=>by
    obtain⟨m',hm,w8⟩:=hN' H8 n8;have I8':=I8.unpinned.weak ex.len ex.get;refine⟨m',hm,i+1,H8,I8',T.keep _ _ _ st7 λ b hb o q=>(I8.pin (b,o) (mB _ (mB _ (zBF hb q)))).1,λ b hb=>?_,w8⟩;obtain⟨o,q,d⟩:=T.obj _ _ st7 b hb;exact(I8.pin (b,o) (mB _ (mB _ (zBF hb q)))).2.1
   refine thn (hg cl s3 H3 C fp _ s7 _ H7 x u _ I7' r7 (step x H7 y7)) λ _ s8 ⟨σ8,H8,I8,ex8,q8⟩=>?_;refine thn (ht cl s3 H3 C fp _ s8 σ8 H8 _ I8 q8) λ b s9 ⟨H9,I9,q9⟩=>?_;cases b with
   |false=>exact again I9 ex8 q9
   |true =>
    rw[if_pos rfl] at q9 ⊢;refine thn (he cl s3 H3 C fp _ s9 σ8 H9 _ I9 q9) λ yv s10 ⟨y,H10,I10,r10,zs,e10,l10,q10⟩=>?_;refine thn (zC3 (X:=X.block sc cl N s3 H3 C fp) _ s10 σ8 H10 (.ref s2.heap.objs.size) [y] (.ref s2.heap.objs.size) [yv] (λ Ω H'=>N' H') I10 rfl (.cons r10 .nil) ⟨_,zs,y,rfl,rfl,e10,l10,q10⟩) λ _ s11 ⟨_,H11,I11,_,q11⟩=>?_;exact again I11 ex8 q11
 exact codeAny_compStart_list loop (T.self X.A 0 _ _ _ st4 loop)
end
theorem zKq {K:W.Frag}{a acc:Addr}{xs:List V}{g:TG}{tt:TT}{te:TE}{σ:St}{H:Hp}{Q:VK}(Pv:Nat->Hp->Prop) (h0:Pv 0 (upd H acc (.lst []))) (hl:∀i H,i<=xs.length->Pv i H->SqT K H a xs)
  (hs:∀i x H,xs[i]?=some x->Pv i H->g x σ H λ σ2 H4=>Ext σ σ2/\tt σ2 H4 λ b H5 =>
   if b=true then te σ2 H5 λ y H6=>∃zs,H6 acc=some (.lst zs)/\zs.length<sizeLine/\Pv (i+1) (upd H6 acc (.lst (zs++[y]))) else Pv (i+1) H5) (hd:∀H,Pv xs.length H->Q (.ref acc) H) :
  ∃W:Nat->Nat->Hp->Prop,(∃m,W 0 m (upd H acc (.lst [])))/\∀i m H2,W i m H2 ->
   ((Itt K a).stop i H2/\Q (.ref acc) H2)\/((Itt K a).go i H2/\∃N:Hp->Prop,(∀H',N H'->∃m',m'<m/\W (i+1) m' H')/\∀x H3,(Itt K a).yld i H2 x H3->g x σ H3 λ σ2 H4=>Ext σ σ2/\tt σ2 H4 λ b H5 =>
    if b=true then te σ2 H5 λ y H6=>∃zs,H6 acc=some (.lst zs)/\zs.length<sizeLine/\N (upd H6 acc (.lst (zs++[y])))
    else N H5):=by
 refine⟨λ i m H=>m=xs.length - i/\i<=xs.length/\Pv i H,⟨xs.length,by simp,lY _,h0⟩,?_⟩;rintro i m H2 ⟨rfl,hi,p⟩;have q:=hl i H2 hi p
 by_cases hlt:i<xs.length
 ·refine .inr ⟨⟨xs,xs[i],q,by simp[hlt]⟩,Pv (i+1),λ H' p'=>⟨xs.length - (i+1),by omega,rfl,hlt,p'⟩,λ x H' y=>?_⟩
  obtain⟨e,y⟩:=y;subst e;exact hs i x _ (y xs q) p
 ·have e:i=xs.length:=by omega
  subst e;exact .inl ⟨⟨xs,q,lQ _⟩,hd H2 p⟩
theorem zH5 {lo:Int}{n:Nat}{acc:Addr}{g:TG}{tt:TT}{te:TE}{σ:St}{H:Hp}{Q:VK}(Pv:Nat->Hp->Prop) (h0:Pv 0 (upd H acc (.lst [])))
  (hs:∀i H,i<n->Pv i H->g (.int (lo+i)) σ H λ σ2 H4=>Ext σ σ2/\tt σ2 H4 λ b H5 =>
   if b=true then te σ2 H5 λ y H6=>∃zs,H6 acc=some (.lst zs)/\zs.length<sizeLine/\Pv (i+1) (upd H6 acc (.lst (zs++[y]))) else Pv (i+1) H5) (hd:∀H,Pv n H->Q (.ref acc) H) :
  ∃W:Nat->Nat->Hp->Prop,(∃m,W 0 m (upd H acc (.lst [])))/\∀i m H2,W i m H2 ->
   ((Itr lo n).stop i H2/\Q (.ref acc) H2)\/((Itr lo n).go i H2/\∃N:Hp->Prop,(∀H',N H'->∃m',m'<m/\W (i+1) m' H')/\∀x H3,(Itr lo n).yld i H2 x H3->g x σ H3 λ σ2 H4=>Ext σ σ2/\tt σ2 H4 λ b H5 =>
    if b=true then te σ2 H5 λ y H6=>∃zs,H6 acc=some (.lst zs)/\zs.length<sizeLine/\N (upd H6 acc (.lst (zs++[y])))
    else N H5):=by
 refine⟨λ i m H=>m=n - i/\i<=n/\Pv i H,⟨n,by simp,lY _,h0⟩,?_⟩;rintro i m H2 ⟨rfl,hi,p⟩
 by_cases hlt:i<n
 ·refine .inr ⟨hlt,Pv (i+1),λ H' p'=>⟨n - (i+1),by omega,rfl,hlt,p'⟩,λ x H' y=>?_⟩
  obtain⟨e,y⟩:=y;subst e y;exact hs i _ hlt p
 ·have e:i=n:=by omega
  subst e;exact .inl ⟨lQ _,hd H2 p⟩
noncomputable def zHV (sc:Scope) (env:Env) (XN N:List Str) (cap:List (Option Nat)):Bool :=
 (sc.kind == .function) && (sc.names.all λ y=>y.2 != .cell) && (sc.names.all λ y=>y.2 != .local || sc.names.lookup y.1 == some .local) &&
 (sc.names.all λ y=>y.2 != .free || env.kindOf y.1 == some .cell) &&
 ((List.range cap.length).all λ i=>match cap[i]? with
  |some (some j)=>(match N[i]? with|some x=>XN[j]? == some x && sc.names.lookup x == some .free|none=>false)
  |_=>true) && (cap.length == N.length)
theorem zAq {X:Cx}{elt tg iter:Expr}{ifs:List Expr}{sc:Scope}{pos:Pos}{wi:TI}{g:TG}{tt:TT}{te:TE}(N:List Str) (cap:List (Option Nat)) (hc:X.calm=true) (hi:PI X tg iter wi)
  (hg:∀cl s H C ex,PG (X.block sc cl N s H C ex) tg g) (ht:∀cl s H C ex,PTs (X.block sc cl N s H C ex) ifs tt) (he:∀cl s H C ex,PE (X.block sc cl N s H C ex) elt te)
  (ck:zHV sc X.env X.N N cap=true) (hs:∀x,foldedSetIterable iter X.env x=pure x:=by intro _;rfl):PE X (.ListComp elt [⟨tg,iter,ifs,0⟩] sc pos) (tComp cap wi g tt te):=by
 unfold zHV at ck;simp only[Bool.and_eq_true] at ck;obtain⟨⟨⟨⟨⟨k1,k2⟩,k3⟩,k4⟩,k5⟩,k6⟩:=ck;refine zLu N cap hc hi hg ht he (by simpa using k1) (λ y hy=>?_) (λ y hy z=>?_) (λ n hn=>?_) (λ i j e=>?_) (by simpa using k6) hs
 ·have:=List.all_eq_true.mp k2 y hy
  simpa using this
 ·have:=List.all_eq_true.mp k3 y hy
  rw[z] at this;simpa using this
 ·have:=List.all_eq_true.mp k4 _ hn
  simpa using this
 ·have hi:i<cap.length:=(lJ.mp e).1
  have:=List.all_eq_true.mp k5 i (List.mem_range.mpr hi);rw[e] at this;dsimp only at this;cases q:N[i]? with
  |none=>rw[q] at this;cases this
  |some x =>
   rw[q] at this;dsimp only at this;rw[Bool.and_eq_true] at this;exact⟨x,rfl,by simpa using this.1,by simpa using this.2⟩
section
variable {prog:Program}{w:World}{A:Around}{E:XQ}{s:Shared}
theorem zFL {it t:Addr}{i:Nat}{items:Array Value}{x:Value}{Q:XQ}(hit:s.heap.IsTupleIter it t i) (ht:s.heap.IsTuple t items) (hx:items[i]?=some x)
  (hQ:∀h',h'.IsTupleIter it t (i+1)->Heap.SameBut it s.heap h'->Q x { s with heap:=h' }):wpAny (model prog w) A (Builtin.SmallTypes.nextOf (.ref it)) Q E s:=by
 obtain⟨o,ho,hc,hd⟩:=id hit;obtain⟨ol,hol,_,nl,hdl⟩:=ht;unfold Builtin.SmallTypes.nextOf;refine lA (wpAny_callSpecial?_slot (name:=Str.ofString "__next__") hit.typeIs F.slot_tuple_iterator_next (wpAny_call_entry F.slot_tuple_iterator_next hit.typeIs F.entry_tuple_iterator_next ?_ (F.args_tuple_iterator_next_1 _)));show wpAny _ _ (field (.ref it) 0 >>= _) _ _ s;refine lA (wpAny_field ho hd (x:=.ref t) rfl ?_);show wpAny _ _ (if (Value.ref t == Value.none)=true then _ else _) _ _ s;rw[if_neg (show ¬((Value.ref t == Value.none)=true) from Bool.false_ne_true)];show wpAny _ _ (field (.ref it) 1 >>= _) _ _ s;refine lA (wpAny_field ho hd (x:=.int i 0) rfl ?_);show wpAny _ _ (seqItems? (.ref t) >>= _) _ _ s;refine lA (wpAny_seqItems hol hdl ?_);simp only[Int.toNat_natCast,hx];refine lA (wpAny_setField ho hd (by simp) (lB ⟨x,rfl,lB (hQ _ ?_ (Heap.SameBut.update ..))⟩));exact⟨_,mI _ ho (Obj.isFreed_of_fields (Obj.data_mapFields hd _)),(Obj.cls_mapFields ..).trans hc,by rw[Obj.data_mapFields hd];simp[rawInt]⟩
theorem zDY {it t:Addr}{i:Nat}{items:Array Value}{Q:XQ}(hh:A.handled=none) (hit:s.heap.IsTupleIter it t i) (ht:s.heap.IsTuple t items) (hx:items[i]?=none)
  (hE:∀h' e,Heap.ExtBut it s.heap h'->(∃o,h'.get? e=some o/\o.cls = .type "StopIteration")->E (.ref e) { s with heap:=h' }):wpAny (model prog w) A (Builtin.SmallTypes.nextOf (.ref it)) Q E s:=by
 obtain⟨o,ho,hc,hd⟩:=id hit;obtain⟨ol,hol,_,nl,hdl⟩:=ht;unfold Builtin.SmallTypes.nextOf;refine lA (wpAny_callSpecial?_slot (name:=Str.ofString "__next__") hit.typeIs F.slot_tuple_iterator_next (wpAny_call_entry F.slot_tuple_iterator_next hit.typeIs F.entry_tuple_iterator_next ?_ (F.args_tuple_iterator_next_1 _)));show wpAny _ _ (field (.ref it) 0 >>= _) _ _ s;refine lA (wpAny_field ho hd (x:=.ref t) rfl ?_);show wpAny _ _ (if (Value.ref t == Value.none)=true then _ else _) _ _ s;rw[if_neg (show ¬((Value.ref t == Value.none)=true) from Bool.false_ne_true)];show wpAny _ _ (field (.ref it) 1 >>= _) _ _ s;refine lA (wpAny_field ho hd (x:=.int i 0) rfl ?_);show wpAny _ _ (seqItems? (.ref t) >>= _) _ _ s;refine lA (wpAny_seqItems hol hdl ?_);simp only[Int.toNat_natCast,hx];refine lA (wpAny_rule (lA (wpAny_setField ho hd (by simp) ?_)));show wpAny _ _ (newExc (.type "StopIteration") [] >>= _) _ _ _;refine lA ?_;simp only[newExc,newTuple];refine lA (wpAny_newObj_type ?_ (by size_fits));refine lA (m:=firstArgMember _ _) (wpAny_of_eq (a:=Value.none) (by first|rfl|(simp only[firstArgMember];rfl)) ?_);refine wpAny_newObj_type ?_ (by size_fits);simp only[raiseNew];refine lA (wpAny_handled ?_);first|rw[show A.in1.handled=none from hh]|rw[hh]
 refine lA (lB (wpAny_throw ?_));exact hE _ _ (((Heap.SameBut.update ..).extBut.push _).push _) ⟨_,lH _ rfl,rfl⟩
theorem zGn {prog:Program}{w:World}{A:Around}(hh:A.handled=none) (it t:Addr) (hne:t≠it) (items:Array Value) :
  Draws prog w A it [it,t] items.size (λ i v=>items[i]?=some v) (λ i h=>h.IsTupleIter it t i/\h.IsTuple t items) where
 live:=λ Ω Ω st=>let ⟨o,ho,_⟩:=st.1;⟨o,ho⟩
 frame:=λ Ω Ω Ω st hk=>⟨let ⟨o,ho,r⟩:=st.1;⟨o,hk it (by simp) o ho,r⟩,let ⟨o,ho,r⟩:=st.2;⟨o,hk t (by simp) o ho,r⟩⟩
 item:=λ i s Q E hi st hQ=>zFL st.1 st.2 (x:=items[i]) (by simp[hi]) λ h' hit' hs'=>hQ _ h' s.toks (by simp[hi]) ⟨hit',let ⟨o,ho,r⟩:=st.2;⟨o,hs'.extBut t o hne ho,r⟩⟩ hs'
 done:=λ s Q E st hE=>zDY hh st.1 st.2 (by simp) hE
set_option tactic.hygienic true in
theorem zEc (l:Addr) (items:Array Value) (n:Nat) (dct:Option Addr) (sl:Array (Option Value)) :
  Meets (Builtin.«enumerate.__new__» ⟨[.type "enumerate", .ref l],[]⟩) (λ Ω R s=>s.heap.get? l=some { cls:=.type "tuple", dict:=dct,data:=.seq items n,slots:=sl } /\
   R (.ok (.ret (.ref (s.heap.push { cls:=.type "tuple_iterator", data:=.fields #[.ref l,.int 0 0] }).objs.size)))
    { s with heap:=(s.heap.push { cls:=.type "tuple_iterator", data:=.fields #[.ref l,.int 0 0] }).push { cls:=.type "enumerate", data:=.fields #[.none,.bool false,.ref s.heap.objs.size,rawInt 0,.none,.none] } }) :=
 .of_wp λ prog w A R s h=>by
  obtain⟨hp,g,d,tk,os⟩:=s;obtain⟨hl,h⟩:=h;have hsub:=sub_enumerate;have hL:Heap.IsTuple (Shared.heap ⟨hp,g,d,tk,os⟩) l items:=⟨_,hl,rfl,n,rfl⟩
  wp_walk using AutoSeq1.wpAny_loadPart' hl
  refine wpAny_stack_any λ st=>lB ?_;split
  ·rename_i c _ _ _ _ _;cases (c == Value.type "enumerate")
   ·wp_walk using AutoSeq1.wpAny_loadPart' hl,wpAny_pyIter_tuple hL;exact⟨_,rfl,h⟩
   ·wp_walk using AutoSeq1.wpAny_loadPart' hl,wpAny_pyIter_tuple hL;exact⟨_,rfl,h⟩
  ·wp_walk using AutoSeq1.wpAny_loadPart' hl,wpAny_pyIter_tuple hL;exact⟨_,rfl,h⟩
theorem zFe {l:Addr}{items:Array Value}{Q:XQ}(hL:s.heap.IsTuple l items)
  (h:∀h',IsEnum h' (s.heap.objs.size+1) s.heap.objs.size 0 .none->h'.IsTupleIter s.heap.objs.size l 0->h'.objs.size=s.heap.objs.size+2 ->
   (∀b o,s.heap.get? b=some o->h'.get? b=some o)->Q (.ref (s.heap.objs.size+1)) { s with heap:=h' }):wpAny (model prog w) A (call (.type "enumerate") [.ref l]) Q E s:=by
 obtain⟨⟨c,dct,dt,sl⟩,hl,hc,n,hd⟩:=hL;replace hc:c = .type "tuple" := hc;replace hd:dt = .seq items n:=hd;subst hc hd;refine callType_new F.called_enumerate (by decide) (F.typeCall_enumerate_1 _) (F.newCall_enumerate_1 _) (λ obj=>F.args_object_init_2 obj _) F.entry_enumerate_new (zEc l items n dct sl) ⟨hl,?_⟩;have hz:(s.heap.push { cls:=.type "tuple_iterator", data:=.fields #[.ref l,.int 0 0] }).objs.size=s.heap.objs.size+1:=Heap.size_push ..;show _/\_;rw[hz]
 have he:IsEnum ((s.heap.push { cls:=.type "tuple_iterator", data:=.fields #[.ref l,.int 0 0] }).push { cls:=.type "enumerate", data:=.fields #[.none,.bool false,.ref s.heap.objs.size,rawInt 0,.none,.none] }) (s.heap.objs.size+1) s.heap.objs.size 0 .none:=by
  have:=lH (s.heap.push { cls:=.type "tuple_iterator", data:=.fields #[.ref l,.int 0 0] }) (o:={ cls:=.type "enumerate", data:=.fields #[.none,.bool false,.ref s.heap.objs.size,rawInt 0,.none,.none] }) rfl;rw[hz] at this;exact this
 exact⟨⟨_,he,rfl⟩,h _ he ⟨_,lG _ (lH _ rfl),rfl,rfl⟩ (by rw[Heap.size_push,hz]) λ b o x=>lG _ (lG _ x)⟩
end
section
variable {X:Cx}{jP:List (Addr × Obj)}{σ:St}{H:Hp}{s:Shared}{h':Heap}
theorem Inv.turnedN {t':Nat}{ch:List Addr}(I:Inv X jP σ H s) (k:∀b o,b∉ch->s.heap.get? b=some o->h'.get? b=some o) (hf:∀b∈ch,FpOk X jP H b):Inv X jP σ H { s with heap:=h',toks:=t' }:=by
 refine I.step (g':=s.gens) (d':=s.drawn) (ch:=ch) (λ b hb=>?_) (λ b o Ω Ω hc e Ω=>k b o hc e) (λ b o Ω Ω hc e Ω=>⟨o.slots,k b o hc e⟩) (λ Ω Ω Ω Ω n=>n)
  (λ b o hc e=>⟨o,k b o hc e⟩) (λ Ω Ω e=>e) (λ Ω Ω Ω e=>e) (λ b ps e=>⟨#[],by rw[e];simp⟩) (λ m hm=>?_) (λ b u e=>?_) I.bare
 ·obtain⟨f0,f1,f2,f3,f4,f5⟩:=hf b hb
  exact⟨f3,f1,f4,f5⟩
 ·obtain⟨o,es,ep,ho,r⟩:=hm
  exact⟨o,es,ep,k _ o (λ z=>(hf _ z).2.1 rfl) ho,r⟩
 ·refine(I.hok b u e).stay (λ c v hc q=>k c v (λ z=>?_) q) (λ Ω q=>q) λ Ω Ω q=>q
  have n:=(hf c z).1;rcases hc with y|y
  ·rw[y,e] at n;cases n
  ·rw[y] at n;cases n
theorem Inv.turnedL {t':Nat}{ch:List Addr}{a:Addr}{o:HO}(I:Inv X jP σ H s) (k:∀b o,b∉ch->s.heap.get? b=some o->h'.get? b=some o) (hf:∀b∈ch,FpOk X jP H b) (hp:s.heap.objs.size<=a)
  (new:ObjOk X.prog X.w (upd H a o) h' a o):Inv X jP σ (upd H a o) { s with heap:=h',toks:=t' }:=by
 have hn:H a=none:=I.hok.fresh hp;have ne:∀b u,s.heap.get? b=some u->b≠a:=λ b u e=>lS (lZ (lI e) hp)
 refine I.step (g':=s.gens) (d':=s.drawn) (ch:=ch) (λ b hb=>?_) (λ b o Ω Ω hc e Ω=>k b o hc e) (λ b o Ω Ω hc e Ω=>⟨o.slots,k b o hc e⟩) (λ b u Ω e n=>by rw[zAK (ne b u e)];exact n)
  (λ b o hc e=>⟨o,k b o hc e⟩) (λ b xs q=>by rw[zAK (zAL q hn)];exact q) (λ b u xs q=>by rw[zAK (zAL q hn)];exact q) (λ b ps q=>⟨#[],by rw[zAK (zAL q hn),q];simp⟩) (λ m hm=>?_) (λ b u e=>?_) I.bare
 ·obtain⟨f0,f1,f2,f3,f4,f5⟩:=hf b hb
  exact⟨f3,f1,f4,f5⟩
 ·obtain⟨o,es,ep,ho,r⟩:=hm
  exact⟨o,es,ep,k _ o (λ z=>(hf _ z).2.1 rfl) ho,r⟩
 ·by_cases hb:b=a
  ·subst hb
   rw[zAA] at e;cases e;exact new
  ·rw[zAK hb] at e
   refine(I.hok b u e).stay (λ c v hc q=>k c v (λ z=>?_) q) (λ c q=>by rw[zAK (zAL q hn)];exact q) λ c xs q=>by rw[zAK (zAL q hn)];exact q
   have n:=(hf c z).1;rcases hc with y|y
   ·rw[y,e] at n;cases n
   ·rw[y] at n;cases n
end
noncomputable def Ite (K:W.Frag) (a:Addr):It :=
 ⟨λ i H=>∃xs x,SqT K H a xs/\xs[i]?=some x,λ i H x H'=>∃T y,H T=none/\x = .ref T/\H'=upd H T (.tup [.int i,y])/\∀xs,SqT K H a xs->xs[i]?=some y,λ i H=>∃xs,SqT K H a xs/\xs.length<=i⟩
theorem zID {P:Program}{w:World}{K:W.Frag}{es:List Expr}{k:Nat}{pos:Pos}(a e it:Addr) (hei:e≠it) :
  Turn P w K (.Tuple es k pos) (Ite K a) [e,it] e (λ i h=>(∃old,IsEnum h e it i old)/\h.IsTupleIter it a i) where
 mem:=by simp
 obj:=λ i h st b hb=>by
  obtain⟨⟨old,z⟩,o,e',c,d⟩:=st;rcases lN.mp hb with y|y
  ·subst y;exact⟨_,z,λ v q=>by have q':Data.fields _=Data.cell v:=q;cases q'⟩
  ·cases mR.mp y
   exact⟨o,e',λ v q=>by rw[d] at q;cases q⟩
 keep:=λ i h h' st k=>by
  obtain⟨⟨old,z⟩,o,e',r⟩:=st;exact⟨⟨old,k e (by simp) _ z⟩,o,k it (by simp) o e',r⟩
 item:=by
  intro X hP hw hK hc i jP s σ H E I hf st hg;subst hP hw hK;obtain⟨xs,x,hq,hx⟩:=hg;obtain⟨its,rv,p,hz⟩:=I.tuple hq;obtain⟨u,hu,ru⟩:=rv.get hx;obtain⟨⟨old,he⟩,hit⟩:=st;have p':s.heap.IsTuple a its.toArray:=p
  have hai:a≠it:=λ z=>by
   obtain⟨o1,q1,c1,_⟩:=p';obtain⟨o2,q2,c2,_⟩:=hit;rw[z,q2] at q1;cases q1;rw[c2] at c1;injection c1 with c3;exact absurd c3 (by decide)
  have hae:a≠e:=λ z=>by
   obtain⟨o1,q1,c1,_⟩:=p';rw[z] at q1;have he':s.heap.get? e=some _:=he;rw[he'] at q1;cases q1;injection c1 with c3;exact absurd c3 (by decide)
  have hilt:i<its.toArray.size:=by
   have:=(lJ.mp hu).1;simpa using this
  refine wpAny_pyNext_enum_itemD (zGn (A:=X.A.in1) (I.ok.hd hc) it a hai its.toArray) he ⟨hit,p'⟩ hilt hei (by simp[hei,Ne.symm hae]) λ y h1 tk hy ho hst hT hsz hk=>?_
  have hyu:y=u:=by
   have:(its.toArray)[i]?=some u:=by simpa using hu
   rw[hy] at this;exact mE this
  subst hyu;refine⟨_,rfl,?_⟩;have hn:H s.heap.objs.size=none:=I.fresh
  have I1:Inv X jP σ (upd H s.heap.objs.size (.tup [.int i,x])) { s with heap:=h1,toks:=tk+1 }:=I.turnedL (ch:=[e,it]) (λ b o hb q=>hk b o (λ z=>hb (by simp[z])) (λ z=>hb (by simp[z])) q) hf (lQ _)
   ⟨Nat.le_of_lt (zAN (show 2<=1000 by decide)),[.int i tk,y],.cons ⟨_,rfl⟩ (.cons ru .nil),_,hT,rfl,_,rfl⟩
  have neT:∀b∈[e,it],b≠s.heap.objs.size:=λ b hb=>by
   rcases lN.mp hb with z|z
   ·subst z;exact lS (lI (show s.heap.get? b=some _ from he))
   ·cases mR.mp z
    obtain⟨o2,q2,_⟩:=hit;exact lS (lI q2)
  refine wpAny_letOwnedTupleGo_enum (s:={ s with heap:=h1,toks:=tk+1 }) ho λ h2 he2 hs2=>⟨.ref s.heap.objs.size,_,?_,rfl,⟨_,x,hn,rfl,rfl,λ ys hy'=>by rw[I.tuple_inj hy' hq];exact hx⟩,⟨⟨_,he2⟩,?_⟩,λ b hb=>?_⟩
  ·refine I1.turnedN (t':=tk+1) (ch:=[e]) (λ b o hb q=>(hs2.2 b (λ z=>hb (by simp[z]))).trans q) λ b hb=>?_
   have eb:=mR.mp hb;subst eb;obtain⟨f0,f⟩:=hf b (by simp);exact⟨by rw[zAK (neT b (by simp))];exact f0,f⟩
  ·obtain⟨o2,q2,r2⟩:=hst.1
   exact⟨o2,(hs2.2 it hei.symm).trans q2,r2⟩
  ·rw[zAK (neT b hb)];exact(hf b hb).1
 done:=by
  intro X hP hw hK hc i jP s σ H E I hf st hg;subst hP hw hK;obtain⟨xs,hq,hx⟩:=hg;obtain⟨its,rv,p,hz⟩:=I.tuple hq;obtain⟨⟨old,he⟩,hit⟩:=st;have p':s.heap.IsTuple a its.toArray:=p
  have hai:a≠it:=λ z=>by
   obtain⟨o1,q1,c1,_⟩:=p';obtain⟨o2,q2,c2,_⟩:=hit;rw[z,q2] at q1;cases q1;rw[c2] at c1;injection c1 with c3;exact absurd c3 (by decide)
  have hl:=rv.length;have hT:s.TypeIs (.ref e) "enumerate" := ⟨_,he,rfl⟩;unfold pyNext;refine lA (wpAny_attempt (wpAny_callSpecial?_slot (name:=Str.ofString "__next__") hT F.slot_enumerate_next (wpAny_call_entry F.slot_enumerate_next hT F.entry_enumerate_next ?_ (F.args_enumerate_next_1 _))));show wpAny _ _ (field (.ref e) 2 >>= _) _ _ _;refine lA (wpAny_field he rfl (x:=.ref it) rfl ?_);refine lA (zDY (I.ok.hd hc) hit p' (by simp;omega) λ h1 x hx1 ⟨o,ho,hc'⟩=>?_);refine lA (wpAny_isInstance (T := "StopIteration") (b:=true) ⟨o,ho,hc'⟩ isSubtype_stop ?_);exact lB ⟨rfl,I.turnedN (t':=s.toks) (ch:=[it]) (λ b o hb q=>hx1 b o (λ z=>hb (by simp[z])) q) λ b hb=>hf b (by simp at hb ⊢;exact .inr hb)⟩
 self:=λ Ω Ω Ω Ω Ω st h=>let ⟨⟨_,he⟩,_⟩:=st;wpAny_pyIter_enum he h
def iEnum (K:W.Frag) (ta:TA):TI:=λ σ H R=>ta σ H λ vs H1=>∃a,vs=[.ref a]/\(∃xs,SqT K H1 a xs)/\R (Ite K a) H1
theorem zIe {X:Cx}{es:List Expr}{k:Nat}{tpos:Pos}{a:Expr}{ta:TA}{p pos:Pos}(hg:Gl X "enumerate") (hm:X.mg "enumerate" = none) (ha:PA X [a] ta) (hs:starEach [a] X.env=[(false,eval a X.env)]:=by rfl) :
  PI X (.Tuple es k tpos) (.Call (.Name "enumerate" p) [a] [] pos) (iEnum X.K ta):=by
 intro jP s σ H R I h;refine Call_ (zCR I hg hm boot_enumerate (PyProof.Rows.callWith_type1 (thn (ha pos jP s σ H _ I h) λ us s1 ⟨vs,H1,I1,r1,q1⟩=>?_) hs rfl));obtain⟨b,e,⟨xs,hq⟩,q⟩:=q1;subst e;obtain⟨u,rfl,ru⟩:=vals1 r1;cases ru;obtain⟨its,rv,tp,hz⟩:=I1.tuple hq;refine zFe (show s1.heap.IsTuple b its.toArray from tp) λ h' he hit hsz hk=>?_;refine wpAny_pyIter_enum he ⟨_,[s1.heap.objs.size+1,s1.heap.objs.size],_,_,H1,rfl,I1.kept (t':=s1.toks) hk,zID b _ _ (Nat.succ_ne_self _),⟨⟨_,he⟩,hit⟩,λ c hc=>?_,q⟩
 have ge:s1.heap.objs.size<=c:=by
  rcases lN.mp hc with z|z
  ·rw[z];exact nI _
  ·rw[mR.mp z];exact lQ _
 exact I1.fpOk ge (I1.hok.fresh ge)
theorem zHT {K:W.Frag}{a:Addr}{xs:List V}{g:TG}{tb:TS}{D:Ends}{σ:St}{H:Hp}(Pv:Nat->St->Hp->Prop) (h0:Pv 0 σ H) (hl:∀i σ H,i<=xs.length->Pv i σ H->SqT K H a xs)
  (hs:∀i x T σ H,xs[i]?=some x->Pv i σ H->H T=none->g (.ref T) σ (upd H T (.tup [.int i,x])) λ σ2 H2=>tb { D with nx:=Pv (i+1),ct:=Pv (i+1),bk:=D.nx } σ2 H2) (hd:∀σ H,Pv xs.length σ H->D.nx σ H) :
  ∃W:Nat->Nat->St->Hp->Prop,(∃m,W 0 m σ H)/\∀i m σ H,W i m σ H ->
   ((Ite K a).stop i H/\D.nx σ H)\/((Ite K a).go i H/\∃N:St->Hp->Prop,(∀σ' H',N σ' H'->∃m',m'<m/\W (i+1) m' σ' H')/\∀x H',(Ite K a).yld i H x H'->g x σ H' λ σ2 H2=>tb { D with nx:=N,ct:=N,bk:=D.nx } σ2 H2):=by
 refine⟨λ i m σ H=>m=xs.length - i/\i<=xs.length/\Pv i σ H,⟨xs.length,by simp,lY _,h0⟩,?_⟩;rintro i m σ H ⟨rfl,hi,p⟩;have q:=hl i σ H hi p
 by_cases hlt:i<xs.length
 ·refine .inr ⟨⟨xs,xs[i],q,by simp[hlt]⟩,Pv (i+1),λ σ' H' p'=>⟨xs.length - (i+1),by omega,rfl,hlt,p'⟩,λ x H' y=>?_⟩
  obtain⟨T,z,hT,ex,eH,y⟩:=y;subst ex eH;exact hs i z T σ H (y xs q) p hT
 ·have e:i=xs.length:=by omega
  subst e;exact .inl ⟨⟨xs,q,lQ _⟩,hd σ H p⟩
section
variable {X:Cx}
theorem zAC {H:Hp}{p:Addr}{o:HO}(h:H p=none):Same H (upd H p o):=λ b u q=>by rw[zAK (zAL q h)];exact q
def rIsi (K:W.Frag):List V->Hp->VK->Prop:=λ xs H Q=>∃x T t b,xs=[x,.ty T]/\TyOf K H x t/\W.kitOne K t (.type T)=some b/\Q (.bl b) H
theorem zHY:CallR X (.builtin "isinstance") (rIsi X.K):=by
 intro jP s σ H xs us Q I r h;obtain⟨x,T,t,b,rfl,ty,e,q⟩:=h;obtain⟨u,w',rfl,ru,rw'⟩:=vals2 r;cases rw';exact zJC I ru ty e λ tk=>⟨.bl b,H,I.tok tk,rfl,q⟩
theorem cI {X:Cx}{e:Expr}{te:TE}{T:Str}{u:String}{p p2 pos:Pos}(hm:X.mg "isinstance"=none)(hT:X.mg T=none)(hv:bootBuiltins T=some (.type u))(ha:PE X e te)(hg:Gl X "isinstance":=by rfl)(hG:Gl X T:=by rfl)(h1:starEach [e,.Name T p2] X.env=(false,eval e X.env)::starEach [.Name T p2] X.env:=by rfl)(h2:starEach [.Name T p2] X.env=(false,eval (.Name T p2) X.env)::starEach [] X.env:=by rfl)(h3:(backTo pos (starEach [.Name T p2] X.env)).any (·.1)=false:=by rfl)(hn:T≠"__name__":=by decide)(hd:(T==("__debug__":Str))=false:=by decide):PE X (.Call (.Name "isinstance" p) [e,.Name T p2] [] pos) (tCB (rIsi X.K) (tCons te (tCons (tC (.ty u)) tNil))):=zAd zHY hg hm rP (zAB ha (zAB (zGd hG hT hv rfl hn hd) zAD h2) h1) (by decide) (by decide) h1 h3
def rSlS:V->Option Int->Option Int->Hp->VK->Prop:=λ x lo hi H Q=>∃z,x = .str z/\z.length<=sizeLine/\((Txt.slice z lo hi).length<=z.length->Q (.str (Txt.slice z lo hi)) H)
theorem zIl {v:Value}{o:Option Int}(p:IsPart v o):∃q:Option (Int × Tok),q.map (·.1)=o/\v=(match q with|none=>Value.none|some (i,t)=>.int i t):=by
 cases p with
 |none=>exact⟨none,rfl,rfl⟩
 |int i t=>exact⟨some (i,t),rfl,rfl⟩
theorem zMn:SlR X rSlS:=by
 intro jP s σ H x v vl vu lo hi sl Q I rx hs pl pu h;obtain⟨z,rfl,hz,q⟩:=h;obtain⟨t,rfl⟩:=rx;obtain⟨l,hl,el⟩:=zIl pl;obtain⟨u,hu,eu⟩:=zIl pu;subst hl hu;refine⟨"str", _,F.slot_str_getitem.lookup,typeIs_str _ _ _,wpAny_getItem_str_slice (l:=l) (u:=u) (st:=none) ?_ rfl (post_val_or_str ⟨mG (Txt.slice_le z _ _) hz,λ t' k=>⟨.str (Txt.slice z _ _),H,I.kept (λ Ω Ω e=>e),⟨t',rfl⟩,q (Txt.slice_le z _ _)⟩⟩)⟩;obtain⟨o,ho,hc,hd⟩:=hs;refine⟨o,ho,hc,?_⟩;rw[hd,el,eu];cases l<;>cases u<;>rfl
theorem zJQ {A:Around}{s:Shared}{xs ys:List V}{us ws:List Value}(rx:Vals xs us) (ry:Vals ys ws) (fx:xs.all flatV=true) (fy:ys.all flatV=true) :
  ∃e:Nat->Bool,(∀j (h1:j<us.toArray.size) (h2:j<ws.toArray.size),SeqAt.EqAt A s us.toArray[j] ws.toArray[j] (e j))/\∀j (x y:V),xs[j]?=some x->ys[j]?=some y->e j=eqV x y:=by
 refine⟨λ j=>match xs[j]?,ys[j]? with|some x,some y=>eqV x y|_,_=>false,λ j h1 h2=>?_,λ j x y e1 e2=>by simp only[e1,e2]⟩;have l1:=rx.length;have l2:=ry.length;have g1:j<xs.length:=by rw[l1];simpa using h1
 have g2:j<ys.length:=by rw[l2];simpa using h2
 obtain⟨u,eu,ru⟩:=rx.get (lW g1);obtain⟨v,ev,rv⟩:=ry.get (lW g2)
 have e1:us.toArray[j]=u:=by
  have:=lJ.mp eu;obtain⟨_,z⟩:=this;simpa using z
 have e2:ws.toArray[j]=v:=by
  have:=lJ.mp ev;obtain⟨_,z⟩:=this;simpa using z
 simp only[nQ g1,nQ g2,e1,e2];exact zLL ru rv (List.all_eq_true.mp fx _ (List.getElem_mem g1)) (List.all_eq_true.mp fy _ (List.getElem_mem g2))
theorem zFb (a b:Str):eqV (.str a) (.str b)=true↔a=b:=by
 constructor
 ·intro h;simpa[eqV] using h
 ·intro h;subst h;simp[eqV]
theorem zHc {xs ys:List Str}(hl:xs.length=ys.length) {e:Nat->Bool}(he:∀j (x y:V),(xs.map V.str)[j]?=some x->(ys.map V.str)[j]?=some y->e j=eqV x y):(List.range xs.length).all e=decide (xs=ys):=by
 rw[Bool.eq_iff_iff,List.all_eq_true,decide_eq_true_iff];have at_:∀j (h1:j<xs.length) (h2:j<ys.length),e j=eqV (.str xs[j]) (.str ys[j]):=λ j h1 h2=>he j _ _ (by simp[h1]) (by simp[h2]);constructor
 ·intro h
  refine List.ext_getElem hl λ j h1 h2=>?_;have:=h j (List.mem_range.mpr h1);rw[at_ j h1 h2,zFb] at this;exact this
 ·intro h j hj
  subst h;have h1:=List.mem_range.mp hj;rw[at_ j h1 h1,zFb]
def rEqS (neg:Bool):R2:=λ x y H Q=>∃(p r:Addr) (xs ys:List Str),x = .ref p/\y = .ref r/\H p=some (.lst (xs.map V.str))/\H r=some (.lst (ys.map V.str))/\Q (.bl (if neg then !decide (xs=ys) else decide (xs=ys))) H
theorem zCS (xs:List Str):(xs.map V.str).all flatV=true:=by
 rw[List.all_eq_true];intro x hx;obtain⟨y,_,rfl⟩:=mC.mp hx;rfl
theorem zIo (hu:X.A.units<cLine):OpR X (compareOp .Eq) (rEqS false):=by
 intro jP s σ H x y v u Q I rx ry h;obtain⟨p,r,xs,ys,rfl,rfl,hp,hr,q⟩:=h;cases rx;cases ry;obtain⟨_,its,n,r1,l1,e1⟩:=I.lstM hp;obtain⟨_,its2,n2,r2,l2,e2⟩:=I.lstM hr;have L1:s.heap.IsList p its.toArray:=⟨_,e1,rfl,_,rfl⟩;have L2:s.heap.IsList r its2.toArray:=⟨_,e2,rfl,_,rfl⟩;rw[mD] at l1 l2
 by_cases hl:xs.length=ys.length
 ·obtain⟨e,h1,h2⟩:=zJQ (A:=X.A.in1) (s:=s) r1 r2 (zCS xs) (zCS ys)
  refine SeqAt.eq_listAt L1 L2 (by simp;omega) hu h1 ?_;have ez:its.toArray.size=xs.length:=by simp;omega
  rw[ez,zHc hl h2];exact⟨.bl (decide (xs=ys)),H,I,rfl,by simpa using q⟩
 ·refine SeqAt.eq_list_lengthsAt L1 L2 (by simp;omega) hu ⟨.bl false,H,I,rfl,?_⟩
  have ne:xs≠ys:=λ z=>hl (by rw[z]);rw[decide_eq_false ne] at q;exact q
theorem zM6 (hu:X.A.units<cLine):OpR X (compareOp .NotEq) (rEqS true):=by
 intro jP s σ H x y v u Q I rx ry h;obtain⟨p,r,xs,ys,rfl,rfl,hp,hr,q⟩:=h;cases rx;cases ry;obtain⟨_,its,n,r1,l1,e1⟩:=I.lstM hp;obtain⟨_,its2,n2,r2,l2,e2⟩:=I.lstM hr;have L1:s.heap.IsList p its.toArray:=⟨_,e1,rfl,_,rfl⟩;have L2:s.heap.IsList r its2.toArray:=⟨_,e2,rfl,_,rfl⟩;rw[mD] at l1 l2
 by_cases hl:xs.length=ys.length
 ·obtain⟨e,h1,h2⟩:=zJQ (A:=X.A.in1) (s:=s) r1 r2 (zCS xs) (zCS ys)
  refine SeqAt.RcNeAt.lists L1 L2 (by simp;omega) hu h1 _ _ _ _ ?_;have ez:its.toArray.size=xs.length:=by simp;omega
  rw[ez,zHc hl h2];exact⟨.bl (!decide (xs=ys)),H,I,rfl,by simpa using q⟩
 ·refine SeqAt.RcNeAt.lists_lengths L1 L2 (by simp;omega) hu _ _ _ _ ⟨.bl true,H,I,rfl,?_⟩
  have ne:xs≠ys:=λ z=>hl (by rw[z]);rw[decide_eq_false ne] at q;exact q
def zMv:List V->Hp->VK->Prop:=λ xs H Q=>∃(d:Addr) (kvs:List (Key × V)) (ks:List Str),xs=[.ref d]/\H d=some (.dK kvs)/\kvs.map (·.1)=ks.map Sum.inr/\ks.length<64 /\
 ∀(l:Addr) (ss:List Str),H l=none->ss.Perm ks->ss.Pairwise (λ a b=>ltCps b.cps.toList a.cps.toList=false)->Q (.ref l) (upd H l (.lst (ss.map V.str)))
theorem zIJ {P:Program}{w:World}:∀{vs:List (Key × Value)}{ks:List Str}{us:List Value},vs.map (·.1)=ks.map Sum.inr->us.length=vs.length ->
  (∀(j:Nat) (v:Value),us[j]?=some v->∃k x,vs[j]?=some (k,x)/\(zAc P w).is k v=true)->StrsAre us ks
 |[],[],[],_,_,_=>.nil
 | (k,x)::vs,y::ks,u::us,e,hl,h=>by
  have e1:k=Sum.inr y:=(List.cons.inj e).1;have e2:vs.map (·.1)=ks.map Sum.inr:=(List.cons.inj e).2;obtain⟨k',x',q,m⟩:=h 0 u rfl;have q':(k,x)=(k',x'):=mE q;cases q';subst e1;rcases zAl (show keyIs (Sum.inr y) u=true from m) with ⟨i,t,z,_⟩|⟨z,t,z1,z2⟩
  ·cases z
  ·cases z1
   subst z2;exact .cons _ t (zIJ e2 (by simpa using hl) λ j v hv=>h (j+1) v (by simpa using hv))
 |[],_::_,_,e,_,_=>nomatch e
 |_::_,[],_,e,_,_=>nomatch e
 |[],[],_::_,_,e,_=>nomatch e
 |_::_,_::_,[],_,e,_=>nomatch e
theorem zFg {us:List Value}{ks:List Str}(h:StrsAre us ks):Vals (ks.map V.str) us:=by
 induction h with
 |nil=>exact .nil
 |cons y t r ih=>exact .cons ⟨t,rfl⟩ ih
theorem zJg {a b c:Str}(h1:ltCps b.cps.toList a.cps.toList=false) (h2:ltCps c.cps.toList b.cps.toList=false):ltCps c.cps.toList a.cps.toList=false:=by
 rw[ltCps_eq,decide_eq_false_iff_not] at *;exact List.le_trans (l₁:=a.cps.toList) (l₂:=b.cps.toList) (l₃:=c.cps.toList) h1 h2
theorem zEm:∀(p:Str) (l:List Str),risingS p l=true->(p::l).Pairwise (λ a b=>ltCps b.cps.toList a.cps.toList=false)
 |p,[],_=>by simp
 |p,x::r,h=>by
  have h':(!ltCps x.cps.toList p.cps.toList && risingS x r)=true:=h;rw[Bool.and_eq_true] at h';have h1:ltCps x.cps.toList p.cps.toList=false:=by simpa using h'.1
  have ih:=zEm x r h'.2;refine List.pairwise_cons.mpr ⟨λ y hy=>?_,ih⟩;rcases lN.mp hy with z|z
  ·subst z;exact h1
  ·exact zJg h1 ((List.pairwise_cons.mp ih).1 y z)
theorem zD7:∀{l:List Str},sortedS l=true->l.Pairwise (λ a b=>ltCps b.cps.toList a.cps.toList=false)
 |[],_=>.nil
 |x::r,h=>zEm x r h
theorem zME {kvs:List (Key × V)}{vs:List (Key × Value)}(h:KV kvs vs):kvs.map (·.1)=vs.map (·.1):=by
 unfold KV at h
 induction h with
 |nil=>rfl
 |cons r _ ih=>simp[r.1,ih]
theorem zGJ (hc:X.calm=true):CallR X (.builtin "sorted") zMv:=by
 intro jP s σ H xs us Q I r h;obtain⟨d,kvs,ks,rfl,hd,hk,h64,q⟩:=h;obtain⟨u,rfl,ru⟩:=vals1 r;cases ru;obtain⟨hz,hsm,vs,kv,hdo⟩:=(show ObjOk X.prog X.w H s.heap d (.dK kvs) from I.hok d _ hd);obtain⟨ep,hat⟩:=hdo.dictAt;have hks:vs.map (·.1)=ks.map Sum.inr:=by rw[←zME kv];exact hk
 have hn:vs.length=ks.length:=by have:=congrArg List.length hks;simpa using this
 have line:vs.length<=sizeLine:=Nat.le_of_lt (zAN (by omega));refine Calls.call_function_entry kind_sorted plain_sorted entry_sorted (args_sorted1 _) ?_;unfold Builtin.«sorted»;refine lA (m:=checkCount "sorted" 1 1 _) (lB ?_);refine lA (W.kdu_collect (A:=X.A.in1) (W.kdl_dict (knd:=zAc X.prog X.w) (kvs:=vs) (ep:=ep) hsm) (I.ok.hd hc) hat line λ h1 tk acc hk1 hacc=>?_);have la:acc.toList.length=vs.length:=by rw[Array.length_toList];exact hacc.1
 have hS:StrsAre acc.toList ks:=zIJ (P:=X.prog) (w:=X.w) hks la λ j v hv=>hacc.2 j v (by rw[←nJ];exact hv);have I1:Inv X jP σ H { s with heap:=h1,toks:=tk }:=I.kept hk1;refine lA (wpAny_newList ?_ (by rw[la];exact line));have hoL:(h1.push { cls:=.type "list", data:=.seq acc.toList.toArray }).get? h1.objs.size=some (seqObj "list" acc.toList.toArray 0):=lH _ rfl;refine lA (lE (wpAny_call_entry slot_list_sort ⟨_,hoL,rfl⟩ entry_list_sort (list_sort_treeK strKind_oneLt hoL hS.keysOf (λ a b rest e=>keyKind_strs (ss:=ks) (by rw[←e];exact hS)) (by rw[la,hn];exact h64) λ st' a1 a2=>⟨_,rfl,?_⟩) (args_list_sort _)));obtain⟨ss,b1,b2,b3⟩:=sorted_out_str hS a1 a2;obtain⟨e,he⟩:∃e,(sortedHeap (h1.push { cls:=.type "list", data:=.seq acc.toList.toArray }) h1.objs.size acc.toList ((arrOf st').map (·.2))).get? h1.objs.size=some (seqObj "list" ((arrOf st').map (·.2)) e):=sortedHeap_at hoL;refine lB ⟨_,rfl,⟨.ref h1.objs.size,upd H h1.objs.size (.lst (ss.map V.str)),I1.laid (t':=tk) (a:=h1.objs.size) (o:=.lst (ss.map V.str)) (λ b o hb=>?_) (lQ _) ⟨?_,_,e,zFg b1,?_⟩,rfl,q _ ss (I1.hok.fresh (lQ _)) b2 (zD7 b3)⟩⟩
 ·rw[sortedHeap_old (Nat.ne_of_lt (Heap.lt_size hb)) (by rw[Heap.size_push];exact Nat.lt_succ_of_lt (lI hb))]
  exact lG _ hb
 ·rw[mD,b2.length_eq]
  exact Nat.le_of_lt (zAN (by omega))
 ·rw[he]
end
structure FnB (P:Program) (w:World) (K:W.Frag) (mg:Str->Option Value) (base:Heap) (k:Nat) (x:Str) (f:Addr) (fd:FuncData) (ps:List Str) (sp:Sp):Prop where
 ok:FnOk P w K mg base CX0 k f fd ps sp
 bd:Binds K fd ps []
 kp:W.keepIn K (.ref f)=true
 gl:mg x=some (.ref f)
theorem pe_cl {X:Cx}{k:Nat}{x:Str}{f:Addr}{fd:FuncData}{ps:List Str}{sp:Sp}{e:Expr}{es:List Expr}{t:TA}{p pos:Pos}(G:FnB X.prog X.w X.K X.mg X.base k x f fd ps sp) (hr:Room k X.A) (ha:PA X (e::es) t) (hg:Gl X x:=by rfl) (hdb:(x==("__debug__":Str))=false:=by decide) (he:starEach (e::es) X.env=(false,eval e X.env)::starEach es X.env:=by rfl) (hpl:(backTo pos (starEach es X.env)).any (·.1)=false:=by rfl):PE X (.Call (.Name x p) (e::es) [] pos) (tCall sp [] E0 t):=zD5 G.ok hr hg G.gl G.kp G.bd .nil pass0 ha hdb he hpl
theorem iC {X:Cx}{r:R2}{a:Expr}{ta:TE}{i j p2 pos} (hr:IxR X r) (ha:PE X a ta):PE X (.Subscript a (.Constant (.int i) j p2) pos) (tOp r ta (tC (.int i))):=pe_ix hr ha zAI (λ Ω Ω=>rfl)
theorem FnB.up {P:Program}{w:World}{K:W.Frag}{mg:Str->Option Value}{base:Heap}{j k:Nat}{x:Str}{f:Addr}{fd:FuncData}{ps:List Str}{sp:Sp}(F:FnB P w K mg base j x f fd ps sp) (h:j<=k):FnB P w K mg base k x f fd ps sp :=
 ⟨F.ok.mono h,F.bd,F.kp,F.gl⟩
def Tk (H H':Hp):Prop:=∀b xs,H b=some (.tup xs)->H' b=some (.tup xs)
theorem Tk.refl (H:Hp):Tk H H:=λ Ω Ω h=>h
theorem Tk.trans {H H1 H2:Hp}(a:Tk H H1) (b:Tk H1 H2):Tk H H2:=λ c xs h=>b c xs (a c xs h)
theorem Same.tk {H H':Hp}(h:Same H H'):Tk H H':=λ b xs e=>h b _ e
theorem Tk.lst {H:Hp}{p:Addr}{xs:List V}{o:HO}(h:H p=some (.lst xs)):Tk H (upd H p o):=λ b ys e=>by
 rw[zAK (λ z=>by subst z;rw[h] at e;cases e)];exact e
theorem Tk.dk {H:Hp}{p:Addr}{kvs:List (Key × V)}{o:HO}(h:H p=some (.dK kvs)):Tk H (upd H p o):=λ b ys e=>by
 rw[zAK (λ z=>by subst z;rw[h] at e;cases e)];exact e
section
variable {X:Cx}
def rCatV:R2:=λ x y H Q=>∃a b xs ys,x = .ref a/\y = .ref b/\H a=some (.tup xs)/\H b=some (.tup ys)/\xs.length+ys.length<=sizeLine /\
 ∀p H',Same H H'->H' p=some (.tup (xs++ys))->Q (.ref p) H'
theorem zEA:OpR X (binaryOp .Add) rCatV:=by
 intro jP s σ H x y v u Q I rx ry h;obtain⟨a,b,xs,ys,rfl,rfl,ha,hb,hz,q⟩:=h
 by_cases hx:xs=[]
 ·subst hx
  cases rx;cases ry;obtain⟨its,r1,p1,_⟩:=I.tuple (SqT.of ha);obtain⟨its2,r2,p2,_⟩:=I.tuple (SqT.of hb);have e0:its=[]:=r1.nil_iff.mpr rfl;subst e0;obtain⟨⟨cls,dd,data,sl⟩,ho,hc,n,hd⟩:=id p1;obtain⟨⟨cls2,dd2,data2,sl2⟩,ho2,hc2,n2,hd2⟩:=id p2;simp only at hc hd hc2 hd2;subst hc hd hc2 hd2;exact concat_meets ⟨_,ho,rfl⟩ ⟨_,ho2,rfl⟩ noFill_tuple_add seq_tuple_add PySem.F.slot_tuple_add PySem.F.entry_tuple_add (PySem.F.args_tuple_add_2 _ _) (tuple_addW0 a b _ _ n n2 dd dd2 sl sl2 rfl) ⟨ho,ho2,⟨.ref b,H,I,rfl,q b H (.refl H) hb⟩⟩
 ·refine zLy jP s σ H (.ref a) (.ref b) v u Q I rx ry ⟨a,b,xs,ys,rfl,rfl,SqT.of ha,SqT.of hb,hx,hz,λ e=>?_,λ e p hp=>?_⟩
  ·subst e
   exact q a H (.refl H) (by rw[nT];exact ha)
  ·exact q p _ (zAC hp) zAA
def rSlV:V->Option Int->Option Int->Hp->VK->Prop:=λ x lo hi H Q=>∃a xs,x = .ref a/\H a=some (.tup xs) /\
 ¬(HT.sIx xs.length 0 lo=0/\HT.sIx xs.length xs.length hi=xs.length)/\∀p H',Same H H'->H' p=some (.tup (cutV xs lo hi))->Q (.ref p) H'
theorem zDq:SlR X rSlV:=by
 intro jP s σ H x v vl vu lo hi sl Q I rx hs pl pu h;obtain⟨a,xs,rfl,ha,hw,q⟩:=h;exact zK3 jP s σ H (.ref a) v vl vu lo hi sl Q I rx hs pl pu ⟨a,xs,rfl,SqT.of ha,hw,λ p hp=>q p _ (zAC hp) zAA⟩
end
inductive Atom where
 |name (x:Str)|num (n:Int)|gap (g:Str)
inductive Bin where
 |add|sub|mul|thn
noncomputable def Bin.s:Bin->Str
 |.add => "add" |.sub => "sub" |.mul => "mul" |.thn => "then"
inductive Tr where
 |num (n:Int)|name (x:Str)|ask (x:Str)|stop (x:Str)|gap (g:Str) (as:List Atom)
 |say (a:Tr)|bin (o:Bin) (a b:Tr)|ite (a b c:Tr)|lett (x:Str) (a b:Tr)
def AtRep (H:Hp):Atom->V->Prop
 |.name x,v=>∃a,v = .ref a/\H a=some (.tup [.str "name", .str x])
 |.num n,v=>∃a,v = .ref a/\H a=some (.tup [.str "num", .int n])
 |.gap g,v=>∃a b,v = .ref a/\H a=some (.tup [.str "gap", .str g,.ref b])/\H b=some (.tup [])
def Rep (H:Hp):Tr->V->Prop
 |.num n,v=>∃a,v = .ref a/\H a=some (.tup [.str "num", .int n])
 |.name x,v=>∃a,v = .ref a/\H a=some (.tup [.str "name", .str x])
 |.ask x,v=>∃a,v = .ref a/\H a=some (.tup [.str "ask", .str x])
 |.stop x,v=>∃a,v = .ref a/\H a=some (.tup [.str "stop", .str x])
 |.gap g as,v=>∃a b us,v = .ref a/\H a=some (.tup [.str "gap", .str g,.ref b])/\H b=some (.tup us)/\us.length<=1000/\Paired (AtRep H) as us
 |.say t,v=>∃a u,v = .ref a/\H a=some (.tup [.str "say", u])/\Rep H t u
 |.bin o s t,v=>∃a u w,v = .ref a/\H a=some (.tup [.str o.s,u,w])/\Rep H s u/\Rep H t w
 |.ite r s t,v=>∃a u w z,v = .ref a/\H a=some (.tup [.str "if", u,w,z])/\Rep H r u/\Rep H s w/\Rep H t z
 |.lett x s t,v=>∃a u w,v = .ref a/\H a=some (.tup [.str "let", .str x,u,w])/\Rep H s u/\Rep H t w
theorem AtRep.mono {H H':Hp}(k:Tk H H'):∀{t:Atom}{v:V},AtRep H t v->AtRep H' t v
 |.name _,_,⟨a,e,h⟩=>⟨a,e,k _ _ h⟩
 |.num _,_,⟨a,e,h⟩=>⟨a,e,k _ _ h⟩
 |.gap _,_,⟨a,b,e,h,h'⟩=>⟨a,b,e,k _ _ h,k _ _ h'⟩
theorem Rep.mono {H H':Hp}(k:Tk H H'):∀{t:Tr}{v:V},Rep H t v->Rep H' t v
 |.num _,_,⟨a,e,h⟩=>⟨a,e,k _ _ h⟩
 |.name _,_,⟨a,e,h⟩=>⟨a,e,k _ _ h⟩
 |.ask _,_,⟨a,e,h⟩=>⟨a,e,k _ _ h⟩
 |.stop _,_,⟨a,e,h⟩=>⟨a,e,k _ _ h⟩
 |.gap _ _,_,⟨a,b,us,e,h,h',n,p⟩=>⟨a,b,us,e,k _ _ h,k _ _ h',n,Paired.mapP p λ Ω Ω z=>z.mono k⟩
 |.say _,_,⟨a,u,e,h,r⟩=>⟨a,u,e,k _ _ h,r.mono k⟩
 |.bin _ _ _,_,⟨a,u,w,e,h,r,s⟩=>⟨a,u,w,e,k _ _ h,r.mono k,s.mono k⟩
 |.ite _ _ _,_,⟨a,u,w,z,e,h,r,s,t⟩=>⟨a,u,w,z,e,k _ _ h,r.mono k,s.mono k,t.mono k⟩
 |.lett _ _ _,_,⟨a,u,w,e,h,r,s⟩=>⟨a,u,w,e,k _ _ h,r.mono k,s.mono k⟩
inductive Kd where
 |num|name|ask|stop|gap|say|add|sub|mul|thn|ite|lett
 deriving DecidableEq
noncomputable def Kd.s:Kd->Str
 |.num => "num" |.name => "name" |.ask => "ask" |.stop => "stop" |.gap => "gap"
 |.say => "say" |.add => "add" |.sub => "sub" |.mul => "mul" |.thn => "then" |.ite => "if" |.lett => "let"
noncomputable def Kd.leaf:Kd->Bool
 |.num=>true|.name=>true|.ask=>true|.stop=>true|.gap=>true
 |_=>false
theorem Kd.inj {a b:Kd}(h:a.s=b.s):a=b:=by
 revert h;cases a<;>cases b<;>first|(intro _;rfl)|(intro h;exact absurd h (by symm))
theorem Kd.eq_iff {a b:Kd}:(V.str a.s=V.str b.s)↔a=b:=⟨λ h=>Kd.inj (V.str.inj h),λ h=>by rw[h]⟩
noncomputable def Bin.kd:Bin->Kd
 |.add=>.add|.sub=>.sub|.mul=>.mul|.thn=>.thn
noncomputable def Tr.kd:Tr->Kd
 |.num _=>.num|.name _=>.name|.ask _=>.ask|.stop _=>.stop|.gap _ _=>.gap
 |.say _=>.say|.bin o _ _=>o.kd|.ite _ _ _=>.ite|.lett _ _ _=>.lett
noncomputable def Tr.sign (t:Tr):Str:=t.kd.s
theorem Bin.kd_s (o:Bin):o.kd.s=o.s:=by cases o<;>rfl
noncomputable def Tr.parts:Tr->List Tr
 |.say a=>[a]|.bin _ a b=>[a,b]|.ite a b c=>[a,b,c]|.lett _ a b=>[a,b]
 |_=>[]
noncomputable def Tr.head:Tr->Nat
 |.gap _ _=>3|.say _=>1|.bin _ _ _=>1|.ite _ _ _=>1
 |_=>2
theorem Rep.all {H:Hp}:∀{t:Tr}{v:V},Rep H t v->∃a hs us,v = .ref a/\H a=some (.tup (.str t.sign::hs++us))/\hs.length+1=t.head/\Paired (Rep H) t.parts us
 |.num n,_,⟨a,e,h⟩=>⟨a,[.int n],[],e,h,rfl,.nil⟩
 |.name x,_,⟨a,e,h⟩=>⟨a,[.str x],[],e,h,rfl,.nil⟩
 |.ask x,_,⟨a,e,h⟩=>⟨a,[.str x],[],e,h,rfl,.nil⟩
 |.stop x,_,⟨a,e,h⟩=>⟨a,[.str x],[],e,h,rfl,.nil⟩
 |.gap g _,_,⟨a,b,us,e,h,h',_,p⟩=>⟨a,[.str g,.ref b],[],e,h,rfl,.nil⟩
 |.say _,_,⟨a,u,e,h,r⟩=>⟨a,[],[u],e,h,rfl,.cons r .nil⟩
 |.bin o _ _,_,⟨a,u,w,e,h,r,s⟩=>⟨a,[],[u,w],e,(by show _=some (HO.tup [V.str o.kd.s,u,w]);rw[Bin.kd_s];exact h),rfl,.cons r (.cons s .nil)⟩
 |.ite _ _ _,_,⟨a,u,w,z,e,h,r,s,t⟩=>⟨a,[],[u,w,z],e,h,rfl,.cons r (.cons s (.cons t .nil))⟩
 |.lett x _ _,_,⟨a,u,w,e,h,r,s⟩=>⟨a,[.str x],[u,w],e,h,rfl,.cons r (.cons s .nil)⟩
noncomputable def Tr.size:Tr->Nat
 |.say a=>a.size+1|.bin _ a b=>a.size+b.size+1|.ite a b c=>a.size+b.size+c.size+1|.lett _ a b=>a.size+b.size+1
 |_=>1
theorem zAJ {α:Type}{F:α->V->Prop}{as:List α}{us:List V}{i:Nat}{u:V}(h:Paired F as us):us[i]?=some u->∃a,as[i]?=some a/\F a u:=by
 induction h generalizing i with
 |nil=>exact λ e=>nomatch e
 |cons h t ih=>cases i with
  |zero=>exact λ e=>⟨_,rfl,by cases e;exact h⟩
  |succ i=>exact λ e=>ih (i:=i) (by simpa using e)
theorem zAU {H H':Hp}{p:Addr}{o:HO}(g:Same H H') (h:H p=none):Same H (upd H' p o):=λ b u q=>by rw[zAK (zAL q h)];exact g b u q
theorem zAO {α:Type}{as:List α}{i:Nat}{a:α}(h:as[i]?=some a):as.take (i+1)=as.take i++[a]:=by
 rw[List.take_add_one,h];rfl
noncomputable def Atom.names:Atom->List Str
 |.name x=>[x]
 |_=>[]
noncomputable def Tr.names:Tr->List Str
 |.name x=>[x]
 |.gap _ as=>as.flatMap Atom.names
 |_=>[]
theorem iteY {c:Prop} [Decidable c] {A B:Prop}(hc:c) (h:A):if decide c=true then A else B:=by rw[if_pos (decide_eq_true hc)];exact h
theorem iteN {c:Prop} [Decidable c] {A B:Prop}(hc:¬c) (h:B):if decide c=true then A else B:=by rw[if_neg (by rw[decide_eq_false hc];exact lX)];exact h
theorem zAh {n:Nat}(h:n<=1000):n<=sizeLine:=Nat.le_of_lt (zAN h)
noncomputable def zCn:List Expr->Option (List V)
 |[]=>some []
 |.Constant (.str x) _ _::r=>(zCn r).map λ l=>V.str x::l
 |.Constant (.int i) _ _::r=>(zCn r).map λ l=>V.int i::l
 |_=>none
def tRow (vs:List V):TA:=λ Ω H Q=>Q vs H
theorem zLB {X:Cx}{es:List Expr}:∀(vs:List V),zCn es=some vs->PA X es (tRow vs):=by
 induction es with
 |nil=>intro vs h;cases h;exact zAD
 |cons e r ih =>
  intro vs h;cases e with
  |Constant c j p =>
   cases c with
   |str x =>
    obtain⟨l,hl,e⟩:=lV.mp (show (zCn r).map (λ l=>V.str x::l)=some vs from h);subst e;exact zAB zAX (ih l hl)
   |int x =>
    obtain⟨l,hl,e⟩:=lV.mp (show (zCn r).map (λ l=>V.int x::l)=some vs from h);subst e;exact zAB zAI (ih l hl)
   |_=>cases h
  |_=>cases h
noncomputable def rowT:Expr->Option (List V)
 |.Tuple es _ _=>zCn es
 |_=>none
noncomputable def rowL:Expr->Option (List V)
 |.List es _=>zCn es
 |_=>none
theorem zLr {X:Cx}{e:Expr}(vs:List V) (h:rowT e=some vs):PE X e (tTup (tRow vs)):=by
 unfold rowT at h;split at h
 ·exact zAv (zLB vs h)
 ·cases h
theorem zIi {X:Cx}{e:Expr}(vs:List V) (h:rowL e=some vs):PE X e (tLst (tRow vs)):=by
 unfold rowL at h;split at h
 ·exact zA1 (zLB vs h)
 ·cases h
abbrev DRow:=Str × (Str ⊕ Int)
abbrev En:=Str->Int
abbrev Res:=List DRow × (Int ⊕ Str)
noncomputable def askR (x:Str):DRow:=("ask", .inl x)
noncomputable def sayR (n:Int):DRow:=("say", .inr n)
noncomputable def Bin.op:Bin->Int->Int->Int
 |.add,m,n=>(m+n) % 10 ^ 30
 |.sub,m,n=>(m - n) % 10 ^ 30
 |.mul,m,n=>(m * n) % 10 ^ 30
 |.thn,_,n=>n
noncomputable def En.set (e:En) (x:Str) (n:Int):En:=λ y=>if y=x then n else e y
noncomputable def pre (D:List DRow) (o:Option Res):Option Res:=o.map λ q=>(D++q.1,q.2)
noncomputable def seqR (r:Option Res) (k:Int->Option Res):Option Res:=r.bind λ r=>match r.2 with
 |.inr w=>some (r.1,.inr w)
 |.inl n=>pre r.1 (k n)
noncomputable def ev (a:En):Tr->En->Option Res
 |.num n,_=>some ([],.inl n)
 |.name x,e=>some ([],.inl (e x))
 |.ask x,_=>some ([askR x],.inl (a x))
 |.stop x,_=>some ([],.inr x)
 |.gap _ _,_=>none
 |.say t,e=>seqR (ev a t e) λ n=>some ([sayR n],.inl n)
 |.bin o s t,e=>seqR (ev a s e) λ m=>seqR (ev a t e) λ n=>some ([],.inl (o.op m n))
 |.ite c s t,e=>seqR (ev a c e) λ n=>if n=0 then ev a t e else ev a s e
 |.lett x s t,e=>seqR (ev a s e) λ n=>ev a t (e.set x n)
noncomputable def aft (a:En) (t:Tr) (e:En) (E:List Int):Option (Option Res × List Int) :=
 match t with
 |.say _=>match E with
  |n::E=>some (some ([sayR n],.inl n),E)
  |_=>none
 |.bin .thn _ t=>match E with
  |_::E=>some (ev a t e,E)
  |_=>none
 |.bin o _ _=>match E with
  |n::m::E=>some (some ([],.inl (o.op m n)),E)
  |_=>none
 |.ite _ s t=>match E with
  |n::E=>some (if n=0 then ev a t e else ev a s e,E)
  |_=>none
 |.lett x _ t=>match E with
  |n::E=>some (ev a t (e.set x n),E)
  |_=>none
 |_=>none
abbrev Item:=Tr × En × Bool
noncomputable def cont (a:En):List Item->List Int->Option Res
 |[],[]=>none
 |[],n::_=>some ([],.inl n)
 | (t,e,false)::W,E=>seqR (ev a t e) λ n=>cont a W (n::E)
 | (t,e,true)::W,E=>(aft a t e E).bind λ p=>seqR p.1 λ n=>cont a W (n::p.2)
def tOrT (K:W.Frag) (ta tb:TE):TE:=λ σ H Q=>ta σ H λ x H1=>∃k,TruV K x H1 k/\if k=true then Q x H1 else tb σ H1 Q
theorem zM4 {X:Cx}{a b:Expr}{rest:List Expr}{pos:Pos}{ta tb:TE}(ha:PE X a ta) (hb:PE X (.BoolOp .Or (b::rest) pos) tb):PE X (.BoolOp .Or (a::b::rest) pos) (tOrT X.K ta tb):=by
 intro jP s σ H Q I h;refine BoolOp_or (thn (ha jP s σ H _ I h) λ v s1 ⟨x,H1,I1,r1,k,e1,q1⟩=>?_);refine thn (zKx jP s1 σ H1 x v (λ c H2=>if c=true then Q x H2 else tb σ H2 Q) I1 r1 ⟨k,e1,q1⟩) λ c s2 ⟨H2,I2,q2⟩=>?_;cases c with
 |true=>exact⟨x,H2,I2,r1,q2⟩
 |false=>exact hb jP s2 σ H2 Q I2 q2
structure FunD (K:W.Frag) (x qual:Str) (st:Stmt) (f:Addr) (fd:FuncData) (dvs:List Value):Prop where
 ex:∃(oc:Value) (od:Option Addr) (kV doc pm:Value) (an:Option Addr) (cdv ct:Value) (osl:Array (Option Value)) (dt:Addr) (o:Obj) (n:Nat),
  fd=W.fnOf x qual (zBJ st) (zAx st) (zAH st) (.ref dt) kV doc pm an cdv ct/\K.lookup f=some ⟨oc,od,.func fd,osl⟩/\W.codeIn K cdv qual=true/\K.lookup dt=some o/\o.data = .seq dvs.toArray n
 kp:W.keepIn K (.ref f)=true
section
variable {P:Program}{w:World}{K:W.Frag}{mg:Str->Option Value}{base:Heap}
theorem FunD.ok {x qual:Str}{st:Stmt}{f:Addr}{fd:FuncData}{dvs:List Value}{N ps:List Str}{k:Nat}{sp:Sp}(F:FunD K x qual st f fd dvs) (S:zAQ N ps (zAH st)) (len:∀vs H Q E,sp vs H Q E->vs.length=ps.length)
  (hbody:∀(cdv:Value) (A:Around) (outer:List Env) (s:Shared) (H:Hp) (vs:List V) (Q:VK) (E:XK),Room k (A.deeper (envOfC qual (zAH st) s.heap.objs.size f cdv))->sp vs H Q E ->
   ∃t,PSs (cxOf CX0 P w K mg base N qual (zAH st) f cdv A outer s H E).nox (zAx st) t/\t { nx:=λ Ω H'=>Q .non H',rt:=Q } (start N vs) H):FnOk P w K mg base CX0 (k+1) f fd ps sp:=by
 obtain⟨oc,od,kV,doc,pm,an,cdv,ct,osl,dt,o,n,rfl,lk,hcd,_⟩:=F.ex;refine fn_of lk hcd S len λ A outer s H vs Q E hr hsp=>?_;obtain⟨t,h,q⟩:=hbody cdv A outer s H vs Q E hr hsp;exact⟨t,h.nox,q⟩
theorem zMK {x qual:Str}{st:Stmt}{f dt:Addr}{oc:Value}{od an:Option Addr}{osl:Array (Option Value)}{kV doc pm cdv ct:Value}{o:Obj}{dvs:List Value}{n:Nat}(l:K.lookup f=some ⟨oc,od,.func (W.fnOf x qual (zBJ st) (zAx st) (zAH st) (.ref dt) kV doc pm an cdv ct),osl⟩)
  (c:W.codeIn K cdv qual=true) (k:W.keepIn K (.ref f)=true) (ld:K.lookup dt=some o) (hd:o.data = .seq dvs.toArray n):FunD K x qual st f (W.fnOf x qual (zBJ st) (zAx st) (zAH st) (.ref dt) kV doc pm an cdv ct) dvs :=
 ⟨⟨oc,od,kV,doc,pm,an,cdv,ct,osl,dt,o,n,rfl,l,c,ld,hd⟩,k⟩
theorem zLR:Vals [V.non] [Value.none]:=.cons rfl .nil
end
theorem zAM {α:Type}{F:α->V->Prop}{as bs:List α}{us vs:List V}(h:Paired F as us) (k:Paired F bs vs):Paired F (as++bs) (us++vs):=by
 induction h with
 |nil=>exact k
 |cons r t ih=>exact .cons r ih
theorem zAG {α:Type}{F:α->V->Prop}{as:List α}{us:List V}(h:Paired F as us):us.length=as.length:=h.length.symm
inductive A3(a b c:Prop):Prop
 |mk:a->b->c->A3 a b c
inductive A4(a b c d:Prop):Prop
 |mk:a->b->c->d->A4 a b c d
inductive A5(a b c d e:Prop):Prop
 |mk:a->b->c->d->e->A5 a b c d e
inductive A6(a b c d e f:Prop):Prop
 |mk:a->b->c->d->e->f->A6 a b c d e f
inductive A7(a b c d e f g:Prop):Prop
 |mk:a->b->c->d->e->f->g->A7 a b c d e f g
inductive A8(a b c d e f g h:Prop):Prop
 |mk:a->b->c->d->e->f->g->h->A8 a b c d e f g h
inductive A9(a b c d e f g h i:Prop):Prop
 |mk:a->b->c->d->e->f->g->h->i->A9 a b c d e f g h i
inductive A10(a b c d e f g h i j:Prop):Prop
 |mk:a->b->c->d->e->f->g->h->i->j->A10 a b c d e f g h i j
inductive A11(a b c d e f g h i j k:Prop):Prop
 |mk:a->b->c->d->e->f->g->h->i->j->k->A11 a b c d e f g h i j k
inductive A12(a b c d e f g h i j k l:Prop):Prop
 |mk:a->b->c->d->e->f->g->h->i->j->k->l->A12 a b c d e f g h i j k l
inductive A14(a b c d e f g h i j k l m n:Prop):Prop
 |mk:a->b->c->d->e->f->g->h->i->j->k->l->m->n->A14 a b c d e f g h i j k l m n
inductive E2{a b:Type}(p:a->b->Prop):Prop
 |mk:∀A B,p A B->E2 p
inductive E3{a b c:Type}(p:a->b->c->Prop):Prop
 |mk:∀A B C,p A B C->E3 p
inductive E4{a b c d:Type}(p:a->b->c->d->Prop):Prop
 |mk:∀A B C D,p A B C D->E4 p
inductive E5{a b c d e:Type}(p:a->b->c->d->e->Prop):Prop
 |mk:∀A B C D E,p A B C D E->E5 p
inductive E6{a b c d e f:Type}(p:a->b->c->d->e->f->Prop):Prop
 |mk:∀A B C D E F,p A B C D E F->E6 p
inductive E7{a b c d e f g:Type}(p:a->b->c->d->e->f->g->Prop):Prop
 |mk:∀A B C D E F G,p A B C D E F G->E7 p
inductive E9{a b c d e f g h i:Type}(p:a->b->c->d->e->f->g->h->i->Prop):Prop
 |mk:∀A B C D E F G H I,p A B C D E F G H I->E9 p
inductive E10{a b c d e f g h i j:Type}(p:a->b->c->d->e->f->g->h->i->j->Prop):Prop
 |mk:∀A B C D E F G H I J,p A B C D E F G H I J->E10 p
theorem zFm:∀{ys:List Str}{us:List Value},Vals (ys.map V.str) us->StrsAre us ys
 |[],_,h=>by cases h;exact .nil
 |y::ys,_,h=>by
  cases h with
  |cons r t =>
   obtain⟨tk,rfl⟩:=r;exact .cons y tk (zFm t)
noncomputable def Itw (K:W.Frag) (a:Addr) (n:Nat):It :=
 ⟨λ i H=>i<n/\∃xs x,SqL K H a xs/\xs.length=n/\xs[n - 1 - i]?=some x,λ i H x H'=>H'=H/\∀xs,SqL K H a xs->xs[n - 1 - i]?=some x,λ i Ω=>i=n⟩
theorem zJt {P:Program}{w:World}{K:W.Frag}{tg:Expr}(a it:Addr) (n:Nat):Turn P w K tg (Itw K a n) [it] it (λ i h=>h.IsRevIter it a ((n:Int) - 1 - (i:Nat))) where
 mem:=by simp
 obj:=λ i h st b hb=>by
  have e:b=it:=by simpa using hb
  subst e;obtain⟨o,e,c,d⟩:=st;exact⟨o,e,λ v z=>by rw[d] at z;cases z⟩
 keep:=λ i h h' st k=>st.at λ o e=>k it (by simp) o e
 item:=by
  intro X hP hw hK hc i jP s σ H E I hf st hg;subst hP hw hK;obtain⟨hin,xs,x,hq,hl,hx⟩:=hg;obtain⟨its,rv,p,hz⟩:=I.list hq;obtain⟨u,hu,ru⟩:=rv.get hx;obtain⟨f0,f1,f2,f3,f4,f5⟩:=hf it (by simp);have e:(n:Int) - 1 - (i:Nat)=((n - 1 - i:Nat):Int):=by omega
  rw[e] at st;refine wpAny_pyNext_rev_item st p.isList (x:=u) (by simpa using hu) λ h' st' sb=>?_;have I1:Inv X jP σ H { s with heap:=h' }:=I.turned (t':=s.toks) (λ b o hb e=>(sb.2 b hb).trans e) f0 f1 f3 f4 f5;obtain⟨o,eo,c,d⟩:=id st';refine⟨u,rfl,go_of (s:={ s with heap:=h' }) eo c d (by decide) ⟨x,H,I1,ru,⟨rfl,λ ys hy=>by rw[I.list_inj hy hq];exact hx⟩,?_,λ b hb=>(hf b hb).1⟩⟩;have e2:(n:Int) - 1 - ((i+1:Nat):Int)=((n - 1 - i:Nat):Int) - 1:=by omega
  show h'.IsRevIter it a ((n:Int) - 1 - ((i+1:Nat):Int));rw[e2];exact st'
 done:=by
  intro X hP hw hK hc i jP s σ H E I hf st hg;subst hP hw hK;obtain⟨f0,f1,f2,f3,f4,f5⟩:=hf it (by simp);have hg':i=n:=hg;subst hg';have e:(i:Int) - 1 - (i:Nat) = -1:=by omega
  rw[e] at st;exact wpAny_pyNext_rev_end (I.ok.hd hc) st λ h' eb=>⟨rfl,I.turned (t':=s.toks) (λ b o hb e=>eb b o hb e) f0 f1 f3 f4 f5⟩
 self:=λ Ω Ω Ω Ω Ω st h=>wpAny_pyIter_revIter st h
def iRevL (K:W.Frag) (ta:TA):TI:=λ σ H R=>ta σ H λ vs H1=>∃a,vs=[.ref a]/\∃xs,SqL K H1 a xs/\R (Itw K a xs.length) H1
theorem zLp {X:Cx}{tg a:Expr}{ta:TA}{p pos:Pos}(hg:Gl X "reversed") (hm:X.mg "reversed" = none) (ha:PA X [a] ta) (hs:starEach [a] X.env=[(false,eval a X.env)]:=by rfl):PI X tg (.Call (.Name "reversed" p) [a] [] pos) (iRevL X.K ta):=by
 intro jP s σ H R I h;refine Call_ (zCR I hg hm boot_reversed (PyProof.Rows.callWith_type1 (thn (ha pos jP s σ H _ I h) λ us s1 ⟨vs,H1,I1,r1,q1⟩=>?_) hs rfl));obtain⟨b,e,xs,hq,q⟩:=q1;subst e;obtain⟨u,rfl,ru⟩:=vals1 r1;cases ru;obtain⟨its,rv,tp,hz⟩:=I1.list hq;have hl:=rv.length;refine call_reversed_list tp.isList ?_;have hnew:Heap.IsRevIter (s1.heap.push (revObj b ((its.toArray.size:Int) - 1))) s1.heap.objs.size b ((its.toArray.size:Int) - 1):=⟨_,lH _ rfl,rfl,rfl⟩;refine wpAny_pyIter_revIter hnew ⟨_,[s1.heap.objs.size],_,_,H1,rfl,I1.kept (t':=s1.toks) (λ c o e=>lG _ e),zJt b _ xs.length,?_,λ c hc=>?_,q⟩
 ·have e:(xs.length:Int) - 1 - ((0:Nat):Int)=(its.toArray.size:Int) - 1:=by rw[mH];omega
  show Heap.IsRevIter _ _ _ ((xs.length:Int) - 1 - ((0:Nat):Int));rw[e];exact hnew
 ·have e:=mR.mp hc
  subst e;exact I1.fpOk (lQ _) (I1.hok.fresh (lQ _))
theorem zKe {K:W.Frag}{a:Addr}{xs:List V}{g:TG}{tb:TS}{D:Ends}{σ:L2.St}{H:Hp}(Pv:Nat->St->Hp->Prop) (h0:Pv 0 σ H) (hl:∀i σ H,i<=xs.length->Pv i σ H->SqL K H a xs)
  (hs:∀i x σ H,i<xs.length->xs[xs.length - 1 - i]?=some x->Pv i σ H->g x σ H λ σ2 H2=>tb { D with nx:=Pv (i+1),ct:=Pv (i+1),bk:=D.nx } σ2 H2) (hd:∀σ H,Pv xs.length σ H->D.nx σ H) :
  ∃W:Nat->Nat->St->Hp->Prop,(∃m,W 0 m σ H)/\∀i m σ H,W i m σ H ->
   ((Itw K a xs.length).stop i H/\D.nx σ H)\/((Itw K a xs.length).go i H/\∃N:St->Hp->Prop,(∀σ' H',N σ' H'->∃m',m'<m/\W (i+1) m' σ' H')/\∀x H',(Itw K a xs.length).yld i H x H'->g x σ H' λ σ2 H2=>tb { D with nx:=N,ct:=N,bk:=D.nx } σ2 H2):=by
 refine⟨λ i m σ H=>m=xs.length - i/\i<=xs.length/\Pv i σ H,⟨xs.length,by simp,lY _,h0⟩,?_⟩;rintro i m σ H ⟨rfl,hi,p⟩;have q:=hl i σ H hi p
 by_cases hlt:i<xs.length
 ·have hk:xs.length - 1 - i<xs.length:=by omega
  refine .inr ⟨⟨hlt,xs,xs[xs.length - 1 - i],q,rfl,by simp[hk]⟩,Pv (i+1),λ σ' H' p'=>⟨xs.length - (i+1),by omega,rfl,hlt,p'⟩,λ x H' y=>?_⟩;obtain⟨eH,y⟩:=y;subst eH;exact hs i x σ _ hlt (y xs q) p
 ·have e:i=xs.length:=by omega
  subst e;exact .inl ⟨rfl,hd σ H p⟩
theorem zCo {lo:Int}{n:Nat}{acc:Addr}{g:TG}{tt:TT}{te:TE}{σ:L2.St}{H:Hp}{R:Hp->Prop}(Pv:Nat->Hp->Prop) (h0:Pv 0 (upd H acc (.lst [])))
  (hs:∀i H,i<n->Pv i H->g (.int (lo+i)) σ H λ σ2 H4=>Ext σ σ2/\tt σ2 H4 λ b H5 =>
   if b=true then te σ2 H5 λ y H6=>∃zs,H6 acc=some (.lst zs)/\zs.length<sizeLine/\Pv (i+1) (upd H6 acc (.lst (zs++[y]))) else Pv (i+1) H5) (hd:∀H,Pv n H->R H) :
  ∃W:Nat->Nat->Hp->Prop,(∃m,W 0 m (upd H acc (.lst [])))/\∀i m H2,W i m H2 ->
   ((Itr lo n).stop i H2/\R H2)\/((Itr lo n).go i H2/\∃N:Hp->Prop,(∀H',N H'->∃m',m'<m/\W (i+1) m' H')/\∀x H3,(Itr lo n).yld i H2 x H3->g x σ H3 λ σ2 H4=>Ext σ σ2/\tt σ2 H4 λ b H5 =>
    if b=true then te σ2 H5 λ y H6=>∃zs,H6 acc=some (.lst zs)/\zs.length<sizeLine/\N (upd H6 acc (.lst (zs++[y])))
    else N H5):=zH5 (Q:=λ Ω H=>R H) Pv h0 hs hd
theorem zA0 {K:W.Frag}{a:Addr}{xs:List V}{acc:Addr}{g:TG}{tt:TT}{te:TE}{σ:L2.St}{H:Hp}{R:Hp->Prop}(Pv:Nat->Hp->Prop) (h0:Pv 0 (upd H acc (.lst []))) (hl:∀i H,i<=xs.length->Pv i H->SqL K H a xs)
  (hs:∀i x H,xs[i]?=some x->Pv i H->g x σ H λ σ2 H4=>Ext σ σ2/\tt σ2 H4 λ b H5 =>
   if b=true then te σ2 H5 λ y H6=>∃zs,H6 acc=some (.lst zs)/\zs.length<sizeLine/\Pv (i+1) (upd H6 acc (.lst (zs++[y]))) else Pv (i+1) H5) (hd:∀H,Pv xs.length H->R H) :
  ∃W:Nat->Nat->Hp->Prop,(∃m,W 0 m (upd H acc (.lst [])))/\∀i m H2,W i m H2 ->
   ((Itl K a).stop i H2/\R H2)\/((Itl K a).go i H2/\∃N:Hp->Prop,(∀H',N H'->∃m',m'<m/\W (i+1) m' H')/\∀x H3,(Itl K a).yld i H2 x H3->g x σ H3 λ σ2 H4=>Ext σ σ2/\tt σ2 H4 λ b H5 =>
    if b=true then te σ2 H5 λ y H6=>∃zs,H6 acc=some (.lst zs)/\zs.length<sizeLine/\N (upd H6 acc (.lst (zs++[y])))
    else N H5):=by
 refine⟨λ i m H=>m=xs.length - i/\i<=xs.length/\Pv i H,⟨xs.length,by simp,lY _,h0⟩,?_⟩;rintro i m H2 ⟨rfl,hi,p⟩;have q:=hl i H2 hi p
 by_cases hlt:i<xs.length
 ·refine .inr ⟨⟨xs,xs[i],q,by simp[hlt]⟩,Pv (i+1),λ H' p'=>⟨xs.length - (i+1),by omega,rfl,hlt,p'⟩,λ x H' y=>?_⟩
  obtain⟨e,y⟩:=y;subst e;exact hs i x _ (y xs q) p
 ·have e:i=xs.length:=by omega
  subst e;exact .inl ⟨⟨xs,q,lQ _⟩,hd H2 p⟩
section
variable {X:Cx}
theorem zLm {elt tg iter:Expr}{y:Str}{py spos:Pos}{jj:Nat}{ifs:List Expr}{sc:Scope}{pos:Pos}{wi:TI}{g:TG}{tt:TT}{te:TE}(N:List Str) (cap:List (Option Nat)) (hc:X.calm=true) (hi:PI X tg iter wi)
    (hg:∀cl s H C ex,PG (X.block sc cl N s H C ex) tg g) (ht:∀cl s H C ex,PTs (X.block sc cl N s H C ex) ifs tt) (he:∀cl s H C ex,PE (X.block sc cl N s H C ex) elt te)
    (hk:sc.kind = .function) (nc:∀y∈sc.names,y.2 ≠ .cell) (hnames:∀y∈sc.names,y.2 = .local->sc.names.lookup y.1=some .local)
    (hfree:∀n,(n,NameKind.free)∈sc.names->X.env.kindOf n=some .cell)
    (hcap:∀(i j:Nat),cap[i]?=some (some j)->∃x,N[i]?=some x/\X.N[j]?=some x/\sc.names.lookup x=some .free) (hlen:cap.length=N.length)
    (hN:X.N.Nodup) (hjj:X.N[jj]?=some y) (hxx:Loc X.env.scope y) (hf:X.fn y=true\/X.env.scope.names.lookup y=some .local)
    (hsw:swapsWith (.ListComp elt [⟨tg,iter,ifs,0⟩] sc pos) (some (.Name y py)) spos.line X.env=pure true)
    (hs:∀x,foldedSetIterable iter X.env x=pure x:=by intro _;rfl):PS X (.Assign [.Name y py] (.ListComp elt [⟨tg,iter,ifs,0⟩] sc pos) spos) (tAsg (tComp cap wi g tt te) (gName jj)):=by
  intro jP s σ H D I h;obtain⟨cl,hclos,c1,c2⟩:=zDP (sc:=sc) (env:=X.env) λ n hn=>I.ok.has n (.inl (hfree n hn));rw[exec_Assign_Name_used _ _ _ _ hsw];refine lA (wpAny_standAt (lA ?_));show wpAny _ X.A (do let _ ← comprehension (.ListComp elt [⟨tg,iter,ifs,0⟩] sc pos) sc X.env _ (newList []) false (eval iter X.env) (some (assign (.Name y py) X.env))) _ _ s;refine lA (wpAny_mono (wpAny_comprehension_free (use:=some (assign (.Name y py) X.env)) (Q:=λ Ω s'=>SP X jP D .next s') rfl hs hclos hk hnames ?_) (λ Ω s' hq=>lB (lB hq)) λ Ω Ω e=>e);refine thn (hi jP s σ H _ I h) λ v s1 h1=>thn h1 λ itv s2 h2=>?_;obtain⟨it,fp,tn,J,H2,e,I2,T,st2,f2,q2⟩:=h2;subst e;have hfr:H2 s2.heap.objs.size=none:=I2.fresh;obtain⟨W,⟨m0,w0⟩,turn⟩:=q2 s2.heap.objs.size hfr;have I3:=I2.lnew (ys:=[]) (its:=[]) (t':=s2.toks) .nil (lY _);have hacc:H2 s2.heap.objs.size=none:=hfr;refine wpAny_newObj_type (wpAny_newFunctionEnv nc (by intro y hy;simp at hy) (λ h4 hns hsb=>?_) hk);generalize hs3:({ s2 with heap:=s2.heap.push { cls:=.type "list", data:=.seq ([]:List Value).toArray } }:Shared)=s3 at hns hsb I3 ⊢;have hheap:s3.heap=s2.heap.push { cls:=.type "list", data:=.seq ([]:List Value).toArray }:=by rw[←hs3]
  generalize hH3:upd H2 s2.heap.objs.size (.lst [])=H3 at I3 w0;have up2:∀b o,s2.heap.get? b=some o->s3.heap.get? b=some o:=λ b o q=>by rw[hheap];exact lG _ q
  have neA:∀b∈fp,b≠s2.heap.objs.size:=λ b hb=>by
    obtain⟨o,q,_⟩:=T.obj _ _ st2 b hb;exact lS (lI q)
  have f3:∀b∈fp,FpOk X jP H3 b:=λ b hb=>⟨by rw[←hH3,zAK (neA b hb)];exact(f2 b hb).1,(f2 b hb).2⟩
  have o3:∀b∈fp,∃o,s3.heap.get? b=some o:=λ b hb=>by
    obtain⟨o,q,_⟩:=T.obj _ _ st2 b hb;exact⟨o,up2 b o q⟩
  have ok':=zHZ (N:=N) (C:=s3.heap.objs.size) I3 hk nc (lQ _) f3 o3 c1 c2;generalize hC:s3.heap.objs.size=C at hns hsb ok' ⊢;have ltC:∀b o,s3.heap.get? b=some o->b≠C:=λ b o q=>by rw[←hC];exact lS (lI q)
  have up4:∀b o,s3.heap.get? b=some o->h4.get? b=some o:=λ b o q=>hsb.extBut b o (ltC b o q) (lG _ q);have st4:tn 0 h4:=T.keep _ _ _ st2 λ b hb o q=>up4 b o (up2 b o q)
  have I4:Inv (X.block sc cl N s3 H3 C fp) [] (capSt cap σ) H3 { s3 with heap:=h4,toks:=s3.toks+([]:List (Str × Value)).length }:=by
    refine⟨ok',rfl,I3.bare,Un.kept up4,⟨_,hns,λ i x v e1 e2 e3=>?_⟩,λ x c q=>?_,?_,λ x c q=>I3.freeC x c (c1 x c q),λ p hp=>(nomatch hp),I3.hok.kept up4,?_⟩
    · have ee:∃j,cap[i]?=some (some j)/\σ[j]?=some (some v):=by
        unfold capSt at e2;rw[mJ] at e2;cases q:cap[i]? with
        |none=>rw[q] at e2;cases e2
        |some o =>
          rw[q] at e2;cases o with
          |none=>cases e2
          |some j =>
            refine⟨j,rfl,?_⟩;have e2':some ((σ[j]?).join)=some (some v):=e2;cases z:σ[j]? with
            |none=>rw[z] at e2';cases e2'
            |some o' =>
              rw[z] at e2';have e2'':o'=some v:=mE e2';rw[e2'']
      obtain⟨j,ej,es⟩:=ee;obtain⟨x',n1,n2,n3⟩:=hcap i j ej;have e1':N[i]?=some x:=e1;rw[n1] at e1';cases e1';have hfr':(x,NameKind.free)∈sc.names:=zB2 n3;have kc:=hfree x hfr';obtain⟨m,_,hl⟩:=I3.loc;obtain⟨u,r,l⟩:=hl j x v n2 es (.inr (.inl kc));refine⟨u,r,?_⟩;rcases l with ⟨l,_⟩|⟨_,c,ec,z⟩
      · rw[kc] at l;cases l
      · obtain⟨c',ec'⟩:=c2 x hfr'
        have:=c1 x c' ec';rw[ec] at this;cases this;obtain⟨oc,q1,q2⟩:=z;exact .inr ⟨zAu (sc:=sc) n3,c,ec',oc,up4 _ _ q1,q2⟩
    · obtain⟨v,oc,q1,q2⟩:=I3.cell x c (c1 x c q)
      exact⟨v,oc,up4 _ _ q1,q2⟩
    · exact I3.hok.fresh (by rw[hC];exact lQ _)
    · show (capSt cap σ).length=N.length
      unfold capSt;rw[mD,hlen]
  have loop:codeAny (model X.prog X.w) X.A (.compLoop (.ListComp elt [⟨tg,iter,ifs,0⟩] sc pos) 0 (.ref it) (.ref s2.heap.objs.size) (compEnvC sc cl C X.env)) (compPost (model X.prog X.w) X.A X.xe (some (assign (.Name y py) X.env)) (λ Ω s'=>SP X jP D .next s') (.ref s2.heap.objs.size) C)
      { s3 with heap:=h4,toks:=s3.toks+([]:List (Str × Value)).length }:=by
    have stat:∀{H':Hp},(∀b∈fp,H' b=none)->∀b∈fp,FpOk (X.block sc cl N s3 H3 C fp) [] H' b:=λ hn b hb =>
      ⟨hn b hb,(ok'.exf b hb).1,ok'.exfs b hb,.inl hb,(ok'.exf b hb).2,λ p hp=>(nomatch hp)⟩
    refine zEP (λ n s'=>∃i H',Inv (X.block sc cl N s3 H3 C fp) [] (capSt cap σ) H' s'/\tn i s'.heap/\(∀b∈fp,H' b=none)/\W i n H') ?_ m0 ⟨0,H3,I4,st4,λ b hb=>(f3 b hb).1,w0⟩;rintro n s5 ⟨i,H5,I5,st5,fr5,w5⟩;rcases turn i n H5 w5 with ⟨stop,qn⟩|⟨go,N',hN',step⟩
    · refine thn (T.done (X.block sc cl N s3 H3 C fp) rfl rfl rfl hc i [] s5 _ H5 NoX I5 (stat fr5) st5 stop) λ r s6 ⟨hr,I6⟩=>?_
      subst hr;obtain⟨m,hm,_⟩:=I6.loc
      have I7:Inv X jP σ H5 s6:=by
        refine I3.call' (s':=s6) (ch:=fp) I6.os I6.base I6.hok I6.bare λ b hb=>?_;obtain⟨g0,g1,g2,g3,g4,g5⟩:=f3 b hb;exact⟨g3,g1,g4,g5⟩
      have hCl:X.env.locals≠C:=by
        obtain⟨_,hn3,_⟩:=I3.loc;rw[←hC];exact lS hn3.lt
      have hCc:∀x c,X.env.cells.lookup x=some c->c≠C:=λ x c q=>by
        obtain⟨v,oc,q1,q2⟩:=I3.cell x c q;exact ltC _ _ q1
      refine wpAny_assign_Name (zFn I7 hN hjj hxx (v:=.ref s2.heap.objs.size) rfl (λ s9 I9 ⟨a9,sb9,ha9⟩=>?_) hf)
      have hCa:a9≠C:=by
        rcases ha9 with rfl|z
        · exact hCl
        · exact hCc _ _ z
      refine⟨m,hm.sameBut sb9 (Ne.symm hCa),λ h' sb=>⟨_,H5,?_,qn⟩⟩;refine I9.call' (s':={ s9 with heap:=h' }) (ch:=[C]) rfl ?_ (I9.hok.but I6.free sb) I9.bare λ b hb=>?_
      · have st:∀b o,s9.heap.get? b=some o->b∉[C]->h'.get? b=some o:=λ b o q hx=>(sb.2 b (λ z=>hx (by rw[z];exact mR.mpr rfl))).trans q
        exact⟨λ b o q Ω Ω hx=>st b o q hx,λ b o q Ω Ω hx=>⟨o.slots,st b o q hx⟩,λ b o q n Ω=>n,λ b o q hx=>⟨o,st b o q hx⟩,λ Ω Ω q=>q,λ Ω Ω Ω q=>q,λ b ps q=>⟨#[],by simpa using q⟩⟩
      · rw[mR.mp hb]
        exact⟨.inr (by rw[←hC];exact I3.sz),Ne.symm hCl,hCc,λ p hp=>ltC _ _ (I3.pin p hp).1⟩
    · refine thn (T.item (X.block sc cl N s3 H3 C fp) rfl rfl rfl hc i [] s5 _ H5 NoX I5 (stat fr5) st5 go) λ r s6 ⟨u,hr,h6⟩=>?_
      subst hr;refine thn h6 λ _ s7 ⟨x,H7,I7,r7,y7,st7,fr7⟩=>?_;have I7':=I7.pinned (stat fr7) (T.obj _ _ st7)
      have again:∀{σ8:St}{H8:Hp}{s8:Shared},Inv (X.block sc cl N s3 H3 C fp) ([]++zD4 fp s7.heap) σ8 H8 s8->Ext (capSt cap σ) σ8->N' H8 ->
          ∃m,m<n/\∃i H',Inv (X.block sc cl N s3 H3 C fp) [] (capSt cap σ) H' s8/\tn i s8.heap/\(∀b∈fp,H' b=none)/\W i m H':=λ{σ8 H8 s8} I8 ex n8=>by
        obtain⟨m',hm,w8⟩:=hN' H8 n8;have I8':=I8.unpinned.weak ex.len ex.get;refine⟨m',hm,i+1,H8,I8',T.keep _ _ _ st7 λ b hb o q=>(I8.pin (b,o) (mB _ (mB _ (zBF hb q)))).1,λ b hb=>?_,w8⟩;obtain⟨o,q,d⟩:=T.obj _ _ st7 b hb;exact(I8.pin (b,o) (mB _ (mB _ (zBF hb q)))).2.1
      refine thn (hg cl s3 H3 C fp _ s7 _ H7 x u _ I7' r7 (step x H7 y7)) λ _ s8 ⟨σ8,H8,I8,ex8,q8⟩=>?_;refine thn (ht cl s3 H3 C fp _ s8 σ8 H8 _ I8 q8) λ b s9 ⟨H9,I9,q9⟩=>?_;cases b with
      |false=>exact again I9 ex8 q9
      |true =>
        rw[if_pos rfl] at q9 ⊢;refine thn (he cl s3 H3 C fp _ s9 σ8 H9 _ I9 q9) λ yv s10 ⟨y,H10,I10,r10,zs,e10,l10,q10⟩=>?_;refine thn (zC3 (X:=X.block sc cl N s3 H3 C fp) _ s10 σ8 H10 (.ref s2.heap.objs.size) [y] (.ref s2.heap.objs.size) [yv] (λ Ω H'=>N' H') I10 rfl (.cons r10 .nil) ⟨_,zs,y,rfl,rfl,e10,l10,q10⟩) λ _ s11 ⟨_,H11,I11,_,q11⟩=>?_;exact again I11 ex8 q11
  exact codeAny_compStart_list loop (T.self X.A 0 _ _ _ st4 loop)
theorem zFE {elt tg iter:Expr}{y:Str}{py spos:Pos}{jj:Nat}{ifs:List Expr}{sc:Scope}{pos:Pos}{wi:TI}{g:TG}{tt:TT}{te:TE}(N:List Str) (cap:List (Option Nat)) (hc:X.calm=true) (hi:PI X tg iter wi)
  (hg:∀cl s H C ex,PG (X.block sc cl N s H C ex) tg g) (ht:∀cl s H C ex,PTs (X.block sc cl N s H C ex) ifs tt) (he:∀cl s H C ex,PE (X.block sc cl N s H C ex) elt te)
  (ck:zHV sc X.env X.N N cap=true) (hN:X.N.Nodup) (hjj:X.N[jj]?=some y) (hxx:Loc X.env.scope y) (hf:X.fn y=true\/X.env.scope.names.lookup y=some .local)
  (hsw:swapsWith (.ListComp elt [⟨tg,iter,ifs,0⟩] sc pos) (some (.Name y py)) spos.line X.env=pure true:=by rfl) (hs:∀x,foldedSetIterable iter X.env x=pure x:=by intro _;rfl):PS X (.Assign [.Name y py] (.ListComp elt [⟨tg,iter,ifs,0⟩] sc pos) spos) (tAsg (tComp cap wi g tt te) (gName jj)):=by
 unfold zHV at ck;simp only[Bool.and_eq_true] at ck;obtain⟨⟨⟨⟨⟨k1,k2⟩,k3⟩,k4⟩,k5⟩,k6⟩:=ck;refine zLm N cap hc hi hg ht he (by simpa using k1) (λ y hy=>?_) (λ y hy z=>?_) (λ n hn=>?_) (λ i j e=>?_) (by simpa using k6) hN hjj hxx hf hsw hs
 ·have:=List.all_eq_true.mp k2 y hy
  simpa using this
 ·have:=List.all_eq_true.mp k3 y hy
  rw[z] at this;simpa using this
 ·have:=List.all_eq_true.mp k4 _ hn
  simpa using this
 ·have hi:i<cap.length:=(lJ.mp e).1
  have:=List.all_eq_true.mp k5 i (List.mem_range.mpr hi);rw[e] at this;dsimp only at this;cases q:N[i]? with
  |none=>rw[q] at this;cases this
  |some x =>
   rw[q] at this;dsimp only at this;rw[Bool.and_eq_true] at this;exact⟨x,rfl,by simpa using this.1,by simpa using this.2⟩
end
inductive Dt where
 |int (i:Int)|str (x:Str)|tup (ds:List Dt)
mutual
def Dt.beq:Dt->Dt->Bool
 |.int i,.int j=>decide (i=j)
 |.str x,.str y=>decide (x=y)
 |.tup ds,.tup es=>Dt.beqs ds es
 |_,_=>false
def Dt.beqs:List Dt->List Dt->Bool
 |[],[]=>true
 |d::ds,e::es=>Dt.beq d e && Dt.beqs ds es
 |_,_=>false
end
mutual
theorem Dt.beq_iff:∀{d e:Dt},Dt.beq d e=true↔d=e
 |.int i,.int j=>by simp[Dt.beq]
 |.str x,.str y=>by simp[Dt.beq]
 |.tup ds,.tup es=>by
  have:=Dt.beqs_iff (ds:=ds) (es:=es);simp[Dt.beq,this]
 |.int _,.str _=>by simp[Dt.beq]
 |.int _,.tup _=>by simp[Dt.beq]
 |.str _,.int _=>by simp[Dt.beq]
 |.str _,.tup _=>by simp[Dt.beq]
 |.tup _,.int _=>by simp[Dt.beq]
 |.tup _,.str _=>by simp[Dt.beq]
theorem Dt.beqs_iff:∀{ds es:List Dt},Dt.beqs ds es=true↔ds=es
 |[],[]=>by simp[Dt.beqs]
 |[],_::_=>by simp[Dt.beqs]
 |_::_,[]=>by simp[Dt.beqs]
 |d::ds,e::es=>by
  have h1:=Dt.beq_iff (d:=d) (e:=e);have h2:=Dt.beqs_iff (ds:=ds) (es:=es);simp[Dt.beqs,h1,h2]
end
mutual
noncomputable def Dt.deep:Dt->Nat
 |.tup ds=>Dt.deeps ds+1
 |_=>0
noncomputable def Dt.deeps:List Dt->Nat
 |[]=>0
 |d::ds=>max (Dt.deep d) (Dt.deeps ds)
end
mutual
inductive DR (H:Hp):Dt->V->Prop
 |int (i:Int):DR H (.int i) (.int i)
 |str (x:Str):DR H (.str x) (.str x)
 |tup {a:Addr}{xs:List V}{ds:List Dt}:H a=some (.tup xs)->DRs H ds xs->DR H (.tup ds) (.ref a)
inductive DRs (H:Hp):List Dt->List V->Prop
 |nil:DRs H [] []
 |cons {d:Dt}{v:V}{ds:List Dt}{vs:List V}:DR H d v->DRs H ds vs->DRs H (d::ds) (v::vs)
end
mutual
theorem DR.mono {H H':Hp}(k:Tk H H'):∀{d:Dt}{v:V},DR H d v->DR H' d v
 |_,_,.int i=>.int i
 |_,_,.str x=>.str x
 |_,_,.tup h r=>.tup (k _ _ h) (DRs.mono k r)
theorem DRs.mono {H H':Hp}(k:Tk H H'):∀{ds:List Dt}{vs:List V},DRs H ds vs->DRs H' ds vs
 |_,_,.nil=>.nil
 |_,_,.cons r t=>.cons (DR.mono k r) (DRs.mono k t)
end
theorem DRs.length {H:Hp}:∀{ds:List Dt}{vs:List V},DRs H ds vs->ds.length=vs.length
 |_,_,.nil=>rfl
 |_,_,.cons _ t=>congrArg (· + 1) t.length
mutual
theorem DR.inj {H:Hp}:∀{d e:Dt}{v:V},DR H d v->DR H e v->d=e
 |_,_,_,.int _,.int _=>rfl
 |_,_,_,.str _,.str _=>rfl
 |_,_,_,.tup h r,.tup h' r'=>by
  rw[h] at h';cases h';rw[DRs.inj r r']
theorem DRs.inj {H:Hp}:∀{ds es:List Dt}{vs:List V},DRs H ds vs->DRs H es vs->ds=es
 |_,_,_,.nil,.nil=>rfl
 |_,_,_,.cons r t,.cons r' t'=>by rw[DR.inj r r',DRs.inj t t']
end
theorem DRs.get {H:Hp}:∀{ds:List Dt}{vs:List V}{j:Nat}{v:V},DRs H ds vs->vs[j]?=some v->∃d,ds[j]?=some d/\DR H d v
 |_,_,_,_,.nil,e=>by simp at e
 |_,_,0,_,.cons r _,e=>by simp at e;subst e;exact⟨_,rfl,r⟩
 |_,_,j+1,v,.cons _ t,e=>by
  obtain⟨d,h1,h2⟩:=DRs.get (j:=j) (v:=v) t (by simpa using e);exact⟨d,by simpa using h1,h2⟩
theorem zDj:∀{ds:List Dt}{j:Nat}{d:Dt},ds[j]?=some d->d.deep<=Dt.deeps ds
 |[],_,_,h=>by simp at h
 |e::ds,0,d,h=>by simp at h;subst h;simp[Dt.deeps];omega
 |e::ds,j+1,d,h=>by
  have:=zDj (ds:=ds) (j:=j) (d:=d) (by simpa using h);simp[Dt.deeps];omega
theorem zFf:∀(ds es:List Dt),Dt.beqs ds es=((List.range (min ds.length es.length)).all (λ j=>match ds[j]?,es[j]? with|some d,some e=>Dt.beq d e|_,_=>false) && ds.length == es.length):=by
 intro ds es;rw[Bool.eq_iff_iff,Dt.beqs_iff,Bool.and_eq_true,List.all_eq_true];constructor
 ·rintro rfl
  refine⟨λ j hj=>?_,by simp⟩;have hj':j<ds.length:=by simpa using List.mem_range.mp hj
  simp[nQ hj',Dt.beq_iff]
 ·rintro⟨h,hl⟩
  have hl':ds.length=es.length:=by simpa using hl
  refine List.ext_getElem hl' λ j h1 h2=>?_;have:=h j (List.mem_range.mpr (by omega));simpa[nQ h1,nQ h2,Dt.beq_iff] using this
section
variable {X:Cx}{jP:List (Addr × Obj)}{σ:St}{H:Hp}{s:Shared}
theorem zMN (I:Inv X jP σ H s):∀(n:Nat) (A:Around) {d e:Dt}{v z:V}{u y:Value},d.deep<=n->DR H d v->DR H e z->RelV v u->RelV z y->A.units+n<cLine->SeqAt.EqAt A s u y (Dt.beq d e):=by
 intro n
 induction n with
 |zero =>
  intro A d e v z u y hn rd re ru ry hu;cases rd with
  |int i =>
   obtain⟨t,rfl⟩:=ru;cases re with
   |int j=>obtain⟨t',rfl⟩:=ry;rw[show Dt.beq (.int i) (.int j)=(i == j) by simp[Dt.beq,Bool.beq_eq_decide_eq]];exact SeqAt.EqAt.int_int i t j t'
   |str x=>obtain⟨t',rfl⟩:=ry;exact SeqAt.EqAt.int_str i t x t'
   |tup h r =>
    cases ry;obtain⟨its,rv,p,_⟩:=I.tuple (SqT.of h);exact SeqAt.EqAt.int_tuple i t (show s.heap.IsTuple _ its.toArray from p) (by omega)
  |str x =>
   obtain⟨t,rfl⟩:=ru;cases re with
   |int j=>obtain⟨t',rfl⟩:=ry;exact SeqAt.EqAt.str_int x t j t'
   |str w'=>obtain⟨t',rfl⟩:=ry;rw[show Dt.beq (.str x) (.str w')=(x == w') by simp[Dt.beq,Bool.beq_eq_decide_eq]];exact SeqAt.EqAt.str_str x t w' t'
   |tup h r =>
    cases ry;obtain⟨its,rv,p,_⟩:=I.tuple (SqT.of h);exact SeqAt.EqAt.str_tuple x t (show s.heap.IsTuple _ its.toArray from p) (by omega)
  |tup h r=>simp[Dt.deep] at hn
 |succ n ih =>
  intro A d e v z u y hn rd re ru ry hu;cases rd with
  |int i =>
   obtain⟨t,rfl⟩:=ru;cases re with
   |int j=>obtain⟨t',rfl⟩:=ry;rw[show Dt.beq (.int i) (.int j)=(i == j) by simp[Dt.beq,Bool.beq_eq_decide_eq]];exact SeqAt.EqAt.int_int i t j t'
   |str x=>obtain⟨t',rfl⟩:=ry;exact SeqAt.EqAt.int_str i t x t'
   |tup h r =>
    cases ry;obtain⟨its,rv,p,_⟩:=I.tuple (SqT.of h);exact SeqAt.EqAt.int_tuple i t (show s.heap.IsTuple _ its.toArray from p) (by omega)
  |str x =>
   obtain⟨t,rfl⟩:=ru;cases re with
   |int j=>obtain⟨t',rfl⟩:=ry;exact SeqAt.EqAt.str_int x t j t'
   |str w'=>obtain⟨t',rfl⟩:=ry;rw[show Dt.beq (.str x) (.str w')=(x == w') by simp[Dt.beq,Bool.beq_eq_decide_eq]];exact SeqAt.EqAt.str_str x t w' t'
   |tup h r =>
    cases ry;obtain⟨its,rv,p,_⟩:=I.tuple (SqT.of h);exact SeqAt.EqAt.str_tuple x t (show s.heap.IsTuple _ its.toArray from p) (by omega)
  | @tup a xs ds ha rs =>
   cases ru;obtain⟨its,rv,p,_⟩:=I.tuple (SqT.of ha);have hn':Dt.deeps ds<=n:=by simpa[Dt.deep] using hn
   cases re with
   |int j=>obtain⟨t',rfl⟩:=ry;exact SeqAt.EqAt.tuple_int j t' (show s.heap.IsTuple _ its.toArray from p) (by omega)
   |str w'=>obtain⟨t',rfl⟩:=ry;exact SeqAt.EqAt.tuple_str w' t' (show s.heap.IsTuple _ its.toArray from p) (by omega)
   | @tup b ys es hb rs' =>
    cases ry
    by_cases hab:a=b
    ·subst hab
     rw[ha] at hb;cases hb;have:ds=es:=DRs.inj rs rs';subst this;rw[show Dt.beq (.tup ds) (.tup ds)=true from Dt.beq_iff.mpr rfl];exact SeqAt.EqAt.same _
    ·obtain⟨its2,rv2,p2,_⟩:=I.tuple (SqT.of hb)
     refine SeqAt.EqAt.of_refs hab ?_;have l1:=rv.length;have l2:=rv2.length;have m1:=rs.length;have m2:=rs'.length
     have key:=SeqAt.RcAt.tuples (A:=A) (s:=s) (e:=λ j=>match ds[j]?,es[j]? with|some d,some e=>Dt.beq d e|_,_=>false) (show s.heap.IsTuple _ its.toArray from p) (show s.heap.IsTuple _ its2.toArray from p2) (by omega) λ j h1 h2=>by
      have g1:j<xs.length:=by rw[l1];simpa using h1
      have g2:j<ys.length:=by rw[l2];simpa using h2
      obtain⟨u1,eu,r1⟩:=rv.get (lW g1);obtain⟨u2,ev,r2⟩:=rv2.get (lW g2);obtain⟨d1,ed,rd1⟩:=rs.get (lW g1);obtain⟨d2,ed2,rd2⟩:=rs'.get (lW g2);have e1:its.toArray[j]=u1:=by obtain⟨_,q⟩:=lJ.mp eu;simpa using q
      have e2:its2.toArray[j]=u2:=by obtain⟨_,q⟩:=lJ.mp ev;simpa using q
      simp only[ed,ed2,e1,e2];exact ih A.in1 (mG (zDj ed) hn') rd1 rd2 r1 r2 (by rw[show A.in1.units=A.units+1 from rfl];omega)
     have ez:Dt.beq (.tup ds) (.tup es)=((List.range (min its.toArray.size its2.toArray.size)).all (λ j=>match ds[j]?,es[j]? with|some d,some e=>Dt.beq d e|_,_=>false) && its.toArray.size == its2.toArray.size):=by
      rw[show Dt.beq (.tup ds) (.tup es)=Dt.beqs ds es by simp[Dt.beq],zFf];have a1:its.toArray.size=ds.length:=by simp;omega
      have a2:its2.toArray.size=es.length:=by simp;omega
      rw[a1,a2]
     rw[ez];exact key
def rEqD (neg:Bool):R2:=λ x y H Q=>∃(ds es:List Dt),DR H (.tup ds) x/\DR H (.tup es) y/\(Dt.tup ds).deep<=150/\Q (.bl (if neg then !Dt.beqs ds es else Dt.beqs ds es)) H
theorem zJR (I:Inv X jP σ H s) {a b:Addr}{ds es:List Dt}(hd:DR H (.tup ds) (.ref a)) (he:DR H (.tup es) (.ref b)) (hdeep:(Dt.tup ds).deep<=150) (hu:X.A.units+150<cLine) :
  ∃its its2:List Value,s.heap.IsTuple a its.toArray/\s.heap.IsTuple b its2.toArray/\its.toArray.size=ds.length/\its2.toArray.size=es.length /\
   ∀j (h1:j<its.toArray.size) (h2:j<its2.toArray.size),SeqAt.EqAt X.A.in1 s its.toArray[j] its2.toArray[j] ((λ j=>match ds[j]?,es[j]? with|some d,some e=>Dt.beq d e|_,_=>false) j):=by
 cases hd with
 | @tup _ xs _ ha rs =>
  cases he with
  | @tup _ ys _ hb rs' =>
   obtain⟨its,rv,p,_⟩:=I.tuple (SqT.of ha);obtain⟨its2,rv2,p2,_⟩:=I.tuple (SqT.of hb);have l1:=rv.length;have l2:=rv2.length;have m1:=rs.length;have m2:=rs'.length;refine⟨its,its2,p,p2,by simp;omega,by simp;omega,λ j h1 h2=>?_⟩;have g1:j<xs.length:=by rw[l1];simpa using h1
   have g2:j<ys.length:=by rw[l2];simpa using h2
   obtain⟨u1,eu,r1⟩:=rv.get (lW g1);obtain⟨u2,ev,r2⟩:=rv2.get (lW g2);obtain⟨d1,ed,rd1⟩:=rs.get (lW g1);obtain⟨d2,ed2,rd2⟩:=rs'.get (lW g2);have e1:its.toArray[j]=u1:=by obtain⟨_,q⟩:=lJ.mp eu;simpa using q
   have e2:its2.toArray[j]=u2:=by obtain⟨_,q⟩:=lJ.mp ev;simpa using q
   simp only[ed,ed2,e1,e2];have dd:Dt.deeps ds+1<=150:=by simpa[Dt.deep] using hdeep
   exact zMN I 149 X.A.in1 (mG (zDj ed) (by omega)) rd1 rd2 r1 r2 (by rw[show X.A.in1.units=X.A.units+1 from rfl];omega)
theorem zM8 (hu:X.A.units+150<cLine):OpR X (compareOp .Eq) (rEqD false):=by
 intro jP s σ H x y v u Q I rx ry h;obtain⟨ds,es,hd,he,hdeep,q⟩:=h;obtain⟨a,rfl⟩:∃a,x = .ref a:=by cases hd;exact⟨_,rfl⟩
 obtain⟨b,rfl⟩:∃b,y = .ref b:=by cases he;exact⟨_,rfl⟩
 cases rx;cases ry;obtain⟨its,its2,p,p2,z1,z2,hall⟩:=zJR I hd he hdeep hu;refine SeqAt.eq_tupleAt p p2 (by omega) hall ?_;rw[z1,z2,←zFf];exact⟨.bl (Dt.beqs ds es),H,I,rfl,by simpa using q⟩
theorem hu150 {k:Nat}{A:Around}(hr:Room k A):A.units+150<cLine:=by have:=hr.un;omega
end
theorem zMs {k:Key}{u:Value}(h:keyIs k u=true):RelV (kV k) u:=by
 rcases zAl h with ⟨i,t,rfl,rfl⟩|⟨x,t,rfl,rfl⟩
 ·exact⟨t,rfl⟩
 ·exact⟨t,rfl⟩
theorem zLE {kvs:List (Key × V)}{vs:List (Key × Value)}{i:Nat}{p:Key × V}(h:KV kvs vs):kvs[i]?=some p->∃v,vs[i]?=some (p.1,v):=by
 induction h generalizing i with
 |nil=>exact λ e=>nomatch e
 | @cons a b _ _ r t ih=>cases i with
  |zero=>intro e;have e':a=p:=by simpa using e
         subst e';exact⟨b.2,by rw[r.1];rfl⟩
  |succ i=>exact λ e=>ih (i:=i) (by simpa using e)
noncomputable def Itd (o:Obj) (a:Addr) (kvs:List (Key × V)):It :=
 ⟨λ i H=>H a=some (.frz o (.dK kvs))/\i<kvs.length,λ i H x H'=>H'=H/\∃p,kvs[i]?=some p/\x=kV p.1,λ i H=>H a=some (.frz o (.dK kvs))/\kvs.length<=i⟩
theorem zLH {X:Cx}{jP:List (Addr × Obj)}{σ:L2.St}{H:Hp}{s:Shared}{a:Addr}{o:Obj}{kvs:List (Key × V)}{es:Array DictEntry}{ep:Nat}(I:Inv X jP σ H s) (ha:H a=some (.frz o (.dK kvs))) (hd:o.data = .dict es ep) :
  ∃vs,KV kvs vs/\kvs.length=vs.length/\s.heap.DictAt (zAc X.prog X.w) a vs ep:=by
 obtain⟨e,z,sy,vs,r,o',es',ep',h1,c1,d1,rest⟩:=(show ObjOk X.prog X.w H s.heap a (.frz o (.dK kvs)) from I.hok a _ ha);rw[e] at h1;cases h1;rw[hd] at d1;cases d1;exact⟨vs,r,Paired.length r,o,es,e,c1,hd,rest⟩
theorem zDn {P:Program}{w:World}{K:W.Frag}{tg:Expr}(a it:Addr) (o:Obj) (kvs:List (Key × V)):Turn P w K tg (Itd o a kvs) [it] it (λ i h=>∃es ep,o.data = .dict es ep/\h.IsKeyIter it a i kvs.length ep) where
 mem:=by simp
 obj:=λ i h st b hb=>by
  have e:b=it:=by simpa using hb
  subst e;obtain⟨_,_,_,ob,e,c,d⟩:=st;exact⟨ob,e,λ v z=>by rw[d] at z;cases z⟩
 keep:=λ i h h' st k=>by
  obtain⟨es,ep,hd,ob,e,r⟩:=st;exact⟨es,ep,hd,ob,k it (by simp) ob e,r⟩
 item:=by
  intro X hP hw hK hc i jP s σ H E I hf st hg;subst hP hw hK;obtain⟨ha,hi⟩:=hg;obtain⟨es,ep,hd,hit⟩:=st;obtain⟨vs,r,hl,hm⟩:=zLH I ha hd;obtain⟨v,hv⟩:=zLE r (lW hi);obtain⟨f0,f1,f2,f3,f4,f5⟩:=hf it (by simp);rw[hl] at hit;refine wpAny_pyNext_dict_item hit hm hv λ key h' hk hit' sb=>?_;have I1:Inv X jP σ H { s with heap:=h' }:=I.turned (t':=s.toks) (λ b o hb e=>(sb.2 b hb).trans e) f0 f1 f3 f4 f5;obtain⟨ob,e,c,d⟩:=id hit';rw[←hl] at hit';exact⟨key,rfl,go_of (s:={ s with heap:=h' }) e c d (by decide) ⟨_,H,I1,zMs hk,⟨rfl,_,lW hi,rfl⟩,⟨es,ep,hd,hit'⟩,λ b hb=>(hf b hb).1⟩⟩
 done:=by
  intro X hP hw hK hc i jP s σ H E I hf st hg;subst hP hw hK;obtain⟨ha,hi⟩:=hg;obtain⟨es,ep,hd,hit⟩:=st;obtain⟨vs,r,hl,hm⟩:=zLH I ha hd;obtain⟨f0,f1,f2,f3,f4,f5⟩:=hf it (by simp);rw[hl] at hit;exact wpAny_pyNext_dict_end (I.ok.hd hc) hit hm (List.getElem?_eq_none (by omega)) λ h' eb=>⟨rfl,I.turned (t':=s.toks) (λ b o hb e=>eb b o hb e) f0 f1 f3 f4 f5⟩
 self:=λ A i s Q E st h=>by
  obtain⟨es,ep,hd,hit⟩:=st;refine wpAny_pyIter_slot hit.typeIs F.slot_dict_keyiterator_iter (wpAny_call_entry F.slot_dict_keyiterator_iter hit.typeIs F.entry_dict_keyiterator_iter ?_ (F.args_dict_keyiterator_iter_1 _));show wpAny _ _ (ret (.ref it)) _ _ s;exact lB ⟨_,rfl, "dict_keyiterator", _,hit.typeIs,F.slot_dict_keyiterator_next.lookup,h⟩
def iDict (tl:TE):TI:=λ σ H R=>tl σ H λ x H1=>∃a kvs,x = .ref a/\((∃o,H1 a=some (.frz o (.dK kvs))/\R (Itd o a kvs) H1)\/(H1 a=some (.dK kvs)/\∀o,R (Itd o a kvs) (upd H1 a (.frz o (.dK kvs)))))
theorem zLq {X:Cx}{tg l:Expr}{tl:TE}(hl:PE X l tl):PI X tg l (iDict tl):=by
 intro jP s σ H R I h;refine thn (hl jP s σ H _ I h) λ v s1 ⟨x,H1,I1,r1,q1⟩=>?_;obtain⟨a,kvs,e,q⟩:=q1;subst e;cases r1;rcases q with ⟨o,ha,q⟩|⟨ha,q⟩
 ·obtain⟨e,z,sy,vs,r,o',es',ep',h1,c1,d1,rest⟩:=(show ObjOk X.prog X.w H1 s1.heap a (.frz o (.dK kvs)) from I1.hok a _ ha)
  rw[e] at h1;cases h1;refine wpAny_pyIter_dict (knd:=zAc X.prog X.w) (kvs:=vs) (ep:=ep') sy ⟨o,es',e,c1,d1,rest⟩ ?_;refine⟨s1.heap.objs.size,[s1.heap.objs.size],_,_,H1,rfl,I1.kept (t':=s1.toks) λ b o e=>lG _ e,zDn a _ o kvs,⟨es',ep',d1,_,lH _ rfl,rfl,by rw[Paired.length r];rfl⟩,λ b hb=>?_,q⟩;have e:b=s1.heap.objs.size:=by simpa using hb
  subst e;exact I1.fpOk (lQ _) (I1.hok.fresh (lQ _))
 ·obtain⟨z,sy,vs,r,o,es',ep',e,c1,d1,rest⟩:=(show ObjOk X.prog X.w H1 s1.heap a (.dK kvs) from I1.hok a _ ha)
  refine wpAny_pyIter_dict (knd:=zAc X.prog X.w) (kvs:=vs) (ep:=ep') sy ⟨o,es',e,c1,d1,rest⟩ ?_;have lt:=lI e;refine⟨s1.heap.objs.size,[s1.heap.objs.size],_,_,upd H1 a (.frz o (.dK kvs)),rfl,I1.write (t':=s1.toks) (x:=a) (e:=a) (by rw[ha];exact True.intro) (.inl rfl) (λ b o Ω e=>lG _ e) ⟨o,lG _ e⟩ ?_,zDn a _ o kvs,⟨es',ep',d1,_,lH _ rfl,rfl,by rw[Paired.length r];rfl⟩,λ b hb=>?_,q o⟩
  ·exact⟨lG _ e,z,sy,vs,r,o,es',ep',lG _ e,c1,d1,rest⟩
  ·have e:b=s1.heap.objs.size:=by simpa using hb
   subst e;exact I1.fpOk (lQ _) (by rw[zAK (Nat.ne_of_gt lt)];exact I1.hok.fresh (lQ _))
theorem zBi {K:W.Frag}{a:Addr}{xs:List V}{acc:Addr}{g:TG}{tt:TT}{te:TE}{σ:L2.St}{H:Hp}{R:Hp->Prop}(Pv:Nat->Hp->Prop) (h0:Pv 0 (upd H acc (.lst []))) (hl:∀i H,i<=xs.length->Pv i H->SqT K H a xs)
  (hs:∀i x H,xs[i]?=some x->Pv i H->g x σ H λ σ2 H4=>Ext σ σ2/\tt σ2 H4 λ b H5 =>
   if b=true then te σ2 H5 λ y H6=>∃zs,H6 acc=some (.lst zs)/\zs.length<sizeLine/\Pv (i+1) (upd H6 acc (.lst (zs++[y]))) else Pv (i+1) H5) (hd:∀H,Pv xs.length H->R H) :
  ∃W:Nat->Nat->Hp->Prop,(∃m,W 0 m (upd H acc (.lst [])))/\∀i m H2,W i m H2 ->
   ((Itt K a).stop i H2/\R H2)\/((Itt K a).go i H2/\∃N:Hp->Prop,(∀H',N H'->∃m',m'<m/\W (i+1) m' H')/\∀x H3,(Itt K a).yld i H2 x H3->g x σ H3 λ σ2 H4=>Ext σ σ2/\tt σ2 H4 λ b H5 =>
    if b=true then te σ2 H5 λ y H6=>∃zs,H6 acc=some (.lst zs)/\zs.length<sizeLine/\N (upd H6 acc (.lst (zs++[y])))
    else N H5):=by
 refine⟨λ i m H=>m=xs.length - i/\i<=xs.length/\Pv i H,⟨xs.length,by simp,lY _,h0⟩,?_⟩;rintro i m H2 ⟨rfl,hi,p⟩;have q:=hl i H2 hi p
 by_cases hlt:i<xs.length
 ·refine .inr ⟨⟨xs,xs[i],q,by simp[hlt]⟩,Pv (i+1),λ H' p'=>⟨xs.length - (i+1),by omega,rfl,hlt,p'⟩,λ x H' y=>?_⟩
  obtain⟨e,y⟩:=y;subst e;exact hs i x _ (y xs q) p
 ·have e:i=xs.length:=by omega
  subst e;exact .inl ⟨⟨xs,q,lQ _⟩,hd H2 p⟩
theorem zHM {α:Type}:∀{l:List α},l.Nodup->∀{i j:Nat}{a:α},l[i]?=some a->l[j]?=some a->i=j
 |[],_,i,j,a,h,_=>by simp at h
 |x::l,nd,0,0,a,_,_=>rfl
 |x::l,nd,0,j+1,a,h1,h2=>by
  rw[rG] at nd;have e:x=a:=by simpa using h1
  exact absurd (e▸lM (show l[j]?=some a by simpa using h2)) nd.1
 |x::l,nd,i+1,0,a,h1,h2=>by
  rw[rG] at nd;have e:x=a:=by simpa using h2
  exact absurd (e▸lM (show l[i]?=some a by simpa using h1)) nd.1
 |x::l,nd,i+1,j+1,a,h1,h2=>by
  rw[rG] at nd;rw[zHM nd.2 (i:=i) (j:=j) (a:=a) (by simpa using h1) (by simpa using h2)]
theorem zFF {X:Cx}{K:W.Frag}{es:List Expr}{k:Nat}{t:TGs}{n:Nat}{pos:Pos}(hK:X.K=K) (hc:X.calm=true) (h:PGs X es t)
  (hn:(assignEach es X.env).length=n:=by rfl) (hst:(assignEach es X.env).findIdx? (·.1)=none:=by rfl):PG X (.Tuple es k pos) (gTup K n t):=hK▸zCc hc h hn hst
section
variable {X:Cx}
theorem zDQ:∀{bs:List Bool}{us:List Value},Vals (bs.map V.bl) us->LSm.BoolsAre us bs
 |[],_,h=>by cases h;exact .nil
 |b::bs,_,h=>by
  cases h with
  |cons r t =>
   cases r;exact .cons b (zDQ t)
theorem zER (hc:X.calm=true):CallR X (.builtin "all") (λ xs H Q=>∃(l:Addr) (bs:List Bool),xs=[.ref l]/\H l=some (.lst (bs.map V.bl))/\Q (.bl (bs.all id)) H):=by
 intro jP s σ H xs us Q I r h;obtain⟨l,bs,rfl,hl,q⟩:=h;obtain⟨u,rfl,ru⟩:=vals1 r;cases ru;obtain⟨_,its,n,rv,le,e⟩:=I.lstM hl;have L1:s.heap.IsList l its.toArray:=⟨_,e,rfl,_,rfl⟩;have hb:=zDQ rv;have hlt:l<s.heap.objs.size:=lI e;refine call_all_walk (wpAny_pyIter_list L1 ?_)
 refine⟨s.heap.objs.size,[s.heap.objs.size,l],[s.heap.objs.size],its.toArray.size,_,_,λ i=>(bs[i]?).getD true,rfl,Walks.list (A:=X.A.in1) (I.ok.hd hc) _ l (lS hlt) its.toArray,
  ⟨⟨_,lH _ rfl,rfl,rfl⟩,L1.push _⟩,λ i v s' Q' E' hP hQ=>?_,λ h' tk hk=>?_⟩
 ·obtain⟨b,e,rfl⟩:=hb.get i v (by simpa using hP)
  simp only[e,Option.getD_some] at hQ;exact wpAny_truthy_bool hQ
 ·have e:((List.range its.toArray.size).all λ i=>(bs[i]?).getD true)=bs.all id:=by
   rw[mH,hb.length];exact LSm.range_all bs
  rw[e];exact⟨.bl (bs.all id),H,I.kept (LSm.kept_iter hk),rfl,q⟩
theorem zM7 (hu:X.A.units+1<cLine):OpR X (compareOp .In) (λ x y H Q=>∃(a:Addr) (o:Option V),y = .ref a/\DGet H a x o/\Q (.bl o.isSome) H):=by
 intro jP s σ H x y v u Q I rx ry h;obtain⟨a,o,rfl,g,q⟩:=h;cases ry;exact d_in hu I g rx λ s' I'=>⟨.bl o.isSome,H,I',rfl,q⟩
theorem zLx (hu:X.A.units<cLine):OpR X (compareOp .Eq) (λ x y H Q=>∃(a b:Addr) (xs:List V),x = .ref a/\y = .ref b/\H a=some (.lst xs)/\H b=some (.lst [])/\Q (.bl (xs.length == 0)) H):=by
 intro jP s σ H x y v u Q I rx ry h;obtain⟨a,b,xs,rfl,rfl,ha,hb,q⟩:=h;cases rx;cases ry;obtain⟨_,its,n,r1,l1,e1⟩:=I.lstM ha;obtain⟨_,its2,n2,r2,l2,e2⟩:=I.lstM hb;have L1:s.heap.IsList a its.toArray:=⟨_,e1,rfl,_,rfl⟩;have L2:s.heap.IsList b its2.toArray:=⟨_,e2,rfl,_,rfl⟩;have z2:its2.toArray.size=0:=by rw[mH];exact l2.symm
 by_cases hl:xs.length=0
 ·refine SeqAt.eq_listAt (e:=λ Ω=>true) L1 L2 (by rw[z2,mH];omega) hu (λ j Ω h2=>absurd h2 (by omega)) ?_
  have e:(List.range its.toArray.size).all (λ Ω=>true)=(xs.length == 0):=by rw[hl];simp
  rw[e];exact⟨.bl (xs.length == 0),H,I,rfl,q⟩
 ·refine SeqAt.eq_list_lengthsAt L1 L2 (by rw[z2,mH,bne_iff_ne];omega) hu ⟨.bl false,H,I,rfl,?_⟩
  have e:(xs.length == 0)=false:=by simpa using hl
  rw[e] at q;exact q
theorem zCm {prog:Program}{w:World}{A:Around}{E:XQ}{s:Shared}{t sl:Addr}{items:Array Value}{vl vu:Value}{lo hi:Option Int}{Q:XQ}(ht:IsTup s.heap t items) (hs:s.heap.IsSliceOf sl vl vu .none) (pl:IsPart vl lo) (pu:IsPart vu hi)
  (hw:HT.sIx items.size 0 lo=0/\HT.sIx items.size items.size hi=items.size) (h:Q (.ref t) s):wpAny (model prog w) A (getItem (.ref t) (.ref sl)) Q E s:=by
 obtain⟨os,hos,hcs,hds⟩:=id hs;have hTs:s.TypeIs (.ref sl) "slice" := ⟨os,hos,hcs⟩;unfold getItem
 try with_reducible refine lE ?_
 first|refine lA (lB ?_)|skip
 refine lA (wpAny_sequenceKey ht.typeIs (by decide) ?_)
 refine lA (wpAny_callSpecial?_slot (name:=Str.ofString "__getitem__") ht.typeIs PyProof.Rows.slot_tuple_getitem
  (wpAny_call_entry PyProof.Rows.slot_tuple_getitem ht.typeIs entry_tuple_getitem ?_ (args_tuple_getitem _ _)))
 show wpAny _ _ (Builtin.Tuple.tupleItemsOf (.ref t) >>= _) _ _ s;refine lA (tupleItemsOf_ ht ?_);refine lA (wpAny_typeOf hTs ?_);rw[if_pos (by decide)];refine lA (HT.sliceApplied_gen hs pl pu ?_)
 have hyes:(((HT.sIx items.size 0 lo:Nat):Int) == 0 && (1:Int) == 1 && (HT.sIx items.size items.size hi - HT.sIx items.size 0 lo) == items.size)=true:=by
  rw[hw.1,hw.2];simp
 show wpAny _ _ (if (((HT.sIx items.size 0 lo:Nat):Int) == 0 && (1:Int) == 1 && (HT.sIx items.size items.size hi - HT.sIx items.size 0 lo) == items.size)=true then _ else _) _ _ s;rw[if_pos hyes];refine lA ?_;unfold Builtin.Tuple.tupleIsExact;refine lA (wpAny_typeOf ht.typeIs (lB ?_));rw[if_pos (by decide)]
 first
  |exact lA (wpAny_rule (lA (lB (lB ⟨_,rfl,lB h⟩))))
  |exact lA (wpAny_rule (lB ⟨_,rfl,lB h⟩))
  |exact lA (wpAny_rule (lA (lB ⟨_,rfl,lB h⟩)))
def rSlW:V->Option Int->Option Int->Hp->VK->Prop:=λ x lo hi H Q=>∃a xs,x = .ref a/\H a=some (.tup xs)/\∀p H',Same H H'->H' p=some (.tup (cutV xs lo hi))->Q (.ref p) H'
theorem zLX:SlR X rSlW:=by
 intro jP s σ H x v vl vu lo hi sl Q I rx hs pl pu h;obtain⟨a,xs,rfl,ha,q⟩:=h
 by_cases hw:HT.sIx xs.length 0 lo=0/\HT.sIx xs.length xs.length hi=xs.length
 ·cases rx
  obtain⟨its,r,ht,hz⟩:=I.tuple (SqT.of ha);have hlen:its.toArray.size=xs.length:=by rw[mH];exact r.length.symm
  refine⟨"tuple", _,PyProof.Rows.slot_tuple_getitem.lookup,ht.typeIs,?_⟩;refine zCm ht hs pl pu (by rw[hlen];exact hw) ⟨.ref a,H,I,rfl,q a H (.refl H) ?_⟩;rw[ha];unfold cutV;rw[hw.1,hw.2];simp
 ·exact zK3 jP s σ H (.ref a) v vl vu lo hi sl Q I rx hs pl pu ⟨a,xs,rfl,SqT.of ha,hw,λ p hp=>q p _ (zAC hp) zAA⟩
end
structure Sd (p:Prop):Prop where
 un:p
section
variable {X:Cx}{st:Stmt}{rest:List Stmt}{t u:TS}{e a b:Expr}{es:List Expr}{te ta tb:TE}{tA:TA}{pos:Pos}
theorem zAT (h1:Sd (PS X st t)) (h2:Sd (PSs X rest u)):Sd (PSs X (st::rest) (tSeq t u)):=⟨zAE h1.un h2.un⟩
theorem zAr (h1:Sd (PS X st t)):Sd (PSs X [st] t):=⟨zAF h1.un⟩
theorem zCy {c:Expr}{x y:List Stmt}{tc:TT}(hc:Sd (PT X c tc)) (ha:Sd (PSs X x t)) (hb:Sd (PSs X y u)):Sd (PS X (.If c x y pos) (tIfS tc t u)):=⟨ps_if hc.un ha.un hb.un⟩
theorem zBv (he:Sd (PE X e te)):Sd (PS X (.Return (some e) pos) (tRet te)):=⟨zAV he.un⟩
theorem zLj {i:Nat}{x:Str}{pos':Pos}(hN:X.N.Nodup) (hi:X.N[i]?=some x) (hx:Loc X.env.scope x) (he:Sd (PE X e te)) (hs:swapsWith e (some (.Name x pos')) pos.line X.env=pure false:=by rfl) (hf:X.fn x=true\/X.env.scope.names.lookup x=some .local:=by first|exact .inl rfl|exact .inr rfl|assumption) :
  Sd (PS X (.Assign [.Name x pos'] e pos) (tAsg te (gName i))):=⟨zHF hN hi hx he.un hs hf⟩
theorem pSS {i:Nat}{x:Str}{pos':Pos}(hN:X.N.Nodup)(he:Sd (PE X e te))(hi:X.N[i]?=some x:=by rfl)(hx:Loc X.env.scope x:=by exact Or.inl rfl)(hs:swapsWith e (some (.Name x pos')) pos.line X.env=pure false:=by rfl)(hf:X.fn x=true\/X.env.scope.names.lookup x=some .local:=by first|exact .inl rfl|exact .inr rfl|assumption):Sd (PS X (.Assign [.Name x pos'] e pos) (tAsg te (gName i))):=zLj hN hi hx he hs hf
theorem zCk {k:Nat}(h:Sd (PA X es tA)):Sd (PE X (.Tuple es k pos) (tTup tA)):=⟨zAv h.un⟩
theorem zFG (h:Sd (PA X es tA)):Sd (PE X (.List es pos) (tLst tA)):=⟨zA1 h.un⟩
theorem zAg (ha:Sd (PE X e te)) (hr:Sd (PA X es tA)) (hs:starEach (e::es) X.env=(false,eval e X.env)::starEach es X.env:=by rfl):Sd (PA X (e::es) (tCons te tA)):=⟨zAB ha.un hr.un hs⟩
theorem zLA {r:R2}(hr:IxR X r) (ha:Sd (PE X a ta)) (hb:Sd (PE X b tb)) (hs:zJo b):Sd (PE X (.Subscript a b pos) (tOp r ta tb)):=⟨pe_ix hr ha.un hb.un hs⟩
end
section
variable {X:Cx}
theorem zHo (bs:List Bool):((List.range bs.length).any λ i=>(bs[i]?).getD false)=bs.any id:=by
 rw[Bool.eq_iff_iff,List.any_eq_true,List.any_eq_true];constructor
 ·rintro⟨i,hi,h⟩
  have hl:=List.mem_range.mp hi;rw[nQ hl] at h;exact⟨bs[i],List.getElem_mem hl,h⟩
 ·rintro⟨b,hb,h⟩
  obtain⟨i,hl,e⟩:=List.getElem_of_mem hb;exact⟨i,List.mem_range.mpr hl,by rw[nQ hl,e];exact h⟩
theorem zBj (hc:X.calm=true):CallR X (.builtin "any") (λ xs H Q=>∃(l:Addr) (bs:List Bool),xs=[.ref l]/\H l=some (.lst (bs.map V.bl))/\Q (.bl (bs.any id)) H):=by
 intro jP s σ H xs us Q I r h;obtain⟨l,bs,rfl,hl,q⟩:=h;obtain⟨u,rfl,ru⟩:=vals1 r;cases ru;obtain⟨_,its,n,rv,le,e⟩:=I.lstM hl;have L1:s.heap.IsList l its.toArray:=⟨_,e,rfl,_,rfl⟩;have hb:=zDQ rv;have hlt:l<s.heap.objs.size:=lI e;refine call_any_walk (wpAny_pyIter_list L1 ?_)
 refine⟨s.heap.objs.size,[s.heap.objs.size,l],[s.heap.objs.size],its.toArray.size,_,_,λ i=>(bs[i]?).getD false,rfl,Walks.list (A:=X.A.in1) (I.ok.hd hc) _ l (lS hlt) its.toArray,
  ⟨⟨_,lH _ rfl,rfl,rfl⟩,L1.push _⟩,λ i v s' Q' E' hP hQ=>?_,λ h' tk hk=>?_⟩
 ·obtain⟨b,e,rfl⟩:=hb.get i v (by simpa using hP)
  simp only[e,Option.getD_some] at hQ;exact wpAny_truthy_bool hQ
 ·have e:((List.range its.toArray.size).any λ i=>(bs[i]?).getD false)=bs.any id:=by
   rw[mH,hb.length];exact zHo bs
  rw[e];exact⟨.bl (bs.any id),H,I.kept (LSm.kept_iter hk),rfl,q⟩
end
section
variable {X:Cx}
open Classical in
noncomputable def eqW (H:Hp) (dx:Dt) (w:Value):Bool:=decide (∃x d,RelV x w/\DR H d x/\Dt.beq d dx=true)
end
end L2
namespace PySem
open Sem (wp)
namespace F
theorem dul_entry:entryFor table "dict.update.loop" = some Builtin.«dict.update.loop»:=entryFor_of_tree (by kernel_rfl)
theorem dul_plain:plainId "dict.update.loop" = true:=by symm
theorem tuple_no_keys:typeLookup (.type "tuple") "keys" = pure none:=am_miss_of_fast (by symm)
end F
theorem zC7 {prog:Program}{w:World}{A:Around}{E:XQ}{s:Shared}{a:Addr}{o:Obj}{xs:Array Value}{k:Nat}{name:Str}{Q:Option Value->Shared->Prop}
  (hx:s.heap.get? a=some o) (hc:o.cls = .type "tuple") (hdat:o.data = .seq xs k) (hd:o.dict=none) (hmiss:typeLookup (.type "tuple") name=pure none)
  (hname:(["__module__", "__name__", "__qualname__", "__doc__", "__annotations__"]:List Str).contains name=false) (hA:A.handled=none) (hsz:name.length+100<=sizeLine)
  (h:∀h' tk,(∀b ob,s.heap.get? b=some ob->h'.get? b=some ob)->Q none { s with heap:=h',toks:=tk }):wpAny (model prog w) A (getAttr? (.ref a) name) Q E s:=by
 obtain⟨c,dct,dat,sl⟩:=o;simp only at hc hdat hd;subst hc hdat hd;obtain⟨hp,g,d,tk,os⟩:=s;have hT:∀tk',(⟨hp,g,d,tk',os⟩:Shared).TypeIs (.ref a) "tuple" := λ Ω=>⟨_,hx,rfl⟩;have f1:=sub_AttributeError;have f3:=F.slot_tuple_getattribute.lookup;have f4:=F.slot_tuple_getattribute.bind (.ref a);have f5:=am_tuple_getattr_none;unfold getAttr? getAttrBy? getAttrBy
 repeat (any_goals (first|assumption|exact hT _|((with_reducible show wpAny _ _ (call (Value.builtin "tuple.__getattribute__") _ _) _ _ _);refine call_meets F.slot_tuple_getattribute (hT _) am_entry_tuple_getattribute (F.args_tuple_getattribute_2 _ _) (meets_getattribute_miss_tuple a xs k sl name _ hmiss hname hsz) ⟨hx,hA,λ h' tk' e hx'=>?_⟩)|wp_step))
 obtain⟨t',u',he⟩:=hx'.there;show wpAny _ _ (getattributeRaised _ _ _ _ _ _ _) _ _ _;unfold getattributeRaised
 repeat (any_goals (first|assumption|wp_step))
 all_goals first
  |exact h _ _ hx'.keeps
  |skip
section
variable {prog:Program}{w:World}{K:Type} [DecidableEq K] {knd:KeyKind prog w K}{A:Around}{R:Result->Shared->Prop}{E:XQ}
def zGt (knd:KeyKind prog w K) (h:Heap) (its:List Value) (prs:List (K × Value)):Prop :=
 its.length=prs.length/\∀(i:Nat) (x:Value),its[i]?=some x->∃(pa:Addr) (key:Value) (kv:K × Value),x=Value.ref pa/\prs[i]?=some kv/\h.IsTuple pa #[key,kv.2]/\knd.is kv.1 key=true
theorem Heap.IsTuple.kept {h h':Heap}{a:Addr}{xs:Array Value}(x:h.IsTuple a xs) (k:∀b o,h.get? b=some o->h'.get? b=some o):h'.IsTuple a xs :=
 let ⟨o,ho,r⟩:=x;⟨o,k a o ho,r⟩
theorem zKi {h0:Heap}{d it t:Addr}{items:Array Value}{prs:List (K × Value)}(hA:A.handled=none) (hld:h0.objs.size<=d) (hli:h0.objs.size<=it) (hne:d≠it)
  (ht:h0.IsTuple t items) (hp:zGt knd h0 items.toList prs) (hsz:prs.length<=sizeLine) :
  ∀(n i:Nat) (s:Shared),items.size - i=n->i<=items.size->(∀b o,h0.get? b=some o->s.heap.get? b=some o)->s.heap.IsTupleIter it t i->s.heap.DictOf knd d (merged [] (prs.take i)) ->
   (∀h' tk,(∀b o,h0.get? b=some o->h'.get? b=some o)->h'.DictOf knd d (merged [] prs)->R (.ok (.ret .none)) { s with heap:=h',toks:=tk }) ->
   codeAny (model prog w) A (.builtin "dict.update.loop" ⟨[.ref d,.ref it,.int (i:Int) 0,.none],[]⟩) R s:=by
 have hlen:items.size=prs.length:=by rw[←hp.1];simp
 intro n
 induction n with
 |zero =>
  intro i s hn hi kp hit hd hR;have e:i=items.size:=by omega
  subst e;refine codeAny_builtin F.dul_entry ?_;rw[Around.under_plainId F.dul_plain _];refine lA (wpAny_pyNext_tuple_end (show A.in1.handled=none from hA) hit (ht.kept kp) (by simp) λ h' he=>?_);show wpAny _ _ (Builtin.Dict.addKeywords d [] >>= _) _ _ _;refine lA (lB (lB (hR h' s.toks (λ b o hb=>he b o (lS (lZ (lI hb) hli)) (kp b o hb)) ?_)));rw[hlen,mP] at hd;obtain⟨o,es,ep,ho,rest⟩:=hd;exact⟨o,es,ep,he d o hne ho,rest⟩
 |succ n ih =>
  intro i s hn hi kp hit hd hR;have hlt:i<items.size:=by omega
  obtain⟨pa,key,kv,ex,ekv,htp,hkey⟩:=hp.2 i items[i] (by simp[hlt]);refine codeAny_builtin F.dul_entry ?_;rw[Around.under_plainId F.dul_plain _];refine lA (wpAny_pyNext_tuple_item hit (ht.kept kp) (x:=items[i]) (by simp[hlt]) λ h1 hit1 hs1=>?_);have kp1:∀b o,h0.get? b=some o->h1.get? b=some o:=λ b o hb=>hs1.extBut b o (lS (lZ (lI hb) hli)) (kp b o hb);rw[ex];have htp1:=htp.kept kp1;refine lA (lE (lA (wpAny_tryCatch ?_)));unfold Builtin.Dict.pairItems;refine lA (wpAny_typeOf (s:={ s with heap:=h1 }) (v:=.ref pa) (T := "tuple") htp1.typeIs ?_);rw[if_pos (by decide)];obtain⟨o2,ho2,hc2,n2,hd2⟩:=htp1;refine lA (wpAny_seqItems ho2 hd2 (lB ?_))
  have hd1:h1.DictOf knd d (merged [] (prs.take i)):=by
   obtain⟨o,es,ep,ho,rest⟩:=hd;exact⟨o,es,ep,hs1.extBut d o hne ho,rest⟩
  have hml:(merged [] (prs.take i)).length<=sizeLine:=by
   have e1:=merged_length_le ([]:List (K × Value)) (prs.take i);rw[List.length_nil,mO] at e1;omega
  show wpAny _ _ (holding [key,kv.2] (dictSet d key kv.2)) _ _ _;refine lE (wpAny_dictSet_pairs (hsz:=hml) hkey hd1 λ h2 hd2 hs2=>?_);refine lB ⟨plainId_quiet F.dul_plain _,?_⟩;refine ih (i+1) _ (by omega) hlt (λ b o hb=>hs2.extBut b o (lS (lZ (lI hb) hld)) (kp1 b o hb)) (hit1.extBut hs2.extBut (Ne.symm hne)) ?_ λ h' tk k' d'=>hR h' tk k' d';rw[merged_take_succ [] prs i kv ekv];exact hd2
theorem zEQ {s:Shared}{t:Addr}{o:Obj}{items:Array Value}{n:Nat}{prs:List (K × Value)}{Q:XQ}(hA:A.handled=none) (hx:s.heap.get? t=some o) (hc:o.cls = .type "tuple") (hdat:o.data = .seq items n) (hdn:o.dict=none)
  (hp:zGt knd s.heap items.toList prs) (hsz:prs.length<=sizeLine)
  (h:∀h' tk,(∀b o,s.heap.get? b=some o->h'.get? b=some o)->h'.DictOf knd s.heap.objs.size (merged [] prs)->Q (.ref s.heap.objs.size) { s with heap:=h',toks:=tk }) :
  wpAny (model prog w) A (call (.type "dict") [.ref t]) Q E s:=by
 refine callType_codes (Q₁:=λ obj s₁=>obj = .ref s.heap.objs.size/\s₁={ s with heap:=s.heap.push { cls:=.type "dict", data:=.dict #[] } }) F.kt_called_dict (F.kt_typeCall_dict_1 _) F.entry_dict_init (kt_code_dict_new _ ⟨rfl,rfl⟩) ?_;rintro obj s₁ ⟨rfl,rfl⟩;have hnew:(s.heap.push { cls:=.type "dict", data:=.dict #[] }).DictOf knd s.heap.objs.size []:=Heap.DictOf.new s.heap;have kp0:∀b o,s.heap.get? b=some o->(s.heap.push { cls:=.type "dict", data:=.dict #[] }).get? b=some o:=λ b o hb=>lG _ hb;have ht0:s.heap.IsTuple t items:=⟨o,hx,hc,n,hdat⟩;refine⟨hnew.typeIs,F.args_dict_init_2 _ _,?_⟩;unfold Builtin.«dict.__init__»;refine lA ?_;unfold Builtin.Dict.selfAndRest;refine lA (wpAny_notOrdered_dict hnew.typeIs ?_);show wpAny _ _ (pure (s.heap.objs.size,[Value.ref t])) _ _ _;refine lB ?_;show wpAny _ _ (Builtin.Dict.updateFrom "dict.__init__" s.heap.objs.size (.ref t) [] .none) _ _ _;unfold Builtin.Dict.updateFrom;refine lA (wpAny_typeOf (v:=.ref t) (T := "tuple") (ht0.kept kp0).typeIs ?_);rw[if_pos (by decide)];refine lA (zC7 (kp0 _ _ hx) hc hdat hdn F.tuple_no_keys (by symm) hA (by size_fits) λ h1 tk kp1=>?_);rw[if_pos (show (Option.none:Option Value).isNone=true from rfl)];have kp01:∀b o,s.heap.get? b=some o->h1.get? b=some o:=λ b o hb=>kp1 b o (kp0 b o hb);refine lA (wpAny_rule ?_);refine lA (wpAny_pyIter_tuple (ht0.kept kp01) ?_)
 have hd1:h1.DictOf knd s.heap.objs.size []:=by
  obtain⟨o,es,ep,ho,rest⟩:=hnew;exact⟨o,es,ep,kp1 _ _ ho,rest⟩
 have hsd:s.heap.objs.size<h1.objs.size:=let ⟨_,_,_,ho,_⟩:=hd1;lI ho;refine lB ⟨plainId_quiet F.dul_plain _,?_⟩;refine zKi (h0:=s.heap) (knd:=knd) (A:=A.in1) hA (lQ _) (Nat.le_of_lt hsd) (lS hsd) ht0 hp hsz items.size 0 _ (by omega) (lY _) (λ b o hb=>lG _ (kp01 b o hb)) ⟨_,lH _ rfl,rfl,rfl⟩ (hd1.push _) λ h' tk' k' d'=>?_;exact⟨rfl,h h' tk' k' d'⟩
end
end PySem
namespace L2
open PySem PySem.Spec PyProof.Rows
section
variable {X:Cx}
theorem zGq:CallR X (.type "tuple") (λ xs H Q=>∃p ys,xs=[.ref p]/\SqL X.K H p ys/\∀(l:Addr) (o:Obj),H l=none->o.dict=none->Q (.ref l) (upd H l (.frz o (.tup ys)))):=by
 intro jP s σ H xs us Q I r h;obtain⟨p,ys,rfl,hq,q⟩:=h;obtain⟨u,rfl,rx⟩:=vals1 r;cases rx;obtain⟨its,r',pl,hz⟩:=I.list hq;have hlen:=r'.length;refine call_tuple_list pl.isList (λ h' kp=>?_) (by simp only[mH]<;>omega);have I1:Inv X jP σ H { s with heap:=h' }:=I.kept (t':=s.toks) kp;have I2:=I1.laid (o:=.frz { cls:=.type "tuple", data:=.seq its.toArray } (.tup ys)) (t':=s.toks) (h':=h'.push { cls:=.type "tuple", data:=.seq its.toArray }) (λ b o e=>lG _ e) (lQ h'.objs.size) ⟨lH _ rfl,hz,its,r',IsTup.new _ _⟩;exact⟨.ref h'.objs.size,_,I2,rfl,q _ _ (I1.hok.fresh (lQ _)) rfl⟩
def PrV (H:Hp) (y:V) (kv:Key × V):Prop:=∃b,y = .ref b/\H b=some (.tup [kV kv.1,kv.2])
set_option tactic.hygienic true in
theorem zK7 {P:Program}{w:World}{H:Hp}{h:Heap}(ok:HOk P w H h):∀{ys:List V}{kvs:List (Key × V)},Paired (PrV H) ys kvs->∀{its:List Value},Vals ys its->∃prs,zGt (zAc P w) h its prs/\KV kvs prs
 |_,_,.nil,its,r=>by
  cases r;exact⟨[],⟨rfl,λ i x hx=>by simp at hx⟩,.nil⟩
 |_,_,.cons (b:=kv) hy hr,its,r=>by
  cases r with
  |cons r1 r2 =>
   obtain⟨prs,⟨pl,pp⟩,k⟩:=zK7 ok hr r2;obtain⟨b,rfl,hb⟩:=hy;cases r1;obtain⟨_,its2,rv,tp⟩:=(show ObjOk P w H h b (.tup [kV kv.1,kv.2]) from ok b _ hb);cases rv with
   |cons q1 rv=>cases rv with
    |cons q2 rv =>
     cases rv;rename_i key val;refine⟨(kv.1,val)::prs,⟨by simp[pl],λ i x hx=>?_⟩,.cons ⟨rfl,q2⟩ k⟩;cases i with
     |zero =>
      simp at hx;exact⟨b,key,(kv.1,val),hx.symm,rfl,tp,kV_is q1⟩
     |succ i =>
      simp at hx;obtain⟨pa,key',kv',h1,h2,h3,h4⟩:=pp i x hx;exact⟨pa,key',kv',h1,by simpa using h2,h3,h4⟩
def zMx:List V->Hp->VK->Prop:=λ xs H Q=>∃(a:Addr) (o:Obj) (ys:List V) (kvs:List (Key × V)),xs=[.ref a]/\H a=some (.frz o (.tup ys))/\o.dict=none/\Paired (PrV H) ys kvs/\kvs.length<=1000/\∀p,H p=none->Q (.ref p) (upd H p (.dK (zB1 [] kvs)))
theorem zE2 (hc:X.calm=true):CallR X (.type "dict") zMx:=by
 intro jP s σ H xs us Q I r h;obtain⟨a,o,ys,kvs,rfl,ha,hdn,hp,hl,q⟩:=h;obtain⟨u,rfl,ru⟩:=vals1 r;cases ru;obtain⟨hx,hz,its,rv,o',ho',hcl,n,hdat⟩:=(show ObjOk X.prog X.w H s.heap a (.frz o (.tup ys)) from I.hok a _ ha);rw[hx] at ho';cases ho';obtain⟨prs,hpi,k⟩:=zK7 I.hok hp rv;have hkl:prs.length<=sizeLine:=by rw[←k.length];exact zAh hl
 have hm:(zB1 [] kvs).length<=sizeLine:=by
  have:=zC5 kvs [];rw[List.length_nil] at this;exact zAh (by omega)
 refine zEQ (knd:=zAc X.prog X.w) (I.ok.hd hc) hx hcl hdat hdn (by simpa using hpi) hkl λ h' tk kp d'=>?_;have hn:=I.hok.fresh (lQ s.heap.objs.size);refine⟨.ref s.heap.objs.size,_,I.laid (a:=s.heap.objs.size) (o:=.dK (zB1 [] kvs)) (t':=tk) kp (lQ _) (zJU hm (beq_eq_false_iff_ne.mpr (Ne.symm (lS I.big))) (k.merge .nil) d'),rfl,q _ hn⟩
end
theorem zE1 {o:Obj}{a:Addr}{kvs:List (Key × V)}{acc:Addr}{g:TG}{tt:TT}{te:TE}{σ:L2.St}{H:Hp}{R:Hp->Prop}(Pv:Nat->Hp->Prop) (h0:Pv 0 (upd H acc (.lst []))) (hl:∀i H,i<=kvs.length->Pv i H->H a=some (.frz o (.dK kvs)))
  (hs:∀i p H,kvs[i]?=some p->Pv i H->g (kV p.1) σ H λ σ2 H4=>Ext σ σ2/\tt σ2 H4 λ b H5 =>
   if b=true then te σ2 H5 λ y H6=>∃zs,H6 acc=some (.lst zs)/\zs.length<sizeLine/\Pv (i+1) (upd H6 acc (.lst (zs++[y]))) else Pv (i+1) H5) (hd:∀H,Pv kvs.length H->R H) :
  ∃W:Nat->Nat->Hp->Prop,(∃m,W 0 m (upd H acc (.lst [])))/\∀i m H2,W i m H2 ->
   ((Itd o a kvs).stop i H2/\R H2)\/((Itd o a kvs).go i H2/\∃N:Hp->Prop,(∀H',N H'->∃m',m'<m/\W (i+1) m' H')/\∀x H3,(Itd o a kvs).yld i H2 x H3->g x σ H3 λ σ2 H4=>Ext σ σ2/\tt σ2 H4 λ b H5 =>
    if b=true then te σ2 H5 λ y H6=>∃zs,H6 acc=some (.lst zs)/\zs.length<sizeLine/\N (upd H6 acc (.lst (zs++[y])))
    else N H5):=by
 refine⟨λ i m H=>m=kvs.length - i/\i<=kvs.length/\Pv i H,⟨kvs.length,by simp,lY _,h0⟩,?_⟩;rintro i m H2 ⟨rfl,hi,p⟩;have q:=hl i H2 hi p
 by_cases hlt:i<kvs.length
 ·refine .inr ⟨⟨q,hlt⟩,Pv (i+1),λ H' p'=>⟨kvs.length - (i+1),by omega,rfl,hlt,p'⟩,λ x H' y=>?_⟩
  obtain⟨e,p',hp',ex⟩:=y;subst e ex;exact hs i p' _ hp' p
 ·have e:i=kvs.length:=by omega
  subst e;exact .inl ⟨⟨q,lQ _⟩,hd H2 p⟩
theorem zEg:∀(more kvs:List (Key × V)) (k:Key),valV (zB1 kvs more) k=match valV more.reverse k with|some v=>some v|none=>valV kvs k
 |[],kvs,k=>rfl
 |p::more,kvs,k=>by
  show valV (zB1 (putK kvs p.1 p.2) more) k=_;rw[zEg more,zGu,List.reverse_cons];unfold valV;rw[List.find?_append];cases e:List.find? (λ kv:Key × V=>decide (kv.1=k)) more.reverse with
  |some z=>simp
  |none =>
   by_cases h:k=p.1
   ·simp[h]
   ·have h':¬p.1=k:=λ z=>h z.symm
    simp[h,h']
open PySem.W
def Ev (r:Nat->Nat->Bool) (n:Nat) {α:Type}:KasT α->(α->Prop)->Prop
 |.ret a,Q=>Q a
 |.ask i j k,Q=>i<n/\j<n/\i≠j/\Ev r n (k (r i j)) Q
theorem Ev.bind {r:Nat->Nat->Bool}{n:Nat}{α β:Type}{f:α->KasT β}{Q:β->Prop}:∀{t:KasT α},Ev r n t (λ a=>Ev r n (f a) Q)->Ev r n (t.bind f) Q
 |.ret _,h=>h
 |.ask i j k,h=>⟨h.1,h.2.1,h.2.2.1,Ev.bind (t:=k (r i j)) h.2.2.2⟩
theorem Ev.mono {r:Nat->Nat->Bool}{n:Nat}{α:Type}{Q R:α->Prop}(hq:∀a,Q a->R a):∀{t:KasT α},Ev r n t Q->Ev r n t R
 |.ret a,h=>hq a h
 |.ask i j k,h=>⟨h.1,h.2.1,h.2.2.1,Ev.mono hq (t:=k (r i j)) h.2.2.2⟩
theorem Ev.wp {r:Nat->Nat->Bool}{n:Nat}{cmp:Nat->Nat->(Bool->Shared->Prop)->Shared->Prop}{St:Shared->Prop}(hc:∀i j C s,i<n->j<n->i≠j->St s->(∀s',St s'->C (r i j) s')->cmp i j C s) {α:Type}{Q:α->Prop}{G:α->Shared->Prop}(hG:∀a s,Q a->St s->G a s) :
  ∀{t:KasT α}{s:Shared},Ev r n t Q->St s->t.kasWp cmp G s
 |.ret a,s,h,hs=>hG a s h hs
 |.ask i j k,s,h,hs=>hc i j _ s h.1 h.2.1 h.2.2.1 hs λ s' hs'=>Ev.wp hc hG (t:=k (r i j)) h.2.2.2 hs'
structure Ord (n:Nat) (r:Nat->Nat->Bool):Prop where
 tot:∀i j,i<n->j<n->i≠j->r i j=false->r j i=true
 asym:∀i j,i<n->j<n->r i j=true->r j i=false
 trans:∀i j k,i<n->j<n->k<n->r i j=true->r j k=true->r i k=true
section
variable {n:Nat}{r:Nat->Nat->Bool}
abbrev lt (r:Nat->Nat->Bool) (p:Array Nat) (i j:Nat):Bool:=r (p.getD i 0) (p.getD j 0)
def PermN (n:Nat) (p:Array Nat):Prop:=p.toList.Perm (List.range n)
theorem PermN.size {p:Array Nat}(h:PermN n p):p.size=n:=by have:=h.length_eq;simpa using this
theorem PermN.lt {p:Array Nat}(h:PermN n p) {i:Nat}(hi:i<n):p.getD i 0<n:=by
 have hs:=h.size;have e:p.getD i 0=p[i]'(by omega):=by simp[Array.getD,hs,hi]
 rw[e];have:p[i]'(by omega)∈p.toList:=by simp
 exact List.mem_range.mp (h.mem_iff.mp this)
theorem PermN.ne {p:Array Nat}(h:PermN n p) {i j:Nat}(hi:i<n) (hj:j<n) (ne:i≠j):p.getD i 0≠p.getD j 0:=by
 have hs:=h.size;have e1:p.getD i 0=p.toList[i]'(by simp;omega):=by simp[Array.getD,hs,hi]
 have e2:p.getD j 0=p.toList[j]'(by simp;omega):=by simp[Array.getD,hs,hj]
 have nd:p.toList.Nodup:=h.nodup_iff.mpr List.nodup_range;rw[e1,e2];intro z;exact ne ((List.getElem_inj nd).mp z)
def Asc (r:Nat->Nat->Bool) (p:Array Nat) (k:Nat):Prop:=∀i j,i<j->j<k->lt r p i j=true
def Dsc (r:Nat->Nat->Bool) (p:Array Nat) (k:Nat):Prop:=∀i j,i<j->j<k->lt r p j i=true
theorem Asc.more (o:Ord n r) {p:Array Nat}(hp:PermN n p) {k:Nat}(h1:1<=k) (hk:k<n) (h:Asc r p k) (hl:lt r p (k - 1) k=true):Asc r p (k+1):=λ i j hij hj=>by
 by_cases e:j=k
 ·subst e
  by_cases e2:i=j - 1
  ·rw[e2];exact hl
  ·exact o.trans _ _ _ (hp.lt (by omega)) (hp.lt (by omega)) (hp.lt hk) (h i (j - 1) (by omega) (by omega)) hl
 ·exact h i j hij (by omega)
theorem Dsc.more (o:Ord n r) {p:Array Nat}(hp:PermN n p) {k:Nat}(h1:1<=k) (hk:k<n) (h:Dsc r p k) (hl:lt r p k (k - 1)=true):Dsc r p (k+1):=λ i j hij hj=>by
 by_cases e:j=k
 ·subst e
  by_cases e2:i=j - 1
  ·rw[e2];exact hl
  ·exact o.trans _ _ _ (hp.lt hk) (hp.lt (by omega)) (hp.lt (by omega)) hl (h i (j - 1) (by omega) (by omega))
 ·exact h i j hij (by omega)
theorem zJP (o:Ord n r) {p:Array Nat}(hp:PermN n p):∀(f k:Nat),1<=k->k+f<=n->Asc r p k->Ev r n (kas_asc p f k) (λ m=>k<=m/\m<=k+f/\Asc r p m/\(m<k+f->lt r p m (m - 1)=true))
 |0,k,h1,hk,h=>⟨lQ _,lQ _,h,λ z=>by omega⟩
 |f+1,k,h1,hk,h=>by
  refine⟨hp.lt (by omega),hp.lt (by omega),hp.ne (by omega) (by omega) (by omega),?_⟩;cases e:r (p.getD k 0) (p.getD (k - 1) 0) with
  |true=>exact⟨lQ _,by omega,h,λ Ω=>e⟩
  |false =>
   have hl:=o.tot _ _ (hp.lt (i:=k) (by omega)) (hp.lt (i:=k - 1) (by omega)) (hp.ne (by omega) (by omega) (by omega)) e;exact Ev.mono (λ m hm=>⟨by omega,by omega,hm.2.2.1,λ z=>hm.2.2.2 (by omega)⟩) (zJP o hp f (k+1) (by omega) (by omega) (h.more o hp h1 (by omega) hl))
theorem zJO (o:Ord n r) {p:Array Nat}(hp:PermN n p):∀(f k:Nat),1<=k->k+f<=n->Dsc r p k->Ev r n (kas_desc f p k 0) (λ z=>z.1=p/\k<=z.2.1/\z.2.1<=k+f/\z.2.2=0/\Dsc r p z.2.1)
 |0,k,h1,hk,h=>⟨rfl,lQ _,lQ _,rfl,h⟩
 |f+1,k,h1,hk,h=>by
  refine⟨hp.lt (by omega),hp.lt (by omega),hp.ne (by omega) (by omega) (by omega),?_⟩;cases e:r (p.getD k 0) (p.getD (k - 1) 0) with
  |true =>
   exact Ev.mono (λ z hz=>⟨hz.1,by omega,by omega,hz.2.2.2.1,hz.2.2.2.2⟩) (zJO o hp f (k+1) (by omega) (by omega) (h.more o hp h1 (by omega) e))
  |false =>
   have hl:=o.tot _ _ (hp.lt (i:=k) (by omega)) (hp.lt (i:=k - 1) (by omega)) (hp.ne (by omega) (by omega) (by omega)) e;refine⟨hp.lt (by omega),hp.lt (by omega),hp.ne (by omega) (by omega) (by omega),?_⟩;rw[hl];exact⟨rfl,lQ _,(by show k<=k+(f+1);omega),rfl,h⟩
theorem zFX {p q:Array Nat}{i j:Nat}(h:p[i]?=q[j]?):p.getD i 0=q.getD j 0:=by
 rw[Array.getD_eq_getD_getElem?,Array.getD_eq_getD_getElem?,h]
theorem PermN.of {p q:Array Nat}(h:q.Perm p) (hp:PermN n p):PermN n q:=(Array.perm_iff_toList_perm.mp h).trans hp
theorem zLd {p:Array Nat}(hp:PermN n p) {k:Nat}(hk:k<=n) (h:Dsc r p k):PermN n (kas_rev p 0 k)/\Asc r (kas_rev p 0 k) k:=by
 refine⟨hp.of (mirror_perm _ _ _ _),λ i j hij hj=>?_⟩
 have e:∀i,i<k->(kas_rev p 0 k).getD i 0=p.getD (k - 1 - i) 0:=λ i hi=>by
  refine zFX ?_;have:=getElem?_mirror_all (xs:=p) (i:=0) (j:=k) (by rw[hp.size];exact hk) i;unfold kas_rev;rw[this,if_pos ⟨Nat.zero_le _,hi⟩,Nat.zero_add]
 unfold lt;rw[e i (by omega),e j hj];exact h (k - 1 - j) (k - 1 - i) (by omega) (by omega)
theorem zKg (o:Ord n r) {p:Array Nat}(hp:PermN n p) {k:Nat}(h1:1<=k) (hk:k<=n) (h:Dsc r p k):Ev r n (kas_tail3 k n p) (λ z=>PermN n z.2/\1<=z.1/\z.1<=n/\Asc r z.2 z.1):=by
 obtain⟨q1,q2⟩:=zLd hp hk h;exact Ev.bind (Ev.mono (λ m hm=>⟨q1,by omega,by omega,hm.2.2.1⟩) (zJP o q1 (n - k) k h1 (by omega) q2))
theorem zGm (o:Ord n r) {p:Array Nat}(hp:PermN n p) (h2:2<=n) (h:lt r p 1 0=true):Ev r n (kas_descPart 1 n p) (λ z=>PermN n z.2/\1<=z.1/\z.1<=n/\Asc r z.2 z.1):=by
 have d2:Dsc r p 2:=λ i j hij hj=>by
  have:i=0:=by omega
  have:j=1:=by omega
  subst i j;exact h
 refine Ev.bind (Ev.mono (λ z hz=>?_) (zJO o hp (n - 2) 2 (by omega) (by omega) d2));obtain⟨p',m,q⟩:=z;obtain⟨e1,e2,e3,e4,e5⟩:=hz;dsimp only at e1 e2 e3 e4 e5;subst e1 e4;have e3':m<=2+(n - 2):=e3;have e2':2<=m:=e2;exact zKg o hp (k:=m) (by omega) (by omega) e5
theorem zKh (o:Ord n r) {p:Array Nat}(hp:PermN n p) (h2:2<=n):Ev r n (kas_count n p) (λ z=>PermN n z.2/\1<=z.1/\z.1<=n/\Asc r z.2 z.1):=by
 refine Ev.bind (Ev.mono (λ m hm=>?_) (zJP o hp (n - 1) 1 (lQ _) (by omega) (λ i j hij hj=>by omega)));obtain⟨h1,hmn,ha,hl⟩:=hm
 by_cases e:m=n
 ·subst e
  rw[if_pos (by simp)];exact⟨hp,h1,lQ _,ha⟩
 ·rw[if_neg (by simpa using e)]
  by_cases e1:m > 1
  ·rw[if_pos e1]
   refine⟨hp.lt (by omega),hp.lt (by omega),hp.ne (by omega) (by omega) (by omega),?_⟩;have:r (p.getD 0 0) (p.getD (m - 1) 0)=true:=ha 0 (m - 1) (by omega) (by omega);rw[this];exact⟨hp,h1,by dsimp only;omega,ha⟩
  ·rw[if_neg e1]
   have:m=1:=by omega
   subst this;exact zGm o hp h2 (hl (by omega))
theorem zFa (o:Ord n r) {p:Array Nat}(hp:PermN n p) {k:Nat}(hk:k<n) (ha:Asc r p k):∀(f l u:Nat),l<=u->u<=k->u - l<=f->(∀i,i<l->lt r p i k=true)->(∀i,u<=i->i<k->lt r p k i=true) ->
  Ev r n (kas_place p k f l u) (λ m=>m<=k/\(∀i,i<m->lt r p i k=true)/\(∀i,m<=i->i<k->lt r p k i=true))
 |0,l,u,hl,hu,hf,h1,h2=>⟨by omega,h1,λ i hi hik=>h2 i (by omega) hik⟩
 |f+1,l,u,hl,hu,hf,h1,h2=>by
  unfold kas_place
  by_cases e:l ≥ u
  ·rw[if_pos e]
   exact⟨by omega,h1,λ i hi hik=>h2 i (by omega) hik⟩
  ·rw[if_neg e]
   refine⟨hp.lt hk,hp.lt (by omega),hp.ne (by omega) (by omega) (by omega),?_⟩;cases c:r (p.getD k 0) (p.getD ((l+u) / 2) 0) with
   |true =>
    refine zFa o hp hk ha f l ((l+u) / 2) (by omega) (by omega) (by omega) h1 λ i hi hik=>?_
    by_cases z:i=(l+u) / 2
    ·rw[z];exact c
    ·exact o.trans _ _ _ (hp.lt hk) (hp.lt (by omega)) (hp.lt (by omega)) c (ha _ i (by omega) hik)
   |false =>
    have hl':=o.tot _ _ (hp.lt hk) (hp.lt (i:=(l+u) / 2) (by omega)) (hp.ne hk (by omega) (by omega)) c;refine zFa o hp hk ha f ((l+u) / 2+1) u (by omega) hu (by omega) (λ i hi=>?_) h2
    by_cases z:i=(l+u) / 2
    ·rw[z];exact hl'
    ·exact o.trans _ _ _ (hp.lt (by omega)) (hp.lt (by omega)) (hp.lt hk) (ha i _ (by omega) (by omega)) hl'
theorem zH8 {p:Array Nat}(hp:PermN n p) {k m:Nat}(hk:k<n) (hm:m<=k) (ha:Asc r p k) (h1:∀i,i<m->lt r p i k=true) (h2:∀i,m<=i->i<k->lt r p k i=true):PermN n (bubble p k (k - m))/\Asc r (bubble p k (k - m)) (k+1):=by
 refine⟨hp.of (bubble_perm _ _ _),λ i j hij hj=>?_⟩
 have e:∀i,(bubble p k (k - m)).getD i 0=if i=m then p.getD k 0 else if m<i/\i<=k then p.getD (i - 1) 0 else p.getD i 0:=λ i=>by
  have:=getElem?_bubble (xs:=p) (src:=k) (by rw[hp.size];exact hk) (k - m) (by omega) i;rw[show k - (k - m)=m by omega] at this
  by_cases c1:i=m
  ·rw[if_pos c1] at this ⊢;exact zFX this
  ·rw[if_neg c1] at this ⊢
   by_cases c2:m<i/\i<=k
   ·rw[if_pos c2] at this ⊢;exact zFX this
   ·rw[if_neg c2] at this ⊢;exact zFX this
 unfold lt;rw[e i,e j]
 by_cases i1:i=m
 ·rw[if_pos i1,if_neg (by omega),if_pos ⟨by omega,by omega⟩]
  exact h2 (j - 1) (by omega) (by omega)
 ·rw[if_neg i1]
  by_cases j1:j=m
  ·rw[if_pos j1,if_neg (by omega)]
   exact h1 i (by omega)
  ·rw[if_neg j1]
   by_cases i2:m<i/\i<=k
   ·rw[if_pos i2,if_pos ⟨by omega,by omega⟩]
    exact ha (i - 1) (j - 1) (by omega) (by omega)
   ·rw[if_neg i2]
    by_cases j2:m<j/\j<=k
    ·rw[if_pos j2]
     exact ha i (j - 1) (by omega) (by omega)
    ·rw[if_neg j2]
     exact ha i j hij (by omega)
theorem zLJ (o:Ord n r):∀(f:Nat) {p:Array Nat}(k:Nat),PermN n p->k+f=n->Asc r p k->Ev r n (kas_bin f p k) (λ q=>PermN n q/\Asc r q n)
 |0,p,k,hp,hk,ha=>⟨hp,by have:k=n:=hk;rw[←this];exact ha⟩
 |f+1,p,k,hp,hk,ha=>by
  refine Ev.bind (Ev.mono (λ m hm=>?_) (zFa o hp (by omega) ha k 0 k (lY _) (lQ _) (by omega) (λ i hi=>by omega) (λ i hi hik=>by omega)));obtain⟨q1,q2⟩:=zH8 hp (by omega) hm.1 ha hm.2.1 hm.2.2;exact zLJ o f (k+1) q1 (by omega) q2
theorem zJN (o:Ord n r) (h2:2<=n):Ev r n (kas_sort n) (λ q=>PermN n q/\Asc r q n):=by
 have hp:PermN n (List.toArray (List.range n)):=by unfold PermN;simp
 refine Ev.bind (Ev.mono (λ z hz=>?_) (zKh o hp h2));obtain⟨m,q⟩:=z;obtain⟨q1,q2,q3,q4⟩:=hz;dsimp only at q1 q2 q3 q4 ⊢
 by_cases e:m<n
 ·rw[if_pos e,show max m 1=m by omega]
  exact zLJ o (n - m) m q1 (by omega) q4
 ·rw[if_neg e]
  have:m=n:=by omega
  rw[this] at q4;exact⟨q1,q4⟩
end
noncomputable def lexB:List Int->List Int->Bool
 |_,[]=>false
 |[],_::_=>true
 |a::as,b::bs=>if a=b then lexB as bs else decide (a<b)
theorem zEC:∀as:List Int,lexB as as=false
 |[]=>rfl
 |a::as=>by rw[lexB,if_pos rfl];exact zEC as
theorem zHP:∀{as bs:List Int},as≠bs->lexB as bs=false->lexB bs as=true
 |[],[],h,_=>absurd rfl h
 |[],_::_,_,h=>by cases h
 |_::_,[],_,_=>rfl
 |a::as,b::bs,h,k=>by
  rw[lexB] at k ⊢
  by_cases e:a=b
  ·subst e
   rw[if_pos rfl] at k ⊢;exact zHP (λ z=>h (by rw[z])) k
  ·rw[if_neg e] at k
   rw[if_neg (Ne.symm e)];have:=of_decide_eq_false k;exact lU (by omega)
theorem zED:∀{as bs:List Int},lexB as bs=true->lexB bs as=false
 |[],[],h=>by cases h
 |[],_::_,_=>rfl
 |_::_,[],h=>by cases h
 |a::as,b::bs,k=>by
  rw[lexB] at k ⊢
  by_cases e:a=b
  ·subst e
   rw[if_pos rfl] at k ⊢;exact zED k
  ·rw[if_neg e] at k
   rw[if_neg (Ne.symm e)];have:=lT k;exact decide_eq_false (by omega)
theorem zEu:∀{as bs cs:List Int},lexB as bs=true->lexB bs cs=true->lexB as cs=true
 |_,_,[],_,h=>by cases ‹List Int›<;>cases h
 |[],_,_::_,_,_=>rfl
 |_::_,[],_::_,h,_=>by cases h
 |a::as,b::bs,c::cs,h,k=>by
  rw[lexB] at h k ⊢
  by_cases e1:a=b
  ·subst e1
   rw[if_pos rfl] at h
   by_cases e2:a=c
   ·subst e2
    rw[if_pos rfl] at k ⊢;exact zEu h k
   ·rw[if_neg e2] at k ⊢
    exact k
  ·rw[if_neg e1] at h
   have h':=lT h
   by_cases e2:b=c
   ·subst e2
    rw[if_neg e1];exact h
   ·rw[if_neg e2] at k
    have k':=lT k;rw[if_neg (by omega)];exact lU (by omega)
end L2
namespace PySem
open PySem.Calls PyProof.Rows PySem.W L2
open AutoSeq1 (wpAny_loadPart')
theorem zFT {vs:List Value}{ns:List Int}(h:IntsAre vs ns):vs.length=ns.length:=by
 induction h with
 |nil=>rfl
 |cons n t _ ih=>simp[ih]
theorem zKW {ns ms:List Int}{i:Nat}(h:i=min ns.length ms.length):lexB (ns.drop i) (ms.drop i)=decide (ns.length<ms.length):=by
 by_cases c:ns.length<ms.length
 ·have e1:ns.drop i=[]:=List.drop_of_length_le (by omega)
  have e2:i<ms.length:=by omega
  rw[e1,List.drop_eq_getElem_cons e2,decide_eq_true c];rfl
 ·have e1:ms.drop i=[]:=List.drop_of_length_le (by omega)
  rw[e1,decide_eq_false c];cases ns.drop i<;>rfl
theorem zHf (l b:Addr) (items items2:Array Value) (n n2:Nat) (dd dd2:Option Addr) (sl sl2:Array (Option Value)) (ns ms:List Int) (hi1:IntsAre items.toList ns) (hi2:IntsAre items2.toList ms) :
  Meets (Builtin.«tuple.__lt__» ⟨[.ref l,.ref b],[]⟩)
   (λ A R s=>s.heap.get? l=some { cls:=.type "tuple", dict:=dd,data:=.seq items n,slots:=sl }/\s.heap.get? b=some { cls:=.type "tuple", dict:=dd2,data:=.seq items2 n2,slots:=sl2 } /\
    R (.ok (.ret (.bool (lexB ns ms)))) s) :=
 .of_wp λ prog w A R s h=>by
  obtain⟨hp,g,d,tk,os⟩:=s;obtain⟨hl,hb,h⟩:=h;have f2:=AutoSeq1.sub_tuple_tuple;have l1:items.size=ns.length:=by have:=zFT hi1;simpa using this
  have l2:items2.size=ms.length:=by have:=zFT hi2;simpa using this
  have hZ:(items.toList.zip items2.toList).length=min items.size items2.size:=by simp
  wp_walk using wpAny_loadPart' hl,wpAny_loadPart' hb,wpAny_forIn_list _ (λ rest b s'=>b.1=none/\s'=⟨hp,g,d,tk,os⟩/\∃i,rest=(items.toList.zip items2.toList).drop i/\i<=min items.size items2.size /\
   R (.ok (.ret (.bool (lexB (ns.drop i) (ms.drop i))))) ⟨hp,g,d,tk,os⟩) _
  case turn =>
   rintro⟨y,x⟩ rest b s' ⟨hb',rfl,i,hz,him,hR⟩
   have hlt:i<(items.toList.zip items2.toList).length:=by
    rcases Nat.lt_or_ge i (items.toList.zip items2.toList).length with h'|h'
    ·exact h'
    ·rw[List.drop_of_length_le h'] at hz;cases hz
   have hm:i<min items.size items2.size:=hZ▸hlt;have h1:i<items.size:=lZ hm (Nat.min_le_left _ _);have h2:i<items2.size:=lZ hm (Nat.min_le_right _ _);rw[List.drop_eq_getElem_cons hlt] at hz;injection hz with hyx hrest
   have hy:y=items[i]:=by have:=congrArg Prod.fst hyx;simpa using this
   have hx:x=items2[i]:=by have:=congrArg Prod.snd hyx;simpa using this
   subst hy hx;obtain⟨t1,e1⟩:=hi1.int_at i items[i] (by simp[h1]);obtain⟨t2,e2⟩:=hi2.int_at i items2[i] (by simp[h2]);rw[e1,e2]
   have d1:ns.drop i=ns.getD i 0::ns.drop (i+1):=by
    rw[List.drop_eq_getElem_cons (by omega)];congr 1;simp[show i<ns.length by omega]
   have d2:ms.drop i=ms.getD i 0::ms.drop (i+1):=by
    rw[List.drop_eq_getElem_cons (by omega)];congr 1;simp[show i<ms.length by omega]
   rw[d1,d2,lexB] at hR;refine lA (SeqAt.EqAt.int_int _ t1 _ t2 prog w _ _ ?_);cases hy:(ns.getD i 0 == ms.getD i 0) with
   |true =>
    rw[if_pos (by simpa using hy)] at hR
    wp_walk
    exact⟨rfl,rfl,i+1,hrest,by omega,hR⟩
   |false =>
    rw[if_neg (by simpa using hy)] at hR;rw[if_pos (by rfl)];refine lA (wpAny_rule (lA (PyProof.Rows.lt_int ?_)))
    wp_walk
    exact⟨_,rfl,hR⟩
  case fin =>
   rintro⟨b1,b2⟩ s' ⟨hb',rfl,i,hz,him,hR⟩;simp only at hb';subst hb'
   have hge:min items.size items2.size<=i:=by
    rcases Nat.lt_or_ge i (items.toList.zip items2.toList).length with h'|h'
    ·rw[List.drop_eq_getElem_cons h'] at hz;cases hz
    ·exact hZ▸h'
   rw[zKW (by omega)] at hR
   wp_walk
   exact⟨_,rfl,by simpa[Builtin.Tuple.tupleCompareSizes,l1,l2] using hR⟩
  case h =>
   exact⟨rfl,rfl,0,rfl,lY _,by simpa using h⟩
section
variable {prog:Program}{w:World}{A:Around}{E:XQ}{s:Shared}
theorem zJ5 {l b:Addr}{items items2:Array Value}{ns ms:List Int}{Q:XQ}(hl:s.heap.IsTuple l items) (hb:s.heap.IsTuple b items2) (h1:IntsAre items.toList ns) (h2:IntsAre items2.toList ms) (hu:A.units<cLine)
  (h:Q (.bool (lexB ns ms)) s):wpAny (model prog w) A (compareOp .Lt (.ref l) (.ref b)) Q E s:=by
 obtain⟨⟨cls,dd,data,sl⟩,ho,hc,n,hd⟩:=id hl;obtain⟨⟨cls2,dd2,data2,sl2⟩,ho2,hc2,n2,hd2⟩:=id hb;simp only at hc hd hc2 hd2;subst hc hd hc2 hd2
 exact richCompare_meets_room (op:=.Lt) ⟨_,ho,rfl⟩ ⟨_,ho2,rfl⟩ F.slot_tuple_lt F.entry_tuple_lt (F.args_tuple_lt_2 _ _) (zHf l b items items2 n n2 dd dd2 sl sl2 ns ms h1 h2)
  ⟨ho,ho2,show Value.bool (lexB ns ms)≠Value.notImplemented/\Q (.bool (lexB ns ms)) s from⟨(λ x=>nomatch x),h⟩⟩ hu
theorem zKt:∀{ns ms:List Int},((List.range (min ns.length ms.length)).all (λ j=>ns.getD j 0 == ms.getD j 0) && ns.length == ms.length)=true->ns=ms:=by
 intro ns ms h;rw[Bool.and_eq_true,List.all_eq_true] at h;have hl:ns.length=ms.length:=by simpa using h.2
 refine List.ext_getElem hl λ i h1 h2=>?_;have:=h.1 i (List.mem_range.mpr (by omega));simpa[h1,h2] using this
theorem zJ4 {l b:Addr}{items items2:Array Value}{ns ms:List Int}(hl:s.heap.IsTuple l items) (hb:s.heap.IsTuple b items2) (h1:IntsAre items.toList ns) (h2:IntsAre items2.toList ms) (hu:A.units<cLine) (hne:ns≠ms):SeqAt.EqAt A s (.ref l) (.ref b) false:=by
 have e1:items.size=ns.length:=by have:=zFT h1;simpa using this
 have e2:items2.size=ms.length:=by have:=zFT h2;simpa using this
 have hne':l≠b:=λ z=>by
  subst z;obtain⟨o,ho,hc,n,hd⟩:=hl;obtain⟨o',ho',hc',n',hd'⟩:=hb;rw[ho] at ho';cases ho';rw[hd] at hd';cases hd';refine hne ?_;have:=h1.nums;rw[h2.nums] at this;exact this.symm
 have key:=SeqAt.RcAt.tuples (A:=A) (e:=λ j=>ns.getD j 0 == ms.getD j 0) hl hb hu λ j j1 j2=>by
  obtain⟨t1,q1⟩:=h1.int_at j items[j] (by simp[j1]);obtain⟨t2,q2⟩:=h2.int_at j items2[j] (by simp[j2]);rw[q1,q2];exact SeqAt.EqAt.int_int _ _ _ _
 rw[e1,e2] at key
 have:((List.range (min ns.length ms.length)).all (λ j=>ns.getD j 0 == ms.getD j 0) && ns.length == ms.length)=false:=by
  cases h:((List.range (min ns.length ms.length)).all (λ j=>ns.getD j 0 == ms.getD j 0) && ns.length == ms.length) with
  |false=>rfl
  |true=>exact absurd (zKt h) hne
 rw[this] at key;exact SeqAt.EqAt.of_refs hne' key
def PlcAt (h:Heap) (v:Value) (ns:List Int):Prop:=∃(a c:Addr) (u:Value) (its:Array Value),v = .ref a/\h.IsTuple a #[.ref c,u]/\h.IsTuple c its/\IntsAre its.toList ns
theorem PlcAt.kept {h h':Heap}{v:Value}{ns:List Int}(k:∀b o,o.cls = .type "tuple" -> h.get? b=some o->h'.get? b=some o):PlcAt h v ns->PlcAt h' v ns
 |⟨a,c,u,its,e,⟨o,ho,hc,r⟩,⟨o',ho',hc',r'⟩,i⟩=>⟨a,c,u,its,e,⟨o,k _ _ hc ho,hc,r⟩,⟨o',k _ _ hc' ho',hc',r'⟩,i⟩
theorem zD3 {h h':Heap}(k:∀b o,o.cls = .type "tuple" -> h.get? b=some o->h'.get? b=some o){vs:List Value}{ps:List (List Int)}(z:Paired (PlcAt h) vs ps):Paired (PlcAt h') vs ps:=by
 induction z with
 |nil=>exact .nil
 |cons r q ih=>exact .cons (r.kept k) ih
theorem zIc {h:Heap}{vs:List Value}{ps:List (List Int)}(z:Paired (PlcAt h) vs ps):∀{i:Nat},i<vs.length->PlcAt h (vs.getD i Value.none) (ps.getD i []):=by
 induction z with
 |nil=>exact λ h=>absurd h (Nat.not_lt_zero _)
 |cons r q ih =>
  intro i hi;cases i with
  |zero=>exact r
  |succ i=>have:=ih (i:=i) (by simpa using hi);simpa using this
theorem zM1 {x y:Value}{ns ms:List Int}{Q:Bool->Shared->Prop}(hx:PlcAt s.heap x ns) (hy:PlcAt s.heap y ms) (hne:ns≠ms) (hu:A.units<cLine) (h:Q (lexB ns ms) s):wpAny (model prog w) A (keyLt' (tuples' false) x y) Q E s:=by
 obtain⟨a,c,u,its,rfl,⟨o,ho,hc,n,hd⟩,hp,hi⟩:=hx;obtain⟨a',c',u',its',rfl,⟨o',ho',hc',n',hd'⟩,hp',hi'⟩:=hy;refine kat_lt ho hd ho' hd' ?_;show KatLex prog w A false _ Q [(.ref c,.ref c'),(u,u')] 0 s;refine kat_cons (zJ4 hp hp' hi hi' hu hne prog w _ _ (kat_no ?_));refine kat_one _ _ (zJ5 hp hp' hi hi' hu ?_);exact h
theorem zHJ:∀{vs:List Value}{ps:List (List Int)}{h:Heap},Paired (PlcAt h) vs ps->∃fs,KatTups h vs fs/\fs.length=vs.length/\∀v∈fs,Looks (model prog w) h (typeOf v) (.type "tuple")
 |_,_,_,.nil=>⟨[],trivial,rfl,λ v hv=>nomatch hv⟩
 |_,_,h,.cons r q=>by
  obtain⟨fs,h1,h2,h3⟩:=zHJ q;obtain⟨a,c,u,its,rfl,⟨o,ho,hc,n,hd⟩,⟨o',ho',hc',r'⟩,hi⟩:=r;refine⟨.ref c::fs,KatTups.cons ho hc hd rfl h1,by simp[h2],λ v hv=>?_⟩;rcases lN.mp hv with rfl|hv
  ·have:=(show Looks (model prog w) h (typeOf (.ref c)) o'.cls from(Looks.ld ho').andThen .now)
   rw[hc'] at this;exact this
  ·exact h3 v hv
theorem zHB:∀{vs:List Value},vs.length<2->(vs.toArray.zip vs.toArray).map (·.2)=List.toArray ((List.toArray (List.range vs.length)).toList.map λ i=>vs.getD i Value.none)
 |[],_=>by simp
 |[x],_=>by simp[List.range_succ]
 |_::_::_,h=>by simp at h;omega
theorem zFO {a:Addr}{vs:List Value}{ps:List (List Int)}{n:Nat}{P:PySem.Fin->Shared->Prop}(ho:s.heap.get? a=some (seqObj "list" vs.toArray n)) (hp:Paired (PlcAt s.heap) vs ps) (nd:ps.Nodup) (h64:vs.length<64) (hu:A.units<cLine)
  (h:∀p:Array Nat,PermN vs.length p->Asc (λ i j=>lexB (ps.getD i []) (ps.getD j [])) p vs.length->P (.done (.ret .none)) { s with heap:=sortedHeap s.heap a vs (List.toArray (p.toList.map λ i=>vs.getD i Value.none)) }) :
  wpAny (model prog w) A (Builtin.«list.sort» ⟨[.ref a],[]⟩) P E s:=by
 rw[list_sort_plain];have hlp:vs.length=ps.length:=hp.length;have ha:a<s.heap.objs.size:=lI ho;refine lA (listItems_at ho rfl ?_);refine lA (listUpdate_at ho rfl ?_ (by rw[mH,sizeLine_eq];omega) (lY _));obtain⟨e1,ho1⟩:∃e1,(s.heap.update a (Obj.mapSeq λ Ω=>#[])).get? a=some (seqObj "list" #[] e1):=⟨_,get?_update_seq ho (λ Ω=>#[])⟩;refine lA (seqEpoch_at ho1 rfl ?_);refine lA (wpAny_newTuple ?_ (by show vs.length<=_;rw[sizeLine_eq];omega));refine lA (wpAny_newList ?_ (lY _));refine lE ?_
 have ho6:(((s.heap.update a (Obj.mapSeq λ Ω=>#[])).push (seqObj "tuple" vs.toArray 0)).push (seqObj "list" #[] 0)).get? a=some (seqObj "list" #[] e1):=by
  rw[Heap.get?_push_ne _ _ _ (by rw[size_push',Heap.size_update];exact lS (Nat.lt_succ_of_lt ha)),Heap.get?_push_ne _ _ _ (by rw[Heap.size_update];exact lS ha)];exact ho1
 have keep:∀b o,o.cls = .type "tuple" -> s.heap.get? b=some o->(((s.heap.update a (Obj.mapSeq λ Ω=>#[])).push (seqObj "tuple" vs.toArray 0)).push (seqObj "list" #[] 0)).get? b=some o:=λ b o hc hb=>by
  have hne:b≠a:=λ z=>by
   rw[z,ho] at hb;cases hb;injection hc with hh
   exact absurd hh (by decide)
  exact lG _ (lG _ (by rw[Heap.get?_update_ne _ _ _ _ hne];exact hb))
 have hp6:=zD3 keep hp;show wpAny (model prog w) A _ P E { s with heap:=((s.heap.update a (Obj.mapSeq λ Ω=>#[])).push (seqObj "tuple" vs.toArray 0)).push (seqObj "list" #[] 0) };dsimp only
 by_cases h2:vs.toArray.size<2
 ·rw[if_pos h2,if_pos h2]
  refine lA (lB ?_);rw[StateT.run_pure];refine lA (lB ?_);dsimp only;have h2':vs.length<2:=by simpa using h2
  have hid:(arrOf (SortSt.mk' general' (vs.toArray.zip vs.toArray) #[] 7 none)).map (·.2)=List.toArray ((List.toArray (List.range vs.length)).toList.map λ i=>vs.getD i Value.none):=by
   show (vs.toArray.zip vs.toArray).map (·.2)=_;exact zHB h2'
  refine lA (seqEpoch_at ho6 rfl ?_);refine lA (listUpdate_at ho6 rfl ?_ (lY _) (by rw[Array.size_map];show (vs.toArray.zip vs.toArray).size<=_;rw[sizeLine_eq];simp;omega));simp only[bne_self_eq_false,Bool.false_eq_true,if_false];refine lB ?_;have fin:=h (List.toArray (List.range vs.length)) (by unfold PermN;simp) (λ i j hij hj=>by omega);rw[←hid] at fin;exact fin
 ·rw[if_neg h2,if_neg h2]
  have h2':2<=vs.length:=by simpa using h2
  obtain⟨fs,t1,t2,t3⟩:=zHJ (prog:=prog) (w:=w) hp6;refine lA (kat_kind (T:=.type "tuple") t1 (by omega) t3 (by decide) ?_);show wpAny (model prog w) A ((sortRuns').run (SortSt.mk' (tuples' false) (vs.toArray.zip vs.toArray) #[] 7 none) >>= _) P E _
  have o:Ord vs.length (λ i j=>lexB (ps.getD i []) (ps.getD j [])):=by
   have inj:∀i j,i<vs.length->j<vs.length->i≠j->ps.getD i []≠ps.getD j []:=λ i j hi hj ne e=>by
    have e1:ps.getD i []=ps[i]'(by omega):=by simp[show i<ps.length by omega]
    have e2:ps.getD j []=ps[j]'(by omega):=by simp[show j<ps.length by omega]
    rw[e1,e2] at e;exact ne ((List.getElem_inj nd).mp e)
   exact⟨λ i j hi hj ne k=>zHP (inj i j hi hj ne) k,λ i j Ω Ω k=>zED k,λ i j k Ω Ω Ω a b=>zEu a b⟩
  refine lA (wpAny_mono (kat_run (Q:=λ st' s'=>∃p:Array Nat,PermN vs.length p/\Asc (λ i j=>lexB (ps.getD i []) (ps.getD j [])) p vs.length/\s'={ s with heap:=((s.heap.update a (Obj.mapSeq λ Ω=>#[])).push (seqObj "tuple" vs.toArray 0)).push (seqObj "list" #[] 0) }/\arrOf st'=p.map (kas_item (vs.toArray.zip vs.toArray))/\failedOf st'=none)
   (G:=λ p s'=>(PermN vs.length p/\Asc (λ i j=>lexB (ps.getD i []) (ps.getD j [])) p vs.length)/\s'={ s with heap:=((s.heap.update a (Obj.mapSeq λ Ω=>#[])).push (seqObj "tuple" vs.toArray 0)).push (seqObj "list" #[] 0) })
   rfl h2' h64 (λ p' st' s' a1 a2 a3 a4=>⟨p',a4.1.1,a4.1.2,a4.2,a2,a3⟩) ?_) ?_ λ Ω Ω e=>e)
  ·refine Ev.wp (St:=λ s'=>s'={ s with heap:=((s.heap.update a (Obj.mapSeq λ Ω=>#[])).push (seqObj "tuple" vs.toArray 0)).push (seqObj "list" #[] 0) }) (λ i j C s' hi hj hij hs hC=>?_) (λ p s' q hs=>⟨q,hs⟩) (zJN o h2') rfl
   subst hs;unfold kas_ask;refine zM1 (zIc hp6 hi) (zIc hp6 hj) ?_ hu (hC _ rfl);intro e;have:=o.tot i j hi hj hij (by rw[e];exact zEC _);rw[e,zEC] at this;cases this
  ·rintro⟨⟨⟩,st'⟩ s' ⟨p,pm,asc,rfl,har,hf⟩
   dsimp only;have hout:=kat_snds rfl har;rw[hout];have hsz:(List.toArray (p.toList.map λ i=>vs.getD i Value.none)).size=vs.length:=by rw[mH,mD,Array.length_toList,pm.size]
   refine lA (seqEpoch_at ho6 rfl ?_);refine lA (listUpdate_at ho6 rfl ?_ (lY _) (mG (Nat.le_of_eq hsz) (by rw[sizeLine_eq];omega)));rw[hf];simp only[bne_self_eq_false,Bool.false_eq_true,if_false];exact lB (h p pm asc)
end
end PySem
namespace L2
open PySem PySem.Spec PyProof.Rows PySem.W
def PlV (H:Hp) (p:List Int × V) (v:V):Prop:=∃(b c:Addr),v = .ref b/\H b=some (.tup [.ref c,p.2])/\H c=some (.tup (p.1.map V.int))
theorem PlV.mono {H H':Hp}(k:Tk H H') {p:List Int × V}{v:V}:PlV H p v->PlV H' p v
 |⟨b,c,e,h1,h2⟩=>⟨b,c,e,k _ _ h1,k _ _ h2⟩
theorem zJE:∀{ns:List Int}{us:List Value},Vals (ns.map V.int) us->IntsAre us ns
 |[],_,h=>by
  cases h;exact .nil
 |n::ns,_,h=>by
  rw[mL] at h;cases h with
  |cons r q =>
   obtain⟨t,rfl⟩:=r;exact .cons n t (zJE q)
theorem zM0 {P:Program}{w:World}{H:Hp}{h:Heap}(ok:HOk P w H h) {p:List Int × V}{v:V}{u:Value}(hp:PlV H p v) (r:RelV v u):PlcAt h u p.1:=by
 obtain⟨b,c,rfl,h1,h2⟩:=hp;cases r;obtain⟨_,its,rv,tp⟩:=(show ObjOk P w H h b (.tup [.ref c,p.2]) from ok b _ h1);obtain⟨_,its2,rv2,tp2⟩:=(show ObjOk P w H h c (.tup (p.1.map V.int)) from ok c _ h2);cases rv with
 |cons q1 rv=>cases rv with
  |cons q2 rv =>
   cases rv;cases q1;exact⟨b,c,_,its2.toArray,rfl,tp,tp2,by simpa using zJE rv2⟩
theorem zIb {P:Program}{w:World}{H:Hp}{h:Heap}(ok:HOk P w H h){ps:List (List Int × V)}{vs:List V}{us:List Value}(z:Paired (PlV H) ps vs):Vals vs us->Paired (PlcAt h) us (ps.map (·.1)):=by
 induction z generalizing us with
 |nil=>intro r;cases r;exact .nil
 |cons hp q ih =>
  intro r;cases r with
  |cons r1 r2=>exact .cons (zM0 ok hp r1) (ih r2)
theorem zDl {vs:List V}{us:List Value}(r:Vals vs us):∀(ix:List Nat),(∀i∈ix,i<vs.length)->Vals (ix.map λ i=>vs.getD i .non) (ix.map λ i=>us.getD i Value.none)
 |[],_=>.nil
 |i::ix,h=>by
  refine .cons ?_ (zDl r ix λ j hj=>h j (lP _ hj));have hi:=h i lO
  have key:∀{vs:List V}{us:List Value},Vals vs us->∀{i:Nat},i<vs.length->RelV (vs.getD i .non) (us.getD i Value.none):=by
   intro vs us r
   induction r with
   |nil=>intro i hi;simp at hi
   |cons q _ ih =>
    intro i hi;cases i with
    |zero=>exact q
    |succ i=>exact ih (by simpa using hi)
  exact key r hi
theorem zD8 {ps:List (List Int × V)}{vs:List V}{H:Hp}(h:Paired (PlV H) ps vs):∀(ix:List Nat),(∀i∈ix,i<vs.length)->Paired (PlV H) (ix.map λ i=>ps.getD i ([],.non)) (ix.map λ i=>vs.getD i .non)
 |[],_=>.nil
 |i::ix,hx=>by
  refine .cons ?_ (zD8 h ix λ j hj=>hx j (lP _ hj));have hi:=hx i lO;obtain⟨p,hp,q⟩:=zAJ h (lW hi);have e1:ps.getD i ([],.non)=p:=by rw[List.getD_eq_getElem?_getD,hp];rfl
  have e2:vs.getD i .non=vs[i]:=by simp[hi]
  dsimp only;rw[e1,e2];exact q
theorem zF1 {α:Type}(d:α) (ps:List α) {ix:List Nat}(h:ix.Perm (List.range ps.length)):(ix.map λ i=>ps.getD i d).Perm ps:=by
 refine(h.map _).trans ?_
 have:(List.range ps.length).map (λ i=>ps.getD i d)=ps:=by
  apply List.ext_getElem
  ·simp
  ·intro i h1 h2
   simp[h2]
 rw[this]
section
variable {X:Cx}
def zMt:List V->Hp->VK->Prop:=λ xs H Q=>∃(l:Addr) (vs:List V) (ps:List (List Int × V)),xs=[.ref l]/\H l=some (.lst vs)/\Paired (PlV H) ps vs/\(ps.map (·.1)).Nodup/\ps.length<64 /\
 ∀(l':Addr) (ws:List V) (qs:List (List Int × V)),H l'=none->Paired (PlV H) qs ws->qs.Perm ps->qs.Pairwise (λ a b=>lexB a.1 b.1=true)->Q (.ref l') (upd H l' (.lst ws))
theorem zGH (hu:X.A.units+150<cLine):CallR X (.builtin "sorted") zMt:=by
 intro jP s σ H xs us Q I r h;obtain⟨l,vs,ps,rfl,hl,hp,nd,h64,q⟩:=h;obtain⟨u,rfl,ru⟩:=vals1 r;cases ru;obtain⟨_,its,n0,rv,hlen,el⟩:=I.lstM hl;have hlv:its.length=vs.length:=rv.length.symm;have hlp:ps.length=vs.length:=Paired.length hp;have line:its.length<=sizeLine:=Nat.le_of_lt (zAN (by omega));refine Calls.call_function_entry kind_sorted plain_sorted entry_sorted (args_sorted1 _) ?_;unfold Builtin.«sorted»;refine lA (m:=checkCount "sorted" 1 1 _) (lB ?_);have hL:s.heap.IsList l its.toArray:=⟨_,el,rfl,_,rfl⟩;refine lA (collect_list hL ?_ (by simpa using line));refine lA (wpAny_newList ?_ (by simpa using line))
 have keep1:∀b o,s.heap.get? b=some o->((s.heap.push (seqObj "list" #[] 0)).update s.heap.objs.size (Obj.mapSeq (·++its.toArray))).get? b=some o:=λ b o q=>by
  have hlt:b<s.heap.objs.size:=lI q;rw[Heap.get?_update_ne _ _ _ _ (Nat.ne_of_lt hlt)];exact lG _ q
 show wpAny _ _ _ _ _ { s with heap:=((s.heap.push (seqObj "list" #[] 0)).update s.heap.objs.size (Obj.mapSeq (·++its.toArray))).push { cls:=.type "list", data:=.seq its.toArray } };generalize (s.heap.push (seqObj "list" #[] 0)).update s.heap.objs.size (Obj.mapSeq (·++its.toArray))=h1 at keep1 ⊢;have I1:Inv X jP σ H { s with heap:=h1 }:=I.kept (t':=s.toks) keep1;have hoL:(h1.push { cls:=.type "list", data:=.seq its.toArray }).get? h1.objs.size=some (seqObj "list" its.toArray 0):=lH _ rfl;have hplc:Paired (PlcAt (h1.push { cls:=.type "list", data:=.seq its.toArray })) its (ps.map (·.1)):=zD3 (λ b o Ω e=>lG _ e) (zIb I1.hok hp rv);refine lA (lE (wpAny_call_entry slot_list_sort ⟨_,hoL,rfl⟩ entry_list_sort (zFO hoL hplc nd (by omega) (by show X.A.units+1+1<cLine;omega) λ p pm asc=>⟨_,rfl,?_⟩) (args_list_sort _)));have pm':p.toList.Perm (List.range ps.length):=by have:=pm;unfold PermN at this;rw[hlv,←hlp] at this;exact this
 have hix:∀i∈p.toList,i<vs.length:=λ i hi=>by
  have:=List.mem_range.mp (pm'.mem_iff.mp hi);omega
 obtain⟨e,he⟩:∃e,(sortedHeap (h1.push { cls:=.type "list", data:=.seq its.toArray }) h1.objs.size its (List.toArray (p.toList.map λ i=>its.getD i Value.none))).get? h1.objs.size=some (seqObj "list" (List.toArray (p.toList.map λ i=>its.getD i Value.none)) e):=sortedHeap_at hoL;have hn1:=I1.hok.fresh (lQ h1.objs.size);refine lB ⟨_,rfl,⟨.ref h1.objs.size,upd H h1.objs.size (.lst (p.toList.map λ i=>vs.getD i .non)),I1.laid (t':=s.toks) (a:=h1.objs.size) (o:=.lst (p.toList.map λ i=>vs.getD i .non)) (λ b o hb=>?_) (lQ _) ⟨?_,_,e,zDl rv p.toList hix,?_⟩,rfl,q _ _ (p.toList.map λ i=>ps.getD i ([],.non)) hn1 (zD8 hp p.toList hix) (zF1 _ ps pm') ?_⟩⟩
 ·rw[sortedHeap_old (Nat.ne_of_lt (Heap.lt_size hb)) (by rw[Heap.size_push];exact Nat.lt_succ_of_lt (lI hb))]
  exact lG _ hb
 ·rw[mD,pm'.length_eq,List.length_range]
  exact Nat.le_of_lt (zAN (by omega))
 ·rw[he]
 ·rw[List.pairwise_map]
  rw[List.pairwise_iff_getElem];intro i j hi hj hij;have hs:p.toList.length=ps.length:=by rw[pm'.length_eq,List.length_range]
  have ea:=asc i j hij (by omega)
  have g:∀k,(hk:k<p.toList.length)->p.getD k 0=p.toList[k]:=λ k hk=>by
   have:k<p.size:=by simpa using hk
   simp[Array.getD,this]
  have m:∀k,k<ps.length->(ps.map (·.1)).getD k []=(ps.getD k ([],.non)).1:=λ k hk=>by simp[hk]
  unfold lt at ea;rw[g i hi,g j hj] at ea;have hi':p.toList[i]<ps.length:=by have:=hix _ (List.getElem_mem hi);omega
  have hj':p.toList[j]<ps.length:=by have:=hix _ (List.getElem_mem hj);omega
  have ea':lexB ((ps.map (·.1)).getD p.toList[i] []) ((ps.map (·.1)).getD p.toList[j] [])=true:=ea;rw[m _ hi',m _ hj'] at ea';exact ea'
end
end L2
namespace PySem
open AutoSeq1
set_option maxRecDepth 8000 in
theorem zFZ (l:Addr) (items:Array Value) (n:Nat) (b:Addr) (items2:Array Value) (n2:Nat) (dd:Option Addr) (sl:Array (Option Value)) (hs0:¬(!items.isEmpty && Builtin.List.listTooLong (items.size+items2.size))=true) (hs1:items.size<=sizeLine) (hs2:items.size+items2.size<=sizeLine+1) :
  Meets (Builtin.«list.extend» ⟨[.ref l,.ref b],[]⟩) (λ Ω R s=>s.heap.get? l=some { cls:=.type "list", dict:=none,data:=.seq items n,slots:=#[] }/\s.heap.get? b=some { cls:=.type "tuple", dict:=dd,data:=.seq items2 n2,slots:=sl }/\R (.ok (.ret Value.none)) { s with heap:=s.heap.update l (Obj.mapSeq λ x=>x++items2),toks:=s.toks }) :=
 .of_wp λ prog w A R s h=>by
  obtain⟨hp,g,d,tk,os⟩:=s;obtain⟨hl,hb,h⟩:=h;have f1:=idx_int;have f2:=sub_tuple_tuple;have f3:=sub_list_list;have f4:=sub_tuple_list;have f5:=sub_list_tuple;have hz':(items++items2).size<=sizeLine+1:=by rw[Array.size_append];exact hs2
  wp_walk using (wpAny_updateSeq hl rfl (hz:=hs1) (_hz':=hz')),wpAny_loadPart' hl,wpAny_loadPart' hb
  exact⟨_,rfl,h⟩
end PySem
namespace L2
open PySem PySem.Spec PyProof.Rows
section
variable {X:Cx}
def zJ0 (K:W.Frag):V->List V->Hp->VK->Prop:=λ x vs H Q=>∃l b xs zs,x = .ref l/\vs=[.ref b]/\H l=some (.lst xs)/\SqT K H b zs/\xs.length+zs.length<=sizeLine/\Q .non (upd H l (.lst (xs++zs)))
theorem zHy:MtM X "list.extend" (zJ0 X.K):=by
 intro jP s σ H x vs v us Q I rx rv h;obtain⟨l,b,xs,zs,rfl,rfl,hH,hB,hz,q⟩:=h;cases rx;obtain⟨u,rfl,ru⟩:=rv.one;cases ru;obtain⟨z,its,n,r,hl,e⟩:=I.lstM hH;obtain⟨its2,r2,p2,z2⟩:=I.tuple hB;obtain⟨⟨cls,dd,data,sl⟩,e2,hc,n2,hd⟩:=id p2;simp only at hc hd;subst hc hd;have hl2:=r2.length;have hsz:its.toArray.size+its2.toArray.size<=sizeLine:=by rw[mH,mH];omega
 have hlong:¬(!its.toArray.isEmpty && Builtin.List.listTooLong (its.toArray.size+its2.toArray.size))=true:=by
  rw[zHL hsz,Bool.and_false];exact lX
 refine call_meets F.slot_list_extend ⟨_,e,rfl⟩ F.entry_list_extend (F.args_list_extend_2 _ _)
  (zFZ l its.toArray n b its2.toArray n2 dd sl hlong (by rw[mH];omega) (by omega)) ⟨e,e2,?_⟩
 refine⟨.non,_,I.lset (its':=its++its2) hH e (by simp) (r.append r2) ?_,rfl,q⟩;rw[mK];omega
def zLe:V->List V->Hp->VK->Prop:=λ x vs H Q=>∃(a:Addr) (kvs:List (Key × V)) (k:Key) (y:V),x = .ref a/\vs=[kV k,y]/\H a=some (.dK kvs)/\kvs.length<1000/\(∀z,valV kvs k=some z->Q z H)/\(valV kvs k=none->Q y (upd H a (.dK (putK kvs k y))))
theorem zFM:MtM X "dict.setdefault" zLe:=by
 intro jP s σ H x vs v us Q I rx rv h;obtain⟨a,kvs,k,y,rfl,rfl,ha,hl,q1,q2⟩:=h;cases rx;obtain⟨u1,u2,rfl,r1,r2⟩:=vals2 rv;obtain⟨z,hs,vs,rel,dd⟩:=dk_of I.hok ha;have hz:vs.length<=sizeLine:=by rw[←rel.length];exact z
 have hm:(putK kvs k y).length<=sizeLine:=by have:=zBh kvs k y;exact zAh (by omega)
 refine call_meetsIn PySem.F.slot_dict_setdefault dd.typeIs PySem.F.entry_dict_setdefault (PySem.F.args_dict_setdefault_3 _ _ _) (kt_meets_setdefault (zAc X.prog X.w) a (kV_is r1) hs u2) ⟨vs,dd,hz,λ w' e=>?_,λ e h' d1 hs1=>?_⟩
 ·have ro:=rel.val k
  rw[e] at ro;cases e2:valV kvs k with
  |none=>rw[e2] at ro;exact(show False from ro).elim
  |some y' =>
   rw[e2] at ro;exact⟨y',H,I.tok _,ro,q1 y' e2⟩
 ·have ro:=rel.val k
  rw[e] at ro
  have e2:valV kvs k=none:=by
   cases e2:valV kvs k with
   |none=>rfl
   |some y'=>rw[e2] at ro;exact(show False from ro).elim
  have he:∃q,h'.get? a=some q:=let ⟨q,_,_,hq,_⟩:=d1;⟨q,hq⟩;exact⟨y,_,zFd (t':=s.toks+1) I (by rw[ha];exact True.intro) hs1 he (zJU hm hs (rel.put k r2) d1),r2,q2 e2⟩
def tTupF (t:TA):TE:=λ σ H Q=>t σ H λ xs H1=>xs.length<=sizeLine/\∀(p:Addr) (o:Obj),H1 p=none->o.dict=none->Q (.ref p) (upd H1 p (.frz o (.tup xs)))
theorem zLs {es:List Expr}{t:TA}{x1} {pos:Pos}(h:PA X es t):PE X (.Tuple es x1 pos) (tTupF t):=by
 intro jP s σ H Q I hq;refine wpAny_Tuple_spliced (thn (h pos jP s σ H _ I hq) λ us s1 ⟨xs,H1,I1,r,z,q⟩=>⟨by rw[←r.length];exact z,?_⟩);have hf:H1 s1.heap.objs.size=none:=I1.hok.fresh (lQ _);refine⟨.ref s1.heap.objs.size,_,I1.laid (o:=.frz { cls:=.type "tuple", data:=.seq us.toArray } (.tup xs)) (t':=s1.toks) (λ b u e=>lG _ e) (lQ _) ?_,rfl,q _ _ hf rfl⟩;exact⟨lH _ rfl,z,us,r,⟨_,lH _ rfl,rfl,_,rfl⟩⟩
theorem zD9 (hu:X.A.units+1<cLine):OpR X (compareOp .NotIn) (λ x y H Q=>∃(a:Addr) (o:Option V),y = .ref a/\DGet H a x o/\Q (.bl (!o.isSome)) H):=by
 intro jP s σ H x y v u Q I rx ry h;obtain⟨a,o,rfl,g,q⟩:=h;cases ry;exact zMT hu I g rx λ s' I'=>⟨.bl (!o.isSome),H,I',rfl,q⟩
end
noncomputable def zDT:List V:=[.str "num", .str "name", .str "ask", .str "stop", .str "gap"]
def zC8 (K:W.Frag) (lv:Addr):Prop:=∃(o:Obj) (its:Array Value) (n:Nat),K.lookup lv=some o/\o.cls = .type "tuple" /\ o.data = .seq its n/\its.size<=sizeLine/\Vals zDT its.toList
theorem zFU (k:Kd):inV (.str k.s) zDT=k.leaf:=by cases k<;>symm
theorem zKc (t:Tr):1<=t.head:=by cases t<;>simp[Tr.head]
theorem zHN:∀{ts:List Tr}{t:Tr},t∈ts->t.size<=(ts.map Tr.size).sum
 |a::ts,t,h=>by
  rw[mL,List.sum_cons];rcases lN.mp h with rfl|h
  ·omega
  ·have:=zHN h
   omega
theorem zEp (t:Tr):(t.parts.map Tr.size).sum+1=t.size:=by
 cases t<;>simp[Tr.parts,Tr.size]<;>omega
theorem zF2 {t p:Tr}(h:p∈t.parts):p.size+1<=t.size:=by
 have:=zHN h;have:=zEp t;omega
theorem zHh (t:Tr):1<=t.size:=by cases t<;>simp[Tr.size]
noncomputable def szT (ts:List Tr):Nat:=(ts.map Tr.size).sum
theorem zIG (a b:List Tr):szT (a++b)=szT a+szT b:=by simp[szT]
theorem zE6 (a:Tr) (b:List Tr):szT (a::b)=a.size+szT b:=by simp[szT]
theorem zGS:∀ts:List Tr,ts.length<=szT ts
 |[]=>lQ _
 |t::ts=>by
  rw[zE6,mM];have:=zGS ts;have:=zHh t;omega
theorem zGw (L:List Tr) (i:Nat):szT (L.take i)<=szT L:=by
 have e:szT L=szT (L.take i)+szT (L.drop i):=by rw[←zIG,List.take_append_drop]
 omega
theorem zIF (t:Tr):szT t.parts+1=t.size:=zEp t
noncomputable def Tr.subs:Tr->List Tr
 |.say a=>.say a::a.subs
 |.bin o a b=>.bin o a b::(a.subs++b.subs)
 |.ite a b c=>.ite a b c::(a.subs++(b.subs++c.subs))
 |.lett x a b=>.lett x a b::(a.subs++b.subs)
 |t=>[t]
theorem zB3 (t:Tr):t.subs=t::t.parts.flatMap Tr.subs:=by
 cases t<;>simp[Tr.subs,Tr.parts]
theorem zCq:∀L:List Tr,szT (L.flatMap Tr.parts)+L.length=szT L
 |[]=>rfl
 |t::L=>by
  have ih:=zCq L;have:=zIF t;rw[rK,zIG,zE6,mM];omega
theorem zEn:∀L:List Tr,(L.flatMap Tr.subs).Perm (L++(L.flatMap Tr.parts).flatMap Tr.subs)
 |[]=>.refl _
 |t::L=>by
  rw[rK,zB3 t,List.cons_append,List.cons_append,rK,nL];refine .cons _ ?_;refine((zEn L).append_left _).trans ?_;rw[←mZ,←mZ];exact List.perm_append_comm.append_right _
abbrev PlT:=List Int × Tr
noncomputable def kidsP (x:PlT):List PlT:=x.2.parts.zipIdx.map λ q=>(x.1++[(q.2:Int)],q.1)
noncomputable def psub:List Int->Tr->List PlT
 |pl,.say a=>(pl,.say a)::psub (pl++[0]) a
 |pl,.bin o a b=>(pl,.bin o a b)::(psub (pl++[0]) a++psub (pl++[1]) b)
 |pl,.ite a b c=>(pl,.ite a b c)::(psub (pl++[0]) a++(psub (pl++[1]) b++psub (pl++[2]) c))
 |pl,.lett x a b=>(pl,.lett x a b)::(psub (pl++[0]) a++psub (pl++[1]) b)
 |pl,.num n=>[(pl,.num n)]
 |pl,.name n=>[(pl,.name n)]
 |pl,.ask n=>[(pl,.ask n)]
 |pl,.stop n=>[(pl,.stop n)]
 |pl,.gap n as=>[(pl,.gap n as)]
theorem zLg (pl:List Int) (t:Tr):psub pl t=(pl,t)::(kidsP (pl,t)).flatMap λ x=>psub x.1 x.2:=by
 cases t<;>simp[psub,kidsP,Tr.parts,List.zipIdx]
theorem zBY:∀(t:Tr) (pl:List Int),(psub pl t).map (·.2)=t.subs
 |.say a,pl=>by simp[psub,Tr.subs,zBY a]
 |.bin o a b,pl=>by simp[psub,Tr.subs,zBY a,zBY b]
 |.ite a b c,pl=>by simp[psub,Tr.subs,zBY a,zBY b,zBY c]
 |.lett x a b,pl=>by simp[psub,Tr.subs,zBY a,zBY b]
 |.num _,_=>rfl
 |.name _,_=>rfl
 |.ask _,_=>rfl
 |.stop _,_=>rfl
 |.gap _ _,_=>rfl
theorem zBO:∀(t:Tr) (pl:List Int),(psub pl t).length=t.size
 |.say a,pl=>by simp[psub,Tr.size,zBO a]
 |.bin o a b,pl=>by simp[psub,Tr.size,zBO a,zBO b]
 |.ite a b c,pl=>by simp[psub,Tr.size,zBO a,zBO b,zBO c];omega
 |.lett x a b,pl=>by simp[psub,Tr.size,zBO a,zBO b]
 |.num _,_=>rfl
 |.name _,_=>rfl
 |.ask _,_=>rfl
 |.stop _,_=>rfl
 |.gap _ _,_=>rfl
theorem zCY:∀(t:Tr) (pl:List Int),∀p∈(psub pl t).map (·.1),∃r,p=pl++r:=by
 have one:∀{pl p:List Int}{i:Int},(∃r,p=pl++[i]++r)->∃r,p=pl++r:=λ{pl p i} h=>by
  obtain⟨r,e⟩:=h;exact⟨[i]++r,by rw[e,mZ]⟩
 intro t
 induction t with
 |say a ih =>
  intro pl p hp;simp only[psub,mL] at hp;rcases lN.mp hp with rfl|hp
  ·exact⟨[],by simp⟩
  ·exact one (ih _ p hp)
 |bin o a b iha ihb =>
  intro pl p hp;simp only[psub,mL,mQ] at hp;rcases lN.mp hp with rfl|hp
  ·exact⟨[],by simp⟩
  ·rcases lK.mp hp with hp|hp
   ·exact one (iha _ p hp)
   ·exact one (ihb _ p hp)
 |ite a b c iha ihb ihc =>
  intro pl p hp;simp only[psub,mL,mQ] at hp;rcases lN.mp hp with rfl|hp
  ·exact⟨[],by simp⟩
  ·rcases lK.mp hp with hp|hp
   ·exact one (iha _ p hp)
   ·rcases lK.mp hp with hp|hp
    ·exact one (ihb _ p hp)
    ·exact one (ihc _ p hp)
 |lett x a b iha ihb =>
  intro pl p hp;simp only[psub,mL,mQ] at hp;rcases lN.mp hp with rfl|hp
  ·exact⟨[],by simp⟩
  ·rcases lK.mp hp with hp|hp
   ·exact one (iha _ p hp)
   ·exact one (ihb _ p hp)
 |_ =>
  intro pl p hp;simp[psub] at hp;exact⟨[],by simp[hp]⟩
theorem zCx {t u:Tr}{pl:List Int}{i j:Int}(ne:i≠j):∀p∈(psub (pl++[i]) t).map (·.1),∀q∈(psub (pl++[j]) u).map (·.1),p≠q:=λ p hp q hq e=>by
 obtain⟨r,rfl⟩:=zCY t _ p hp;obtain⟨r',e'⟩:=zCY u _ q hq;rw[e'] at e;rw[mZ,mZ] at e;have:=List.append_cancel_left e;simp at this;exact ne this.1
theorem zBk {t:Tr}{pl:List Int}{i:Int}:pl∉(psub (pl++[i]) t).map (·.1):=λ h=>by
 obtain⟨r,e⟩:=zCY t _ _ h;have:=congrArg List.length e;simp at this
theorem zCE:∀(t:Tr) (pl:List Int),((psub pl t).map (·.1)).Nodup
 |.say a,pl=>by
  simp only[psub,mL,rG];exact⟨zBk,zCE a _⟩
 |.bin o a b,pl=>by
  simp only[psub,mL,rG,mQ,List.nodup_append,nO,not_or];exact⟨⟨zBk,zBk⟩,zCE a _,zCE b _,zCx (by decide)⟩
 |.lett x a b,pl=>by
  simp only[psub,mL,rG,mQ,List.nodup_append,nO,not_or];exact⟨⟨zBk,zBk⟩,zCE a _,zCE b _,zCx (by decide)⟩
 |.ite a b c,pl=>by
  simp only[psub,mL,rG,mQ,List.nodup_append,nO,not_or];refine⟨⟨zBk,zBk,zBk⟩,zCE a _,⟨zCE b _,zCE c _,zCx (by decide)⟩,λ p hp q hq=>?_⟩;rcases hq with hq|hq
  ·exact zCx (by decide) p hp q hq
  ·exact zCx (by decide) p hp q hq
 |.num _,_=>by simp[psub]
 |.name _,_=>by simp[psub]
 |.ask _,_=>by simp[psub]
 |.stop _,_=>by simp[psub]
 |.gap _ _,_=>by simp[psub]
noncomputable def allP (L:List PlT):List PlT:=L.flatMap λ x=>psub x.1 x.2
theorem zE3:∀L:List PlT,(allP L).Perm (L++allP (L.flatMap kidsP))
 |[]=>.nil
 |x::L=>by
  have ih:=zE3 L;unfold allP at ih ⊢;rw[rK,zLg,rK,nL,List.cons_append,List.cons_append];refine List.Perm.cons _ ?_;refine(ih.append_left _).trans ?_;rw[←mZ,←mZ];exact List.Perm.append_right _ List.perm_append_comm
theorem zI8 {pl:List Int}{t:Tr}{j:Nat}{c:Tr}(h:t.parts[j]?=some c):(kidsP (pl,t))[j]?=some (pl++[(j:Int)],c):=by
 unfold kidsP;rw[mJ,List.getElem?_zipIdx];simp[h]
theorem zI7 (pl:List Int) (t:Tr):(kidsP (pl,t)).length=t.parts.length:=by simp[kidsP]
noncomputable def szP (L:List PlT):Nat:=szT (L.map (·.2))
theorem zI6 (x:PlT):(kidsP x).map (·.2)=x.2.parts:=by
 unfold kidsP;rw[nW];have:((λ x:PlT=>x.2) ∘ λ q:Tr × Nat=>(x.1++[(q.2:Int)],q.1))=Prod.fst:=rfl;rw[this,List.zipIdx_map_fst]
theorem zFl (L:List PlT):szP (L.flatMap kidsP)+L.length=szP L:=by
 have:=zCq (L.map (·.2));unfold szP;rw[List.map_flatMap]
 have e:(L.flatMap λ x=>(kidsP x).map (·.2))=(L.map (·.2)).flatMap Tr.parts:=by
  rw[List.flatMap_map];congr 1;funext x;exact zI6 x
 rw[e];rw[mD] at this;exact this
theorem zLV (L:List PlT):L.length<=szP L:=by have:=zGS (L.map (·.2));rw[mD] at this;exact this
theorem zCP (t:Tr):t.parts.length<=3:=by cases t<;>simp[Tr.parts]
theorem zKu (L:List PlT):(allP L).length=szP L:=by
 induction L with
 |nil=>rfl
 |cons x L ih =>
  unfold allP at ih ⊢;unfold szP at ih ⊢;rw[rK,mK,ih,mL,zE6,zBO]
theorem zHQ:∀(pl:List Int) (i:Int) (r:List Int),lexB pl (pl++i::r)=true
 |[],_,_=>rfl
 |a::pl,i,r=>by rw[List.cons_append,lexB,if_pos rfl];exact zHQ pl i r
theorem zF6:∀(pl:List Int) {i j:Int}(r r':List Int),i<j->lexB (pl++i::r) (pl++j::r')=true
 |[],i,j,r,r',h=>by
  rw[List.nil_append,List.nil_append,lexB,if_neg (by omega)];exact lU h
 |a::pl,i,j,r,r',h=>by rw[List.cons_append,List.cons_append,lexB,if_pos rfl];exact zF6 pl r r' h
theorem zCU {t:Tr}{pl:List Int}{i:Int}:∀p∈(psub (pl++[i]) t).map (·.1),lexB pl p=true:=λ p hp=>by
 obtain⟨r,rfl⟩:=zCY t _ p hp;rw[mZ];exact zHQ pl i r
theorem zES {t u:Tr}{pl:List Int}{i j:Int}(h:i<j):∀p∈(psub (pl++[i]) t).map (·.1),∀q∈(psub (pl++[j]) u).map (·.1),lexB p q=true:=λ p hp q hq=>by
 obtain⟨r,rfl⟩:=zCY t _ p hp;obtain⟨r',rfl⟩:=zCY u _ q hq;rw[mZ,mZ];exact zF6 pl r r' h
theorem zBZ:∀(t:Tr) (pl:List Int),((psub pl t).map (·.1)).Pairwise λ a b=>lexB a b=true
 |.say a,pl=>by
  simp only[psub,mL,List.pairwise_cons];exact⟨zCU,zBZ a _⟩
 |.bin o a b,pl=>by
  simp only[psub,mL,List.pairwise_cons,mQ,List.pairwise_append];exact⟨λ p hp=>(lK.mp hp).elim (zCU p) (zCU p),zBZ a _,zBZ b _,zES (by decide)⟩
 |.lett x a b,pl=>by
  simp only[psub,mL,List.pairwise_cons,mQ,List.pairwise_append];exact⟨λ p hp=>(lK.mp hp).elim (zCU p) (zCU p),zBZ a _,zBZ b _,zES (by decide)⟩
 |.ite a b c,pl=>by
  simp only[psub,mL,List.pairwise_cons,mQ,List.pairwise_append];refine⟨λ p hp=>(lK.mp hp).elim (zCU p) λ hp=>(lK.mp hp).elim (zCU p) (zCU p),zBZ a _,⟨zBZ b _,zBZ c _,zES (by decide)⟩,λ p hp q hq=>?_⟩;exact(lK.mp hq).elim (zES (by decide) p hp q) (zES (by decide) p hp q)
 |.num _,_=>by simp[psub]
 |.name _,_=>by simp[psub]
 |.ask _,_=>by simp[psub]
 |.stop _,_=>by simp[psub]
 |.gap _ _,_=>by simp[psub]
end L2
namespace PySem
open Sem (wp)
end PySem
namespace PySem.W
open PySem
end PySem.W
namespace PySem
open Sem (wp)
section
variable {prog:Program}{w:World}{A:Around}{E:XQ}{s:Shared}
theorem zDb (a:Value) {Q₁:XQ}(h:Q₁ (.ref s.heap.objs.size) { s with heap:=s.heap.push { cls:=.type "set", data:=.set #[] 0 (SetTable.fresh 0 0 (!w.params.followText "set-order")) } }) :
  codeAny (model prog w) A (.call (.builtin "set.__new__") ⟨[.type "set", a],[]⟩) (wants Q₁ E) s:=by
 refine codeAny_of_tree ?_;show wpAny _ _ (checkBuiltinCall "set.__new__" _ >>= _) _ _ _;refine lA (wpAny_of_eq (F.newCall_set_1 a) (lB ⟨plainId_quiet F.plain_set_new _,codeAny_builtin F.entry_set_new ?_⟩));rw[Around.under_plainId F.plain_set_new _];have hsub:=sub_set_self;obtain⟨hp,g,d,tk,os⟩:=s;unfold Builtin.«set.__new__»;refine lA ?_;unfold Builtin.Frozenset.newClass;dsimp only;refine lA (wpAny_of_eq (a:=true) rfl ?_);refine lD (by rfl) ?_;refine lA (wpAny_of_eq hsub (lD (by rfl) (lB ?_)));refine lA ?_;unfold newSet;refine lA (m:=setsByText) (lA (wpAny_askSetting (lB ?_)));dsimp only;refine wpAny_newObj_type ?_ (by size_fits);exact lB h
theorem zBn (b:Bool):(SetTable.fresh 0 0 b).fits 0=true:=by cases b<;>rfl
noncomputable def zBP (es:Array (Int × Value)) (ep:Nat) (t:SetTable):Obj:={ cls:=.type "set", data:=.set es ep t }
end
section
variable {prog:Program}{w:World}{A:Around}{E:XQ}{s:Shared}
def SetN (h:Heap) (d:Addr) (es:Array (Int × Value)) (ep:Nat) (t:SetTable):Prop:=h.get? d=some (zBP es ep t)
structure TabN (w:World) (es:Array (Int × Value)) (t:SetTable):Prop where
 ft:t.fits es.size=true
 ld:w.params.followText "set-order" = false->t.led=true
 pl:1<=es.size->t.plain=false
noncomputable def strOf:Value->Str
 |.str x _=>x
 |_=>⟨#[]⟩
structure EsOk (es:Array (Int × Value)) (ks:List Str):Prop where
 tx:∀e∈es.toList,∃x t,e.2 = .str x t
 pm:(es.toList.map λ e=>strOf e.2).Perm ks
theorem zF3 (t:SetTable) (n:Nat):(t.orStandIn n).led=t.led/\(t.plain=false->(t.orStandIn n).plain=false):=by
 unfold SetTable.orStandIn;split
 ·exact⟨rfl,λ h=>h⟩
 ·exact⟨rfl,λ Ω=>rfl⟩
theorem zKX (t:SetTable) (es:Array (Int × Value)) (h:Int) (x:Value):(layNew t es h x).2.1.led=t.led/\(t.plain=false->(layNew t es h x).2.1.plain=false):=by
 unfold layNew;cases e:t.freeSlot h with
 |none=>exact⟨rfl,λ Ω=>rfl⟩
 |some q =>
  obtain⟨j,wd⟩:=q;exact zF3 (t.put j).1 (SetTable.insertAt es (t.put j).2 (h,x)).size
theorem zHm (t:SetTable) (es:Array (Int × Value)) (n:Nat):(relayAll t es n).2.1.led=t.led/\(t.plain=false->(relayAll t es n).2.1.plain=false):=by
 unfold relayAll;cases e:t.relaid (es.map (·.1)) n with
 |none=>exact⟨rfl,λ Ω=>rfl⟩
 |some q =>
  obtain⟨t',order⟩:=q
  have ht:t'.led=t.led/\t'.plain=t.plain:=by
   unfold SetTable.relaid SetTable.laid at e;cases e2:SetTable.layClean (SetTable.sizeAbove n - 1) (es.map (·.1)) with
   |none=>rw[e2] at e;cases e
   |some owner =>
    rw[e2] at e;have e3:=congrArg (Option.map (·.1)) e;have e4:some _=some t':=e3;injection e4 with e4
    rw[←e4];exact⟨rfl,rfl⟩
  dsimp only;split
  ·exact⟨ht.1,λ h=>by rw[ht.2];exact h⟩
  ·exact⟨rfl,λ Ω=>rfl⟩
theorem EsOk.mem {es:Array (Int × Value)}{ks:List Str}(h:EsOk es ks) (x:Str):x∈ks↔∃e∈es.toList,e.2.isStr x=true:=by
 rw[←h.pm.mem_iff,List.mem_map];constructor
 ·rintro⟨e,he,rfl⟩
  obtain⟨y,t,ey⟩:=h.tx e he;exact⟨e,he,by rw[ey];simp[strOf,Value.isStr]⟩
 ·rintro⟨e,he,hs⟩
  obtain⟨y,t,ey⟩:=h.tx e he;refine⟨e,he,?_⟩;rw[ey] at hs ⊢;simpa[Value.isStr,strOf] using hs
theorem zGV {d:Addr}{x:Str}{tk:Tok}{h0:Int}{es:Array (Int × Value)}{ep:Nat}{t:SetTable}{ks:List Str}{Q:Bool->Shared->Prop}(hd:SetN s.heap d es ep t) (ht:TabN w es t) (he:EsOk es ks) (hsz:es.size<200)
  (hQ0:x∈ks->Q false s) (hQ1:x∉ks->∀h' es' ep' t',SetN h' d es' ep' t'->TabN w es' t'->EsOk es' (ks++[x])->es'.size=es.size+1->Heap.SameBut d s.heap h'->Q true { s with heap:=h' }):wpAny (model prog w) A (setAddHashed d (.str x tk) h0) Q E s:=by
 have hall:(es.all λ e=>isExactStrKey e.2)=true:=by
  rw[Array.all_eq_true_iff_forall_mem];intro e hm;obtain⟨y,t,ey⟩:=he.tx e (by simpa using hm);rw[ey];rfl
 have hscan:(es.all λ e=>e.2.scannable)=true:=by
  rw[Array.all_eq_true_iff_forall_mem];intro e hm;obtain⟨y,t,ey⟩:=he.tx e (by simpa using hm);rw[ey];rfl
 have hbd:es.size<scanBound:=Nat.lt_trans hsz (by decide);unfold setAddHashed;refine lE ?_;rw[setAddHashedIn.eq_def];dsimp only;refine lA (wpAny_setState_of hd rfl ht.ft ?_);dsimp only;refine wpAny_ite_true (by unfold byScan;rw[hscan];simp[Value.scannable,hbd]) ?_;refine lA ?_;unfold setAddByScan;refine lA (wpAny_rule ?_);unfold setScan;dsimp only;rw[if_pos hall];unfold setScanStrs;cases hf:es.findIdx? (λ e=>e.2.isStr x) with
 |some i =>
  obtain⟨hi,hp,_⟩:=Array.findIdx?_eq_some_iff_getElem.mp hf;have hm:es[i]∈es.toList:=by simp
  have hk:x∈ks:=(he.mem x).mpr ⟨es[i],hm,hp⟩;obtain⟨y,ty,ey⟩:=he.tx es[i] hm;have exy:y=x:=by rw[ey] at hp;simpa[Value.isStr] using hp
  subst exy;dsimp only;rw[Array.getElem?_eq_getElem hi];have e1:es[i]=(es[i].1,Value.str y ty):=by rw[←ey]
  rw[e1];dsimp only;refine lA (lA (wpAny_setEpoch_of hd rfl ht.ft ?_));refine lA ((strKind prog w).eqBool (a:=y) (b:=y) (by simp[strKind,Value.isStrOf]) (by simp[strKind,Value.isStrOf]) ?_);refine wpAny_ite_true (by simp) (lB (lB (lB (hQ0 hk))))
 |none =>
  have hk:x∉ks:=λ z=>by
   obtain⟨e,hm,hp⟩:=(he.mem x).mp z;have:=Array.findIdx?_eq_none_iff.mp hf e (by simpa using hm);rw[this] at hp;cases hp
  dsimp only;refine lA (lB ?_);have kp:=zKX t es h0 (.str x tk);have pm:=layNew_perm t es h0 (.str x tk);have ft:=layNew_fits t es h0 (.str x tk);generalize layNew t es h0 (.str x tk)=L at kp pm ft ⊢;obtain⟨es1,t1,wd,gv⟩:=L;dsimp only at kp pm ft ⊢
  have s1:es1.size=es.size+1:=by
   have:=pm.length_eq;simpa using this
  have e1:EsOk es1 (ks++[x]):=by
   refine⟨λ e hm=>?_,?_⟩
   ·have hm2:=pm.mem_iff.mp hm
    rw[Array.toList_push] at hm2;rcases lK.mp hm2 with h|h
    ·exact he.tx e h
    ·rw[mR.mp h]
     exact⟨x,tk,rfl⟩
   ·refine(pm.map _).trans ?_
    rw[Array.toList_push,mQ];exact he.pm.append (List.Perm.refl _)
  have fin:∀(t2:SetTable) (Kf:Bool->Sem Unit),(∀(p:Bool) (s₁:Shared) (Q':Unit->Shared->Prop),Q' () s₁->wpAny (model prog w) A (Kf p) Q' E s₁)->t2.led=t.led->t2.plain=false->t2.fits es1.size=true->wpAny (model prog w) A (storeSet d es1 t2 >>= λ Ω=>if (!wd && t2.tooFull)=true then (Kf (relayAll t2 es1 (SetTable.grown es1.size)).2.2 >>= λ Ω=>storeSet d (relayAll t2 es1 (SetTable.grown es1.size)).1 (relayAll t2 es1 (SetTable.grown es1.size)).2.1 >>= λ Ω=>pure (some true)) else pure (some true)) (λ a s'=>wpAny (model prog w) A (match a with|some added=>pure added|none=>setAddHashedIn d (Value.str x tk) h0 99999) Q E s') E s:=by
   intro t2 Kf hK p1 p2 p3;refine lA (wpAny_storeSet_of hd rfl ?_ (mG (by omega:es1.size<=1000) (by decide)));have n1:SetN (s.heap.update d (Obj.putSet es1 t2)) d es1 (ep+1) t2:=mI _ hd (by rfl);have tn:TabN w es1 t2:=⟨p3,λ z=>by rw[p1];exact ht.ld z,λ Ω=>p2⟩
   by_cases hu:(!wd && t2.tooFull)=true
   ·refine wpAny_ite_true (lU hu) ?_
    refine lA (hK _ _ _ ?_);have kp2:=zHm t2 es1 (SetTable.grown es1.size);have pm2:=relayAll_perm t2 es1 (SetTable.grown es1.size);have ft2:=relayAll_fits t2 es1 (SetTable.grown es1.size);generalize relayAll t2 es1 (SetTable.grown es1.size)=L2 at kp2 pm2 ft2 ⊢;obtain⟨es2,t3,gv2⟩:=L2;dsimp only at kp2 pm2 ft2 ⊢;have s2:es2.size=es1.size:=by simpa using pm2.length_eq
    refine lA (wpAny_storeSet_of (s:={ s with heap:=s.heap.update d (Obj.putSet es1 t2) }) n1 rfl ?_ (mG (by omega:es2.size<=1000) (by decide)));refine lB (lB (hQ1 hk _ es2 (ep+1+1) t3 (mI _ n1 (by rfl)) ⟨ft2,λ z=>by rw[kp2.1,p1];exact ht.ld z,λ Ω=>kp2.2 p2⟩ ⟨λ e hm=>e1.tx e (pm2.mem_iff.mp hm),(pm2.map _).trans e1.pm⟩ (by omega) ((Heap.SameBut.update ..).trans (Heap.SameBut.update ..))))
   ·refine lD (decide_eq_false hu) ?_
    exact lB (lB (hQ1 hk _ es1 (ep+1) t2 n1 tn e1 s1 (Heap.SameBut.update ..)))
  refine lA ?_;cases gv
  ·first|refine lB ?_|refine wpAny_rule ?_
   by_cases hp:t1.plain=true
   ·refine wpAny_ite_true (lU hp) (lA (wpAny_of_eq (hashByValue.eq_5 _ _ _) ?_))
    exact fin { t1 with plain:=false } _ (λ b s₁ Q' h=>by cases b;(first|exact lB h|exact wpAny_rule h);(first|exact wpAny_rule h|exact lB h)) kp.1 rfl ft
   ·refine lD (decide_eq_false hp) (lA (lB ?_))
    exact fin t1 _ (λ b s₁ Q' h=>by cases b;(first|exact lB h|exact wpAny_rule h);(first|exact wpAny_rule h|exact lB h)) kp.1 (rM.mpr hp) ft
  ·first|refine wpAny_rule ?_|refine lB ?_
   by_cases hp:t1.plain=true
   ·refine wpAny_ite_true (lU hp) (lA (wpAny_of_eq (hashByValue.eq_5 _ _ _) ?_))
    exact fin { t1 with plain:=false } _ (λ b s₁ Q' h=>by cases b;(first|exact lB h|exact wpAny_rule h);(first|exact wpAny_rule h|exact lB h)) kp.1 rfl ft
   ·refine lD (decide_eq_false hp) (lA (lB ?_))
    exact fin t1 _ (λ b s₁ Q' h=>by cases b;(first|exact lB h|exact wpAny_rule h);(first|exact wpAny_rule h|exact lB h)) kp.1 (rM.mpr hp) ft
noncomputable def ddS (ks:List Str) (x:Str):List Str:=if x∈ks then ks else ks++[x]
noncomputable def dd (xs:List Str):List Str:=xs.foldl ddS []
theorem zJY (xs:List Str) (x:Str):dd (xs++[x])=ddS (dd xs) x:=by unfold dd;rw[List.foldl_append];rfl
theorem zGx {us:List Value}{xs:List Str}{i:Nat}{x:Str}(z:PyProof.Rows.StrsAre us xs):xs[i]?=some x->∃tk,us[i]?=some (.str x tk):=by
 induction z generalizing i with
 |nil=>exact λ e=>nomatch e
 |cons y tk r ih=>cases i with
  |zero=>exact λ e=>⟨tk,by cases e;rfl⟩
  |succ i=>exact λ e=>ih (i:=i) (by simpa using e)
theorem zFx {d it l:Addr}{vs:Array Value}{xs:List Str}{R:Result->Shared->Prop}(hh:A.handled=none) (hv:PyProof.Rows.StrsAre vs.toList xs) (n1:d≠it) (n2:l≠it) (n3:l≠d) (hlen:xs.length<=100) :
  ∀(m i:Nat) (s:Shared) (es:Array (Int × Value)) (ep:Nat) (t:SetTable),vs.size - i=m->i<=vs.size->s.heap.IsListIter it l i->s.heap.IsList l vs->SetN s.heap d es ep t->TabN w es t->EsOk es (dd (xs.take i))->es.size<=i ->
  (∀h' es' ep' t' tk',SetN h' d es' ep' t'->TabN w es' t'->EsOk es' (dd xs)->es'.size<=100->(∀b o,b≠d->b≠it->s.heap.get? b=some o->h'.get? b=some o)->R (.ok (.ret .none)) { s with heap:=h',toks:=tk' }) ->
  codeAny (model prog w) A (.builtin "set.update.loop" ⟨[.ref d,.ref it],[]⟩) R s:=by
 have hl:vs.size=xs.length:=by have:=hv.length;simpa using this
 intro m
 induction m with
 |zero =>
  intro i s es ep t hm hi hit hL hd ht he hes hR;have ei:i=vs.size:=by omega
  subst ei;refine codeAny_builtin PyProof.Rows.F.entry_set_update_loop ?_;rw[Around.under_plainId PyProof.Rows.F.plain_set_update_loop _];unfold Builtin.«set.update.loop»;dsimp only;refine lA (wpAny_pyNext_list_end (show A.in1.handled=none from hh) hit hL (by simp) λ h3 he3=>?_);rw[hl,mP] at he;exact lB (hR h3 es ep t s.toks (he3 d _ n1 hd) ht he (by omega) λ b o nb ni e=>he3 b o ni e)
 |succ m ih =>
  intro i s es ep t hm hi hit hL hd ht he hes hR;have hlt:i<vs.size:=by omega
  obtain⟨x,hx⟩:∃x,xs[i]?=some x:=⟨_,lW (by omega)⟩
  obtain⟨tk,hvx⟩:∃tk,vs[i]?=some (.str x tk):=by
   obtain⟨tk,h⟩:=zGx hv hx;exact⟨tk,by rw[←nJ];exact h⟩
  refine codeAny_builtin PyProof.Rows.F.entry_set_update_loop ?_;rw[Around.under_plainId PyProof.Rows.F.plain_set_update_loop _];unfold Builtin.«set.update.loop»;dsimp only;refine lA (wpAny_pyNext_list_item hit hL (x:=.str x tk) hvx λ h1 hit1 hs1=>?_);dsimp only;refine lA (lE ?_);unfold setAdd;refine lE (lA ((strKind prog w).pyHash (k:=x) (v:=.str x tk) (by simp[strKind,Value.isStrOf]) ?_));have etk:xs.take (i+1)=xs.take i++[x]:=by rw[List.take_add_one,hx];rfl
  have hL1:∀h2,Heap.SameBut d h1 h2\/h2=h1->h2.IsList l vs:=λ h2 hs2=>by
   obtain⟨o,ho,r⟩:=hL;rcases hs2 with hs2|rfl
   ·exact⟨o,hs2.extBut l o n3 (hs1.extBut l o n2 ho),r⟩
   ·exact⟨o,hs1.extBut l o n2 ho,r⟩
  refine zGV (s:={ s with heap:=h1,toks:=s.toks+1 }) (hs1.extBut d _ n1 hd) ht he (by omega) (λ hin=>?_) (λ hnin h2 es2 ep2 t2 hd2 ht2 he2 hz2 hs2=>?_)
  ·refine lB ⟨plainId_quiet PyProof.Rows.F.plain_set_update_loop _,?_⟩
   refine ih (i+1) _ es ep t (by omega) hlt hit1 (hL1 h1 (.inr rfl)) (hs1.extBut d _ n1 hd) ht (by rw[etk,zJY,ddS,if_pos hin];exact he) (by omega) λ h' es' ep' t' tk' a b c d' k=>?_;exact hR h' es' ep' t' tk' a b c d' λ b o nb ni e=>k b o nb ni (hs1.extBut b o ni e)
  ·refine lB ⟨plainId_quiet PyProof.Rows.F.plain_set_update_loop _,?_⟩
   refine ih (i+1) _ es2 ep2 t2 (by omega) hlt (hit1.extBut hs2.extBut (Ne.symm n1)) (hL1 h2 (.inl hs2)) hd2 ht2 (by rw[etk,zJY,ddS,if_neg hnin];exact he2) (by omega) λ h' es' ep' t' tk' a b c d' k=>?_;exact hR h' es' ep' t' tk' a b c d' λ b o nb ni e=>k b o nb ni (hs2.extBut b o nb (hs1.extBut b o ni e))
theorem zGK {l:Addr}{vs:Array Value}{xs:List Str}{Q:XQ}(hh:A.handled=none) (hl:s.heap.IsList l vs) (hv:PyProof.Rows.StrsAre vs.toList xs) (hlen:xs.length<=100)
  (h:∀h' es ep t tk',SetN h' s.heap.objs.size es ep t->TabN w es t->EsOk es (dd xs)->es.size<=100->(∀b o,s.heap.get? b=some o->h'.get? b=some o)->Q (.ref s.heap.objs.size) { s with heap:=h',toks:=tk' }) :
  wpAny (model prog w) A (call (.type "set") [.ref l]) Q E s:=by
 obtain⟨c,tl,hmro⟩:=F.called_set.mro;have hmade:=F.called_set.made;have hsub:=F.called_set.sub;refine wpAny_call (codeAny_of_tree ?_);refine lB ⟨Code.quiet_builtin _ (by symm),codeAny_builtin F.entry_type_call ?_⟩;rw[Around.under_plain (weight_type_call_type "set" [.ref l] []) rfl];have h1:=F.called_set.notType;have h2:=F.called_set.canCreate;have hct:=F.typeCall_set_1 (.ref l);unfold Builtin.«type.__call__»;dsimp only;refine lD (decide_eq_false (by rw[h1];exact lX)) ?_;refine lD (decide_eq_false (by rw[h2];exact lX)) ?_;refine lA (wpAny_of_eq hct (lA (wpAny_of_eq hmro ?_)));refine lD (by rfl) ?_;refine lA (wpAny_of_eq hmade ?_);dsimp only;refine lA (lB ?_);refine lA (lE (wpAny_call (codeAny_mono (zDb (E:=E) (Q₁:=λ obj s₁=>obj = .ref s.heap.objs.size/\s₁={ s with heap:=s.heap.push (zBP #[] 0 (SetTable.fresh 0 0 (!w.params.followText "set-order"))) }) (.ref l) ⟨rfl,rfl⟩) λ r s₁ hr=>?_)));rcases r with e|f
 ·exact hr
 cases f with
 |ret v=>?_
 |_=>exact hr
 obtain⟨rfl,rfl⟩:=hr;have hd:=lH (h:=s.heap) (o:=zBP #[] 0 (SetTable.fresh 0 0 (!w.params.followText "set-order"))) rfl;have hT:(⟨s.heap.push (zBP #[] 0 (SetTable.fresh 0 0 (!w.params.followText "set-order"))),s.gens,s.drawn,s.toks,s.os⟩:Shared).TypeIs (.ref s.heap.objs.size) "set" := ⟨_,hd,rfl⟩;refine lA (wpAny_isInstance hT hsub (lD (by rfl) ?_));refine lA (lE (wpAny_callSpecial?_slot (name:=Str.ofString "__init__") hT F.called_set.init (wpAny_call (codeAny_call_builtin F.called_set.init.plain F.entry_set_init (check_set_init_1 hT ?_)))));have kp0:∀b o,s.heap.get? b=some o->(s.heap.push (zBP #[] 0 (SetTable.fresh 0 0 (!w.params.followText "set-order")))).get? b=some o:=λ b o hb=>lG _ hb
 have hl0:(s.heap.push (zBP #[] 0 (SetTable.fresh 0 0 (!w.params.followText "set-order")))).IsList l vs:=by
  obtain⟨o,ho,r⟩:=hl;exact⟨o,kp0 l o ho,r⟩
 have lt:l<s.heap.objs.size:=let ⟨o,ho,_⟩:=hl;lI ho;unfold Builtin.«set.__init__»;refine lA (wpAny_of_eq (a:=()) (by rfl) ?_);dsimp only;have hsl:=F.sub_list_set;have hsf:=F.sub_list_frozenset;refine lA ?_;unfold typeNameOfCut;have hTl:(⟨s.heap.push (zBP #[] 0 (SetTable.fresh 0 0 (!w.params.followText "set-order"))),s.gens,s.drawn,s.toks,s.os⟩:Shared).TypeIs (.ref l) "list" := let ⟨o,ho,hc,_⟩:=hl0;⟨o,ho,hc⟩
 repeat (any_goals (first|assumption|exact hT|(with_reducible refine wpAny_isInstance hTl hsl ?_)|(with_reducible refine wpAny_isInstance hTl hsf ?_)|(with_reducible refine wpAny_pyIter_list hl0 ?_)|(with_reducible refine wpAny_typeOf hTl ?_)|(with_reducible refine wpAny_runValue ?_)|wp_step))
 have ltp:s.heap.objs.size<(s.heap.push (zBP #[] 0 (SetTable.fresh 0 0 (!w.params.followText "set-order")))).objs.size:=by rw[Heap.size_push];exact Nat.lt_succ_self _
 have hd2:=lG { cls:=Value.type "list_iterator", data:=Data.fields #[Value.ref l,Value.int 0 0] } hd
 have hl2:((s.heap.push (zBP #[] 0 (SetTable.fresh 0 0 (!w.params.followText "set-order")))).push { cls:=Value.type "list_iterator", data:=Data.fields #[Value.ref l,Value.int 0 0] }).IsList l vs:=by
  obtain⟨o,ho,r⟩:=hl0;exact⟨o,lG _ ho,r⟩
 refine zFx (vs:=vs) (xs:=xs) (show A.in1.in1.handled=none from hh) hv (lS ltp) (lS (Nat.lt_trans lt ltp)) (lS lt) hlen vs.size 0 _ #[] 0 _ (by omega) (lY _) ⟨_,lH _ rfl,rfl,rfl⟩ hl2 hd2 ⟨zBn _,(λ z=>by rw[z];rfl),λ z=>absurd z (by decide)⟩ ⟨(λ e h=>by simp at h),List.Perm.refl _⟩ (lQ _) λ h' es ep t tk' e1 e2 e3 e4 kp=>?_;refine lB (lB ?_);refine lD (by rfl) (lB ?_);refine h h' es ep t tk' e1 e2 e3 e4 λ b o e=>?_;have lb:=lI e;exact kp b o (lS lb) (lS (Nat.lt_trans lb ltp)) (lG _ (kp0 b o e))
end
end PySem
namespace L2
open PySem PySem.W PyProof.Rows
open PySem.Spec
instance:DecidableEq Dt:=λ d e=>decidable_of_iff (Dt.beq d e=true) Dt.beq_iff
theorem zMV (d e:Dt):Dt.beq d e=decide (d=e):=by
 by_cases h:d=e
 ·rw[decide_eq_true h];exact Dt.beq_iff.mpr h
 ·rw[decide_eq_false h]
  cases z:Dt.beq d e with
  |false=>rfl
  |true=>exact absurd (Dt.beq_iff.mp z) h
mutual
inductive DA (h:Heap):Dt->Value->Prop
 |int (i:Int) (t:Tok):DA h (.int i) (.int i t)
 |str (x:Str) (t:Tok):DA h (.str x) (.str x t)
 |tup {a:Addr}{items:Array Value}{ds:List Dt}:h.IsTuple a items->DAs h ds items.toList->DA h (.tup ds) (.ref a)
inductive DAs (h:Heap):List Dt->List Value->Prop
 |nil:DAs h [] []
 |cons {d:Dt}{u:Value}{ds:List Dt}{us:List Value}:DA h d u->DAs h ds us->DAs h (d::ds) (u::us)
end
theorem zGC {h:Heap}{a:Addr}{x y:Array Value}(hx:h.IsTuple a x) (hy:h.IsTuple a y):x=y:=by
 obtain⟨o,ho,_,n,hd⟩:=hx;obtain⟨o',ho',_,n',hd'⟩:=hy;rw[ho] at ho';cases ho';rw[hd] at hd';cases hd';rfl
mutual
theorem DA.inj {h:Heap}:∀{d e:Dt}{u:Value},DA h d u->DA h e u->d=e
 |_,_,_,.int _ _,.int _ _=>rfl
 |_,_,_,.str _ _,.str _ _=>rfl
 |_,_,_,.tup h1 r1,.tup h2 r2=>by
  have:=zGC h1 h2;subst this;rw[DAs.inj r1 r2]
theorem DAs.inj {h:Heap}:∀{d e:List Dt}{u:List Value},DAs h d u->DAs h e u->d=e
 |_,_,_,.nil,.nil=>rfl
 |_,_,_,.cons r q,.cons r2 q2=>by rw[DA.inj r r2,DAs.inj q q2]
end
mutual
theorem DA.kept {h h':Heap}(k:∀b x,h.IsTuple b x->h'.IsTuple b x):∀{d:Dt}{u:Value},DA h d u->DA h' d u
 |_,_,.int _ _=>.int _ _
 |_,_,.str _ _=>.str _ _
 |_,_,.tup h r=>.tup (k _ _ h) (DAs.kept k r)
theorem DAs.kept {h h':Heap}(k:∀b x,h.IsTuple b x->h'.IsTuple b x):∀{d:List Dt}{u:List Value},DAs h d u->DAs h' d u
 |_,_,.nil=>.nil
 |_,_,.cons r q=>.cons (DA.kept k r) (DAs.kept k q)
end
theorem DAs.length {h:Heap}:∀{ds:List Dt}{us:List Value},DAs h ds us->ds.length=us.length
 |_,_,.nil=>rfl
 |_,_,.cons _ q=>by simp[DAs.length q]
theorem DAs.get {h:Heap}:∀{ds:List Dt}{us:List Value}{j:Nat}{u:Value},DAs h ds us->us[j]?=some u->∃d,ds[j]?=some d/\DA h d u
 |_,_,0,_,.cons r _,e=>⟨_,rfl,by cases e;exact r⟩
 |_,_,j+1,_,.cons _ q,e=>by
  obtain⟨d,e1,r⟩:=DAs.get q (j:=j) (by simpa using e);exact⟨d,by simpa using e1,r⟩
section
variable {P:Program}{w:World}{H:Hp}{h:Heap}
mutual
theorem DR.da (ok:HOk P w H h):∀{d:Dt}{v:V}{u:Value},DR H d v->RelV v u->DA h d u
 |_,_,_,.int i,r=>by obtain⟨t,rfl⟩:=r;exact .int _ _
 |_,_,_,.str x,r=>by obtain⟨t,rfl⟩:=r;exact .str _ _
 |_,_,_,.tup (a:=a) ha q,r=>by
  cases r;obtain⟨_,its,rv,p⟩:=ok a _ ha;exact .tup p (by rw[List.toList_toArray];exact DRs.da ok q rv)
theorem DRs.da (ok:HOk P w H h):∀{d:List Dt}{v:List V}{u:List Value},DRs H d v->Vals v u->DAs h d u
 |_,_,_,.nil,.nil=>.nil
 |_,_,_,.cons r q,.cons a b=>.cons (DR.da ok r a) (DRs.da ok q b)
end
end
section
variable {s:Shared}
theorem zMO:∀(n:Nat) (A:Around) {d e:Dt}{u y:Value},d.deep<=n->DA s.heap d u->DA s.heap e y->A.units+n<cLine->SeqAt.EqAt A s u y (Dt.beq d e):=by
 intro n
 induction n with
 |zero =>
  intro A d e u y hn rd re hu;cases rd with
  |int i t =>
   cases re with
   |int j t'=>rw[show Dt.beq (.int i) (.int j)=(i == j) by simp[Dt.beq,Bool.beq_eq_decide_eq]];exact SeqAt.EqAt.int_int i t j t'
   |str x t'=>exact SeqAt.EqAt.int_str i t x t'
   |tup h r=>exact SeqAt.EqAt.int_tuple i t h (by omega)
  |str x t =>
   cases re with
   |int j t'=>exact SeqAt.EqAt.str_int x t j t'
   |str w' t'=>rw[show Dt.beq (.str x) (.str w')=(x == w') by simp[Dt.beq,Bool.beq_eq_decide_eq]];exact SeqAt.EqAt.str_str x t w' t'
   |tup h r=>exact SeqAt.EqAt.str_tuple x t h (by omega)
  |tup h r=>simp[Dt.deep] at hn
 |succ n ih =>
  intro A d e u y hn rd re hu;cases rd with
  |int i t =>
   cases re with
   |int j t'=>rw[show Dt.beq (.int i) (.int j)=(i == j) by simp[Dt.beq,Bool.beq_eq_decide_eq]];exact SeqAt.EqAt.int_int i t j t'
   |str x t'=>exact SeqAt.EqAt.int_str i t x t'
   |tup h r=>exact SeqAt.EqAt.int_tuple i t h (by omega)
  |str x t =>
   cases re with
   |int j t'=>exact SeqAt.EqAt.str_int x t j t'
   |str w' t'=>rw[show Dt.beq (.str x) (.str w')=(x == w') by simp[Dt.beq,Bool.beq_eq_decide_eq]];exact SeqAt.EqAt.str_str x t w' t'
   |tup h r=>exact SeqAt.EqAt.str_tuple x t h (by omega)
  | @tup a items ds ha rs =>
   have hn':Dt.deeps ds<=n:=by simpa[Dt.deep] using hn
   cases re with
   |int j t'=>exact SeqAt.EqAt.tuple_int j t' ha (by omega)
   |str w' t'=>exact SeqAt.EqAt.tuple_str w' t' ha (by omega)
   | @tup b items2 es hb rs' =>
    by_cases hab:a=b
    ·subst hab
     have:=zGC ha hb;subst this;have:ds=es:=DAs.inj rs rs';subst this;rw[show Dt.beq (.tup ds) (.tup ds)=true from Dt.beq_iff.mpr rfl];exact SeqAt.EqAt.same _
    ·refine SeqAt.EqAt.of_refs hab ?_
     have m1:=rs.length;have m2:=rs'.length
     have key:=SeqAt.RcAt.tuples (A:=A) (s:=s) (e:=λ j=>match ds[j]?,es[j]? with|some d,some e=>Dt.beq d e|_,_=>false) ha hb (by omega) λ j h1 h2=>by
      obtain⟨d1,ed,rd1⟩:=rs.get (show items.toList[j]?=some items[j] by simp[h1]);obtain⟨d2,ed2,rd2⟩:=rs'.get (show items2.toList[j]?=some items2[j] by simp[h2]);simp only[ed,ed2];exact ih A.in1 (mG (zDj ed) hn') rd1 rd2 (by rw[show A.in1.units=A.units+1 from rfl];omega)
     have ez:Dt.beq (.tup ds) (.tup es)=((List.range (min items.size items2.size)).all (λ j=>match ds[j]?,es[j]? with|some d,some e=>Dt.beq d e|_,_=>false) && items.size == items2.size):=by
      rw[show Dt.beq (.tup ds) (.tup es)=Dt.beqs ds es by simp[Dt.beq],zFf];have a1:items.size=ds.length:=by rw[m1];simp
      have a2:items2.size=es.length:=by rw[m2];simp
      rw[a1,a2]
      try rfl
     rw[ez];exact key
end
mutual
noncomputable def Dt.hsh (w:World):Dt->Int
 |.int i=>hashInt i
 |.str x=>hashStr w x
 |.tup ds=>reduceHash (Builtin.Tuple.tupleHashOf (Dt.hshs w ds))
noncomputable def Dt.hshs (w:World):List Dt->List Int
 |[]=>[]
 |d::ds=>Dt.hsh w d::Dt.hshs w ds
end
mutual
noncomputable def Dt.draws:Dt->Nat
 |.int _=>1
 |.str _=>1
 |.tup ds=>Dt.drawss ds+1
noncomputable def Dt.drawss:List Dt->Nat
 |[]=>0
 |d::ds=>Dt.draws d+Dt.drawss ds
end
theorem zFW (w:World):∀(a b:List Dt),Dt.hshs w (a++b)=Dt.hshs w a++Dt.hshs w b
 |[],b=>rfl
 |d::a,b=>by simp[Dt.hshs,zFW w a b]
theorem zDN:∀(a b:List Dt),Dt.drawss (a++b)=Dt.drawss a+Dt.drawss b
 |[],b=>by simp[Dt.drawss]
 |d::a,b=>by simp[Dt.drawss,zDN a b];omega
theorem zGG:∀(a b:List Dt),Dt.deeps (a++b)=max (Dt.deeps a) (Dt.deeps b)
 |[],b=>by simp[Dt.deeps]
 |d::a,b=>by simp[Dt.deeps,zGG a b,Nat.max_assoc]
section
variable {prog:Program}{w:World}{E:XQ}
theorem zJH:∀(n:Nat) (A:Around) (s:Shared) {E:XQ}{d:Dt}{u:Value}{Q:Int->Shared->Prop},d.deep<=n->DA s.heap d u->A.units+n<cLine->Q (d.hsh w) { s with toks:=s.toks+d.draws } ->
  wpAny (model prog w) A (pyHash u) Q E s:=by
 intro n
 induction n with
 |zero =>
  intro A s E d u Q hn hd hu h;cases hd with
  |int i t=>exact(zAc prog w).pyHash (k:=.inl i) (zEI i t) h
  |str x t=>exact(zAc prog w).pyHash (k:=.inr x) (zEH x t) h
  |tup _ _=>simp[Dt.deep] at hn
 |succ n ih =>
  intro A s E d u Q hn hd hu h;cases hd with
  |int i t=>exact(zAc prog w).pyHash (k:=.inl i) (zEI i t) h
  |str x t=>exact(zAc prog w).pyHash (k:=.inr x) (zEH x t) h
  | @tup a items ds ha hi =>
   have hn':Dt.deeps ds<=n:=by simpa[Dt.deep] using hn
   obtain⟨o,ho,hc,m,hd⟩:=ha;have hT:s.TypeIs (.ref a) "tuple" := ⟨o,ho,hc⟩;unfold pyHash
   first|unfold pyHashByItsType|skip
   first|refine lA (wpAny_cRoomFor_or (.inr (by omega)) ?_)|skip
   refine lA (wpAny_specialOf hT F.slot_tuple_hash.lookup ?_);show wpAny _ _ (if (some (Value.builtin "tuple.__hash__") == some Value.none)=true then _ else _) Q E s;rw[if_neg (by rw[beq_builtin_none];exact lX)];refine lA (wpAny_specialOf hT F.slot_tuple_hash.lookup ?_);show wpAny _ _ (callSpecialIfBoundUnlessNone? (.ref a) "__hash__" _ >>= _) Q E s;refine lA (wpAny_callSpecialIfBoundUnlessNone?_slot hT F.slot_tuple_hash (wpAny_call_entry F.slot_tuple_hash hT F.entry_tuple_hash ?_ (F.args_tuple_hash_1 _)));show wpAny _ _ (Builtin.Tuple.tupleItemsOf (.ref a) >>= _) _ _ s;refine lA (wpAny_tupleItemsOf ho hd ?_);refine lA ?_;rw[←Array.forIn_toList]
   refine wpAny_forIn_list _
    (λ rest (b:Array Int) s'=>∃done left,ds=done++left/\DAs s.heap left rest/\b.toList=Dt.hshs w done/\s'={ s with toks:=s.toks+Dt.drawss done })
    _ ?_ ?_ _ _ ⟨[],ds,rfl,hi,rfl,rfl⟩
   ·rintro x rest b s' ⟨done,left,rfl,hl,hb,rfl⟩
    cases hl with
    | @cons k _ ks' _ h1 hl' =>
     have hk:k.deep<=n:=by
      rw[zGG,Dt.deeps] at hn';omega
     refine lA (ih _ _ hk h1 (by show A.units+1+n<cLine;omega) ?_)
     first
      |exact lB ⟨done++[k],ks',by simp,hl',by simp[hb,zFW,Dt.hshs],by simp[zDN,Dt.drawss,Nat.add_assoc]⟩
      |exact lA (lB (lB ⟨done++[k],ks',by simp,hl',by simp[hb,zFW,Dt.hshs],by simp[zDN,Dt.drawss,Nat.add_assoc]⟩))
   ·rintro b s' ⟨done,left,rfl,hl,hb,rfl⟩
    cases hl;rw[nT] at h;show wpAny _ _ (retInt (Builtin.Tuple.tupleHashOf b.toList)) _ _ _;rw[hb];refine wpAny_ret_mkInt ?_;show wpAny _ _ (if (decide (-(2:Int) ^ 63<=Builtin.Tuple.tupleHashOf (Dt.hshs w done)) && decide (Builtin.Tuple.tupleHashOf (Dt.hshs w done)<2 ^ 63))=true then _ else _) Q E _;unfold Dt.hsh reduceHash Dt.draws at h
    by_cases hr:(decide (-(2:Int) ^ 63<=Builtin.Tuple.tupleHashOf (Dt.hshs w done)) && decide (Builtin.Tuple.tupleHashOf (Dt.hshs w done)<2 ^ 63))=true
    ·rw[if_pos hr]
     rw[if_pos hr] at h;exact lB (by simpa[Nat.add_assoc] using h)
    ·rw[if_neg hr]
     rw[if_neg hr] at h;exact lA (wpAny_rule (lB (by simpa[Nat.add_assoc] using h)))
theorem zJ1 {M:Model}{A:Around}{E:XQ}{s:Shared}:∀(n:Nat) {d:Dt}{u:Value}{Q:Bool->Shared->Prop},d.deep<=n->DA s.heap d u->Q true s->wpAny (model prog w) A (eqIsQuiet n u) Q E s:=by
 intro n
 induction n with
 |zero =>
  intro d u Q hn hd h;cases hd with
  |int i t=>rw[eqIsQuiet_byValue _ rfl];exact lB h
  |str x t=>rw[eqIsQuiet_byValue _ rfl];exact lB h
  |tup _ _=>simp[Dt.deep] at hn
 |succ n ih =>
  intro d u Q hn hd h;cases hd with
  |int i t=>rw[eqIsQuiet_byValue _ rfl];exact lB h
  |str x t=>rw[eqIsQuiet_byValue _ rfl];exact lB h
  | @tup a items ds ha hi =>
   have hn':Dt.deeps ds<=n:=by simpa[Dt.deep] using hn
   obtain⟨o,ho,hc,m,hd⟩:=ha;have hT:s.TypeIs (.ref a) "tuple" := ⟨o,ho,hc⟩;unfold eqIsQuiet;refine lA (wpAny_specialOf hT F.slot_tuple_eq.lookup ?_);show wpAny _ _ (isInstance (.ref a) (.type "tuple") >>= _) _ _ s;refine lA (wpAny_isInstance hT isSubtype_tuple_tuple ?_);simp only[Bool.not_true,Bool.false_eq_true,if_false];refine lA (wpAny_seqItems ho hd ?_);refine lA ?_;show wpAny _ _ (forIn items _ _) _ _ s;rw[←Array.forIn_toList];refine wpAny_forIn_list _ (λ rest r s'=>r.1=none/\s'=s/\∃ds',DAs s.heap ds' rest/\Dt.deeps ds'<=n) _ ?_ ?_ _ _ ⟨rfl,rfl,ds,hi,hn'⟩
   ·rintro v rest r s' ⟨hr,rfl,ds',hall,hdp⟩
    cases hall with
    | @cons k _ ks' _ h1 hl' =>
     have hk:k.deep<=n/\Dt.deeps ks'<=n:=by
      rw[Dt.deeps] at hdp;omega
     refine lA (ih hk.1 h1 ?_);simp only[Bool.not_true,Bool.false_eq_true,if_false];exact lB ⟨rfl,rfl,ks',hl',hk.2⟩
   ·rintro⟨r1,r2⟩ s' ⟨hr,rfl,_⟩
    simp only at hr;subst hr;exact lB h
end
noncomputable def zCF (prog:Program) (w:World):HeapKind prog w Dt where
 is:=λ h d a=>DA h d (.ref a)/\d.deep<=8
 hash:=Dt.hsh w
 draws:=Dt.draws
 room:=λ A=>A.units+8<cLine
 inj:=λ hx hy=>hx.1.inj hy.1
 keeps:=λ{h h' k a d o es ep} x ho hd hs=>⟨x.1.kept λ b x hb=>by
  obtain⟨o',ho',hc,n,hd'⟩:=hb
  have hne:b≠d:=by
   rintro rfl;rw[ho'] at ho;cases ho;rw[hd'] at hd;cases hd
  exact⟨o',(hs.2 b hne).trans ho',hc,n,hd'⟩,x.2⟩
 pyHash:=λ hu hk h=>zJH 8 _ _ hk.2 hk.1 hu h
 eqBool:=λ{A E s x y a b Q} hu hx hy h=>zMO 8 A hx.2 hx.1 hy.1 hu prog w E Q (by rw[zMV];exact h)
 quiet:=λ hk h=>zJ1 (M:=model prog w) 8 hk.2 hk.1 h
noncomputable def strLt (x y:Str):Bool:=decide (x.cps.toList<y.cps.toList)
mutual
noncomputable def Dt.lt:Dt->Dt->Bool
 |.int i,.int j=>decide (i<j)
 |.str x,.str y=>strLt x y
 |.tup ds,.tup es=>Dt.lts ds es
 |.int _,.str _=>true
 |.int _,.tup _=>true
 |.str _,.tup _=>true
 |.str _,.int _=>false
 |.tup _,.int _=>false
 |.tup _,.str _=>false
noncomputable def Dt.lts:List Dt->List Dt->Bool
 |[],[]=>false
 |[],_::_=>true
 |_::_,[]=>false
 |d::ds,e::es=>if Dt.beq d e=true then Dt.lts ds es else Dt.lt d e
end
inductive Ty where
 |int|str|many (t:Ty)|two (a b:Ty)
mutual
noncomputable def Dt.has:Ty->Dt->Bool
 |.int,.int _=>true
 |.str,.str _=>true
 |.many t,.tup ds=>Dt.hass t ds
 |.two a b,.tup ds=>Dt.hasp a b ds
 |_,_=>false
noncomputable def Dt.hass:Ty->List Dt->Bool
 |_,[]=>true
 |t,d::ds=>Dt.has t d && Dt.hass t ds
noncomputable def Dt.hasp:Ty->Ty->List Dt->Bool
 |a,b,d::es=>Dt.has a d && Dt.hasq b es
 |_,_,_=>false
noncomputable def Dt.hasq:Ty->List Dt->Bool
 |b,e::es=>Dt.has b e && (es.length == 0)
 |_,_=>false
end
mutual
noncomputable def Dt.cmp:Dt->Dt->Bool
 |.int _,.int _=>true
 |.str _,.str _=>true
 |.tup ds,.tup es=>Dt.cmps ds es
 |_,_=>false
noncomputable def Dt.cmps:List Dt->List Dt->Bool
 |[],_=>true
 |_::_,[]=>true
 |d::ds,e::es=>if Dt.beq d e=true then Dt.cmps ds es else Dt.cmp d e
end
open PySem.Calls
open AutoSeq1 (wpAny_loadPart')
structure LtE (M:Model) (A:Around) (E:XQ) (s:Shared) (κ:SortKind) (G:Keyed->Prop) (R:Keyed->Keyed->Bool):Prop where
 lt:∀x y,G x->G y->∀(st:SortSt) (Q:Option Bool->SortSt->Prop),kindOf st=κ->Q (some (R x y)) st->wpS M A E s (lt' x y) Q st
 asym:∀x y,G x->G y->R x y=true->R y x=false
 tr:∀x y z,G x->G y->G z->R x y=false->R y z=false->R x z=false
section
variable {M:Model}{A:Around}{E:XQ}{s:Shared}{κ:SortKind}{G:Keyed->Prop}{R:Keyed->Keyed->Bool}
abbrev d0:Keyed:=(.none,.none)
end
section
variable {M:Model}{A:Around}{E:XQ}{s:Shared}{κ:SortKind}{G:Keyed->Prop}{R:Keyed->Keyed->Bool}
end
open Classical in
noncomputable def dtOf (h:Heap) (v:Value):Dt:=if e:∃d,DA h d v then e.choose else .tup []
abbrev XN:=List (Dt × Addr × V)
noncomputable def prs (xs:XN):List (Dt × V):=xs.map λ x=>(x.1,x.2.2)
abbrev KTN:XN->List (Dt × Addr × Value)->Prop:=Paired λ p q=>p.1=q.1/\p.2.1=q.2.1/\RelV p.2.2 q.2.2
theorem KTN.val {xs:XN}{raw:List (Dt × Addr × Value)}(r:KTN xs raw) (k:Dt):RelO (valV (prs xs) k) ((atKey raw k).map (·.2)):=by
 induction r with
 |nil=>exact True.intro
 | @cons p q ps qs h t ih =>
  obtain⟨h1,_,h2⟩:=h
  by_cases e:p.1=k
  ·have e':q.1=k:=h1.symm.trans e
   have b:atKey (q::qs) k=some q.2:=by simp[atKey,List.find?_cons,e']
   rw[b];show RelO (valV ((p.1,p.2.2)::prs ps) k) _;rw[zA6 e];exact h2
  ·have e':¬q.1=k:=λ z=>e (h1.trans z)
   have b:atKey (q::qs) k=atKey qs k:=by simp[atKey,List.find?_cons,e']
   rw[b];show RelO (valV ((p.1,p.2.2)::prs ps) k) _;rw[zA7 e];exact ih
noncomputable def putN (xs:XN) (k:Dt) (b:Addr) (v:V):XN:=if ((prs xs).any λ kv=>decide (kv.1=k))=true then xs.map (λ x=>if x.1=k then (x.1,x.2.1,v) else x) else xs++[(k,b,v)]
theorem zLn (xs:XN) (k:Dt) (b:Addr) (v:V):prs (putN xs k b v)=putK (prs xs) k v:=by
 unfold putN putK
 by_cases c:((prs xs).any λ kv=>decide (kv.1=k))=true
 ·rw[if_pos c,if_pos c]
  unfold prs;rw[nW,nW];refine List.map_congr_left λ x Ω=>?_;dsimp only[Function.comp]
  by_cases e:x.1=k
  ·rw[if_pos e,if_pos e]
  ·rw[if_neg e,if_neg e]
 ·rw[if_neg c,if_neg c]
  simp[prs]
theorem KTN.put {xs:XN}{raw:List (Dt × Addr × Value)}(r:KTN xs raw) (k:Dt) (b:Addr) {v:V}{u:Value}(rv:RelV v u):KTN (putN xs k b v) (storedH raw k b u):=by
 have e:((prs xs).any λ kv=>decide (kv.1=k))=(atKey raw k).isSome:=by
  rw[zCp,(r.val k).isSome_eq,Option.isSome_map]
 unfold putN storedH;rw[e]
 by_cases q:(atKey raw k).isSome=true
 ·rw[if_pos q,if_pos q]
  clear e q
  induction r with
  |nil=>exact .nil
  | @cons p q ps qs h t ih =>
   rw[mL,mL];refine .cons ?_ ih;obtain⟨h1,h2,h3⟩:=h;unfold putAt
   by_cases e:p.1=k
   ·rw[if_pos e,if_pos (h1.symm.trans e)];exact⟨h1,h2,rv⟩
   ·rw[if_neg e,if_neg (λ z=>e (h1.trans z))];exact⟨h1,h2,h3⟩
 ·rw[if_neg q,if_neg q];exact Paired.snoc r ⟨rfl,rfl,rv⟩
def dNp (P:Program) (w:World) (a:Addr) (xs:XN) (h:Heap):Prop:=(a == sysModules)=false/\∃raw,KTN xs raw/\∃o es ep,h.get? a=some o/\o.ExactDict/\o.data = .dict es ep/\es.toList=raw.map (entryOfKey (zCF P w))/\(raw.map (·.1)).Nodup
noncomputable def dN (P:Program) (w:World) (a:Addr) (xs:XN):HO:=.ext (dNp P w a xs)
def KeysN (H:Hp) (xs:XN):Prop:=∀x∈xs,DR H x.1 (.ref x.2.1)/\x.1.deep<=8
def DicR (P:Program) (w:World) (H:Hp) (a:Addr) (kvs:List (Dt × V)):Prop:=∃xs,kvs=prs xs/\Rd H a (dN P w a xs)/\KeysN H xs/\xs.length<=1000
def DicN (P:Program) (w:World) (H:Hp) (a:Addr) (kvs:List (Dt × V)):Prop:=∃xs,kvs=prs xs/\H a=some (dN P w a xs)/\KeysN H xs/\xs.length<=1000
section
variable {P:Program}{w:World}{H H':Hp}{h:Heap}{a:Addr}{kvs:List (Dt × V)}
theorem DicN.rd:DicN P w H a kvs->DicR P w H a kvs
 |⟨xs,e,r,k,l⟩=>⟨xs,e,.inl r,k,l⟩
theorem KeysN.mono (t:Tk H H') {xs:XN}(k:KeysN H xs):KeysN H' xs:=λ x hx=>⟨(k x hx).1.mono t,(k x hx).2⟩
theorem DicN.mono (t:Tk H H') (e:H' a=H a):DicN P w H a kvs->DicN P w H' a kvs
 |⟨xs,e1,r,k,l⟩=>⟨xs,e1,e▸r,k.mono t,l⟩
theorem DicR.raw (ok:HOk P w H h):DicR P w H a kvs->∃raw,(a == sysModules)=false/\(∃xs,kvs=prs xs/\KTN xs raw)/\h.DictOfH (zCF P w) a raw/\raw.length<=1000
 |⟨xs,e,r,k,l⟩=>by
  obtain⟨⟨hs,raw,rel,o,es,ep,h1,h2,h3,h4,h5⟩,_⟩:=r.ok ok;have hl:raw.length=xs.length:=(Paired.length rel).symm;refine⟨raw,hs,⟨xs,e,rel⟩,⟨o,es,ep,h1,h2,h3,h4,?_,h5⟩,by omega⟩
  have all:∀{l:XN}{m:List (Dt × Addr × Value)},KTN l m->KeysN H l->∀x∈m,(zCF P w).is h x.1 x.2.1:=by
   intro l m q
   induction q with
   |nil=>intro _ x hx;exact nomatch hx
   | @cons p q ps qs hq t ih =>
    intro hk x hx;rcases lN.mp hx with e|hx
    ·subst e
     have:=hk p lO;rw[←hq.1,←hq.2.1];exact⟨DR.da ok this.1 rfl,this.2⟩
    ·exact ih (λ y hy=>hk y (lP _ hy)) x hx
  exact all rel k
theorem zJb {xs:XN}(x:dNp P w a xs h):ObjOk P w H h a (dN P w a xs):=by
 refine⟨x,?_,λ h1 h2 y k=>?_⟩
 ·obtain⟨_,raw,_,o,_,_,q,_⟩:=x
  exact⟨o,q⟩
 ·obtain⟨hs,raw,rel,o,es,ep,q,r⟩:=y
  exact⟨hs,raw,rel,o,es,ep,k o q,r⟩
theorem zGp {A:Around}(hu:A.units+20<cLine):(zCF P w).room A.in1:=by show A.units+1+8<cLine;omega
end
section
variable {X:Cx}{jP:List (Addr × Obj)}{σ:L2.St}{H:Hp}{s:Shared}{a b:Addr}{k:Dt}{kvs:List (Dt × V)}{v:V}{A:Around}{E:XQ}
theorem n_is (I:Inv X jP σ H s) (hk:DR H k (.ref b)) (hd:k.deep<=8):(zCF X.prog X.w).is s.heap k b:=⟨DR.da I.hok hk rfl,hd⟩
theorem zNG (I:Inv X jP σ H s) (d:DicR X.prog X.w H a kvs):s.TypeIs (.ref a) "dict" /\ (∀c,Value.ref a = .ref c->∃ob,s.heap.get? c=some ob/\ob.dict=none)/\(a == sysModules)=false:=by
 obtain⟨raw,hs,_,dd,_⟩:=d.raw I.hok;refine⟨dd.typeIs,λ c q=>?_,hs⟩;cases q;obtain⟨ob,_,_,h1,h2,_⟩:=dd;exact⟨ob,h1,h2.2.1⟩
theorem zI0 {Q:XQ}(hu:A.units+20<cLine) (I:Inv X jP σ H s) (d:DicR X.prog X.w H a kvs) (hk:DR H k (.ref b)) (hd:k.deep<=8) (hv:valV kvs k=some v) (h:∀w' s',Inv X jP σ H s'->RelV v w'->Q w' s') :
  wpAny (model X.prog X.w) A (getItem (.ref a) (.ref b)) Q E s:=by
 obtain⟨raw,hs,⟨xs,e,rel⟩,dd,_⟩:=d.raw I.hok;subst e;obtain⟨w',hw,rw'⟩:=RelO.some_of (v:=v) (o:=(atKey raw k).map (·.2)) (by rw[←hv];exact rel.val k);obtain⟨p,hp,hp2⟩:=lV.mp hw;refine wpAny_getItem_heap (zGp hu) (n_is I hk hd) dd hp ?_;rw[hp2];exact h w' _ (I.tok _) rw'
def DicP (P:Program) (w:World) (H:Hp) (a:Addr) (kvs:List (Dt × V)):Prop:=DicN P w H a kvs\/(H a=some (.dK [])/\kvs=[])
theorem zIz {r:Value}{Q:Unit->Shared->Prop}(hu:A.units+20<cLine) (I:Inv X jP σ H s) (d:DicP X.prog X.w H a kvs) (hl:kvs.length<1000) (hk:DR H k (.ref b)) (hd:k.deep<=8) (rv:RelV v r)
  (h:∀o s',Inv X jP σ (upd H a o) s'->DicN X.prog X.w (upd H a o) a (putK kvs k v)->Tk H (upd H a o)->Q () s') :
  wpAny (model X.prog X.w) A (setItem (.ref a) (.ref b) r) Q E s:=by
 obtain⟨xs,raw,e,hs,rel,dd,hlen,hkeys,mu⟩:∃(xs:XN) (raw:List (Dt × Addr × Value)),kvs=prs xs/\(a == sysModules)=false/\KTN xs raw/\s.heap.DictOfH (zCF X.prog X.w) a raw/\raw.length<=1000/\KeysN H xs/\Mut (H a):=by
  rcases d with d|⟨ea,rfl⟩
  ·obtain⟨xs',e',q',kk,ll⟩:=id d
   obtain⟨⟨hs,raw,rel,o,es,ep,h1,h2,h3,h4,h5⟩,_⟩:=(show ObjOk X.prog X.w H s.heap a (dN X.prog X.w a xs') from I.hok a _ q');obtain⟨raw',hs',⟨xs2,e2,rel2⟩,dd,hl2⟩:=d.rd.raw I.hok;refine⟨xs',raw,e',hs,rel,⟨o,es,ep,h1,h2,h3,h4,?_,h5⟩,by have:=Paired.length rel;omega,kk,by rw[q'];exact True.intro⟩;obtain⟨o2,es2,ep2,g1,g2,g3,g4,g5,g6⟩:=dd;rw[h1] at g1;cases g1;rw[h3] at g3;cases g3;have er:raw.map (λ x=>(x.1,x.2.1))=raw.map (λ x=>(x.1,x.2.1)):=rfl
   have all:∀{l:XN}{m:List (Dt × Addr × Value)},KTN l m->KeysN H l->∀x∈m,(zCF X.prog X.w).is s.heap x.1 x.2.1:=by
    intro l m q
    induction q with
    |nil=>intro _ x hx;exact nomatch hx
    | @cons p q ps qs hq t ih =>
     intro hk x hx;rcases lN.mp hx with e|hx
     ·subst e
      have:=hk p lO;rw[←hq.1,←hq.2.1];exact⟨DR.da I.hok this.1 rfl,this.2⟩
     ·exact ih (λ y hy=>hk y (lP _ hy)) x hx
   exact all rel kk
  ·obtain⟨_,hs,vs,rel,o,es,ep,h1,h2,h3,_,h4,_⟩:=dk_of I.hok ea
   cases rel
   have e0:es.toList=[]:=by
    generalize es.toList=L at h4;cases h4;rfl
   exact⟨[],[],rfl,hs,.nil,⟨o,es,ep,h1,h2,h3,by simpa using e0,(λ x hx=>by cases hx),List.nodup_nil⟩,by simp,(λ x hx=>by cases hx),by rw[ea];exact True.intro⟩
 subst e;have hz:raw.length<=sizeLine:=Nat.le_of_lt (zAN hlen);have ntup:∀c ys,H c=some (.tup ys)->c≠a:=λ c ys r z=>by subst z;rw[r] at mu;exact mu
 refine wpAny_setItem_heap (hsz:=hz) (zGp hu) (n_is I hk hd) dd λ h' dd' hsb=>?_;obtain⟨q,es,ep,hq,h2,h3,h4,_,h5⟩:=dd';have tk:Tk H (upd H a (dN X.prog X.w a (putN xs k b v))):=λ c ys ec=>by rw[zAK (ntup c ys ec)];exact ec
 refine h (dN X.prog X.w a (putN xs k b v)) _ (zFd I mu hsb ⟨q,hq⟩ (zJb ⟨hs,_,rel.put k b rv,q,es,ep,hq,h2,h3,h4,h5⟩)) ⟨putN xs k b v,(zLn xs k b v).symm,zAA,λ x hx=>?_,?_⟩ tk
 ·have:(x.1=k/\x.2.1=b)\/∃y∈xs,x.1=y.1/\x.2.1=y.2.1:=by
   unfold putN at hx;split at hx
   ·obtain⟨y,hy,rfl⟩:=mC.mp hx
    refine .inr ⟨y,hy,?_⟩;split<;>exact⟨rfl,rfl⟩
   ·rcases lK.mp hx with hx|hx
    ·exact .inr ⟨x,hx,rfl,rfl⟩
    ·rw[mR] at hx
     subst hx;exact .inl ⟨rfl,rfl⟩
  rcases this with ⟨e1,e2⟩|⟨y,hy,e1,e2⟩
  ·rw[e1,e2];exact⟨hk.mono tk,hd⟩
  ·rw[e1,e2];exact⟨(hkeys y hy).1.mono tk,(hkeys y hy).2⟩
 ·unfold putN
  split
  ·rw[mD];simp[prs] at hl;omega
  ·rw[mK];simp[prs] at hl ⊢;omega
end
end L2
namespace PySem
open Sem (wp)
def zBW (h:Heap) (d:Addr) (es:Array DictEntry) (ep:Nat):Prop:=∃o,h.get? d=some o/\o.ExactDict/\o.data = .dict es ep
theorem zBW.at {h h':Heap}{d:Addr}{es:Array DictEntry}{ep:Nat}(x:zBW h d es ep) (e:∀o,h.get? d=some o->h'.get? d=some o):zBW h' d es ep:=let ⟨o,ho,r⟩:=x;⟨o,e _ ho,r⟩
theorem zBW.typeIs {s:Shared}{d:Addr}{es:Array DictEntry}{ep:Nat}(x:zBW s.heap d es ep):s.TypeIs (.ref d) "dict" := let ⟨o,ho,hc,_⟩:=x;⟨o,ho,hc.1⟩
section
variable {prog:Program}{w:World}{A:Around}{E:XQ}{s:Shared}{d it:Addr}{es:Array DictEntry}{ep i:Nat}
abbrev zNI (d:Addr) (n ep:Nat):Obj:={ cls:=.type "dict_keyiterator", data:=.fields #[.ref d,.int 0 0,.int n 0,.int ep 0] }
theorem zLb {Q:XQ}(lo:(d == sysModules)=false) (hm:zBW s.heap d es ep) (hQ:Q (.ref s.heap.objs.size) { s with heap:=s.heap.push (zNI d es.size ep) }):wpAny (model prog w) A (pyIter (.ref d)) Q E s:=by
 have hT:=hm.typeIs;obtain⟨o,ho,hc,hdat⟩:=hm;refine wpAny_pyIter_slot hT F.slot_dict_iter (wpAny_call_entry F.slot_dict_iter hT F.entry_dict_iter ?_ (F.args_dict_iter_1 _));unfold Builtin.«dict.__iter__»;refine lA ?_;unfold Builtin.Dict.dictSlotNone;refine lA (wpAny_notOrdered_dict hT (lB ?_));(show wpAny _ _ (Builtin.Dict.showsAll d >>= _) _ _ s);unfold Builtin.Dict.showsAll;rw[if_neg (by rw[lo];exact lX)];refine lA (lB (lA (wpAny_dictEntries ho hdat (lA (wpAny_dictEpoch ho hdat ?_)))));refine lA (wpAny_newObj_type (lB ⟨_,rfl, "dict_keyiterator", _,⟨_,lH _ rfl,rfl⟩,F.slot_dict_keyiterator_next.lookup,?_⟩));simpa[rawInt] using hQ
theorem zLa {Q:Option Value->Shared->Prop}(hit:s.heap.IsKeyIter it d i es.size ep) (hm:zBW s.heap d es ep) (hi:i<es.size)
  (hQ:∀h',h'.IsKeyIter it d (i+1) es.size ep->Heap.SameBut it s.heap h'->Q (some es[i].key) { s with heap:=h' }):wpAny (model prog w) A (pyNext (.ref it)) Q E s:=by
 obtain⟨o,ho,hc,hd⟩:=id hit;obtain⟨od,hod,hcd,hdd⟩:=id hm;unfold pyNext;refine lA (wpAny_attempt (wpAny_callSpecial?_slot (name:=Str.ofString "__next__") hit.typeIs F.slot_dict_keyiterator_next (wpAny_call_entry F.slot_dict_keyiterator_next hit.typeIs F.entry_dict_keyiterator_next ?_ (F.args_dict_keyiterator_next_1 _))));refine lA (lB (lA (lA ?_)))
 first|refine lA (wpAny_typeNameOfWhole_keyiter hit.typeIs (lB (lA (wpAny_fieldsOf ho hd ?_))))|refine lA (wpAny_typeNameOf_keyiter hit.typeIs (lB (lA (wpAny_fieldsOf ho hd ?_))))
 simp only[show Builtin.Dict_items.ownsTuple "dict_keyiterator" = false by decide,Bool.false_eq_true,if_false];show wpAny _ _ (if (Value.ref d == Value.none)=true then _ else _) _ _ s;rw[if_neg (show ¬((Value.ref d == Value.none)=true) from Bool.false_ne_true)];refine lA (lB (lA (wpAny_dictEntries hod hdd ?_)));rw[if_neg (by simp)];refine lA (lB (lA (wpAny_dictEpoch hod hdd ?_)));rw[if_neg (by simp)];refine lB ?_;simp only[show ¬((i:Int)<0) from by omega,if_false,Int.toNat_natCast,Array.getElem?_eq_getElem hi];refine lA ?_
 first|refine lA (wpAny_typeNameOfWhole_keyiter hit.typeIs (lB (lA (wpAny_isOneOf_keyiter hit.typeIs ?_))))|refine lA (wpAny_typeNameOf_keyiter hit.typeIs (lB (lA (wpAny_isOneOf_keyiter hit.typeIs ?_))))
 show wpAny _ _ (setField (.ref it) 1 (rawInt ((i:Int)+1)) >>= _) _ _ s;refine lA (wpAny_setField ho hd (by simp) ?_);have hit':(s.heap.update it (Obj.mapFields (·.setIfInBounds 1 (rawInt ((i:Int)+1))))).IsKeyIter it d (i+1) es.size ep:=⟨_,mI _ ho (Obj.isFreed_of_fields (Obj.data_mapFields hd _)),(Obj.cls_mapFields ..).trans hc,by rw[Obj.data_mapFields hd];simp[rawInt]⟩;refine lA (lE (lA (wpAny_isOneOf_keyiter (s:={ s with heap:=s.heap.update it (Obj.mapFields (·.setIfInBounds 1 (rawInt ((i:Int)+1)))) }) hit'.typeIs ?_)));show wpAny _ _ (pure es[i].key) _ _ _;exact lB (lB ⟨_,rfl,lB (hQ _ hit' (Heap.SameBut.update ..))⟩)
theorem zMp {Q:Option Value->Shared->Prop}(hh:A.handled=none) (hit:s.heap.IsKeyIter it d i es.size ep) (hm:zBW s.heap d es ep) (hi:es.size<=i)
  (hQ:∀h',Heap.ExtBut it s.heap h'->Q none { s with heap:=h' }):wpAny (model prog w) A (pyNext (.ref it)) Q E s:=by
 obtain⟨o,ho,hc,hd⟩:=id hit;obtain⟨od,hod,hcd,hdd⟩:=id hm;unfold pyNext;refine lA (wpAny_attempt (wpAny_callSpecial?_slot (name:=Str.ofString "__next__") hit.typeIs F.slot_dict_keyiterator_next (wpAny_call_entry F.slot_dict_keyiterator_next hit.typeIs F.entry_dict_keyiterator_next ?_ (F.args_dict_keyiterator_next_1 _))));refine lA (lB (lA (lA ?_)))
 first|refine lA (wpAny_typeNameOfWhole_keyiter hit.typeIs (lB (lA (wpAny_fieldsOf ho hd ?_))))|refine lA (wpAny_typeNameOf_keyiter hit.typeIs (lB (lA (wpAny_fieldsOf ho hd ?_))))
 simp only[show Builtin.Dict_items.ownsTuple "dict_keyiterator" = false by decide,Bool.false_eq_true,if_false];show wpAny _ _ (if (Value.ref d == Value.none)=true then _ else _) _ _ s;rw[if_neg (show ¬((Value.ref d == Value.none)=true) from Bool.false_ne_true)];refine lA (lB (lA (wpAny_dictEntries hod hdd ?_)));rw[if_neg (by simp)];refine lA (lB (lA (wpAny_dictEpoch hod hdd ?_)));rw[if_neg (by simp)];refine lB ?_;simp only[show ¬((i:Int)<0) from by omega,if_false,Int.toNat_natCast,Array.getElem?_eq_none hi];refine lA ?_
 first|refine lA (wpAny_typeNameOfWhole_keyiter hit.typeIs (lB ?_))|refine lA (wpAny_typeNameOf_keyiter hit.typeIs (lB ?_))|skip
 show wpAny _ _ (setField (.ref it) 0 .none >>= _) _ _ s;refine lA (wpAny_setField ho hd (by simp) ?_);show wpAny _ _ (newExc (.type "StopIteration") [] >>= _) _ _ _;refine lA ?_;simp only[newExc,newTuple];refine lA (wpAny_newObj_type ?_ (by size_fits));refine lA (m:=firstArgMember _ _) (wpAny_of_eq (a:=Value.none) (by first|rfl|(simp only[firstArgMember];rfl)) (wpAny_newObj_type ?_ (by size_fits)));simp only[raiseNew];refine lA (wpAny_handled ?_);rw[show A.in1.handled=none from hh];refine lA (lB (wpAny_throw ?_));refine lA (wpAny_isInstance (T := "StopIteration") (b:=true) ⟨_,lH _ rfl,rfl⟩ isSubtype_stop ?_);exact lB (hQ _ (((Heap.SameBut.update ..).extBut.push _).push _))
end
end PySem
namespace PySem.W
open PySem
end PySem.W
namespace PySem.W
open PySem PySem.Spec PySem.Calls PyProof.Rows
def ExAt (x D:Addr) (h:Heap):Prop:=∃o vs,h.get? x=some o/\o.cls = .ref D/\o.data = .fields vs
theorem ExAt.ty {x D:Addr}{h:Heap}(p:ExAt x D h) (M:Model):Looks M h (typeOf (.ref x)) (.ref D):=by
 obtain⟨o,vs,h1,h2,_⟩:=p;exact h2▸(Looks.ld h1).andThen .now
section
variable {prog:Program}{w:World}{A:Around}{E:XQ}{K:Frag}{x D:Addr}{h:Heap}{g:Array GenState}{d:Drawn}{t:Nat}{os:OsState}
theorem zGl {M:Model}{nameV:Value}{Q:Unit->Shared->Prop}(X:K.In h) (p:ExAt x D h) (hb:mroIn K D (.type "BaseException")=some true) (hq:Q () ⟨h,g,d,t,os⟩) :
  wpAny M A (checkBuiltinCall "BaseException.__getattribute__" ⟨[.ref x,nameV],[]⟩) Q E ⟨h,g,d,t,os⟩:=by
 have hk:builtinKind "BaseException.__getattribute__" = some .slot:=by symm
 have hsplit:splitId "BaseException.__getattribute__" = some ("BaseException", "__getattribute__"):=by symm
 have ha:=F.args_bexc_ga (.ref x) nameV;have L0:=p.ty M;have L1:=looks_mroIn (M:=M) X hb;simp only[checkBuiltinCall,hk,hsplit];unfold isInstance;refine lA (lA (L0.at (L1.at ?_)))
 repeat (first|wp_step)
 exact hq
theorem zGF {tp:Value}{R:Result->Shared->Prop}(X:K.In h) (p:ExAt x D h) (hm:mroIn K D (.type "object")=some true) (hq:R (.ok (.ret (.ref D))) ⟨h,g,d,t,os⟩) :
  codeAny (model prog w) A (.call (.builtin "getset_descriptor.__get__") ⟨[.builtin "object.__class__", .ref x,tp],[]⟩) R ⟨h,g,d,t,os⟩:=by
 have L0:=p.ty (model prog w);have L1:=looks_mroIn (M:=model prog w) X hm;have hT5:(⟨h,g,d,t,os⟩:Shared).TypeIs (.builtin "object.__class__") "getset_descriptor" := F.typeOf_object_class;refine codeAny_call_builtin F.slot_gs_get.plain F.entry_gs_get (F.slot_gs_get.check _ _ _ _ _ _ _ _ hT5 (F.args_gs_get _ _ _) ?_)
 repeat (any_goals (first|assumption|with_reducible refine L0.at ?_|(rw[F.owner_object_class];with_reducible refine L1.at ?_)|wp_step))
 refine⟨Code.quiet_builtin _ (by symm),codeAny_builtin F.entry_object_class ?_⟩
 repeat (any_goals (first|assumption|with_reducible refine L0.at ?_|wp_step))
theorem zEe {tk:Tok}{Q:Fin->Shared->Prop}(X:K.In h) (p:ExAt x D h) (hc:findIn K (.ref D) "__class__" = some (some (.builtin "object.__class__"))) (hm:mroIn K D (.type "object")=some true) (hq:Q (.done (.ret (.ref D))) ⟨h,g,d,t,os⟩) :
  wpAny (model prog w) A (Builtin.«object.__getattribute__» ⟨[.ref x,.str "__class__" tk],[]⟩) Q E ⟨h,g,d,t,os⟩:=by
 have f5:=F.typeOf_object_class;have f6:=F.slot_gs_get.lookup;have f7:=F.slot_gs_set.lookup;have L0:=p.ty (model prog w);have L1:=looks_findIn (M:=model prog w) X hc;have hT5:(⟨h,g,d,t,os⟩:Shared).TypeIs (.builtin "object.__class__") "getset_descriptor" := F.typeOf_object_class
 repeat (any_goals (first|assumption|with_reducible refine L0.at ?_|with_reducible refine L1.at ?_|wp_step))
 refine zGF X p hm ?_
 repeat (any_goals (first|assumption|wp_step))
theorem zGk {tk:Tok}{Q:XQ}(X:K.In h) (p:ExAt x D h) (hga:findIn K (.ref D) "__getattribute__" = some (some (.builtin "BaseException.__getattribute__"))) (hgt:findIn K (.ref D) "__getattr__" = some none)
  (hb:mroIn K D (.type "BaseException")=some true) (hc:findIn K (.ref D) "__class__" = some (some (.builtin "object.__class__"))) (hm:mroIn K D (.type "object")=some true) (hq:Q (.ref D) ⟨h,g,d,t,os⟩) :
  wpAny (model prog w) A (getAttrBy (.ref x) (.str "__class__" tk) false false) Q E ⟨h,g,d,t,os⟩:=by
 have L0:=p.ty (model prog w);have L1:=looks_findIn (M:=model prog w) X hga;have L2:=looks_findIn (M:=model prog w) X hgt;have f3:=F.attr_ValueError.ga.bind (.ref x);have hx2:(Value.builtin "BaseException.__getattribute__" == Value.builtin "object.__getattribute__")=false:=by symm
 have hx1:(onTheHeap (Value.ref D) && Value.builtin "BaseException.__getattribute__" == Value.builtin "object.__getattribute__")=false:=by rw[hx2];rfl
 repeat (any_goals (first|assumption|with_reducible refine L0.at ?_|with_reducible refine L1.at ?_|with_reducible refine L2.at ?_|wp_step))
 refine codeAny_call_builtin F.attr_ValueError.ga.plain F.entry_bexc_ga (zGl X p hb (zEe X p hc hm ?_))
 repeat (any_goals (first|assumption|wp_step))
theorem zKf {Q:Option Value->Shared->Prop}(X:K.In h) (p:ExAt x D h) (hga:findIn K (.ref D) "__getattribute__" = some (some (.builtin "BaseException.__getattribute__"))) (hgt:findIn K (.ref D) "__getattr__" = some none)
  (hb:mroIn K D (.type "BaseException")=some true) (hc:findIn K (.ref D) "__class__" = some (some (.builtin "object.__class__"))) (hm:mroIn K D (.type "object")=some true) (hq:Q (some (.ref D)) ⟨h,g,d,t+1,os⟩) :
  wpAny (model prog w) A (getAttr? (.ref x) "__class__") Q E ⟨h,g,d,t,os⟩:=by
 unfold getAttr? getAttrBy?
 repeat (any_goals (first|assumption|with_reducible apply zGk X p hga hgt hb hc hm|wp_step))
end
structure ExCls (K:Frag) (D:Addr):Prop where
 ga:findIn K (.ref D) "__getattribute__" = some (some (.builtin "BaseException.__getattribute__"))
 gt:findIn K (.ref D) "__getattr__" = some none
 bs:mroIn K D (.type "BaseException")=some true
 cl:findIn K (.ref D) "__class__" = some (some (.builtin "object.__class__"))
 ob:mroIn K D (.type "object")=some true
 ic:(clsIn K D).isSome=true
set_option tactic.hygienic true in
theorem kitx_exc {K:Frag}{x D:Addr}(C:ExCls K D):KitX K (.ref x) (.ref D) (ExAt x D) where
 ty:=λ M Ω Ω p=>p.ty M
 it:=λ Ω Ω X Ω=>by
  have hcD:=C.ic;unfold clsIn at hcD;split at hcD
  ·rename_i c' d' cd' sl' ho
   intro A' Q' E' s' k q;unfold isType loadHead;exact lA (wpAny_loadPart (k _ _ (X _ _ ho)) (lB q))
  ·cases hcD
 ne:=λ h tp dd its n sl X htp=>by
  have hcD:=C.ic;refine rM.mpr λ q=>?_;have e:D=tp:=Value.ref.inj (beq_iff_eq.mp q);subst e;unfold clsIn at hcD;split at hcD
  ·rename_i c' d' cd' sl' ho
   have z:=(X _ _ ho).symm.trans htp;cases z
  ·cases hcD
 ca:=λ{_ _ _ _ _ s} X p k=>by
  obtain⟨h,g,d,t,os⟩:=s;exact zKf X p C.ga C.gt C.bs C.cl C.ob k
end PySem.W
namespace L2
open PySem PySem.Spec PyProof.Rows
section
variable {P:Program}{w:World}{H H':Hp}{h h' g:Heap}{a:Addr}{o:HO}
theorem ObjOk.there (x:ObjOk P w H h a o):∃ob,h.get? a=some ob:=by
 cases o with
 |lst xs=>obtain⟨_,_,_,_,e⟩:=x;exact⟨_,e⟩
 |tup xs=>obtain⟨_,_,_,ob,e,_⟩:=x;exact⟨_,e⟩
 |dK kvs=>obtain⟨_,_,_,_,o,_,_,e,_⟩:=x;exact⟨_,e⟩
 |dT kvs=>obtain⟨_,_,_,_,o,_,_,e,_⟩:=x;exact⟨_,e⟩
 |set S n=>obtain⟨o,_,_,_,e,_⟩:=x;exact⟨_,e⟩
 |ins C dx fs=>obtain⟨_,_,_,e,_⟩:=x;exact⟨_,e⟩
 |own y=>exact x
 |xd fs=>obtain⟨_,⟨_,_,_,e,_⟩,_⟩:=x;exact⟨_,e⟩
 |rng lo hi=>obtain⟨_,_,_,e⟩:=x;exact⟨_,e⟩
 |frz ob u=>obtain⟨e,_⟩:=x;exact⟨_,e⟩
 |tbl ps=>exact⟨_,(show h.get? a=some _ from x)⟩
 |met f y=>exact⟨_,(show h.get? a=some _ from x)⟩
 |ext φ=>obtain⟨_,e,_⟩:=x;exact e
def Cov (fs:List Addr) (H':Hp) (h g B:Heap):Prop:=∀b o,g.get? b=some o->b∉fs->((∃o0,h.get? b=some o0)\/H' b≠none)->B.get? b=some o
theorem moved {fs:List Addr}{B:Heap}(un:Un fs [] H H' h g) (hok:HOk P w H' g) (cov:Cov fs H' h g B) (hfd:∀b∈fs,H' b=none/\∃o,g.get? b=some o/\∀vs,o.data ≠ .fields vs)
  (st:B.StaysIn h') (sm:g.UpToSlots h'):Un fs [] H H' h h'/\HOk P w H' h'/\Cov fs H' h h' B:=by
 refine⟨⟨λ b o q n nb Ω=>?_,λ b o q n hb Ω=>?_,un.free,λ b o q Ω=>?_,un.tups,un.frzs,un.tbls⟩,λ b u e=>?_,λ b o e nb hz=>?_⟩
 ·exact st b o (cov b o (un.keep b o q n nb (by simp)) nb (.inl ⟨o,q⟩))
 ·obtain⟨sl,e⟩:=un.slot b o q n hb (by simp)
  obtain⟨_,o',e',d⟩:=hfd b hb;rw[e] at e';cases e';obtain⟨sl',e2⟩:=sm b _ e d;exact⟨sl',e2⟩
 ·by_cases hb:b∈fs
  ·obtain⟨_,o',e',d⟩:=hfd b hb
   obtain⟨sl',e2⟩:=sm b _ e' d;exact⟨_,e2⟩
  ·obtain⟨o',e⟩:=un.there b o q (by simp)
   exact⟨o',st b o' (cov b o' e hb (.inl ⟨o,q⟩))⟩
 ·refine(hok b u e).stay (λ c v hc q=>?_) (λ Ω q=>q) λ Ω Ω q=>q
  have hn:H' c≠none:=by
   rcases hc with z|z
   ·rw[z,e];intro y;cases y
   ·rw[z];intro y;cases y
  exact st c v (cov c v q (λ z=>hn (hfd c z).1) (.inr hn))
 ·have:∃o',g.get? b=some o':=by
   rcases hz with ⟨o0,z⟩|z
   ·exact un.there b o0 z (by simp)
   ·cases q:H' b with
    |none=>exact absurd q z
    |some u=>exact(hok b u q).there
  obtain⟨o',e'⟩:=this;have c:=cov b o' e' nb hz;have:=st b o' c;rw[e] at this;cases this;exact c
end
structure Flew (P:Program) (w:World) (stk:List Env) (H:Hp) (s:Shared) (H':Hp) (ea C:Addr) (s':Shared):Prop where
 os:s'.os=s.os
 bare:AllBare s'.gens
 un:Un (frs stk) [] H H' s.heap s'.heap
 hok:HOk P w H' s'.heap
 new:s.heap.get? ea=none
 hn:H' ea=none
 fly:∃(B:Heap) (a0:Value),Heap.FlyingW B stk ea (.ref C) a0 s'.heap/\Cov (frs stk) H' s.heap s'.heap B
noncomputable def CXF (P:Program) (w:World):CXT:=λ outer H s E e s'=>∃ea C H',e = .ref ea/\Flew P w outer H s H' ea C s'/\E (.ref C) none H'
section
variable {X:Cx}{jP:List (Addr × Obj)}{σ:St}{H H':Hp}{s s':Shared}{ea C:Addr}
theorem Flew.frd (F:Flew X.prog X.w X.stack H s H' ea C s') (I:Inv X jP σ H s) {B:Heap}{a0:Value}(hfl:Heap.FlyingW B X.stack ea (.ref C) a0 s'.heap):∀b∈frs X.stack,H' b=none/\∃o,s'.heap.get? b=some o/\∀vs,o.data ≠ .fields vs:=λ b hb=>by
 obtain⟨_,o,e,d⟩:=I.stack.mem hb;exact⟨F.un.free b o e (I.stkFree b hb) (by simp),(hfl.2.2.1.mem hb).2⟩
theorem Flew.on (F:Flew X.prog X.w X.stack H s H' ea C s') (I:Inv X jP σ H s) {B:Heap}{a0:Value}{h':Heap}(hfl:Heap.FlyingW B X.stack ea (.ref C) a0 s'.heap) (cov:Cov (frs X.stack) H' s.heap s'.heap B)
  (hfl':Heap.FlyingW B X.stack ea (.ref C) a0 h') (sm:s'.heap.UpToSlots h'):Flew X.prog X.w X.stack H s H' ea C { s' with heap:=h' }:=by
 obtain⟨u,k,c⟩:=moved F.un F.hok cov (F.frd I hfl) hfl'.1 sm;exact⟨F.os,F.bare,u,k,F.new,F.hn,B,a0,hfl',c⟩
theorem Flew.inv (F:Flew X.prog X.w X.stack H s H' ea C s') (I:Inv X jP σ H s):Inv X jP σ H' s':=I.call' (ch:=[]) F.os F.un F.hok F.bare (λ b z=>absurd z (by simp))
end
section
variable {P:Program}{w:World}{K:W.Frag}{mg:Str->Option Value}{base:Heap}{N:List Str}{qual:Str}{scope:Scope}{f:Addr}{cd:Value}{A:Around}{outer:List Env}{s:Shared}{H:Hp}{E:XK}
theorem zGE {jP:List (Addr × Obj)}{σ:St}{H1 H':Hp}{s1:Shared}{h' B:Heap}(I:Inv (cxOf (CXF P w) P w K mg base N qual scope f cd A outer s H E) jP σ H1 s1)
  (U:Un (frs (cxOf (CXF P w) P w K mg base N qual scope f cd A outer s H E).stack) [] H1 H' s1.heap h') (c:Cov (frs (cxOf (CXF P w) P w K mg base N qual scope f cd A outer s H E).stack) H' s1.heap h' B):Un (frs outer) [] H H' s.heap h'/\Cov (frs outer) H' s.heap h' B:=by
 have ba:Un (frs outer) [] H H1 s.heap s1.heap:=I.base;have ab:s.heap.objs.size<=(cxOf (CXF P w) P w K mg base N qual scope f cd A outer s H E).env.locals:=I.ok.above;have lt:∀b o,s.heap.get? b=some o->b≠(cxOf (CXF P w) P w K mg base N qual scope f cd A outer s H E).env.locals:=λ b o e=>lS (lZ (lI e) ab)
 have no:∀b,b≠(cxOf (CXF P w) P w K mg base N qual scope f cd A outer s H E).env.locals->b∉frs outer->b∉frs (cxOf (CXF P w) P w K mg base N qual scope f cd A outer s H E).stack:=λ b n1 n2 z=>by
  rcases lN.mp (I.stkSub b z) with q|q
  ·exact n1 q
  ·exact n2 q
 have hL:H' (cxOf (CXF P w) P w K mg base N qual scope f cd A outer s H E).env.locals=none:=by
  obtain⟨m,⟨o,_,_,e,_⟩,_⟩:=I.loc;exact U.free _ o e I.free (by simp)
 refine⟨⟨λ b o q n nb hx=>U.keep b o (ba.keep b o q n nb hx) (ba.free b o q n hx) (no b (lt b o q) nb) hx,λ b o q n hb hx=>?_,λ b o q n hx=>?_,λ b o q hx=>?_,λ b xs q=>U.tups b xs (ba.tups b xs q),λ b o u q=>U.frzs b o u (ba.frzs b o u q),λ b ps q=>?_⟩,λ b o e nb hz=>?_⟩
 ·obtain⟨sl,e⟩:=ba.slot b o q n hb hx
  obtain⟨sl',e'⟩:=U.any e (ba.free b o q n hx) hx;exact⟨sl',e'⟩
 ·obtain⟨o',e⟩:=ba.there b o q hx
  exact U.free b o' e (ba.free b o q n hx) hx
 ·obtain⟨o',e⟩:=ba.there b o q hx
  exact U.there b o' e hx
 ·obtain⟨m1,e1⟩:=ba.tbls b ps q
  obtain⟨m2,e2⟩:=U.tbls b _ e1;exact⟨m1++m2,by rw[e2,Array.append_assoc]⟩
 ·rcases hz with ⟨o0,z⟩|z
  ·obtain⟨o1,z1⟩:=ba.there b o0 z (by simp)
   exact c b o e (no b (lt b o0 z) nb) (.inl ⟨o1,z1⟩)
  ·exact c b o e (no b (λ y=>z (by rw[y];exact hL)) nb) (.inr z)
theorem zHU:zE4 (CXF P w) (cxOf (CXF P w) P w K mg base N qual scope f cd A outer s H E) E:=by
 rintro jP σ H1 s1 e s' I ⟨ea,C,H',rfl,F,q⟩;obtain⟨B,a0,hfl,cov⟩:=F.fly;refine wpAny_leaves_onW I.ok.frames rfl hfl λ h' x1 x2=>?_;obtain⟨u,k,c⟩:=moved F.un F.hok cov (Flew.frd (X:=cxOf (CXF P w) P w K mg base N qual scope f cd A outer s H E) F I hfl) x1.1 x2;obtain⟨u2,c2⟩:=zGE I u c;refine⟨ea,C,H',rfl,⟨F.os.trans I.os,F.bare,u2,k,?_,F.hn,B,a0,x1,c2⟩,q⟩;cases z:s.heap.get? ea with
 |none=>rfl
 |some o =>
  obtain⟨o',z'⟩:=(show Un (frs outer) [] H H1 s.heap s1.heap from I.base).there ea o z (by simp);rw[F.new] at z';cases z'
theorem zJe {jP:List (Addr × Obj)}{σ:St}{H1:Hp}{s1:Shared}{h1:Heap}{ea C:Addr}{vs:List Value}(I:Inv (cxOf (CXF P w) P w K mg base N qual scope f cd A outer s H E) jP σ H1 s1) (hx:Heap.MadeExcOf s1.heap h1 ea (.ref C) vs) (q:E (.ref C) none H1) :
  (cxOf (CXF P w) P w K mg base N qual scope f cd A outer s H E).xe (.ref ea) { s1 with heap:=h1 }:=by
 refine wpAny_leaves_madeW (base:=W.hideAll s1.heap (frs (cxOf (CXF P w) P w K mg base N qual scope f cd A outer s H E).stack)) I.ok.frames rfl (λ b o e=>W.of_hideAll _ e) (W.funFrames_hide I.stack λ env he b hb=>List.mem_filterMap.mpr ⟨env,he,hb⟩) hx λ h' t x1 x2 x3 x4=>?_
 have cov:Cov (frs (cxOf (CXF P w) P w K mg base N qual scope f cd A outer s H E).stack) H1 s1.heap h1 (W.hideAll s1.heap (frs (cxOf (CXF P w) P w K mg base N qual scope f cd A outer s H E).stack)):=λ b o e nb hz=>by
  have:∃o0,s1.heap.get? b=some o0:=by
   rcases hz with z|z
   ·exact z
   ·cases y:H1 b with
    |none=>exact absurd y z
    |some u=>exact(I.hok b u y).there
  obtain⟨o0,z⟩:=this;have:=hx.keeps b o0 z;rw[e] at this;cases this;exact W.hideAll_get _ z nb
 obtain⟨u,k,c⟩:=moved (Un.kept (fs:=frs (cxOf (CXF P w) P w K mg base N qual scope f cd A outer s H E).stack) (ex:=[]) (H:=H1) hx.keeps) (I.hok.kept hx.keeps) cov (λ b hb=>by
  obtain⟨_,o,e,d⟩:=I.stack.mem hb;exact⟨I.stkFree b hb,o,hx.keeps b o e,d⟩) x1.1 x4
 obtain⟨u2,c2⟩:=zGE I u c;refine⟨ea,C,H1,rfl,⟨I.os,I.bare,u2,k,?_,?_,_,_,x1,c2⟩,q⟩
 ·cases z:s.heap.get? ea with
  |none=>rfl
  |some o =>
   obtain⟨o',z'⟩:=(show Un (frs outer) [] H H1 s.heap s1.heap from I.base).there ea o z (by simp);rw[hx.new] at z';cases z'
 ·cases y:H1 ea with
  |none=>rfl
  |some u =>
   obtain⟨o,z⟩:=(I.hok ea u y).there;rw[hx.new] at z;cases z
end
end L2
namespace PySem.W
open PySem PySem.Spec PySem.Calls PyProof.Rows
section
variable {M:Model}{A:Around}{E:XQ}{K:Frag}{x C D:Addr}{b:Bool}{h:Heap}{g:Array GenState}{d:Drawn}{t:Nat}{os:OsState}
set_option tactic.hygienic true in
theorem ex_matches {Q:Bool->Shared->Prop}(X:K.In h) (p:ExAt x C h) (tD:typeIn K (.ref D)=some (.type "type")) (bD:mroIn K D (.type "BaseException")=some true) (cD:(clsIn K D).isSome=true) (e:mroIn K C (.ref D)=some b) (hq:Q b ⟨h,g,d,t,os⟩) :
  wpAny M A (excMatches (.ref x) (.ref D)) Q E ⟨h,g,d,t,os⟩:=by
 have L0:=p.ty M;have L1:=looks_typeIn (M:=M) X tD;have L2:=looks_mroIn (M:=M) X bD;have L3:=looks_mroIn (M:=M) X e
 have L4:Looks M h (isType (.ref D)) true:=by
  unfold clsIn at cD;split at cD
  ·rename_i c' d' cd' sl' ho
   intro A' Q' E' s' k q;unfold isType loadHead;exact lA (wpAny_loadPart (k _ _ (X _ _ ho)) (lB q))
  ·cases cD
 have f:=tc_notTuple;unfold excMatches
 repeat (first|with_reducible refine L0.at ?_|with_reducible refine L1.at ?_|with_reducible refine L4.at ?_|with_reducible refine L2.at ?_|with_reducible refine L3.at ?_|wp_step)
 cases b with
 |true=>repeat (first|exact hq|wp_step)
 |false=>repeat (first|exact hq|wp_step)
end
set_option tactic.hygienic true in
theorem exc_obj {K:Frag}{h:Heap}{C:Addr}{bB:List Value}{nid:String}(Z:K.In h) (e:excIn K C bB nid=true):∃tl NN n1 n2 b1 b2 b3 b4 b5 b6 b7 z0 z1 z2 z3 z5 mm,
  h.get? C=some (excClassObj n1 n2 C NN b1 tl b2 b3 b4 b5 b6 b7 z0 z1 z2 z3 z5 nid)/\h.Ns NN mm/\mm "__init__" = none/\OwnTail h bB tl:=by
 unfold excIn at e;split at e
 next b7 cc ss hK =>
  split at e
  next C2 tl z0 z1 z2 z3 nn z5 hmro hsl =>
   simp only[Bool.and_eq_true,beq_iff_eq,Bool.not_eq_true'] at e;obtain⟨⟨⟨⟨⟨r1,r2⟩,hdl⟩,htl⟩,hnk⟩,hin⟩:=e;subst r1 r2;obtain⟨n1,b1,mro,NN,n2,b2,b3,b4,b5,b6,del⟩:=cc;dsimp only at hmro hdl hnk hin;subst hmro hdl
   have es:ss=#[z0,z1,z2,z3,some (.builtin nn),z5]:=by
    obtain⟨l⟩:=ss;simp only at hsl;rw[hsl]
   subst es;exact⟨tl,NN,n1,n2,b1,b2,b3,b4,b5,b6,b7,z0,z1,z2,z3,z5,_,Z _ _ hK,.of_isNs (isNs_of_in Z hnk),nsMap_none_of_in Z hnk hin,tail_of_in Z htl⟩
  next=>cases e
 next=>cases e
end PySem.W
namespace L2
open PySem PySem.Spec PyProof.Rows
structure ExC (K:W.Frag) (C:Addr):Prop extends W.ExCls K C where
 ty:W.typeIn K (.ref C)=some (.type "type")
abbrev bmVE:List Value:=[.type "ValueError", .type "Exception", .type "BaseException", .type "object"]
def zMg (C:Addr) (E:XK) (t:TA):TS:=λ _ σ H=>t σ H λ vs H1=>vs.length<=sizeLine/\E (.ref C) none H1
section
variable {P:Program}{w:World}{K:W.Frag}{mg:Str->Option Value}{base:Heap}{N:List Str}{qual:Str}{scope:Scope}{f:Addr}{cd:Value}{A:Around}{outer:List Env}{s:Shared}{H:Hp}{E:XK}
theorem zHG {x:Str}{np cpos pos:Pos}{e0:Expr}{es:List Expr}{t:TA}{C:Addr}(hg:Gl (cxOf (CXF P w) P w K mg base N qual scope f cd A outer s H E) x) (hm:mg x=some (.ref C)) (hC:W.excIn K C bmVE "ValueError.__new__" = true)
  (ha:PA (cxOf (CXF P w) P w K mg base N qual scope f cd A outer s H E) (e0::es) t) (hdb:(x == ("__debug__" : Str))=false:=by decide)
  (he:starEach (e0::es) (cxOf (CXF P w) P w K mg base N qual scope f cd A outer s H E).env=(false,eval e0 (cxOf (CXF P w) P w K mg base N qual scope f cd A outer s H E).env)::starEach es (cxOf (CXF P w) P w K mg base N qual scope f cd A outer s H E).env:=by rfl)
  (hpl:(backTo cpos (starEach es (cxOf (CXF P w) P w K mg base N qual scope f cd A outer s H E).env)).any (·.1)=false:=by rfl) :
  PS (cxOf (CXF P w) P w K mg base N qual scope f cd A outer s H E) (.Raise (some (.Call (.Name x np) (e0::es) [] cpos)) none pos) (zMg C E t):=by
 intro jP s1 σ H1 D I h;obtain⟨tl,NN,n1,n2,b1,b2,b3,b4,b5,b6,b7,z0,z1,z2,z3,z5,mm,hobj,hns,hni,T⟩:=W.exc_obj I.ok.mod.kin hC;refine wpAny_Raise_call_subT (C:=C) (nm:=n1) (q:=n2) (N:=NN) (bs:=b1) (bm:=tl) (hdct:=b2) (sn:=b3) (sub:=b4) (ab:=b5) (col:=b6) (dd:=b7) (k0:=z0) (k1:=z1) (k2:=z2) (k3:=z3) (k5:=z5) PySem.F.excBase_ValueError (mN:=mm) (T.hasType PySem.F.excBase_ValueError.hasBase) (I.ok.hd rfl) ?_ hni (zDM I hg hm ⟨rfl,?_⟩ hdb)
 ·rw[he]
  show (false || (backTo cpos (starEach es _)).any (·.1))=false;rw[hpl];rfl
 ·have z:=ha cpos jP s1 σ H1 _ I h
  rw[he] at z ⊢;refine Calls.evalArgs_plain (wpAny_mono z (λ us s2 ⟨vs,H2,I2,r,hl,q⟩=>⟨rfl,by rw[←r.length];exact hl,I2.bk _ _ hobj,hns.keeps I2.bk,T.keeps I2.bk,λ h' e hx=>zJe I2 hx q⟩) λ Ω Ω y=>y)
end
noncomputable def exO (ea C:Addr):HO:=.ext (W.ExAt ea C)
theorem zNX {P:Program}{w:World}{H:Hp}{h:Heap}{ea C:Addr}(p:W.ExAt ea C h):ObjOk P w H h ea (exO ea C):=by
 obtain⟨o,vs,e,hc,hd⟩:=p;exact⟨⟨o,vs,e,hc,hd⟩,⟨o,e⟩,λ h1 h2 ⟨o,vs,e,hc,hd⟩ k=>⟨o,vs,k o e,hc,hd⟩⟩
theorem zMM {P:Program}{w:World}{H:Hp}{h:Heap}{ea C:Addr}(hok:HOk P w H h) (e:H ea=some (exO ea C)):W.ExAt ea C h:=(hok ea _ e).1
abbrev HR:=Ends->Addr->St->Hp->Prop
abbrev Cx.inX (X:Cx) (ea:Addr):Cx:={ X with A:=X.A.mark (some (.ref ea)),calm:=false,xe:=λ Ω Ω=>False }
theorem Cx.Ok.inX {X:Cx}(ok:X.Ok) (ea:Addr):(X.inX ea).Ok :=
 ⟨ok.mod,ok.kind,ok.glob,ok.blt,ok.above,ok.inj,ok.has,ok.cab,λ z=>(by cases z),ok.frames,ok.stk,ok.exf,ok.bs,ok.bsz,ok.noex,ok.exfs,ok.funs,ok.frf⟩
section
variable {X:Cx}{jP:List (Addr × Obj)}{σ:St}{H H':Hp}{s s':Shared}{ea C:Addr}
theorem Inv.inX (I:Inv X jP σ H s) (ea:Addr):Inv (X.inX ea) jP σ H s:=⟨I.ok.inX ea,I.os,I.bare,I.base,I.loc,I.cell,I.free,I.freeC,I.pin,I.hok,I.len⟩
theorem Inv.outX (ok:X.Ok) (I:Inv (X.inX ea) jP σ H s):Inv X jP σ H s:=⟨ok,I.os,I.bare,I.base,I.loc,I.cell,I.free,I.freeC,I.pin,I.hok,I.len⟩
def PH (X:Cx) (hs:List ExceptHandler) (r:HR):Prop:=∀(jP:List (Addr × Obj)) (D:Ends) (σ:St) (ea C:Addr) (H H0:Hp) (s s0:Shared),Inv X jP σ H0 s0->Flew X.prog X.w X.stack H0 s0 H ea C s->r D C σ H ->
 wpAny (model X.prog X.w) X.A (handleBy (.ref ea) X.env hs) (SP X jP D) X.xe s
theorem zM2:PH X [] (λ Ω Ω Ω Ω=>False):=λ Ω Ω Ω Ω Ω Ω Ω Ω Ω Ω Ω h=>False.elim h
theorem Flew.caught (F:Flew X.prog X.w X.stack H s H' ea C s') (I:Inv X jP σ H s):Inv X jP σ (upd H' ea (exO ea C)) s':=by
 obtain⟨B,a0,hfl,cov⟩:=F.fly;obtain⟨oe,vs,e1,e2,e3,_⟩:=hfl.first;have ne:∀b u,H' b=some u->b≠ea:=λ b u q=>zAL q F.hn;refine I.call' (ch:=[]) F.os ⟨F.un.keep,F.un.slot,λ b o q n hx=>?_,F.un.there,λ b xs q=>?_,λ b o u q=>?_,λ b ps q=>?_⟩ (λ b u q=>?_) F.bare (λ b z=>absurd z (by simp))
 ·rw[zAK (λ z=>by rw[z,F.new] at q;cases q)]
  exact F.un.free b o q n hx
 ·have:=F.un.tups b xs q
  rw[zAK (ne b _ this)];exact this
 ·have:=F.un.frzs b o u q
  rw[zAK (ne b _ this)];exact this
 ·obtain⟨m,this⟩:=F.un.tbls b ps q
  exact⟨m,by rw[zAK (ne b _ this)];exact this⟩
 ·by_cases hb:b=ea
  ·subst hb
   rw[zAA] at q;cases q;exact zNX ⟨oe,vs,e1,e2,e3⟩
  ·rw[zAK hb] at q
   exact(F.hok b u q).stay (λ Ω Ω Ω z=>z) (λ c z=>by rw[zAK (ne c _ z)];exact z) λ c xs z=>by rw[zAK (ne c _ z)];exact z
theorem Inv.gone {M:Model}{A:Around}{E:XQ}{n:Str}{i:Nat}{pos:Pos}{Q:Unit->Shared->Prop}(I:Inv X jP σ H s) (hN:X.N.Nodup) (hi:X.N[i]?=some n) (hl:X.env.kindOf n=some .local)
    (h:∀s',Inv X jP (σ.set i none) H s'->Q () s'):wpAny M A (do bindName X.env n .none;unbindBehindTheSuite X.env n pos) Q E s:=by
  obtain⟨m,hn,hv⟩:=id I.loc;obtain⟨oL,_,_,hoL,_⟩:=id hn;have hiσ:i<σ.length:=by rw[I.len];exact(lJ.mp hi).1
  have cne:=I.cne;have lt:∀b o,X.s₀.heap.get? b=some o->b≠X.env.locals:=λ b o e=>lS (lZ (lI e) I.ok.above);refine wpAny_nameGoes_keeps hl hn (by rw[I.ok.kind];rfl) λ h' v hn' hs=>h _ ?_;refine⟨I.ok,I.os,I.bare,⟨λ b o e nb hb hx=>?_,λ b o e nb hb hx=>?_,I.base.free,λ b o e hx=>?_,I.base.tups,I.base.frzs,I.base.tbls⟩,⟨_,hn',λ j y v' e1 e2 e3=>?_⟩,λ y c e=>?_,I.free,I.freeC,λ p hp=>?_,λ b ob e=>?_,by simpa using I.len⟩
  · exact(hs.2 b (lt b o e)).trans (I.base.keep b o e nb hb hx)
  · obtain⟨sl,e1⟩:=I.base.slot b o e nb hb hx
    exact⟨sl,(hs.2 b (lt b o e)).trans e1⟩
  · obtain⟨o',e1⟩:=I.base.there b o e hx
    exact⟨o',(hs.2 b (lt b o e)).trans e1⟩
  · by_cases hj:j=i
    · subst hj
      rw[rL hiσ] at e2;cases e2
    · rw[List.getElem?_set_ne (Ne.symm hj)] at e2
      obtain⟨u',r',q⟩:=hv j y v' e1 e2 e3;refine⟨u',r',?_⟩;rcases q with ⟨k,e⟩|⟨k,c,e,z⟩
      · refine .inl ⟨k,?_⟩
        have:y≠n:=λ e=>hj (zFK hN e1 (e▸hi));simp[this,e]
      · exact .inr ⟨k,c,e,z.sameBut hs (cne y c e)⟩
  · obtain⟨w',z⟩:=I.cell y c e
    exact⟨w',z.sameBut hs (cne y c e)⟩
  · obtain⟨e,n,ne,nf,d⟩:=I.pin p hp
    exact⟨(hs.2 p.1 ne).trans e,n,ne,nf,d⟩
  · refine(I.hok b ob e).stay (λ c w' hc q=>(hs.2 c ?_).trans q) (λ Ω q=>q) λ Ω Ω q=>q
    rintro rfl;rcases hc with rfl|hc
    · rw[I.free] at e;cases e
    · rw[I.free] at hc;cases hc
end
noncomputable def Ends.less (D:Ends) (i:Nat):Ends:={ nx:=λ σ H=>D.nx (σ.set i none) H,rt:=D.rt,bk:=λ σ H=>D.bk (σ.set i none) H,ct:=λ σ H=>D.ct (σ.set i none) H }
noncomputable def hAs (K:W.Frag) (Da:Addr) (i:Nat) (ts:TS) (r:HR):HR:=λ D C σ H=>W.ExCls K C/\∃b,W.mroIn K C (.ref Da)=some b /\
 if b=true then ∀ea,H ea=none->ts (D.less i) (σ.set i (some (.ref ea))) (upd H ea (exO ea C)) else r D C σ H
section
variable {X:Cx}{x n:Str}{np pos:Pos}{i:Nat}{b0:Stmt}{suite:List Stmt}{rest:List ExceptHandler}{ts:TS}{r:HR}{Da:Addr}
theorem SP.goes {ea:Addr}{jP:List (Addr × Obj)}{D:Ends}{M:Model}{A:Around}{E:XQ}{f:Flow}{s:Shared}(ok:X.Ok) (hN:X.N.Nodup) (hi:X.N[i]?=some n) (hl:X.env.kindOf n=some .local) (h:SP (X.inX ea) jP (D.less i) f s) :
    wpAny M A (do bindName X.env n .none;unbindBehindTheSuite X.env n pos) (λ Ω s'=>SP X jP D f s') E s:=by
  cases f with
  |next=>obtain⟨σ',H',I,q⟩:=h;exact(Inv.outX ok I).gone hN hi hl λ s' I'=>⟨_,_,I',q⟩
  |brk=>obtain⟨σ',H',I,q⟩:=h;exact(Inv.outX ok I).gone hN hi hl λ s' I'=>⟨_,_,I',q⟩
  |cont=>obtain⟨σ',H',I,q⟩:=h;exact(Inv.outX ok I).gone hN hi hl λ s' I'=>⟨_,_,I',q⟩
  |ret u=>obtain⟨v,σ',H',I,rv,q⟩:=h;exact(Inv.outX ok I).gone hN hi hl λ s' I'=>⟨v,_,_,I',rv,q⟩
theorem ph_as (hN:X.N.Nodup) (hi:X.N[i]?=some n) (hl:X.env.kindOf n=some .local) (hg:Gl X x) (hm:X.mg x=some (.ref Da)) (hD:ExC X.K Da) (hs:∀ea,PSs (X.inX ea) (b0::suite) ts) (hr:PH X rest r) (hdb:(x == ("__debug__" : Str))=false:=by decide) :
  PH X (.ExceptHandler (some (.Name x np)) (some n) (b0::suite) pos::rest) (hAs X.K Da i ts r):=by
 intro jP D σ ea C H H0 s s0 I F h;obtain⟨hC,b,hb,h⟩:=h;obtain⟨B,a0,hfl,cov⟩:=F.fly;obtain⟨oe,vs,e1,e2,e3,_⟩:=hfl.first;have I1:=F.inv I;refine wpAny_handleBy_cons (codeAny_handlers_test (zDM (X:=X.inX ea) (I1.inX ea) hg hm ?_ hdb)) (by intro q;cases q);obtain⟨hp,g,d,tk,os⟩:=s;refine W.ex_matches I1.kIn ⟨oe,vs,e1,e2,e3⟩ hD.ty hD.bs hD.ic hb ?_;cases b with
 |false=>exact hr jP D σ ea C H H0 _ s0 I F (by simpa using h)
 |true =>
  refine codeAny_handlers_suite_as ?_;refine PyProof.Rows.lands_againW hfl λ h' hfl' sm=>?_;have F2:=F.on I hfl cov hfl' sm;have I2:=F2.caught I;refine zDh (X:=X.inX ea) (v:=.ref ea) (I2.inX ea) hN hi (.inl hl) rfl (λ s3 I3=>?_) (.inr hl);refine wpAny_mono (hs ea jP s3 _ _ _ I3 ((by simpa using h:∀ea,H ea=none->ts (D.less i) (σ.set i (some (.ref ea))) (upd H ea (exO ea C))) ea F.hn)) (λ f s4 q=>?_) λ Ω Ω z=>False.elim z;exact SP.goes I.ok hN hi hl q
abbrev Cx.inTry (X:Cx) (hs:List ExceptHandler) (jP:List (Addr × Obj)) (D:Ends):Cx:={ X with pn:=X.pn++jP,xe:=λ e s1=>wpAny (model X.prog X.w) X.A (noteFrame e X.env) (λ Ω s2=>wpAny (model X.prog X.w) X.A (setFlight e none) (λ Ω s3=>wpAny (model X.prog X.w) X.A (handleBy e X.env hs) (SP X jP D) X.xe s3) X.xe s2) X.xe s1 }
theorem Cx.Ok.inTry (ok:X.Ok) (hs:List ExceptHandler) (jP:List (Addr × Obj)) (D:Ends):(X.inTry hs jP D).Ok :=
 ⟨ok.mod,ok.kind,ok.glob,ok.blt,ok.above,ok.inj,ok.has,ok.cab,ok.hd,ok.frames,ok.stk,ok.exf,ok.bs,ok.bsz,ok.noex,ok.exfs,ok.funs,ok.frf⟩
theorem Inv.inTry {jP:List (Addr × Obj)}{σ:St}{H:Hp}{s:Shared}(I:Inv X jP σ H s) (hs:List ExceptHandler) (D:Ends):Inv (X.inTry hs jP D) [] σ H s :=
 ⟨I.ok.inTry hs jP D,I.os,I.bare,I.base,I.loc,I.cell,I.free,I.freeC,λ p hp=>I.pin p (by simpa using hp),I.hok,I.len⟩
theorem Inv.outTry {jP pins':List (Addr × Obj)}{hs:List ExceptHandler}{D:Ends}{σ:St}{H:Hp}{s:Shared}(ok:X.Ok) (I:Inv (X.inTry hs jP D) pins' σ H s):Inv X jP σ H s :=
 ⟨ok,I.os,I.bare,I.base,I.loc,I.cell,I.free,I.freeC,λ p hp=>I.pin p (mF _ hp),I.hok,I.len⟩
noncomputable def eTry (r:HR) (D:Ends) (σ:St):XK:=λ c Ω H=>∃C,c = .ref C/\r D C σ H
theorem passT {hs:List ExceptHandler}{jP pins':List (Addr × Obj)}{D:Ends}{σ:St}{H:Hp}{s s':Shared}{e:Value}(ok:X.Ok) (hf:X.env.frame=some X.env.locals) (hst:X.stack=X.env::X.outer) (ph:PH X hs r) (I:Inv (X.inTry hs jP D) pins' σ H s) (h:CXF X.prog X.w X.stack H s (eTry r D σ) e s') :
  (X.inTry hs jP D).xe e s':=by
 obtain⟨ea,C,H',rfl,F,C2,e2,q⟩:=h;cases e2;have I0:=Inv.outTry ok I;obtain⟨B,a0,hfl,cov⟩:=F.fly;have ff:=ok.frames;rw[hst] at ff;have hfl2:=hfl;rw[hst] at hfl2;refine wpAny_looks_onW ff hf hfl2 λ h4 hh4 sm4=>?_;refine wpAny_landsW hh4 λ h5 hfl5 sm5=>?_;rw[←hst] at hfl5;exact ph jP D σ ea C H' H _ s I0 (F.on I0 hfl cov hfl5 (sm4.trans sm5)) q
def zKy (sp:Sp) (dvs:List V) (r:HR) (D:Ends) (t:TA):TE:=λ σ H Q=>t σ H λ vs H1=>sp (vs++dvs) H1 Q (eTry r D σ)
theorem zKE {hs:List ExceptHandler}{pins0:List (Addr × Obj)}{D:Ends}{k:Nat}{f:Addr}{fd:FuncData}{ps:List Str}{sp:Sp}{dvs:List V}{ds:List Value}{p pos:Pos}{e:Expr}{es:List Expr}{t:TA}
  (hf:X.env.frame=some X.env.locals) (hst:X.stack=X.env::X.outer) (ph:PH X hs r)
  (F:FnOk X.prog X.w X.K X.mg X.base (CXF X.prog X.w) k f fd ps sp) (hr:Room k X.A) (hg:Gl X x) (hm:X.mg x=some (.ref f)) (hk:W.keepIn X.K (.ref f)=true) (hb:Binds X.K fd ps ds) (hd:Vals dvs ds)
  (ha:PA (X.inTry hs pins0 D) (e::es) t) (hdb:(x == ("__debug__" : Str))=false:=by decide) (he:starEach (e::es) X.env=(false,eval e X.env)::starEach es X.env:=by rfl) (hpl:(backTo pos (starEach es X.env)).any (·.1)=false:=by rfl) :
  PE (X.inTry hs pins0 D) (.Call (.Name x p) (e::es) [] pos) (zKy sp dvs r D t):=by
 intro jP s σ H Q I h;have ok:X.Ok:=⟨I.ok.mod,I.ok.kind,I.ok.glob,I.ok.blt,I.ok.above,I.ok.inj,I.ok.has,I.ok.cab,I.ok.hd,I.ok.frames,I.ok.stk,I.ok.exf,I.ok.bs,I.ok.bsz,I.ok.noex,I.ok.exfs,I.ok.funs,I.ok.frf⟩;refine wpAny_Call_Name_kw (zDM (X:=X.inTry hs pins0 D) I hg hm ?_ hdb);refine W.callWith_K (h₀:=X.base) I.ok.mod.kin hk (thn (ha pos jP s σ H _ I h) λ us s1 ⟨vs,H1,I1,rv,q⟩=>⟨I1.kIn,?_⟩) he hpl;have r2:Vals (vs++dvs) (us++ds):=rv.append hd;have hl:(us++ds).length=ps.length:=by rw[←r2.length];exact F.len _ _ _ _ q
 refine wpAny_call (codeAny_mono (F.run X.A X.stack s1 H1 ⟨us,[]⟩ (us++ds) (vs++dvs) Q _ hr I1.env0 (hb s1 us I1.kIn hl) r2 q) λ rr s' hq=>?_);cases rr with
 |error e=>exact passT ok hf hst ph I1 hq
 |ok fl =>
  cases fl with
  |ret u=>exact I1.after hq
  |next=>exact False.elim hq
  |brk=>exact False.elim hq
  |cont=>exact False.elim hq
theorem zMy {h0:ExceptHandler}{hs:List ExceptHandler}{body orelse:List Stmt}{tb:Ends->TS}{to:TS}(hb:∀jP D,PSs (X.inTry (h0::hs) jP D) body (tb D)) (ho:PSs X orelse to) :
  PS X (.Try body (h0::hs) orelse [] pos) (λ D σ H=>tb D { D with nx:=to D } σ H):=by
 intro jP s σ H D I h;refine wpAny_Try_except (wpAny_mono (hb jP D [] s σ H _ (I.inTry (h0::hs) D) h) (λ f s1 q=>?_) λ Ω Ω z=>z);cases f with
 |next =>
  obtain⟨σ',H',I',q⟩:=q;exact ho jP s1 σ' H' D (Inv.outTry I.ok I') q
 |brk=>obtain⟨σ',H',I',q⟩:=q;exact⟨σ',H',Inv.outTry I.ok I',q⟩
 |cont=>obtain⟨σ',H',I',q⟩:=q;exact⟨σ',H',Inv.outTry I.ok I',q⟩
 |ret u=>obtain⟨v,σ',H',I',rv,q⟩:=q;exact⟨v,σ',H',Inv.outTry I.ok I',rv,q⟩
end
def rIsiX (K:W.Frag):List V->Hp->VK->Prop:=λ xs H Q=>∃(ea C:Addr) (c:V) (cv:Value) (b:Bool),xs=[.ref ea,c]/\H ea=some (exO ea C)/\W.ExCls K C/\(∀u,RelV c u->u=cv)/\W.kitOne K (.ref C) cv=some b/\Q (.bl b) H
theorem zCT {X:Cx}:CallR X (.builtin "isinstance") (rIsiX X.K):=by
 intro jP s σ H xs us Q I r h;obtain⟨ea,C,c,cv,b,rfl,he,hC,hc,e,q⟩:=h;obtain⟨u,w',rfl,ru,rw'⟩:=vals2 r;cases ru;have:=hc w' rw';subst this;exact W.kia_one (W.kitx_exc hC) I.kIn (zMM I.hok he) e (λ z=>nomatch z) λ tk=>⟨.bl b,H,I.tok tk,rfl,q⟩
theorem Fun.okF {P:Program}{w:World}{K:W.Frag}{mg:Str->Option Value}{base:Heap}{x qual:Str}{st:Stmt}{f:Addr}{fd:FuncData}{N ps:List Str}{k:Nat}{sp:Sp}(F:Fun K x qual st f fd) (S:zAQ N ps (zAH st)) (len:∀vs H Q E,sp vs H Q E->vs.length=ps.length)
  (hbody:∀(cdv:Value) (A:Around) (outer:List Env) (s:Shared) (H:Hp) (vs:List V) (Q:VK) (E:XK),Room k (A.deeper (envOfC qual (zAH st) s.heap.objs.size f cdv))->sp vs H Q E ->
   ∃t,PSs (cxOf (CXF P w) P w K mg base N qual (zAH st) f cdv A outer s H E) (zAx st) t/\t { nx:=λ Ω H'=>Q .non H',rt:=Q } (start N vs) H):FnOk P w K mg base (CXF P w) (k+1) f fd ps sp:=by
 obtain⟨oc,od,kV,doc,pm,an,cdv,ct,osl,rfl,lk,hcd⟩:=F.ex;exact fn_of lk hcd S len λ A outer s H vs Q E hr hsp=>hbody cdv A outer s H vs Q E hr hsp
noncomputable def ov (H N:Hp):Hp:=λ a=>(N a).or (H a)
theorem zMU:bootBuiltins "ValueError" = some (.type "ValueError"):=by symm
theorem zHS {K:W.Frag}{C:Addr}:W.kitOne K (.ref C) (.ref C)=some true:=if_pos (by simp)
theorem zHW {K:W.Frag}{C:Addr}{c0:Value}{dd:Option Addr}{cd:ClassData}{sl:Array (Option Value)}(lk:K.lookup C=some ⟨c0,dd,.cls cd,sl⟩):(W.clsIn K C).isSome=true:=by
 unfold W.clsIn;rw[lk];rfl
theorem zFQ {K:W.Frag}{C D:Addr}{b:Bool}{dd:Option Addr}{cd:ClassData}{sl:Array (Option Value)}(ne:C≠D) (lk:K.lookup D=some ⟨.type "type", dd,.cls cd,sl⟩) (e:W.subIn K (.ref C) (.ref D)=some b):W.kitOne K (.ref C) (.ref D)=some b:=by
 unfold W.kitOne;rw[if_neg (by simp[ne])];show (if ((W.clsIn K D).isSome && W.typeIn K (.ref D) == some (.type "type"))=true then W.subIn K (.ref C) (.ref D) else none)=some b
 have t:W.typeIn K (.ref D)=some (.type "type"):=by
  show (K.lookup D).map (·.cls)=_;rw[lk];rfl
 rw[zHW lk,t,if_pos (by simp)];exact e
theorem zLG {K:W.Frag}{C:Addr}{b:Bool}{T:String}(hm:W.kitMeta T=true) (e:W.subIn K (.ref C) (.type T)=some b):W.kitOne K (.ref C) (.type T)=some b:=by
 unfold W.kitOne;rw[if_neg (by intro z;cases beq_iff_eq.mp z)];show (if W.kitMeta T=true then W.subIn K (.ref C) (.type T) else none)=some b;rw[if_pos hm];exact e
structure FnF (P:Program) (w:World) (K:W.Frag) (mg:Str->Option Value) (base:Heap) (k:Nat) (x:Str) (f:Addr) (fd:FuncData) (ps:List Str) (sp:Sp):Prop where
 ok:FnOk P w K mg base (CXF P w) k f fd ps sp
 bd:Binds K fd ps []
 kp:W.keepIn K (.ref f)=true
 gl:mg x=some (.ref f)
theorem FnF.up {P:Program}{w:World}{K:W.Frag}{mg:Str->Option Value}{base:Heap}{j k:Nat}{x:Str}{f:Addr}{fd:FuncData}{ps:List Str}{sp:Sp}(F:FnF P w K mg base j x f fd ps sp) (h:j<=k):FnF P w K mg base k x f fd ps sp :=
 ⟨F.ok.mono h,F.bd,F.kp,F.gl⟩
theorem zLC {P:Program}{w:World}{K:W.Frag}{mg:Str->Option Value}{base:Heap}{N:List Str}{qual:Str}{scope:Scope}{f:Addr}{cd:Value}{A:Around}{outer:List Env}{s:Shared}{H:Hp}{E:XK}{CX:CXT} :
  PassesOwn (model (cxOf CX P w K mg base N qual scope f cd A outer s H E).prog (cxOf CX P w K mg base N qual scope f cd A outer s H E).w) (cxOf CX P w K mg base N qual scope f cd A outer s H E).A (cxOf CX P w K mg base N qual scope f cd A outer s H E).env (cxOf CX P w K mg base N qual scope f cd A outer s H E).xe:=PassesOwn.leaving
noncomputable def viewO (p d:Addr):HO:=.ext λ h=>h.IsValuesView p d
open PySem.Calls PySem.W
def KyN (H:Hp) (y:V) (k:Dt):Prop:=∃b,y = .ref b/\DR H k y/\k.deep<=8
def tNGet (P:Program) (w:World) (td ty:TE):TE:=λ σ H Q=>td σ H λ x H1=>ty σ H1 λ y H2=>∃a k v kvs,x = .ref a/\DicR P w H2 a kvs/\KyN H2 y k/\valV kvs k=some v/\Q v H2
def sNPut (P:Program) (w:World) (td ty tv:TE):TS:=λ D σ H=>tv σ H λ v H1=>td σ H1 λ x H2=>ty σ H2 λ y H3=>∃a k kvs,x = .ref a/\DicP P w H3 a kvs/\kvs.length<1000/\KyN H3 y k/\∀o,DicN P w (upd H3 a o) a (putK kvs k v)->Tk H3 (upd H3 a o)->D.nx σ (upd H3 a o)
def DicE (P:Program) (w:World) (H:Hp) (a:Addr) (kvs:List (Dt × V)):Prop:=DicR P w H a kvs\/(H a=some (.dK [])/\kvs=[])
section
variable {X:Cx}{o i e f value:Expr}{pos pos' tpos apos cpos:Pos}{td ty tv tx:TE}
theorem e_raw {jP:List (Addr × Obj)}{σ:L2.St}{H:Hp}{s:Shared}{a:Addr}{kvs:List (Dt × V)}(I:Inv X jP σ H s) (d:DicE X.prog X.w H a kvs):∃raw,(a == sysModules)=false/\(∃xs,kvs=prs xs/\KTN xs raw)/\s.heap.DictOfH (zCF X.prog X.w) a raw/\raw.length<=1000:=by
 rcases d with d|⟨ea,rfl⟩
 ·exact d.raw I.hok
 ·obtain⟨_,hs,vs,rel,o,es,ep,h1,h2,h3,_,h4,_⟩:=dk_of I.hok ea
  cases rel
  have e0:es.toList=[]:=by
   generalize es.toList=L at h4;cases h4;rfl
  exact⟨[],hs,⟨[],rfl,.nil⟩,⟨o,es,ep,h1,h2,h3,by simpa using e0,(λ x hx=>by cases hx),List.nodup_nil⟩,by simp⟩
theorem zIh (hu:X.A.units+150<cLine) (ho:PE X o td) (hi:PE X i ty) (hs:NoSl i):PE X (.Subscript o i pos) (tNGet X.prog X.w td ty):=by
 intro jP s σ H Q I h;refine zII PySem.F.slot_dict_getitem.lookup hs (thn (ho jP s σ H _ I h) λ u s1 ⟨x,H1,I1,rx,q1⟩=>thn (hi jP s1 σ H1 _ I1 q1) λ iv s2 ⟨y,H2,I2,ry,a,k,v,kvs,ex,d,⟨b,eb,hk,hd⟩,hv,q2⟩=>?_);subst ex eb;obtain rfl:u=Value.ref a:=rx;obtain rfl:iv=Value.ref b:=ry;exact⟨(zNG I2 d).1,zI0 (by omega) I2 d hk hd hv λ w' s3 I3 rw'=>⟨v,H2,I3,rw',q2⟩⟩
theorem zLk (hu:X.A.units+150<cLine) (ho:PE X o td) (hi:PE X i ty) (hv:PE X value tv) (hs:swapsWith value (some (.Subscript o i pos')) pos.line X.env=pure false) :
  PS X (.Assign [.Subscript o i pos'] value pos) (sNPut X.prog X.w td ty tv):=by
 intro jP s σ H D I h;refine wpAny_Assign_Subscript (thn (hv jP s σ H _ I h) λ r s1 ⟨v,H1,I1,rv,q1⟩=>thn (ho jP s1 σ H1 _ I1 q1) λ u s2 ⟨x,H2,I2,rx,q2⟩=>thn (hi jP s2 σ H2 _ I2 q2) λ iv s3 ⟨y,H3,I3,ry,a,k,kvs,ex,d,hl,⟨b,eb,hk,hd⟩,q3⟩=>?_) hs;subst ex eb;obtain rfl:u=Value.ref a:=rx;obtain rfl:iv=Value.ref b:=ry;exact zIz (by omega) I3 d hl hk hd rv λ o s4 I4 d4 t4=>⟨σ,_,I4,q3 o d4 t4⟩
end
theorem DicP.e {P:Program}{w:World}{H:Hp}{a:Addr}{kvs:List (Dt × V)}:DicP P w H a kvs->DicE P w H a kvs
 |.inl d=>.inl d.rd
 |.inr d=>.inr d
theorem DicE.r {P:Program}{w:World}{H:Hp}{a:Addr}{kvs:List (Dt × V)}{k:Dt}{v:V}(hv:valV kvs k=some v):DicE P w H a kvs->DicR P w H a kvs
 |.inl d=>d
 |.inr ⟨_,z⟩=>by subst z;cases hv
end L2
namespace PyProof.Rows
open PySem PySem.Calls
end PyProof.Rows
namespace L2
open PySem PySem.Calls PySem.Spec PyProof.Rows PySem.W
theorem zDe (x:Str):Str.empty++x=x:=by
 show (⟨#[]++x.cps⟩:Str)=x;simp
theorem zGL:bootBuiltins "set" = some (.type "set"):=by rfl
theorem zLN:∀(xs ks:List Str),(xs.foldl ddS ks).length<=ks.length+xs.length
 |[],ks=>lQ _
 |x::xs,ks=>by
  rw[List.foldl_cons];have h:=zLN xs (ddS ks x)
  have h2:(ddS ks x).length<=ks.length+1:=by
   unfold ddS;split
   ·omega
   ·simp
  rw[mM];omega
def zJu (K:W.Frag) (ta:TA):TE:=λ σ H Q=>ta σ H λ vs H1=>∃(a:Addr) (xs:List Str),vs=[.ref a]/\SqL K H1 a (xs.map V.str)/\xs.length<=100/\Q (.int ((dd xs).length:Nat)) H1
theorem zHq {X:Cx}{a:Expr}{ta:TA}{p p2 pos pos2:Pos}(hc:X.calm=true) (hg:Gl X "len") (hm:X.mg "len" = none) (hg2:Gl X "set") (hm2:X.mg "set" = none) (ha:PA X [a] ta) (hs:starEach [a] X.env=[(false,eval a X.env)]:=by rfl)
  (hs3:starEach [Expr.Call (.Name "set" p2) [a] [] pos2] X.env=[(false,eval (Expr.Call (.Name "set" p2) [a] [] pos2) X.env)]:=by rfl) :
  PE X (.Call (.Name "len" p) [.Call (.Name "set" p2) [a] [] pos2] [] pos) (zJu X.K ta):=by
 intro jP s σ H Q I h;refine wpAny_Call_Name_kw (zCR I hg hm PySem.boot_len (PyProof.Rows.callWith_builtin1 ?_ hs3 rfl));rw[hs3];show wpAny _ _ (spliced [(false,eval (Expr.Call (.Name "set" p2) [a] [] pos2) X.env)]) _ _ s;refine Calls.spliced_cons ?_;refine Call_ (zCR I hg2 hm2 zGL (PyProof.Rows.callWith_type1 (thn (ha pos2 jP s σ H _ I h) λ us s1 ⟨vs,H1,I1,r1,q1⟩=>?_) hs rfl));obtain⟨l,xs,e,h1,hx,q⟩:=q1;subst e;obtain⟨u,rfl,ru⟩:=vals1 r1;cases ru;obtain⟨its,rv,t1,_⟩:=I1.list h1;have hv:StrsAre its xs:=zFm rv;have hL:s1.heap.IsList l its.toArray:=let ⟨o,n,ho,hc,_,r⟩:=t1;⟨o,ho,hc,n,r⟩;refine zGK (vs:=its.toArray) (xs:=xs) (I1.ok.hd hc) hL (by simpa using hv) hx λ h2 es ep t tk' hd ht he hz kp=>?_;refine Calls.spliced_nil ?_;have I2:Inv X jP σ H1 { s1 with heap:=h2,toks:=tk' }:=I1.kept (t':=tk') kp;have ess:es.size=(dd xs).length:=by have:=he.pm.length_eq;simpa using this
 refine PySem.call_len_set (s:={ s1 with heap:=h2,toks:=tk' }) hd ⟨rfl,rfl,rfl⟩ rfl ht.ft (by omega) ?_;exact⟨.int ((dd xs).length:Nat),H1,I2.tok _,⟨_,by rw[ess]⟩,q⟩
noncomputable def loudV:List V:=[.str "say", .str "ask", .str "stop"]
noncomputable def Kd.loud:Kd->Bool
 |.say=>true
 |.ask=>true
 |.stop=>true
 |_=>false
theorem zJF (k:Kd):inV (.str k.s) loudV=k.loud:=by cases k<;>symm
def zEU (K:W.Frag) (lv:Addr):Prop:=∃(o:Obj) (its:Array Value) (n:Nat),K.lookup lv=some o/\o.cls = .type "tuple" /\ o.data = .seq its n/\its.size<=sizeLine/\Vals loudV its.toList
def loudT (t:Tr):Prop:=∃p∈t.subs,p.kd.loud=true
theorem zBy:∀t:Tr,t.subs.length=t.size:=by
 intro t
 induction t<;>simp_all [Tr.subs,Tr.size]<;>omega
theorem zKs {F:List Tr}{t:Tr}(h:∀p,p∈F↔p∈t.subs):(F.map λ p=>p.kd.loud).any id=true↔loudT t:=by
 rw[List.any_eq_true];constructor
 ·rintro⟨b,hb,e⟩
  obtain⟨p,hp,rfl⟩:=mC.mp hb;exact⟨p,(h p).mp hp,e⟩
 ·rintro⟨p,hp,e⟩
  exact⟨_,mC.mpr ⟨p,(h p).mpr hp,rfl⟩,e⟩
theorem dd_lt:∀(xs ks:List Str),ks.Nodup->((xs.foldl ddS ks).length<ks.length+xs.length↔¬(ks++xs).Nodup)
 |[],ks,h=>by simp[h]
 |x::xs,ks,h=>by
  rw[List.foldl_cons]
  by_cases hx:x∈ks
  ·rw[ddS,if_pos hx]
   have:=zLN xs ks;refine⟨λ Ω z=>(List.nodup_append.mp z).2.2 x hx x lO rfl,λ Ω=>?_⟩;rw[mM];omega
  ·rw[ddS,if_neg hx]
   have nd:(ks++[x]).Nodup:=by
    rw[List.nodup_append];refine⟨h,by simp,λ a ha b hb e=>hx ?_⟩;rw[mR.mp hb] at e;exact e▸ha
   have:=dd_lt xs (ks++[x]) nd;rw[mK,mZ] at this;rw[mM,show ks.length+(xs.length+1)=ks.length + [x].length+xs.length by simp;omega];exact this
theorem zEN (xs:List Str):(dd xs).length<xs.length↔¬xs.Nodup:=by
 have:=dd_lt xs [] List.nodup_nil;simpa[dd] using this
noncomputable def letX:Tr->Option Str
 |.lett x _ _=>some x
 |_=>none
noncomputable def letN (t:Tr):List Str:=t.subs.filterMap letX
theorem zNO (k:Kd):k.s=Str.ofString "let" ↔ k = .lett:=by cases k<;>symm
theorem zLD (t:Tr):t.kd.s=Str.ofString "let" ↔ (letX t).isSome=true:=by
 rw[zNO];cases t with
 |bin o a b=>cases o<;>exact⟨(λ h=>by cases h),(λ h=>by cases h)⟩
 |lett x a b=>exact⟨λ Ω=>rfl,λ Ω=>rfl⟩
 |_=>exact⟨(λ h=>by cases h),(λ h=>by cases h)⟩
section
variable {X:Cx}{o e:Expr}{es:List Expr}{te to:TE}{t:TA}{name x:Str}{apos cpos pos p:Pos}{T id:String}
theorem zEo {r:List V->Hp->VK->Prop}(hc:CallR X (.type T) r) (hg:Gl X x) (hm:X.mg x=none) (hv:bootBuiltins x=some (.type T)) (ha:Sd (PA X (e::es) t)) (hn:x ≠ "__name__" := by decide) (hdb:(x == ("__debug__" : Str))=false:=by decide)
  (he:starEach (e::es) X.env=(false,eval e X.env)::starEach es X.env:=by rfl) (hpl:(backTo pos (starEach es X.env)).any (·.1)=false:=by rfl):Sd (PE X (.Call (.Name x p) (e::es) [] pos) (tCB r t)):=⟨zBQ hc hg hm hv ha.un hn hdb he hpl⟩
end
instance instDecDt:DecidableEq Dt:=λ a b=>decidable_of_iff (Dt.beq a b=true) Dt.beq_iff
noncomputable def lookB (x:Str):List Str->Option Nat
 |[]=>none
 |y::r=>if y=x then some 0 else (lookB x r).map (· + 1)
noncomputable def keyB (x:Str) (rs:List Str):Nat ⊕ Str:=match lookB x rs with
 |some k=>.inl k
 |none=>.inr x
noncomputable def keyD:Nat ⊕ Str->Dt
 |.inl k=>.tup [.str "bound", .int k]
 |.inr z=>.tup [.str "free", .str z]
noncomputable def bareN (x:Str) (bs:List Str):Dt:=keyD (keyB x bs.reverse)
noncomputable def sn (x y:Str):List (Str × Str)->Bool
 |[]=>decide (x=y)
 |p::r=>if p.1=x\/p.2=y then decide (p.1=x/\p.2=y) else sn x y r
inductive Lf where
 |name (x:Str)|num (n:Int)|gap (g:Str)|ask (x:Str)|stop (x:Str)
noncomputable def dtL:Lf->List Dt
 |.name x=>[.str "name", .str x]|.num n=>[.str "num", .int n]|.gap g=>[.str "gap", .str g,.tup []]|.ask x=>[.str "ask", .str x]|.stop x=>[.str "stop", .str x]
noncomputable def bareL (l:Lf) (bs:List Str):Dt:=match l with
 |.name x=>bareN x bs
 |l=>.tup (dtL l)
noncomputable def Atom.lf:Atom->Lf
 |.name x=>.name x|.num n=>.num n|.gap g=>.gap g
noncomputable def bareA (bs:List Str) (a:Atom):Dt:=bareL a.lf bs
noncomputable def bare:Tr->List Str->Dt
 |.num n,_=>.tup [.str "num", .int n]
 |.name x,bs=>bareN x bs
 |.ask x,_=>.tup [.str "ask", .str x]
 |.stop x,_=>.tup [.str "stop", .str x]
 |.gap g as,bs=>.tup [.str "gap", .str g,.tup (as.map (bareA bs))]
 |.say a,bs=>.tup [.str "say", bare a bs]
 |.bin o a b,bs=>.tup [.str o.s,bare a bs,bare b bs]
 |.ite a b c,bs=>.tup [.str "if", bare a bs,bare b bs,bare c bs]
 |.lett x a b,bs=>.tup [.str "let", bare a bs,bare b (bs++[x])]
noncomputable def Tr.fv:Tr->List Str->List Str
 |.say a,bs=>a.fv bs
 |.bin _ a b,bs=>a.fv bs++b.fv bs
 |.ite a b c,bs=>a.fv bs++(b.fv bs++c.fv bs)
 |.lett x a b,bs=>a.fv bs++b.fv (bs++[x])
 |t,bs=>t.names.filter λ x=>decide (x∉bs)
noncomputable def bIn (t:Tr) (i:Int) (bs:List Str):List Str:=match t with
 |.lett x _ _=>if i=1 then bs++[x] else bs
 |_=>bs
noncomputable def kids:Tr->List Str->List (Tr × List Str)
 |.say a,bs=>[(a,bs)]
 |.bin _ a b,bs=>[(a,bs),(b,bs)]
 |.ite a b c,bs=>[(a,bs),(b,bs),(c,bs)]
 |.lett x a b,bs=>[(a,bs),(b,bs++[x])]
 |_,_=>[]
theorem zKZ (t:Tr) (bs:List Str):(kids t bs).length=t.parts.length:=by cases t<;>rfl
theorem zKa (t:Tr) (bs:List Str) (i:Nat) (c:Tr) (h:t.parts[i]?=some c):(kids t bs)[i]?=some (c,bIn t i bs):=by
 cases t with
 |say a=>match i,h with
  |0,h=>cases h;rfl
 |bin o a b=>match i,h with
  |0,h=>cases h;rfl
  |1,h=>cases h;rfl
 |ite a b c=>match i,h with
  |0,h=>cases h;rfl
  |1,h=>cases h;rfl
  |2,h=>cases h;rfl
 |lett x a b=>match i,h with
  |0,h=>cases h;rfl
  |1,h=>cases h;rfl
 |_=>simp[Tr.parts] at h
theorem zEG (t:Tr) (bs:List Str) (x:Str):x∈t.fv bs↔(x∈t.names/\x∉bs)\/∃q∈kids t bs,x∈q.1.fv q.2:=by
 cases t<;>simp[Tr.fv,kids,Tr.names,List.mem_filter]
noncomputable def total (l:List (Tr × List Str)):Nat:=(l.map λ q=>q.1.size).sum
theorem zCI (a b:List (Tr × List Str)):total (a++b)=total a+total b:=by simp[total]
theorem zC9 (a:Tr × List Str) (b:List (Tr × List Str)):total (a::b)=a.1.size+total b:=by simp[total]
theorem zIE:total []=0:=rfl
theorem zFA (t:Tr):1<=t.size:=by cases t<;>simp[Tr.size]
theorem zEF:∀l:List (Tr × List Str),l.length<=total l
 |[]=>lQ _
 |a::r=>by rw[zC9,mM];have:=zEF r;have:=zFA a.1;omega
theorem zEv (t:Tr) (bs:List Str):total (kids t bs)+1=t.size:=by cases t<;>simp[kids,total,Tr.size]<;>omega
theorem zI5 (t:Tr) (bs:List Str) (m:Nat) (h:bs.length+t.size<=m):∀q∈kids t bs,q.2.length+q.1.size<=m:=by
 cases t<;>simp[kids,Tr.size] at h ⊢<;>omega
noncomputable def kvOf (ks:List Str):List (Key × V):=ks.map λ x=>(Sum.inr x,V.bl true)
noncomputable def addK (ks:List Str) (x:Str):List Str:=if x∈ks then ks else ks++[x]
theorem zJ2 (ks:List Str) (x:Str):putK (kvOf ks) (Sum.inr x) (.bl true)=kvOf (addK ks x):=by
 unfold putK addK
 have e:((kvOf ks).any λ kv=>decide (kv.1=Sum.inr x))=decide (x∈ks):=by
  rw[Bool.eq_iff_iff,List.any_eq_true,decide_eq_true_iff];constructor
  ·rintro⟨p,hp,h⟩
   obtain⟨y,hy,rfl⟩:=mC.mp hp;have:(Sum.inr y:Key)=Sum.inr x:=lT h;cases this;exact hy
  ·intro h
   exact⟨_,mC.mpr ⟨x,h,rfl⟩,lU rfl⟩
 rw[e]
 by_cases h:x∈ks
 ·rw[if_pos (decide_eq_true h),if_pos h]
  unfold kvOf;rw[nW];refine List.map_congr_left λ y Ω=>?_;show (if (Sum.inr y:Key)=Sum.inr x then ((Sum.inr y:Key),V.bl true) else (Sum.inr y,V.bl true))=(Sum.inr y,V.bl true);split<;>rfl
 ·rw[if_neg (by simpa using h),if_neg h]
  simp[kvOf]
set_option tactic.hygienic true in
theorem zIA {ks:List Str}{x:Str}(h:ks.Nodup):(addK ks x).Nodup:=by
 unfold addK;split
 ·exact h
 ·rename_i n
  rw[List.nodup_append];refine⟨h,by simp,λ a ha b hb e=>?_⟩;rw[mR.mp hb] at e;exact n (e▸ha)
set_option tactic.hygienic true in
theorem zKU {ks:List Str}{x y:Str}:y∈addK ks x↔y∈ks\/y=x:=by
 unfold addK;split
 ·rename_i h
  constructor
  ·exact .inl
  ·rintro (z|z)
   ·exact z
   ·rw[z];exact h
 ·simp
theorem zC1:∀{ks ws:List Str},ks.Nodup->(∀x∈ks,x∈ws)->ks.length<=ws.length
 |[],_,_,_=>lY _
 |k::ks,ws,hn,h=>by
  have hk:=h k lO
  have h':∀x∈ks,x∈ws.erase k:=λ x hx=>by
   have ne:x≠k:=λ e=>(rG.mp hn).1 (e▸hx);exact(List.mem_erase_of_ne ne).mpr (h x (lP _ hx))
  have ih:=zC1 (rG.mp hn).2 h';rw[List.length_erase_of_mem hk] at ih;have:0<ws.length:=List.length_pos_of_mem hk;rw[mM];omega
abbrev Told:=Str->Option Atom
noncomputable def Atom.tr:Atom->Tr
 |.name x=>.name x|.num n=>.num n|.gap g=>.gap g []
noncomputable def Tr.wrds:Tr->List Str
 |.say a=>a.wrds
 |.bin _ a b=>a.wrds++b.wrds
 |.ite a b c=>a.wrds++(b.wrds++c.wrds)
 |.lett x a b=>x::(a.wrds++b.wrds)
 |t=>t.names
structure Itm where
 t:Tr
 τ:Told
 bs:List Str
 cs:List Str
def caught (τ:Told) (n:Str) (b:Tr):Prop:=∃x,x≠n/\τ x=some (.name n)/\x∈b.fv []
section
variable (G:Str->Prop)
def Atom.good:Atom->Prop
 |.name x=>G x|.num _=>True|.gap g=>G g
def Tr.good:Tr->Prop
 |.num _=>True|.name x=>G x|.ask x=>G x|.stop x=>G x
 |.gap g as=>G g/\as.length<=1000/\∀a∈as,a.good G
 |.say a=>a.good
 |.bin _ a b=>a.good/\b.good
 |.ite a b c=>a.good/\b.good/\c.good
 |.lett x a b=>G x/\a.good/\b.good
end
noncomputable def Tr.withP:Tr->List Tr->Tr
 |.say _,[a]=>.say a
 |.bin o _ _,[a,b]=>.bin o a b
 |.ite _ _ _,[a,b,c]=>.ite a b c
 |.lett x _ _,[a,b]=>.lett x a b
 |t,_=>t
noncomputable def Tr.dp:Tr->Nat
 |.say a=>a.dp+1|.bin _ a b=>max a.dp b.dp+1|.ite a b c=>max a.dp (max b.dp c.dp)+1|.lett _ a b=>max a.dp b.dp+1
 |_=>2
inductive All2 {α β:Type}(F:α->β->Prop):List α->List β->Prop
 |nil:All2 F [] []
 |cons {a b as bs}:F a b->All2 F as bs->All2 F (a::as) (b::bs)
theorem All2.length {α β:Type}{F:α->β->Prop}:∀{as:List α}{bs:List β},All2 F as bs->as.length=bs.length
 |_,_,.nil=>rfl
 |_,_,.cons _ t=>by simp[t.length]
theorem All2.split {α β:Type}{F:α->β->Prop}:∀{as cs:List α}{bs:List β},All2 F (as++cs) bs->∃b1 b2,bs=b1++b2/\All2 F as b1/\All2 F cs b2
 |[],_,bs,h=>⟨[],bs,rfl,.nil,h⟩
 |_::as,cs,_,.cons r t=>by
  obtain⟨b1,b2,rfl,h1,h2⟩:=t.split (as:=as);exact⟨_::b1,b2,rfl,.cons r h1,h2⟩
noncomputable def growL:List Tr->List Tr->List Tr
 |[],_=>[]
 |h::hs,R=>h.withP (R.take h.parts.length)::growL hs (R.drop h.parts.length)
noncomputable def zAa (hs:List Tr):Nat:=(hs.map λ h=>h.parts.length).sum
theorem zEK:∀(hs R:List Tr),(growL hs R).length=hs.length
 |[],_=>rfl
 |h::hs,R=>by simp[growL,zEK hs]
theorem zEy:∀(hs:List Tr) {R:List Tr}{h:Tr}{rs:List Tr},R.length=zAa hs->rs.length=h.parts.length->growL (hs++[h]) (R++rs)=growL hs R++[h.withP rs]
 |[],R,h,rs,e,e'=>by
  have:R=[]:=nM.mp (by simpa[zAa] using e);subst this;simp[growL,←e']
 |a::hs,R,h,rs,e,e'=>by
  have e1:R.length=a.parts.length+zAa hs:=by simpa[zAa] using e
  show _::growL (hs++[h]) _=_;rw[List.take_append_of_le_length (by omega),List.drop_append_of_le_length (by omega),zEy hs (by rw[mX];omega) e'];rfl
noncomputable def zBU:List (List Tr)->List Tr->List Tr
 |[],R=>R
 |hs::Lr,R=>zBU Lr (growL hs R)
def Fit:List (List Tr)->Nat->Prop
 |[],n=>n=1
 |hs::Lr,n=>zAa hs=n/\Fit Lr hs.length
noncomputable def tot (l:List Itm):Nat:=(l.map λ q=>q.t.size).sum
def zDR (H:Hp) (p:Tr × List Str) (v:V):Prop:=∃a u b,v = .ref a/\H a=some (.tup [u,.ref b])/\Rep H p.1 u/\H b=some (.tup (p.2.map V.str))
theorem zDR.mono {H H':Hp}(k:Tk H H') {p:Tr × List Str}{v:V}:zDR H p v->zDR H' p v
 |⟨a,u,b,e,h,r,z⟩=>⟨a,u,b,e,k _ _ h,r.mono k,k _ _ z⟩
theorem zFV (x:Str) (bs:List Str):inV (.str x) (bs.map V.str)=decide (x∈bs):=by
 unfold inV;rw[Bool.eq_iff_iff,List.any_eq_true,decide_eq_true_iff];constructor
 ·rintro⟨v,hv,h⟩
  obtain⟨y,hy,rfl⟩:=mC.mp hv;rw[zFb] at h;exact h▸hy
 ·intro h
  exact⟨_,mC.mpr ⟨x,h,rfl⟩,(zFb _ _).mpr rfl⟩
theorem zML (bs:List Str):(bs.map V.str).all flatV=true:=zCS bs
theorem zHR (l:List (Tr × List Str)):total (l.flatMap λ q=>kids q.1 q.2)+l.length=total l:=by
 induction l with
 |nil=>rfl
 |cons a r ih =>
  rw[rK,zCI,zC9,mM];have:=zEv a.1 a.2;omega
theorem zHg (l:List (Tr × List Str)) (i:Nat):total (l.take i)<=total l:=by
 have:=congrArg total (List.take_append_drop i l);rw[zCI] at this;omega
abbrev rLen (K:W.Frag):List V->Hp->VK->Prop:=rLen1 K
theorem zJk {X:Cx}:CallR X (.builtin "len") (rLen X.K):=zDd
noncomputable def agap:Atom->List Str
 |.gap h=>[h]
 |_=>[]
noncomputable def cnt1:Tr->List (Str × Nat)
 |.gap g as=>(g,as.length)::as.flatMap λ a=>(agap a).map λ h=>(h,0)
 |_=>[]
theorem zKr {t:Tr}(h:¬t.kd = .gap):cnt1 t=[]:=by
 cases t with
 |gap x as=>exact absurd rfl h
 |_=>rfl
noncomputable def gcnt (t:Tr):List (Str × Nat):=t.subs.flatMap cnt1
noncomputable def isGap (t:Tr):Bool:=decide (t.kd = .gap)
theorem zJI (t:Tr):(t.subs.filter isGap).flatMap cnt1=gcnt t:=by
 unfold gcnt
 induction t.subs with
 |nil=>rfl
 |cons a L ih =>
  by_cases h:a.kd = .gap
  ·rw[List.filter_cons_of_pos (by exact decide_eq_true h),rK,rK,ih]
  ·rw[List.filter_cons_of_neg (by exact λ z=>h (of_decide_eq_true z)),rK,zKr h,ih,List.nil_append]
noncomputable def zAy (L:List (Str × Nat)) (g:Str):Option Nat:=(L.find? λ x=>decide (x.1=g)).map (·.2)
theorem zE0 (L M:List (Str × Nat)) (g:Str):zAy (L++M) g=(zAy L g).or (zAy M g):=by
 unfold zAy;rw[List.find?_append];cases L.find? λ x=>decide (x.1=g)<;>rfl
structure Fd1 (L:List (Str × Nat)) (kvs:List (Key × V)):Prop where
 vl:∀g,valV kvs (Sum.inr g:Key)=(zAy L g).map λ n=>V.int ((n:Nat):Int)
 ky:∀p∈kvs,∃g∈L.map (·.1),p.1=(Sum.inr g:Key)
 nd:(kvs.map (·.1)).Nodup
theorem zMI {kvs:List (Key × V)}{k:Key}{v:V}{p:Key × V}(h:p∈putK kvs k v):p=(k,v)\/p∈kvs:=by
 unfold putK at h;split at h
 ·obtain⟨q,hq,e⟩:=mC.mp h
  by_cases z:q.1=k
  ·rw[if_pos z,z] at e
   exact .inl e.symm
  ·rw[if_neg z] at e
   exact .inr (e▸hq)
 ·rcases lK.mp h with h|h
  ·exact .inr h
  ·exact .inl (mR.mp h)
set_option tactic.hygienic true in
theorem zNF {kvs:List (Key × V)}(k:Key) (v:V) (nd:(kvs.map (·.1)).Nodup):((putK kvs k v).map (·.1)).Nodup:=by
 unfold putK;split
 ·have e:(kvs.map λ kv=>if kv.1=k then (kv.1,v) else kv).map (·.1)=kvs.map (·.1):=by
   rw[nW];refine List.map_congr_left λ q Ω=>?_;show (if q.1=k then (q.1,v) else q).1=q.1;split<;>rfl
  rw[e];exact nd
 ·rename_i h
  rw[mQ,List.nodup_append];refine⟨nd,by simp,λ a ha b hb e=>h ?_⟩;obtain⟨q,hq,rfl⟩:=mC.mp ha;simp at hb;rw[List.any_eq_true];exact⟨q,hq,lU (e.trans hb)⟩
theorem Fd1.nil:Fd1 [] []:=⟨λ g=>rfl,(λ p h=>nomatch h),List.nodup_nil⟩
theorem Fd1.put {L:List (Str × Nat)}{kvs:List (Key × V)}(h:Fd1 L kvs) {x:Str}{n:Nat}(e:valV kvs (Sum.inr x:Key)=none):Fd1 (L++[(x,n)]) (putK kvs (Sum.inr x:Key) (.int ((n:Nat):Int))):=by
 have e0:zAy L x=none:=by
  have:=h.vl x;rw[e] at this;cases h2:zAy L x with
  |none=>rfl
  |some m=>rw[h2] at this;cases this
 refine⟨λ g=>?_,λ p hp=>?_,zNF _ _ h.nd⟩
 ·rw[zGu,zE0]
  by_cases z:g=x
  ·subst z
   rw[if_pos rfl,e0];simp[zAy]
  ·have z':¬(Sum.inr g:Key)=Sum.inr x:=λ w=>z (Sum.inr.inj w)
   rw[if_neg z',h.vl g];have:zAy [(x,n)] g=none:=by simp[zAy];exact λ w=>z (Eq.symm w)
   rw[this];cases zAy L g<;>rfl
 ·rcases zMI hp with z|z
  ·exact⟨x,by simp,by rw[z]⟩
  ·obtain⟨g,hg,e⟩:=h.ky p z
   exact⟨g,by rw[mQ];exact mF _ hg,e⟩
theorem Fd1.same {L:List (Str × Nat)}{kvs:List (Key × V)}(h:Fd1 L kvs) {x:Str}{n:Nat}{z:V}(e:valV kvs (Sum.inr x:Key)=some z):Fd1 (L++[(x,n)]) kvs:=by
 obtain⟨m,e0⟩:∃m,zAy L x=some m:=by
  have:=h.vl x;rw[e] at this;cases h2:zAy L x with
  |none=>rw[h2] at this;cases this
  |some m=>exact⟨m,rfl⟩
 refine⟨λ g=>?_,λ p hp=>?_,h.nd⟩
 ·rw[h.vl g,zE0]
  by_cases z:g=x
  ·subst z
   rw[e0];rfl
  ·have:zAy [(x,n)] g=none:=by simp[zAy];exact λ w=>z (Eq.symm w)
   rw[this];cases zAy L g<;>rfl
 ·obtain⟨g,hg,e⟩:=h.ky p hp
  exact⟨g,by rw[mQ];exact mF _ hg,e⟩
def WN (H:Hp) (x:Str × Nat) (v:V):Prop:=∃b,v = .ref b/\H b=some (.tup [.str x.1,.int ((x.2:Nat):Int)])
theorem WN.mono {H H':Hp}(k:Tk H H') {x:Str × Nat}{v:V}:WN H x v->WN H' x v
 |⟨b,e,h⟩=>⟨b,e,k _ _ h⟩
theorem AtRep.all {H:Hp}:∀{a:Atom}{v:V},AtRep H a v->∃(b:Addr) (r:List V),v = .ref b/\((∃h,a = .gap h/\H b=some (.tup (.str "gap" :: .str h::r)))\/(agap a=[]/\∃k:Str,k ≠ "gap" /\ H b=some (.tup (.str k::r))))
 |.name x,_,⟨b,e,h⟩=>⟨b,_,e,.inr ⟨rfl, "name", by symm,h⟩⟩
 |.num x,_,⟨b,e,h⟩=>⟨b,_,e,.inr ⟨rfl, "num", by symm,h⟩⟩
 |.gap x,_,⟨b,c,e,h,_⟩=>⟨b,_,e,.inl ⟨x,rfl,h⟩⟩
theorem zEz {L:List (Str × Nat)}{g:Str}:(zAy L g).isSome=true↔g∈L.map (·.1):=by
 unfold zAy;rw[Option.isSome_map,List.find?_isSome];constructor
 ·rintro⟨x,hx,e⟩
  exact mC.mpr ⟨x,hx,lT e⟩
 ·intro h
  obtain⟨x,hx,e⟩:=mC.mp h;exact⟨x,hx,lU e⟩
theorem Fd1.has {L:List (Str × Nat)}{kvs:List (Key × V)}(h:Fd1 L kvs) {g:Str}:(∃p∈kvs,p.1=(Sum.inr g:Key))↔g∈L.map (·.1):=by
 constructor
 ·rintro⟨p,hp,e⟩
  obtain⟨g',hg,e'⟩:=h.ky p hp;rw[e] at e';rw[Sum.inr.inj e'];exact hg
 ·intro hg
  have h1:=zEz.mpr hg;have h2:=h.vl g;obtain⟨n,en⟩:=Option.isSome_iff_exists.mp h1;rw[en] at h2;obtain⟨p,hp,ep⟩:=lV.mp (show (kvs.find? λ kv=>decide (kv.1=(Sum.inr g:Key))).map (·.2)=_ from h2);have hk:=List.find?_some hp;have hq:p.1=(Sum.inr g:Key):=lT hk;exact⟨p,List.mem_of_find?_eq_some hp,hq⟩
theorem Fd1.isS {L:List (Str × Nat)}{kvs:List (Key × V)}(h:Fd1 L kvs) (g:Str):(valV kvs (Sum.inr g:Key)).isSome=decide (g∈L.map (·.1)):=by
 rw[h.vl g,Option.isSome_map,Bool.eq_iff_iff,decide_eq_true_iff];exact zEz
theorem zCQ {n:Nat}(h:n<=100000):n<sizeLine:=by rw[sizeLine_eq];omega
theorem zDk {α:Type}{bs:List Bool}{b:Bool}{P:α->Prop}{C:List α}{x:α}{i:Nat}(e:C[i]?=some x) (hb:bs.any id=true↔∃y∈C.take i,P y) (h:b=true↔P x):(bs++[b]).any id=true↔∃y∈C.take (i+1),P y:=by
 rw[List.any_append,Bool.or_eq_true,hb,zAO e];constructor
 ·rintro (⟨y,hy,z⟩|z)
  ·exact⟨y,mF _ hy,z⟩
  ·exact⟨x,mB _ lO,h.mp (by simpa using z)⟩
 ·rintro⟨y,hy,z⟩
  rcases lK.mp hy with w|w
  ·exact .inl ⟨y,w,z⟩
  ·rw[mR.mp w] at z
   exact .inr (by simpa using h.mpr z)
def zJn (L C:List (Str × Nat)):Prop:=∃x∈C,∃n,zAy L x.1=some n/\n≠x.2
def RpK (H:Hp) (k:Str × Str) (v:V):Prop:=∃p,v = .ref p/\H p=some (.tup [.str k.1,.str k.2])
def RpKs (H:Hp) (ks:List (Str × Str)) (v:V):Prop:=∃(p:Addr) (o:Obj) (us:List V),v = .ref p/\H p=some (.frz o (.tup us))/\o.dict=none/\Paired (RpK H) ks us
theorem RpK.mono {H H':Hp}{k:Str × Str}{v:V}(h:RpK H k v) (t:Tk H H'):RpK H' k v:=let ⟨p,e,x⟩:=h;⟨p,e,t _ _ x⟩
theorem RpKs.mono {H H':Hp}{k:List (Str × Str)}{v:V}(h:RpKs H k v) (g:Same H H'):RpKs H' k v:=let ⟨p,o,us,e,x,d,y⟩:=h;⟨p,o,us,e,g _ _ x,d,Paired.mapP y λ Ω Ω z=>z.mono g.tk⟩
def badK (L:List (Str × Nat)) (k:Str × Str):Prop:=zAy L k.1=none\/(k.2=Str.ofString "number" /\ ∃n,zAy L k.1=some n/\0<n)
noncomputable def kdV (kds:List (Str × Str)):List (Key × V):=kds.map λ p=>((Sum.inr p.1:Key),V.str p.2)
theorem zNN:∀{kds:List (Str × Str)},(kds.map (·.1)).Nodup->∀(g:Str) (v:V),valV (kdV kds).reverse (Sum.inr g:Key)=some v↔∃k,v = .str k/\(g,k)∈kds:=by
 intro kds nd g v
 have mem:∀p:Key × V,p∈(kdV kds).reverse↔∃q∈kds,p=((Sum.inr q.1:Key),V.str q.2):=λ p=>by
  rw[List.mem_reverse];unfold kdV;rw[List.mem_map];exact⟨λ⟨q,h,e⟩=>⟨q,h,e.symm⟩,λ⟨q,h,e⟩=>⟨q,h,e.symm⟩⟩
 unfold valV;rw[Option.map_eq_some_iff];constructor
 ·rintro⟨p,hp,rfl⟩
  have h1:=List.mem_of_find?_eq_some hp;have h2:=List.find?_some hp;obtain⟨q,hq,rfl⟩:=(mem p).mp h1;have e:q.1=g:=Sum.inr.inj (lT h2);exact⟨q.2,rfl,by rw[←e];exact hq⟩
 ·rintro⟨k,rfl,hk⟩
  cases e:(kdV kds).reverse.find? λ kv=>decide (kv.1=(Sum.inr g:Key)) with
  |none =>
   have:=List.find?_eq_none.mp e _ ((mem _).mpr ⟨(g,k),hk,rfl⟩);simp at this
  |some p =>
   refine⟨p,rfl,?_⟩;have h1:=List.mem_of_find?_eq_some e;have h2:=List.find?_some e;obtain⟨q,hq,rfl⟩:=(mem p).mp h1;have e1:q.1=g:=Sum.inr.inj (lT h2)
   have e2:q=(g,k):=by
    obtain⟨i,hi⟩:=List.getElem?_of_mem hq;obtain⟨j,hj⟩:=List.getElem?_of_mem hk;have hi':(kds.map (·.1))[i]?=some g:=by rw[mJ,hi,←e1];rfl
    have hj':(kds.map (·.1))[j]?=some g:=by rw[mJ,hj];rfl
    have:i=j:=zHM nd hi' hj';subst this;exact mE (hi.symm.trans hj)
   rw[e2]
theorem zNP {kds:List (Str × Str)}(nd:(kds.map (·.1)).Nodup) (g:Str):∃z:V,(valV (zB1 [] (kdV kds)) (Sum.inr g:Key)).getD .non=z/\scal z (.str "number")=true/\(z = .str "number" ↔ (g,("number" : Str))∈kds):=by
 rw[zEg];have K:=zNN nd g;cases e:valV (kdV kds).reverse (Sum.inr g:Key) with
 |none =>
  refine⟨.non,rfl,rfl,(λ z=>nomatch z),λ z=>?_⟩
  have:=(K (.str "number")).mpr ⟨_,rfl,z⟩;rw[e] at this;cases this
 |some v =>
  obtain⟨k,rfl,hk⟩:=(K v).mp e;refine⟨.str k,rfl,rfl,λ z=>?_,λ z=>?_⟩
  ·rw[←V.str.inj z];exact hk
  ·have:=(K (.str "number")).mpr ⟨_,rfl,z⟩
   rw[e] at this;exact mE this
theorem zLF {H:Hp}{ks:List (Str × Str)}{us:List V}(h:Paired (RpK H) ks us):Paired (PrV H) us (kdV ks):=by
 induction h with
 |nil=>exact .nil
 |cons r t ih=>obtain⟨p,e,h⟩:=r;exact .cons ⟨p,e,h⟩ ih
def badA (ks:List (Str × Str)) (a:Atom):Prop:=∃h,a = .gap h/\(h,("number" : Str))∉ks
def badP (ks:List (Str × Str)) (t:Tr):Prop:=∃g as,t = .gap g as/\∃a∈as,badA ks a
section
variable {prog:Program}{w:World}{A:Around}{E:XQ}{s:Shared}
theorem zNU:∀(n:Nat) {d:Dt}{u:Value}{Q:Bool->Shared->Prop},DA s.heap d u->(∀b,Q b s)->wpAny (model prog w) A (hashByValue n u) Q E s:=by
 intro n
 induction n with
 |zero =>
  intro d u Q hd h;cases hd<;>(unfold hashByValue;exact lB (h _))
 |succ n ih =>
  intro d u Q hd h;cases hd with
  |int i t=>unfold hashByValue;exact lB (h _)
  |str x t=>unfold hashByValue;exact lB (h _)
  | @tup a items ds ha hi =>
   obtain⟨o,ho,hc,m,hd⟩:=ha;have hT:s.TypeIs (.ref a) "tuple" := ⟨o,ho,hc⟩;unfold hashByValue;refine lA (wpAny_specialOf hT F.slot_tuple_hash.lookup ?_);dsimp only;refine lA (wpAny_seqItems ho hd ?_);refine lA ?_;show wpAny _ _ (forIn items _ _) _ _ s;rw[←Array.forIn_toList];refine wpAny_forIn_list _ (λ rest r s'=>r.1=none/\s'=s/\∃ds',DAs s.heap ds' rest) _ ?_ ?_ _ _ ⟨rfl,rfl,ds,hi⟩
   ·rintro v rest r s' ⟨hr,rfl,ds',hall⟩
    cases hall with
    | @cons k _ ks' _ h1 hl' =>
     refine lA (ih h1 λ b=>?_);cases b
     ·simp only[Bool.not_false,if_true]
      exact lB (lB (h _))
     ·simp only[Bool.not_true,Bool.false_eq_true,if_false]
      exact lB ⟨rfl,rfl,ks',hl'⟩
   ·rintro⟨r1,r2⟩ s' ⟨hr,rfl,_⟩
    simp only at hr;subst hr;exact lB (h _)
theorem zJx (b:Bool) (j:Nat):(SetTable.fresh 0 0 b).slot j = .empty:=by
 unfold SetTable.slot;have h:SetTable.has #[] j=false:=by unfold SetTable.has;simp
 simp only[SetTable.fresh,h];rfl
set_option tactic.hygienic true in
theorem zGW {d x:Addr}{key:Dt}{h0:Int}{b:Bool}{Q:Bool->Shared->Prop}(hd:s.heap.get? d=some (zBP #[] 0 (SetTable.fresh 0 0 b))) (hk:DA s.heap key (.ref x))
  (h1:∀h' es' t',es'.size=1->SetN h' d es' 1 t'->t'.fits 1=true->Heap.SameBut d s.heap h'->Q true { s with heap:=h' }):wpAny (model prog w) A (setAddHashed d (.ref x) h0) Q E s:=by
 have hf:=zBn b;unfold setAddHashed;refine lE ?_;rw[setAddHashedIn.eq_def];dsimp only;refine lA (wpAny_setState_of hd rfl hf ?_);dsimp only;refine lD (by unfold byScan;simp[Value.scannable]) ?_;refine lA ?_;unfold setSearch;rw[setSearchFrom];refine lA (wpAny_setState_of hd rfl hf ?_);dsimp only;refine lD (by cases b<;>rfl) ?_
 have c2:∀(f:Nat->Int) (q:SetTable.Probe),SetTable.probe.go (SetTable.fresh 0 0 b) f h0 (10 * SetTable.turns (SetTable.fresh 0 0 b).mask) q=some (.empty q.j q.dummy):=λ f q=>by
  show SetTable.probe.go (SetTable.fresh 0 0 b) f h0 (219+1) q=_;rw[SetTable.probe.go,zJx]
 split
 ·rename_i met hmet
  have e1:some met=_:=hmet.symm.trans (c2 _ _);cases e1;dsimp only;refine lB ?_;dsimp only;refine lA (wpAny_setState_of hd rfl hf ?_);dsimp only;generalize (none.getD ((SetTable.fresh 0 0 b).probeStart h0)).j=j;have z1:(SetTable.insertAt #[] ((SetTable.fresh 0 0 b).put j).2 (h0,Value.ref x)).size=1:=by unfold SetTable.insertAt;simp
  have z2:((SetTable.fresh 0 0 b).put j).1.place.size=1:=by unfold SetTable.put SetTable.insertAt SetTable.fresh;simp
  have z3:((SetTable.fresh 0 0 b).put j).1.mask=7:=rfl
  have z4:((SetTable.fresh 0 0 b).put j).1.dummies.size=0:=by
   have h:SetTable.has #[] j=false:=by unfold SetTable.has;simp
   unfold SetTable.put SetTable.fresh;simp[h]
  generalize SetTable.insertAt #[] ((SetTable.fresh 0 0 b).put j).2 (h0,Value.ref x)=es' at z1 ⊢;generalize ((SetTable.fresh 0 0 b).put j).1=t1 at z2 z3 z4 ⊢
  have fin:∀t2:SetTable,t2.place.size=1->t2.mask=7->t2.dummies.size=0->wpAny (model prog w) A (storeSet d es' t2 >>= λ Ω=>if (!false && t2.tooFull)=true then (setRelay d (SetTable.grown ((#[]:Array (Int × Value)).size+1)) >>= λ Ω=>pure true) else pure true) Q E s:=λ t2 y2 y3 y4=>by
   have fl:t2.fill=1:=by unfold SetTable.fill;omega
   refine lA (wpAny_storeSet_of hd rfl ?_ (mG (by omega:es'.size<=1000) (by decide)));refine lD (decide_eq_false λ z=>?_) (lB ?_)
   ·unfold SetTable.tooFull at z
    rw[fl,y3] at z;simp at z
   ·refine h1 _ es' t2 z1 (mI _ hd (by rfl)) ?_ (Heap.SameBut.update ..)
    unfold SetTable.fits;rw[y2,fl,y3];rfl
  refine wpAny_ite_split (λ Ω=>lA (zNU 8 hk λ b=>?_)) (λ Ω=>lA (lB ?_))
  ·cases b
   ·exact fin _ z2 z3 z4
   ·exact fin _ z2 z3 z4
  ·exact fin _ z2 z3 z4
 ·rename_i hmet
  exact(hmet _ (c2 _ _)).elim
theorem it_ne {it l:Addr}{i:Nat}(hit:s.heap.IsTupleIter it l i) {b:Addr}{y:Array Value}(hb:s.heap.IsTuple b y):b≠it:=by
 rintro rfl;obtain⟨o,ho,hc,n,hd'⟩:=hb;obtain⟨o2,ho2,hc2,_⟩:=hit;rw[ho] at ho2;cases ho2;rw[hc] at hc2;exact absurd (Value.type.inj hc2) (by decide)
theorem zIR {d it l:Addr}{vs:Array Value}{es:Array (Int × Value)}{ep:Nat}{t:SetTable}{R:Result->Shared->Prop}(hh:A.handled=none) (n1:d≠it) (hit:s.heap.IsTupleIter it l vs.size) (hL:s.heap.IsTuple l vs) (hd:SetN s.heap d es ep t)
  (hR:∀h',SetN h' d es ep t->(∀b o,b≠d->b≠it->s.heap.get? b=some o->h'.get? b=some o)->R (.ok (.ret .none)) { s with heap:=h' }):codeAny (model prog w) A (.builtin "set.update.loop" ⟨[.ref d,.ref it],[]⟩) R s:=by
 refine codeAny_builtin PyProof.Rows.F.entry_set_update_loop ?_;rw[Around.under_plainId PyProof.Rows.F.plain_set_update_loop _];unfold Builtin.«set.update.loop»;dsimp only;refine lA (wpAny_pyNext_tuple_end (show A.in1.handled=none from hh) hit hL (by simp) λ h3 he3=>?_);exact lB (hR h3 (he3 d _ n1 hd) λ b o nb ni e=>he3 b o ni e)
theorem zIQ {d it l:Addr}{vs:Array Value}{xs:List Dt}{b:Bool}{R:Result->Shared->Prop}(hh:A.handled=none) (hu:A.units+20<cLine) (n1:d≠it) (n2:l≠it) (n3:l≠d) (hlen:xs.length<=1) (hds:∀x∈xs,(∃ds,x = .tup ds)/\x.deep<=8) (hv:DAs s.heap xs vs.toList) (hit:s.heap.IsTupleIter it l 0) (hL:s.heap.IsTuple l vs) (hd:SetN s.heap d #[] 0 (SetTable.fresh 0 0 b))
  (hR:∀h' es ep t tk',SetN h' d es ep t->t.fits es.size=true->es.size=xs.length->(∀b o,b≠d->b≠it->s.heap.get? b=some o->h'.get? b=some o)->R (.ok (.ret .none)) { s with heap:=h',toks:=tk' }) :
  codeAny (model prog w) A (.builtin "set.update.loop" ⟨[.ref d,.ref it],[]⟩) R s:=by
 have hl:vs.size=xs.length:=by have:=hv.length;simpa using this.symm
 match xs,hlen with
 |[],_=>exact zIR hh n1 (by rw[hl];exact hit) hL hd λ h' e k=>hR h' _ _ _ s.toks e (zBn b) rfl k
 |[x],_ =>
  obtain⟨⟨ds,rfl⟩,dx⟩:=hds x lO
  obtain⟨u,hux,hdx⟩:∃u,vs.toList=[u]/\DA s.heap (.tup ds) u:=by
   cases e:vs.toList with
   |nil=>rw[e] at hv;cases hv
   |cons u r =>
    rw[e] at hv;cases hv with
    |cons h t=>cases t;exact⟨u,rfl,h⟩
  obtain⟨a,rfl⟩:∃a,u = .ref a:=by cases hdx;exact⟨_,rfl⟩
  have hvx:vs[0]?=some (.ref a):=by rw[←nJ,hux];rfl
  refine codeAny_builtin PyProof.Rows.F.entry_set_update_loop ?_;rw[Around.under_plainId PyProof.Rows.F.plain_set_update_loop _];unfold Builtin.«set.update.loop»;dsimp only;refine lA (wpAny_pyNext_tuple_item hit hL (x:=.ref a) hvx λ h1 hit1 hs1=>?_);dsimp only;have kp1:∀b y,s.heap.IsTuple b y->h1.IsTuple b y:=λ b y hb=>hb.extBut hs1.extBut (it_ne hit hb);refine lA (lE ?_);unfold setAdd;refine lE (lA (zJH 8 _ { s with heap:=h1 } dx (hdx.kept kp1) (by show A.units+1+8<cLine;omega) ?_));have hd1:=hs1.extBut d _ n1 hd;refine zGW (s:={ s with heap:=h1,toks:=_ }) hd1 (hdx.kept kp1) λ h2 es2 t2 z2 hd2 hf2 hs2=>?_;have nd:l≠d:=n3;refine lB ⟨plainId_quiet PyProof.Rows.F.plain_set_update_loop _,?_⟩;refine zIR (vs:=vs) hh n1 (by rw[hl];exact hit1.extBut hs2.extBut (Ne.symm n1)) ((kp1 _ _ hL).extBut hs2.extBut nd) hd2 λ h' e k=>hR h' _ _ _ _ e (by rw[z2];exact hf2) z2 λ b o nb ni e=>k b o nb ni (hs2.extBut b o nb (hs1.extBut b o ni e))
theorem zJj {l:Addr}{vs:Array Value}{xs:List Dt}{Q:XQ}(hh:A.handled=none) (hu:A.units+30<cLine) (hl:s.heap.IsTuple l vs) (hv:DAs s.heap xs vs.toList) (hlen:xs.length<=1) (hds:∀x∈xs,(∃ds,x = .tup ds)/\x.deep<=8)
  (h:∀h' es ep t tk',SetN h' s.heap.objs.size es ep t->t.fits es.size=true->es.size=xs.length->(∀b o,s.heap.get? b=some o->h'.get? b=some o)->Q (.ref s.heap.objs.size) { s with heap:=h',toks:=tk' }) :
  wpAny (model prog w) A (call (.type "set") [.ref l]) Q E s:=by
 obtain⟨c,tl,hmro⟩:=F.called_set.mro;have hmade:=F.called_set.made;have hsub:=F.called_set.sub;refine wpAny_call (codeAny_of_tree ?_);refine lB ⟨Code.quiet_builtin _ (by symm),codeAny_builtin F.entry_type_call ?_⟩;rw[Around.under_plain (weight_type_call_type "set" [.ref l] []) rfl];have h1:=F.called_set.notType;have h2:=F.called_set.canCreate;have hct:=F.typeCall_set_1 (.ref l);unfold Builtin.«type.__call__»;dsimp only;refine lD (decide_eq_false (by rw[h1];exact lX)) ?_;refine lD (decide_eq_false (by rw[h2];exact lX)) ?_;refine lA (wpAny_of_eq hct (lA (wpAny_of_eq hmro ?_)));refine lD (by rfl) ?_;refine lA (wpAny_of_eq hmade ?_);dsimp only;refine lA (lB ?_);refine lA (lE (wpAny_call (codeAny_mono (zDb (E:=E) (Q₁:=λ obj s₁=>obj = .ref s.heap.objs.size/\s₁={ s with heap:=s.heap.push (zBP #[] 0 (SetTable.fresh 0 0 (!w.params.followText "set-order"))) }) (.ref l) ⟨rfl,rfl⟩) λ r s₁ hr=>?_)));rcases r with e|f
 ·exact hr
 cases f with
 |ret v=>?_
 |_=>exact hr
 obtain⟨rfl,rfl⟩:=hr;have hd:=lH (h:=s.heap) (o:=zBP #[] 0 (SetTable.fresh 0 0 (!w.params.followText "set-order"))) rfl;have hT:(⟨s.heap.push (zBP #[] 0 (SetTable.fresh 0 0 (!w.params.followText "set-order"))),s.gens,s.drawn,s.toks,s.os⟩:Shared).TypeIs (.ref s.heap.objs.size) "set" := ⟨_,hd,rfl⟩;refine lA (wpAny_isInstance hT hsub (lD (by rfl) ?_));refine lA (lE (wpAny_callSpecial?_slot (name:=Str.ofString "__init__") hT F.called_set.init (wpAny_call (codeAny_call_builtin F.called_set.init.plain F.entry_set_init (check_set_init_1 hT ?_)))));have kp0:∀b o,s.heap.get? b=some o->(s.heap.push (zBP #[] 0 (SetTable.fresh 0 0 (!w.params.followText "set-order")))).get? b=some o:=λ b o hb=>lG _ hb;have hl0:(s.heap.push (zBP #[] 0 (SetTable.fresh 0 0 (!w.params.followText "set-order")))).IsTuple l vs:=hl.push _;have lt:l<s.heap.objs.size:=let ⟨o,ho,_⟩:=hl;lI ho;unfold Builtin.«set.__init__»;refine lA (wpAny_of_eq (a:=()) (by rfl) ?_);dsimp only;have hsl:isSubtype (.type "tuple") (.type "set")=pure false:=by first|exact F.sub_tuple_set|(rw[isSubtype_type];kernel_rfl)
 have hsf:isSubtype (.type "tuple") (.type "frozenset")=pure false:=by first|exact F.sub_tuple_frozenset|(rw[isSubtype_type];kernel_rfl)
 refine lA ?_;unfold typeNameOfCut;have hTl:(⟨s.heap.push (zBP #[] 0 (SetTable.fresh 0 0 (!w.params.followText "set-order"))),s.gens,s.drawn,s.toks,s.os⟩:Shared).TypeIs (.ref l) "tuple" := hl0.typeIs
 repeat (any_goals (first|assumption|exact hT|(with_reducible refine wpAny_isInstance hTl hsl ?_)|(with_reducible refine wpAny_isInstance hTl hsf ?_)|(with_reducible refine wpAny_pyIter_tuple hl0 ?_)|(with_reducible refine wpAny_typeOf hTl ?_)|(with_reducible refine wpAny_runValue ?_)|wp_step))
 have ltp:s.heap.objs.size<(s.heap.push (zBP #[] 0 (SetTable.fresh 0 0 (!w.params.followText "set-order")))).objs.size:=by rw[Heap.size_push];exact Nat.lt_succ_self _
 have hd2:=lG { cls:=Value.type "tuple_iterator", data:=Data.fields #[Value.ref l,Value.int 0 0] } hd;have hl2:=hl0.push { cls:=Value.type "tuple_iterator", data:=Data.fields #[Value.ref l,Value.int 0 0] };refine zIQ (vs:=vs) (xs:=xs) (show A.in1.in1.handled=none from hh) (by show A.units+1+1+20<cLine;omega) (lS ltp) (lS (Nat.lt_trans lt ltp)) (lS lt) hlen hds ((hv.kept λ b y hb=>hb.push _).kept λ b y hb=>hb.push _) ⟨_,lH _ rfl,rfl,rfl⟩ hl2 hd2 λ h' es ep t tk' e1 e3 esz kp=>?_;refine lB (lB ?_);refine lD (by rfl) (lB ?_);refine h h' es ep t tk' e1 e3 esz λ b o e=>?_;have lb:=lI e;exact kp b o (lS lb) (lS (Nat.lt_trans lb ltp)) (lG _ (kp0 b o e))
end
def zJv (ta:TA):TE:=λ σ H Q=>ta σ H λ vs H1=>∃(a:Addr) (xs:List Dt),vs=[.ref a]/\DR H1 (.tup xs) (.ref a)/\xs.length<=1/\(∀x∈xs,(∃ds,x = .tup ds)/\x.deep<=8)/\Q (.int (xs.length:Nat)) H1
theorem zHr {X:Cx}{a:Expr}{ta:TA}{p p2 pos pos2:Pos}(hu:X.A.units+150<cLine) (hc:X.calm=true) (hg:Gl X "len") (hm:X.mg "len" = none) (hg2:Gl X "set") (hm2:X.mg "set" = none) (ha:PA X [a] ta) (hs:starEach [a] X.env=[(false,eval a X.env)]:=by rfl)
  (hs3:starEach [Expr.Call (.Name "set" p2) [a] [] pos2] X.env=[(false,eval (Expr.Call (.Name "set" p2) [a] [] pos2) X.env)]:=by rfl) :
  PE X (.Call (.Name "len" p) [.Call (.Name "set" p2) [a] [] pos2] [] pos) (zJv ta):=by
 intro jP s σ H Q I h;refine wpAny_Call_Name_kw (zCR I hg hm PySem.boot_len (PyProof.Rows.callWith_builtin1 ?_ hs3 rfl));rw[hs3];show wpAny _ _ (spliced [(false,eval (Expr.Call (.Name "set" p2) [a] [] pos2) X.env)]) _ _ s;refine Calls.spliced_cons ?_;refine Call_ (zCR I hg2 hm2 zGL (PyProof.Rows.callWith_type1 (thn (ha pos2 jP s σ H _ I h) λ us s1 ⟨vs,H1,I1,r1,q1⟩=>?_) hs rfl));obtain⟨l,xs,e,h1,hx,hds,q⟩:=q1;subst e;obtain⟨u,rfl,ru⟩:=vals1 r1;cases ru;have da:=DR.da I1.hok h1 rfl;cases da with
 | @tup _ its _ t1 hv =>
 refine zJj (vs:=its) (xs:=xs) (I1.ok.hd hc) (by omega) t1 hv hx hds λ h2 es ep t tk' hd hf ess kp=>?_;refine Calls.spliced_nil ?_;have I2:Inv X jP σ H1 { s1 with heap:=h2,toks:=tk' }:=I1.kept (t':=tk') kp;refine PySem.call_len_set (s:={ s1 with heap:=h2,toks:=tk' }) hd ⟨rfl,rfl,rfl⟩ rfl hf (by omega) ?_;exact⟨.int (xs.length:Nat),H1,I2.tok _,⟨_,by rw[ess]⟩,q⟩
noncomputable def dtA:Atom->Dt
 |.name x=>.tup [.str "name", .str x]
 |.num n=>.tup [.str "num", .int n]
 |.gap g=>.tup [.str "gap", .str g,.tup []]
theorem AtRep.dr {H:Hp}:∀{a:Atom}{v:V},AtRep H a v->DR H (dtA a) v
 |.name _,_,⟨_,rfl,h⟩=>.tup h (.cons (.str _) (.cons (.str _) .nil))
 |.num _,_,⟨_,rfl,h⟩=>.tup h (.cons (.str _) (.cons (.int _) .nil))
 |.gap _,_,⟨_,_,rfl,h,h2⟩=>.tup h (.cons (.str _) (.cons (.str _) (.cons (.tup h2 .nil) .nil)))
theorem zLP {H:Hp}{as:List Atom}{us:List V}(h:Paired (AtRep H) as us):DRs H (as.map dtA) us:=by
 induction h with
 |nil=>exact .nil
 |cons r t ih=>exact .cons r.dr ih
theorem zMR (a:Atom):(∃ds,dtA a = .tup ds)/\(dtA a).deep<=8:=by cases a<;>exact⟨⟨_,rfl⟩,by simp[dtA,Dt.deep,Dt.deeps]⟩
noncomputable def nmA:Atom->Option Str
 |.name x=>some x
 |_=>none
def noPc (as:List Atom):Prop:=(∃a∈as,nmA a=none)\/¬(as.filterMap nmA).Nodup
theorem zKT {as:List Atom}(h:as.length<=1):noPc as↔∃a∈as,nmA a=none:=by
 refine⟨λ z=>z.elim id λ y=>absurd ?_ y,.inl⟩
 obtain _|⟨a,_|_⟩:=as
 ·exact List.nodup_nil
 ·cases a<;>first|exact List.nodup_nil|simp[nmA]
 ·simp at h
theorem zMW {H:Hp}{a:Atom}{v:V}(h:AtRep H a v):∃(p:Addr) (k:Str) (r:List V),v = .ref p/\H p=some (.tup (.str k::r))/\(k=Str.ofString "name" ↔ nmA a≠none):=by
 cases a with
 |name x=>obtain⟨p,rfl,h⟩:=h;exact⟨p,_,_,rfl,h,⟨λ Ω z=>(nomatch z),λ Ω=>rfl⟩⟩
 |num n=>obtain⟨p,rfl,h⟩:=h;exact⟨p,_,_,rfl,h,⟨λ z=>absurd z (by symm),λ z=>absurd rfl z⟩⟩
 |gap g=>obtain⟨p,b,rfl,h,_⟩:=h;exact⟨p,_,_,rfl,h,⟨λ z=>absurd z (by symm),λ z=>absurd rfl z⟩⟩
def noPcT (t:Tr):Prop:=∃g as,t = .gap g as/\noPc as
end L2
namespace PySem
open Sem (wp)
def KeepD (h h':Heap):Prop:=∀b o,h.get? b=some o->∃o',h'.get? b=some o'/\o'.dict=o.dict
theorem KeepD.refl (h:Heap):KeepD h h:=λ Ω o e=>⟨o,e,rfl⟩
theorem KeepD.trans {h h1 h2:Heap}(x:KeepD h h1) (y:KeepD h1 h2):KeepD h h2:=λ b o e =>
 let ⟨o1,e1,d1⟩:=x b o e;let ⟨o2,e2,d2⟩:=y b o1 e1;⟨o2,e2,d2.trans d1⟩
def KD {α:Type}:Sem α->Prop
 |.pure _=>True
 |.raise _=>True
 |.unsupported _=>True
 |.finish _=>True
 |.rule _ k=>KD (k ())
 |.at _ k=>KD (k ())
 |.load _ _ k=>∀o,KD (k o)
 |.update _ _ f k=>(∀o,(f o).dict=o.dict/\(o.isFreed=false->(f o).isFreed=false))/\KD (k ())
 |.alloc _ k=>∀a,KD (k a)
 |.loadIfAlive _ k=>∀o,KD (k o)
 |.register _ k=>True
 |.fresh k=>∀t,KD (k t)
 |.ask k=>∀t,KD (k t)
 |.stack k=>∀l,KD (k l)
 |.handled _ k=>∀l,KD (k l)
 |.point _ k=>KD (k ())
 |_=>False
theorem KD.bind {α β:Type}{m:Sem α}{k:α->Sem β}(h1:KD m) (h2:∀a,KD (k a)):KD (m >>= k):=by
 show KD (m.bind k)
 induction m with
 |pure a=>exact h2 a
 |raise e=>trivial
 |unsupported e=>trivial
 |finish e=>trivial
 |rule t k ih=>exact ih _ h1
 | «at» p k ih=>exact ih _ h1
 |load a p k ih=>exact λ o=>ih _ (h1 o)
 |update a p f k ih=>exact⟨h1.1,ih _ h1.2⟩
 |alloc o k ih=>exact λ a=>ih _ (h1 a)
 |loadIfAlive a k ih=>exact λ o=>ih _ (h1 o)
 |register a k ih=>trivial
 |fresh k ih=>exact λ o=>ih _ (h1 o)
 |ask k ih=>exact λ o=>ih _ (h1 o)
 |stack k ih=>exact λ o=>ih _ (h1 o)
 |handled o k ih=>exact λ o=>ih _ (h1 o)
 |point l k ih=>exact ih _ h1
 |_=>exact False.elim h1
theorem KD.ite {α:Type}{c:Prop} [Decidable c] {a b:Sem α}(h1:KD a) (h2:KD b):KD (if c then a else b):=by split;exact h1;exact h2
theorem WPM {α:Type}{M:Model}{Γ:Ctx}{E:Value->Pos->Shared->Prop}{t:Sem α}{Q Q':α->Pos->Shared->Prop}{p:Pos}{s:Shared}(h:∀a p s,Q a p s->Q' a p s) (x:wp M Γ t Q E p s):wp M Γ t Q' E p s:=Sem.wp_mono M Γ t h (λ Ω Ω Ω z=>z) p s x
theorem kd_wp {α:Type}{M:Model}{Γ:Ctx}{E:Value->Pos->Shared->Prop}:∀{t:Sem α},KD t->∀{Q:α->Pos->Shared->Prop}(p:Pos) (s:Shared),wp M Γ t Q E p s->wp M Γ t (λ a p' s'=>Q a p' s'/\KeepD s.heap s'.heap) E p s:=by
 intro t
 induction t with
 |pure a=>intro _ Q p s h;exact⟨h,.refl _⟩
 |raise e=>intro _ Q p s h;exact h
 |unsupported e=>intro _ Q p s h;exact h
 |finish e=>intro _ Q p s h;exact h
 |rule t k ih=>intro d Q p s h;exact ih _ d p s h
 | «at» q k ih=>intro d Q p s h;exact ih _ d q s h
 |load a q k ih=>intro d Q p s h;obtain⟨o,ho,h⟩:=h;exact⟨o,ho,ih _ (d o) p s h⟩
 |update a q f k ih =>
  intro d Q p s h;refine⟨h.1,?_⟩;have:=ih _ d.2 p _ h.2
  have kk:KeepD s.heap (s.heap.update a f):=λ b o e=>by
   by_cases hb:b=a
   ·subst hb
    exact⟨f o,mI f e ((d.1 o).2 (Heap.get?_some_iff.mp e).2),(d.1 o).1⟩
   ·exact⟨o,(Heap.get?_update_ne _ _ _ _ hb).trans e,rfl⟩
  exact WPM (λ a p' s' h=>⟨h.1,kk.trans h.2⟩) this
 |alloc o k ih =>
  intro d Q p s h;have:=ih _ (d _) p _ h;have kk:KeepD s.heap (s.heap.push o):=λ b o' e=>⟨o',lG _ e,rfl⟩;exact WPM (λ a p' s' h=>⟨h.1,kk.trans h.2⟩) this
 |loadIfAlive a k ih=>intro d Q p s h;exact ih _ (d _) p s h
 |register a k ih=>intro d Q p s h;exact h
 |fresh k ih=>intro d Q p s h;exact ih _ (d _) p _ h
 |ask k ih=>intro d Q p s h;exact ih _ (d _) p s h
 |stack k ih=>intro d Q p s h;exact ih _ (d _) p s h
 |handled o k ih=>intro d Q p s h;exact ih _ (d _) p s h
 |point l k ih=>intro d Q p s h;exact ih _ d p s h
 |_=>exact λ h=>False.elim h
theorem zJr {α:Type}{M:Model}{A:Around}{t:Sem α}{Q:α->Shared->Prop}{E:XQ}{s:Shared}(d:KD t) (h:wpAny M A t Q E s):wpAny M A t (λ a s'=>Q a s'/\KeepD s.heap s'.heap) E s :=
 λ Γ p hΓ=>kd_wp d p s (h Γ p hΓ)
theorem zGj (v:Value):KD (fieldsOf v):=by
 unfold fieldsOf;cases v with
 |ref a=>exact KD.bind (λ o=>trivial) λ o=>by split<;>trivial
 |_=>trivial
theorem zDi (v:Value) (i:Nat):KD (field v i):=by
 unfold field;exact KD.bind (zGj v) λ vs=>by split<;>trivial
theorem zCl (v:Value) (i:Nat) (x:Value):KD (setField v i x):=by
 unfold setField;cases v with
 |ref a =>
  unfold updateField;refine KD.bind (λ o=>trivial) λ o=>?_;split
  ·exact KD.ite ⟨λ o=>by obtain⟨c,d,dt,sl⟩:=o;cases dt<;>exact⟨rfl,λ h=>h⟩,trivial⟩ trivial
  ·trivial
 |_=>trivial
theorem zF8 (e:Value) (f:Option Addr):KD (setFlight e f):=by
 unfold setFlight;exact KD.bind (zDi _ _) λ tb=>KD.ite (zCl _ _ _) trivial
theorem zCd:∀l:List Env,KD (readyFrames l)
 |[]=>trivial
 |env::outer=>by
  unfold readyFrames;split
  ·refine KD.bind (λ o=>trivial) λ o=>KD.ite trivial ?_
   refine KD.bind ?_ λ b=>?_
   ·unfold behindIsImport
    exact KD.ite trivial (KD.ite trivial (KD.bind (zDi _ _) λ Ω=>trivial))
   ·refine KD.bind ?_ λ bk=>?_
    ·cases outer with
     |nil =>
      unfold keptBack;refine KD.ite trivial (KD.bind ?_ λ Ω=>trivial);exact λ l=>trivial
     |cons=>trivial
    ·exact KD.bind ⟨λ o=>by obtain⟨c,d,dt,sl⟩:=o;cases dt<;>exact⟨rfl,λ h=>h⟩,trivial⟩ λ Ω=>zCd outer
  ·trivial
theorem zH3 (env:Env):KD (frameOf env):=by
 unfold frameOf;refine KD.bind (λ l=>trivial) λ l=>KD.bind ?_ λ o=>by split<;>trivial
 unfold frameObject;split
 ·trivial
 ·exact KD.bind (zCd _) λ Ω=>trivial
theorem zFS (f:Addr) (b:Bool):KD (entryPlaceOf f b):=by
 unfold entryPlaceOf;refine KD.bind (λ l=>trivial) λ l=>?_;split<;>trivial
theorem zGA (ty:String) (vs:List Value):KD (newFields ty vs):=by
 unfold newFields newObj;dsimp only;refine KD.ite (KD.bind trivial λ Ω=>?_) ?_
 all_goals
  unfold newObjAsIs;exact λ a=>trivial
set_option tactic.hygienic true in
theorem zF9 (e:Value) (env:Env):KD (noteFrame e env):=by
  unfold noteFrame;split
  · rename_i L _
    refine KD.bind (zDi _ _) λ hd=>?_
    have tl:KD (do let a ← frameOf env;let pl ← entryPlaceOf L (hd != .none);let b ← EntryCells.newEntry hd a .none (rawInt L) .none pl;setField e 1 b) :=
      KD.bind (zH3 env) λ a=>KD.bind (zFS _ _) λ pl=>KD.bind (zGA _ _) λ b=>zCl _ _ _
    refine KD.ite ?_ tl;refine KD.bind (zDi _ _) λ x=>KD.ite trivial ?_;exact KD.bind (zCl _ _ _) λ Ω=>tl
  · trivial
theorem zH2 (env:Env) (e:Value):KD (leaving env e):=by
 unfold leaving;exact KD.bind (zF9 _ _) λ Ω=>zF8 _ _
end PySem
namespace PySem.W
open PySem PySem.Spec PySem.Calls PyProof.Rows Builtin Builtin.ObjectAttr
structure Exc2 (K:Frag) (D R:Addr):Prop where
 cls:∃dd cd sl,K.lookup D=some ⟨.type "type", dd,.cls cd,sl⟩/\cd.hasDict=true/\cd.mro=[.ref D,.ref R,.type "ValueError", .type "Exception", .type "BaseException", .type "object"]
 sa:findIn K (.ref D) "__setattr__" = some (some (.builtin "object.__setattr__"))
section
variable {prog:Program}{w:World}{A:Around}{E:XQ}{K:Frag}{x D R:Addr}{h:Heap}{g:Array GenState}{d:Drawn}{t:Nat}{os:OsState}{name:Str}{v:Value}{o:Obj}{vs:Array Value}
def zLQ (x:Addr) (o:Obj) (name:Str) (v:Value) (h h':Heap):Prop:=∃dx,h.get? dx=none/\dx≠x/\h'.get? x=some { o with dict:=some dx }/\h'.Ns1 dx (λ y=>if y=name then some v else none)/\∀b ob,b≠x->h.get? b=some ob->h'.get? b=some ob
theorem zEd {tk:Tok}{Q:Fin->Shared->Prop}(X:K.In h) (C:Exc2 K D R) (hx:h.get? x=some o) (hc:o.cls = .ref D) (hd:o.data = .fields vs) (hn:o.dict=none) (hna:findIn K (.ref D) name=some none)
  (hq:∀h' tk',zLQ x o name v h h'->Q (.done (.ret .none)) ⟨h',g,d,tk',os⟩) :
  wpAny (model prog w) A (Builtin.«object.__setattr__» ⟨[.ref x,.str name tk,v],[]⟩) Q E ⟨h,g,d,t,os⟩:=by
 have hpass:=PySem.F.store_ValueError.passes (.ref x);obtain⟨dd0,cd0,sl0,hK,hHas,hmro⟩:=C.cls;have hD:=X _ _ hK;have L1:=looks_findIn (M:=model prog w) X hna;unfold Builtin.«object.__setattr__»
 repeat (first|rw[refuse_eq]|(rw[hmro,refuseLoop_ref,refuseLoop_ref,hpass])|(with_reducible refine wpAny_loadPart_at hx ?_;rw[hc])|with_reducible refine L1.at ?_|wp_step)
 rw[hn,hd];dsimp only;refine lD (by simp[typeHasDict]) ?_;have hx1:(h.push { cls:=.type "dict", data:=.dict #[] }).get? x=some o:=lG _ hx;have hxs:x≠h.objs.size:=lS (lI hx);refine lA (wpAny_alloc' (lA (wpAny_update' hx1 (lB ?_))));have hgd:((h.push { cls:=.type "dict", data:=.dict #[] }).update x λ o=>{ o with dict:=some h.objs.size }).get? h.objs.size=some { cls:=.type "dict", data:=.dict #[] }:=(Heap.get?_update_ne _ _ _ _ hxs.symm).trans (Heap.get?_push_at rfl rfl);have hnd:((h.push { cls:=.type "dict", data:=.dict #[] }).update x λ o=>{ o with dict:=some h.objs.size }).Ns h.objs.size (λ Ω=>none):=⟨_,#[],_,hgd,rfl,λ e he=>absurd he (by simp),λ Ω=>rfl⟩;dsimp only;unfold storeInDict newKeyGuard;dsimp only;refine lA (lB (lA (wpAny_nsSet1 (Heap.Ns1.of_empty hnd) λ h' hn' hs=>?_)));obtain⟨oD,esD,epD,hoD,hdD,hcD⟩:=hn'.count (Within.cons name v Within.nil);refine lA (wpAny_lookBehind hoD (by rw[hdD];refine pastItsLine_dict (mG hcD ?_);rw[mM,List.length_nil,sizeLine_eq];omega) ?_);refine lB (hq h' _ ⟨h.objs.size,Heap.get?_none_of_le (lQ _),hxs.symm,?_,hn',λ b ob hb e=>?_⟩)
 ·refine(hs.2 x hxs).trans (mI _ hx1 ?_)
  have hfr:=(Heap.get?_some_iff.mp hx).2;obtain⟨oc,od,odt,osl⟩:=o;cases odt<;>first|rfl|exact hfr
 ·exact(hs.2 b (lS (lI e))).trans ((Heap.get?_update_ne _ _ _ _ hb).trans (lG _ e))
theorem ex_store {Q:Unit->Shared->Prop}(X:K.In h) (C:Exc2 K D R) (hob:mroIn K D (.type "object")=some true) (hx:h.get? x=some o) (hc:o.cls = .ref D) (hd:o.data = .fields vs) (hn:o.dict=none) (hna:findIn K (.ref D) name=some none)
  (hq:∀h' tk',zLQ x o name v h h'->Q () ⟨h',g,d,tk',os⟩):wpAny (model prog w) A (setAttr (.ref x) name v) Q E ⟨h,g,d,t,os⟩:=by
 have f3:=PySem.F.store_ValueError.slot.bind (.ref x);have L1:=looks_findIn (M:=model prog w) X C.sa;have L2:=looks_mroIn (M:=model prog w) X hob;have kd:=PySem.F.store_ValueError.kind;have sp:=PySem.F.store_ValueError.split;unfold setAttr callSpecial? specialOf
 repeat (any_goals (first|assumption|(with_reducible refine wpAny_loadPart_at hx ?_;rw[hc])|with_reducible refine L1.at ?_|wp_step))
 have chk:∀{M:Model}{A:Around}{E:XQ}{tk:Tok}{t:Nat}{Q:Unit->Shared->Prop},Q () ⟨h,g,d,t,os⟩->wpAny (model prog w) A (checkBuiltinCall "object.__setattr__" ⟨[.ref x,.str name tk,v],[]⟩) Q E ⟨h,g,d,t,os⟩:=by
  intro M A E tk t Q q;have ha:=PySem.F.store_ValueError.args (.ref x) (.str name tk) v;simp only[checkBuiltinCall,kd,sp];unfold isInstance
  repeat (first|(with_reducible refine wpAny_loadPart_at hx ?_;rw[hc])|with_reducible refine L2.at ?_|wp_step)
  exact q
 refine codeAny_call_builtin PySem.F.store_ValueError.slot.plain PySem.F.store_ValueError.entry (chk (M:=model prog w) (zEd X C hx hc hd hn hna λ h' tk' S=>?_))
 repeat (any_goals (first|assumption|wp_step))
 exact hq h' tk' S
end
abbrev xdata (t:Value):Data:=.fields #[t,.none,.none,.none,.bool false,.none]
section
variable {prog:Program}{w:World}{A:Around}{E:XQ}{K:Frag}{x D R:Addr}{h:Heap}{g:Array GenState}{d:Drawn}{t:Nat}{os:OsState}{tv:Value}{t0:Addr}{o:Obj}
theorem ex_init {Q:XQ}(X:K.In h) (C:Exc2 K D R) (hb:mroIn K D (.type "ValueError")=some true) (hx:h.get? x=some o) (hc:o.cls = .ref D) (hd:o.data=xdata (.ref t0))
  (hq:∀h' t',h'.get? x=some { o with data:=xdata (.ref t') }->(∀b ob,b≠x->h.get? b=some ob->h'.get? b=some ob)->Q .none ⟨h',g,d,t,os⟩):wpAny (model prog w) A (call (.builtin "ValueError.__init__") [.ref x,tv]) Q E ⟨h,g,d,t,os⟩:=by
 have FF:=PySem.F.excBase_ValueError;have L2:=looks_mroIn (M:=model prog w) X hb;have hshort:=FF.noStar;obtain⟨dd0,cd0,sl0,hK,hHas,hmro⟩:=C.cls;have hD:=X _ _ hK;refine wpAny_call (codeAny_call_builtin FF.init.plain FF.initEntry ?_);simp only[checkBuiltinCall,FF.initKind,FF.initSplit,FF.initRow];unfold isInstance
 repeat (first|(with_reducible refine wpAny_loadPart_at hx ?_;rw[hc])|with_reducible refine L2.at ?_|wp_step)
 rw[hd];have hxp:=lG (h:=h) { cls:=Value.type "tuple", data:=Data.seq #[tv] } hx;refine lB (lB (lA (wpAny_setField hxp hd (by simp) ?_)))
 have hx':((h.push { cls:=Value.type "tuple", data:=Data.seq #[tv] }).update x (Obj.mapFields (·.setIfInBounds 0 (Value.ref h.objs.size)))).get? x=some { o with data:=xdata (.ref h.objs.size) }:=by
  refine(mI _ hxp ?_).trans ?_
  ·obtain⟨oc,od,odt,osl⟩:=o;simp only at hd;subst hd;rfl
  ·obtain⟨oc,od,odt,osl⟩:=o;simp only at hd;subst hd;rfl
 have fin:=hq _ _ hx' λ b ob hb e=>(Heap.get?_update_ne _ _ _ _ hb).trans (lG _ e)
 repeat (any_goals (first|assumption|exact fin|wp_step))
end
abbrev mroVE:List Value:=[.type "ValueError", .type "Exception", .type "BaseException", .type "object"]
structure Exc3 (K:Frag) (D R f:Addr):Prop extends Exc2 K D R,ExCls K D where
 obj:∃nm q N bs sn sub ab col dd k0 k1 k2 k3 k5,K.lookup D=some (excClassObj nm q D N bs (.ref R::mroVE) true sn sub ab col dd k0 k1 k2 k3 k5 "ValueError.__new__")
 tail:tailIn K mroVE (.ref R::mroVE)=true
 init:findIn K (.ref D) "__init__" = some (some (.ref f))
 fn:typeIn K (.ref f)=some (.type "function")
section
variable {prog:Program}{w:World}{A:Around}{E:XQ}{K:Frag}{x D R f:Addr}{h:Heap}{g:Array GenState}{d:Drawn}{t:Nat}{os:OsState}
abbrev xObj (D t:Addr):Obj:={ cls:=.ref D,data:=xdata (.ref t) }
abbrev tObj (rest:List Value):Obj:={ cls:=.type "tuple", data:=.seq rest.toArray }
theorem ex_make {rest:List Value}{R':Result->Shared->Prop}(X:K.In h) (C:Exc3 K D R f) (hrest:rest.length<=sizeLine)
  (hq:codeAny (model prog w) (A.under (.builtin "type.__call__" ⟨.ref D::rest,[]⟩)) (.call (.ref f) ⟨.ref (h.objs.size+1)::rest,[]⟩) (InitBack (h.objs.size+1) R') ⟨(h.push (tObj rest)).push (xObj D h.objs.size),g,d,t,os⟩) :
  codeAny (model prog w) A (.call (.ref D) ⟨rest,[]⟩) R' ⟨h,g,d,t,os⟩:=by
 obtain⟨nm,q,N,bs,sn,sub,ab,col,dd,k0,k1,k2,k3,k5,hK⟩:=C.obj;have hC:=X _ _ hK;have T:=tail_of_in X C.tail;have FF:=PySem.F.excBase_ValueError;have f1:=tc_lookup;have f2:=tc_bind (.ref D);have hT:(⟨h,g,d,t,os⟩:Shared).TypeIs (.ref D) "type" := ⟨_,hC,rfl⟩;refine codeAny_of_tree ?_;show wpAny _ _ (callAny (.ref D) _) _ _ _
 repeat (any_goals (first|assumption|with_reducible refine wpAny_loadPart_at hC ?_|wp_step))
 refine⟨rfl,?_⟩;refine codeAny_call_builtin_at (Code.quiet_builtin _ (by symm)) entry_typeCall (wpAny_check_type_call_sub hC ?_)
 repeat (first|with_reducible refine wpAny_loadPart_at hC ?_|with_reducible refine wpAny_madeBy_exc hC ?_|wp_step)
 refine codeAny_call_builtin_code (Code.quiet_builtin _ FF.quiet) (wpAny_check_new_subT FF T hC ?_);refine codeAny_exc_new_subT FF T hC ?_ hrest;show wpAny _ _ _ _ _ _;have kp:∀b o,h.get? b=some o->((h.push (tObj rest)).push (xObj D h.objs.size)).get? b=some o:=λ b o e=>lG _ (lG _ e);have hget:((h.push (tObj rest)).push (xObj D h.objs.size)).get? (h.objs.size+1)=some (xObj D h.objs.size):=by heap_get
 have hC1:=kp _ _ hC;have hcC:(Value.ref D::Value.ref R::mroVE).contains (.ref D)=true:=by simp
 have i1:=(looks_findIn (M:=model prog w) X C.init).keeps kp;have b1:=(bind_fn (M:=model prog w) X (.ref (h.objs.size+1)) C.fn).keeps kp;unfold isInstance
 repeat (first|with_reducible refine wpAny_loadPart_at hget ?_|(with_reducible refine wpAny_isSubtype_exc hC1 ?_;rw[hcC])|with_reducible refine i1.at ?_|with_reducible refine b1.at ?_|wp_step)
 show wpAny _ _ (isSubtype (.ref D) (.ref D)) _ _ ⟨(h.push (tObj rest)).push (xObj D h.objs.size),g,d,t,os⟩;refine wpAny_isSubtype_exc hC1 ?_;rw[hcC];refine lD (by rfl) ?_;refine lA (lE ?_);unfold callSpecial? specialOf
 repeat (first|with_reducible refine wpAny_loadPart_at hget ?_|with_reducible refine i1.at ?_|with_reducible refine b1.at ?_|with_reducible refine wpAny_call ?_|wp_step)
 refine codeAny_mono hq λ r s' z=>?_;rcases r with e|(v|_|_|_)<;>first|exact z|exact z.elim|skip
 obtain⟨rfl,z⟩:=z;exact lB (lB z)
end
end PySem.W
namespace L2
open PySem PySem.Spec PyProof.Rows
noncomputable def exN (ea C:Addr):HO:=.ext λ h=>∃t,h.get? ea=some (W.xObj C t)
noncomputable def exW (ea C dx:Addr):HO:=.ext λ h=>∃t,h.get? ea=some { W.xObj C t with dict:=some dx }
section
variable {P:Program}{w:World}{H H':Hp}{h h':Heap}{ea C dx:Addr}
theorem zLI {t:Addr}(e:h.get? ea=some (W.xObj C t)):ObjOk P w H h ea (exN ea C):=⟨⟨t,e⟩,⟨_,e⟩,λ _ _ ⟨t,e⟩ k=>⟨t,k _ e⟩⟩
theorem zNW {t:Addr}(e:h.get? ea=some { W.xObj C t with dict:=some dx }):ObjOk P w H h ea (exW ea C dx):=⟨⟨t,e⟩,⟨_,e⟩,λ _ _ ⟨t,e⟩ k=>⟨t,k _ e⟩⟩
theorem zJM (hok:HOk P w H h) (e:H ea=some (exN ea C)):∃t,h.get? ea=some (W.xObj C t):=(hok ea _ e).1
theorem zJL (hok:HOk P w H h) (e:H ea=some (exW ea C dx)):∃t,h.get? ea=some { W.xObj C t with dict:=some dx }:=(hok ea _ e).1
end
section
variable {X:Cx}{jP:List (Addr × Obj)}{σ:St}{H H':Hp}{s s':Shared}{h':Heap}{ea dx C:Addr}{φ:Heap->Prop}{o1 o2:HO}{t':Nat}
theorem Inv.two (I:Inv X jP σ H s) (he:H ea=some (.ext φ)) (hdx:s.heap.get? dx=none) (hne:dx≠ea) (k:∀b ob,b≠ea->s.heap.get? b=some ob->h'.get? b=some ob) (thr:∃u,h'.get? ea=some u)
  (n1:ObjOk X.prog X.w (upd (upd H dx o2) ea o1) h' ea o1) (n2:ObjOk X.prog X.w (upd (upd H dx o2) ea o1) h' dx o2):Inv X jP σ (upd (upd H dx o2) ea o1) { s with heap:=h',toks:=t' }:=by
 have hd0:H dx=none:=by
  cases q:H dx with
  |none=>rfl
  |some u=>obtain⟨o,z⟩:=(I.hok dx u q).there;rw[hdx] at z;cases z
 have up:∀b,b≠ea->b≠dx->(upd (upd H dx o2) ea o1) b=H b:=λ b n1 n2=>by rw[zAK n1,zAK n2]
 have nd:∀{b:Addr}{u:HO},H b=some u->b≠dx:=λ q z=>by rw[z,hd0] at q;cases q
 have ndh:∀{b:Addr}{o:Obj},s.heap.get? b=some o->b≠dx:=λ q z=>by rw[z,hdx] at q;cases q
 have nea:∀{b:Addr},H b=none->b≠ea:=λ q z=>by rw[z,he] at q;cases q
 refine I.un ⟨λ b o q n Ω Ω=>k b o (nea n) q,λ b o q n Ω Ω=>⟨o.slots,k b o (nea n) q⟩,λ b o q n Ω=>(up b (nea n) (ndh q)).trans n,λ b o q Ω=>?_,λ b xs q=>?_,λ b o u q=>?_,λ b ps q=>?_⟩ λ b u q=>?_
 ·by_cases z:b=ea
  ·rw[z];exact thr
  ·exact⟨o,k b o z q⟩
 ·exact(up b (λ z=>by rw[z,he] at q;cases q) (nd q)).trans q
 ·exact(up b (λ z=>by rw[z,he] at q;cases q) (nd q)).trans q
 ·exact⟨#[],by rw[Array.append_empty];exact(up b (λ z=>by rw[z,he] at q;cases q) (nd q)).trans q⟩
 ·by_cases z:b=ea
  ·subst z
   rw[zAA] at q;cases q;exact n1
  ·rw[zAK z] at q
   by_cases y:b=dx
   ·subst y
    rw[zAA] at q;cases q;exact n2
   ·rw[zAK y] at q
    refine(I.hok b u q).stay (λ c v hc q2=>k c v (λ x=>?_) q2) (λ c q2=>?_) λ c xs q2=>?_
    ·rcases hc with hc|hc
     ·exact z (hc.symm.trans x)
     ·rw[x,he] at hc;cases hc
    ·exact(up c (λ z=>by rw[z,he] at q2;cases q2) (nd q2)).trans q2
    ·exact(up c (λ z=>by rw[z,he] at q2;cases q2) (nd q2)).trans q2
end
structure XSup (K:W.Frag) (R:Addr):Prop where
 gt:W.specialIn K (.ref R) "__getattribute__" = some (some (.builtin "type.__getattribute__"))
 rd:∃mc,W.readsIn K R mc=true/\W.findCls K (.ref R) mc "__init__" = some (.val (.builtin "ValueError.__init__"))
def zMe (R D:Addr) (ta:TE) (t:TA):TE:=λ σ H Q=>ta σ H λ x H1=>x = .ref R/\t σ H1 λ vs H2=>∃ea v,vs=[.ref ea,v]/\H2 ea=some (exN ea D)/\Q .non H2
theorem zJ8 {X:Cx}{o e:Expr}{es:List Expr}{ta:TE}{t:TA}{R D R':Addr}{apos pos:Pos}{pl:Sem Bool}
  (he:PE X o ta) (M:XSup X.K R) (C:W.Exc2 X.K D R') (hv:W.mroIn X.K D (.type "ValueError")=some true) (ha:PA X (e::es) t)
  (hst:starEach (e::es) X.env=(false,eval e X.env)::starEach es X.env:=by rfl) (hpl:(backTo pos (starEach es X.env)).any (·.1)=false:=by rfl)
  (ht:eval (.Call (.Attribute o "__init__" apos) (e::es) [] pos) X.env=(do
   let ov ← eval o X.env
   standAt apos.atName
   let (f,first) ← holding [ov] (getMethod ov "__init__" pl)
   callWith pos f first (backTo pos (starEach (e::es) X.env)) (backToKw pos (keywordEach [] X.env))):=by rfl) :
  PE X (.Call (.Attribute o "__init__" apos) (e::es) [] pos) (zMe R D ta t):=by
 intro jP s σ H Q I h;refine W.methodCall_KW (pl:=pl) (thn (he jP s σ H _ I h) λ u s1 ⟨x,H1,I1,rx,ex,q⟩=>?_) ht;subst ex;obtain rfl:u=Value.ref R:=rx;obtain⟨mc,r1,r2⟩:=M.rd;refine W.method_cls I1.kIn M.gt (W.cls_value I1.kIn r1 r2 rfl ?_);refine PyProof.Rows.callWith_builtin1 (thn (ha pos jP _ σ H1 _ (I1.tok (s1.toks+1)) q) λ us s2 ⟨vs,H2,I2,r,ea,v,ev,hea,q2⟩=>?_) hst hpl;subst ev;obtain⟨u1,u2,rfl,ru1,ru2⟩:=vals2 r;cases ru1;obtain⟨t0,ho⟩:=zJM I2.hok hea;obtain⟨hp,g,d,tk,os⟩:=s2;refine W.ex_init I2.kIn C hv ho rfl rfl λ h' t' e1 k=>?_
 have hu:upd H2 ea (exN ea D)=H2:=by
  funext b
  by_cases z:b=ea
  ·subst z;rw[zAA,hea]
  ·rw[zAK z]
 have I3:=I2.write (x:=ea) (e:=ea) (o:=exN ea D) (h':=h') (t':=tk) (by rw[hea];trivial) (.inl rfl) k ⟨_,e1⟩ (zLI e1);rw[hu] at I3;exact⟨.non,H2,I3,rfl,q2⟩
def sXPut (D:Addr) (ta tv:TE) (f:Str):TS:=λ Ds σ H=>tv σ H λ y H1=>ta σ H1 λ x H2=>∃ea,x = .ref ea/\H2 ea=some (exN ea D)/\∀dx,H2 dx=none->dx≠ea->Ds.nx σ (upd (upd H2 dx (.xd [(f,y)])) ea (exW ea D dx))
theorem zLh {X:Cx}{o value:Expr}{f:Str}{ta tv:TE}{D R:Addr}{pos pos':Pos}(ha:PE X o ta) (hv:PE X value tv) (C:W.Exc2 X.K D R) (hob:W.mroIn X.K D (.type "object")=some true) (hna:W.findIn X.K (.ref D) f=some none)
  (hs:swapsWith value (some (.Attribute o f pos')) pos.line X.env=pure false):PS X (.Assign [.Attribute o f pos'] value pos) (sXPut D ta tv f):=by
 intro jP s σ H Ds I h;refine plainObj_wpAny_Assign_Attribute (thn (hv jP s σ H _ I h) λ u s1 ⟨y,H1,I1,ry,q⟩=>thn (ha jP s1 σ H1 _ I1 q) λ ov s2 ⟨x,H2,I2,rx,ea,ex,hea,q2⟩=>?_) hs;subst ex;obtain rfl:ov=Value.ref ea:=rx;obtain⟨t0,ho⟩:=zJM I2.hok hea;obtain⟨hp,g,d,tk,os⟩:=s2;refine W.ex_store I2.kIn C hob ho rfl rfl rfl hna λ h' tk' S=>?_;obtain⟨dx,h1,h2,h3,h4,h5⟩:=S
 have hd0:H2 dx=none:=by
  cases q:H2 dx with
  |none=>rfl
  |some u=>obtain⟨o,z⟩:=(I2.hok dx u q).there;rw[h1] at z;cases z
 refine⟨σ,_,I2.two (h':=h') (t':=tk') (o1:=exW ea D dx) (o2:=.xd [(f,y)]) hea h1 h2 h5 ⟨_,h3⟩ (zNW h3) ⟨_,h4,λ z=>?_⟩,q2 dx hd0 h2⟩;show RelO (List.lookup z [(f,y)]) (if z=f then some u else none)
 by_cases e:z=f
 ·subst e
  rw[if_pos rfl,List.lookup_cons_self];exact ry
 ·rw[if_neg e,List.lookup_cons,show (z == f)=false from beq_eq_false_iff_ne.mpr e]
  trivial
def tFStr (te:TE) (y:Str):TE:=λ σ H Q=>te σ H λ v H1=>∃x:Str,v = .str x/\y.length+x.length<=sizeLine/\Q (.str (y++x)) H1
theorem zLt {X:Cx}{e:Expr}{te:TE}{y:Str}{j} {p1 p2 pos:Pos}(he:PE X e te) (hy:y.length<=1000:=by symm):PE X (.JoinedStr [.Constant (.str y) j p2,.FormattedValue e (-1) none p1] pos) (tFStr te y):=by
 intro jP s σ H Q I h;refine wpAny_JoinedStr ?_;show wpAny _ _ (eval (.Constant (.str y) j p2) X.env) _ _ s;have e0:Str.empty++y=y:=zDe _;refine Calls.Constant_str ⟨y,_,rfl,?_,?_⟩
 ·rw[e0];exact mG hy (by decide)
 ·show wpAny _ _ (eval (.FormattedValue e (-1) none p1) X.env) _ _ _
  refine wpAny_FormattedValue_plain (thn (he jP _ σ H _ (I.tok _) h) λ v s1 ⟨u,H1,I1,r1,x,ex,hx,q⟩=>?_);subst ex;obtain⟨t,rfl⟩:=r1
  have fin:∀(t':Tok) (tk:Nat),∃z u',(Value.str x t':Value) = .str z u'/\(Str.empty++y++z).length<=sizeLine/\Joins (model X.prog X.w) X.A X.xe (evalEach [] X.env) (Str.empty++y++z) (λ out s₁=>out.length<=sizeLine/\EP X jP σ Q (.str out s₁.toks) { s₁ with toks:=s₁.toks+1 }) { s1 with toks:=tk }:=λ t' tk=>by
   refine⟨_,t',rfl,by rw[e0,strLen_append];exact hx,?_⟩;rw[e0];exact⟨by rw[strLen_append];exact hx,.str (y++x),H1,I1.tok _,⟨_,rfl⟩,q⟩
  exact wpAny_formatField_str (fin _ _) (fin _ _) (by omega)
def DicAt (h:Heap) (ea:Addr) (dd:Option Addr):Prop:=∃o,h.get? ea=some o/\o.dict=dd
theorem DicAt.keep {h h':Heap}{ea:Addr}{dd:Option Addr}(x:DicAt h ea dd) (k:KeepD h h'):DicAt h' ea dd :=
 let ⟨o,e,d⟩:=x;let ⟨o',e',d'⟩:=k _ _ e;⟨o',e',d'.trans d⟩
noncomputable def CXG (P:Program) (w:World):CXT:=λ outer H s E e s'=>∃ea C dd H',e = .ref ea/\Flew P w outer H s H' ea C s'/\DicAt s'.heap ea dd/\E (.ref C) dd H'
noncomputable def less (H:Hp) (ea:Addr):Hp:=λ b=>if b=ea then none else H b
theorem zBg {H:Hp}{ea b:Addr}(h:b≠ea):less H ea b=H b:=by unfold less;rw[if_neg h]
theorem zEE {H:Hp}{ea:Addr}:less H ea ea=none:=by unfold less;rw[if_pos rfl]
section
variable {P:Program}{w:World}{K:W.Frag}{mg:Str->Option Value}{base:Heap}{N:List Str}{qual:Str}{scope:Scope}{f:Addr}{cd:Value}{A:Around}{outer:List Env}{s:Shared}{H:Hp}{E:XK}
theorem zJc {jP:List (Addr × Obj)}{σ:St}{H1:Hp}{s1:Shared}{ea C dx:Addr}(I:Inv (cxOf (CXG P w) P w K mg base N qual scope f cd A outer s H E) jP σ H1 s1) (he:H1 ea=some (exW ea C dx)) (hnew:s.heap.get? ea=none) (q:E (.ref C) (some dx) (less H1 ea)) :
  (cxOf (CXG P w) P w K mg base N qual scope f cd A outer s H E).xe (.ref ea) s1:=by
 obtain⟨t,ho⟩:=zJL I.hok he;have ba:Un (frs outer) [] H H1 s.heap s1.heap:=I.base;have ab:s.heap.objs.size<=(cxOf (CXG P w) P w K mg base N qual scope f cd A outer s H E).env.locals:=I.ok.above;have sub:=I.stkSub;have hfree:=I.stkFree;have hstk:=I.stack;have hfrL:=I.free
 have key:=zJr (zH2 (cxOf (CXG P w) P w K mg base N qual scope f cd A outer s H E).env (.ref ea)) (wpAny_leaving_firstW (M:=model P w) (A:=(cxOf (CXG P w) P w K mg base N qual scope f cd A outer s H E).A) (E:=λ Ω Ω=>False) (s:=s1) (base:=W.hideAll s1.heap (ea::frs (cxOf (CXG P w) P w K mg base N qual scope f cd A outer s H E).stack)) (a0:=.ref t)
  (Q:=λ Ω s'=>∃h',s'={ s1 with heap:=h' }/\Heap.LeftW (W.hideAll s1.heap (ea::frs (cxOf (CXG P w) P w K mg base N qual scope f cd A outer s H E).stack)) ((cxOf (CXG P w) P w K mg base N qual scope f cd A outer s H E).env::outer) ea (.ref C) (.ref t) s1.heap h')
  I.ok.frames (W.funFrames_hide hstk λ env he b hb=>lP _ (List.mem_filterMap.mpr ⟨env,he,hb⟩)) rfl ho (λ b o e=>W.of_hideAll _ e) (W.hideAll_none _ lO) rfl rfl rfl λ h' hL=>⟨h',rfl,hL⟩)
 refine wpAny_mono key (λ _ s' ⟨⟨h',e,hL⟩,kd⟩=>?_) (λ Ω Ω z=>False.elim z);subst e;obtain⟨k1,⟨_,_,k2⟩,k3,k4⟩:=hL;have nea:∀{b:Addr}{u:HO},less H1 ea b=some u->b≠ea:=λ z e=>by rw[e,zEE] at z;cases z
 have eaF:∀{b:Addr}{o:Obj},s.heap.get? b=some o->b≠ea:=λ z e=>by rw[e,hnew] at z;cases z
 have U1:Un (frs outer) [] H (less H1 ea) s.heap s1.heap:=by
  refine⟨ba.keep,ba.slot,λ b o q n hx=>?_,ba.there,λ b xs q=>?_,λ b o u q=>?_,λ b ps q=>?_⟩
  ·rw[zBg (eaF q)];exact ba.free b o q n hx
  ·have:=ba.tups b xs q
   rw[zBg (λ z=>by rw[z,he] at this;cases this)];exact this
  ·have:=ba.frzs b o u q
   rw[zBg (λ z=>by rw[z,he] at this;cases this)];exact this
  ·obtain⟨m,this⟩:=ba.tbls b ps q
   exact⟨m,by rw[zBg (λ z=>by rw[z,he] at this;cases this)];exact this⟩
 have hok2:HOk P w (less H1 ea) s1.heap:=λ b u q=>by
  have nb:=nea q;rw[zBg nb] at q;refine(I.hok b u q).stay (λ Ω Ω Ω z=>z) (λ c z=>?_) λ c xs z=>?_
  ·rw[zBg (λ y=>by rw[y,he] at z;cases z)];exact z
  ·rw[zBg (λ y=>by rw[y,he] at z;cases z)];exact z
 have cov:Cov (frs outer) (less H1 ea) s.heap s1.heap (W.hideAll s1.heap (ea::frs (cxOf (CXG P w) P w K mg base N qual scope f cd A outer s H E).stack)):=λ b o e nb hz=>by
  refine W.hideAll_get _ e λ hm=>?_
  have hb1:b≠ea:=by
   rcases hz with ⟨o0,z⟩|z
   ·exact eaF z
   ·exact λ y=>z (by rw[y];exact zEE)
  rcases lN.mp hm with y|y
  ·exact hb1 y
  ·rcases lN.mp (sub b y) with y|y
   ·rcases hz with ⟨o0,z⟩|z
    ·exact lS (lZ (lI z) ab) y
    ·refine z ?_
     rw[zBg hb1,y];exact hfrL
   ·exact nb y
 have hfd:∀b∈frs outer,less H1 ea b=none/\∃o,s1.heap.get? b=some o/\∀vs,o.data ≠ .fields vs:=λ b hb=>by
  obtain⟨_,o,e,d⟩:=I.ok.funs.mem hb;have hbH:H b=none:=I.ok.frf b hb;obtain⟨sl,e1⟩:=ba.slot b o e hbH hb (by simp);refine⟨?_,_,e1,d⟩;rw[zBg (eaF e)];exact ba.free b o e hbH (by simp)
 obtain⟨u,k,c⟩:=moved U1 hok2 cov hfd k1 k4;exact⟨ea,C,some dx,less H1 ea,rfl,⟨I.os,I.bare,u,k,hnew,zEE,_,_,⟨k1,W.hideAll_none _ lO,k2,k3⟩,c⟩,DicAt.keep ⟨_,ho,rfl⟩ kd,q⟩
end
section
variable {X:Cx}{jP:List (Addr × Obj)}{σ:St}{H:Hp}{s:Shared}{Q:VK}{us:List Value}{vs:List V}{D R f:Addr}{fd:FuncData}{ps:List Str}{k:Nat}{sp:Sp}
theorem zIU (M:W.Exc3 X.K D R f) (F:FnOk X.prog X.w X.K X.mg X.base CX0 k f fd ps sp) (hr:Room (k+1) X.A) (hb:Binds X.K fd ps []) (I:Inv X jP σ H s) (r:Vals vs us) (hlen:vs.length<=sizeLine)
  (h:∀ea,H ea=none->s.heap.get? ea=none->∃Q0:VK,sp (.ref ea::vs) (upd H ea (exN ea D)) Q0 E0/\∀v H2,Q0 v H2->v = .non/\Q (.ref ea) H2):wpAny (model X.prog X.w) X.A (call (.ref D) us) (EP X jP σ Q) X.xe s:=by
 obtain⟨Q0,hq,hQ0⟩:=h (s.heap.objs.size+1) (I.hok.fresh (nI _)) (Heap.get?_none_of_le (nI _));have I1:=I.kept (h':=s.heap.push (W.tObj us)) (t':=s.toks) λ b u q=>lG _ q
 have e2:((s.heap.push (W.tObj us)).push (W.xObj D s.heap.objs.size)).get? (s.heap.objs.size+1)=some (W.xObj D s.heap.objs.size):=by
  have:=lH (s.heap.push (W.tObj us)) (o:=W.xObj D s.heap.objs.size) rfl
  rwa [Heap.size_push] at this
 have I2:=I1.laid (a:=s.heap.objs.size+1) (o:=exN (s.heap.objs.size+1) D) (t':=s.toks) (λ b u q=>lG (W.xObj D s.heap.objs.size) q) (Nat.le_of_eq (Heap.size_push _ _)) (zLI e2);have r2:Vals (V.ref (s.heap.objs.size+1)::vs) (Value.ref (s.heap.objs.size+1)::us):=.cons rfl r
 have hl:(Value.ref (s.heap.objs.size+1)::us++[]).length=ps.length:=by
  have e:=r2.length;rw[F.len _ _ _ _ hq] at e;rw[nT];exact e.symm
 have hb2:=hb _ (Value.ref (s.heap.objs.size+1)::us) I2.kIn hl;rw[nT] at hb2;obtain⟨hp,g,d,tk,os⟩:=s;refine wpAny_call (W.ex_make I.kIn M (by rw[←r.length];exact hlen) (codeAny_mono (F.run _ X.stack _ _ ⟨Value.ref (hp.objs.size+1)::us,[]⟩ (Value.ref (hp.objs.size+1)::us) _ _ E0 (hr.make D us []) (I2.env0.make D us []) hb2 r2 hq) λ r s' hq'=>?_));cases r with
 |error e=>exact False.elim hq'
 |ok fl =>
  cases fl with
  |ret u =>
   obtain⟨v,H',I3,rv,q0⟩:=I2.after hq';obtain⟨ev,q3⟩:=hQ0 v H' q0;subst ev;exact⟨rv,⟨V.ref (hp.objs.size+1),H',I3,rfl,q3⟩⟩
  |next=>exact False.elim hq'
  |brk=>exact False.elim hq'
  |cont=>exact False.elim hq'
end
section
variable {P:Program}{w:World}{K:W.Frag}{mg:Str->Option Value}{base:Heap}{N:List Str}{qual:Str}{scope:Scope}{f:Addr}{cd:Value}{A:Around}{outer:List Env}{s:Shared}{H:Hp}{E:XK}
def zLT (C:Addr) (sp:Sp) (E:XK) (t:TA):TS:=λ _ σ H=>t σ H λ vs H1=>vs.length<=sizeLine/\∀ea,H1 ea=none->sp (.ref ea::vs) (upd H1 ea (exN ea C)) (λ v H2=>v = .non/\∃dx,H2 ea=some (exW ea C dx)/\E (.ref C) (some dx) (less H2 ea)) E0
theorem zIX {x:Str}{np cpos pos:Pos}{e0:Expr}{es:List Expr}{t:TA}{C R fi:Addr}{fd:FuncData}{ps:List Str}{k:Nat}{sp:Sp}(hg:Gl (cxOf (CXG P w) P w K mg base N qual scope f cd A outer s H E) x) (hm:mg x=some (.ref C)) (M:W.Exc3 K C R fi) (F:FnOk P w K mg base CX0 k fi fd ps sp) (hr:Room (k+1) (cxOf (CXG P w) P w K mg base N qual scope f cd A outer s H E).A) (hb:Binds K fd ps []) (hkp:W.keepIn K (.ref C)=true)
  (ha:PA (cxOf (CXG P w) P w K mg base N qual scope f cd A outer s H E) (e0::es) t) (hdb:(x == ("__debug__" : Str))=false:=by decide)
  (he:starEach (e0::es) (cxOf (CXG P w) P w K mg base N qual scope f cd A outer s H E).env=(false,eval e0 (cxOf (CXG P w) P w K mg base N qual scope f cd A outer s H E).env)::starEach es (cxOf (CXG P w) P w K mg base N qual scope f cd A outer s H E).env:=by rfl)
  (hpl:(backTo cpos (starEach es (cxOf (CXG P w) P w K mg base N qual scope f cd A outer s H E).env)).any (·.1)=false:=by rfl) :
  PS (cxOf (CXG P w) P w K mg base N qual scope f cd A outer s H E) (.Raise (some (.Call (.Name x np) (e0::es) [] cpos)) none pos) (zLT C sp E t):=by
 intro jP s1 σ H1 D I h;rw[arm_exec_Raise];refine lA (wpAny_standAt ?_);unfold raiseStmt;dsimp only;refine lA (lA (wpAny_Call_Name_kw (zDM I hg hm ?_ hdb)));refine W.callWith_K (h₀:=base) I.ok.mod.kin hkp (thn (ha cpos jP s1 σ H1 _ I h) λ us s2 ⟨vs,H2,I2,r,hl,q⟩=>⟨I2.kIn,?_⟩) he hpl;refine thn (zIU (Q:=λ v H3=>∃ea dx,v = .ref ea/\s2.heap.get? ea=none/\H3 ea=some (exW ea C dx)/\E (.ref C) (some dx) (less H3 ea)) M F hr hb I2 r hl λ ea e1 e2=>⟨_,q ea e1,λ v H3 ⟨ev,dx,a,b⟩=>⟨ev,ea,dx,rfl,e2,a,b⟩⟩) λ v s3 ⟨y,H3,I3,rx,ea,dx,ex,hnw,hea,q3⟩=>lA (wpAny_standAt (lB ?_));subst ex;obtain rfl:v=Value.ref ea:=rx;obtain⟨t0,ho⟩:=zJL I3.hok hea
 have hnew:s.heap.get? ea=none:=by
  cases z:s.heap.get? ea with
  |none=>rfl
  |some o =>
   obtain⟨o',z'⟩:=(show Un (frs outer) [] H H2 s.heap s2.heap from I2.base).there ea o z (by simp);rw[hnw] at z';cases z'
 have hE:=zJc I3 hea hnew q3;have hh:=I.ok.hd rfl;obtain⟨hp,g,d,tk,os⟩:=s3;have Lb:∀{Mo:Model},W.Looks Mo hp (isSubtype (.ref C) (.type "BaseException")) true:=λ{Mo}=>W.looks_mroIn (M:=Mo) I3.kIn M.bs;obtain⟨o,ho,hc,hdat⟩:∃o:Obj,hp.get? ea=some o/\o.cls = .ref C/\o.data=W.xdata (.ref t0):=⟨_,ho,rfl,rfl⟩
 repeat (first|(with_reducible refine wpAny_loadPart_at ho ?_;rw[hc])|with_reducible refine Lb.at ?_|wp_step)
 obtain⟨dd0,cd0,sl0,hK,_,_⟩:=M.cls;have hD:=I3.kIn _ _ hK
 repeat (first|exact wpAny_raiseNew_none hh hE|with_reducible refine wpAny_loadPart_at hD ?_|(with_reducible refine wpAny_loadPart_at ho ?_;rw[hc])|with_reducible refine Lb.at ?_|(with_reducible rw[hdat])|wp_step)
end
theorem Fun.okG {P:Program}{w:World}{K:W.Frag}{mg:Str->Option Value}{base:Heap}{x qual:Str}{st:Stmt}{f:Addr}{fd:FuncData}{N ps:List Str}{k:Nat}{sp:Sp}(F:Fun K x qual st f fd) (S:zAQ N ps (zAH st)) (len:∀vs H Q E,sp vs H Q E->vs.length=ps.length)
  (hbody:∀(cdv:Value) (A:Around) (outer:List Env) (s:Shared) (H:Hp) (vs:List V) (Q:VK) (E:XK),Room k (A.deeper (envOfC qual (zAH st) s.heap.objs.size f cdv))->sp vs H Q E ->
   ∃t,PSs (cxOf (CXG P w) P w K mg base N qual (zAH st) f cdv A outer s H E) (zAx st) t/\t { nx:=λ Ω H'=>Q .non H',rt:=Q } (start N vs) H):FnOk P w K mg base (CXG P w) (k+1) f fd ps sp:=by
 obtain⟨oc,od,kV,doc,pm,an,cdv,ct,osl,rfl,lk,hcd⟩:=F.ex;exact fn_of lk hcd S len λ A outer s H vs Q E hr hsp=>hbody cdv A outer s H vs Q E hr hsp
structure FnG (P:Program) (w:World) (K:W.Frag) (mg:Str->Option Value) (base:Heap) (k:Nat) (x:Str) (f:Addr) (fd:FuncData) (ps:List Str) (sp:Sp):Prop where
 ok:FnOk P w K mg base (CXG P w) k f fd ps sp
 bd:Binds K fd ps []
 kp:W.keepIn K (.ref f)=true
 gl:mg x=some (.ref f)
theorem FnG.up {P:Program}{w:World}{K:W.Frag}{mg:Str->Option Value}{base:Heap}{j k:Nat}{x:Str}{f:Addr}{fd:FuncData}{ps:List Str}{sp:Sp}(F:FnG P w K mg base j x f fd ps sp) (h:j<=k):FnG P w K mg base k x f fd ps sp :=
 ⟨F.ok.mono h,F.bd,F.kp,F.gl⟩
abbrev HRG:=Ends->Addr->Option Addr->St->Hp->Prop
def zMm (P:Program) (w:World) (K:W.Frag) (mg:Str->Option Value) (base:Heap) (k:Nat) (tn:TE) (t:TA):TE:=λ σ H Q=>tn σ H λ x H1=>∃(f:Addr) (fd:FuncData) (ps:List Str) (sp:Sp),x = .ref f/\FnOk P w K mg base CX0 k f fd ps sp/\Binds K fd ps []/\W.keepIn K (.ref f)=true/\t σ H1 λ vs H2=>sp vs H2 Q E0
theorem zKD {X:Cx}{x:Str}{p pos:Pos}{tn:TE}{t:TA}{e:Expr}{es:List Expr}{k:Nat}(hn:PE X (.Name x p) tn) (hr:Room k X.A) (ha:PA X (e::es) t) (he:starEach (e::es) X.env=(false,eval e X.env)::starEach es X.env:=by rfl) (hpl:(backTo pos (starEach es X.env)).any (·.1)=false:=by rfl) :
  PE X (.Call (.Name x p) (e::es) [] pos) (zMm X.prog X.w X.K X.mg X.base k tn t):=by
 intro jP s σ H Q I h;refine wpAny_Call_Name_kw (thn (hn jP s σ H _ I h) λ u s1 ⟨y,H1,I1,ry,f,fd,ps,sp,ey,F,hb,hk,q⟩=>?_);subst ey;obtain rfl:u=Value.ref f:=ry;refine W.callWith_K (h₀:=X.base) I.ok.mod.kin hk (thn (ha pos jP s1 σ H1 _ I1 q) λ us s2 ⟨vs,H2,I2,r,q2⟩=>⟨I2.kIn,?_⟩) he hpl;exact zK5 (dvs:=[]) F hr hb .nil pass0 I2 r (by rw[nT];exact q2)
abbrev RP:=Tr->Tr->List (Str × Str)->Prop
inductive Due (t u:Tr) (ks:List (Str × Str)):List (Str × RP)->Option Str->Prop
 |nil:Due t u ks [] none
 |yes {w:Str}{R:RP}{L:List (Str × RP)}:R t u ks->Due t u ks ((w,R)::L) (some w)
 |no {w:Str}{R:RP}{L:List (Str × RP)}{r:Option Str}:¬R t u ks->Due t u ks L r->Due t u ks ((w,R)::L) r
noncomputable def rLeaf:RP:=λ t Ω Ω=>t.kd.leaf=true
noncomputable def zHE:RP:=λ t u Ω=>¬(letN t).Nodup\/¬(letN u).Nodup
noncomputable def rFree:RP:=λ t u Ω=>t.fv []≠[]\/u.fv []≠[]
noncomputable def rTold:RP:=λ t u ks=>(∃x∈t.subs,noPcT x)\/zJn (gcnt t) (gcnt t++gcnt u)\/∃g∈u.subs.filter isGap,badP ks g
noncomputable def rGap:RP:=λ t u Ω=>∃g∈(gcnt u).map (·.1),g∉(gcnt t).map (·.1)
noncomputable def rKind:RP:=λ t Ω ks=>∃k∈ks,badK (gcnt t) k
noncomputable def rLoud:RP:=λ t u Ω=>loudT u/\¬loudT t
noncomputable def zAt:List (Str × RP):=[("leaf", rLeaf),("twice", zHE),("free", rFree),("told", rTold),("gap", rGap),("kind", rKind),("loud", rLoud)]
theorem zIZ {α β:Type}{R:α->β->Prop}{as:List α}{bs:List β}{i:Nat}{a:α}(h:Paired R as bs):as[i]?=some a->∃b,bs[i]?=some b/\R a b:=by
 induction h generalizing i with
 |nil=>exact λ e=>nomatch e
 |cons h t ih=>cases i with
  |zero=>exact λ e=>⟨_,rfl,by cases e;exact h⟩
  |succ i=>exact λ e=>ih (i:=i) (by simpa using e)
theorem zIY {α β:Type}{R:α->β->Prop}{as:List α}{bs:List β}(h:Paired R as bs):as.length=bs.length:=by
 induction h with
 |nil=>rfl
 |cons _ t ih=>exact congrArg (·+1) ih
def TupK (K:W.Frag) (a:Addr) (xs:List V):Prop:=∃(o:Obj) (its:Array Value) (n:Nat),K.lookup a=some o/\o.cls = .type "tuple" /\ o.data = .seq its n/\its.size<=sizeLine/\Vals xs its.toList
theorem TupK.sq {K:W.Frag}{H:Hp}{a:Addr}{xs:List V}(h:TupK K a xs):SqT K H a xs:=.inr h
open PySem.Calls PySem.W
def rNotN (P:Program) (w:World):R2:=λ x y H Q=>∃(a:Addr) (k:Dt) (kvs:List (Dt × V)),y = .ref a/\DicE P w H a kvs/\KyN H x k/\Q (.bl (!(valV kvs k).isSome)) H
theorem zIn {X:Cx}(hu:X.A.units+150<cLine):OpR X (compareOp .NotIn) (rNotN X.prog X.w):=by
 intro jP s σ H x y v u Q I rx ry h;obtain⟨a,k,kvs,rfl,d,⟨b,rfl,hk,hd⟩,q⟩:=h;cases ry;cases rx;obtain⟨raw,hs,⟨xs,rfl,rel⟩,dd,_⟩:=e_raw I d;refine wpAny_notIn_heap (zGp (by omega)) (n_is I hk hd) hs dd ?_;have e:=(rel.val k).isSome_eq;rw[Option.isSome_map] at e;rw[←e];exact⟨.bl _,H,I.tok _,rfl,q⟩
noncomputable def Itn (P:Program) (w:World) (o:Obj) (a:Addr) (xs:XN):It :=
 ⟨λ i H=>H a=some (.frz o (dN P w a xs))/\i<xs.length,λ i H x H'=>H'=H/\∃p,xs[i]?=some p/\x = .ref p.2.1,λ i H=>H a=some (.frz o (dN P w a xs))/\xs.length<=i⟩
theorem zMF {xs:XN}{raw:List (Dt × Addr × Value)}(rel:KTN xs raw) {i:Nat}{p:Dt × Addr × V}(hp:xs[i]?=some p):∃q,raw[i]?=some q/\p.1=q.1/\p.2.1=q.2.1/\RelV p.2.2 q.2.2:=by
 induction rel generalizing i with
 |nil=>simp at hp
 | @cons p' q' ps qs h t ih =>
  cases i with
  |zero=>simp at hp;subst hp;exact⟨q',rfl,h⟩
  |succ i=>exact ih (i:=i) (by simpa using hp)
theorem zJK {X:Cx}{jP:List (Addr × Obj)}{σ:L2.St}{H:Hp}{s:Shared}{a:Addr}{o:Obj}{xs:XN}{es:Array DictEntry}{ep:Nat}(I:Inv X jP σ H s) (ha:H a=some (.frz o (dN X.prog X.w a xs))) (hd:o.data = .dict es ep) :
  (a == sysModules)=false/\zBW s.heap a es ep/\es.size=xs.length/\∀(i:Nat) (p:Dt × Addr × V),xs[i]?=some p->∃e:DictEntry,es[i]?=some e/\e.key=Value.ref p.2.1:=by
 obtain⟨e,⟨hs,raw,rel,o',es',ep',h1,c1,d1,l1,nd⟩,_⟩:=(show ObjOk X.prog X.w H s.heap a (.frz o (dN X.prog X.w a xs)) from I.hok a _ ha);rw[e] at h1;cases h1;rw[hd] at d1;cases d1;have hl:=Paired.length rel
 have hz:es.size=raw.length:=by
  have:=congrArg List.length l1;simpa using this
 refine⟨hs,⟨o,e,c1,hd⟩,by omega,λ i p hp=>?_⟩;obtain⟨q,hq,r1,r2,_⟩:=zMF rel hp;have h2:es.toList[i]?=some (entryOfKey (zCF X.prog X.w) q):=by rw[l1,mJ,hq];rfl
 refine⟨_,by rw[←nJ];exact h2,?_⟩;show Value.ref q.2.1=_;rw[r2]
theorem zMd {P:Program}{w:World}{K:W.Frag}{tg:Expr}(a it:Addr) (o:Obj) (xs:XN):Turn P w K tg (Itn P w o a xs) [it] it (λ i h=>∃es ep,o.data = .dict es ep/\h.IsKeyIter it a i es.size ep) where
 mem:=by simp
 obj:=λ i h st b hb=>by
  have e:b=it:=by simpa using hb
  subst e;obtain⟨_,_,_,ob,e,c,d⟩:=st;exact⟨ob,e,λ v z=>by rw[d] at z;cases z⟩
 keep:=λ i h h' st k=>by
  obtain⟨es,ep,hd,ob,e,r⟩:=st;exact⟨es,ep,hd,ob,k it (by simp) ob e,r⟩
 item:=by
  intro X hP hw hK hc i jP s σ H E I hf st hg;subst hP hw hK;obtain⟨ha,hi⟩:=hg;obtain⟨es,ep,hd,hit⟩:=st;obtain⟨hs,hm,hz,hk⟩:=zJK I ha hd;obtain⟨ent,hent,hkey⟩:=hk i _ (lW hi);have hi2:i<es.size:=by omega
  obtain⟨f0,f1,f2,f3,f4,f5⟩:=hf it (by simp);refine zLa hit hm hi2 λ h' hit' sb=>?_;have I1:Inv X jP σ H { s with heap:=h' }:=I.turned (t':=s.toks) (λ b o hb e=>(sb.2 b hb).trans e) f0 f1 f3 f4 f5;obtain⟨ob,e,c,d⟩:=id hit'
  have ek:es[i].key = .ref (xs[i]).2.1:=by
   rw[Array.getElem?_eq_getElem hi2] at hent;cases hent;exact hkey
  rw[ek];exact⟨_,rfl,go_of (s:={ s with heap:=h' }) e c d (by decide) ⟨.ref (xs[i]).2.1,H,I1,rfl,⟨rfl,_,lW hi,rfl⟩,⟨es,ep,hd,hit'⟩,λ b hb=>(hf b hb).1⟩⟩
 done:=by
  intro X hP hw hK hc i jP s σ H E I hf st hg;subst hP hw hK;obtain⟨ha,hi⟩:=hg;obtain⟨es,ep,hd,hit⟩:=st;obtain⟨hs,hm,hz,hk⟩:=zJK I ha hd;obtain⟨f0,f1,f2,f3,f4,f5⟩:=hf it (by simp);exact zMp (I.ok.hd hc) hit hm (by omega) λ h' eb=>⟨rfl,I.turned (t':=s.toks) (λ b o hb e=>eb b o hb e) f0 f1 f3 f4 f5⟩
 self:=λ A i s Q E st h=>by
  obtain⟨es,ep,hd,hit⟩:=st;refine wpAny_pyIter_slot hit.typeIs F.slot_dict_keyiterator_iter (wpAny_call_entry F.slot_dict_keyiterator_iter hit.typeIs F.entry_dict_keyiterator_iter ?_ (F.args_dict_keyiterator_iter_1 _));show wpAny _ _ (ret (.ref it)) _ _ s;exact lB ⟨_,rfl, "dict_keyiterator", _,hit.typeIs,F.slot_dict_keyiterator_next.lookup,h⟩
def zNT (P:Program) (w:World) (tl:TE):TI:=λ σ H R=>tl σ H λ x H1=>∃a,x = .ref a/\((∃xs,H1 a=some (dN P w a xs)/\∀o,R (Itn P w o a xs) (upd H1 a (.frz o (dN P w a xs))))\/(H1 a=some (.dK [])/\∀o,R (Itd o a []) (upd H1 a (.frz o (.dK [])))))
theorem zJ7 {X:Cx}{tg l:Expr}{tl:TE}(hl:PE X l tl):PI X tg l (zNT X.prog X.w tl):=by
 intro jP s σ H R I h;refine thn (hl jP s σ H _ I h) λ v s1 ⟨x,H1,I1,r1,q1⟩=>?_;obtain⟨a,e,q⟩:=q1;subst e;cases r1;rcases q with ⟨xs,ha,q⟩|⟨ha,q⟩
 ·obtain⟨⟨hs,raw,rel,o,es,ep,h1,c1,d1,l1,nd⟩,ex,_⟩:=(show ObjOk X.prog X.w H1 s1.heap a (dN X.prog X.w a xs) from I1.hok a _ ha)
  have lt:=lI h1;refine zLb hs ⟨o,h1,c1,d1⟩ ?_;refine⟨s1.heap.objs.size,[s1.heap.objs.size],_,_,upd H1 a (.frz o (dN X.prog X.w a xs)),rfl,I1.write (t':=s1.toks) (x:=a) (e:=a) (by rw[ha];exact True.intro) (.inl rfl) (λ b o Ω e=>lG _ e) ⟨o,lG _ h1⟩ ?_,zMd a _ o xs,⟨es,ep,d1,_,lH _ rfl,rfl,rfl⟩,λ b hb=>?_,q o⟩
  ·exact⟨lG _ h1,zJb ⟨hs,raw,rel,o,es,ep,lG _ h1,c1,d1,l1,nd⟩⟩
  ·have e:b=s1.heap.objs.size:=by simpa using hb
   subst e;exact I1.fpOk (lQ _) (by rw[zAK (Nat.ne_of_gt lt)];exact I1.hok.fresh (lQ _))
 ·obtain⟨z,sy,vs,r,o,es',ep',e,c1,d1,rest⟩:=(show ObjOk X.prog X.w H1 s1.heap a (.dK []) from I1.hok a _ ha)
  refine wpAny_pyIter_dict (knd:=zAc X.prog X.w) (kvs:=vs) (ep:=ep') sy ⟨o,es',e,c1,d1,rest⟩ ?_;have lt:=lI e;refine⟨s1.heap.objs.size,[s1.heap.objs.size],_,_,upd H1 a (.frz o (.dK [])),rfl,I1.write (t':=s1.toks) (x:=a) (e:=a) (by rw[ha];exact True.intro) (.inl rfl) (λ b o Ω e=>lG _ e) ⟨o,lG _ e⟩ ?_,zDn a _ o [],⟨es',ep',d1,_,lH _ rfl,rfl,by rw[Paired.length r];rfl⟩,λ b hb=>?_,q o⟩
  ·exact⟨lG _ e,z,sy,vs,r,o,es',ep',lG _ e,c1,d1,rest⟩
  ·have e:b=s1.heap.objs.size:=by simpa using hb
   subst e;exact I1.fpOk (lQ _) (by rw[zAK (Nat.ne_of_gt lt)];exact I1.hok.fresh (lQ _))
theorem zH6 {P:Program}{w:World}{o:Obj}{a:Addr}{xs:XN}{acc:Addr}{g:TG}{tt:TT}{te:TE}{σ:L2.St}{H:Hp}{R:Hp->Prop}(Pv:Nat->Hp->Prop) (h0:Pv 0 (upd H acc (.lst []))) (hl:∀i H,i<=xs.length->Pv i H->H a=some (.frz o (dN P w a xs)))
  (hs:∀i p H,xs[i]?=some p->Pv i H->g (.ref p.2.1) σ H λ σ2 H4=>Ext σ σ2/\tt σ2 H4 λ b H5 =>
   if b=true then te σ2 H5 λ y H6=>∃zs,H6 acc=some (.lst zs)/\zs.length<sizeLine/\Pv (i+1) (upd H6 acc (.lst (zs++[y]))) else Pv (i+1) H5) (hd:∀H,Pv xs.length H->R H) :
  ∃W:Nat->Nat->Hp->Prop,(∃m,W 0 m (upd H acc (.lst [])))/\∀i m H2,W i m H2 ->
   ((Itn P w o a xs).stop i H2/\R H2)\/((Itn P w o a xs).go i H2/\∃N:Hp->Prop,(∀H',N H'->∃m',m'<m/\W (i+1) m' H')/\∀x H3,(Itn P w o a xs).yld i H2 x H3->g x σ H3 λ σ2 H4=>Ext σ σ2/\tt σ2 H4 λ b H5 =>
    if b=true then te σ2 H5 λ y H6=>∃zs,H6 acc=some (.lst zs)/\zs.length<sizeLine/\N (upd H6 acc (.lst (zs++[y])))
    else N H5):=by
 refine⟨λ i m H=>m=xs.length - i/\i<=xs.length/\Pv i H,⟨xs.length,by simp,lY _,h0⟩,?_⟩;rintro i m H2 ⟨rfl,hi,p⟩;have q:=hl i H2 hi p
 by_cases hlt:i<xs.length
 ·refine .inr ⟨⟨q,hlt⟩,Pv (i+1),λ H' p'=>⟨xs.length - (i+1),by omega,rfl,hlt,p'⟩,λ x H' y=>?_⟩
  obtain⟨e,p',hp',ex⟩:=y;subst e ex;exact hs i p' _ hp' p
 ·have e:i=xs.length:=by omega
  subst e;exact .inl ⟨⟨q,lQ _⟩,hd H2 p⟩
end L2
namespace PySem
open PySem.Builtin PyProof.Rows
section
variable {prog:Program}{w:World}{A:Around}{E:XQ}{s:Shared}{d it:Addr}{es:Array DictEntry}{ep i:Nat}
abbrev zMa (d:Addr) (n ep:Nat):Obj:={ cls:=.type "dict_valueiterator", data:=.fields #[.ref d,.int 0 0,.int n 0,.int ep 0] }
theorem zJz {Q:Option Value->Shared->Prop}(hit:s.heap.IsValIter it d i es.size ep) (hm:zBW s.heap d es ep) (hi:i<es.size)
  (hQ:∀h',h'.IsValIter it d (i+1) es.size ep->Heap.SameBut it s.heap h'->Q (some es[i].val) { s with heap:=h' }):wpAny (model prog w) A (pyNext (.ref it)) Q E s:=by
 obtain⟨o,ho,hc,hd⟩:=id hit;obtain⟨od,hod,hcd,hdd⟩:=id hm;unfold pyNext;refine lA (wpAny_attempt (wpAny_callSpecial?_slot (name:=Str.ofString "__next__") hit.typeIs F.slot_dict_valueiterator_next (wpAny_call_entry F.slot_dict_valueiterator_next hit.typeIs F.entry_dict_valueiterator_next ?_ (F.args_dict_valueiterator_next_1 _))));refine lA (lB (lA (lA ?_)))
 first|refine lA (wpAny_typeNameOfWhole_valiter hit.typeIs (lB (lA (wpAny_fieldsOf ho hd ?_))))|refine lA (wpAny_typeNameOf_valiter hit.typeIs (lB (lA (wpAny_fieldsOf ho hd ?_))))
 simp only[show Builtin.Dict_items.ownsTuple "dict_valueiterator" = false by decide,Bool.false_eq_true,if_false];show wpAny _ _ (if (Value.ref d == Value.none)=true then _ else _) _ _ s;rw[if_neg (show ¬((Value.ref d == Value.none)=true) from Bool.false_ne_true)];refine lA (lB (lA (wpAny_dictEntries hod hdd ?_)));rw[if_neg (by simp)];refine lA (lB (lA (wpAny_dictEpoch hod hdd ?_)));rw[if_neg (by simp)];refine lB ?_;simp only[show ¬((i:Int)<0) from by omega,if_false,Int.toNat_natCast,Array.getElem?_eq_getElem hi];refine lA ?_
 first|refine lA (wpAny_typeNameOfWhole_valiter hit.typeIs (lB (lA (wpAny_isOneOf_valiter hit.typeIs ?_))))|refine lA (wpAny_typeNameOf_valiter hit.typeIs (lB (lA (wpAny_isOneOf_valiter hit.typeIs ?_))))
 show wpAny _ _ (setField (.ref it) 1 (rawInt ((i:Int)+1)) >>= _) _ _ s;refine lA (wpAny_setField ho hd (by simp) ?_);have hit':(s.heap.update it (Obj.mapFields (·.setIfInBounds 1 (rawInt ((i:Int)+1))))).IsValIter it d (i+1) es.size ep:=⟨_,mI _ ho (Obj.isFreed_of_fields (Obj.data_mapFields hd _)),(Obj.cls_mapFields ..).trans hc,by rw[Obj.data_mapFields hd];simp[rawInt]⟩;refine lA (lE (lA (wpAny_isOneOf_valiter (s:={ s with heap:=s.heap.update it (Obj.mapFields (·.setIfInBounds 1 (rawInt ((i:Int)+1)))) }) hit'.typeIs ?_)));rw[if_neg (by decide)];refine lA (wpAny_isOneOf_valiter (s:={ s with heap:=s.heap.update it (Obj.mapFields (·.setIfInBounds 1 (rawInt ((i:Int)+1)))) }) hit'.typeIs ?_);show wpAny _ _ (pure es[i].val) _ _ _;exact lB (lB ⟨_,rfl,lB (hQ _ hit' (Heap.SameBut.update ..))⟩)
theorem zLZ {Q:Option Value->Shared->Prop}(hh:A.handled=none) (hit:s.heap.IsValIter it d i es.size ep) (hm:zBW s.heap d es ep) (hi:es.size<=i)
  (hQ:∀h',Heap.ExtBut it s.heap h'->Q none { s with heap:=h' }):wpAny (model prog w) A (pyNext (.ref it)) Q E s:=by
 obtain⟨o,ho,hc,hd⟩:=id hit;obtain⟨od,hod,hcd,hdd⟩:=id hm;unfold pyNext;refine lA (wpAny_attempt (wpAny_callSpecial?_slot (name:=Str.ofString "__next__") hit.typeIs F.slot_dict_valueiterator_next (wpAny_call_entry F.slot_dict_valueiterator_next hit.typeIs F.entry_dict_valueiterator_next ?_ (F.args_dict_valueiterator_next_1 _))));refine lA (lB (lA (lA ?_)))
 first|refine lA (wpAny_typeNameOfWhole_valiter hit.typeIs (lB (lA (wpAny_fieldsOf ho hd ?_))))|refine lA (wpAny_typeNameOf_valiter hit.typeIs (lB (lA (wpAny_fieldsOf ho hd ?_))))
 simp only[show Builtin.Dict_items.ownsTuple "dict_valueiterator" = false by decide,Bool.false_eq_true,if_false];show wpAny _ _ (if (Value.ref d == Value.none)=true then _ else _) _ _ s;rw[if_neg (show ¬((Value.ref d == Value.none)=true) from Bool.false_ne_true)];refine lA (lB (lA (wpAny_dictEntries hod hdd ?_)));rw[if_neg (by simp)];refine lA (lB (lA (wpAny_dictEpoch hod hdd ?_)));rw[if_neg (by simp)];refine lB ?_;simp only[show ¬((i:Int)<0) from by omega,if_false,Int.toNat_natCast,Array.getElem?_eq_none hi];refine lA ?_
 first|refine lA (wpAny_typeNameOfWhole_valiter hit.typeIs (lB ?_))|refine lA (wpAny_typeNameOf_valiter hit.typeIs (lB ?_))|skip
 show wpAny _ _ (setField (.ref it) 0 .none >>= _) _ _ s;refine lA (wpAny_setField ho hd (by simp) ?_);show wpAny _ _ (newExc (.type "StopIteration") [] >>= _) _ _ _;refine lA ?_;simp only[newExc,newTuple];refine lA (wpAny_newObj_type ?_ (by size_fits));refine lA (m:=firstArgMember _ _) (wpAny_of_eq (a:=Value.none) (by first|rfl|(simp only[firstArgMember];rfl)) (wpAny_newObj_type ?_ (by size_fits)));simp only[raiseNew];refine lA (wpAny_handled ?_);rw[show A.in1.handled=none from hh];refine lA (lB (wpAny_throw ?_));refine lA (wpAny_isInstance (T := "StopIteration") (b:=true) ⟨_,lH _ rfl,rfl⟩ isSubtype_stop ?_);exact lB (hQ _ (((Heap.SameBut.update ..).extBut.push _).push _))
theorem zIB (hh:A.handled=none) (I d:Addr) (hne:d≠I) (es:Array DictEntry) (ep:Nat) :
  Walks prog w A I [I,d] [I] es.size (λ i v=>∃e,es[i]?=some e/\v=e.val) (λ i h=>h.IsValIter I d i es.size ep/\zBW h d es ep) where
 sub:=λ b hb=>by simp at hb;simp[hb]
 frame:=λ Ω Ω Ω st hk=>⟨st.1.at λ o e=>hk I (by simp) o e,st.2.at λ o e=>hk d (by simp) o e⟩
 item:=λ i s Q E hi st hQ=>zJz st.1 st.2 hi λ h' hit' hs'=>hQ _ h' s.toks ⟨es[i],by simp[hi],rfl⟩ ⟨hit',st.2.at λ o e=>hs'.extBut d o hne e⟩ λ b o hb e=>hs'.extBut b o (λ h=>hb (by simp[h])) e
 done:=λ s Q E st hQ=>zLZ hh st.1 st.2 (lQ _) λ h' he'=>hQ h' s.toks λ b o hb e=>he' b o (λ h=>hb (by simp[h])) e
 self:=λ Ω Ω Ω Ω st hQ=>wpAny_pyIter_valiter st.1 hQ
end
end PySem
namespace PySem.W
open PySem
section
variable {prog:Program}{w:World}{d r:Addr}{es:Array DictEntry}{ep:Nat}
theorem zGQ {A:Around}{E:XQ}{s:Shared}{v:Addr}{Q:XQ}(hv:s.heap.IsValuesView v d) (hm:zBW s.heap d es ep) (hQ:Q (.ref s.heap.objs.size) { s with heap:=s.heap.push (zMa d es.size ep) }):wpAny (model prog w) A (pyIter (.ref v)) Q E s:=by
 obtain⟨ov,hov,hcv,hdv⟩:=id hv;obtain⟨o,ho,hc,hdat⟩:=id hm;refine wpAny_pyIter_slot hv.typeIs PySem.F.slot_dict_values_iter (wpAny_call_entry PySem.F.slot_dict_values_iter hv.typeIs PySem.F.entry_dict_values_iter ?_ (PySem.F.args_dict_values_iter_1 _));unfold Builtin.«dict_values.__iter__»;refine lA (lB (lA ?_));unfold Builtin.Dict_items.dictOf;refine lA (wpAny_field hov hdv (x:=.ref d) rfl (lB (lA ?_)));unfold Builtin.Dict_items.newIterator;refine lA (wpAny_dictEntries ho hdat (lA (wpAny_dictEpoch ho hdat ?_)));simp only[show Builtin.Dict_items.ownsTuple "dict_valueiterator" = false by decide,Bool.false_eq_true,if_false];refine wpAny_newObj_type (lB ⟨_,rfl, "dict_valueiterator", _,⟨_,lH _ rfl,rfl⟩,PySem.F.slot_dict_valueiterator_next.lookup,?_⟩);simpa[rawInt] using hQ
theorem zJw:KdlSrc prog w "dict_values" r d es.size (λ i v=>∃e,es[i]?=some e/\v=e.val) (λ h=>h.IsValuesView r d/\zBW h d es ep) where
 type:=λ Ω hm=>hm.1.typeIs
 there:=λ Ω hm=>⟨let ⟨_,ho,_⟩:=hm.1;lI ho,let ⟨_,ho,_⟩:=hm.2;lI ho⟩
 keep:=λ Ω Ω hm hk=>⟨let ⟨o,ho,x⟩:=hm.1;⟨o,hk r (.inl rfl) o ho,x⟩,hm.2.at λ o e=>hk d (.inr rfl) o e⟩
 notList:=by decide
 notTuple:=by decide
 hint:=λ Ω Ω Ω Ω hm hq=>kdl_hint_values hm.1.typeIs hq
 iter:=λ Ω Ω hh hm=>⟨_,_,(λ Ω Ω hq=>zGQ hm.1 hm.2 hq),zIB hh _ d (let ⟨o,ho,_⟩:=hm.2;lS (lI ho)) es ep,⟨⟨_,lH _ rfl,rfl,rfl⟩,hm.2.at λ o e=>lG _ e⟩⟩
end
end PySem.W
namespace L2
open PySem PySem.Calls PySem.Spec PyProof.Rows PySem.W
theorem zDm {H:Hp}{h:Heap}{P:Program}{w:World}(ok:HOk P w H h) {a:Addr}{kvs:List (Dt × V)}(d:DicE P w H a kvs):∃(es:Array DictEntry) (ep:Nat),(a == sysModules)=false/\zBW h a es ep/\es.size=kvs.length/\es.size<=1000/\∀acc:List Value,acc.length=es.size->(∀(j:Nat) (v:Value),acc[j]?=some v->∃e:DictEntry,es[j]?=some e/\v=e.val)->Vals (kvs.map (·.2)) acc:=by
 rcases d with d|⟨ea,rfl⟩
 rotate_left
 ·obtain⟨_,hs,vs,rel,o,es,ep,h1,h2,h3,_,h4,_⟩:=dk_of ok ea
  cases rel
  have e0:es.toList=[]:=by
   generalize es.toList=L at h4;cases h4;rfl
  have e1:es.size=0:=by rw[←Array.length_toList,e0];rfl
  exact⟨es,ep,hs,⟨o,h1,h2,h3⟩,e1,by omega,λ acc ha Ω=>by
   have:acc=[]:=nM.mp (by omega);subst this;exact .nil⟩
 obtain⟨xs,e,r,k,l⟩:=d;obtain⟨⟨hs,raw,rel,o,es,ep,h1,h2,h3,h4,h5⟩,hX⟩:=r.ok ok;clear hX;subst e;have hl:raw.length=xs.length:=(Paired.length rel).symm;have hes:es.size=raw.length:=by rw[←Array.length_toList,h4,mD]
 refine⟨es,ep,hs,⟨o,h1,h2,h3⟩,by rw[hes,hl];simp[prs],by omega,λ acc ha hj=>?_⟩
 have hk:acc=raw.map (λ q=>q.2.2):=by
  refine List.ext_getElem? λ j=>?_
  by_cases c:j<acc.length
  ·obtain⟨e,he,hv⟩:=hj j _ (lW c)
   rw[nQ c,hv,mJ];rw[←nJ,h4,mJ] at he;obtain⟨q,hq,rfl⟩:=lV.mp he;rw[hq];rfl
  ·rw[List.getElem?_eq_none (by omega),List.getElem?_eq_none (by rw[mD];omega)]
 rw[hk];clear hj hk h4 h5 l hl hes k r ha
 induction rel with
 |nil=>exact .nil
 | @cons p q ps qs hq t ih=>exact .cons hq.2.2 ih
section
variable {X:Cx}{o:Expr}{apos cpos:Pos}{td:TE}
theorem zF5 (d:Addr) (lo:(d == sysModules)=false):MeetsIn X.prog X.w (Builtin.«dict.values» ⟨[.ref d],[]⟩) (λ Ω R s=>(∃es ep,zBW s.heap d es ep) /\
   R (.ok (.ret (.ref s.heap.objs.size))) { s with heap:=s.heap.push { cls:=.type "dict_values", data:=.fields #[.ref d] } }) :=
 .of_wp λ A R s ⟨⟨es,ep,hm⟩,h⟩=>by
  refine lA ?_;unfold Builtin.Dict.noArgs;refine lA (wpAny_notOrdered_dict hm.typeIs ?_);(show wpAny _ _ (pure d) _ _ s);refine lB ?_;show wpAny _ _ (Builtin.Dict.showsAll d >>= _) _ _ s;unfold Builtin.Dict.showsAll;rw[if_neg (by rw[lo];exact lX)];exact lA (lB (lA (wpAny_newObj_type (lB ⟨_,rfl,h⟩))))
def zMi (P:Program) (w:World) (td:TE):TE:=λ σ H Q=>td σ H λ x H1=>∃(d:Addr) (kvs:List (Dt × V)),x = .ref d/\DicE P w H1 d kvs/\∀p,H1 p=none->Q (.ref p) (upd H1 p (viewO p d))
theorem zJ9 (ho:PE X o td) (hbase:attributeBase o "values" X.env (eval o X.env)=eval o X.env:=by rfl) (hline:(apos.endLine == cpos.line)=true:=by rfl):PE X (.Call (.Attribute o "values" apos) [] [] cpos) (zMi X.prog X.w td):=by
 intro jP s σ H Q I h;refine wpAny_Call_method0_late hbase hline (thn (ho jP s σ H _ I h) λ v s1 ⟨x,H1,I1,r1,d,kvs,ex,hd,q⟩=>?_);subst ex;obtain rfl:v=Value.ref d:=r1;obtain⟨es,ep,lo,hrw,_⟩:=zDm I1.hok hd;refine⟨"dict", "dict.values", rW,PySem.F.slot_dict_values,PySem.F.type_dict_values,hrw.typeIs,λ a e=>?_,Calls.callWith_builtin rfl (PySem.evalArgs_none ?_)⟩
 ·cases e
  obtain⟨ob,h1,h2,_⟩:=hrw;exact⟨ob,h1,h2.2.1⟩
 refine call_meetsIn PySem.F.slot_dict_values hrw.typeIs PySem.F.entry_dict_values (PySem.F.args_dict_values_1 _) (zF5 d lo) ⟨⟨es,ep,hrw⟩,?_⟩;refine⟨.ref s1.heap.objs.size,_,I1.laid (t':=s1.toks) (o:=viewO s1.heap.objs.size d) (λ b u e=>lG _ e) (lQ _) ?_,rfl,q _ (I1.hok.fresh (lQ _))⟩;exact⟨⟨_,lH _ rfl,rfl,rfl⟩,⟨_,lH _ rfl⟩,λ h1 h2 ⟨o,e,r⟩ k=>⟨o,k o e,r⟩⟩
def zMw (P:Program) (w:World):List V->Hp->VK->Prop:=λ xs H Q=>∃(p d:Addr) (kvs:List (Dt × V)),xs=[.ref p]/\H p=some (viewO p d)/\DicE P w H d kvs/\∀l,H l=none->Q (.ref l) (upd H l (.lst (kvs.map (·.2))))
theorem zH7 (hc:X.calm=true):CallR X (.type "list") (zMw X.prog X.w):=by
 intro jP s σ H xs us Q I r h;obtain⟨p,d,kvs,rfl,hp,hd,q⟩:=h;obtain⟨u,rfl,ru⟩:=vals1 r;cases ru;obtain⟨hview,_⟩:=(show ObjOk X.prog X.w H s.heap p (viewO p d) from I.hok p _ hp);obtain⟨es,ep,lo,hrw,hsz,hle,hvals⟩:=zDm I.hok hd;refine kdl_call (zJw (r:=p) (d:=d) (es:=es) (ep:=ep)) (I.ok.hd hc) ⟨hview,hrw⟩ (Nat.le_of_lt (zAN hle)) λ h' tk acc c hk hS hacc=>?_;have la:acc.toList.length=es.size:=by rw[Array.length_toList];exact hacc.1
 refine⟨.ref s.heap.objs.size,_,I.laid (t':=tk) hk (lQ _) (show ObjOk X.prog X.w _ h' _ (.lst (kvs.map (·.2))) from⟨by rw[mD,←hsz];exact Nat.le_of_lt (zAN hle),acc.toList,c,hvals acc.toList la λ j v hv=>hacc.2 j v (by rw[←nJ];exact hv),by rw[Array.toArray_toList];exact hS⟩),rfl,q _ (I.hok.fresh (lQ _))⟩
end
noncomputable def dtT:Tr->Dt
 |.num n=>.tup [.str "num", .int n]
 |.name x=>.tup [.str "name", .str x]
 |.ask x=>.tup [.str "ask", .str x]
 |.stop x=>.tup [.str "stop", .str x]
 |.gap g as=>.tup [.str "gap", .str g,.tup (as.map dtA)]
 |.say a=>.tup [.str "say", dtT a]
 |.bin o a b=>.tup [.str o.s,dtT a,dtT b]
 |.ite a b c=>.tup [.str "if", dtT a,dtT b,dtT c]
 |.lett x a b=>.tup [.str "let", .str x,dtT a,dtT b]
def Pln:Tr->Prop
 |.gap _ _=>False
 |.lett _ _ _=>False
 |.say a=>Pln a
 |.bin _ a b=>Pln a/\Pln b
 |.ite a b c=>Pln a/\Pln b/\Pln c
 |_=>True
theorem Pln.part {t p:Tr}(h:Pln t) (hp:p∈t.parts):Pln p:=by
 cases t with
 |say a=>rw[mR.mp hp];exact h
 |bin o a b =>
  rcases lN.mp hp with rfl|hp
  ·exact h.1
  ·rw[mR.mp hp];exact h.2
 |ite a b c =>
  rcases lN.mp hp with rfl|hp
  ·exact h.1
  ·rcases lN.mp hp with rfl|hp
   ·exact h.2.1
   ·rw[mR.mp hp];exact h.2.2
 |lett x a b=>exact h.elim
 |gap g as=>exact h.elim
 |_=>cases hp
theorem Pln.ng {t:Tr}(h:Pln t):¬t.kd = .gap:=by
 cases t with
 |gap g as=>exact h.elim
 |bin o a b=>cases o<;>exact λ z=>nomatch z
 |_=>exact λ z=>nomatch z
theorem Pln.nl {t:Tr}(h:Pln t):¬t.kd = .lett:=by
 cases t with
 |lett x a b=>exact h.elim
 |bin o a b=>cases o<;>exact λ z=>nomatch z
 |_=>exact λ z=>nomatch z
theorem Rep.drP {H:Hp}:∀{t:Tr}{v:V},Rep H t v->Pln t->DR H (dtT t) v
 |.num n,_,⟨a,e,h⟩,_=>e ▸ .tup h (.cons (.str _) (.cons (.int _) .nil))
 |.name n,_,⟨a,e,h⟩,_=>e ▸ .tup h (.cons (.str _) (.cons (.str _) .nil))
 |.ask n,_,⟨a,e,h⟩,_=>e ▸ .tup h (.cons (.str _) (.cons (.str _) .nil))
 |.stop n,_,⟨a,e,h⟩,_=>e ▸ .tup h (.cons (.str _) (.cons (.str _) .nil))
 |.gap g as,_,_,z=>z.elim
 |.say _,_,⟨a,u,e,h,r⟩,z=>e ▸ .tup h (.cons (.str _) (.cons (r.drP z) .nil))
 |.bin o _ _,_,⟨a,u,w,e,h,r,s⟩,z=>e ▸ .tup h (.cons (.str _) (.cons (r.drP z.1) (.cons (s.drP z.2) .nil)))
 |.ite _ _ _,_,⟨a,u,w,z',e,h,r,s,t⟩,z=>e ▸ .tup h (.cons (.str _) (.cons (r.drP z.1) (.cons (s.drP z.2.1) (.cons (t.drP z.2.2) .nil))))
 |.lett x _ _,_,_,z=>z.elim
theorem zDZ {s s':Str}{l l':List Dt}(h:Dt.tup (.str s::l)=Dt.tup (.str s'::l')):s=s'/\l=l':=by
 obtain⟨h1,h2⟩:=List.cons.inj (Dt.tup.inj h);exact⟨Dt.str.inj h1,h2⟩
theorem zFc (t:Tr):∃l,dtT t = .tup (.str t.kd.s::l):=by
 cases t with
 |bin o a b=>exact⟨_,by cases o<;>rfl⟩
 |_=>exact⟨_,rfl⟩
theorem dt_kd {t u:Tr}(h:dtT t=dtT u):t.kd=u.kd:=by
 obtain⟨l,e⟩:=zFc t;obtain⟨l',e'⟩:=zFc u;rw[e,e'] at h;exact Kd.eq_iff.mp (by rw[(zDZ h).1])
theorem zDa:∀(t u:Tr),Pln t->Pln u->dtT t=dtT u->t=u
 |.num n,u,_,_,h=>by
  have k:=dt_kd h;cases u with
  |num m=>have:=(zDZ h).2;simp at this;rw[this]
  |bin o a b=>cases o<;>cases k
  |_=>cases k
 |.name n,u,_,_,h=>by
  have k:=dt_kd h;cases u with
  |name m=>have:=(zDZ h).2;simp at this;rw[this]
  |bin o a b=>cases o<;>cases k
  |_=>cases k
 |.ask n,u,_,_,h=>by
  have k:=dt_kd h;cases u with
  |ask m=>have:=(zDZ h).2;simp at this;rw[this]
  |bin o a b=>cases o<;>cases k
  |_=>cases k
 |.stop n,u,_,_,h=>by
  have k:=dt_kd h;cases u with
  |stop m=>have:=(zDZ h).2;simp at this;rw[this]
  |bin o a b=>cases o<;>cases k
  |_=>cases k
 |.gap _ _,_,z,_,_=>z.elim
 |.lett _ _ _,_,z,_,_=>z.elim
 |.say a,u,pt,pu,h=>by
  have k:=dt_kd h;cases u with
  |say b=>have:=(zDZ h).2;simp at this;rw[zDa a b pt pu this]
  |bin o a b=>cases o<;>cases k
  |_=>cases k
 |.bin o a b,u,pt,pu,h=>by
  have k:=dt_kd h;cases u with
  |bin o' a' b' =>
   obtain⟨h1,h2⟩:=zDZ h;have e:o=o':=by cases o<;>cases o'<;>first|rfl|cases k
   simp at h2;rw[e,zDa a a' pt.1 pu.1 h2.1,zDa b b' pt.2 pu.2 h2.2]
  |_=>cases o<;>cases k
 |.ite a b c,u,pt,pu,h=>by
  have k:=dt_kd h;cases u with
  |ite a' b' c' =>
   have:=(zDZ h).2;simp at this;rw[zDa a a' pt.1 pu.1 this.1,zDa b b' pt.2.1 pu.2.1 this.2.1,zDa c c' pt.2.2 pu.2.2 this.2.2]
  |bin o a b=>cases o<;>cases k
  |_=>cases k
noncomputable def dpT:Tr->Nat
 |.say a=>dpT a+1
 |.bin _ a b=>max (dpT a) (dpT b)+1
 |.ite a b c=>max (dpT a) (max (dpT b) (dpT c))+1
 |.lett _ a b=>max (dpT a) (dpT b)+1
 |_=>1
theorem zBl:∀t:Tr,Pln t->(dtT t).deep<=dpT t
 |.num _,_=>by simp[dtT,dpT,Dt.deep,Dt.deeps]
 |.name _,_=>by simp[dtT,dpT,Dt.deep,Dt.deeps]
 |.ask _,_=>by simp[dtT,dpT,Dt.deep,Dt.deeps]
 |.stop _,_=>by simp[dtT,dpT,Dt.deep,Dt.deeps]
 |.gap _ _,z=>z.elim
 |.lett _ _ _,z=>z.elim
 |.say a,z=>by have:=zBl a z;simp only[dtT,dpT,Dt.deep,Dt.deeps];omega
 |.bin o a b,z=>by have:=zBl a z.1;have:=zBl b z.2;simp only[dtT,dpT,Dt.deep,Dt.deeps];omega
 |.ite a b c,z=>by have:=zBl a z.1;have:=zBl b z.2.1;have:=zBl c z.2.2;simp only[dtT,dpT,Dt.deep,Dt.deeps];omega
def Hal (t u:Tr):Prop:=t.kd=u.kd/\(t.kd.leaf=true->t=u)
def Let1 (t:Tr):Prop:=∃p∈t.subs,p.kd = .lett
def PrR (H:Hp) (q:Tr × Tr) (v:V):Prop:=∃p a b,v = .ref p/\H p=some (.tup [a,b])/\Rep H q.1 a/\Rep H q.2 b
theorem PrR.mono {H H':Hp}(k:Tk H H') {q:Tr × Tr}{v:V}:PrR H q v->PrR H' q v
 |⟨p,a,b,e,h,r,s⟩=>⟨p,a,b,e,k _ _ h,r.mono k,s.mono k⟩
def PrOk (ps:List (Tr × Tr)):Prop:=1<=ps.length/\ps.length<=8/\∀q∈ps,¬Let1 q.1/\¬Let1 q.2
def Beg (ts:List Tr):Prop:=∃t0,ts[0]?=some t0/\¬t0.kd = .name/\∀u∈ts,Hal t0 u
def RowR (H:Hp) (ts:List Tr) (v:V):Prop:=∃p us,v = .ref p/\H p=some (.tup us)/\Paired (Rep H) ts us
theorem RowR.mono {H H':Hp}(k:Tk H H') {ts:List Tr}{v:V}:RowR H ts v->RowR H' ts v
 |⟨p,us,e,h,r⟩=>⟨p,us,e,k _ _ h,Paired.mapP r λ Ω Ω z=>Rep.mono k z⟩
structure RowG (ts:List Tr):Prop where
 ne:1<=ts.length
 fw:ts.length<=10
 pl:∀t∈ts,Pln t
 dp:∀t∈ts,dpT t<=100
theorem zBC {α:Type}{F:α->V->Prop}{as:List α}{us:List V}{i:Nat}{a:α}(h:Paired F as us) (e:as[i]?=some a):∃u,us[i]?=some u/\F a u:=by
 have hl:=zAG h;have hi:i<us.length:=by have:=(lJ.mp e).1;omega
 obtain⟨a',ea,r⟩:=zAJ h (lW hi);rw[e] at ea;cases ea;exact⟨_,lW hi,r⟩
noncomputable def rowsW (ts:List Tr):List (List Tr):=(List.range ((ts[0]?.map λ t=>t.parts.length).getD 0)).map λ i=>ts.filterMap λ t=>t.parts[i]?
noncomputable def arK:Kd->Nat
 |.say=>1|.add=>2|.sub=>2|.mul=>2|.thn=>2|.ite=>3|.lett=>2
 |_=>0
theorem zHK (t:Tr):t.parts.length=arK t.kd:=by
 cases t with
 |bin o a b=>cases o<;>rfl
 |_=>rfl
theorem zGD {t u:Tr}(h:Hal t u):u.parts.length=t.parts.length:=by rw[zHK,zHK,h.1]
theorem zMB {M:Model}{A:Around}{E:XQ}{s:Shared}{scope:Scope}{globals:Addr}{cl:List (Str × Addr)}{qual:Str}{env:Env}{Q:Env->Shared->Prop}
  (hQ:∀h',h'.Ns s.heap.objs.size (λ Ω=>none)->(∀b o,s.heap.get? b=some o->h'.get? b=some o) ->
   h'=pushCells (s.heap.push { cls:=.type "dict", data:=.dict #[] }) scope.names ->
   Q (newEnv scope s.heap.objs.size globals (cellsFrom (s.heap.objs.size+1) scope.names cl) qual none .none (some env) builtinsNs) { s with heap:=h' }) :
  wpAny M A (newFunctionEnv scope globals cl [] qual none .none (some env)) Q E s:=by
 simp only[newFunctionEnv,Option.isSome_some,if_true];refine lA (wpAny_alloc ?_);refine lA (wpAny_layCells _ (λ name kind cells=>by cases hkc:kind == NameKind.cell<;>simp[hkc]) _ _ _ _ ?_);rw[show ({ s with heap:=s.heap.push { cls:=.type "dict", data:=.dict #[] } }:Shared).heap.objs.size=s.heap.objs.size+1 from Heap.size_push ..];exact lB (hQ _ ((Heap.Ns.new s.heap (.type "dict")).keeps (pushCells_keeps _ _)) (λ b o e=>pushCells_keeps _ _ b o (lG _ e)) rfl)
theorem zBR:∀(names:List (Str × NameKind)) (n:Nat) (acc:List (Str × Addr)) (h:Heap),
  cellsFrom n names acc=cellsFrom n (names.filter λ y=>y.2 == .cell) acc/\pushCells h names=pushCells h (names.filter λ y=>y.2 == .cell)
 |[],_,_,_=>⟨rfl,rfl⟩
 | (x,k)::r,n,acc,h=>by
  cases hk:k == NameKind.cell with
  |true =>
   rw[List.filter_cons_of_pos (by exact hk)];unfold cellsFrom pushCells;rw[if_pos hk,if_pos hk,if_pos hk,if_pos hk];exact⟨(zBR r _ _ h).1,(zBR r n acc _).2⟩
  |false =>
   rw[List.filter_cons_of_neg (by rw[hk];decide)];have a:=zBR r n acc h;constructor
   ·rw[←a.1];conv=>lhs;unfold cellsFrom
    rw[hk];rfl
   ·rw[←a.2];conv=>lhs;unfold pushCells
    rw[hk];rfl
theorem zMC {M:Model}{A:Around}{E:XQ}{s:Shared}{scope:Scope}{globals:Addr}{cl:List (Str × Addr)}{qual:Str}{env:Env}{Q:Env->Shared->Prop}{x:Str}
  (hx:(scope.names.filter λ y=>y.2 == .cell)=[(x,.cell)])
  (hQ:∀h',h'.Ns s.heap.objs.size (λ Ω=>none)->(∀b o,s.heap.get? b=some o->h'.get? b=some o)->h'.IsCell (s.heap.objs.size+1) none ->
   Q (newEnv scope s.heap.objs.size globals ((x,s.heap.objs.size+1)::cl) qual none .none (some env) builtinsNs) { s with heap:=h' }) :
  wpAny M A (newFunctionEnv scope globals cl [] qual none .none (some env)) Q E s:=by
 refine zMB λ h' a b c=>?_;rw[(zBR scope.names _ cl h').1,hx];refine hQ h' a b ?_;rw[c,(zBR scope.names 0 [] _).2,hx];have e:(s.heap.push { cls:=.type "dict", data:=.dict #[] }).objs.size=s.heap.objs.size+1:=Heap.size_push ..;exact⟨_,e▸lH _ rfl,rfl⟩
noncomputable def Cx.blockO (X:Cx) (x:Str) (sc:Scope) (cl:List (Str × Addr)) (N:List Str) (s:Shared) (H:Hp) (C:Addr) (ex:List Addr):Cx :=
 { X.block sc cl N s H C ex with env:=compEnvC sc ((x,C+1)::cl) C X.env,fn:=λ y=>y == x }
theorem zM5 {names:List (Str × NameKind)}{x y:Str}(hx:(names.filter λ y=>y.2 == .cell)=[(x,.cell)]) (h:(y,NameKind.cell)∈names):y=x:=by
 have m:(y,NameKind.cell)∈names.filter λ y=>y.2 == .cell:=List.mem_filter.mpr ⟨h,rfl⟩;rw[hx] at m;cases mR.mp m;rfl
set_option tactic.hygienic true in
theorem zD0 {sc:Scope}{env:Env}{x y:Str}{k:NameKind}(hk:k = .cell\/k = .free) (hx:(sc.names.filter λ y=>y.2 == .cell)=[(x,.cell)]) (h:(relabel sc env).names.lookup y=some k):y=x\/(y,NameKind.free)∈sc.names:=by
 have m:=zB2 h;obtain⟨⟨n,j⟩,hm,e⟩:=mC.mp m;have q:(if (j == NameKind.free && env.scope.kind == .function && env.kindOf n == some .cell)=true then (n,NameKind.cell) else (n,j))=(y,k):=e;split at q
 ·rename_i c
  rw[Bool.and_eq_true,Bool.and_eq_true] at c;have j':j = .free:=by simpa using c.1.1
  cases q;rw[j'] at hm;exact .inr hm
 ·cases q
  rcases hk with z|z
  ·rw[z] at hm;exact .inl (zM5 hx hm)
  ·rw[z] at hm;exact .inr hm
theorem zJl {X:Cx}{jP:List (Addr × Obj)}{σ:St}{H:Hp}{s:Shared}{sc:Scope}{cl:List (Str × Addr)}{N:List Str}{C:Addr}{fp:List Addr}{x:Str}(I:Inv X jP σ H s) (hk:sc.kind = .function) (hx:(sc.names.filter λ y=>y.2 == .cell)=[(x,.cell)])
  (hC:s.heap.objs.size<=C) (hf:∀b∈fp,FpOk X jP H b) (hfo:∀b∈fp,∃o,s.heap.get? b=some o) (c1:∀x c,cl.lookup x=some c->X.env.cells.lookup x=some c) (c2:∀n,(n,NameKind.free)∈sc.names->∃c,cl.lookup n=some c) :
  (X.blockO x sc cl N s H C fp).Ok:=by
 have lt:∀y c,cl.lookup y=some c->c<s.heap.objs.size:=λ y c e=>by
  obtain⟨v,o,ho,_⟩:=I.cell y c (c1 y c e);exact lI ho
 have two:∀y c,((x,C+1)::cl).lookup y=some c->(y=x/\c=C+1)\/cl.lookup y=some c:=λ y c e=>by
  rw[List.lookup_cons] at e;cases hy:y == x with
  |true=>rw[hy] at e;cases e;exact .inl ⟨eq_of_beq hy,rfl⟩
  |false=>rw[hy] at e;exact .inr e
 have no:∀y,cl.lookup y≠some (C+1):=λ y e=>absurd (lZ (lt y _ e) hC) (by omega)
 have ltb:∀b∈fp,b<s.heap.objs.size:=λ b hb=>by
  obtain⟨o,e⟩:=hfo b hb;exact lI e
 exact {
  mod:=I.ok.mod
  kind:=hk
  glob:=I.ok.glob
  blt:=I.ok.blt
  above:=hC
  inj:=λ y z c e e'=>by
   rcases two y c e with ⟨r1,r2⟩|r<;>rcases two z c e' with ⟨q1,q2⟩|q
   ·rw[r1,q1]
   ·rw[r2] at q;exact absurd q (no z)
   ·rw[q2] at r;exact absurd r (no y)
   ·exact I.ok.inj y z c (c1 y c r) (c1 z c q)
  has:=λ y h=>by
   have:y=x\/(y,NameKind.free)∈sc.names:=h.elim (zD0 (.inl rfl) hx) (zD0 (.inr rfl) hx);show ∃c,((x,C+1)::cl).lookup y=some c;rw[List.lookup_cons];cases hy:y == x with
   |true=>exact⟨_,rfl⟩
   |false =>
    rcases this with z|z
    ·rw[z] at hy;simp at hy
    ·exact c2 y z
  cab:=λ y c e e'=>by
   rcases two y c e' with ⟨_,r⟩|r
   ·rw[r];exact Nat.le_succ_of_le hC
   ·have:y=x:=eq_of_beq e
    have e2:((x,C+1)::cl).lookup y=some c:=e';rw[List.lookup_cons,show (y == x)=true from e] at e2;cases e2;exact Nat.le_succ_of_le hC
  hd:=I.ok.hd
  frames:=I.ok.frames
  stk:=.inl rfl
  exf:=λ b hb=>⟨λ z=>absurd (lZ (ltb b hb) hC) (by rw[z];exact Nat.lt_irrefl _),λ y c e=>by
   rcases two y c e with ⟨_,r⟩|r
   ·intro z
    have k:C+1<s.heap.objs.size:=(r.symm.trans z)▸ltb b hb;exact absurd (lZ k hC) (Nat.not_lt.mpr (nI C))
   ·exact(hf b hb).2.2.2.2.1 y c (c1 y c r)⟩
  bs:=I.bs
  bsz:=mG I.ok.bsz I.sz
  noex:=λ b o e hb=>by
   rcases (hf b hb).2.2.2.1 with z|z
   ·exact I.ok.noex b o e z
   ·exact absurd (lZ (lI (I.ok.bs b o e).1) z) (Nat.lt_irrefl _)
  exfs:=λ b hb hs=>by
   rcases lN.mp (I.stkSub b hs) with z|z
   ·exact(hf b hb).2.1 z
   ·exact(hf b hb).2.2.1 z
  funs:=I.stack
  frf:=I.stkFree }
theorem zKC {X:Cx}{elt tg iter:Expr}{ifs:List Expr}{sc:Scope}{pos:Pos}{wi:TI}{g:TG}{tt:TT}{te:TE}(xo:Str) (N:List Str) (cap:List (Option Nat)) (hc:X.calm=true) (hi:PI X tg iter wi)
  (hg:∀cl s H C ex,PG (X.blockO xo sc cl N s H C ex) tg g) (ht:∀cl s H C ex,PTs (X.blockO xo sc cl N s H C ex) ifs tt) (he:∀cl s H C ex,PE (X.blockO xo sc cl N s H C ex) elt te)
  (hk:sc.kind = .function) (hx:(sc.names.filter λ y=>y.2 == .cell)=[(xo,.cell)]) (hxo:sc.names.lookup xo=some .cell) (hnames:∀y∈sc.names,y.2 = .local->sc.names.lookup y.1=some .local)
  (hfree:∀n,(n,NameKind.free)∈sc.names->X.env.kindOf n=some .cell)
  (hcap:∀(i j:Nat),cap[i]?=some (some j)->∃x,N[i]?=some x/\X.N[j]?=some x/\sc.names.lookup x=some .free) (hlen:cap.length=N.length)
  (hs:∀x,foldedSetIterable iter X.env x=pure x:=by intro _;rfl):PE X (.ListComp elt [⟨tg,iter,ifs,0⟩] sc pos) (tComp cap wi g tt te):=by
 intro jP s σ H Q I h;obtain⟨cl,hclos,c1,c2⟩:=zDP (sc:=sc) (env:=X.env) λ n hn=>I.ok.has n (.inl (hfree n hn));rw[eval_ListComp];refine wpAny_comprehension_free (use:=none) rfl hs hclos hk hnames ?_;refine thn (hi jP s σ H _ I h) λ v s1 h1=>thn h1 λ itv s2 h2=>?_;obtain⟨it,fp,tn,J,H2,e,I2,T,st2,f2,q2⟩:=h2;subst e;have hfr:H2 s2.heap.objs.size=none:=I2.fresh;obtain⟨W,⟨m0,w0⟩,turn⟩:=q2 s2.heap.objs.size hfr;have I3:=I2.lnew (ys:=[]) (its:=[]) (t':=s2.toks) .nil (lY _);have hacc:H2 s2.heap.objs.size=none:=hfr;refine wpAny_newObj_type (zMC hx λ h4 hns up4' hoc=>?_);generalize hs3:({ s2 with heap:=s2.heap.push { cls:=.type "list", data:=.seq ([]:List Value).toArray } }:Shared)=s3 at hns up4' hoc I3 ⊢;have hheap:s3.heap=s2.heap.push { cls:=.type "list", data:=.seq ([]:List Value).toArray }:=by rw[←hs3]
 generalize hH3:upd H2 s2.heap.objs.size (.lst [])=H3 at I3 w0;have up2:∀b o,s2.heap.get? b=some o->s3.heap.get? b=some o:=λ b o q=>by rw[hheap];exact lG _ q
 have neA:∀b∈fp,b≠s2.heap.objs.size:=λ b hb=>by
  obtain⟨o,q,_⟩:=T.obj _ _ st2 b hb;exact lS (lI q)
 have f3:∀b∈fp,FpOk X jP H3 b:=λ b hb=>⟨by rw[←hH3,zAK (neA b hb)];exact(f2 b hb).1,(f2 b hb).2⟩
 have o3:∀b∈fp,∃o,s3.heap.get? b=some o:=λ b hb=>by
  obtain⟨o,q,_⟩:=T.obj _ _ st2 b hb;exact⟨o,up2 b o q⟩
 have ok':=zJl (N:=N) (C:=s3.heap.objs.size) I3 hk hx (lQ _) f3 o3 c1 c2;generalize hC:s3.heap.objs.size=C at hns hoc ok' ⊢;have ltC:∀b o,s3.heap.get? b=some o->b≠C:=λ b o q=>by rw[←hC];exact lS (lI q)
 have up4:∀b o,s3.heap.get? b=some o->h4.get? b=some o:=up4';have st4:tn 0 h4:=T.keep _ _ _ st2 λ b hb o q=>up4 b o (up2 b o q)
 have two:∀y c,((xo,C+1)::cl).lookup y=some c->(y=xo/\c=C+1)\/cl.lookup y=some c:=λ y c e=>by
  rw[List.lookup_cons] at e;cases hy:y == xo with
  |true=>rw[hy] at e;cases e;exact .inl ⟨eq_of_beq hy,rfl⟩
  |false=>rw[hy] at e;exact .inr e
 have I4:Inv (X.blockO xo sc cl N s3 H3 C fp) [] (capSt cap σ) H3 { s3 with heap:=h4 }:=by
  refine⟨ok',rfl,I3.bare,Un.kept up4,⟨_,hns,λ i x v e1 e2 e3=>?_⟩,λ x c q=>?_,?_,λ x c q=>(two x c q).elim (λ z=>by rw[z.2];exact I3.hok.fresh (by rw[hC];exact nI _)) (λ z=>I3.freeC x c (c1 x c z)),λ p hp=>(nomatch hp),I3.hok.kept up4,?_⟩
  ·have ee:∃j,cap[i]?=some (some j)/\σ[j]?=some (some v):=by
    unfold capSt at e2;rw[mJ] at e2;cases q:cap[i]? with
    |none=>rw[q] at e2;cases e2
    |some o =>
     rw[q] at e2;cases o with
     |none=>cases e2
     |some j =>
      refine⟨j,rfl,?_⟩;have e2':some ((σ[j]?).join)=some (some v):=e2;cases z:σ[j]? with
      |none=>rw[z] at e2';cases e2'
      |some o' =>
       rw[z] at e2';have e2'':o'=some v:=mE e2';rw[e2'']
   obtain⟨j,ej,es⟩:=ee;obtain⟨x',n1,n2,n3⟩:=hcap i j ej;have e1':N[i]?=some x:=e1;rw[n1] at e1';cases e1';have hfr':(x,NameKind.free)∈sc.names:=zB2 n3;have kc:=hfree x hfr'
   have nx:(x == xo)=false:=by
    cases z:x == xo with
    |false=>rfl
    |true=>rw[eq_of_beq z,hxo] at n3;cases n3
   obtain⟨m,_,hl⟩:=I3.loc;obtain⟨u,r,l⟩:=hl j x v n2 es (.inr (.inl kc));refine⟨u,r,?_⟩;rcases l with ⟨l,_⟩|⟨_,c,ec,z⟩
   ·rw[kc] at l;cases l
   ·obtain⟨c',ec'⟩:=c2 x hfr'
    have:=c1 x c' ec';rw[ec] at this;cases this;obtain⟨oc,q1,q2⟩:=z;exact .inr ⟨zAu (sc:=sc) n3,c,by show List.lookup x ((xo,C+1)::cl)=_;rw[List.lookup_cons,nx];exact ec',oc,up4 _ _ q1,q2⟩
  ·rcases two x c q with ⟨_,z⟩|z
   ·rw[z];exact⟨_,hoc⟩
   obtain⟨v,oc,q1,q2⟩:=I3.cell x c (c1 x c z);exact⟨v,oc,up4 _ _ q1,q2⟩
  ·exact I3.hok.fresh (by rw[hC];exact lQ _)
  ·show (capSt cap σ).length=N.length
   unfold capSt;rw[mD,hlen]
 have loop:codeAny (model X.prog X.w) X.A (.compLoop (.ListComp elt [⟨tg,iter,ifs,0⟩] sc pos) 0 (.ref it) (.ref s2.heap.objs.size) (compEnvC sc ((xo,C+1)::cl) C X.env)) (compPost (model X.prog X.w) X.A X.xe none (EP X jP σ Q) (.ref s2.heap.objs.size) C)
   { s3 with heap:=h4 }:=by
  have stat:∀{H':Hp},(∀b∈fp,H' b=none)->∀b∈fp,FpOk (X.blockO xo sc cl N s3 H3 C fp) [] H' b:=λ hn b hb =>
   ⟨hn b hb,(ok'.exf b hb).1,ok'.exfs b hb,.inl hb,(ok'.exf b hb).2,λ p hp=>(nomatch hp)⟩
  refine zEP (λ n s'=>∃i H',Inv (X.blockO xo sc cl N s3 H3 C fp) [] (capSt cap σ) H' s'/\tn i s'.heap/\(∀b∈fp,H' b=none)/\W i n H') ?_ m0 ⟨0,H3,I4,st4,λ b hb=>(f3 b hb).1,w0⟩;rintro n s5 ⟨i,H5,I5,st5,fr5,w5⟩;rcases turn i n H5 w5 with ⟨stop,qn⟩|⟨go,N',hN',step⟩
  ·refine thn (T.done (X.blockO xo sc cl N s3 H3 C fp) rfl rfl rfl hc i [] s5 _ H5 NoX I5 (stat fr5) st5 stop) λ r s6 ⟨hr,I6⟩=>?_
   subst hr;obtain⟨m,hm,_⟩:=I6.loc;refine⟨m,hm,λ h' sb=>⟨.ref s2.heap.objs.size,H5,?_,rfl,qn⟩⟩;refine I3.call' (s':={ s6 with heap:=h' }) (ch:=fp) I6.os (I6.base.but (by rw[←hC];exact lQ _) sb) (I6.hok.but I6.free sb) I6.bare λ b hb=>?_;obtain⟨g0,g1,g2,g3,g4,g5⟩:=f3 b hb;exact⟨g3,g1,g4,g5⟩
  ·refine thn (T.item (X.blockO xo sc cl N s3 H3 C fp) rfl rfl rfl hc i [] s5 _ H5 NoX I5 (stat fr5) st5 go) λ r s6 ⟨u,hr,h6⟩=>?_
   subst hr;refine thn h6 λ _ s7 ⟨x,H7,I7,r7,y7,st7,fr7⟩=>?_;have I7':=I7.pinned (stat fr7) (T.obj _ _ st7)
   have again:∀{σ8:St}{H8:Hp}{s8:Shared},Inv (X.blockO xo sc cl N s3 H3 C fp) ([]++zD4 fp s7.heap) σ8 H8 s8->Ext (capSt cap σ) σ8->N' H8 ->
     ∃m,m<n/\∃i H',Inv (X.blockO xo sc cl N s3 H3 C fp) [] (capSt cap σ) H' s8/\tn i s8.heap/\(∀b∈fp,H' b=none)/\W i m H':=λ{σ8 H8 s8} I8 ex n8=>by
    obtain⟨m',hm,w8⟩:=hN' H8 n8;have I8':=I8.unpinned.weak ex.len ex.get;refine⟨m',hm,i+1,H8,I8',T.keep _ _ _ st7 λ b hb o q=>(I8.pin (b,o) (mB _ (mB _ (zBF hb q)))).1,λ b hb=>?_,w8⟩;obtain⟨o,q,d⟩:=T.obj _ _ st7 b hb;exact(I8.pin (b,o) (mB _ (mB _ (zBF hb q)))).2.1
   refine thn (hg cl s3 H3 C fp _ s7 _ H7 x u _ I7' r7 (step x H7 y7)) λ _ s8 ⟨σ8,H8,I8,ex8,q8⟩=>?_;refine thn (ht cl s3 H3 C fp _ s8 σ8 H8 _ I8 q8) λ b s9 ⟨H9,I9,q9⟩=>?_;cases b with
   |false=>exact again I9 ex8 q9
   |true =>
    rw[if_pos rfl] at q9 ⊢;refine thn (he cl s3 H3 C fp _ s9 σ8 H9 _ I9 q9) λ yv s10 ⟨y,H10,I10,r10,zs,e10,l10,q10⟩=>?_;refine thn (zC3 (X:=X.blockO xo sc cl N s3 H3 C fp) _ s10 σ8 H10 (.ref s2.heap.objs.size) [y] (.ref s2.heap.objs.size) [yv] (λ Ω H'=>N' H') I10 rfl (.cons r10 .nil) ⟨_,zs,y,rfl,rfl,e10,l10,q10⟩) λ _ s11 ⟨_,H11,I11,_,q11⟩=>?_;exact again I11 ex8 q11
 exact codeAny_compStart_list loop (T.self X.A 0 _ _ _ st4 loop)
noncomputable def zJh (xo:Str) (sc:Scope) (env:Env) (XN N:List Str) (cap:List (Option Nat)):Bool :=
 (sc.kind == .function) && ((sc.names.filter λ y=>y.2 == .cell) == [(xo,.cell)]) && (sc.names.lookup xo == some .cell) && (sc.names.all λ y=>y.2 != .local || sc.names.lookup y.1 == some .local) &&
 (sc.names.all λ y=>y.2 != .free || env.kindOf y.1 == some .cell) &&
 ((List.range cap.length).all λ i=>match cap[i]? with
  |some (some j)=>(match N[i]? with|some x=>XN[j]? == some x && sc.names.lookup x == some .free|none=>false)
  |_=>true) && (cap.length == N.length)
theorem zIk {X:Cx}{elt tg iter:Expr}{ifs:List Expr}{sc:Scope}{pos:Pos}{wi:TI}{g:TG}{tt:TT}{te:TE}(xo:Str) (N:List Str) (cap:List (Option Nat)) (hc:X.calm=true) (hi:PI X tg iter wi)
  (hg:∀cl s H C ex,PG (X.blockO xo sc cl N s H C ex) tg g) (ht:∀cl s H C ex,PTs (X.blockO xo sc cl N s H C ex) ifs tt) (he:∀cl s H C ex,PE (X.blockO xo sc cl N s H C ex) elt te)
  (ck:zJh xo sc X.env X.N N cap=true) (hs:∀x,foldedSetIterable iter X.env x=pure x:=by intro _;rfl):PE X (.ListComp elt [⟨tg,iter,ifs,0⟩] sc pos) (tComp cap wi g tt te):=by
 unfold zJh at ck;simp only[Bool.and_eq_true] at ck;obtain⟨⟨⟨⟨⟨⟨k1,k2⟩,k2'⟩,k3⟩,k4⟩,k5⟩,k6⟩:=ck;refine zKC xo N cap hc hi hg ht he (by simpa using k1) (eq_of_beq k2) (eq_of_beq k2') (λ y hy z=>?_) (λ n hn=>?_) (λ i j e=>?_) (by simpa using k6) hs
 ·have:=List.all_eq_true.mp k3 y hy
  rw[z] at this;simpa using this
 ·have:=List.all_eq_true.mp k4 _ hn
  simpa using this
 ·have hi:i<cap.length:=(lJ.mp e).1
  have:=List.all_eq_true.mp k5 i (List.mem_range.mpr hi);rw[e] at this;dsimp only at this;cases q:N[i]? with
  |none=>rw[q] at this;cases this
  |some x =>
   rw[q] at this;dsimp only at this;rw[Bool.and_eq_true] at this;exact⟨x,rfl,by simpa using this.1,by simpa using this.2⟩
theorem zLo {X:Cx}{tg l:Expr}{tl:TE}(K:W.Frag) (hK:X.K=K) (hl:PE X l tl):PI X tg l (iTup K tl):=hK▸zCH hl
theorem zEf {X:Cx}(K:W.Frag) (hK:X.K=K):CallR X (.type "tuple") (λ xs H Q=>∃p ys,xs=[V.ref p]/\((SqL K H p ys/\∀l,H l=none->Q (.ref l) (upd H l (.tup ys)))\/SqT K H p ys/\Q (.ref p) H)):=by
 subst hK;exact zCG
theorem Rep.build {H:Hp}{t:Tr}{v:V}{ps:List Tr}(h:Rep H t v) (hl:ps.length=t.parts.length):∃a hs us,v = .ref a/\H a=some (.tup (.str t.sign::hs++us))/\hs.length+1=t.head/\us.length=t.parts.length /\
  ∀{H':Hp}{p:Addr}{ws:List V},Tk H H'->H' p=some (.tup (.str t.sign::hs++ws))->Paired (Rep H') ps ws->Rep H' (t.withP ps) (.ref p):=by
 cases t with
 |num n=>obtain⟨a,e,ha⟩:=h;exact⟨a,[.int n],[],e,ha,rfl,rfl,λ k e p=>by cases ps with|nil=>cases p;exact⟨_,rfl,e⟩|cons _ _=>cases hl⟩
 |name x=>obtain⟨a,e,ha⟩:=h;exact⟨a,[.str x],[],e,ha,rfl,rfl,λ k e p=>by cases ps with|nil=>cases p;exact⟨_,rfl,e⟩|cons _ _=>cases hl⟩
 |ask x=>obtain⟨a,e,ha⟩:=h;exact⟨a,[.str x],[],e,ha,rfl,rfl,λ k e p=>by cases ps with|nil=>cases p;exact⟨_,rfl,e⟩|cons _ _=>cases hl⟩
 |stop x=>obtain⟨a,e,ha⟩:=h;exact⟨a,[.str x],[],e,ha,rfl,rfl,λ k e p=>by cases ps with|nil=>cases p;exact⟨_,rfl,e⟩|cons _ _=>cases hl⟩
 |gap g as =>
  obtain⟨a,b,us,e,ha,hb,n,q⟩:=h;exact⟨a,[.str g,.ref b],[],e,ha,rfl,rfl,λ k e p=>by cases ps with|nil=>cases p;exact⟨_,b,us,rfl,e,k _ _ hb,n,Paired.mapP q λ Ω Ω z=>z.mono k⟩|cons _ _=>cases hl⟩
 |say s =>
  obtain⟨a,u,e,ha,r⟩:=h
  exact⟨a,[],[u],e,ha,rfl,rfl,λ k e p=>by
   match ps,hl with
   |[c],_ =>
    cases p with|cons r1 p=>cases p;exact⟨_,_,rfl,e,r1⟩⟩
 |bin o s t =>
  obtain⟨a,u,w,e,ha,r,r'⟩:=h
  exact⟨a,[],[u,w],e,(by show _=some (HO.tup [V.str o.kd.s,u,w]);rw[Bin.kd_s];exact ha),rfl,rfl,λ{H' p ws} k e q=>by
   match ps,hl with
   |[c,d],_ =>
    cases q with|cons r1 q=>cases q with|cons r2 q =>
     cases q;have e':H' p=some (.tup [.str o.kd.s,_,_]):=e;rw[Bin.kd_s] at e';exact⟨_,_,_,rfl,e',r1,r2⟩⟩
 |ite r s t =>
  obtain⟨a,u,w,z,e,ha,_,_,_⟩:=h
  exact⟨a,[],[u,w,z],e,ha,rfl,rfl,λ k e q=>by
   match ps,hl with
   |[c,d,f],_ =>
    cases q with|cons r1 q=>cases q with|cons r2 q=>cases q with|cons r3 q =>
     cases q;exact⟨_,_,_,_,rfl,e,r1,r2,r3⟩⟩
 |lett x s t =>
  obtain⟨a,u,w,e,ha,_,_⟩:=h
  exact⟨a,[.str x],[u,w],e,ha,rfl,rfl,λ k e q=>by
   match ps,hl with
   |[c,d],_ =>
    cases q with|cons r1 q=>cases q with|cons r2 q =>
     cases q;exact⟨_,_,_,rfl,e,r1,r2⟩⟩
theorem zEs (a b:List Tr):zAa (a++b)=zAa a+zAa b:=by simp[zAa]
theorem zHx (h:Tr):zAa [h]=h.parts.length:=by simp[zAa]
theorem zEB (hs:List Tr) (i:Nat):zAa (hs.take i)<=zAa hs:=by
 have e:zAa hs=zAa (hs.take i)+zAa (hs.drop i):=by rw[←zEs,List.take_append_drop]
 omega
theorem zDK {α:Type}{F:α->V->Prop}:∀{as:List α}{us:List V}(i n:Nat),Paired F as us->Paired F ((as.drop i).take n) ((us.drop i).take n)
 |_,_,i,n,.nil=>by simp;exact .nil
 |_,_,0,0,.cons r t=>by simp;exact .nil
 |_,_,0,n+1,.cons r t=>by simpa using Paired.cons r (by simpa using zDK 0 n t)
 |_,_,i+1,n,.cons r t=>by simpa using zDK i n t
def zNb (H:Hp) (hs:List Tr) (v:V):Prop:=∃l us,v = .ref l/\H l=some (.lst us)/\Paired (Rep H) hs us
theorem zEa {α:Type}{F:α->V->Prop}{L:List α}{us:List V}(h:Paired F L.reverse us) {i:Nat}{x:V}(hi:i<us.length) (e:us[us.length - 1 - i]?=some x):∃a,L[i]?=some a/\F a x:=by
 obtain⟨a,ea,r⟩:=zAJ h e;have hl:us.length=L.length:=by rw[zAG h,List.length_reverse]
 rw[List.getElem?_reverse (by omega)] at ea;refine⟨a,?_,r⟩;rw[←ea];congr 1;omega
noncomputable def abcS:Str := "abcdefghijklmnopqrstuvwxyz"
theorem zGs:abcS.length=26:=by symm
theorem zNZ:∀i<26,abcS.cps.toList[i]?=some (97+i):=by symm
noncomputable def keptS:List Str:=["let", "in", "if", "then", "else", "say", "ask", "stop", "where", "quiet", "number"]
noncomputable def keptV:List V:=keptS.map V.str
def KeptW (K:W.Frag) (kv:Addr):Prop:=∃(o:Obj) (its:Array Value) (n:Nat),K.lookup kv=some o/\o.cls = .type "tuple" /\ o.data = .seq its n/\its.size<=sizeLine/\Vals keptV its.toList
noncomputable def wrdN (n:Nat):Str:=if n<26 then ⟨#[97+n]⟩ else ⟨#[96+n / 26,97+n % 26]⟩
theorem zJq {n m:Nat}(hn:n<702) (hm:m<702) (h:wrdN n=wrdN m):n=m:=by
 unfold wrdN at h;split at h<;>split at h
 ·have:=congrArg (λ s:Str=>s.cps.toList) h
  simp at this;exact this
 ·have:=congrArg (λ s:Str=>s.cps.toList) h
  simp at this
 ·have:=congrArg (λ s:Str=>s.cps.toList) h
  simp at this
 ·have:=congrArg (λ s:Str=>s.cps.toList) h
  simp at this;omega
theorem zJp {ks:List Str}{n:Nat}(h:∀j<n,wrdN j∈ks\/wrdN j∈keptS) (hn:n<=702):n<=ks.length+11:=by
 have nd:((List.range n).map wrdN).Nodup:=by
  refine List.pairwise_map.mpr (List.Pairwise.imp_of_mem (λ{a b} ha hb ne e=>?_) (List.nodup_range (n:=n)));have:=List.mem_range.mp ha;have:=List.mem_range.mp hb;exact ne (zJq (by omega) (by omega) e)
 have:=zC1 (ws:=ks++keptS) nd λ x hx=>by
  obtain⟨j,hj,rfl⟩:=mC.mp hx;exact lK.mpr (h j (List.mem_range.mp hj))
 simpa[keptS] using this
def Unu (ks:List Str) (m:Str):Prop:=∃n,m=wrdN n/\n<=701/\(∀j<n,wrdN j∈ks\/wrdN j∈keptS)/\wrdN n∉ks/\wrdN n∉keptS
theorem Unu.uniq {ks:List Str}{m m':Str}:Unu ks m->Unu ks m'->m=m':=by
 rintro⟨n,rfl,_,h1,h2,h3⟩ ⟨n',rfl,_,h1',h2',h3'⟩;rcases Nat.lt_trichotomy n n' with h|h|h
 ·exact((h1' n h).elim h2 h3).elim
 ·rw[h]
 ·exact((h1 n' h).elim h2' h3').elim
theorem Unu.new {ks:List Str}{m:Str}:Unu ks m->m∉ks:=by
 rintro⟨n,rfl,_,_,h,_⟩;exact h
abbrev WS:=List (List Tr × Str)
noncomputable def dtRow (ts:List Tr):Dt:=.tup (ts.map dtT)
noncomputable def kvW (q:List Tr × Str):Dt × V:=(dtRow q.1,.str q.2)
def WsR (P:Program) (w:World) (H:Hp) (d:Addr) (ws:WS):Prop:=DicP P w H d (ws.map kvW)
structure RowP (ts:List Tr):Prop where
 fw:ts.length<=10
 al:∀t∈ts,Pln t/\dpT t<=7/\t.size<=60
theorem RowR.dr {H:Hp}{ts:List Tr}{v:V}(r:RowR H ts v) (h:RowP ts):∃b,v = .ref b/\DR H (dtRow ts) v/\(dtRow ts).deep<=8:=by
 obtain⟨p,us,rfl,hp,pu⟩:=r
 have key:∀{ts:List Tr}{us:List V},Paired (Rep H) ts us->(∀t∈ts,Pln t/\dpT t<=7/\t.size<=60)->DRs H (ts.map dtT) us/\Dt.deeps (ts.map dtT)<=7:=by
  intro ts us pu
  induction pu with
  |nil=>intro _;exact⟨.nil,lY _⟩
  | @cons t u ts us r _ ih =>
   intro h;obtain⟨h1,h2⟩:=ih λ x hx=>h x (lP _ hx);have h0:=h t lO;have:=zBl t h0.1;have:=h0.2.1;refine⟨.cons (r.drP h0.1) h1,?_⟩;rw[mL];show max _ _<=7;omega
 obtain⟨k1,k2⟩:=key pu h.al;refine⟨p,rfl,.tup hp k1,?_⟩;show Dt.deeps _+1<=8;omega
theorem zJT {a b:List Tr}(ha:∀t∈a,Pln t) (hb:∀t∈b,Pln t) (h:dtRow a=dtRow b):a=b:=by
 have h:=Dt.tup.inj h
 induction a generalizing b with
 |nil=>cases b with
  |nil=>rfl
  |cons _ _=>cases h
 |cons x a ih=>cases b with
  |nil=>cases h
  |cons y b =>
   rw[mL,mL] at h;obtain⟨h1,h2⟩:=List.cons.inj h;rw[zDa x y (ha x List.mem_cons_self) (hb y List.mem_cons_self) h1,ih (λ t ht=>ha t (List.mem_cons_of_mem _ ht)) (λ t ht=>hb t (List.mem_cons_of_mem _ ht)) (by unfold dtRow;rw[h2]) h2]
def wOf (ws:WS) (ts:List Tr) (g:Str):Prop:=∃a b,ws=a++(ts,g)::b/\∀q∈a,q.1≠ts
theorem wOf.uniq {ws:WS}{ts:List Tr}{g g':Str}:wOf ws ts g->wOf ws ts g'->g=g':=by
 rintro⟨a,b,e,h⟩ ⟨a',b',e',h'⟩;rw[e] at e';clear e
 induction a generalizing a' with
 |nil=>cases a' with
  |nil=>cases e';rfl
  |cons x a'=>cases e';exact absurd rfl (h' _ lO)
 |cons x a ih=>cases a' with
  |nil=>cases e';exact absurd rfl (h _ lO)
  |cons y a' =>
   rw[List.cons_append,List.cons_append] at e';obtain⟨_,e2⟩:=List.cons.inj e';exact ih (λ q hq=>h q (lP _ hq)) a' e2 (λ q hq=>h' q (lP _ hq))
theorem wOf.mem {ws:WS}{ts:List Tr}{g:Str}:wOf ws ts g->(ts,g)∈ws:=by
 rintro⟨a,b,rfl,_⟩;simp
theorem zKv (ws:WS) (ts:List Tr) (hp:RowP ts) (hw:∀q∈ws,RowP q.1):(∃g,wOf ws ts g/\valV (ws.map kvW) (dtRow ts)=some (.str g))\/((∀q∈ws,q.1≠ts)/\valV (ws.map kvW) (dtRow ts)=none):=by
 induction ws with
 |nil=>exact .inr ⟨(λ q hq=>nomatch hq),rfl⟩
 |cons x ws ih =>
  obtain⟨ts',g'⟩:=x;have hx:=hw (ts',g') lO
  by_cases e:ts'=ts
  ·subst e
   refine .inl ⟨g',⟨[],ws,rfl,(λ q hq=>nomatch hq)⟩,?_⟩
   unfold valV;rw[mL,List.find?_cons];simp[kvW]
  ·have e':¬dtRow ts'=dtRow ts:=λ z=>e (zJT (λ t ht=>(hx.al t ht).1) (λ t ht=>(hp.al t ht).1) z)
   have step:valV (((ts',g')::ws).map kvW) (dtRow ts)=valV (ws.map kvW) (dtRow ts):=by
    unfold valV;rw[mL,List.find?_cons];have:decide ((kvW (ts',g')).1=dtRow ts)=false:=decide_eq_false e';simp only[this]
   rw[step];rcases ih (λ q hq=>hw q (lP _ hq)) with ⟨g,⟨a,b,rfl,h⟩,h2⟩|⟨h,h2⟩
   ·refine .inl ⟨g,⟨(ts',g')::a,b,rfl,λ q hq=>?_⟩,h2⟩
    rcases lN.mp hq with rfl|hq
    ·exact e
    ·exact h q hq
   ·refine .inr ⟨λ q hq=>?_,h2⟩
    rcases lN.mp hq with rfl|hq
    ·exact e
    ·exact h q hq
inductive Gap1 (ws:WS) (ts:List Tr):Str->WS->Prop
 |old {g:Str}:wOf ws ts g->Gap1 ws ts g ws
 |new {g:Str}:(∀q∈ws,q.1≠ts)->Unu (ws.map (·.2)) g->Gap1 ws ts g (ws++[(ts,g)])
theorem Gap1.uniq {ws ws1 ws2:WS}{ts:List Tr}{g1 g2:Str}(h:Gap1 ws ts g1 ws1) (k:Gap1 ws ts g2 ws2):g1=g2/\ws1=ws2:=by
 cases h with
 |old h=>cases k with
  |old k=>exact⟨h.uniq k,rfl⟩
  |new k _=>exact absurd rfl (k _ h.mem)
 |new h u=>cases k with
  |old k=>exact absurd rfl (h _ k.mem)
  |new _ u'=>have:=u.uniq u';subst this;exact⟨rfl,rfl⟩
theorem viaN {D:Ends}{t1 t2:TS}{σ:L2.St}{H:Hp}(h:∀N:L2.St->Hp->Prop,(∀σ' H',t2 D σ' H'->N σ' H')->t1 { D with nx:=N } σ H):tSeq t1 t2 D σ H:=h _ λ Ω Ω z=>z
def Sx (d:Addr) (H H':Hp):Prop:=∀b u,b≠d->H b=some u->H' b=some u
theorem Sx.same {d:Addr}{H H1 H':Hp}(g:Sx d H H1) (k:Same H1 H'):Sx d H H':=λ b u n e=>k b u (g b u n e)
theorem Sx.set {d p:Addr}{H H':Hp}{o:HO}(g:Sx d H H') (h:H p=none):Sx d H (upd H' p o):=λ b u n e=>by rw[zAK (zAL e h)];exact g b u n e
theorem Sx.own {U:Addr}{H H':Hp}{o:HO}(g:Sx U H H'):Sx U H (upd H' U o):=λ b u n e=>by rw[zAK n];exact g b u n e
theorem Sx.trans {U:Addr}{H H1 H2:Hp}(a:Sx U H H1) (b:Sx U H1 H2):Sx U H H2:=λ c u n e=>b c u n (a c u n e)
theorem Sx.of {U:Addr}{H H':Hp}(g:Same H H'):Sx U H H':=λ b u Ω e=>g b u e
theorem WsR.at {P:Program}{w:World}{H:Hp}{d:Addr}{ws:WS}(h:WsR P w H d ws):∃o,H d=some o/\(∀xs,o ≠ .tup xs)/\∀xs,o ≠ .lst xs:=by
 rcases h with ⟨xs,_,e,_⟩|⟨e,_⟩
 ·exact⟨_,e,(λ xs z=>nomatch z),(λ xs z=>nomatch z)⟩
 ·exact⟨_,e,(λ xs z=>nomatch z),(λ xs z=>nomatch z)⟩
theorem Sx.tk {P:Program}{w:World}{d:Addr}{H H':Hp}{ws:WS}(g:Sx d H H') (h:WsR P w H d ws):Tk H H':=λ b xs e=>by
 obtain⟨o,eo,n,_⟩:=h.at;exact g b _ (λ z=>by rw[z,eo] at e;exact n xs (mE e)) e
theorem WsR.mono {P:Program}{w:World}{H H':Hp}{d:Addr}{ws:WS}(h:WsR P w H d ws) (g:Same H H'):WsR P w H' d ws:=by
 obtain⟨o,eo,_⟩:=h.at;rcases h with h|⟨e,h2⟩
 ·exact .inl (h.mono g.tk (by rw[g _ _ eo,eo]))
 ·exact .inr ⟨g _ _ e,h2⟩
theorem WsR.tkD {P:Program}{w:World}{H H':Hp}{d:Addr}{ws:WS}(h:WsR P w H d ws) (k:Tk H H') (e:H' d=H d):WsR P w H' d ws:=by
 rcases h with h|⟨e',h2⟩
 ·exact .inl (h.mono k e)
 ·exact .inr ⟨by rw[e,e'],h2⟩
structure RowQ (ts:List Tr):Prop where
 ne:1<=ts.length
 fw:ts.length<=10
 pl:RowP ts
theorem RowQ.g {ts:List Tr}(h:RowQ ts):RowG ts:=⟨h.ne,h.fw,λ t ht=>(h.pl.al t ht).1,λ t ht=>mG (h.pl.al t ht).2.1 (by decide)⟩
noncomputable def sz0 (ts:List Tr):Nat:=(ts[0]?.map Tr.size).getD 0
noncomputable def totR (lev:List (List Tr)):Nat:=(lev.map sz0).sum
theorem zE5 (a b:List (List Tr)):totR (a++b)=totR a+totR b:=by simp[totR]
theorem zCJ (a:List Tr) (b:List (List Tr)):totR (a::b)=sz0 a+totR b:=by simp[totR]
theorem zGT {ts:List Tr}(h:RowQ ts):1<=sz0 ts:=by
 have:=h.ne;cases ts with
 |nil=>simp at this
 |cons t r=>exact zFA t
theorem zKz {ts:List Tr}{t:Tr}(h:ts[0]?=some t):sz0 ts=t.size:=by unfold sz0;rw[h];rfl
theorem zD6 (t:Tr):(t.parts.map Tr.size).sum+1=t.size:=by
 cases t<;>simp[Tr.parts,Tr.size]<;>omega
theorem zCu {ts:List Tr}{t:Tr}(h:ts[0]?=some t):(rowsW ts).length=t.parts.length:=by
 unfold rowsW;rw[h];simp
theorem zHC {ts:List Tr}{t:Tr}(h:ts[0]?=some t):(rowsW ts).map sz0=t.parts.map Tr.size:=by
 refine List.ext_getElem (by rw[mD,mD,zCu h]) λ i h1 h2=>?_;rw[mD] at h2;cases ts with
 |nil=>cases h
 |cons x r =>
  cases h;simp only[rowsW,List.getElem_map,List.getElem_range];rw[List.filterMap_cons];have:t.parts[i]?=some t.parts[i]:=lW h2;rw[this];rfl
theorem zFz {ts:List Tr}{t:Tr}(h:ts[0]?=some t):totR (rowsW ts)+1=sz0 ts:=by
 unfold totR;rw[zHC h,zKz h];exact zD6 t
theorem zMS {t p:Tr}(h:p∈t.parts):dpT p<dpT t:=by
 cases t with
 |say a=>rw[mR.mp h];simp[dpT]
 |bin o a b=>simp[Tr.parts] at h;rcases h with rfl|rfl<;>simp only[dpT]<;>omega
 |ite a b c=>simp[Tr.parts] at h;rcases h with rfl|rfl|rfl<;>simp only[dpT]<;>omega
 |lett x a b=>simp[Tr.parts] at h;rcases h with rfl|rfl<;>simp only[dpT]<;>omega
 |_=>cases h
theorem zNV {ts:List Tr}{i:Nat}(h:∀t∈ts,i<t.parts.length):(ts.filterMap λ t=>t.parts[i]?).length=ts.length:=by
 induction ts with
 |nil=>rfl
 |cons t r ih =>
  rw[List.filterMap_cons,nQ (h t List.mem_cons_self)];simp[ih λ x hx=>h x (List.mem_cons_of_mem _ hx)]
theorem zLc {ts:List Tr}(h:RowQ ts) (b:Beg ts):∀r∈rowsW ts,RowQ r:=by
 obtain⟨t0,e0,_,hal⟩:=b;intro r hr;unfold rowsW at hr;rw[e0] at hr;obtain⟨i,hi,rfl⟩:=mC.mp hr;have hi:i<t0.parts.length:=List.mem_range.mp hi;have hl:=zNV (ts:=ts) (i:=i) λ t ht=>by rw[zGD (hal t ht)];exact hi
 refine⟨by rw[hl];exact h.ne,by rw[hl];exact h.fw,by rw[hl];exact h.fw,λ d hd=>?_⟩;obtain⟨t,ht,e⟩:=List.mem_filterMap.mp hd;have hm:=lM e;exact⟨(h.pl.al t ht).1.part hm,by have:=zMS hm;have:=(h.pl.al t ht).2.1;omega,by have:=zF2 hm;have:=(h.pl.al t ht).2.2;omega⟩
inductive Lv1:WS->List (List Tr)->WS->List Tr->List (List Tr)->Prop
 |nil {ws:WS}:Lv1 ws [] ws [] []
 |beg {ws ws1:WS}{row:List Tr}{rest dp:List (List Tr)}{t:Tr}{hs:List Tr}:Beg row->row[0]?=some t->Lv1 ws rest ws1 hs dp->Lv1 ws (row::rest) ws1 (t::hs) (rowsW row++dp)
 |gap {ws ws1 ws2:WS}{row:List Tr}{rest dp:List (List Tr)}{g:Str}{hs:List Tr}:¬Beg row->Gap1 ws row g ws1->Lv1 ws1 rest ws2 hs dp->Lv1 ws (row::rest) ws2 (.gap g []::hs) dp
inductive Cs:WS->List (List Tr)->WS->List (List Tr)->Prop
 |nil {ws:WS}:Cs ws [] ws []
 |cons {ws ws1 ws2:WS}{r:List Tr}{lev dp:List (List Tr)}{hs:List Tr}{L:List (List Tr)}:Lv1 ws (r::lev) ws1 hs dp->Cs ws1 dp ws2 L->Cs ws (r::lev) ws2 (hs::L)
theorem Lv1.uniq {ws ws1 ws2:WS}{lev dp1 dp2:List (List Tr)}{h1 h2:List Tr}(a:Lv1 ws lev ws1 h1 dp1) (b:Lv1 ws lev ws2 h2 dp2):ws1=ws2/\h1=h2/\dp1=dp2:=by
 induction a generalizing ws2 h2 dp2 with
 |nil=>cases b;exact⟨rfl,rfl,rfl⟩
 |beg hb ht _ ih =>
  cases b with
  |beg _ ht' b =>
   obtain⟨rfl,rfl,rfl⟩:=ih b;rw[ht] at ht';cases ht';exact⟨rfl,rfl,rfl⟩
  |gap n _ _=>exact absurd hb n
 |gap n hg _ ih =>
  cases b with
  |beg hb _ _=>exact absurd hb n
  |gap _ hg' b =>
   obtain⟨rfl,rfl⟩:=hg.uniq hg';obtain⟨rfl,rfl,rfl⟩:=ih b;exact⟨rfl,rfl,rfl⟩
theorem Cs.uniq {ws ws1 ws2:WS}{lev L1 L2:List (List Tr)}(a:Cs ws lev ws1 L1) (b:Cs ws lev ws2 L2):ws1=ws2/\L1=L2:=by
 induction a generalizing ws2 L2 with
 |nil=>cases b;exact⟨rfl,rfl⟩
 |cons hl _ ih =>
  cases b with
  |cons hl' b =>
   obtain⟨rfl,rfl,rfl⟩:=hl.uniq hl';obtain⟨rfl,rfl⟩:=ih b;exact⟨rfl,rfl⟩
theorem Gap1.len {ws ws':WS}{ts:List Tr}{g:Str}(h:Gap1 ws ts g ws'):ws'.length<=ws.length+1:=by
 cases h with
 |old _=>exact nI _
 |new _ _=>simp
theorem Gap1.rp {ws ws':WS}{ts:List Tr}{g:Str}(h:Gap1 ws ts g ws') (hp:RowP ts) (hw:∀q∈ws,RowP q.1):∀q∈ws',RowP q.1:=by
 cases h with
 |old _=>exact hw
 |new _ _ =>
  intro q hq;rcases lK.mp hq with z|z
  ·exact hw q z
  ·rw[mR.mp z];exact hp
structure WsN (ws:WS):Prop where
 w:(ws.map (·.2)).Nodup
 r:(ws.map (·.1)).Nodup
theorem zEr {α:Type}{l:List α}{a:α}(h:l.Nodup) (n:a∉l):(l++[a]).Nodup:=by
 rw[List.nodup_append];refine⟨h,by simp,λ x hx y hy e=>?_⟩;rw[mR.mp hy] at e;exact n (e▸hx)
theorem Gap1.nd {ws ws':WS}{ts:List Tr}{g:Str}(h:Gap1 ws ts g ws') (nd:WsN ws):WsN ws':=by
 cases h with
 |old _=>exact nd
 |new n u =>
  refine⟨?_,?_⟩
  ·rw[mQ]
   exact zEr nd.w u.new
  ·rw[mQ]
   refine zEr nd.r λ z=>?_;obtain⟨q,hq,e⟩:=mC.mp z;exact n q hq e
structure LvOk (ws:WS) (lev:List (List Tr)) (ws1:WS) (hs:List Tr) (dp:List (List Tr)):Prop where
 hl:hs.length=lev.length
 np:zAa hs=dp.length
 q:∀r∈dp,RowQ r
 wp:∀q∈ws1,RowP q.1
 nd:WsN ws1
 bd:ws1.length+totR dp<=ws.length+totR lev
 tt:totR dp+lev.length<=totR lev
theorem Lv1.ok {ws ws1:WS}{lev dp:List (List Tr)}{hs:List Tr}(a:Lv1 ws lev ws1 hs dp) (hq:∀r∈lev,RowQ r) (hw:∀q∈ws,RowP q.1) (nd:WsN ws):LvOk ws lev ws1 hs dp:=by
 induction a with
 |nil=>exact⟨rfl,rfl,(λ r hr=>nomatch hr),hw,nd,lQ _,lQ _⟩
 | @beg ws ws1 row rest dp t hs hb ht _ ih =>
  obtain⟨a,b,c,d,e,f,g⟩:=ih (λ r hr=>hq r (lP _ hr)) hw nd;have h0:=zFz ht;refine⟨by simp[a],?_,?_,d,e,?_,?_⟩
  ·rw[mK,zCu ht,←b];simp[zAa]
  ·intro r hr
   rcases lK.mp hr with z|z
   ·exact zLc (hq row lO) hb r z
   ·exact c r z
  ·rw[zE5,zCJ];omega
  ·rw[zE5,zCJ,mM];omega
 | @gap ws ws1 ws2 row rest dp g hs n hg _ ih =>
  have h0:=zGT (hq row lO);obtain⟨a,b,c,d,e,f,g'⟩:=ih (λ r hr=>hq r (lP _ hr)) (hg.rp (hq row lO).pl hw) (hg.nd nd);have h1:=hg.len;refine⟨by simp[a],?_,c,d,e,?_,?_⟩
  ·rw[←b];simp[zAa,Tr.parts]
  ·rw[zCJ];omega
  ·rw[zCJ,mM];omega
def Cln:Tr->Prop
 |.name _=>False
 |.lett _ _ _=>False
 |.gap _ as=>as=[]
 |.say a=>Cln a
 |.bin _ a b=>Cln a/\Cln b
 |.ite a b c=>Cln a/\Cln b/\Cln c
 |_=>True
def ShR (n:Nat) (r:Tr):Prop:=Cln r/\r.size<=n
theorem zLY {t:Tr}(hp:Pln t) (hn:¬t.kd = .name) {rs:List Tr}(h:All2 ShR (t.parts.map Tr.size) rs):ShR t.size (t.withP rs):=by
 cases t with
 |name x=>exact absurd rfl hn
 |gap g as=>exact hp.elim
 |lett x a b=>exact hp.elim
 |num n=>cases h;exact⟨True.intro,lQ _⟩
 |ask n=>cases h;exact⟨True.intro,lQ _⟩
 |stop n=>cases h;exact⟨True.intro,lQ _⟩
 |say a =>
  cases h with
  |cons h1 h=>cases h;exact⟨h1.1,Nat.succ_le_succ h1.2⟩
 |bin o a b =>
  cases h with
  |cons h1 h=>cases h with
   |cons h2 h =>
    cases h;have a1:=h1.2;have a2:=h2.2;exact⟨⟨h1.1,h2.1⟩,by simp only[Tr.withP,Tr.size];omega⟩
 |ite a b c =>
  cases h with
  |cons h1 h=>cases h with
   |cons h2 h=>cases h with
    |cons h3 h =>
     cases h;have a1:=h1.2;have a2:=h2.2;have a3:=h3.2;exact⟨⟨h1.1,h2.1,h3.1⟩,by simp only[Tr.withP,Tr.size];omega⟩
theorem Lv1.sh {ws ws1:WS}{lev dp:List (List Tr)}{hs R:List Tr}(a:Lv1 ws lev ws1 hs dp) (hq:∀r∈lev,RowQ r) (h:All2 ShR (dp.map sz0) R):All2 ShR (lev.map sz0) (growL hs R):=by
 induction a generalizing R with
 |nil=>exact .nil
 | @beg ws ws1 row rest dp t hs hb ht _ ih =>
  rw[mQ] at h;obtain⟨R1,R2,rfl,k1,k2⟩:=h.split;have l1:R1.length=t.parts.length:=by rw[←k1.length,mD,zCu ht]
  rw[zHC ht] at k1;show All2 ShR (sz0 row::rest.map sz0) (t.withP ((R1++R2).take t.parts.length)::growL hs ((R1++R2).drop t.parts.length));rw[←l1,List.take_left',List.drop_left']
  ·refine .cons ?_ (ih (λ r hr=>hq r (lP _ hr)) k2)
   obtain⟨t0,e0,nn,_⟩:=hb;rw[ht] at e0;cases e0;rw[zKz ht];exact zLY ((hq row lO).pl.al t (lM ht)).1 nn k1
  ·rfl
  ·rfl
 | @gap ws ws1 ws2 row rest dp g hs n hg _ ih =>
  exact .cons ⟨rfl,zGT (hq row lO)⟩ (ih (λ r hr=>hq r (lP _ hr)) h)
theorem zEL:∀(a b:List (List Tr)) (R:List Tr),zBU (a++b) R=zBU b (zBU a R)
 |[],_,_=>rfl
 |h::a,b,R=>zEL a b (growL h R)
def Ch:List (List Tr)->Nat->Prop
 |[],n=>n=0
 |hs::L,n=>hs.length=n/\Ch L (zAa hs)
theorem zLO:∀(L:List (List Tr)) {Lr:List (List Tr)}{n:Nat},Ch L n->Fit Lr n->Fit (L.reverse++Lr) 0
 |[],_,_,h,f=>by cases h;exact f
 |hs::L,Lr,n,h,f=>by
  rw[List.reverse_cons,mZ];obtain⟨rfl,h2⟩:=h;exact zLO L h2 ⟨rfl,f⟩
structure CsOk (ws:WS) (lev:List (List Tr)) (ws2:WS) (L:List (List Tr)):Prop where
 ch:Ch L lev.length
 sh:All2 ShR (lev.map sz0) (zBU L.reverse [])
 wp:∀q∈ws2,RowP q.1
 nd:WsN ws2
 bd:ws2.length<=ws.length+totR lev
 lh:∀hs∈L,hs.length<=totR lev
theorem zFP {lev:List (List Tr)}(h:∀r∈lev,RowQ r):lev.length<=totR lev:=by
 induction lev with
 |nil=>exact lQ _
 |cons r lev ih =>
  have:=ih λ x hx=>h x (lP _ hx);have:=zGT (h r lO);rw[zCJ,mM];omega
theorem Cs.ok {ws ws2:WS}{lev L:List (List Tr)}(a:Cs ws lev ws2 L) (hq:∀r∈lev,RowQ r) (hw:∀q∈ws,RowP q.1) (nd:WsN ws):CsOk ws lev ws2 L:=by
 induction a with
 |nil=>exact⟨rfl,.nil,hw,nd,lQ _,(λ h z=>nomatch z)⟩
 | @cons ws ws1 ws2 r lev dp hs L hl _ ih =>
  have o:=hl.ok hq hw nd;have k:=ih o.q o.wp o.nd;refine⟨⟨o.hl,by rw[o.np];exact k.ch⟩,?_,k.wp,k.nd,?_,λ h hh=>?_⟩
  ·rw[List.reverse_cons,zEL]
   exact hl.sh hq k.sh
  ·have:=o.bd;have:=k.bd;omega
  ·have:=o.tt
   rcases lN.mp hh with rfl|z
   ·rw[o.hl];exact zFP hq
   ·have:=k.lh h z;omega
theorem Cs.tree {ws ws2:WS}{ts:List Tr}{L:List (List Tr)}(a:Cs ws [ts] ws2 L) (hq:RowQ ts) (hw:∀q∈ws,RowP q.1) (nd:WsN ws):∃r,zBU L.reverse []=[r]/\ShR (sz0 ts) r/\Fit L.reverse 0/\(∀q∈ws2,RowP q.1)/\WsN ws2/\ws2.length<=ws.length+sz0 ts/\∀hs∈L,hs.length<=sz0 ts:=by
 have o:=a.ok (λ r hr=>by rw[mR.mp hr];exact hq) hw nd;have e:totR [ts]=sz0 ts:=by simp[totR]
 have f:=zLO L (Lr:=[]) o.ch rfl;rw[nT] at f;have sh:=o.sh;have bd:=o.bd;have lh:=o.lh;rw[e] at bd lh;generalize zBU L.reverse []=R at sh ⊢;cases sh with
 |cons h1 h2 =>
  cases h2;exact⟨_,rfl,h1,f,o.wp,o.nd,bd,lh⟩
theorem Lv1.snocB {ws ws1:WS}{lev dp:List (List Tr)}{hs:List Tr}{row:List Tr}{t:Tr}(a:Lv1 ws lev ws1 hs dp) (hb:Beg row) (ht:row[0]?=some t):Lv1 ws (lev++[row]) ws1 (hs++[t]) (dp++rowsW row):=by
 induction a with
 | @nil ws=>have:=Lv1.beg hb ht (Lv1.nil (ws:=ws));rw[nT] at this;exact this
 |beg hb' ht' _ ih=>rw[mZ];exact .beg hb' ht' ih
 |gap n hg _ ih=>exact .gap n hg ih
theorem Lv1.snocG {ws ws1 ws2:WS}{lev dp:List (List Tr)}{hs:List Tr}{row:List Tr}{g:Str}(a:Lv1 ws lev ws1 hs dp) (n:¬Beg row) (hg:Gap1 ws1 row g ws2):Lv1 ws (lev++[row]) ws2 (hs++[.gap g []]) dp:=by
 induction a with
 |nil=>exact .gap n hg .nil
 |beg hb' ht' _ ih=>exact .beg hb' ht' (ih hg)
 |gap n' hg' _ ih=>exact .gap n' hg' (ih hg)
def LevN (A:Addr) (H:Hp) (hs:List Tr) (v:V):Prop:=∃l us,v = .ref l/\l≠A/\H l=some (.lst us)/\Paired (Rep H) hs us
theorem LevN.mono {A:Addr}{H H':Hp}(k:Tk H H') (g:∀b us,b≠A->H b=some (.lst us)->H' b=some (.lst us)) {hs:List Tr}{v:V}:LevN A H hs v->LevN A H' hs v
 |⟨l,us,e,n,h,p⟩=>⟨l,us,e,n,g l us n h,Paired.mapP p λ Ω Ω z=>z.mono k⟩
theorem zFk (lev:List (List Tr)) (i:Nat):totR (lev.take i)<=totR lev:=by
 have e:totR lev=totR (lev.take i)+totR (lev.drop i):=by rw[←zE5,List.take_append_drop]
 omega
noncomputable def ltS (a b:Str):Bool:=decide (a.cps.toList<b.cps.toList)
theorem zHO (a:Str):ltS a a=false:=decide_eq_false (List.lt_irrefl _)
theorem zLW {a b:Str}(h:a.cps.toList=b.cps.toList):a=b:=by
 cases a;cases b;congr;exact Array.toList_inj.mp h
theorem zMD {a b:Str}(h:a≠b) (k:ltS a b=false):ltS b a=true:=by
 have k':=of_decide_eq_false k;refine lU ?_
 by_cases z:b.cps.toList<a.cps.toList
 ·exact z
 ·exact absurd (zLW (List.le_antisymm (List.not_lt.mp z) (List.not_lt.mp k'))) h
theorem zKV {a b:Str}(k:ltS a b=true):ltS b a=false:=decide_eq_false λ z=>List.lt_asymm z (lT k)
theorem zI1 {a b c:Str}(h:ltS a b=true) (k:ltS b c=true):ltS a c=true:=lU (List.lt_trans (lT h) (lT k))
end L2
namespace PySem
open PySem.Calls PyProof.Rows PySem.W L2
section
variable {prog:Program}{w:World}{A:Around}{E:XQ}{s:Shared}
def TxtAt (h:Heap) (v:Value) (x:Str):Prop:=∃(a:Addr) (t:Tok) (u:Value),v = .ref a/\h.IsTuple a #[.str x t,u]
theorem TxtAt.kept {h h':Heap}{v:Value}{x:Str}(k:∀b o,o.cls = .type "tuple" -> h.get? b=some o->h'.get? b=some o):TxtAt h v x->TxtAt h' v x
 |⟨a,t,u,e,⟨o,ho,hc,r⟩⟩=>⟨a,t,u,e,⟨o,k _ _ hc ho,hc,r⟩⟩
theorem zFj {h h':Heap}(k:∀b o,o.cls = .type "tuple" -> h.get? b=some o->h'.get? b=some o) {vs:List Value}{ps:List Str}(p:Paired (TxtAt h) vs ps):Paired (TxtAt h') vs ps:=by
 induction p with
 |nil=>exact .nil
 |cons r _ ih=>exact .cons (r.kept k) ih
theorem zKw {h:Heap}{vs:List Value}{ps:List Str}(p:Paired (TxtAt h) vs ps):∀{i:Nat},i<vs.length->TxtAt h (vs.getD i Value.none) (ps.getD i ""):=by
 induction p with
 |nil=>intro i hi;simp at hi
 |cons r _ ih =>
  intro i hi;cases i with
  |zero=>exact r
  |succ i=>simpa using ih (i:=i) (by simpa using hi)
theorem zMc {x y:Value}{ns ms:Str}{Q:Bool->Shared->Prop}(hx:TxtAt s.heap x ns) (hy:TxtAt s.heap y ms) (hne:ns≠ms) (hu:A.units<cLine) (h:Q (ltS ns ms) s):wpAny (model prog w) A (keyLt' (tuples' true) x y) Q E s:=by
 obtain⟨a,t,u,rfl,⟨o,ho,hc,n,hd⟩⟩:=hx;obtain⟨a',t',u',rfl,⟨o',ho',hc',n',hd'⟩⟩:=hy;refine kat_lt ho hd ho' hd' ?_;show KatLex prog w A true _ Q [(.str ns t,.str ms t'),(u,u')] 0 s;have e:(ns == ms)=false:=by simpa using hne
 have k:=SeqAt.EqAt.str_str (A:=A) (s:=s) ns t ms t';rw[e] at k;exact kat_cons (k prog w _ _ (kat_no (oneLt_str h)))
theorem zJs {h:Heap}{vs:List Value}{ps:List Str}(p:Paired (TxtAt h) vs ps):∃fs,KatTups h vs fs/\fs.length=vs.length/\∀v∈fs,Looks (model prog w) h (typeOf v) (.type "str"):=by
 induction p with
 |nil=>exact⟨[],trivial,rfl,λ v hv=>nomatch hv⟩
 |cons r _ ih =>
  obtain⟨fs,h1,h2,h3⟩:=ih;obtain⟨a,t,u,rfl,⟨o,ho,hc,n,hd⟩⟩:=r;refine⟨.str _ t::fs,KatTups.cons ho hc hd rfl h1,by simp[h2],λ v hv=>?_⟩;rcases lN.mp hv with rfl|hv
  ·exact .now
  ·exact h3 v hv
theorem zFN {a:Addr}{vs:List Value}{ps:List Str}{n:Nat}{P:PySem.Fin->Shared->Prop}(ho:s.heap.get? a=some (seqObj "list" vs.toArray n)) (hp:Paired (TxtAt s.heap) vs ps) (nd:ps.Nodup) (h64:vs.length<64) (hu:A.units<cLine)
  (h:∀p:Array Nat,PermN vs.length p->Asc (λ i j=>ltS (ps.getD i "") (ps.getD j "")) p vs.length->P (.done (.ret .none)) { s with heap:=sortedHeap s.heap a vs (List.toArray (p.toList.map λ i=>vs.getD i Value.none)) }) :
  wpAny (model prog w) A (Builtin.«list.sort» ⟨[.ref a],[]⟩) P E s:=by
 rw[list_sort_plain];have hlp:vs.length=ps.length:=hp.length;have ha:a<s.heap.objs.size:=lI ho;refine lA (listItems_at ho rfl ?_);refine lA (listUpdate_at ho rfl ?_ (by rw[mH,sizeLine_eq];omega) (lY _));obtain⟨e1,ho1⟩:∃e1,(s.heap.update a (Obj.mapSeq λ Ω=>#[])).get? a=some (seqObj "list" #[] e1):=⟨_,get?_update_seq ho (λ Ω=>#[])⟩;refine lA (seqEpoch_at ho1 rfl ?_);refine lA (wpAny_newTuple ?_ (by show vs.length<=_;rw[sizeLine_eq];omega));refine lA (wpAny_newList ?_ (lY _));refine lE ?_
 have ho6:(((s.heap.update a (Obj.mapSeq λ Ω=>#[])).push (seqObj "tuple" vs.toArray 0)).push (seqObj "list" #[] 0)).get? a=some (seqObj "list" #[] e1):=by
  rw[Heap.get?_push_ne _ _ _ (by rw[size_push',Heap.size_update];exact lS (Nat.lt_succ_of_lt ha)),Heap.get?_push_ne _ _ _ (by rw[Heap.size_update];exact lS ha)];exact ho1
 have keep:∀b o,o.cls = .type "tuple" -> s.heap.get? b=some o->(((s.heap.update a (Obj.mapSeq λ Ω=>#[])).push (seqObj "tuple" vs.toArray 0)).push (seqObj "list" #[] 0)).get? b=some o:=λ b o hc hb=>by
  have hne:b≠a:=λ z=>by
   rw[z,ho] at hb;cases hb;injection hc with hh
   exact absurd hh (by decide)
  exact lG _ (lG _ (by rw[Heap.get?_update_ne _ _ _ _ hne];exact hb))
 have hp6:=zFj keep hp;show wpAny (model prog w) A _ P E { s with heap:=((s.heap.update a (Obj.mapSeq λ Ω=>#[])).push (seqObj "tuple" vs.toArray 0)).push (seqObj "list" #[] 0) };dsimp only
 by_cases h2:vs.toArray.size<2
 ·rw[if_pos h2,if_pos h2]
  refine lA (lB ?_);rw[StateT.run_pure];refine lA (lB ?_);dsimp only;have h2':vs.length<2:=by simpa using h2
  have hid:(arrOf (SortSt.mk' general' (vs.toArray.zip vs.toArray) #[] 7 none)).map (·.2)=List.toArray ((List.toArray (List.range vs.length)).toList.map λ i=>vs.getD i Value.none):=by
   show (vs.toArray.zip vs.toArray).map (·.2)=_;exact zHB h2'
  refine lA (seqEpoch_at ho6 rfl ?_);refine lA (listUpdate_at ho6 rfl ?_ (lY _) (by rw[Array.size_map];show (vs.toArray.zip vs.toArray).size<=_;rw[sizeLine_eq];simp;omega));simp only[bne_self_eq_false,Bool.false_eq_true,if_false];refine lB ?_;have fin:=h (List.toArray (List.range vs.length)) (by unfold PermN;simp) (λ i j hij hj=>by omega);rw[←hid] at fin;exact fin
 ·rw[if_neg h2,if_neg h2]
  have h2':2<=vs.length:=by simpa using h2
  obtain⟨fs,t1,t2,t3⟩:=zJs (prog:=prog) (w:=w) hp6;refine lA (kat_kind (T:=.type "str") t1 (by omega) t3 (by decide) ?_);show wpAny (model prog w) A ((sortRuns').run (SortSt.mk' (tuples' true) (vs.toArray.zip vs.toArray) #[] 7 none) >>= _) P E _
  have o:Ord vs.length (λ i j=>ltS (ps.getD i "") (ps.getD j "")):=by
   have inj:∀i j,i<vs.length->j<vs.length->i≠j->ps.getD i "" ≠ ps.getD j "" := λ i j hi hj ne e=>by
    have e1:ps.getD i "" = ps[i]'(by omega):=by simp[show i<ps.length by omega]
    have e2:ps.getD j "" = ps[j]'(by omega):=by simp[show j<ps.length by omega]
    rw[e1,e2] at e;exact ne ((List.getElem_inj nd).mp e)
   exact⟨λ i j hi hj ne k=>zMD (inj i j hi hj ne) k,λ i j Ω Ω k=>zKV k,λ i j k Ω Ω Ω a b=>zI1 a b⟩
  refine lA (wpAny_mono (kat_run (Q:=λ st' s'=>∃p:Array Nat,PermN vs.length p/\Asc (λ i j=>ltS (ps.getD i "") (ps.getD j "")) p vs.length/\s'={ s with heap:=((s.heap.update a (Obj.mapSeq λ Ω=>#[])).push (seqObj "tuple" vs.toArray 0)).push (seqObj "list" #[] 0) }/\arrOf st'=p.map (kas_item (vs.toArray.zip vs.toArray))/\failedOf st'=none)
   (G:=λ p s'=>(PermN vs.length p/\Asc (λ i j=>ltS (ps.getD i "") (ps.getD j "")) p vs.length)/\s'={ s with heap:=((s.heap.update a (Obj.mapSeq λ Ω=>#[])).push (seqObj "tuple" vs.toArray 0)).push (seqObj "list" #[] 0) })
   rfl h2' h64 (λ p' st' s' a1 a2 a3 a4=>⟨p',a4.1.1,a4.1.2,a4.2,a2,a3⟩) ?_) ?_ λ Ω Ω e=>e)
  ·refine Ev.wp (St:=λ s'=>s'={ s with heap:=((s.heap.update a (Obj.mapSeq λ Ω=>#[])).push (seqObj "tuple" vs.toArray 0)).push (seqObj "list" #[] 0) }) (λ i j C s' hi hj hij hs hC=>?_) (λ p s' q hs=>⟨q,hs⟩) (zJN o h2') rfl
   subst hs;unfold kas_ask;refine zMc (zKw hp6 hi) (zKw hp6 hj) ?_ hu (hC _ rfl);intro e;have:=o.tot i j hi hj hij (by rw[e];exact zHO _);rw[e,zHO] at this;cases this
  ·rintro⟨⟨⟩,st'⟩ s' ⟨p,pm,asc,rfl,har,hf⟩
   dsimp only;have hout:=kat_snds rfl har;rw[hout];have hsz:(List.toArray (p.toList.map λ i=>vs.getD i Value.none)).size=vs.length:=by rw[mH,mD,Array.length_toList,pm.size]
   refine lA (seqEpoch_at ho6 rfl ?_);refine lA (listUpdate_at ho6 rfl ?_ (lY _) (mG (Nat.le_of_eq hsz) (by rw[sizeLine_eq];omega)));rw[hf];simp only[bne_self_eq_false,Bool.false_eq_true,if_false];exact lB (h p pm asc)
end
end PySem
namespace L2
open PySem PySem.Spec PyProof.Rows PySem.W
def TxV (H:Hp) (p:Str × V) (v:V):Prop:=∃(b:Addr),v = .ref b/\H b=some (.tup [.str p.1,p.2])
theorem zLS {P:Program}{w:World}{H:Hp}{h:Heap}(ok:HOk P w H h) {ps:List (Str × V)}{vs:List V}(hp:Paired (TxV H) ps vs):∀{us:List Value},Vals vs us->Paired (TxtAt h) us (ps.map (·.1)):=by
 induction hp with
 |nil=>intro us r;cases r;exact .nil
 |cons hp _ ih =>
  intro us r;cases r with
  |cons r1 r2 =>
   refine .cons ?_ (ih r2);obtain⟨b,rfl,h1⟩:=hp;cases r1;obtain⟨_,its,rv,tp⟩:=(show ObjOk P w H h b (.tup [.str _,_]) from ok b _ h1);cases rv with
   |cons q1 rv=>cases rv with
    |cons q2 rv =>
     cases rv;obtain⟨t,rfl⟩:=q1;exact⟨b,t,_,rfl,tp⟩
theorem zDW {ps:List (Str × V)}{vs:List V}{H:Hp}(h:Paired (TxV H) ps vs):∀(ix:List Nat),(∀i∈ix,i<vs.length)->Paired (TxV H) (ix.map λ i=>ps.getD i ("", .non)) (ix.map λ i=>vs.getD i .non)
 |[],_=>.nil
 |i::ix,hx=>by
  refine .cons ?_ (zDW h ix λ j hj=>hx j (lP _ hj));have hi:=hx i lO;obtain⟨p,hp,q⟩:=zAJ h (lW hi);have e1:ps.getD i ("", .non)=p:=by rw[List.getD_eq_getElem?_getD,hp];rfl
  have e2:vs.getD i .non=vs[i]:=by simp[hi]
  dsimp only;rw[e1,e2];exact q
section
variable {X:Cx}
def zMu:List V->Hp->VK->Prop:=λ xs H Q=>∃(l:Addr) (vs:List V) (ps:List (Str × V)),xs=[.ref l]/\H l=some (.lst vs)/\Paired (TxV H) ps vs/\(ps.map (·.1)).Nodup/\ps.length<64 /\
 ∀(l':Addr) (ws:List V) (qs:List (Str × V)),H l'=none->Paired (TxV H) qs ws->qs.Perm ps->Q (.ref l') (upd H l' (.lst ws))
theorem zGI (hu:X.A.units+150<cLine):CallR X (.builtin "sorted") zMu:=by
 intro jP s σ H xs us Q I r h;obtain⟨l,vs,ps,rfl,hl,hp,nd,h64,q⟩:=h;obtain⟨u,rfl,ru⟩:=vals1 r;cases ru;obtain⟨_,its,n0,rv,hlen,el⟩:=I.lstM hl;have hlv:its.length=vs.length:=rv.length.symm;have hlp:ps.length=vs.length:=Paired.length hp;have line:its.length<=sizeLine:=Nat.le_of_lt (zAN (by omega));refine Calls.call_function_entry kind_sorted plain_sorted entry_sorted (args_sorted1 _) ?_;unfold Builtin.«sorted»;refine lA (m:=checkCount "sorted" 1 1 _) (lB ?_);have hL:s.heap.IsList l its.toArray:=⟨_,el,rfl,_,rfl⟩;refine lA (collect_list hL ?_ (by simpa using line));refine lA (wpAny_newList ?_ (by simpa using line))
 have keep1:∀b o,s.heap.get? b=some o->((s.heap.push (seqObj "list" #[] 0)).update s.heap.objs.size (Obj.mapSeq (·++its.toArray))).get? b=some o:=λ b o q=>by
  have hlt:b<s.heap.objs.size:=lI q;rw[Heap.get?_update_ne _ _ _ _ (Nat.ne_of_lt hlt)];exact lG _ q
 show wpAny _ _ _ _ _ { s with heap:=((s.heap.push (seqObj "list" #[] 0)).update s.heap.objs.size (Obj.mapSeq (·++its.toArray))).push { cls:=.type "list", data:=.seq its.toArray } };generalize (s.heap.push (seqObj "list" #[] 0)).update s.heap.objs.size (Obj.mapSeq (·++its.toArray))=h1 at keep1 ⊢;have I1:Inv X jP σ H { s with heap:=h1 }:=I.kept (t':=s.toks) keep1;have hoL:(h1.push { cls:=.type "list", data:=.seq its.toArray }).get? h1.objs.size=some (seqObj "list" its.toArray 0):=lH _ rfl;have hplc:Paired (TxtAt (h1.push { cls:=.type "list", data:=.seq its.toArray })) its (ps.map (·.1)):=zFj (λ b o Ω e=>lG _ e) (zLS I1.hok hp rv);refine lA (lE (wpAny_call_entry slot_list_sort ⟨_,hoL,rfl⟩ entry_list_sort (zFN hoL hplc nd (by omega) (by show X.A.units+1+1<cLine;omega) λ p pm asc=>⟨_,rfl,?_⟩) (args_list_sort _)));have pm':p.toList.Perm (List.range ps.length):=by have:=pm;unfold PermN at this;rw[hlv,←hlp] at this;exact this
 have hix:∀i∈p.toList,i<vs.length:=λ i hi=>by
  have:=List.mem_range.mp (pm'.mem_iff.mp hi);omega
 obtain⟨e,he⟩:∃e,(sortedHeap (h1.push { cls:=.type "list", data:=.seq its.toArray }) h1.objs.size its (List.toArray (p.toList.map λ i=>its.getD i Value.none))).get? h1.objs.size=some (seqObj "list" (List.toArray (p.toList.map λ i=>its.getD i Value.none)) e):=sortedHeap_at hoL;have hn1:=I1.hok.fresh (lQ h1.objs.size);refine lB ⟨_,rfl,⟨.ref h1.objs.size,upd H h1.objs.size (.lst (p.toList.map λ i=>vs.getD i .non)),I1.laid (t':=s.toks) (a:=h1.objs.size) (o:=.lst (p.toList.map λ i=>vs.getD i .non)) (λ b o hb=>?_) (lQ _) ⟨?_,_,e,zDl rv p.toList hix,?_⟩,rfl,q _ _ (p.toList.map λ i=>ps.getD i ("", .non)) hn1 (zDW hp p.toList hix) (zF1 _ ps pm')⟩⟩
 ·rw[sortedHeap_old (Nat.ne_of_lt (Heap.lt_size hb)) (by rw[Heap.size_push];exact Nat.lt_succ_of_lt (lI hb))]
  exact lG _ hb
 ·rw[mD,pm'.length_eq,List.length_range]
  exact Nat.le_of_lt (zAN (by omega))
 ·rw[he]
end
structure FnD1 (P:Program) (w:World) (K:W.Frag) (mg:Str->Option Value) (base:Heap) (k:Nat) (x:Str) (f:Addr) (fd:FuncData) (ps:List Str) (sp:Sp):Prop where
 ok:FnOk P w K mg base CX0 k f fd ps sp
 bd0:Binds K fd ps []
 bd1:Binds K fd ps [.none]
 kp:W.keepIn K (.ref f)=true
 gl:mg x=some (.ref f)
theorem FnD1.up {P:Program}{w:World}{K:W.Frag}{mg:Str->Option Value}{base:Heap}{j k:Nat}{x:Str}{f:Addr}{fd:FuncData}{ps:List Str}{sp:Sp}(F:FnD1 P w K mg base j x f fd ps sp) (h:j<=k):FnD1 P w K mg base k x f fd ps sp:=⟨F.ok.mono h,F.bd0,F.bd1,F.kp,F.gl⟩
theorem Pln.sub {t:Tr}(h:Pln t):∀p∈t.subs,Pln p:=by
 induction t with
 |say a ih=>intro p hp;rcases lN.mp hp with rfl|hp<;>first|exact h|exact ih h p (by simpa[Tr.subs] using hp)
 |bin o a b iha ihb =>
  intro p hp;rw[zB3] at hp;simp only[Tr.parts,rK,List.flatMap_nil,nT,nP,nO] at hp;rcases hp with rfl|hp|hp
  ·exact h
  ·exact iha h.1 p hp
  ·exact ihb h.2 p hp
 |ite a b c iha ihb ihc =>
  intro p hp;rw[zB3] at hp;simp only[Tr.parts,rK,List.flatMap_nil,nT,nP,nO] at hp;rcases hp with rfl|hp|hp|hp
  ·exact h
  ·exact iha h.1 p hp
  ·exact ihb h.2.1 p hp
  ·exact ihc h.2.2 p hp
 |lett x a b=>exact h.elim
 |gap g as=>exact h.elim
 |_=>intro p hp;rw[zB3] at hp;simp only[Tr.parts,List.flatMap_nil,nP,List.not_mem_nil,or_false] at hp;subst hp;exact h
theorem zKA {X:Cx}{o i:Expr}{pos:Pos}{td ty:TE}(P:Program) (w:World) (hP:X.prog=P) (hw:X.w=w) (hu:X.A.units+150<cLine) (ho:PE X o td) (hi:PE X i ty) (hs:NoSl i):PE X (.Subscript o i pos) (tNGet P w td ty):=by
 subst hP hw;exact zIh hu ho hi hs
open Classical in
noncomputable def kindF (ts:List Tr):Option Str:=if ∀t∈ts,t.kd = .num then some "number" else if ∀t∈ts,¬loudT t then some "quiet" else none
noncomputable def optV:Option Str->V
 |some x=>.str x
 |none=>.non
theorem drs2 {H:Hp}{a b:Dt}{us:List V}(h:DRs H [a,b] us):∃u v,us=[u,v]/\DR H a u/\DR H b v:=by
 cases h with
 |cons h1 h=>cases h with
  |cons h2 h=>cases h;exact⟨_,_,rfl,h1,h2⟩
theorem DR.rep {H:Hp}{t:Tr}:Pln t->∀{v:V},DR H (dtT t) v->Rep H t v:=by
 induction t with
 |gap g as=>intro h;exact h.elim
 |lett x a b=>intro h;exact h.elim
 |num n =>
  intro _ v h;cases h with
  |tup h hs=>obtain⟨u,w,rfl,h1,h2⟩:=drs2 hs;cases h1;cases h2;exact⟨_,rfl,h⟩
 |name n =>
  intro _ v h;cases h with
  |tup h hs=>obtain⟨u,w,rfl,h1,h2⟩:=drs2 hs;cases h1;cases h2;exact⟨_,rfl,h⟩
 |ask n =>
  intro _ v h;cases h with
  |tup h hs=>obtain⟨u,w,rfl,h1,h2⟩:=drs2 hs;cases h1;cases h2;exact⟨_,rfl,h⟩
 |stop n =>
  intro _ v h;cases h with
  |tup h hs=>obtain⟨u,w,rfl,h1,h2⟩:=drs2 hs;cases h1;cases h2;exact⟨_,rfl,h⟩
 |say a ih =>
  intro p v h;cases h with
  |tup h hs=>obtain⟨u,w,rfl,h1,h2⟩:=drs2 hs;cases h1;exact⟨_,_,rfl,h,ih p h2⟩
 |bin o a b iha ihb =>
  intro p v h;cases h with
  |tup h hs =>
   cases hs with
   |cons h1 hs =>
    obtain⟨u,w,rfl,h2,h3⟩:=drs2 hs;cases h1;exact⟨_,_,_,rfl,h,iha p.1 h2,ihb p.2 h3⟩
 |ite a b c iha ihb ihc =>
  intro p v h;cases h with
  |tup h hs =>
   cases hs with
   |cons h1 hs=>cases hs with
    |cons h2 hs =>
     obtain⟨u,w,rfl,h3,h4⟩:=drs2 hs;cases h1;exact⟨_,_,_,_,rfl,h,iha p.1 h2,ihb p.2.1 h3,ihc p.2.2 h4⟩
set_option tactic.hygienic true in
theorem zMr {H:Hp}{ts:List Tr}{v:V}(h:DR H (dtRow ts) v) (hp:RowP ts):RowR H ts v:=by
 cases h with
 |tup h hs =>
  refine⟨_,_,rfl,h,?_⟩;have al:=hp.al;clear hp h;rename_i xs
  induction ts generalizing xs with
  |nil=>cases hs;exact .nil
  |cons t ts ih =>
   cases hs with
   |cons h1 hs=>exact .cons (h1.rep (al t lO).1) (ih hs λ x hx=>al x (lP _ hx))
noncomputable def ksOf (ws:WS):List (Str × Str):=ws.filterMap λ q=>(kindF q.1).map λ k=>(q.2,k)
noncomputable def txOf (q:List Tr × Str):Str × V:=(q.2,optV (kindF q.1))
noncomputable def notN (p:Str × V):Bool:=!decide (p.2 = .non)
noncomputable def bkK (p:Str × V):Str × Str:=(p.1,match p.2 with|.str x=>x|_ => "")
theorem zMG (ws:WS):((ws.map txOf).filter notN).map bkK=ksOf ws/\∀p∈(ws.map txOf).filter notN,p.2 = .str (bkK p).2:=by
 induction ws with
 |nil=>exact⟨rfl,λ p hp=>nomatch hp⟩
 |cons q ws ih =>
  cases e:kindF q.1 with
  |none =>
   have e1:notN (txOf q)=false:=by simp[notN,txOf,e,optV]
   have e2:ksOf (q::ws)=ksOf ws:=by unfold ksOf;rw[List.filterMap_cons];simp only[e,Option.map_none]
   rw[mL,List.filter_cons,if_neg (by rw[e1];decide),e2];exact ih
  |some k =>
   have e1:notN (txOf q)=true:=by simp[notN,txOf,e,optV]
   have e2:ksOf (q::ws)=(q.2,k)::ksOf ws:=by unfold ksOf;rw[List.filterMap_cons];simp only[e,Option.map_some]
   have e3:bkK (txOf q)=(q.2,k):=by simp[bkK,txOf,e,optV]
   rw[mL,List.filter_cons,if_pos e1,e2,mL,e3,ih.1];refine⟨rfl,λ p hp=>?_⟩;rcases lN.mp hp with rfl|hp
   ·rw[e3];simp[txOf,e,optV]
   ·exact ih.2 p hp
theorem TxV.mono {H H':Hp}(k:Tk H H') {p:Str × V}{v:V}:TxV H p v->TxV H' p v
 |⟨b,e,h⟩=>⟨b,e,k _ _ h⟩
theorem zMq {H H':Hp}(k:Tk H H') {qs:List (Str × V)}{us:List V}(pq:Paired (TxV H) qs us):(∀p∈qs,p.2 = .str (bkK p).2)->Paired (RpK H') (qs.map bkK) us:=by
 induction pq with
 |nil=>intro _;exact .nil
 | @cons p v ps vs h1 _ ih =>
  intro hq;obtain⟨b,e,hb⟩:=h1;refine .cons ⟨b,e,?_⟩ (ih λ x hx=>hq x (lP _ hx));rw[hq p List.mem_cons_self] at hb;exact k _ _ hb
theorem zMZ {ws:WS}(hn:WsN ws) (hw:∀q∈ws,RowP q.1) {q:List Tr × Str}(hq:q∈ws):valV (ws.map kvW) (dtRow q.1)=some (.str q.2):=by
 rcases zKv ws q.1 (hw q hq) hw with ⟨g,hg,hv⟩|⟨h,_⟩
 ·have e:g=q.2:=by
   obtain⟨i,hi,ei⟩:=List.mem_iff_getElem.mp hg.mem;obtain⟨j,hj,ej⟩:=List.mem_iff_getElem.mp hq;have:i=j:=(List.getElem_inj (xs:=ws.map (·.1)) (h₀:=by simpa using hi) (h₁:=by simpa using hj) hn.r).mp (by simp[ei,ej]);subst this;rw[ei] at ej;rw[←ej]
  rw[hv,e]
 ·exact absurd rfl (h q hq)
theorem zJd {P:Program}{w:World}{K:W.Frag}{mg:Str->Option Value}{base:Heap}{N:List Str}{qual:Str}{scope:Scope}{f:Addr}{cd:Value}{A:Around}{outer:List Env}{s:Shared}{H:Hp}{E:XK} :
  zE4 (CXG P w) (cxOf (CXF P w) P w K mg base N qual scope f cd A outer s H E) (λ C Ω H'=>E C none H'):=by
 rintro jP σ H1 s1 e s' I ⟨ea,C,dd,H',rfl,F,_,q⟩;exact zHU jP σ H1 s1 _ s' I ⟨ea,C,H',rfl,F,q⟩
theorem Due.uniq' {t u:Tr}{ks ks':List (Str × Str)}:∀{L:List (Str × RP)}{r r':Option Str},(∀q∈L,q.2 t u ks↔q.2 t u ks')->Due t u ks L r->Due t u ks' L r'->r=r':=by
 intro L r r' h a
 induction a generalizing r' with
 |nil=>intro b;cases b;rfl
 |yes y =>
  intro b;cases b with
  |yes _=>rfl
  |no n _=>exact absurd ((h _ lO).mp y) n
 |no n _ ih =>
  intro b;cases b with
  |yes y=>exact absurd ((h _ lO).mpr y) n
  |no _ b=>exact ih (λ q hq=>h q (lP _ hq)) b
theorem Cln.sub {t:Tr}(h:Cln t):∀p∈t.subs,Cln p:=by
 induction t with
 |say a ih=>intro p hp;rcases lN.mp hp with rfl|hp<;>first|exact h|exact ih h p (by simpa[Tr.subs] using hp)
 |bin o a b iha ihb =>
  intro p hp;rw[zB3] at hp;simp only[Tr.parts,rK,List.flatMap_nil,nT,nP,nO] at hp;rcases hp with rfl|hp|hp
  ·exact h
  ·exact iha h.1 p hp
  ·exact ihb h.2 p hp
 |ite a b c iha ihb ihc =>
  intro p hp;rw[zB3] at hp;simp only[Tr.parts,rK,List.flatMap_nil,nT,nP,nO] at hp;rcases hp with rfl|hp|hp|hp
  ·exact h
  ·exact iha h.1 p hp
  ·exact ihb h.2.1 p hp
  ·exact ihc h.2.2 p hp
 |lett x a b=>exact h.elim
 |name x=>exact h.elim
 |_=>intro p hp;rw[zB3] at hp;simp only[Tr.parts,List.flatMap_nil,nP,List.not_mem_nil,or_false] at hp;subst hp;exact h
theorem Cln.gap {t:Tr}(h:Cln t) {g:Str}{as:List Atom}(hm:.gap g as∈t.subs):as=[]:=h.sub _ hm
theorem Cln.fv {t:Tr}(h:Cln t):∀bs,t.fv bs=[]:=by
 induction t with
 |say a ih=>intro bs;exact ih h bs
 |bin o a b iha ihb=>intro bs;simp only[Tr.fv,iha h.1 bs,ihb h.2 bs,nT]
 |ite a b c iha ihb ihc=>intro bs;simp only[Tr.fv,iha h.1 bs,ihb h.2.1 bs,ihc h.2.2 bs,nT]
 |lett x a b=>exact h.elim
 |name x=>exact h.elim
 |gap g as=>intro bs;cases h;simp[Tr.fv,Tr.names]
 |_=>intro bs;simp[Tr.fv,Tr.names]
theorem zKk {t u:Tr}{ks ks':List (Str × Str)}(hu:Cln u) (hp:ks.Perm ks'):∀q∈zAt,q.2 t u ks↔q.2 t u ks':=by
 have nb:∀ks,¬∃g∈u.subs.filter isGap,badP ks g:=by
  rintro ks ⟨g,hg,g',as,rfl,a,ha,_⟩;have:=hu.gap (List.mem_filter.mp hg).1;subst this;cases ha
 intro q hq;simp only[zAt,nP,List.mem_nil_iff,or_false] at hq;rcases hq with rfl|rfl|rfl|rfl|rfl|rfl|rfl
 ·exact Iff.rfl
 ·exact Iff.rfl
 ·exact Iff.rfl
 ·constructor<;>(rintro (h|h|h)<;>first|exact .inl h|exact .inr (.inl h)|exact absurd h (nb _))
 ·exact Iff.rfl
 ·show (∃k∈ks,_)↔(∃k∈ks',_)
  simp only[hp.mem_iff]
 ·exact Iff.rfl
structure RdF (ps:List (Tr × Tr)) (t u:Tr) (ks:List (Str × Str)):Prop where
 ex:∃ws1 L1 ws2 L2,Cs [] [ps.map (·.1)] ws1 L1/\zBU L1.reverse []=[t]/\Cs ws1 [ps.map (·.2)] ws2 L2/\zBU L2.reverse []=[u]/\ks.Perm (ksOf ws2)
def PrG (ps:List (Tr × Tr)):Prop:=∀q∈ps,(Pln q.1/\dpT q.1<=7/\q.1.size<=30)/\Pln q.2/\dpT q.2<=7/\q.2.size<=30
theorem PrG.q1 {ps:List (Tr × Tr)}(g:PrG ps) (o:PrOk ps):RowQ (ps.map (·.1))/\sz0 (ps.map (·.1))<=30:=by
 have h1:=o.1;have h2:=o.2.1;refine⟨⟨by rw[mD];omega,by rw[mD];omega,by rw[mD];omega,λ t ht=>?_⟩,?_⟩
 ·obtain⟨q,hq,rfl⟩:=mC.mp ht
  obtain⟨a,b,c⟩:=(g q hq).1;exact⟨a,b,by omega⟩
 ·cases ps with
  |nil=>simp at h1
  |cons q ps=>exact(g q lO).1.2.2
theorem PrG.q2 {ps:List (Tr × Tr)}(g:PrG ps) (o:PrOk ps):RowQ (ps.map (·.2))/\sz0 (ps.map (·.2))<=30:=by
 have h1:=o.1;have h2:=o.2.1;refine⟨⟨by rw[mD];omega,by rw[mD];omega,by rw[mD];omega,λ t ht=>?_⟩,?_⟩
 ·obtain⟨q,hq,rfl⟩:=mC.mp ht
  obtain⟨a,b,c⟩:=(g q hq).2;exact⟨a,b,by omega⟩
 ·cases ps with
  |nil=>simp at h1
  |cons q ps=>exact(g q lO).2.2.2
theorem Cln.cnt {t:Tr}(h:Cln t):∀p∈t.subs,(cnt1 p).length<=10:=by
 intro p hp;have hc:=h.sub p hp;cases p with
 |gap g as=>cases hc;exact(by show 1<=10;decide)
 |_=>exact lY _
theorem Sx.out {d:Addr}{H H2 H':Hp}(g:Same H H2) (hd:H d=none) (k:Sx d H2 H'):Same H H':=λ b u e=>k b u (λ z=>by rw[z,hd] at e;cases e) (g b u e)
theorem wsN0:WsN []:=⟨List.nodup_nil,List.nodup_nil⟩
theorem RdF.uniq {ps:List (Tr × Tr)}{t u t' u':Tr}{ks ks':List (Str × Str)}(a:RdF ps t u ks) (b:RdF ps t' u' ks'):t=t'/\u=u'/\ks.Perm ks':=by
 obtain⟨ws1,L1,ws2,L2,c1,e1,c2,e2,p⟩:=a;obtain⟨ws1',L1',ws2',L2',c1',e1',c2',e2',p'⟩:=b;obtain⟨rfl,rfl⟩:=c1.uniq c1';obtain⟨rfl,rfl⟩:=c2.uniq c2';rw[e1] at e1';rw[e2] at e2';cases e1';cases e2';exact⟨rfl,rfl,p.trans p'.symm⟩
theorem RdF.cln {ps:List (Tr × Tr)}{t u:Tr}{ks:List (Str × Str)}(a:RdF ps t u ks) (o:PrOk ps) (g:PrG ps):Cln u:=by
 obtain⟨ws1,L1,ws2,L2,c1,e1,c2,e2,p⟩:=a;obtain⟨r,f1,_,_,wp,nd,_⟩:=c1.tree (g.q1 o).1 (λ q hq=>nomatch hq) wsN0
 obtain⟨r2,f2,sh,_⟩:=c2.tree (g.q2 o).1 wp nd;rw[e2] at f2;cases f2;exact sh.1
structure RdO (ps:List (Tr × Tr)) (b:Bool):Prop where
 ex:∃t u ks r,RdF ps t u ks/\Due t u ks zAt r/\b=r.isNone
theorem RdO.uniq {ps:List (Tr × Tr)}{b b':Bool}(o:PrOk ps) (g:PrG ps) (h:RdO ps b) (k:RdO ps b'):b=b':=by
 obtain⟨t,u,ks,r,h1,h2,rfl⟩:=h;obtain⟨t',u',ks',r',k1,k2,rfl⟩:=k;obtain⟨rfl,rfl,p⟩:=h1.uniq k1;rw[Due.uniq' (zKk (h1.cln o g) p) h2 k2]
theorem zF7 (ws:WS):((ksOf ws).map (·.1)).Sublist (ws.map (·.2)):=by
 induction ws with
 |nil=>exact List.Sublist.refl _
 |cons q ws ih =>
  unfold ksOf at ih ⊢;rw[List.filterMap_cons];cases kindF q.1 with
  |none=>exact ih.cons _
  |some k=>exact ih.cons_cons _
theorem zGc {n d:Nat}{v:Int}(h0:0<=v) (h1:v<=n):HT.sIx n d (some v)=v.toNat:=by
 have e:((v.toNat:Nat):Int)=v:=by omega
 rw[←e,HT.sIx_nat,Int.toNat_natCast];omega
theorem zJf {ns:List Int}{lo hi:Option Int}{i j:Nat}(h1:HT.sIx ns.length 0 lo=i) (h2:HT.sIx ns.length ns.length hi=j) (h:j<=ns.length):∃ms:List Int,cutV (ns.map V.int) lo hi=ms.map V.int/\ms.length=j - i:=by
 refine⟨(ns.drop i).take (j - i),?_,?_⟩
 ·unfold cutV
  rw[mD,h1,h2,←List.map_drop,←List.map_take]
 ·rw[mO,mX]
  omega
theorem zJm {α:Type}{xs:List α}{i:Int}(h0:0<=i) (h1:i<(xs.length:Int)):∃x∈xs,atI xs i=some x:=by
 obtain⟨k,rfl⟩:=Int.eq_ofNat_of_zero_le h0;have hk:k<xs.length:=by omega
 exact⟨xs[k],List.getElem_mem hk,zAP (lW hk)⟩
structure PtT (t:Tr) (n:Nat) (d:Int):Prop where
 pl:Pln t
 dp:(dpT t:Int)<=d+1
 sz:t.size<=3 * n+1
theorem leaf4 {z:Int}(z0:0<=z) (z4:z<4):∃(s:Str) (t:Str->Tr),atI [V.str "name", V.str "name", V.str "ask", V.str "stop"] z=some (.str s)/\(∀x,Pln (t x)/\dpT (t x)=1/\(t x).size=1)/\∀(H:Hp) (p:Addr) x,H p=some (.tup [.str s,.str x])->Rep H (t x) (.ref p):=by
 rcases (show z=0\/z=1\/z=2\/z=3 by omega) with rfl|rfl|rfl|rfl
 ·exact⟨_,.name,rfl,λ x=>⟨True.intro,rfl,rfl⟩,λ H p x h=>⟨p,rfl,h⟩⟩
 ·exact⟨_,.name,rfl,λ x=>⟨True.intro,rfl,rfl⟩,λ H p x h=>⟨p,rfl,h⟩⟩
 ·exact⟨_,.ask,rfl,λ x=>⟨True.intro,rfl,rfl⟩,λ H p x h=>⟨p,rfl,h⟩⟩
 ·exact⟨_,.stop,rfl,λ x=>⟨True.intro,rfl,rfl⟩,λ H p x h=>⟨p,rfl,h⟩⟩
theorem sign8 {z:Int}(z0:0<=z) (z8:z<8):∃(s:Str),atI [V.str "say", V.str "add", V.str "sub", V.str "mul", V.str "then", V.str "if", V.str "add", V.str "if"] z=some (.str s)/\(s = "say" \/ s = "if" \/ ∃o:Bin,s=o.s):=by
 rcases (show z=0\/z=1\/z=2\/z=3\/z=4\/z=5\/z=6\/z=7 by omega) with rfl|rfl|rfl|rfl|rfl|rfl|rfl|rfl
 ·exact⟨_,rfl,.inl rfl⟩
 ·exact⟨_,rfl,.inr (.inr ⟨.add,rfl⟩)⟩
 ·exact⟨_,rfl,.inr (.inr ⟨.sub,rfl⟩)⟩
 ·exact⟨_,rfl,.inr (.inr ⟨.mul,rfl⟩)⟩
 ·exact⟨_,rfl,.inr (.inr ⟨.thn,rfl⟩)⟩
 ·exact⟨_,rfl,.inr (.inl rfl)⟩
 ·exact⟨_,rfl,.inr (.inr ⟨.add,rfl⟩)⟩
 ·exact⟨_,rfl,.inr (.inl rfl)⟩
theorem zGe {t:Tr}{ps:List Tr}(h:ps.length=t.parts.length):(t.withP ps).parts=ps:=by
 cases t with
 |say a=>match ps,h with | [_],_=>rfl
 |bin o a b=>match ps,h with | [_,_],_=>rfl
 |ite a b c=>match ps,h with | [_,_,_],_=>rfl
 |lett x a b=>match ps,h with | [_,_],_=>rfl
 |_=>exact(nM.mp h).symm
theorem zIH:∀(l:List Nat) (j x y:Nat),l[j]?=some y->(l.set j x).sum+y=l.sum+x
 |[],_,_,_,h=>by simp at h
 |a::l,0,x,y,h=>by simp at h;subst h;simp;omega
 |a::l,j+1,x,y,h=>by have:=zIH l j x y (by simpa using h);simp;omega
theorem zNH {t u u':Tr}{j:Nat}(hj:t.parts[j]?=some u) (hl:Let1 u') (hs:u'.size<=u.size+2):Let1 (t.withP (t.parts.set j u'))/\(t.withP (t.parts.set j u')).size<=t.size+2:=by
 have hp:(t.withP (t.parts.set j u')).parts=t.parts.set j u':=zGe (by simp);have hjl:=(lJ.mp hj).1;refine⟨?_,?_⟩
 ·obtain⟨p,hp',e⟩:=hl
  refine⟨p,?_,e⟩;rw[zB3,hp];refine lP _ (mY.mpr ⟨u',?_,hp'⟩);exact List.mem_iff_getElem?.mpr ⟨j,by rw[rL hjl]⟩
 ·have e1:=zD6 t
  have e2:=zD6 (t.withP (t.parts.set j u'));rw[hp,List.map_set] at e2;have:=zIH (t.parts.map Tr.size) j u'.size u.size (by rw[mJ,hj];rfl);omega
structure PlnB (H:Hp) (t:Tr) (ys:List V):Prop where
 pr:Paired (Rep H) t.parts ys
 ne:ys≠[]
 bu:∀{ps:List Tr}{H':Hp}{p:Addr}{ws:List V},ps.length=t.parts.length->H' p=some (.tup (.str t.sign::ws))->Paired (Rep H') ps ws->Rep H' (t.withP ps) (.ref p)
noncomputable def ixs (n:Nat):List V:=(List.range n).map λ(i:Nat)=>V.int (1+(i:Int))
theorem zI9 (n:Nat):(ixs n).length=n:=by simp[ixs]
theorem zNQ {n i:Nat}(h:i<n):atI (ixs n) (i:Int)=some (.int (1+(i:Int))):=zAP (by unfold ixs;rw[mJ,List.getElem?_range h];rfl)
theorem Rep.pln {H:Hp}{t:Tr}{v:V}(h:Rep H t v) (p:Pln t):∃a ys,v = .ref a/\H a=some (.tup (.str t.sign::ys))/\((∃y,ys=[y]/\((∃i,y = .int i)\/∃x,y = .str x))\/PlnB H t ys):=by
 cases t with
 |gap g as=>exact p.elim
 |lett x a b=>exact p.elim
 |num n=>obtain⟨a,e,h⟩:=h;exact⟨a,_,e,h,.inl ⟨_,rfl,.inl ⟨_,rfl⟩⟩⟩
 |name n=>obtain⟨a,e,h⟩:=h;exact⟨a,_,e,h,.inl ⟨_,rfl,.inr ⟨_,rfl⟩⟩⟩
 |ask n=>obtain⟨a,e,h⟩:=h;exact⟨a,_,e,h,.inl ⟨_,rfl,.inr ⟨_,rfl⟩⟩⟩
 |stop n=>obtain⟨a,e,h⟩:=h;exact⟨a,_,e,h,.inl ⟨_,rfl,.inr ⟨_,rfl⟩⟩⟩
 |say t =>
  obtain⟨a,u,e,h,r⟩:=h;refine⟨a,_,e,h,.inr ⟨.cons r .nil,(λ z=>nomatch z),λ{ps H' p ws} hl e' q=>?_⟩⟩
  match ps,hl with
  |[c],_=>cases q with|cons r1 q=>cases q;exact⟨_,_,rfl,e',r1⟩
 |bin o t t2 =>
  obtain⟨a,u,w,e,h,r,r2⟩:=h;have es:(Tr.bin o t t2).sign=o.s:=Bin.kd_s o;refine⟨a,_,e,(by rw[es];exact h),.inr ⟨.cons r (.cons r2 .nil),(λ z=>nomatch z),λ{ps H' p ws} hl e' q=>?_⟩⟩
  rw[es] at e'
  match ps,hl with
  |[c,d],_=>cases q with|cons r1 q=>cases q with|cons r2 q=>cases q;exact⟨_,_,_,rfl,e',r1,r2⟩
 |ite t t2 t3 =>
  obtain⟨a,u,w,z,e,h,r,r2,r3⟩:=h;refine⟨a,_,e,h,.inr ⟨.cons r (.cons r2 (.cons r3 .nil)),(λ z=>nomatch z),λ{ps H' p ws} hl e' q=>?_⟩⟩
  match ps,hl with
  |[c,d,f],_=>cases q with|cons r1 q=>cases q with|cons r2 q=>cases q with|cons r3 q=>cases q;exact⟨_,_,_,_,rfl,e',r1,r2,r3⟩
theorem zCa {α:Type}{F:α->V->Prop}{x:α}{u:V}(r:F x u) {as:List α}{us:List V}(p:Paired F as us):∀(i:Nat),Paired F (as.set i x) (us.set i u):=by
 induction p with
 |nil=>intro i;exact .nil
 |cons q t ih =>
  intro i;cases i with
  |zero=>exact .cons r t
  |succ i=>exact .cons q (ih i)
theorem zI4 {t:Tr}:Let1 (.lett "a" t (.name "a"))/\Let1 (.lett "a" (.name "a") t):=by
 refine⟨⟨.lett "a" t (.name "a"),?_,rfl⟩,⟨.lett "a" (.name "a") t,?_,rfl⟩⟩<;>(rw[zB3];exact lO)
theorem zIg {X:Cx}{a b:Expr}{ta tb:TE}{pos:Pos}{op:Operator}{r:R2}(ho:OpR X (binaryOp op) r) (ha:Sd (PE X a ta)) (hb:Sd (PE X b tb)):Sd (PE X (.BinOp a op b pos) (tOp r ta tb)):=⟨pe_op ho ha.un hb.un⟩
theorem pa_cS {X:Cx}{es:List Expr}{te:TE}{tA:TA}{c:Const}{k:Nat}{p:Pos}(ha:Sd (PE X (.Constant c k p) te)) (hr:Sd (PA X es tA)):Sd (PA X (.Constant c k p::es) (tCons te tA)):=⟨zAB ha.un hr.un rfl⟩
theorem zK4 {X:Cx}{st:List Stmt}{G:TS->Prop}(h:∃t,Sd (PSs X st t)/\G t):∃t,PSs X st t/\G t:=h.elim λ t ht=>⟨t,ht.1.un,ht.2⟩
theorem zLi {X:Cx}{pos:Pos}{h0:ExceptHandler}{hs:List ExceptHandler}{body orelse:List Stmt}{tb:Ends->TS}{to:TS}(hb:∀jP D,Sd (PSs (X.inTry (h0::hs) jP D) body (tb D))) (ho:Sd (PSs X orelse to)) :
  Sd (PS X (.Try body (h0::hs) orelse [] pos) (λ D σ H=>tb D { D with nx:=to D } σ H)):=⟨zMy (λ jP D=>(hb jP D).un) ho.un⟩
def rNeRL:R2:=λ x y H Q=>∃(p r:Addr) (xs:List V),x = .ref p/\y = .ref r/\H p=some (.lst xs)/\H r=some (.lst xs)/\(∀x∈xs,∃b,x = .ref b)/\Q (.bl false) H
theorem zLw {X:Cx}(hu:X.A.units<cLine):OpR X (compareOp .NotEq) rNeRL:=by
 intro jP s σ H x y v u Q I rx ry h;obtain⟨p,r,xs,rfl,rfl,hp,hr,hx,q⟩:=h;cases rx;cases ry;obtain⟨_,its,n,r1,l1,e1⟩:=I.lstM hp;obtain⟨_,its2,n2,r2,l2,e2⟩:=I.lstM hr;have L1:s.heap.IsList p its.toArray:=⟨_,e1,rfl,_,rfl⟩;have L2:s.heap.IsList r its2.toArray:=⟨_,e2,rfl,_,rfl⟩;refine SeqAt.RcNeAt.lists (e:=λ Ω=>true) L1 L2 (by simp;omega) hu (λ j h1 h2=>?_) _ _ _ _ ?_
 ·have k1:=r1.length
  have k2:=r2.length;have g1:j<xs.length:=by rw[k1];simpa using h1
  obtain⟨u1,eu,q1⟩:=r1.get (lW g1);obtain⟨u2,ev,q2⟩:=r2.get (lW g1);obtain⟨b,eb⟩:=hx _ (List.getElem_mem g1);rw[eb] at q1 q2;cases q1;cases q2;have z1:its.toArray[j] = .ref b:=by obtain⟨_,q⟩:=lJ.mp eu;simpa using q
  have z2:its2.toArray[j] = .ref b:=by obtain⟨_,q⟩:=lJ.mp ev;simpa using q
  rw[z1,z2];exact SeqAt.EqAt.same _
 ·have:((List.range its.toArray.size).all λ Ω=>true)=true:=by simp
  rw[this];exact⟨.bl false,H,I,rfl,q⟩
theorem pa_nS {X:Cx}{es:List Expr}{te:TE}{tA:TA}{x:Str}{p:Pos}(ha:Sd (PE X (.Name x p) te)) (hr:Sd (PA X es tA)):Sd (PA X (.Name x p::es) (tCons te tA)):=⟨zAB ha.un hr.un rfl⟩
theorem zFI {X:Cx}{CX:CXT}{k:Nat}{f:Addr}{fd:FuncData}{ps:List Str}{sp:Sp}{ds:List Value}{dvs:List V}{E:XK}{x:Str}{p pos:Pos}{e:Expr}{es:List Expr}{t:TA}(F:FnOk X.prog X.w X.K X.mg X.base CX k f fd ps sp) (hr:Room k X.A) (hg:Gl X x) (hm:X.mg x=some (.ref f)) (hk:W.keepIn X.K (.ref f)=true) (hb:Binds X.K fd ps ds) (hd:Vals dvs ds) (hx:zE4 CX X E)
  (ha:Sd (PA X (e::es) t)) (hdb:(x == ("__debug__" : Str))=false:=by decide) (he:starEach (e::es) X.env=(false,eval e X.env)::starEach es X.env:=by rfl) (hpl:(backTo pos (starEach es X.env)).any (·.1)=false:=by rfl) :
  Sd (PE X (.Call (.Name x p) (e::es) [] pos) (tCall sp dvs E t)):=⟨zD5 F hr hg hm hk hb hd hx ha.un hdb he hpl⟩
def PrP (ps:List (Tr × Tr)):Prop:=∀q∈ps,(Pln q.1/\dpT q.1<=7/\q.1.size<=30)/\Pln q.2/\dpT q.2<=7/\q.2.size<=30
theorem Pln.nolet {t:Tr}(h:Pln t):¬Let1 t:=by
 rintro⟨p,hp,e⟩;exact(h.sub p hp).nl e
theorem PrP.ok {ps:List (Tr × Tr)}(h:PrP ps):PrOk ps↔1<=ps.length/\ps.length<=8:=⟨λ o=>⟨o.1,o.2.1⟩,λ o=>⟨o.1,o.2,λ q hq=>⟨(h q hq).1.1.nolet,(h q hq).2.1.nolet⟩⟩⟩
theorem cutN {ns:List Int}(lo hi:Nat) (h:lo<=hi):∃ms:List Int,cutV (ns.map V.int) (some (lo:Int)) (some (hi:Int))=ms.map V.int/\ms.length<=hi - lo:=by
 refine⟨(ns.drop (min lo ns.length)).take (min hi ns.length - min lo ns.length),?_,?_⟩
 ·unfold cutV
  rw[mD,HT.sIx_nat,HT.sIx_nat,←List.map_drop,←List.map_take]
 ·rw[mO]
  omega
theorem PtT.g {t:Tr}{n:Nat}(h:PtT t n 5) (hn:n<=6):Pln t/\dpT t<=7/\t.size<=30:=⟨h.pl,by have:=h.dp;omega,by have:=h.sz;omega⟩
structure SpO (ps qs:List (Tr × Tr)) (b:Bool):Prop where
 ln:qs.length=ps.length
 sz:∀q∈qs,q.1.size<=60/\q.2.size<=60
 no:b=false->qs=ps
 ye:b=true->∃q∈qs,Let1 q.1\/Let1 q.2
theorem SpO.ok {ps qs:List (Tr × Tr)}{b:Bool}(h:SpO ps qs b) (hp:PrP ps):PrOk qs↔(1<=ps.length/\ps.length<=8)/\b=false:=by
 cases b with
 |false=>rw[h.no rfl,hp.ok];simp
 |true =>
  refine⟨λ o=>?_,λ o=>nomatch o.2⟩
  obtain⟨q,hq,z⟩:=h.ye rfl;have:=o.2.2 q hq;exact(z.elim this.1 this.2).elim
theorem SpO.g {ps qs:List (Tr × Tr)}{b:Bool}(h:SpO ps qs b) (hp:PrP ps) (o:PrOk qs):PrG qs:=by
 have:=((h.ok hp).mp o).2;rw[h.no this];exact hp
set_option tactic.hygienic true in
theorem zGR {K:Frag}{R:Addr}{newId:String}(q:excIn K R mroVE newId=true):tailIn K mroVE (.ref R::mroVE)=true:=by
 unfold excIn at q;split at q
 ·rename_i dd cd sl ho
  split at q
  ·simp only[Bool.and_eq_true,beq_iff_eq,Bool.not_eq_true'] at q
   obtain⟨⟨⟨⟨_,_⟩,_⟩,hok⟩,hni⟩:=q;unfold tailIn;refine Bool.or_eq_true_iff.mpr (.inr ?_);dsimp only;rw[ho];simp only[Bool.and_eq_true,beq_iff_eq];refine⟨⟨hok,hni⟩,?_⟩;unfold tailIn;exact Bool.or_eq_true_iff.mpr (.inl (beq_self_eq_true _))
  ·cases q
 ·cases q
end L2
namespace K72
open PySem PySem.Spec L2 PyProof.Rows
section
variable {P:Program}{w:World}{K:W.Frag}{mg:Str->Option Value}{base:Heap}{k n:Nat}{D R cF cN cR cU f g g1 g2 g3 g4 kv la lv:Addr}{fd gd gd1 gd2 gd3 gd4:FuncData}
def top (i:Nat):Stmt:=PySem.Challenge.pw_recastle_k72_pairs_refused.main.body.getD i (.Pass ⟨0,0,0,0⟩)
abbrev zB6:Stmt:=top 7
theorem zEW:zAQ ["tree"] ["tree"] (zAH zB6):=scI
abbrev zGb:Stmt:=top 8
theorem zJy:zAQ ["tree"] ["tree"] (zAH zGb):=scI
abbrev zCi:Stmt:=top 10
theorem zBD:zAQ ["tree", "found", "level", "deeper", "part"] ["tree"] (zAH zCi):=scI
abbrev zBr:Stmt:=top 11
theorem zAb:zAQ ["tree", "found", "level", "deeper", "place", "part", "number", "inner"] ["tree"] (zAH zBr):=scI
noncomputable def zC6 (t:Tr):Int:=t.head
def zBm:Sp:=λ vs H Q Ω=>E2 λ t v=>A3 (vs=[v]) (Rep H t v) (Q (.int (zC6 t)) H)
theorem zEb {k:Nat}{f:Addr}{fd:FuncData}{lv:Addr}(F:Fun K "parts_begin" "parts_begin" zB6 f fd) (z_len:mg "len" = none) (zNc:mg "LEAF_SIGNS" = some (.ref lv)) (hL:zC8 K lv) :
  FnOk P w K mg base CX0 (k+1) f fd ["tree"] zBm:=by
 refine F.ok zEW (λ vs H Q E h=>?_) (λ cdv A outer s H vs Q E hr h=>?_)
 ·obtain⟨t,v,rfl,_⟩:=h
  rfl
 obtain⟨t,v,rfl,hR,q⟩:=h
 refine⟨_,(zAE (ps_if (zAR (r:=rIn K false) zBf (iC (r:=rIxT K) zAS (pv 0)) (zBB (v:=.ref _) (by rfl) zNc (by rfl)) rfl) (zAF (zAV (cL z_len (zAB (pv 0) zAD)))) zAY)
  (zAE (ps_if (zAR op_eq (iC (r:=rIxT K) zAS (pv 0)) zAX (zAW _)) (zAF (zAV zAI)) zAY)
  (zAF (zAV zAI)))),?_⟩
 obtain⟨a,hs,us,rfl,ha,hl,hp⟩:=hR.all;have h0:atI (V.str t.kd.s::hs++us) 0=some (.str t.kd.s):=zAP (j:=0) rfl;refine⟨_,rfl,a,_,0,_,rfl,rfl,SqT.of ha,h0,lv,zDT,rfl,.inr (.inr hL),rfl,rfl,_,rfl,?_⟩;show if inV (.str t.kd.s) zDT=true then _ else _
 rw[zFU];refine ite2 (λ c=>?_) (λ c=>?_)
 ·refine⟨_,rfl,a,_,rfl,.inr (SqT.of ha),?_⟩
  have e:((V.str t.sign::hs++us).length:Int)=zC6 t:=by
   have hu:us.length=0:=by
    rw[←hp.length];cases t with
    |bin o a b=>cases o<;>cases c
    |_=>first|rfl|cases c
   rw[mK,mM,hu];unfold zC6;omega
  rw[e];exact q
 ·refine⟨_,rfl,a,_,0,_,rfl,rfl,SqT.of ha,h0,rfl,_,rfl,?_⟩
  refine ite2 (λ d=>?_) (λ d=>?_)
  ·have z:t.kd = .lett:=Kd.eq_iff.mp (lT d)
   have e:zC6 t=2:=by
    cases t with
    |lett x a b=>rfl
    |bin o a b=>cases o<;>cases z
    |_=>cases z
   rw[e] at q;exact q
  ·have e:zC6 t=1:=by
    cases t with
    |lett x a b=>exact absurd rfl d
    |bin o a b=>rfl
    |ite a b c=>rfl
    |say a=>rfl
    |_=>exact absurd rfl c
   rw[e] at q;exact q
def zCV:Sp:=λ vs H Q Ω=>E2 λ t v=>A3 (vs=[v]) (Rep H t v) (∀p H' us,Same H H'->H' p=some (.tup us)->Paired (Rep H') t.parts us->Q (.ref p) H')
theorem zKH (F:Fun K "parts" "parts" zGb f fd) (zNd:FnB P w K mg base k "parts_begin" g gd ["tree"] zBm) :
  FnOk P w K mg base CX0 (k+1) f fd ["tree"] zCV:=by
 refine F.ok zJy (λ vs H Q E h=>?_) (λ cdv A outer s H vs Q E hr h=>?_)
 ·obtain⟨t,v,rfl,_⟩:=h
  rfl
 obtain⟨t,v,rfl,hR,q⟩:=h;refine⟨_,(zAF (zAV (zA8 zDq (pv 0) (zA4 (pe_cl zNd hr (zAB (pv 0) zAD))) zCO))),?_⟩;obtain⟨a,hs,us,rfl,ha,hl,hp⟩:=hR.all;have hn:(V.str t.sign::hs++us).length=t.head+us.length:=by rw[mK,mM];omega
 have h1:=zKc t
 have e1:HT.sIx (V.str t.sign::hs++us).length 0 (some (zC6 t))=t.head:=by
  show HT.sIx _ 0 (some ((t.head:Nat):Int))=_;rw[HT.sIx_nat,hn];omega
 have e2:cutV (V.str t.sign::hs++us) (some (zC6 t)) none=us:=by
  unfold cutV;rw[e1,HT.sIx_none,hn]
  have:(V.str t.sign::hs++us).drop t.head=us:=by
   rw[←hl];exact List.drop_left' rfl
  rw[this,mW (by omega)]
 refine⟨_,rfl,_,rfl,t,_,rfl,hR,_,rfl,a,_,rfl,ha,λ z=>?_,λ p H' g e=>?_⟩
 ·rw[e1] at z
  omega
 ·rw[e2] at e
  exact q p H' us g e (Paired.mapP hp λ Ω Ω r=>r.mono g.tk)
def zFv:Sp:=λ vs H Q Ω=>E2 λ(t:Tr) (v:V)=>A4 (vs=[v]) (Rep H t v) (t.size<=60) (∀(l:Addr) (us:List V) (F:List Tr) (H':Hp),Same H H'->H' l=some (.lst us)->Paired (Rep H') F us->F.Perm t.subs->Q (.ref l) H')
theorem zNE (F:Fun K "all_parts" "all_parts" zCi f fd) (zNe:FnB P w K mg base k "parts" g1 gd1 ["tree"] zCV):FnOk P w K mg base CX0 (k+1) f fd ["tree"] zFv:=by
 refine F.ok zBD (λ vs H Q E h=>?_) (λ cdv A outer s H vs Q E hr h=>?_)
 ·obtain⟨t,v,rfl,_⟩:=h
  rfl
 obtain⟨t,v,rfl,hR,hsz,q⟩:=h
 refine⟨_,(zAE (pS (i:=1) zBD.nd (zA1 zAD:PE _ _ _))
  (zAE (pS (i:=2) zBD.nd (zA1 (zAB (pv 0) zAD):PE _ _ _))
  (zAE (zCZ PassesOwn.never (zCw (pv 2) (λ Ω=>rfl)) (zAE (zBw (pe_bm rV rZ tE zC2 (pv 1) (zAB (pv 2) zAD)))
  (zAE (pS (i:=3) zBD.nd (zA1 zAD:PE _ _ _))
  (zAE (zA5 PassesOwn.never rfl (zAs (pv 2)) (pGn (i:=4) zBD.nd) (zAF (zBw (pe_bm rV rZ tE zHy (pv 3) (zAB (pe_cl zNe hr (zAB (pv 4) zAD)) zAD)))))
  (zAF (pS (i:=2) zBD.nd (pv 3)))))))
  (zAF (zAV (pv 1)))))),?_⟩
 refine⟨(by show 0<=sizeLine;decide),λ fo hfo=>⟨_,rfl,(by show 1<=sizeLine;decide),λ l hl=>?_⟩⟩;have g1:=zAC (o:=.lst []) hfo;have g2:=zAC (o:=.lst [v]) hl
 refine⟨(λ m σ' H'=>E7 λ(l:Addr) (ls fs:List V) (L Fd:List Tr) (s3 s4:Option V)=>A11 (σ'=[some v,some (.ref fo),some (.ref l),s3,s4]) (Same H H') (H l=none) (l≠fo) (H' fo=some (.lst fs)) (H' l=some (.lst ls)) (Paired (Rep H') Fd fs) (Paired (Rep H') L ls) (m=szT L) ((Fd++L.flatMap Tr.subs).Perm t.subs) (Fd.length+szT L<=t.size)),
  ⟨t.size,l,[v],[],[t],[],none,none,rfl,g1.trans g2,g1.free hl,Ne.symm (zAL (zAA (H:=H) (a:=fo) (o:=.lst [])) hl),g2 _ _ zAA,zAA,.nil,.cons (hR.mono (g1.trans g2).tk) .nil,by simp[szT],by simp,by simp[szT]⟩,?_⟩
 rintro m σ' Hw ⟨l,ls,fs,L,Fd,s3,s4,rfl,gw,hl,hlf,ef,el,pF,pL,rfl,hmem,hcnt⟩;have lL:ls.length=L.length:=zAG pL;have lF:fs.length=Fd.length:=zAG pF;have hZ:=zCq L;refine⟨_,rfl,_,.inl ⟨ls,SqL.of el,rfl⟩,?_⟩;refine ite2 (λ c=>?_) (λ c=>?_)
 ·refine⟨_,λ Ω Ω h=>h,?_⟩
  refine⟨_,rfl,.inl ⟨rfl,_,SqL.of ef⟩,_,rfl,fo,l,fs,ls,rfl,rfl,ef,el,zAh (by omega),?_⟩;have ef1:=@zAA Hw fo (.lst (fs++ls));have el1:(upd Hw fo (.lst (fs++ls))) l=some (.lst ls):=by rw[zAK hlf];exact el
  have gw1:Same H (upd Hw fo (.lst (fs++ls))):=zAU gw hfo;have tk1:Tk Hw (upd Hw fo (.lst (fs++ls))):=Tk.lst ef;show tSeq _ _ _ _ (upd Hw fo (.lst (fs++ls)));generalize upd Hw fo _=H1 at ef1 el1 gw1 tk1 ⊢;refine⟨(by show 0<=sizeLine;decide),λ dp hdp=>?_⟩;have g4:=zAC (o:=.lst []) hdp;have hdpH:H dp=none:=gw1.free hdp;have ndf:dp≠fo:=Ne.symm (zAL ef1 hdp);have ndl:dp≠l:=Ne.symm (zAL el1 hdp);refine⟨_,rfl,l,rfl,⟨ls,SqL.of (g4 _ _ el1)⟩,?_⟩;refine zBI (xs:=ls) (λ i σ' H'=>E2 λ(dps:List V) (s4:Option V)=>A7 (σ'=[some v,some (.ref fo),some (.ref l),some (.ref dp),s4]) (Same H H') (Tk H1 H') (H' fo=some (.lst (fs++ls))) (H' l=some (.lst ls)) (H' dp=some (.lst dps)) (Paired (Rep H') ((L.take i).flatMap Tr.parts) dps)) ?_ ?_ ?_ ?_
  ·exact⟨[],s4,rfl,gw1.trans g4,g4.tk,g4 _ _ ef1,g4 _ _ el1,zAA,.nil⟩
  ·rintro i σ1 H2 _ ⟨dps,s4,rfl,g5,k5,ef5,el5,ed5,p5⟩
   exact SqL.of el5
  ·rintro i x σ1 H2 hx ⟨dps,s4,rfl,g5,k5,ef5,el5,ed5,p5⟩
   obtain⟨tq,eq,rq⟩:=zAJ pL hx;refine⟨_,rfl,.inl ⟨rfl,_,SqL.of ed5⟩,_,rfl,tq,x,rfl,rq.mono (tk1.trans k5),λ pp H3 us g6 ep hus=>?_⟩
   have hflat:((L.take (i+1)).flatMap Tr.parts)=((L.take i).flatMap Tr.parts)++tq.parts:=by
    rw[zAO eq,nL];simp
   have hlen:dps.length+us.length<=1000:=by
    have z0:=zAG p5;have z1:=zAG hus;have z2:=zGS ((L.take (i+1)).flatMap Tr.parts);have z3:=zCq (L.take (i+1));have z4:=zGw L (i+1);rw[hflat,mK] at z2;rw[hflat] at z3;omega
   have ed6:=g6 _ _ ed5;refine⟨dp,pp,dps,us,rfl,rfl,ed6,SqT.of ep,zAh hlen,?_⟩;have tkz:Tk H3 (upd H3 dp (.lst (dps++us))):=Tk.lst ed6;refine⟨dps++us,_,rfl,zAU (g5.trans g6) hdpH,k5.trans (g6.tk.trans tkz),by rw[zAK (Ne.symm ndf)];exact g6 _ _ ef5,by rw[zAK (Ne.symm ndl)];exact g6 _ _ el5,zAA,?_⟩;rw[hflat];exact zAM (Paired.mapP p5 λ Ω Ω z=>z.mono (g6.tk.trans tkz)) (Paired.mapP hus λ Ω Ω z=>z.mono tkz)
  ·rintro σ1 H2 ⟨dps,s4,rfl,g5,k5,ef5,el5,ed5,p5⟩
   rw[mW (by omega)] at p5
   have hpos:0<L.length:=by
    rw[←lL];cases ls with
    |nil=>simp at c
    |cons _ _=>simp
   refine⟨_,rfl,szT (L.flatMap Tr.parts),by omega,dp,dps,fs++ls,L.flatMap Tr.parts,Fd++L,some (.ref dp),s4,rfl,g5,hdpH,ndf,ef5,ed5,zAM (Paired.mapP pF λ Ω Ω z=>z.mono (tk1.trans k5)) (Paired.mapP pL λ Ω Ω z=>z.mono (tk1.trans k5)),p5,rfl,?_,?_⟩
   ·rw[mZ];exact((zEn L).symm.append_left Fd).trans hmem
   ·rw[mK]
    omega
 ·have e0:ls=[]:=by
   cases ls with
   |nil=>rfl
   |cons _ _=>simp at c
  have eL:L=[]:=by
   subst e0;cases L with
   |nil=>rfl
   |cons _ _=>simp at lL
  subst eL;refine⟨_,rfl,q fo fs Fd Hw gw ef pF ?_⟩;simpa using hmem
def PPl (H:Hp) (x:PlT) (v:V):Prop:=∃u,PlV H (x.1,u) v/\Rep H x.2 u
theorem PPl.mono {H H':Hp}(k:Tk H H') {x:PlT}{v:V}:PPl H x v->PPl H' x v
 |⟨u,h,r⟩=>⟨u,h.mono k,r.mono k⟩
theorem zI3 {α β:Type}(g:α->β):∀{qs l:List β},qs.Perm l->∀{Z:List α},Z.map g=l->∃Z':List α,Z'.Perm Z/\Z'.map g=qs:=by
 intro qs l h
 induction h with
 |nil =>
  intro Z e;have:Z=[]:=List.map_eq_nil_iff.mp e;subst this;exact⟨[],.nil,rfl⟩
 |cons x _ ih =>
  intro Z e;obtain⟨z,Z2,rfl,e1,e2⟩:=List.map_eq_cons_iff.mp e;obtain⟨Z',h1,h2⟩:=ih e2;exact⟨z::Z',h1.cons z,by simp[e1,h2]⟩
 |swap x y l =>
  intro Z e;obtain⟨z,Z2,rfl,e1,e2⟩:=List.map_eq_cons_iff.mp e;obtain⟨z2,Z3,rfl,e3,e4⟩:=List.map_eq_cons_iff.mp e2;exact⟨z2::z::Z3,.swap _ _ _,by simp[e1,e3,e4]⟩
 |trans _ _ ih1 ih2 =>
  intro Z e;obtain⟨Z1,h1,h2⟩:=ih2 e;obtain⟨Z2,h3,h4⟩:=ih1 h2;exact⟨Z2,h3.trans h1,h4⟩
theorem zF0 {H:Hp}{F:List PlT}{us:List V}(h:Paired (PPl H) F us):∃Z:List (PlT × V),Z.map (·.1)=F/\Paired (PlV H) (Z.map λ z=>(z.1.1,z.2)) us/\∀z∈Z,Rep H z.1.2 z.2:=by
 induction h with
 |nil=>exact⟨[],rfl,.nil,λ z h=>nomatch h⟩
 |cons r q ih =>
  obtain⟨Z,h1,h2,h3⟩:=ih;obtain⟨u,hu,ru⟩:=r;refine⟨(_,u)::Z,by simp[h1],.cons hu h2,λ z hz=>?_⟩;rcases nP.mp hz with rfl|hz
  ·exact ru
  ·exact h3 z hz
theorem zHI {H:Hp}:∀{Z:List (PlT × V)}{us:List V},Paired (PlV H) (Z.map λ z=>(z.1.1,z.2)) us->(∀z∈Z,Rep H z.1.2 z.2)->Paired (λ x v=>∃pl,PPl H (pl,x) v) (Z.map λ z=>z.1.2) us
 |[],_,h,_=>by
  cases h;exact .nil
 |z::Z,_,h,k=>by
  rw[mL] at h ⊢;cases h with
  |cons r q=>exact .cons ⟨z.1.1,z.2,r,k z lO⟩ (zHI q λ y hy=>k y (lP _ hy))
def zFr:Sp:=λ vs H Q Ω=>E2 λ(t:Tr) (v:V)=>A4 (vs=[v]) (Rep H t v) (t.size<=60) (∀(l:Addr) (us:List V) (H':Hp),Same H H'->H' l=some (.lst us)->Paired (λ x v=>∃pl,PPl H' (pl,x) v) t.subs us->Q (.ref l) H')
theorem zIs (F:Fun K "placed_parts" "placed_parts" zBr f fd) (z_enumerate:mg "enumerate" = none) (z_sorted:mg "sorted" = none) (zNe:FnB P w K mg base k "parts" g1 gd1 ["tree"] zCV):FnOk P w K mg base CX0 (k+1) f fd ["tree"] zFr:=by
 refine F.ok zAb (λ vs H Q E h=>?_) (λ cdv A outer s H vs Q E hr h=>?_)
 ·obtain⟨t,v,rfl,_⟩:=h
  rfl
 obtain⟨t,v,rfl,hR,hsz,q⟩:=h;have hu5:=hu150 hr
 refine⟨_,(zAE (pS (i:=1) zAb.nd (zA1 zAD:PE _ _ _))
  (zAE (pS (i:=2) zAb.nd (zA1 (zAB (zAv (zAB (zAv zAD:PE _ _ _) (zAB (pv 0) zAD)):PE _ _ _) zAD):PE _ _ _))
  (zAE (zCZ PassesOwn.never (zCw (pv 2) (λ Ω=>rfl)) (zAE (zBw (pe_bm rV rZ tE zC2 (pv 1) (zAB (pv 2) zAD)))
  (zAE (pS (i:=3) zAb.nd (zA1 zAD:PE _ _ _))
  (zAE (zA5 PassesOwn.never rfl (zAs (pv 2)) (zCc rfl (zAZ (pGn (i:=4) zAb.nd) (zAZ (pGn (i:=5) zAb.nd) zBL))) (zAF (zA5 PassesOwn.never rfl (zIe (by rfl) z_enumerate (zAB (pe_cl zNe hr (zAB (pv 5) zAD)) zAD)) (zCc rfl (zAZ (pGn (i:=6) zAb.nd) (zAZ (pGn (i:=7) zAb.nd) zBL))) (zAF (pAp (pv 3) (zAv (zAB (pe_op zEA (pv 4) (zAv (zAB (pv 6) zAD):PE _ _ _)) (zAB (pv 7) zAD)):PE _ _ _))))))
  (zAF (pS (i:=2) zAb.nd (pv 3)))))))
  (zAF (zAV (zAd (zGH hu5) (by rfl) z_sorted PyProof.Rows.boot_sorted (zAB (pv 1) zAD))))))),?_⟩
 have d2:2<=sizeLine:=by decide
 refine⟨(by show 0<=sizeLine;decide),λ fo hfo=>⟨(by show 0<=sizeLine;decide),λ pe hpe=>⟨_,rfl,d2,λ pr hpr=>⟨(by show 1<=sizeLine;decide),λ l hl=>?_⟩⟩⟩⟩;have g1:=zAC (o:=.lst []) hfo;have g2:=zAC (o:=.tup []) hpe;have g3:=zAC (o:=.tup [.ref pe,v]) hpr;have g4:=zAC (o:=.lst [.ref pr]) hl;have g23:=g2.trans g3;have gA:=g1.trans (g23.trans g4)
 refine⟨(λ m σ' H'=>E10 λ(l:Addr) (ls fs:List V) (L Fd:List PlT) (s3 s4 s5 s6 s7:Option V)=>A11 (σ'=[some v,some (.ref fo),some (.ref l),s3,s4,s5,s6,s7]) (Same H H') (H l=none) (l≠fo) (H' fo=some (.lst fs)) (H' l=some (.lst ls)) (Paired (PPl H') Fd fs) (Paired (PPl H') L ls) (m=szP L) ((Fd++allP L).Perm (psub [] t)) (∀x∈L,x.1.length+x.2.size<=60)),
  ⟨szP [([],t)],l,[.ref pr],[],[([],t)],[],none,none,none,none,none,rfl,gA,(g1.trans g23).free hl,?_,g4 _ _ (g23 _ _ zAA),zAA,.nil,.cons ⟨v,⟨pr,pe,rfl,g4 _ _ zAA,g4 _ _ (g3 _ _ zAA)⟩,hR.mono gA.tk⟩ .nil,rfl,by simp[allP],by simpa using hsz⟩,?_⟩
 ·exact Ne.symm (zAL (g23 _ _ (zAA (H:=H) (a:=fo) (o:=.lst []))) hl)
 rintro m σ' Hw ⟨l,ls,fs,L,Fd,s3,s4,s5,s6,s7,rfl,gw,hl,hlf,ef,el,pF,pL,rfl,hperm,hdp0⟩;have lL:ls.length=L.length:=zAG pL;have lF:fs.length=Fd.length:=zAG pF;have hZ:=zFl L
 have hcnt:Fd.length+szP L<=60:=by
  have:=hperm.length_eq;rw[mK,zKu,zBO] at this;omega
 refine⟨_,rfl,_,.inl ⟨ls,SqL.of el,rfl⟩,?_⟩;refine ite2 (λ c=>?_) (λ c=>?_)
 ·refine⟨_,λ Ω Ω h=>h,?_⟩
  refine⟨_,rfl,.inl ⟨rfl,_,SqL.of ef⟩,_,rfl,fo,l,fs,ls,rfl,rfl,ef,el,zAh (by omega),?_⟩;have ef1:=@zAA Hw fo (.lst (fs++ls));have el1:(upd Hw fo (.lst (fs++ls))) l=some (.lst ls):=by rw[zAK hlf];exact el
  have gw1:Same H (upd Hw fo (.lst (fs++ls))):=zAU gw hfo;have tk1:Tk Hw (upd Hw fo (.lst (fs++ls))):=Tk.lst ef;show tSeq _ _ _ _ (upd Hw fo (.lst (fs++ls)));generalize upd Hw fo _=H1 at ef1 el1 gw1 tk1 ⊢;refine⟨(by show 0<=sizeLine;decide),λ dp hdp=>?_⟩;have g4:=zAC (o:=.lst []) hdp;have hdpH:H dp=none:=gw1.free hdp;have ndf:dp≠fo:=Ne.symm (zAL ef1 hdp);have ndl:dp≠l:=Ne.symm (zAL el1 hdp);refine⟨_,rfl,l,rfl,⟨ls,SqL.of (g4 _ _ el1)⟩,?_⟩;refine zBI (xs:=ls) (λ i σ' H'=>E5 λ(dps:List V) (s4 s5 s6 s7:Option V)=>A7 (σ'=[some v,some (.ref fo),some (.ref l),some (.ref dp),s4,s5,s6,s7]) (Same H H') (Tk H1 H') (H' fo=some (.lst (fs++ls))) (H' l=some (.lst ls)) (H' dp=some (.lst dps)) (Paired (PPl H') ((L.take i).flatMap kidsP) dps)) ?_ ?_ ?_ ?_
  ·exact⟨[],s4,s5,s6,s7,rfl,gw1.trans g4,g4.tk,g4 _ _ ef1,g4 _ _ el1,zAA,.nil⟩
  ·rintro i σ1 H2 _ ⟨dps,s4,s5,s6,s7,rfl,g5,k5,ef5,el5,ed5,p5⟩
   exact SqL.of el5
  ·rintro i x σ1 H2 hx ⟨dps,s4,s5,s6,s7,rfl,g5,k5,ef5,el5,ed5,p5⟩
   obtain⟨⟨pl,tq⟩,eq,rq⟩:=zAJ pL hx;obtain⟨u,⟨b,c',rfl,hb,hc'⟩,ru⟩:=rq.mono (tk1.trans k5);dsimp only at hb hc' ru;refine⟨b,_,rfl,SqT.of hb,rfl,_,_,rfl,_,_,rfl,rfl,?_⟩
   have hflat:((L.take (i+1)).flatMap kidsP)=((L.take i).flatMap kidsP)++kidsP (pl,tq):=by
    rw[zAO eq,nL];simp
   have hlen:((L.take i).flatMap kidsP).length+(kidsP (pl,tq)).length<=60:=by
    have z2:=zLV ((L.take (i+1)).flatMap kidsP);have z3:=zFl (L.take (i+1));have z4:szP (L.take (i+1))<=szP L:=by unfold szP;rw[List.map_take];exact zGw _ _
    rw[hflat,mK] at z2;rw[hflat] at z3;omega
   refine⟨_,rfl,tq,u,rfl,ru,λ pp H3 us g6 ep hus=>⟨pp,rfl,⟨us,SqT.of ep⟩,?_⟩⟩;have lus:us.length=tq.parts.length:=zAG hus;refine zHT (xs:=us) (λ j σ' H'=>E3 λ(dps':List V) (s6 s7:Option V)=>A7 (σ'=[some v,some (.ref fo),some (.ref l),some (.ref dp),some (.ref c'),some u,s6,s7]) (Same H H') (Tk H3 H') (H' fo=some (.lst (fs++ls))) (H' l=some (.lst ls)) (H' dp=some (.lst dps')) (Paired (PPl H') (((L.take i).flatMap kidsP)++(kidsP (pl,tq)).take j) dps')) ?_ ?_ ?_ ?_
   ·refine⟨dps,s6,s7,rfl,g5.trans g6,.refl _,g6 _ _ ef5,g6 _ _ el5,g6 _ _ ed5,?_⟩
    rw[List.take_zero,nT];exact Paired.mapP p5 λ Ω Ω z=>z.mono g6.tk
   ·rintro j σ3 H5 _ ⟨dps5,s6,s7,rfl,g7,k7,ef7,el7,ed7,p7⟩
    exact SqT.of (k7 _ _ ep)
   ·rintro j x T σ3 H5 hx ⟨dps5,s6,s7,rfl,g7,k7,ef7,el7,ed7,p7⟩ hT
    have gT:=zAC (o:=.tup [.int j,x]) hT;obtain⟨cc,ec,rc⟩:=zAJ hus hx;have kk:=zI8 (pl:=pl) ec
    have ld:dps5.length<=60:=by
     rw[zAG p7,mK,mO];omega
    refine⟨T,_,rfl,SqT.of zAA,rfl,_,_,rfl,_,_,rfl,rfl,?_⟩;have ed8:=gT _ _ ed7;have hc8:(upd H5 T (.tup [.int j,x])) c'=some (.tup (pl.map V.int)):=gT.tk _ _ (k7 _ _ (g6.tk _ _ hc'));refine⟨_,rfl,.inl ⟨rfl,_,SqL.of ed8⟩,_,rfl,_,rfl,(by show 1<=sizeLine;decide),λ pj hpj=>?_⟩;have gj:=zAC (o:=.tup [.int j]) hpj
    have hpl:pl.length<=60:=by
     have h9:=hdp0 _ (lM eq);dsimp only at h9;omega
    refine⟨c',pj,_,_,rfl,rfl,gj.tk _ _ hc8,zAA,zAh (by simp;omega),λ pn H6 g9 e9=>?_⟩;refine⟨_,rfl,d2,λ pt hpt=>?_⟩;have g10:=zAC (o:=.tup [.ref pn,x]) hpt;have gB:=gT.trans (gj.trans (g9.trans g10));have ed9:=gB _ _ ed7;refine⟨dp,dps5,_,rfl,rfl,ed9,zAN (by omega),?_⟩;have tkz:Tk _ _:=Tk.lst (o:=.lst (dps5++[.ref pt])) ed9;have e9':H6 pn=some (.tup ((pl++[(j:Int)]).map V.int)):=by rw[e9,mQ];rfl
    refine⟨dps5++[.ref pt],_,_,rfl,zAU (g7.trans gB) hdpH,k7.trans (gB.tk.trans tkz),by rw[zAK (Ne.symm ndf)];exact gB _ _ ef7,by rw[zAK (Ne.symm ndl)];exact gB _ _ el7,zAA,?_⟩;rw[zAO kk,←mZ];exact zAM (Paired.mapP p7 λ Ω Ω z=>z.mono (gB.tk.trans tkz)) (.cons ⟨x,⟨pt,pn,rfl,tkz _ _ zAA,tkz _ _ (g10.tk _ _ e9')⟩,rc.mono (k7.trans (gB.tk.trans tkz))⟩ .nil)
   ·rintro σ3 H5 ⟨dps5,s6,s7,rfl,g7,k7,ef7,el7,ed7,p7⟩
    have ek:(kidsP (pl,tq)).take us.length=kidsP (pl,tq):=mW (by rw[zI7];omega);rw[ek,←hflat] at p7;exact⟨dps5,_,_,_,_,rfl,g7,k5.trans (g6.tk.trans k7),ef7,el7,ed7,p7⟩
  ·rintro σ1 H2 ⟨dps,s4,s5,s6,s7,rfl,g5,k5,ef5,el5,ed5,p5⟩
   rw[mW (by omega)] at p5
   have hpos:0<L.length:=by
    rw[←lL];cases ls with
    |nil=>simp at c
    |cons _ _=>simp
   refine⟨_,rfl,szP (L.flatMap kidsP),by omega,dp,dps,fs++ls,L.flatMap kidsP,Fd++L,some (.ref dp),s4,s5,s6,s7,rfl,g5,hdpH,ndf,ef5,ed5,zAM (Paired.mapP pF λ Ω Ω z=>z.mono (tk1.trans k5)) (Paired.mapP pL λ Ω Ω z=>z.mono (tk1.trans k5)),p5,rfl,?_,?_⟩
   ·rw[mZ]
    exact((zE3 L).symm.append_left Fd).trans hperm
   ·intro x hx
    obtain⟨y,hy,hx⟩:=mY.mp hx;have h9:=hdp0 y hy;unfold kidsP at hx;obtain⟨z,hz,rfl⟩:=mC.mp hx;have h8:z.1∈y.2.parts:=List.fst_mem_of_mem_zipIdx hz;have h7:=zF2 h8;simp;omega
 ·have e0:ls=[]:=by
   cases ls with
   |nil=>rfl
   |cons _ _=>simp at c
  have eL:L=[]:=by
   subst e0;cases L with
   |nil=>rfl
   |cons _ _=>simp at lL
  subst eL;have hperm':Fd.Perm (psub [] t):=by simpa[allP] using hperm
  obtain⟨Z,w1,w2,w3⟩:=zF0 pF;have hfst:((Z.map λ z=>(z.1.1,z.2)).map (·.1))=Fd.map (·.1):=by rw[←w1,nW,nW];rfl
  have hlz:Z.length=Fd.length:=by rw[←w1,mD]
  refine⟨_,rfl,fo,fs,Z.map λ z=>(z.1.1,z.2),rfl,ef,w2,?_,by rw[mD];omega,λ l' zs qs hl' pq hq hasc=>?_⟩
  ·rw[hfst]
   exact(hperm'.map _).nodup_iff.mpr (zCE t [])
  ·obtain⟨Z',z1,rfl⟩:=zI3 _ hq rfl
   have gl:=zAC (o:=.lst zs) hl'
   have e1:(Z'.map (·.1)).Perm (psub [] t):=by
    refine(z1.map _).trans ?_;rw[w1];exact hperm'
   have e2:(Z'.map (·.1)).Pairwise λ a b=>lexB a.1 b.1=true:=by
    rw[List.pairwise_map] at hasc ⊢;exact hasc
   have e3:(psub [] t).Pairwise λ a b=>lexB a.1 b.1=true:=by
    have:=zBZ t []
    rwa [List.pairwise_map] at this
   have e4:Z'.map (·.1)=psub [] t:=List.Perm.eq_of_pairwise (λ a b Ω Ω h1 h2=>by rw[zED h1] at h2;cases h2) e2 e3 e1
   have e5:(Z'.map λ z=>z.1.2)=t.subs:=by
    rw[←zBY t [],←e4,nW];rfl
   have hj:=Paired.mapP (zHI pq λ z hz=>w3 z (z1.mem_iff.mp hz)) λ _ _ (⟨pl,h⟩:∃pl,PPl _ (pl,_) _)=>(⟨pl,h.mono gl.tk⟩:∃pl,PPl _ (pl,_) _);rw[e5] at hj;exact q l' zs _ (gw.trans gl) zAA hj
abbrev zDw:Stmt:=top 31
theorem zHj:zAQ ["tree"] ["tree"] (zAH zDw):=scI
abbrev zBH:Stmt:=top 33
theorem zCf:zAQ ["rule"] ["rule"] (zAH zBH):=scI
abbrev zCL:Stmt:=top 42
theorem zFD:zAQ ["rule"] ["rule"] (zAH zCL):=scI
def zIO:Sp:=λ vs H Q Ω=>E2 λ(t:Tr) (v:V)=>A4 (vs=[v]) (Rep H t v) (t.size<=60) (∀(b:Bool) (H':Hp),Same H H'->(b=true↔loudT t)->Q (.bl b) H')
theorem zL4 (F:Fun K "is_loud" "is_loud" zDw f fd) (z_any:mg "any" = none) (zNf:mg "LOUD_SIGNS" = some (.ref la)) (hL:zEU K la) (zNg:FnB P w K mg base k "all_parts" g1 gd1 ["tree"] zFv):FnOk P w K mg base CX0 (k+1) f fd ["tree"] zIO:=by
 refine F.ok zHj (λ vs H Q E h=>?_) (λ cdv A outer s H vs Q E hr h=>?_)
 ·obtain⟨t,v,rfl,_⟩:=h
  rfl
 obtain⟨t,v,rfl,hR,hsz,q⟩:=h;refine⟨_,(zAF (zAV (zAd (zBj rfl) (by rfl) z_any PyProof.Rows.boot_any (zAB (zAq ["part"] [none] rfl (zAs (pe_cl zNg hr (zAB (pv 0) zAD))) (λ Ω Ω Ω Ω Ω=>(zAf (i:=0) (show List.Nodup (["part"]:List Str) by symm) rfl (Or.inl rfl))) (λ Ω Ω Ω Ω Ω=>zBA) (λ Ω Ω Ω Ω Ω=>(zAn (r:=rIn K false) zBf (iC (r:=rIxT K) zAS (pv 0)) (zBB (v:=.ref _) (by rfl) zNf (by rfl)) rfl)) rfl) zAD)))),?_⟩;refine⟨_,rfl,t,v,rfl,hR,hsz,λ l us F H1 g1 el pF hF=>⟨l,rfl,⟨us,SqL.of el⟩,λ acc hacc=>?_⟩⟩;have lu:us.length=F.length:=zAG pF;have lF:F.length=t.size:=by rw[hF.length_eq,zBy]
 refine zA0 (xs:=us) (λ i H'=>Same H1 H'/\H' acc=some (.lst (((F.take i).map λ p=>p.kd.loud).map V.bl))) ⟨zAC hacc,zAA⟩ (λ i H' Ω h=>SqL.of (h.1 _ _ el)) ?_ ?_
 ·rintro i x Hx hx ⟨gx,ea⟩
  obtain⟨tq,eq,ru⟩:=zAJ pF hx;obtain⟨pa,hs,us',rfl,hpa,hhl,hparts⟩:=(ru.mono gx.tk).all;have at0:atI (V.str tq.kd.s::hs++us') 0=some (.str tq.kd.s):=zAP (j:=0) rfl;refine⟨.skip .nil,_,rfl,pa,_,0,_,rfl,rfl,SqT.of hpa,at0,la,loudV,rfl,.inr (.inr hL),rfl,rfl,?_⟩;refine⟨_,ea,?_,zAU gx hacc,?_⟩
  ·rw[mD,mD,mO]
   exact zAN (by omega)
  ·rw[zAA,zAO eq,mQ,mQ]
   show some (HO.lst (_++[V.bl (inV (.str tq.kd.s) loudV)]))=_;rw[zJF];rfl
 rintro H2 ⟨g2,ea⟩;rw[mW (by omega)] at ea;exact⟨acc,_,rfl,ea,q _ H2 (g1.trans g2) (zKs λ p=>hF.mem_iff)⟩
def zG2:Sp:=λ vs H Q Ω=>E4 λ(t:Tr) (p:Addr) (a:V) (r:List V)=>A4 (vs=[.ref p]) (H p=some (.tup (a::r))) (Rep H t a) (Q (.bl t.kd.leaf) H)
theorem zKL (F:Fun K "begins_with_leaf" "begins_with_leaf" zBH f fd) (zNc:mg "LEAF_SIGNS" = some (.ref lv)) (hL:zC8 K lv):FnOk P w K mg base CX0 (k+1) f fd ["rule"] zG2:=by
 refine F.ok zCf (λ vs H Q E h=>?_) (λ cdv A outer s H vs Q E hr h=>?_)
 ·obtain⟨t,p,a,r,rfl,_⟩:=h
  rfl
 obtain⟨t,p,a,r,rfl,hp,hR,q⟩:=h;refine⟨_,(zAF (zAV (zAn (r:=rIn K false) zBf (pe_ix (r:=rIxT K) zAS (iC (r:=rIxT K) zAS (pv 0)) zAI (λ Ω Ω=>rfl)) (zBB (v:=.ref _) (by rfl) zNc (by rfl)) rfl))),?_⟩;obtain⟨pa,hs,us',rfl,hpa,hhl,hparts⟩:=hR.all;refine⟨_,rfl,p,_,0,_,rfl,rfl,SqT.of hp,zAP (j:=0) rfl,pa,_,0,_,rfl,rfl,SqT.of hpa,zAP (j:=0) rfl,lv,zDT,rfl,.inr (.inr hL),rfl,rfl,?_⟩;have:=zFU t.kd;show Q (.bl (inV (.str t.kd.s) zDT)) H;rw[this];exact q
def zG7:Sp:=λ vs H Q Ω=>E6 λ(t u:Tr) (p:Addr) (a b:V) (r:List V)=>A7 (vs=[.ref p]) (H p=some (.tup (a::b::r))) (Rep H t a) (Rep H u b) (t.size<=60) (u.size<=60) (∀(z:Bool) (H':Hp),Same H H'->(z=true↔loudT u/\¬loudT t)->Q (.bl z) H')
theorem zKP (F:Fun K "grows_loud" "grows_loud" zCL f fd) (zNh:FnB P w K mg base k "is_loud" g1 gd1 ["tree"] zIO):FnOk P w K mg base CX0 (k+1) f fd ["rule"] zG7:=by
 refine F.ok zFD (λ vs H Q E h=>?_) (λ cdv A outer s H vs Q E hr h=>?_)
 ·obtain⟨t,u,p,a,b,r,rfl,_⟩:=h
  rfl
 obtain⟨t,u,p,a,b,r,rfl,hp,ra,rb,st,su,q⟩:=h;refine⟨_,(zAF (zAV (zDV (pe_cl zNh hr (zAB (iC (r:=rIxT K) zAS (pv 0)) zAD)) (zB0 (zK8 (pe_cl zNh hr (zAB (iC (r:=rIxT K) zAS (pv 0)) zAD))))))),?_⟩;refine⟨_,rfl,p,_,1,_,rfl,rfl,SqT.of hp,zAP (j:=1) rfl,u,b,rfl,rb,su,λ z1 H1 g1 e1=>⟨_,rfl,ite2 (λ c=>?_) (λ c=>?_)⟩⟩
 ·refine⟨_,rfl,p,_,0,_,rfl,rfl,SqT.of (g1 _ _ hp),zAP (j:=0) rfl,t,a,rfl,ra.mono g1.tk,st,λ z2 H2 g2 e2=>⟨_,rfl,q _ H2 (g1.trans g2) ?_⟩⟩
  have h1:=e1.mp c;cases z2 with
  |false=>exact⟨λ Ω=>⟨h1,λ z=>absurd (e2.mpr z) (by decide)⟩,λ Ω=>rfl⟩
  |true=>exact⟨(λ z=>by cases z),λ z=>absurd (e2.mp rfl) z.2⟩
 ·refine q _ H1 g1 ⟨(λ z=>by cases z),λ z=>absurd (e1.mpr z.1) c⟩
abbrev zCB:Stmt:=top 34
theorem zBq:zAQ ["rule", "side", "bound"] ["rule"] (zAH zCB):=scI
def zGy:Sp:=λ vs H Q Ω=>E6 λ(t u:Tr) (p:Addr) (a b c:V)=>A7 (vs=[.ref p]) (H p=some (.tup [a,b,c])) (Rep H t a) (Rep H u b) (t.size<=60) (u.size<=60) (∀(z:Bool) (H':Hp),Same H H'->(z=true↔¬(letN t).Nodup\/¬(letN u).Nodup)->Q (.bl z) H')
theorem zKF (F:Fun K "binds_twice" "binds_twice" zCB f fd) (z_len:mg "len" = none) (z_set:mg "set" = none) (zNg:FnB P w K mg base k "all_parts" g1 gd1 ["tree"] zFv):FnOk P w K mg base CX0 (k+1) f fd ["rule"] zGy:=by
 refine F.ok zBq (λ vs H Q E h=>?_) (λ cdv A outer s H vs Q E hr h=>?_)
 ·obtain⟨t,u,p,a,b,c,rfl,_⟩:=h
  rfl
 obtain⟨t,u,p,a,b,c,rfl,hp,ra,rb,st,su,q⟩:=h
 refine⟨_,(zAE (zA5 PassesOwn.never rfl (zCH (zA8 zDq (pv 0) zCO (zA4 zAI))) (pGn (i:=1) zBq.nd) (zAE (zFE (jj:=2) ["part"] [none] rfl (zAs (pe_cl zNg hr (zAB (pv 1) zAD))) (λ Ω Ω Ω Ω Ω=>(zAf (i:=0) (show List.Nodup (["part"]:List Str) by symm) rfl (Or.inl rfl))) (λ Ω Ω Ω Ω Ω=>(zDJ (zAR op_eq (iC (r:=rIxT K) zAS (pv 0)) zAX (zAW _)))) (λ Ω Ω Ω Ω Ω=>(iC (r:=rIxT K) zAS (pv 0))) rfl zBq.nd rfl (Or.inl rfl) (Or.inr rfl))
  (zAF (ps_if (zAR op_lt (zHq rfl (by rfl) z_len (by rfl) z_set (zAB (pv 2) zAD)) (cL z_len (zAB (pv 2) zAD)) (zAW _)) (zAF (zAV pe_bl)) zAY))))
  (zAF (zAV pe_bl))),?_⟩
 refine⟨_,rfl,_,rfl,p,_,rfl,hp,λ z=>?_,λ ps H1 g1 e1=>?_⟩
 ·exact absurd z (show ¬((0:Nat)=0/\(2:Nat)=3) by decide)
 have e1':H1 ps=some (.tup [a,b]):=e1;refine⟨ps,rfl,⟨_,SqT.of e1'⟩,?_⟩;refine zFY (xs:=[a,b]) (λ i σ' H'=>E3 λ(s1 s2 s3:Option V)=>A3 (σ'=[some (.ref p),s1,s2]) (Same H1 H') (∀x∈[t,u].take i,(letN x).Nodup)) ⟨none,none,none,rfl,Same.refl _,by simp⟩ (λ i σ' H' _ h=>?_) ?_ ?_
 ·obtain⟨_,_,_,_,g,_⟩:=h
  exact SqT.of (g _ _ e1')
 ·rintro i x σ1 H2 hx ⟨s1,s2,s3,rfl,g2,hn⟩
  obtain⟨tq,etq,rq,sq⟩:∃tq,[t,u][i]?=some tq/\Rep H tq x/\tq.size<=60:=by
   match i,hx with
   |0,hx=>cases hx;exact⟨t,rfl,ra,st⟩
   |1,hx=>cases hx;exact⟨u,rfl,rb,su⟩
  have g12:=g1.trans g2;refine⟨_,rfl,tq,x,rfl,rq.mono g12.tk,sq,λ l us F H3 g3 el pF hF=>⟨l,rfl,⟨us,SqL.of el⟩,λ acc hacc=>?_⟩⟩;have lu:us.length=F.length:=zAG pF;have lF:F.length=tq.size:=by rw[hF.length_eq,zBy]
  refine zA0 (xs:=us) (λ i H'=>Same H3 H'/\H' acc=some (.lst (((F.take i).filterMap letX).map V.str))) ⟨zAC hacc,zAA⟩ (λ i H' Ω h=>SqL.of (h.1 _ _ el)) ?_ ?_
  ·rintro j y Hx hy ⟨gx,ea⟩
   obtain⟨tr,er,rr⟩:=zAJ pF hy;have hj:j<F.length:=(lJ.mp er).1;obtain⟨pa,hs,us',rfl,hpa,hhl,hparts⟩:=(rr.mono gx.tk).all;have at0:atI (V.str tr.kd.s::hs++us') 0=some (.str tr.kd.s):=zAP (j:=0) rfl;refine⟨.skip .nil,_,rfl,pa,_,0,_,rfl,rfl,SqT.of hpa,at0,rfl,_,rfl,ite2 (λ c=>?_) (λ c=>?_)⟩
   ·have cs:(letX tr).isSome=true:=(zLD tr).mp (V.str.inj (lT c))
    cases tr with
    |lett y a b =>
     have at1:atI (V.str Kd.lett.s::hs++us') 1=some (.str y):=by
      obtain⟨pa2,v1,v2,e2,h2,_⟩:=rr.mono gx.tk;cases e2;rw[hpa] at h2;have h3:=HO.tup.inj (mE h2);exact(congrArg (λ l=>atI l 1) h3).trans (zAP (j:=1) rfl)
     refine⟨_,rfl,pa,_,1,_,rfl,rfl,SqT.of hpa,at1,?_⟩;refine⟨_,ea,?_,zAU gx hacc,?_⟩
     ·rw[mD]
      have:=List.length_filterMap_le letX (F.take j);rw[mO] at this;exact zAN (by omega)
     ·rw[zAA,zAO er,List.filterMap_append,mQ]
      rfl
    |bin o a b=>cases o<;>cases cs
    |_=>cases cs
   ·have cn:letX tr=none:=by
     cases e:letX tr with
     |none=>rfl
     |some y=>exact absurd (lU (congrArg V.str ((zLD tr).mpr (by rw[e];rfl)))) c
    refine⟨gx,?_⟩;rw[ea,zAO er,List.filterMap_append];simp[cn]
  ·rintro H4 ⟨g4,ea⟩
   rw[mW (by omega)] at ea;have hB:(F.filterMap letX).Perm (letN tq):=hF.filterMap letX
   have bl:(F.filterMap letX).length<=60:=by
    have:=List.length_filterMap_le letX F;omega
   refine⟨_,rfl,acc,F.filterMap letX,rfl,SqL.of ea,by omega,_,rfl,acc,_,rfl,.inl (SqL.of ea),_,_,rfl,rfl,_,rfl,ite2 (λ c=>?_) (λ c=>?_)⟩
   ·have c':(((dd (F.filterMap letX)).length:Nat):Int)<((((F.filterMap letX).map V.str).length:Nat):Int):=lT c
    rw[mD] at c';have nn:¬(letN tq).Nodup:=λ z=>(zEN (F.filterMap letX)).mp (by omega) (hB.nodup_iff.mpr z);refine q true H4 (g12.trans (g3.trans g4)) ⟨λ Ω=>?_,λ Ω=>rfl⟩
    match i,etq with
    |0,e=>cases e;exact .inl nn
    |1,e=>cases e;exact .inr nn
   ·have c':¬(dd (F.filterMap letX)).length<(F.filterMap letX).length:=λ z=>c (lU (by
     show (((dd (F.filterMap letX)).length:Nat):Int)<((((F.filterMap letX).map V.str).length:Nat):Int);rw[mD];omega))
    have nd:(letN tq).Nodup:=hB.nodup_iff.mp (Classical.byContradiction λ z=>c' ((zEN _).mpr z));refine⟨_,_,none,rfl,g2.trans (g3.trans g4),λ y hy=>?_⟩;rw[zAO etq] at hy;rcases lK.mp hy with h|h
    ·exact hn y h
    ·rw[mR.mp h];exact nd
 ·rintro σ1 H2 ⟨s1,s2,s3,rfl,g2,hn⟩
  refine q false H2 (g1.trans g2) ⟨(λ z=>by cases z),λ z=>?_⟩;rcases z with z|z
  ·exact absurd (hn t (by simp)) z
  ·exact absurd (hn u (by simp)) z
abbrev zDF:Stmt:=top 15
theorem zGX:zAQ ["part"] ["part"] (zAH zDF):=scI
abbrev zDI:Stmt:=top 16
theorem zGZ:zAQ ["part", "number", "bound"] ["part", "number", "bound"] (zAH zDI):=scI
abbrev zCN:Stmt:=top 17
theorem zAe:zAQ ["tree", "free", "level", "deeper", "part", "bound", "name", "number", "inner"] ["tree"] (zAH zCN):=scI
abbrev zBe:Stmt:=top 35
theorem zDg:zAQ ["rule"] ["rule"] (zAH zBe):=scI
def zDo:Sp:=λ vs H Q Ω=>E2 λ t v=>A3 (vs=[v]) (Rep H t v) (∀l H',Same H H'->H l=none->H' l=some (.lst (t.names.map V.str))->Q (.ref l) H')
theorem zGf (F:Fun K "names_at" "names_at" zDF f fd):FnOk P w K mg base CX0 (k+1) f fd ["part"] zDo:=by
 refine F.ok zGX (λ vs H Q E h=>?_) (λ cdv A outer s H vs Q E hr h=>?_)
 ·obtain⟨t,v,rfl,_⟩:=h
  rfl
 obtain⟨t,v,rfl,hR,q⟩:=h
 refine⟨_,(zAE (ps_if (zAR op_eq (iC (r:=rIxT K) zAS (pv 0)) zAX (zAW _)) (zAF (zAV (zA1 (zAB (iC (r:=rIxT K) zAS (pv 0)) zAD):PE _ _ _))) zAY)
  (zAE (ps_if (zAR op_eq (iC (r:=rIxT K) zAS (pv 0)) zAX (zAW _)) (zAF (zAV (zAq ["atom"] [none] rfl (zCH (iC (r:=rIxT K) zAS (pv 0))) (λ Ω Ω Ω Ω Ω=>(zAf (i:=0) (show List.Nodup (["atom"]:List Str) by symm) rfl (Or.inl rfl))) (λ Ω Ω Ω Ω Ω=>(zDJ (zAR op_eq (iC (r:=rIxT K) zAS (pv 0)) zAX (zAW _)))) (λ Ω Ω Ω Ω Ω=>(iC (r:=rIxT K) zAS (pv 0))) rfl))) zAY)
  (zAF (zAV (zA1 zAD:PE _ _ _))))),?_⟩
 obtain⟨a,hs,us,rfl,ha,hl,hp⟩:=hR.all;have h0:atI (V.str t.kd.s::hs++us) 0=some (.str t.kd.s):=zAP (j:=0) rfl;refine⟨_,rfl,a,_,0,_,rfl,rfl,SqT.of ha,h0,rfl,_,rfl,?_⟩;refine ite2 (λ c=>?_) (λ c=>?_)
 ·have z:t.kd = .name:=Kd.eq_iff.mp (lT c)
  cases t with
  |name x =>
   obtain⟨a,e,ha⟩:=hR;cases e;refine⟨_,rfl,a,_,1,_,rfl,rfl,SqT.of ha,rfl,(by show 1<=sizeLine;decide),λ l hn=>?_⟩;exact q l _ (zAC hn) hn zAA
  |bin o a b=>cases o<;>cases z
  |_=>cases z
 ·refine⟨_,rfl,a,_,0,_,rfl,rfl,SqT.of ha,h0,rfl,_,rfl,?_⟩
  refine ite2 (λ d=>?_) (λ d=>?_)
  ·have z:t.kd = .gap:=Kd.eq_iff.mp (lT d)
   cases t with
   |gap g as =>
    obtain⟨a,b,vs,e,ha,hb,hz,hp⟩:=hR;cases e;refine⟨_,rfl,a,_,2,_,rfl,rfl,SqT.of ha,rfl,b,rfl,⟨_,SqT.of hb⟩,λ acc hacc=>?_⟩;refine zKq (xs:=vs) (λ i H'=>Same H H'/\H' acc=some (.lst (((as.take i).flatMap Atom.names).map V.str))) ?_ ?_ ?_ ?_
    ·exact⟨zAC hacc,zAA⟩
    ·exact λ i H' Ω p=>SqT.of (p.1 _ _ hb)
    ·intro i x H1 hx ⟨g1,e1⟩
     obtain⟨at_,ea,ra⟩:=zAJ hp hx;have ra:=ra.mono g1.tk;have en:=zAO ea
     have small:((as.take i).flatMap Atom.names).length<=i:=by
      have:∀l:List Atom,(l.flatMap Atom.names).length<=l.length:=by
       intro l
       induction l with
       |nil=>simp
       |cons a r ih =>
        rw[rK,mK,mM];have:a.names.length<=1:=by cases a<;>simp[Atom.names]
        omega
      exact mG (this _) (by rw[mO];omega)
     have hi:i<vs.length:=(lJ.mp hx).1;refine⟨.skip .nil,?_⟩;cases at_ with
     |name y =>
      obtain⟨c,rfl,hc⟩:=ra;refine⟨_,rfl,c,_,0,_,rfl,rfl,SqT.of hc,rfl,rfl,_,rfl,?_⟩;refine iteY rfl ?_;refine⟨_,rfl,c,_,1,_,rfl,rfl,SqT.of hc,rfl,_,e1,?_,zAU g1 hacc,?_⟩
      ·rw[mD];exact zAN (by omega)
      ·rw[zAA,en,nL,mQ];rfl
     |num n =>
      obtain⟨c,rfl,hc⟩:=ra;refine⟨_,rfl,c,_,0,_,rfl,rfl,SqT.of hc,rfl,rfl,_,rfl,?_⟩;refine iteN (by symm) ?_;exact⟨g1,by rw[e1,en,nL];simp[Atom.names]⟩
     |gap n =>
      obtain⟨c,d,rfl,hc,_⟩:=ra;refine⟨_,rfl,c,_,0,_,rfl,rfl,SqT.of hc,rfl,rfl,_,rfl,?_⟩;refine iteN (by symm) ?_;exact⟨g1,by rw[e1,en,nL];simp[Atom.names]⟩
    ·intro H1 ⟨g1,e1⟩
     refine q acc H1 g1 hacc ?_;rw[e1,←hp.length,mP];rfl
   |bin o a b=>cases o<;>cases z
   |_=>cases z
  ·refine⟨(by show 0<=sizeLine;decide),λ l hn=>?_⟩
   have e:t.names=[]:=by
    cases t with
    |name x=>exact absurd rfl c
    |gap g as=>exact absurd rfl d
    |_=>rfl
   refine q l _ (zAC hn) hn ?_;rw[e];exact zAA
def zDp:Sp:=λ vs H Q Ω=>E5 λ(t:Tr) (v:V) (i:Int) (b:Addr) (bs:List Str)=>A5 (vs=[v,.int i,.ref b]) (Rep H t v) (H b=some (.tup (bs.map V.str))) (bs.length<=900) (∀p H',Same H H'->H' p=some (.tup ((bIn t i bs).map V.str))->Q (.ref p) H')
theorem zGg (F:Fun K "bound_in" "bound_in" zDI f fd):FnOk P w K mg base CX0 (k+1) f fd ["part", "number", "bound"] zDp:=by
 refine F.ok zGZ (λ vs H Q E h=>?_) (λ cdv A outer s H vs Q E hr h=>?_)
 ·obtain⟨t,v,i,b,bs,rfl,_⟩:=h
  rfl
 obtain⟨t,v,i,b,bs,rfl,hR,hb,hlen,q⟩:=h
 refine⟨_,(zAE (ps_if (zD2 (zAR op_eq (iC (r:=rIxT K) zAS (pv 0)) zAX (zAW _)) (zCj (zAR op_eq (pv 1) zAI (zAW _)))).pt (zAF (zAV (pe_op zEA (pv 2) (zAv (zAB (iC (r:=rIxT K) zAS (pv 0)) zAD):PE _ _ _)))) zAY)
  (zAF (zAV (pv 2)))),?_⟩
 obtain⟨a,hs,us,rfl,ha,hl,hp⟩:=hR.all;have h0:atI (V.str t.kd.s::hs++us) 0=some (.str t.kd.s):=zAP (j:=0) rfl;refine⟨_,rfl,a,_,0,_,rfl,rfl,SqT.of ha,h0,rfl,_,rfl,?_⟩;refine ite2 (λ c=>?_) (λ c=>?_)
 ·have z:t.kd = .lett:=Kd.eq_iff.mp (lT c)
  refine⟨_,rfl,rfl,_,rfl,?_⟩;cases t with
  |lett x s t =>
   obtain⟨a',u,w',e,ha',_⟩:=hR;cases e;refine ite2 (λ d=>?_) (λ d=>?_)
   ·have d':i=1:=V.int.inj (lT d)
    subst d';refine⟨_,rfl,_,rfl,a,_,1,_,rfl,rfl,SqT.of ha',rfl,(by show 1<=sizeLine;decide),λ p hpn=>?_⟩;refine⟨b,p,_,[.str x],rfl,rfl,zAC hpn _ _ hb,zAA,zAh (by rw[mD];show bs.length+1<=1000;omega),λ r H' g e=>?_⟩;refine q r H' ((zAC hpn).trans g) ?_;rw[e];simp[bIn]
   ·have d':¬i=1:=λ z=>d (by rw[z];exact lU rfl)
    refine⟨_,rfl,q b H (.refl H) ?_⟩;rw[hb];simp[bIn,d']
  |bin o a b=>cases o<;>cases z
  |_=>cases z
 ·refine iteF ?_
  refine⟨_,rfl,q b H (.refl H) ?_⟩
  have e:bIn t i bs=bs:=by
   cases t with
   |lett x s t=>exact absurd rfl c
   |_=>rfl
  rw[hb,e]
abbrev zNa (ss:List Str):Prop:=ss.Pairwise (λ a b=>ltCps b.cps.toList a.cps.toList=false)
def zMY (t:Tr) (H:Hp) (Q:VK):Prop:=∀(l:Addr) (H':Hp) (ss:List Str),Same H H'->H l=none->H' l=some (.lst (ss.map V.str))->ss.Nodup->zNa ss->(∀x,x∈ss↔x∈t.fv [])->Q (.ref l) H'
def zCs:Sp:=λ vs H Q Ω=>E3 λ(t:Tr) (v:V) (ws:List Str)=>A6 (vs=[v]) (Rep H t v) (t.size<=500) (ws.length<64) (∀x∈t.fv [],x∈ws) (zMY t H Q)
theorem zFJ (F:Fun K "free_names" "free_names" zCN f fd) (z_sorted:mg "sorted" = none) (z_enumerate:mg "enumerate" = none)
  (zNe:FnB P w K mg base k "parts" g1 gd1 ["tree"] zCV) (zNi:FnB P w K mg base k "names_at" g2 gd2 ["part"] zDo) (zNj:FnB P w K mg base k "bound_in" g3 gd3 ["part", "number", "bound"] zDp) :
  FnOk P w K mg base CX0 (k+1) f fd ["tree"] zCs:=by
 refine F.ok zAe (λ vs H Q E h=>?_) (λ cdv A outer s H vs Q E hr h=>?_)
 ·obtain⟨t,v,ws,rfl,_⟩:=h
  rfl
 obtain⟨t,v,ws,rfl,hR,hsz,hws,hsub,q⟩:=h;have hu:=hu_of hr
 refine⟨_,(zAE (pS (i:=1) zAe.nd zFH)
  (zAE (pS (i:=2) zAe.nd (zA1 (zAB (zAv (zAB (pv 0) (zAB (zAv zAD:PE _ _ _) zAD)):PE _ _ _) zAD):PE _ _ _))
  (zAE (zCZ PassesOwn.never (zCw (pv 2) (λ Ω=>rfl)) (zAE (pS (i:=3) zAe.nd (zA1 zAD:PE _ _ _))
  (zAE (zA5 PassesOwn.never rfl (zAs (pv 2)) (zCc rfl (zAZ (pGn (i:=4) zAe.nd) (zAZ (pGn (i:=5) zAe.nd) zBL))) (zAE (zA5 PassesOwn.never rfl (zAs (pe_cl zNi hr (zAB (pv 4) zAD))) (pGn (i:=6) zAe.nd) (zAF (ps_if (zAR (r:=rIn K true) zDX (pv 6) (pv 5) rfl) (zAF (zLl hu (pv 1) (pv 6) pe_bl rfl)) zAY)))
  (zAF (zA5 PassesOwn.never rfl (zIe (by rfl) z_enumerate (zAB (pe_cl zNe hr (zAB (pv 4) zAD)) zAD)) (zCc rfl (zAZ (pGn (i:=7) zAe.nd) (zAZ (pGn (i:=8) zAe.nd) zBL))) (zAF (pAp (pv 3) (zAv (zAB (pv 8) (zAB (pe_cl zNj hr (zAB (pv 4) (zAB (pv 7) (zAB (pv 5) zAD)))) zAD)):PE _ _ _)))))))
  (zAF (pS (i:=2) zAe.nd (pv 3))))))
  (zAF (zAV (zAd (zGJ rfl) (by rfl) z_sorted PyProof.Rows.boot_sorted (zAB (pv 1) zAD))))))),?_⟩
 refine λ d hd=>⟨_,rfl,(by show 0<=sizeLine;decide),λ e he=>⟨(by show 2<=sizeLine;decide),λ pr hpr=>⟨(by show 1<=sizeLine;decide),λ l hl=>?_⟩⟩⟩;have g1:Same H (upd H d (.dK [])):=zAC hd;have g2:Same (upd H d (.dK [])) _:=zAC (o:=.tup []) he;have g3:=zAC (o:=.tup [v,.ref e]) hpr;have g4:=zAC (o:=.lst [.ref pr]) hl;have gAll:=g1.trans (g2.trans (g3.trans g4));have hld:l≠d:=Ne.symm (zAL (g3 _ _ (g2 _ _ zAA)) hl);have hlH:H l=none:=(g1.trans (g2.trans g3)).free hl
 refine⟨(λ m σ' H'=>E10 λ(l:Addr) (ps:List V) (lev:List (Tr × List Str)) (ks:List Str) (s3 s4 s5 s6 s7 s8:Option V)=>A12 (σ'=[some v,some (.ref d),some (.ref l),s3,s4,s5,s6,s7,s8]) (Same H H') (H l=none) (l≠d) (H' d=some (.dK (kvOf ks))) (H' l=some (.lst ps)) (Paired (zDR H') lev ps) ks.Nodup (m=total lev) (total lev<=500) (∀q∈lev,q.2.length+q.1.size<=500) (∀x,(x∈ks\/∃q∈lev,x∈q.1.fv q.2)↔x∈t.fv [])),
  ⟨t.size,l,_,[(t,[])],[],none,none,none,none,none,none,rfl,gAll,hlH,hld,g4 _ _ (g3 _ _ (g2 _ _ zAA)),zAA,.cons ⟨pr,v,e,rfl,g4 _ _ zAA,hR.mono gAll.tk,g4 _ _ (g3 _ _ zAA)⟩ .nil,List.nodup_nil,by simp[total],by simpa[total] using hsz,by simpa using hsz,by simp⟩,?_⟩
 rintro m σ' Hw ⟨l,ps,lev,ks,s3,s4,s5,s6,s7,s8,rfl,gw,hl,hld,ed,el,hp,hnd,rfl,htot,hdeep,hset⟩;refine⟨_,rfl,_,.inl ⟨ps,SqL.of el,rfl⟩,?_⟩;refine ite2 (λ c=>?_) (λ c=>?_)
 ·refine⟨_,λ Ω Ω h=>h,(by show 0<=sizeLine;decide),λ dp hdp=>⟨_,rfl,l,rfl,⟨ps,SqL.of (zAC hdp _ _ el)⟩,?_⟩⟩
  have gd:=zAC (o:=.lst []) hdp;have hdpH:H dp=none:=gw.free hdp;have ndd:dp≠d:=Ne.symm (zAL ed hdp);have ndl:dp≠l:=Ne.symm (zAL el hdp);refine zBI (xs:=ps) (λ i σ' H'=>E7 λ(dps:List V) (ks':List Str) (s4 s5 s6 s7 s8:Option V)=>A9 (σ'=[some v,some (.ref d),some (.ref l),some (.ref dp),s4,s5,s6,s7,s8]) (Same H H') (Tk Hw H') (H' d=some (.dK (kvOf ks'))) (H' l=some (.lst ps)) (H' dp=some (.lst dps)) (Paired (zDR H') ((lev.take i).flatMap λ q=>kids q.1 q.2) dps) ks'.Nodup (∀x,x∈ks'↔x∈ks\/∃q∈lev.take i,x∈q.1.names/\x∉q.2)) ?_ ?_ ?_ ?_
  ·exact⟨[],ks,s4,s5,s6,s7,s8,rfl,gw.trans gd,gd.tk,gd _ _ ed,gd _ _ el,zAA,.nil,hnd,by simp⟩
  ·rintro i σ1 H1 _ ⟨dps,ks1,s4,s5,s6,s7,s8,rfl,g1,k1,ed1,el1,edp1,hp1,n1,m1⟩
   exact SqL.of el1
  ·rintro i x σ1 H1 hx ⟨dps,ks1,s4,s5,s6,s7,s8,rfl,g1,k1,ed1,el1,edp1,hp1,n1,m1⟩
   obtain⟨⟨tq,bs⟩,eq,rq⟩:=zAJ hp hx;have hmem:(tq,bs)∈lev:=lM eq;have hdq:=hdeep _ hmem;have spq:=zFA tq;dsimp only at hdq;obtain⟨a,u,b,rfl,ha,ru,hb⟩:=rq.mono k1;refine⟨a,_,rfl,SqT.of ha,rfl,_,_,rfl,_,_,rfl,rfl,?_⟩;refine⟨_,rfl,tq,u,rfl,ru,λ ln H2 g2 hln e2=>⟨ln,rfl,⟨_,SqL.of e2⟩,?_⟩⟩;have nlnd:ln≠d:=Ne.symm (zAL ed1 hln);have nlnl:ln≠l:=Ne.symm (zAL el1 hln);have nlnp:ln≠dp:=Ne.symm (zAL edp1 hln);refine zBI (xs:=tq.names.map V.str) (λ j σ' H'=>E2 λ(ks':List Str) (s6:Option V)=>A9 (σ'=[some v,some (.ref d),some (.ref l),some (.ref dp),some u,some (.ref b),s6,s7,s8]) (Same H H') (Tk H2 H') (H' d=some (.dK (kvOf ks'))) (H' l=some (.lst ps)) (H' dp=some (.lst dps)) (H' ln=some (.lst (tq.names.map V.str))) ks'.Nodup (∀x,x∈ks'↔x∈ks1\/(x∈tq.names.take j/\x∉bs))) ?_ ?_ ?_ ?_
   ·exact⟨ks1,s6,rfl,g1.trans g2,.refl _,g2 _ _ ed1,g2 _ _ el1,g2 _ _ edp1,e2,n1,by simp⟩
   ·rintro j σ2 H3 _ ⟨ks2,s6,rfl,g3,k3,ed3,el3,edp3,eln3,n3,m3⟩
    exact SqL.of eln3
   ·rintro j x σ2 H3 hx ⟨ks2,s6,rfl,g3,k3,ed3,el3,edp3,eln3,n3,m3⟩
    rw[mJ] at hx;obtain⟨y,hy,rfl⟩:=lV.mp hx;have hb3:H3 b=some (.tup (bs.map V.str)):=k3 _ _ (g2.tk _ _ hb);refine⟨_,rfl,_,rfl,b,_,rfl,.inr (SqT.of hb3),rfl,zML bs,_,rfl,?_⟩;show if (!inV (V.str y) (bs.map V.str))=true then _ else _
    rw[zFV];have et:=zAO hy
    have kle:ks2.length<=ws.length:=by
     refine zC1 n3 λ z hz=>hsub z ((hset z).mp ?_);rcases (m3 z).mp hz with h|⟨h,h'⟩
     ·rcases (m1 z).mp h with h|⟨q',hq',h1,h2⟩
      ·exact .inl h
      ·exact .inr ⟨q',nG hq',(zEG _ _ _).mpr (.inl ⟨h1,h2⟩)⟩
     ·exact .inr ⟨(tq,bs),hmem,(zEG _ _ _).mpr (.inl ⟨nG h,h'⟩)⟩
    refine ite2 (λ c=>?_) (λ c=>?_)
    ·have ny:y∉bs:=by simpa using c
     refine⟨_,rfl,_,rfl,d,_,rfl,DPut.k (k:=Sum.inr y) ed3 (zAN (by rw[show (kvOf ks2).length=ks2.length from mD _];omega)),?_⟩;refine⟨addK ks2 y,some (.str y),rfl,zAU g3 hd,k3.trans (Tk.dk ed3),by rw[zAA,zJ2],by rw[zAK hld];exact el3,by rw[zAK ndd];exact edp3,by rw[zAK nlnd];exact eln3,zIA n3,λ z=>?_⟩;rw[zKU,m3,et,nO,mR];constructor
     ·rintro ((h|⟨h1,h2⟩)|h)
      ·exact .inl h
      ·exact .inr ⟨.inl h1,h2⟩
      ·exact .inr ⟨.inr h,h▸ny⟩
     ·rintro (h|⟨h1|h1,h2⟩)
      ·exact .inl (.inl h)
      ·exact .inl (.inr ⟨h1,h2⟩)
      ·exact .inr h1
    ·have ny:y∈bs:=by simpa using c
     refine⟨ks2,some (.str y),rfl,g3,k3,ed3,el3,edp3,eln3,n3,λ z=>?_⟩;rw[m3,et,nO,mR];constructor
     ·rintro (h|⟨h1,h2⟩)
      ·exact .inl h
      ·exact .inr ⟨.inl h1,h2⟩
     ·rintro (h|⟨h1|h1,h2⟩)
      ·exact .inl h
      ·exact .inr ⟨h1,h2⟩
      ·exact absurd (h1▸ny) h2
   ·rintro σ2 H3 ⟨ks2,s6,rfl,g3,k3,ed3,el3,edp3,eln3,n3,m3⟩
    rw[mD,mP] at m3;have k13:Tk H1 H3:=g2.tk.trans k3;have ru3:=ru.mono k13;refine⟨_,rfl,tq,u,rfl,ru3,λ pt H4 us g4 e4 hus=>⟨pt,rfl,⟨us,SqT.of e4⟩,?_⟩⟩;have hk:=zKZ tq bs;have hul:us.length=(kids tq bs).length:=by rw[hk,hus.length]
    have hb4:H4 b=some (.tup (bs.map V.str)):=g4.tk _ _ (k13 _ _ hb);have ru4:=ru3.mono g4.tk;refine zHT (xs:=us) (λ j σ' H'=>E3 λ(dps':List V) (s7 s8:Option V)=>A7 (σ'=[some v,some (.ref d),some (.ref l),some (.ref dp),some u,some (.ref b),s6,s7,s8]) (Same H H') (Tk H4 H') (H' d=some (.dK (kvOf ks2))) (H' l=some (.lst ps)) (H' dp=some (.lst dps')) (Paired (zDR H') (((lev.take i).flatMap λ q=>kids q.1 q.2)++(kids tq bs).take j) dps')) ?_ ?_ ?_ ?_
    ·exact⟨dps,s7,s8,rfl,g3.trans g4,.refl _,g4 _ _ ed3,g4 _ _ el3,g4 _ _ edp3,by
      rw[List.take_zero,nT];exact Paired.mapP hp1 λ Ω Ω z=>z.mono (k13.trans g4.tk)⟩
    ·rintro j σ3 H5 _ ⟨dps5,s7,s8,rfl,g5,k5,ed5,el5,edp5,hp5⟩
     exact SqT.of (k5 _ _ e4)
    ·rintro j x T σ3 H5 hx ⟨dps5,s7,s8,rfl,g5,k5,ed5,el5,edp5,hp5⟩ hT
     have gT:=zAC (o:=.tup [.int j,x]) hT;obtain⟨c,ec,rc⟩:=zAJ hus hx;have kk:=zKa tq bs j c ec;have hj:j<us.length:=(lJ.mp hx).1;refine⟨T,_,rfl,SqT.of zAA,rfl,_,_,rfl,_,_,rfl,rfl,?_⟩;have edp6:=gT _ _ edp5;refine⟨_,rfl,.inl ⟨rfl,_,SqL.of edp6⟩,_,rfl,_,rfl,_,rfl,_,rfl,tq,u,j,b,bs,rfl,ru4.mono (k5.trans gT.tk),gT.tk _ _ (k5 _ _ hb4),by omega,λ p H6 g6 e6=>⟨(by show 2<=sizeLine;decide),λ pq hpq=>?_⟩⟩;have gq:=zAC (o:=.tup [x,.ref p]) hpq;have gA:=gT.trans (g6.trans gq);have edp7:=gA _ _ edp5
     have tot:dps5.length<=500:=by
      rw[←hp5.length,mK,mO];have l1:=zEF ((lev.take i).flatMap λ q=>kids q.1 q.2);have l2:=zHR (lev.take i);have l3:total (lev.take (i+1))<=total lev:=zHg lev _;rw[zAO eq,zCI,zC9,zIE] at l3;have l4:=zEv tq bs;have l5:=zEF (kids tq bs);dsimp only at l3;omega
     refine⟨dp,_,_,rfl,rfl,edp7,zAN (by omega),?_⟩;have kset:Tk H5 (upd (upd H6 pq (.tup [x,.ref p])) dp (.lst (dps5++[.ref pq]))):=gA.tk.trans (Tk.lst edp7);refine⟨_,_,_,rfl,zAU (g5.trans gA) hdpH,k5.trans kset,by rw[zAK (Ne.symm ndd)];exact gA _ _ ed5,by rw[zAK (Ne.symm ndl)];exact gA _ _ el5,zAA,?_⟩;rw[zAO kk,←mZ];refine zAM (Paired.mapP hp5 λ Ω Ω z=>z.mono kset) (.cons ⟨pq,x,p,rfl,Tk.lst edp7 _ _ zAA,rc.mono (k5.trans kset),Tk.lst edp7 _ _ (gq _ _ e6)⟩ .nil)
    ·rintro σ3 H5 ⟨dps5,s7,s8,rfl,g5,k5,ed5,el5,edp5,hp5⟩
     refine⟨dps5,ks2,some u,some (.ref b),s6,s7,s8,rfl,g5,k1.trans (k13.trans (g4.tk.trans k5)),ed5,el5,edp5,?_,n3,λ z=>?_⟩
     ·rw[hul,mP] at hp5
      rw[zAO eq,nL];simpa using hp5
     ·rw[m3,m1,zAO eq]
      simp only[nO,mR];constructor
      ·rintro ((h|⟨q',hq',h⟩)|h)
       ·exact .inl h
       ·exact .inr ⟨q',.inl hq',h⟩
       ·exact .inr ⟨(tq,bs),.inr rfl,h⟩
      ·rintro (h|⟨q',hq'|hq',h⟩)
       ·exact .inl (.inl h)
       ·exact .inl (.inr ⟨q',hq',h⟩)
       ·subst hq';exact .inr h
  ·rintro σ1 H1 ⟨dps,ks1,s4,s5,s6,s7,s8,rfl,g1,k1,ed1,el1,edp1,hp1,n1,m1⟩
   have hlen:ps.length=lev.length:=hp.length.symm;rw[hlen,mP] at hp1 m1
   have pos:0<lev.length:=by
    rw[←hlen];cases ps with
    |nil=>simp at c
    |cons _ _=>simp
   have lk:=zHR lev;refine⟨_,rfl,_,?_,dp,dps,_,ks1,some (.ref dp),s4,s5,s6,s7,s8,rfl,g1,hdpH,ndd,ed1,edp1,hp1,n1,rfl,by omega,λ q' hq'=>?_,λ x=>?_⟩
   ·omega
   ·obtain⟨r,hr',hq''⟩:=mY.mp hq'
    exact zI5 r.1 r.2 500 (hdeep r hr') q' hq''
   ·rw[←hset,m1]
    constructor
    ·rintro ((h|⟨r,hr',h⟩)|⟨q',hq',h⟩)
     ·exact .inl h
     ·exact .inr ⟨r,hr',(zEG _ _ _).mpr (.inl h)⟩
     ·obtain⟨r,hr',hq''⟩:=mY.mp hq'
      exact .inr ⟨r,hr',(zEG _ _ _).mpr (.inr ⟨q',hq'',h⟩)⟩
    ·rintro (h|⟨r,hr',h⟩)
     ·exact .inl (.inl h)
     ·rcases (zEG _ _ _).mp h with h|⟨q',hq',h⟩
      ·exact .inl (.inr ⟨r,hr',h⟩)
      ·exact .inr ⟨q',mY.mpr ⟨r,hr',hq'⟩,h⟩
 ·have e0:ps=[]:=by
   cases ps with
   |nil=>rfl
   |cons _ _=>exact absurd rfl c
  subst e0;cases hp;have hk:∀x,x∈ks↔x∈t.fv []:=λ x=>by rw[←hset];simp
  refine⟨_,rfl,d,kvOf ks,ks,rfl,ed,by simp[kvOf,nW,Function.comp_def],?_,λ r ss hr' hperm hris=>?_⟩
  ·exact Nat.lt_of_le_of_lt (zC1 hnd λ x hx=>hsub x ((hk x).mp hx)) hws
  ·exact q r _ ss (gw.trans (zAC hr')) (gw.free hr') zAA (hperm.nodup_iff.mpr hnd) hris λ x=>by rw[hperm.mem_iff,hk]
def zEi:Sp:=λ vs H Q Ω=>E7 λ(t u:Tr) (p:Addr) (a b c:V) (ws:List Str)=>A10 (vs=[.ref p]) (H p=some (.tup [a,b,c])) (Rep H t a) (Rep H u b) (t.size<=60) (u.size<=60) (ws.length<64) (∀x∈t.fv [],x∈ws) (∀x∈u.fv [],x∈ws) (∀(z:Bool) (H':Hp),Same H H'->(z=true↔t.fv []≠[]\/u.fv []≠[])->Q (.bl z) H')
theorem zHt (F:Fun K "has_free_name" "has_free_name" zBe f fd) (z_len:mg "len" = none) (z_any:mg "any" = none) (zNk:FnB P w K mg base k "free_names" g1 gd1 ["tree"] zCs):FnOk P w K mg base CX0 (k+1) f fd ["rule"] zEi:=by
 refine F.ok zDg (λ vs H Q E h=>?_) (λ cdv A outer s H vs Q E hr h=>?_)
 ·obtain⟨t,u,p,a,b,c,ws,rfl,_⟩:=h
  rfl
 obtain⟨t,u,p,a,b,c,ws,rfl,hp,ra,rb,st,su,hws,ft,fu,q⟩:=h;refine⟨_,(zAF (zAV (zAd (zBj rfl) (by rfl) z_any PyProof.Rows.boot_any (zAB (zAq ["side"] [none] rfl (zCH (zA8 zDq (pv 0) zCO (zA4 zAI))) (λ Ω Ω Ω Ω Ω=>(zAf (i:=0) (show List.Nodup (["side"]:List Str) by symm) rfl (Or.inl rfl))) (λ Ω Ω Ω Ω Ω=>zBA) (λ Ω Ω Ω Ω Ω=>(zAn op_gt (zAd (r:=rLen K) zJk (by rfl) z_len PySem.boot_len (zAB (pe_cl zNk hr (zAB (pv 0) zAD)) zAD)) zAI (zAW _))) rfl) zAD)))),?_⟩;refine⟨_,rfl,_,rfl,p,_,rfl,hp,λ z=>?_,λ ps H1 g1 e1=>?_⟩
 ·exact absurd z (show ¬((0:Nat)=0/\(2:Nat)=3) by decide)
 have e1':H1 ps=some (.tup [a,b]):=e1;refine⟨ps,rfl,⟨_,SqT.of e1'⟩,λ acc hacc=>?_⟩;refine zBi (xs:=[a,b]) (λ i H'=>Same H1 H'/\∃bs:List Bool,H' acc=some (.lst (bs.map V.bl))/\bs.length=i/\(bs.any id=true↔∃x∈[t,u].take i,x.fv []≠[])) ⟨zAC hacc,[],zAA,rfl,by simp⟩ (λ i H' Ω h=>SqT.of (h.1 _ _ e1')) ?_ ?_
 ·rintro i x H2 hx ⟨g2,bs,ea,lb,hb⟩
  obtain⟨tq,etq,rq,sq,fq⟩:∃tq,[t,u][i]?=some tq/\Rep H tq x/\tq.size<=60/\∀x∈tq.fv [],x∈ws:=by
   match i,hx with
   |0,hx=>cases hx;exact⟨t,rfl,ra,st,ft⟩
   |1,hx=>cases hx;exact⟨u,rfl,rb,su,fu⟩
  have g12:=g1.trans g2;have hi:i<2:=(lJ.mp hx).1;refine⟨.skip .nil,_,rfl,tq,x,ws,rfl,rq.mono g12.tk,by omega,hws,fq,λ l H3 ss g3 hln el nd rs hss=>?_⟩;refine⟨l,_,rfl,.inl (SqL.of el),_,_,rfl,rfl,?_⟩;refine⟨_,g3 _ _ ea,zAN (by rw[mD];omega),zAU (g2.trans g3) hacc,bs++[decide (0<ss.length)],?_,by simp[lb],?_⟩
  ·rw[zAA,mQ]
   have e9:decide ((0:Int)<(((ss.map V.str).length:Nat):Int))=decide (0<ss.length):=by
    rw[mD,Bool.eq_iff_iff,decide_eq_true_iff,decide_eq_true_iff];omega
   show some (HO.lst (_++[V.bl (decide ((0:Int)<(((ss.map V.str).length:Nat):Int)))]))=_;rw[e9];rfl
  ·rw[List.any_append,Bool.or_eq_true,hb,zAO etq]
   have e8 : [decide (0<ss.length)].any id=true↔tq.fv []≠[]:=by
    simp only[List.any_cons,List.any_nil,Bool.or_false,id_eq,decide_eq_true_iff];constructor
    ·intro h z
     cases ss with
     |nil=>cases h
     |cons x ss=>have:=(hss x).mp lO;rw[z] at this;cases this
    ·intro h
     cases e:tq.fv [] with
     |nil=>exact absurd e h
     |cons x r =>
      have:=(hss x).mpr (by rw[e];exact lO);exact List.length_pos_of_mem this
   rw[e8];constructor
   ·rintro (⟨y,hy,h⟩|h)
    ·exact⟨y,mF _ hy,h⟩
    ·exact⟨tq,by simp,h⟩
   ·rintro⟨y,hy,h⟩
    rcases lK.mp hy with z|z
    ·exact .inl ⟨y,z,h⟩
    ·rw[mR.mp z] at h;exact .inr h
 ·rintro H2 ⟨g2,bs,ea,lb,hb⟩
  refine⟨acc,bs,rfl,ea,q _ H2 (g1.trans g2) (hb.trans ?_)⟩;simp
abbrev zCh:Stmt:=top 28
theorem zFy:zAQ ["shape"] ["shape"] (zAH zCh):=scI
abbrev zBs:Stmt:=top 29
theorem zBc:zAQ ["shape", "counted", "part"] ["shape"] (zAH zBs):=scI
abbrev zDy:Stmt:=top 30
theorem zCW:zAQ ["shape", "first", "gap", "many"] ["shape"] (zAH zDy):=scI
def zE8:Sp:=λ vs H Q Ω=>E2 λ(t:Tr) (v:V)=>A4 (vs=[v]) (Rep H t v) (t.size<=60) (∀(l:Addr) (us:List V) (H':Hp),Same H H'->H l=none->H' l=some (.lst us)->Paired (Rep H') (t.subs.filter isGap) us->Q (.ref l) H')
theorem zL6 (F:Fun K "gap_parts" "gap_parts" zCh f fd) (zNl:FnB P w K mg base k "placed_parts" g1 gd1 ["tree"] zFr):FnOk P w K mg base CX0 (k+1) f fd ["shape"] zE8:=by
 refine F.ok zFy (λ vs H Q E h=>?_) (λ cdv A outer s H vs Q E hr h=>?_)
 ·obtain⟨t,v,rfl,_⟩:=h
  rfl
 obtain⟨t,v,rfl,hR,hsz,q⟩:=h;refine⟨_,(zAF (zAV (zAq ["place", "part"] [none,none] rfl (zAs (pe_cl zNl hr (zAB (pv 0) zAD))) (λ Ω Ω Ω Ω Ω=>(zFF (K:=K) (n:=2) rfl rfl (zAZ (zAf (i:=0) (show List.Nodup (["place", "part"]:List Str) by symm) rfl (Or.inl rfl)) (zAZ (zAf (i:=1) (show List.Nodup (["place", "part"]:List Str) by symm) rfl (Or.inl rfl)) zBL)))) (λ Ω Ω Ω Ω Ω=>(zDJ (zAR op_eq (iC (r:=rIxT K) zAS (pv 1)) zAX (zAW _)))) (λ Ω Ω Ω Ω Ω=>(pv 1)) rfl))),?_⟩;refine⟨_,rfl,t,v,rfl,hR,hsz,λ l us H1 g1 el pF=>⟨l,rfl,⟨us,SqL.of el⟩,λ acc hacc=>?_⟩⟩;have lu:us.length=t.subs.length:=zAG pF;have ls:=zBy t;refine zA0 (xs:=us) (λ i H'=>Same H1 H'/\∃(zs:List V),H' acc=some (.lst zs)/\Paired (Rep H') ((t.subs.take i).filter isGap) zs) ⟨zAC hacc,[],zAA,.nil⟩ (λ i H' Ω h=>SqL.of (h.1 _ _ el)) ?_ ?_
 ·rintro i x Hx hx ⟨gx,zs,ez,pG⟩
  obtain⟨tq,eq,pl,u,⟨b,c,rfl,hb,_⟩,ru⟩:=zAJ pF hx;have hi:i<us.length:=(lJ.mp hx).1;have lz:=zAG pG;have lz2:=List.length_filter_le isGap (t.subs.take i);rw[mO] at lz2;have ru':=ru.mono gx.tk;dsimp only at hb ru';obtain⟨pa,hs,us',rfl,hpa,hhl,hparts⟩:=ru'.all;have at0:atI (V.str tq.kd.s::hs++us') 0=some (.str tq.kd.s):=zAP (j:=0) rfl;have htk:=zAO eq;refine⟨b,_,rfl,SqT.of (gx _ _ hb),rfl,_,_,rfl,_,_,rfl,rfl,.skip (.skip .nil),?_⟩;refine⟨_,rfl,pa,_,0,_,rfl,rfl,SqT.of hpa,at0,rfl,_,rfl,ite2 (λ c=>?_) (λ c=>?_)⟩
  ·have z:tq.kd = .gap:=Kd.eq_iff.mp (lT c)
   have tkz:Tk Hx (upd Hx acc (.lst (zs++[.ref pa]))):=Tk.lst ez;refine⟨_,rfl,zs,ez,zAN (by omega),zAU gx hacc,zs++[.ref pa],zAA,?_⟩;rw[htk,List.filter_append,show [tq].filter isGap=[tq] by rw[List.filter_cons_of_pos (by exact decide_eq_true z)];rfl];exact zAM (Paired.mapP pG λ Ω Ω z=>z.mono tkz) (.cons (ru'.mono tkz) .nil)
  ·have z:¬tq.kd = .gap:=λ z=>c (lU (by rw[z];rfl))
   refine⟨gx,zs,ez,?_⟩;rw[htk,List.filter_append,show [tq].filter isGap=[] by rw[List.filter_cons_of_neg (by exact λ w=>z (of_decide_eq_true w))];rfl,nT];exact pG
 rintro H2 ⟨g2,zs,ez,pG⟩;rw[mW (by omega)] at pG;exact q acc zs H2 (g1.trans g2) (g1.free hacc) ez pG
def zDC:Sp:=λ vs H Q Ω=>E2 λ(t:Tr) (v:V)=>A5 (vs=[v]) (Rep H t v) (t.size<=60) (∀p∈t.subs,(cnt1 p).length<=10) (∀(l:Addr) (us:List V) (H':Hp),Same H H'->H' l=some (.lst us)->Paired (WN H') (gcnt t) us->us.length<=600->Q (.ref l) H')
theorem zHu (F:Fun K "counted_gaps" "counted_gaps" zBs f fd) (z_len:mg "len" = none) (zNm:FnB P w K mg base k "gap_parts" g1 gd1 ["shape"] zE8):FnOk P w K mg base CX0 (k+1) f fd ["shape"] zDC:=by
 refine F.ok zBc (λ vs H Q E h=>?_) (λ cdv A outer s H vs Q E hr h=>?_)
 ·obtain⟨t,v,rfl,_⟩:=h
  rfl
 obtain⟨t,v,rfl,hR,hsz,h10,q⟩:=h
 refine⟨_,(Sd.un (zAT (pSS (i:=1) zBc.nd (zFG ⟨zAD⟩))
  (zAT ⟨zA5 PassesOwn.never rfl (zAs (pe_cl zNm hr (zAB (pv 0) zAD))) (pGn (i:=2) zBc.nd) (zAE (pAp (pv 1) (zAv (zAB (iC (r:=rIxT K) zAS (pv 2)) (zAB (cL z_len (zAB (iC (r:=rIxT K) zAS (pv 2)) zAD)) zAD)):PE _ _ _))
  (zAF (zBw (pe_bm rV rZ tE zC2 (pv 1) (zAB (zAq ["atom"] [none] rfl (zCH (iC (r:=rIxT K) zAS (pv 2))) (λ Ω Ω Ω Ω Ω=>(zAf (i:=0) (show List.Nodup (["atom"]:List Str) by symm) rfl (Or.inl rfl))) (λ Ω Ω Ω Ω Ω=>(zDJ (zAR op_eq (iC (r:=rIxT K) zAS (pv 0)) zAX (zAW _)))) (λ Ω Ω Ω Ω Ω=>(zAv (zAB (iC (r:=rIxT K) zAS (pv 0)) (zAB zAI zAD)):PE _ _ _)) rfl) zAD)))))⟩
  (zAr (zBv ⟨pv 1⟩))))),?_⟩
 have d2:2<=sizeLine:=by decide
 refine⟨(by show 0<=sizeLine;decide),λ co hco=>?_⟩;have g0:=zAC (o:=.lst []) hco;have eco:=@zAA H co (.lst []);have hR0:=hR.mono g0.tk;show tSeq _ _ _ _ (upd H co (.lst []));generalize upd H co _=H0 at g0 eco hR0 ⊢;refine⟨_,rfl,t,v,rfl,hR0,hsz,λ l us H1 g1 hln el pF=>⟨l,rfl,⟨us,SqL.of el⟩,?_⟩⟩;have hF:∀p,p∈t.subs.filter isGap↔p∈t.subs/\p.kd = .gap:=λ p=>by rw[List.mem_filter];exact⟨λ h=>⟨h.1,lT h.2⟩,λ h=>⟨h.1,lU h.2⟩⟩
 have hl:(t.subs.filter isGap).length<=60:=by have:=List.length_filter_le isGap t.subs;have:=zBy t;omega
 have eF:=zJI t;generalize t.subs.filter isGap=F at pF hF hl eF;have lu:us.length=F.length:=zAG pF;have nlc:l≠co:=λ z=>by rw[z,eco] at hln;cases hln
 have bound:∀i,((F.take i).flatMap cnt1).length<=10 * i:=λ i=>by
  have key:∀L:List Tr,(∀p∈L,(cnt1 p).length<=10)->(L.flatMap cnt1).length<=10 * L.length:=by
   intro L
   induction L with
   |nil=>simp
   |cons a L ih =>
    intro h;have h1:=h a lO;have h2:=ih λ p hp=>h p (lP _ hp);rw[rK,mK,mM];omega
  have:=key (F.take i) λ p hp=>h10 p ((hF p).mp (nG hp)).1;rw[mO] at this;omega
 refine zBI (xs:=us) (λ i σ' H'=>E2 λ(cs:List V) (s2:Option V)=>A6 (σ'=[some v,some (.ref co),s2]) (Same H H') (Tk H1 H') (H' l=some (.lst us)) (H' co=some (.lst cs)) (Paired (WN H') ((F.take i).flatMap cnt1) cs)) ?_ ?_ ?_ ?_
 ·exact⟨[],none,rfl,g0.trans g1,.refl _,el,g1 _ _ eco,.nil⟩
 ·rintro i σ' H' _ ⟨cs,s2,rfl,g,tk,el',ec,pc⟩
  exact SqL.of el'
 ·rintro i x σ' H' hx ⟨cs,s2,rfl,g,tk,el',ec,pc⟩
  obtain⟨tq,eq,rq⟩:=zAJ pF hx;have hi:i<us.length:=(lJ.mp hx).1;have lc:cs.length=((F.take i).flatMap cnt1).length:=zAG pc;have bi:=bound i;have bi1:=bound (i+1);have htk:(F.take (i+1)).flatMap cnt1=(F.take i).flatMap cnt1++cnt1 tq:=by rw[zAO eq,nL];simp
  rw[htk,mK] at bi1;have z:=((hF tq).mp (lM eq)).2;cases tq with
  |gap gx as =>
   obtain⟨pa,b',us2,rfl,ha',hb',hl2,pas⟩:=rq.mono tk;have las:us2.length=as.length:=zAG pas;have at1:atI [V.str "gap", .str gx,.ref b'] 1=some (.str gx):=zAP (j:=1) rfl;have at2:atI [V.str "gap", .str gx,.ref b'] 2=some (.ref b'):=zAP (j:=2) rfl;refine⟨_,rfl,.inl ⟨rfl,_,SqL.of ec⟩,_,rfl,pa,_,1,_,rfl,rfl,SqT.of ha',at1,_,rfl,pa,_,2,_,rfl,rfl,SqT.of ha',at2,b',us2,rfl,.inr (SqT.of hb'),d2,λ pt hpt=>?_⟩;have k1:=zAC (o:=.tup [.str gx,.int ((us2.length:Nat):Int)]) hpt;have ec1:=k1 _ _ ec;refine⟨co,cs,_,rfl,rfl,ec1,zAN (by omega),?_⟩;have k2:Tk (upd H' pt (.tup [.str gx,.int ((us2.length:Nat):Int)])) (upd (upd H' pt (.tup [.str gx,.int ((us2.length:Nat):Int)])) co (.lst (cs++[.ref pt]))):=Tk.lst ec1;have g2:Same H (upd (upd H' pt (.tup [.str gx,.int ((us2.length:Nat):Int)])) co (.lst (cs++[.ref pt]))):=zAU (g.trans k1) hco;have el2:(upd (upd H' pt (.tup [.str gx,.int ((us2.length:Nat):Int)])) co (.lst (cs++[.ref pt]))) l=some (.lst us):=by rw[zAK nlc];exact k1 _ _ el'
   have ec2:=@zAA (upd H' pt (.tup [.str gx,.int ((us2.length:Nat):Int)])) co (.lst (cs++[.ref pt]));have tk2:=tk.trans (k1.tk.trans k2);have ha2:=(k1.tk.trans k2) _ _ ha';have hb2:=(k1.tk.trans k2) _ _ hb';have pas2:Paired (AtRep (upd (upd H' pt (.tup [.str gx,.int ((us2.length:Nat):Int)])) co (.lst (cs++[.ref pt])))) as us2:=Paired.mapP pas λ Ω Ω z=>z.mono (k1.tk.trans k2);have pc2:Paired (WN (upd (upd H' pt (.tup [.str gx,.int ((us2.length:Nat):Int)])) co (.lst (cs++[.ref pt])))) ((F.take i).flatMap cnt1++[(gx,as.length)]) (cs++[.ref pt]):=zAM (Paired.mapP pc λ Ω Ω z=>z.mono (k1.tk.trans k2)) (.cons ⟨pt,rfl,by rw[←las];exact k2 _ _ zAA⟩ .nil);generalize upd (upd H' pt _) co _=H2 at g2 el2 ec2 tk2 ha2 hb2 pas2 pc2 ⊢;refine⟨_,rfl,.inl ⟨rfl,_,SqL.of ec2⟩,_,rfl,pa,_,2,_,rfl,rfl,SqT.of ha2,at2,b',rfl,⟨us2,SqT.of hb2⟩,λ acc hacc=>?_⟩;have b3:(cnt1 (.gap gx as)).length=1+(as.flatMap λ a=>(agap a).map λ h=>(h,0)).length:=by simp[cnt1];omega
   refine zBi (xs:=us2) (λ j H'=>Same H2 H'/\∃zs:List V,H' acc=some (.lst zs)/\Paired (WN H') ((as.take j).flatMap λ a=>(agap a).map λ h=>(h,0)) zs/\zs.length<=j) ⟨zAC hacc,[],zAA,.nil,lQ _⟩ (λ j H' Ω h=>SqT.of (h.1 _ _ hb2)) ?_ ?_
   ·rintro j x Hx hx ⟨gx',zs,ez,pz,lz⟩
    obtain⟨at',eat,rat⟩:=zAJ pas2 hx;have hj:j<us2.length:=(lJ.mp hx).1;have htj:((as.take (j+1)).flatMap λ a=>(agap a).map λ h=>(h,0))=((as.take j).flatMap λ a=>(agap a).map λ h=>(h,0))++(agap at').map λ h=>(h,0):=by rw[zAO eat,nL];simp
    obtain⟨b,r,rfl,hb⟩:=(rat.mono gx'.tk).all;rcases hb with ⟨h,rfl,hb⟩|⟨hag,kk,hkk,hb⟩
    ·have a0:atI (V.str "gap" :: .str h::r) 0=some (.str "gap"):=zAP (j:=0) rfl
     have a1:atI (V.str "gap" :: .str h::r) 1=some (.str h):=zAP (j:=1) rfl;refine⟨.skip .nil,_,rfl,b,_,0,_,rfl,rfl,SqT.of hb,a0,rfl,_,rfl,ite2 (λ Ω=>?_) (λ c=>absurd (lU rfl) c)⟩;refine⟨_,rfl,b,_,1,_,rfl,rfl,SqT.of hb,a1,d2,λ pq hpq=>?_⟩;have k5:=zAC (o:=.tup [.str h,.int 0]) hpq;have tkz:Tk (upd Hx pq (.tup [.str h,.int 0])) (upd (upd Hx pq (.tup [.str h,.int 0])) acc (.lst (zs++[.ref pq]))):=Tk.lst (k5 _ _ ez);refine⟨zs,k5 _ _ ez,zAN (by omega),zAU (gx'.trans k5) hacc,zs++[.ref pq],zAA,?_,by simp;omega⟩;rw[htj];exact zAM (Paired.mapP pz λ Ω Ω z=>z.mono (k5.tk.trans tkz)) (.cons ⟨pq,rfl,tkz _ _ zAA⟩ .nil)
    ·have a0:atI (V.str kk::r) 0=some (.str kk):=zAP (j:=0) rfl
     refine⟨.skip .nil,_,rfl,b,_,0,_,rfl,rfl,SqT.of hb,a0,rfl,_,rfl,ite2 (λ c=>absurd (V.str.inj (lT c)) hkk) (λ Ω=>?_)⟩;refine⟨gx',zs,ez,?_,by omega⟩;rw[htj,hag];simpa using pz
   ·rintro H3 ⟨g3,zs,ez,pz,lz⟩
    rw[mW (by omega)] at pz;have lz2:zs.length=(as.flatMap λ a=>(agap a).map λ h=>(h,0)).length:=zAG pz;have ec3:=g3 _ _ ec2;refine⟨co,acc,cs++[.ref pt],zs,rfl,rfl,ec3,ez,zAh (by simp;omega),?_⟩;have tkz:Tk H3 (upd H3 co (.lst (cs++[.ref pt]++zs))):=Tk.lst ec3;refine⟨cs++[.ref pt]++zs,_,rfl,zAU (g2.trans g3) hco,tk2.trans (g3.tk.trans tkz),by rw[zAK nlc];exact g3 _ _ el2,zAA,?_⟩;rw[htk];have e9:(F.take i).flatMap cnt1++cnt1 (.gap gx as)=(F.take i).flatMap cnt1++[(gx,as.length)]++as.flatMap λ a=>(agap a).map λ h=>(h,0):=by simp[cnt1]
    rw[e9];exact zAM (Paired.mapP pc2 λ Ω Ω z=>z.mono (g3.tk.trans tkz)) (Paired.mapP pz λ Ω Ω z=>z.mono tkz)
  |bin o a b=>cases o<;>cases z
  |_=>cases z
 ·rintro σ' H' ⟨cs,s2,rfl,g,tk,el',ec,pc⟩
  have bi:=bound us.length;rw[mW (by omega)] at pc bi;have lp:=zAG pc;rw[eF] at pc;exact⟨_,rfl,q co cs H' g ec pc (by omega)⟩
def zCr:Sp:=λ vs H Q Ω=>E2 λ(t:Tr) (v:V)=>A5 (vs=[v]) (Rep H t v) (t.size<=60) (∀p∈t.subs,(cnt1 p).length<=10) (∀(d:Addr) (kvs:List (Key × V)) (H':Hp),Same H H'->H d=none->H' d=some (.dK kvs)->Fd1 (gcnt t) kvs->kvs.length<=600->Q (.ref d) H')
theorem zIv (F:Fun K "gaps_of" "gaps_of" zDy f fd) (zNn:FnB P w K mg base k "counted_gaps" g1 gd1 ["shape"] zDC):FnOk P w K mg base CX0 (k+1) f fd ["shape"] zCr:=by
 refine F.ok zCW (λ vs H Q E h=>?_) (λ cdv A outer s H vs Q E hr h=>?_)
 ·obtain⟨t,v,rfl,_⟩:=h
  rfl
 obtain⟨t,v,rfl,hR,hsz,h10,q⟩:=h
 refine⟨_,(zAE (pS (i:=1) zCW.nd zFH)
  (zAE (zA5 PassesOwn.never rfl (zAs (pe_cl zNn hr (zAB (pv 0) zAD))) (zCc rfl (zAZ (pGn (i:=2) zCW.nd) (zAZ (pGn (i:=3) zCW.nd) zBL))) (zAF (zBw (pe_bm rW PySem.F.slot_dict_setdefault PySem.F.type_dict_setdefault zFM (pv 1) (zAB (pv 2) (zAB (pv 3) zAD))))))
  (zAF (zAV (pv 1))))),?_⟩
 refine λ d0 hd0=>?_;have g0:=zAC (o:=.dK []) hd0;have ed0:=@zAA H d0 (.dK []);have hR0:=hR.mono g0.tk;show tSeq _ _ _ _ (upd H d0 (.dK []));generalize upd H d0 _=H0 at g0 ed0 hR0 ⊢;refine⟨_,rfl,t,v,rfl,hR0,hsz,h10,λ l us H1 g1 el pC hl=>⟨l,rfl,⟨us,SqL.of el⟩,?_⟩⟩;generalize hCe:gcnt t=C at pC;have lu:us.length=C.length:=zAG pC;have nld:l≠d0:=λ z=>by rw[z,g1 _ _ ed0] at el;cases el
 refine zBI (xs:=us) (λ i σ' H'=>E3 λ(kvs:List (Key × V)) (s2 s3:Option V)=>A7 (σ'=[some v,some (.ref d0),s2,s3]) (Same H H') (Tk H1 H') (H' l=some (.lst us)) (H' d0=some (.dK kvs)) (Fd1 (C.take i) kvs) (kvs.length<=i)) ?_ ?_ ?_ ?_
 ·exact⟨[],none,none,rfl,g0.trans g1,.refl _,el,g1 _ _ ed0,Fd1.nil,lQ _⟩
 ·rintro i σ' H' _ ⟨kvs,s2,s3,rfl,g,tk,el',ed,gd,le⟩
  exact SqL.of el'
 ·rintro i x σ' H' hx ⟨kvs,s2,s3,rfl,g,tk,el',ed,gd,le⟩
  obtain⟨⟨y,n⟩,eq,rq⟩:=zAJ pC hx;have hi:i<us.length:=(lJ.mp hx).1;obtain⟨b,rfl,hb⟩:=rq.mono tk;dsimp only at hb;have htk:C.take (i+1)=C.take i++[(y,n)]:=zAO eq;refine⟨b,_,rfl,SqT.of hb,rfl,_,_,rfl,_,_,rfl,rfl,?_⟩;refine⟨_,rfl,.inr (.inr (.inl ⟨rfl,.inl ⟨kvs,ed⟩⟩)),_,rfl,_,rfl,d0,kvs,Sum.inr y,_,rfl,rfl,ed,by omega,λ z hz=>?_,λ hz=>?_⟩
  ·refine⟨kvs,_,_,rfl,g,tk,el',ed,?_,by omega⟩
   rw[htk];exact gd.same hz
  ·refine⟨_,_,_,rfl,zAU g hd0,tk.trans (Tk.dk ed),by rw[zAK nld];exact el',zAA,?_,?_⟩
   ·rw[htk]
    exact gd.put hz
   ·have:=zBh kvs (Sum.inr y:Key) (.int ((n:Nat):Int))
    omega
 ·rintro σ' H' ⟨kvs,s2,s3,rfl,g,tk,el',ed,gd,le⟩
  rw[mW (by omega)] at gd;exact⟨_,rfl,q d0 kvs H' g hd0 ed (hCe▸gd) (by omega)⟩
abbrev zB8:Stmt:=top 40
theorem zCb:zAQ ["rule", "left"] ["rule"] (zAH zB8):=scI
structure RuS (H:Hp) (p:Addr) (a b c:V) (t u:Tr):Prop where
 hp:H p=some (.tup [a,b,c])
 ra:Rep H t a
 rb:Rep H u b
 st:t.size<=60
 su:u.size<=60
 ct:∀p∈t.subs,(cnt1 p).length<=10
 cu:∀p∈u.subs,(cnt1 p).length<=10
theorem RuS.mono {H H':Hp}{p:Addr}{a b c:V}{t u:Tr}(h:RuS H p a b c t u) (k:Tk H H'):RuS H' p a b c t u:=⟨k _ _ h.hp,h.ra.mono k,h.rb.mono k,h.st,h.su,h.ct,h.cu⟩
def zFs:Sp:=λ vs H Q Ω=>E6 λ(t u:Tr) (p:Addr) (a b c:V)=>A3 (vs=[.ref p]) (RuS H p a b c t u) (∀(z:Bool) (H':Hp),Same H H'->(z=true↔∃g∈(gcnt u).map (·.1),g∉(gcnt t).map (·.1))->Q (.bl z) H')
theorem zIt (F:Fun K "has_new_gap" "has_new_gap" zB8 f fd) (z_any:mg "any" = none) (zNo:FnB P w K mg base k "gaps_of" g1 gd1 ["shape"] zCr):FnOk P w K mg base CX0 (k+1) f fd ["rule"] zFs:=by
 refine F.ok zCb (λ vs H Q E h=>?_) (λ cdv A outer s H vs Q E hr h=>?_)
 ·obtain⟨t,u,p,a,b,c,rfl,_⟩:=h
  rfl
 obtain⟨t,u,p,a,b,c,rfl,hS,q⟩:=h;have hu:=hu_of hr
 refine⟨_,(zAE (zHF (i:=1) zCb.nd rfl (Or.inr rfl) (pe_cl zNo hr (zAB (iC (r:=rIxT K) zAS (pv 0)) zAD)))
  (zAF (zAV (zAd (zBj rfl) (by rfl) z_any PyProof.Rows.boot_any (zAB (zAq ["gap", "left"] [none,some 1] rfl (zLq (pe_cl zNo hr (zAB (iC (r:=rIxT K) zAS (pv 0)) zAD))) (λ Ω Ω Ω Ω Ω=>(zAf (i:=0) (show List.Nodup (["gap", "left"]:List Str) by symm) rfl (Or.inl rfl))) (λ Ω Ω Ω Ω Ω=>zBA) (λ Ω Ω Ω Ω Ω=>(zAn (zD9 hu) (pv 0) (pv 1) rfl)) rfl) zAD))))),?_⟩
 refine⟨_,rfl,p,_,0,_,rfl,rfl,SqT.of hS.hp,zAP (j:=0) rfl,t,a,rfl,hS.ra,hS.st,hS.ct,λ dl kl H1 g1 hdl edl fl ll=>?_⟩;refine⟨_,rfl,p,_,1,_,rfl,rfl,SqT.of (g1 _ _ hS.hp),zAP (j:=1) rfl,u,b,rfl,hS.rb.mono g1.tk,hS.su,hS.cu,λ dr kr H2 g2 hdr edr fr lr=>⟨dr,kr,rfl,.inr ⟨edr,λ ob=>?_⟩⟩⟩;have g6:Same H1 (upd H2 dr (.frz ob (.dK kr))):=zAU g2 hdr;have edr6:=@zAA H2 dr (.frz ob (.dK kr));generalize upd H2 dr _=H6 at g6 edr6 ⊢;have edl6:=g6 _ _ edl;refine λ acc hacc=>?_
 refine zE1 (o:=ob) (a:=dr) (kvs:=kr) (λ i H'=>Same H6 H'/\∃bs:List Bool,H' acc=some (.lst (bs.map V.bl))/\bs.length<=i /\
   (bs.any id=true↔∃p∈kr.take i,∃g:Str,p.1=(Sum.inr g:Key)/\g∉(gcnt t).map (·.1))) ?_ ?_ ?_ ?_
 ·exact⟨zAC hacc,[],zAA,lQ _,by simp⟩
 ·rintro i H' _ ⟨g,_⟩
  exact g _ _ edr6
 ·rintro i pr H' hpr ⟨g,bs,eb,lb,hb⟩
  obtain⟨x,hx,ex⟩:=fr.ky pr (lM hpr);have hi:i<kr.length:=(lJ.mp hpr).1;obtain⟨p1,p2⟩:=pr;dsimp only at ex;subst ex;refine⟨.skip (.keep .nil),_,rfl,_,rfl,dl,_,rfl,DGet.k (k:=Sum.inr x) (g _ _ edl6),?_⟩;rw[fl.isS x];refine⟨_,eb,zAN (by rw[mD];omega),zAU g hacc,bs++[!decide (x∈(gcnt t).map (·.1))],?_,by simp;omega,?_⟩
  ·rw[zAA,mQ]
   rfl
  ·rw[List.any_append,Bool.or_eq_true,hb,zAO hpr]
   constructor
   ·rintro (⟨y,hy,h⟩|h)
    ·exact⟨y,mF _ hy,h⟩
    ·exact⟨_,mB _ lO,x,rfl,by simpa using h⟩
   ·rintro⟨y,hy,h⟩
    rcases lK.mp hy with z|z
    ·exact .inl ⟨y,z,h⟩
    ·obtain⟨g',e',n'⟩:=h
     rw[mR.mp z] at e';rw[←Sum.inr.inj e'] at n';exact .inr (by simpa using n')
 ·rintro H3 ⟨g3,bs,eb,lb,hb⟩
  rw[mW (Nat.le_refl _)] at hb;refine⟨acc,bs,rfl,eb,q _ H3 (g1.trans (g6.trans g3)) (hb.trans ?_)⟩;constructor
  ·rintro⟨y,hy,g,e,n⟩
   exact⟨g,fr.has.mp ⟨y,hy,e⟩,n⟩
  ·rintro⟨g,hg,n⟩
   obtain⟨y,hy,e⟩:=fr.has.mpr hg;exact⟨y,hy,g,e,n⟩
abbrev zA9:Stmt:=top 37
theorem zA2:zAQ ["rule", "first", "counted"] ["rule"] (zAH zA9):=scI
def zFq:Sp:=λ vs H Q Ω=>E6 λ(t u:Tr) (p:Addr) (a b c:V)=>A3 (vs=[.ref p]) (RuS H p a b c t u) (∀(z:Bool) (H':Hp),Same H H'->(z=true↔zJn (gcnt t) (gcnt t++gcnt u))->Q (.bl z) H')
theorem zIr (F:Fun K "has_unlike_counts" "has_unlike_counts" zA9 f fd) (z_any:mg "any" = none) (zNo:FnB P w K mg base k "gaps_of" g1 gd1 ["shape"] zCr) (zNn:FnB P w K mg base k "counted_gaps" g2 gd2 ["shape"] zDC):FnOk P w K mg base CX0 (k+1) f fd ["rule"] zFq:=by
 refine F.ok zA2 (λ vs H Q E h=>?_) (λ cdv A outer s H vs Q E hr h=>?_)
 ·obtain⟨t,u,p,a,b,c,rfl,_⟩:=h
  rfl
 obtain⟨t,u,p,a,b,c,rfl,hS,q⟩:=h;have hu:=hu_of hr
 refine⟨_,(zAE (zHF (i:=1) zA2.nd rfl (Or.inr rfl) (pe_cl zNo hr (zAB (iC (r:=rIxT K) zAS (pv 0)) zAD)))
  (zAE (pS (i:=2) zA2.nd (pe_op zM9 (pe_cl zNn hr (zAB (iC (r:=rIxT K) zAS (pv 0)) zAD)) (pe_cl zNn hr (zAB (iC (r:=rIxT K) zAS (pv 0)) zAD))))
  (zAF (zAV (zAd (zBj rfl) (by rfl) z_any PyProof.Rows.boot_any (zAB (zAq ["gap", "many", "first"] [none,none,some 1] rfl (zAs (pv 2)) (λ Ω Ω Ω Ω Ω=>(zFF (K:=K) (n:=2) rfl rfl (zAZ (zAf (i:=0) (show List.Nodup (["gap", "many", "first"]:List Str) by symm) rfl (Or.inl rfl)) (zAZ (zAf (i:=1) (show List.Nodup (["gap", "many", "first"]:List Str) by symm) rfl (Or.inl rfl)) zBL)))) (λ Ω Ω Ω Ω Ω=>zBA) (λ Ω Ω Ω Ω Ω=>(zDV (zAn (zM7 hu) (pv 0) (pv 2) rfl) (zB0 (zAn op_ne (zIj hu (pv 2) (pv 0) (λ Ω Ω=>rfl)) (pv 1) (zAW _))))) rfl) zAD)))))),?_⟩
 refine⟨_,rfl,p,_,0,_,rfl,rfl,SqT.of hS.hp,zAP (j:=0) rfl,t,a,rfl,hS.ra,hS.st,hS.ct,λ d kv H1 g1 hd ed fd ld=>?_⟩;have hS1:=hS.mono g1.tk;refine⟨_,rfl,p,_,0,_,rfl,rfl,SqT.of hS1.hp,zAP (j:=0) rfl,t,a,rfl,hS1.ra,hS.st,hS.ct,λ l1 us1 H2 g2 e1 p1 n1=>?_⟩;have hS2:=hS1.mono g2.tk;refine⟨_,rfl,p,_,1,_,rfl,rfl,SqT.of hS2.hp,zAP (j:=1) rfl,u,b,rfl,hS2.rb,hS.su,hS.cu,λ l2 us2 H3 g3 e2 p2 n2=>⟨l1,l2,us1,us2,rfl,rfl,g3 _ _ e1,e2,Nat.le_of_lt (zCQ (by omega)),λ l hl=>?_⟩⟩;have k4:=zAC (o:=.lst (us1++us2)) hl;have el:=@zAA H3 l (.lst (us1++us2));have pC:Paired (WN (upd H3 l (.lst (us1++us2)))) (gcnt t++gcnt u) (us1++us2):=zAM (Paired.mapP p1 λ Ω Ω z=>z.mono (g3.trans k4).tk) (Paired.mapP p2 λ Ω Ω z=>z.mono k4.tk);have g14:=g2.trans (g3.trans k4);generalize upd H3 l _=H4 at el pC k4 g14 ⊢;have ed4:=g14 _ _ ed;have lC:=zAG pC;rw[mK] at lC;refine⟨_,rfl,l,rfl,⟨_,SqL.of el⟩,λ acc hacc=>?_⟩;refine zA0 (xs:=us1++us2) (λ i H'=>Same H4 H'/\∃bs:List Bool,H' acc=some (.lst (bs.map V.bl))/\bs.length<=i/\(bs.any id=true↔∃x∈(gcnt t++gcnt u).take i,∃n,zAy (gcnt t) x.1=some n/\n≠x.2)) ⟨zAC hacc,[],zAA,lQ _,by simp⟩ (λ i H' Ω h=>SqL.of (h.1 _ _ el)) ?_ ?_
 ·rintro i x H' hx ⟨g,bs,eb,lb,hb⟩
  obtain⟨⟨y,n⟩,ey,bp,rfl,hbp⟩:=zAJ pC hx;dsimp only at hbp;have hi:i<(us1++us2).length:=(lJ.mp hx).1;rw[mK] at hi;refine⟨bp,_,rfl,SqT.of (g _ _ hbp),rfl,_,_,rfl,_,_,rfl,rfl,.skip (.skip (.keep .nil)),?_⟩;refine⟨_,rfl,_,rfl,d,_,rfl,DGet.k (k:=Sum.inr y) (g _ _ ed4),_,rfl,?_⟩;have hv:=fd.vl y;cases e0:zAy (gcnt t) y with
  |none =>
   rw[e0] at hv;rw[hv];refine iteF ⟨_,eb,zCQ (by rw[mD];omega),zAU g hacc,bs++[false],?_,by simp;omega,zDk ey hb ⟨(λ z=>by cases z),λ z=>?_⟩⟩
   ·rw[zAA,mQ];rfl
   ·obtain⟨m,em,_⟩:=z
    rw[e0] at em;cases em
  |some m =>
   rw[e0] at hv;rw[hv];refine iteT ⟨_,rfl,_,rfl,d,_,rfl,hv▸DGet.k (k:=Sum.inr y) (g _ _ ed4),_,rfl,rfl,?_⟩;refine⟨_,eb,zCQ (by rw[mD];omega),zAU g hacc,bs++[!decide (V.int ((m:Nat):Int)=V.int ((n:Nat):Int))],?_,by simp;omega,zDk ey hb ?_⟩
   ·rw[zAA,mQ];rfl
   ·rw[Bool.not_eq_true',decide_eq_false_iff_not]
    constructor
    ·intro z
     exact⟨m,e0,λ w=>z (by rw[w])⟩
    ·rintro⟨m',em,hm⟩ z
     rw[e0] at em;cases em;exact hm (Int.ofNat.inj (V.int.inj z))
 ·rintro H5 ⟨g5,bs,eb,lb,hb⟩
  rw[mW (by rw[←lC,mK];exact lQ _)] at hb;exact⟨acc,bs,rfl,eb,q _ H5 (g1.trans (g14.trans g5)) hb⟩
abbrev zBT:Stmt:=top 41
theorem zAz:zAQ ["rule", "left", "gap", "kind"] ["rule"] (zAH zBT):=scI
def zFo:Sp:=λ vs H Q Ω=>E7 λ(t u:Tr) (ks:List (Str × Str)) (p:Addr) (a b c:V)=>A4 (vs=[.ref p]) (RuS H p a b c t u) (RpKs H ks c) (∀(z:Bool) (H':Hp),Same H H'->(z=true↔∃k∈ks,badK (gcnt t) k)->Q (.bl z) H')
theorem zIp (F:Fun K "has_wrong_kind" "has_wrong_kind" zBT f fd) (zNo:FnB P w K mg base k "gaps_of" g1 gd1 ["shape"] zCr):FnOk P w K mg base CX0 (k+1) f fd ["rule"] zFo:=by
 refine F.ok zAz (λ vs H Q E h=>?_) (λ cdv A outer s H vs Q E hr h=>?_)
 ·obtain⟨t,u,ks,p,a,b,c,rfl,_⟩:=h
  rfl
 obtain⟨t,u,ks,p,a,b,c,rfl,hS,hK,q⟩:=h;have hu:=hu_of hr
 refine⟨_,(zAE (pS (i:=1) zAz.nd (pe_cl zNo hr (zAB (iC (r:=rIxT K) zAS (pv 0)) zAD)))
  (zAE (zA5 PassesOwn.never rfl (zCH (iC (r:=rIxT K) zAS (pv 0))) (zCc rfl (zAZ (pGn (i:=2) zAz.nd) (zAZ (pGn (i:=3) zAz.nd) zBL))) (zAF (ps_if (pw_or (zAR (zD9 hu) (pv 2) (pv 1) rfl) (zD1 (zD2 (zAR op_eq (pv 3) zAX (zAW _)) (zCj (zAR op_gt (zIj hu (pv 1) (pv 2) (λ Ω Ω=>rfl)) zAI (zAW _)))).pt)).pt (zAF (zAV pe_bl)) zAY)))
  (zAF (zAV pe_bl)))),?_⟩
 refine⟨_,rfl,p,_,0,_,rfl,rfl,SqT.of hS.hp,zAP (j:=0) rfl,t,a,rfl,hS.ra,hS.st,hS.ct,λ d kv H1 g1 hd ed fd ld=>?_⟩;obtain⟨pc,o,us,rfl,hpc,hod,hus⟩:=hK.mono g1;have luk:us.length=ks.length:=zAG hus;refine⟨_,rfl,p,_,2,_,rfl,rfl,SqT.of (g1 _ _ hS.hp),zAP (j:=2) rfl,pc,rfl,⟨_,.inl (.inr ⟨o,hpc⟩)⟩,?_⟩;refine zFY (xs:=us) (λ i σ' H'=>E2 λ(s2 s3:Option V)=>A3 (σ'=[some (.ref p),some (.ref d),s2,s3]) (Same H1 H') (∀k∈ks.take i,¬badK (gcnt t) k)) ⟨none,none,rfl,Same.refl _,by simp⟩ (λ i σ' H' _ h=>?_) ?_ ?_
 ·obtain⟨_,_,_,g,_⟩:=h
  exact .inl (.inr ⟨o,g _ _ hpc⟩)
 ·rintro i x σ1 H2 hx ⟨s2,s3,rfl,g2,hn⟩
  obtain⟨kd,ek,pk,rfl,hpk⟩:=zAJ hus hx;have fin:badK (gcnt t) kd->Q (.bl true) H2:=λ h=>q true H2 (g1.trans g2) ⟨λ Ω=>⟨kd,lM ek,h⟩,λ Ω=>rfl⟩
  have next:¬badK (gcnt t) kd->∀k∈ks.take (i+1),¬badK (gcnt t) k:=λ h k hk=>by
   rw[zAO ek] at hk;rcases lK.mp hk with z|z
   ·exact hn k z
   ·rw[mR.mp z];exact h
  refine⟨pk,_,rfl,SqT.of (g2 _ _ hpk),rfl,_,_,rfl,_,_,rfl,rfl,?_⟩;refine⟨_,rfl,_,rfl,d,_,rfl,DGet.k (k:=Sum.inr kd.1) (g2 _ _ ed),_,rfl,?_⟩;have hv:=fd.vl kd.1;cases e0:zAy (gcnt t) kd.1 with
  |none =>
   rw[e0] at hv;rw[hv];exact iteT (iteT (fin (.inl e0)))
  |some m =>
   rw[e0] at hv;rw[hv];refine iteF ⟨_,rfl,rfl,_,rfl,ite2 (λ c1=>?_) (λ c1=>?_)⟩
   ·have e1:kd.2=Str.ofString "number" := V.str.inj (lT c1)
    refine⟨_,rfl,_,rfl,d,_,rfl,hv▸DGet.k (k:=Sum.inr kd.1) (g2 _ _ ed),_,_,rfl,rfl,_,rfl,ite2 (λ c2=>?_) (λ c2=>?_)⟩
    ·have c2':(0:Int)<((m:Nat):Int):=lT c2
     exact fin (.inr ⟨e1,m,e0,by omega⟩)
    ·refine⟨_,_,rfl,g2,next λ z=>?_⟩
     rcases z with z|⟨_,n,en,hn0⟩
     ·rw[e0] at z;cases z
     ·rw[e0] at en
      cases en;exact c2 (lU (by show (0:Int)<((m:Nat):Int);omega))
   ·refine iteF ⟨_,_,rfl,g2,next λ z=>?_⟩
    rcases z with z|⟨e1,_⟩
    ·rw[e0] at z;cases z
    ·exact c1 (lU (congrArg V.str e1))
 ·rintro σ1 H2 ⟨s2,s3,rfl,g2,hn⟩
  rw[mW (by omega)] at hn;exact q false H2 (g1.trans g2) ⟨(λ z=>by cases z),λ⟨k,hk,hb⟩=>absurd hb (hn k hk)⟩
abbrev zA3:Stmt:=top 38
theorem zAp:zAQ ["rule", "kinds", "part", "atom"] ["rule"] (zAH zA3):=scI
def zG0:Sp:=λ vs H Q Ω=>E7 λ(t u:Tr) (ks:List (Str × Str)) (p:Addr) (a b c:V)=>A6 (vs=[.ref p]) (RuS H p a b c t u) (RpKs H ks c) ((ks.map (·.1)).Nodup) (ks.length<=60) (∀(z:Bool) (H':Hp),Same H H'->(z=true↔∃g∈u.subs.filter isGap,badP ks g)->Q (.bl z) H')
theorem zKI (F:Fun K "has_no_number_atom" "has_no_number_atom" zA3 f fd) (z_dict:mg "dict" = none) (zNm:FnB P w K mg base k "gap_parts" g1 gd1 ["shape"] zE8):FnOk P w K mg base CX0 (k+1) f fd ["rule"] zG0:=by
 refine F.ok zAp (λ vs H Q E h=>?_) (λ cdv A outer s H vs Q E hr h=>?_)
 ·obtain⟨t,u,ks,p,a,b,c,rfl,_⟩:=h
  rfl
 obtain⟨t,u,ks,p,a,b,c,rfl,hS,hK,nd,lk,q⟩:=h;have hu:=hu_of hr
 refine⟨_,(zAE (pS (i:=1) zAp.nd (zBQ (zE2 rfl) (by rfl) z_dict PyProof.Rows.boot_dict (zAB (iC (r:=rIxT K) zAS (pv 0)) zAD)))
  (zAE (zA5 PassesOwn.never rfl (zAs (pe_cl zNm hr (zAB (iC (r:=rIxT K) zAS (pv 0)) zAD))) (pGn (i:=2) zAp.nd) (zAF (zA5 PassesOwn.never rfl (zCH (iC (r:=rIxT K) zAS (pv 2))) (pGn (i:=3) zAp.nd) (zAF (ps_if (zD2 (zAR op_eq (iC (r:=rIxT K) zAS (pv 3)) zAX (zAW _)) (zCj (zAR op_ne (zKB hu (pv 1) (iC (r:=rIxT K) zAS (pv 3)) ⟨rfl,rfl,rfl,rfl⟩) zAX (zAW _)))).pt (zAF (zAV pe_bl)) zAY)))))
  (zAF (zAV pe_bl)))),?_⟩
 obtain⟨pc,o,us,rfl,hpc,hod,hus⟩:=id hK;refine⟨_,rfl,p,_,2,_,rfl,rfl,SqT.of hS.hp,zAP (j:=2) rfl,pc,o,us,kdV ks,rfl,hpc,hod,zLF hus,by unfold kdV;rw[mD];omega,λ dk hdk=>?_⟩;have g1:=zAC (o:=.dK (zB1 [] (kdV ks))) hdk;have edk:=@zAA H dk (.dK (zB1 [] (kdV ks)));have hS1:=hS.mono g1.tk;show tSeq _ _ _ _ (upd H dk (.dK (zB1 [] (kdV ks))));generalize upd H dk _=H1 at g1 edk hS1 ⊢;refine⟨_,rfl,p,_,1,_,rfl,rfl,SqT.of hS1.hp,zAP (j:=1) rfl,u,b,rfl,hS1.rb,hS.su,λ l vs H2 g2 hln el pF=>⟨l,rfl,⟨vs,SqL.of el⟩,?_⟩⟩;have edk2:=g2 _ _ edk;have lv:vs.length=(u.subs.filter isGap).length:=zAG pF;refine zBI (xs:=vs) (λ i σ' H'=>E2 λ(s2 s3:Option V)=>A3 (σ'=[some (.ref p),some (.ref dk),s2,s3]) (H'=H2) (∀x∈(u.subs.filter isGap).take i,¬badP ks x)) ⟨none,none,rfl,rfl,by simp⟩ (λ i σ' H' _ h=>?_) ?_ ?_
 ·obtain⟨_,_,_,rfl,_⟩:=h
  exact SqL.of el
 ·rintro i x σ1 H3 hx ⟨s2,s3,rfl,rfl,hn⟩
  obtain⟨tq,eq,rq⟩:=zAJ pF hx;have hgap:tq.kd = .gap:=lT (List.mem_filter.mp (lM eq)).2;cases tq with
  |gap gx as =>
   obtain⟨pa,b',us2,rfl,ha',hb',hl2,pas⟩:=rq;have las:us2.length=as.length:=zAG pas;refine⟨_,rfl,pa,_,2,_,rfl,rfl,SqT.of ha',zAP (j:=2) rfl,b',rfl,⟨us2,SqT.of hb'⟩,?_⟩;refine zFY (xs:=us2) (λ j σ' H'=>∃(s3:Option V),A3 (σ'=[some (.ref p),some (.ref dk),some (.ref pa),s3]) (H'=H3) (∀y∈as.take j,¬badA ks y)) ⟨s3,rfl,rfl,by simp⟩ (λ j σ' H' _ h=>?_) ?_ ?_
   ·obtain⟨_,_,rfl,_⟩:=h
    exact SqT.of hb'
   ·rintro j y σ2 H4 hy ⟨s4,rfl,rfl,hm⟩
    obtain⟨at',eat,rat⟩:=zAJ pas hy;obtain⟨b2,r,rfl,hb2⟩:=rat.all
    have next:¬badA ks at'->∀y∈as.take (j+1),¬badA ks y:=λ h y hy=>by
     rw[zAO eat] at hy;rcases lK.mp hy with z|z
     ·exact hm y z
     ·rw[mR.mp z];exact h
    rcases hb2 with ⟨h,rfl,hb2⟩|⟨hag,kk,hkk,hb2⟩
    ·obtain⟨z,ez,sz,hz⟩:=zNP nd h
     refine⟨_,rfl,b2,_,0,_,rfl,rfl,SqT.of hb2,zAP (j:=0) rfl,rfl,_,rfl,ite2 (λ Ω=>?_) (λ c=>absurd (lU rfl) c)⟩;refine⟨_,rfl,dk,rfl,.inl ⟨_,.inl edk2⟩,_,rfl,b2,_,1,_,rfl,rfl,SqT.of hb2,zAP (j:=1) rfl,_,DGet.k (k:=Sum.inr h) edk2,?_⟩;rw[ez];refine⟨sz,_,rfl,ite2 (λ c=>?_) (λ c=>?_)⟩
     ·have nk:(h,("number" : Str))∉ks:=λ w=>by
       rw[hz.mpr w] at c;simp at c
      exact q true H4 (g1.trans g2) ⟨λ Ω=>⟨_,lM eq,gx,as,rfl,_,lM eat,h,rfl,nk⟩,λ Ω=>rfl⟩
     ·refine⟨_,rfl,rfl,next λ w=>?_⟩
      obtain⟨h',e',n'⟩:=w;cases e';refine c ?_;rw[Bool.not_eq_true',decide_eq_false_iff_not];exact λ w=>n' (hz.mp w)
    ·refine⟨_,rfl,b2,_,0,_,rfl,rfl,SqT.of hb2,zAP (j:=0) rfl,rfl,_,rfl,ite2 (λ c=>absurd (V.str.inj (lT c)) hkk) (λ Ω=>iteF ⟨_,rfl,rfl,next λ w=>?_⟩)⟩
     obtain⟨h',e',_⟩:=w;rw[e'] at hag;cases hag
   ·rintro σ2 H4 ⟨s4,rfl,rfl,hm⟩
    rw[mW (by omega)] at hm;refine⟨_,_,rfl,rfl,λ y hy=>?_⟩;rw[zAO eq] at hy;rcases lK.mp hy with z|z
    ·exact hn y z
    ·rw[mR.mp z]
     rintro⟨g',as',e',a',ha,hb⟩;cases e';exact hm a' ha hb
  |bin o a b=>cases o<;>cases hgap
  |_=>cases hgap
 ·rintro σ1 H3 ⟨s2,s3,rfl,rfl,hn⟩
  rw[mW (by omega)] at hn;exact q false H3 (g1.trans g2) ⟨(λ z=>by cases z),λ⟨k,hk,hb⟩=>absurd hb (hn k hk)⟩
abbrev zBS:Stmt:=top 36
theorem zDD:zAQ ["gap"] ["gap"] (zAH zBS):=scI
abbrev zBd:Stmt:=top 39
theorem zDf:zAQ ["rule"] ["rule"] (zAH zBd):=scI
def zK0:Sp:=λ vs H Q Ω=>E3 λ(g:Str) (as:List Atom) (v:V)=>A4 (vs=[v]) (Rep H (.gap g as) v) (as.length<=1) (∀(z:Bool) (H':Hp),Same H H'->(z=true↔noPc as)->Q (.bl z) H')
theorem zNA (F:Fun K "tells_no_piece" "tells_no_piece" zBS f fd) (z_any:mg "any" = none) (z_len:mg "len" = none) (z_set:mg "set" = none):FnOk P w K mg base CX0 (k+1) f fd ["gap"] zK0:=by
 refine F.ok zDD (λ vs H Q E h=>?_) (λ cdv A outer s H vs Q E hr h=>?_)
 ·obtain⟨g,as,v,rfl,_⟩:=h
  rfl
 obtain⟨g,as,v,rfl,hR,hl,q⟩:=h;have hu9:=hu150 hr;refine⟨_,(zAF (zAV (pe_or (zAn op_lt (zHr hu9 rfl (by rfl) z_len (by rfl) z_set (zAB (iC (r:=rIxT K) zAS (pv 0)) zAD)) (cL z_len (zAB (iC (r:=rIxT K) zAS (pv 0)) zAD)) (zAW _)) (zB0 (zAd (zBj rfl) (by rfl) z_any PyProof.Rows.boot_any (zAB (zAq ["atom"] [none] rfl (zCH (iC (r:=rIxT K) zAS (pv 0))) (λ Ω Ω Ω Ω Ω=>(zAf (i:=0) (show List.Nodup (["atom"]:List Str) by symm) rfl (Or.inl rfl))) (λ Ω Ω Ω Ω Ω=>zBA) (λ Ω Ω Ω Ω Ω=>(zAn op_ne (iC (r:=rIxT K) zAS (pv 0)) zAX (zAW _))) rfl) zAD)))))),?_⟩;obtain⟨pa,b',us2,rfl,ha',hb',hl2,pas⟩:=hR;have las:us2.length=as.length:=zAG pas;refine⟨_,rfl,pa,_,2,_,rfl,rfl,SqT.of ha',zAP (j:=2) rfl,b',as.map dtA,rfl,.tup hb' (zLP pas),by rw[mD];exact hl,λ x hx=>?_,_,rfl,pa,_,2,_,rfl,rfl,SqT.of ha',zAP (j:=2) rfl,b',_,rfl,.inr (SqT.of hb'),_,_,rfl,rfl,?_⟩
 ·obtain⟨a,_,rfl⟩:=mC.mp hx
  exact zMR a
 refine⟨_,rfl,ite2 (λ c=>?_) (λ c=>?_)⟩
 ·have:=lT c
  rw[mD] at this;omega
 ·refine⟨_,rfl,pa,_,2,_,rfl,rfl,SqT.of ha',zAP (j:=2) rfl,b',rfl,⟨us2,SqT.of hb'⟩,λ acc hacc=>?_⟩
  refine zBi (xs:=us2) (λ i H'=>Same H H'/\∃bs:List Bool,H' acc=some (.lst (bs.map V.bl))/\bs.length<=i/\(bs.any id=true↔∃a∈as.take i,nmA a=none)) ⟨zAC hacc,[],zAA,lQ _,by simp⟩ (λ i H' Ω h=>SqT.of (h.1 _ _ hb')) ?_ ?_
  ·rintro i x H' hx ⟨g',bs,eb,lb,hb⟩
   obtain⟨at',eat,rat⟩:=zAJ pas hx;have hi:i<us2.length:=(lJ.mp hx).1;obtain⟨p2,kk,r,rfl,hp2,hkk⟩:=zMW rat;refine⟨.skip .nil,_,rfl,p2,_,0,_,rfl,rfl,SqT.of (g' _ _ hp2),zAP (j:=0) rfl,rfl,?_⟩;refine⟨_,eb,zCQ (by rw[mD];omega),zAU g' hacc,bs++[!decide (V.str kk=V.str "name")],?_,by simp;omega,zDk eat hb ?_⟩
   ·rw[zAA,mQ];rfl
   ·rw[Bool.not_eq_true',decide_eq_false_iff_not]
    constructor
    ·intro z
     exact Classical.byContradiction λ y=>z (congrArg V.str (hkk.mpr y))
    ·intro z y
     exact hkk.mp (V.str.inj y) z
  ·rintro H5 ⟨g5,bs,eb,lb,hb⟩
   rw[mW (by omega)] at hb;refine⟨acc,bs,rfl,eb,q _ H5 g5 (hb.trans ?_)⟩;rw[zKT hl]
def zIL:Sp:=λ vs H Q Ω=>E7 λ(t u:Tr) (ks:List (Str × Str)) (p:Addr) (a b c:V)=>A7 (vs=[.ref p]) (RuS H p a b c t u) (∀x∈t.subs,∀g as,x = .gap g as->as.length<=1) (RpKs H ks c) ((ks.map (·.1)).Nodup) (ks.length<=60) (∀(z:Bool) (H':Hp),Same H H'->(z=true↔(∃x∈t.subs,noPcT x)\/zJn (gcnt t) (gcnt t++gcnt u)\/∃g∈u.subs.filter isGap,badP ks g)->Q (.bl z) H')
theorem zL2 (F:Fun K "is_told_wrong" "is_told_wrong" zBd f fd) (z_any:mg "any" = none) (zNm:FnB P w K mg base k "gap_parts" g1 gd1 ["shape"] zE8) (zNp:FnB P w K mg base k "tells_no_piece" g2 gd2 ["gap"] zK0)
  (zNq:FnB P w K mg base k "has_unlike_counts" g3 gd3 ["rule"] zFq) (zNr:FnB P w K mg base k "has_no_number_atom" g4 gd4 ["rule"] zG0):FnOk P w K mg base CX0 (k+1) f fd ["rule"] zIL:=by
 refine F.ok zDf (λ vs H Q E h=>?_) (λ cdv A outer s H vs Q E hr h=>?_)
 ·obtain⟨t,u,ks,p,a,b,c,rfl,_⟩:=h
  rfl
 obtain⟨t,u,ks,p,a,b,c,rfl,hS,h4,hK,nd,lk,q⟩:=h;have hu:=hu_of hr
 refine⟨_,(zAE (ps_if (zCv (zAd (zBj rfl) (by rfl) z_any PyProof.Rows.boot_any (zAB (zAq ["part"] [none] rfl (zAs (pe_cl zNm hr (zAB (iC (r:=rIxT K) zAS (pv 0)) zAD))) (λ Ω Ω Ω Ω Ω=>(zAf (i:=0) (show List.Nodup (["part"]:List Str) by symm) rfl (Or.inl rfl))) (λ Ω Ω Ω Ω Ω=>zBA) (λ Ω Ω Ω Ω Ω=>(pe_cl zNp hr (zAB (pv 0) zAD))) rfl) zAD))) (zAF (zAV pe_bl)) zAY)
  (zAF (zAV (pe_or (pe_cl zNq hr (zAB (pv 0) zAD)) (zB0 (pe_cl zNr hr (zAB (pv 0) zAD))))))),?_⟩
 refine⟨_,rfl,p,_,0,_,rfl,rfl,SqT.of hS.hp,zAP (j:=0) rfl,t,a,rfl,hS.ra,hS.st,λ l vs H2 g2 hln el pF=>⟨l,rfl,⟨vs,SqL.of el⟩,λ acc hacc=>?_⟩⟩;have lv:vs.length=(t.subs.filter isGap).length:=zAG pF
 have lf:(t.subs.filter isGap).length<=60:=by
  have:=List.length_filter_le isGap t.subs;rw[zBy] at this;have:=hS.st;omega
 refine zA0 (xs:=vs) (λ i H'=>Same H2 H'/\∃bs:List Bool,H' acc=some (.lst (bs.map V.bl))/\bs.length<=i/\(bs.any id=true↔∃x∈(t.subs.filter isGap).take i,noPcT x)) ⟨zAC hacc,[],zAA,lQ _,by simp⟩ (λ i H' Ω h=>SqL.of (h.1 _ _ el)) ?_ ?_
 ·rintro i x H' hx ⟨g',bs,eb,lb,hb⟩
  obtain⟨tq,eq,rq⟩:=zAJ pF hx;have hi:i<vs.length:=(lJ.mp hx).1;have hmem:=List.mem_filter.mp (lM eq);have hgap:tq.kd = .gap:=lT hmem.2;cases tq with
  |gap gx as =>
   refine⟨.skip .nil,_,rfl,gx,as,x,rfl,rq.mono g'.tk,h4 _ hmem.1 gx as rfl,λ z H6 g6 hz=>?_⟩;have g7:=g'.trans g6;refine⟨_,g6 _ _ eb,zCQ (by rw[mD];omega),zAU g7 hacc,bs++[z],?_,by simp;omega,zDk eq hb (hz.trans ?_)⟩
   ·rw[zAA,mQ];rfl
   ·exact⟨λ h=>⟨gx,as,rfl,h⟩,λ⟨_,_,e,h⟩=>by cases e;exact h⟩
  |bin o a b=>cases o<;>cases hgap
  |_=>cases hgap
 ·rintro H5 ⟨g5,bs,eb,lb,hb⟩
  rw[mW (by omega)] at hb;have hb':bs.any id=true↔∃x∈t.subs,noPcT x:=hb.trans ⟨λ⟨x,hx,h⟩=>⟨x,(List.mem_filter.mp hx).1,h⟩,λ⟨x,hx,h⟩=>⟨x,List.mem_filter.mpr ⟨hx,by obtain⟨g,as,rfl,_⟩:=h;exact lU rfl⟩,h⟩⟩;have g25:=g2.trans g5;refine⟨acc,bs,rfl,eb,_,rfl,ite2 (λ c1=>?_) (λ c1=>?_)⟩
  ·exact q true H5 g25 ⟨λ Ω=>.inl (hb'.mp c1),λ Ω=>rfl⟩
  ·have hS5:=hS.mono g25.tk
   refine⟨_,rfl,t,u,p,a,b,c,rfl,hS5,λ z H6 g6 hz=>⟨_,rfl,ite2 (λ c2=>?_) (λ c2=>?_)⟩⟩
   ·exact q _ H6 (g25.trans g6) ⟨λ Ω=>.inr (.inl (hz.mp c2)),λ Ω=>rfl⟩
   ·refine⟨_,rfl,t,u,ks,p,a,b,c,rfl,hS5.mono g6.tk,hK.mono (g25.trans g6),nd,lk,λ z2 H7 g7 hz2=>q _ H7 (g25.trans (g6.trans g7)) (hz2.trans ⟨λ h=>.inr (.inr h),λ h=>?_⟩)⟩
    rcases h with h|h|h
    ·exact absurd (hb'.mpr h) c1
    ·exact absurd (hz.mpr h) c2
    ·exact h
noncomputable abbrev zAj:Stmt:=zMJ (top 2) 0
theorem zCt:zAQ ["self", "why"] ["self", "why"] (zAH zAj):=scI
abbrev zIT:Stmt:=top 44
theorem zGY:zAQ ["rule", "why", "is_due"] ["rule"] (zAH zIT):=scI
def zK1 (D:Addr):Sp:=λ vs H Q Ω=>E2 λ(ea:Addr) (x:Str)=>A4 (vs=[.ref ea,.str x]) (H ea=some (exN ea D)) (x.length<=1000) (∀dx,H dx=none->dx≠ea->Q .non (upd (upd H dx (.xd [("why", .str x)])) ea (exW ea D dx)))
theorem zNB (F:Fun K "__init__" "NoRule.__init__" zAj f fd) (zNs:mg "RecastError" = some (.ref R)) (XS:XSup K R) (C:W.Exc3 K D R f) (hv:W.mroIn K D (.type "ValueError")=some true) (hna:W.findIn K (.ref D) "why" = some none) :
  FnOk P w K mg base CX0 (k+1) f fd ["self", "why"] (zK1 D):=by
 refine F.ok zCt (λ vs H Q E h=>?_) (λ cdv A outer s H vs Q E hr h=>?_)
 ·obtain⟨ea,x,rfl,_⟩:=h
  rfl
 obtain⟨ea,x,rfl,hea,hx,q⟩:=h;refine⟨_,(zAE (zBw (zJ8 (zBB (v:=.ref _) (by rfl) zNs (by rfl)) XS C.toExc2 hv (zAB (pv 0) (zAB (zLt (pv 1)) zAD)))) (zAF (zLh (pv 0) (pv 1) C.toExc2 C.ob hna rfl))),?_⟩;refine⟨rfl,_,rfl,_,rfl,x,rfl,mG (Nat.add_le_add (show ((Str.ofString "this is no rule: ").length<=1000) by symm) hx) (by decide),ea,_,rfl,hea,?_⟩;exact⟨_,rfl,_,rfl,ea,rfl,hea,λ dx h1 h2=>q dx h1 h2⟩
structure RuR (H:Hp) (p:Addr) (t u:Tr) (ks:List (Str × Str)):Prop where
 ru:∃a b c,RuS H p a b c t u/\RpKs H ks c
 h4:∀x∈t.subs,∀g as,x = .gap g as->as.length<=1
 nd:(ks.map (·.1)).Nodup
 lk:ks.length<=60
 ws:∃ws:List Str,ws.length<64/\(∀x∈t.fv [],x∈ws)/\(∀x∈u.fv [],x∈ws)
theorem RuR.mono {H H':Hp}{p:Addr}{t u:Tr}{ks:List (Str × Str)}(h:RuR H p t u ks) (g:Same H H'):RuR H' p t u ks :=
 ⟨let ⟨a,b,c,x,y⟩:=h.ru;⟨a,b,c,x.mono g.tk,y.mono g⟩,h.h4,h.nd,h.lk,h.ws⟩
def zDS (R:RP):Sp:=λ vs H Q Ω=>E4 λ(p:Addr) (t u:Tr) (ks:List (Str × Str))=>A3 (vs=[.ref p]) (RuR H p t u ks) (∀(z:Bool) (H':Hp),Same H H'->(z=true↔R t u ks)->Q (.bl z) H')
structure DueF (P:Program) (w:World) (K:W.Frag) (mg:Str->Option Value) (base:Heap) (k:Nat) (f:Addr) (R:RP):Prop where
 ok:∃fd,FnOk P w K mg base CX0 k f fd ["rule"] (zDS R)/\Binds K fd ["rule"] []
 kp:W.keepIn K (.ref f)=true
def zGU (D:Addr):Sp:=λ vs H Q E=>E4 λ(p:Addr) (t u:Tr) (ks:List (Str × Str))=>A3 (vs=[.ref p]) (RuR H p t u ks) (∀r,Due t u ks zAt r ->
 match r with
 |none=>∀H',Same H H'->Q .non H'
 |some x=>∀dx H',Same H H'->H' dx=some (.xd [("why", .str x)])->E (.ref D) (some dx) H')
theorem zL7 {k:Nat}{f fi D R la:Addr}{fd fdi:FuncData}{as fs:List Addr}(F:Fun K "form" "form" zIT f fd) (zNt:mg "REASONS" = some (.ref la)) (zNu:mg "NoRule" = some (.ref D)) (hL:TupK K la (as.map V.ref)) (hin:Paired (λ(a:Addr) (q:(Str × RP) × Addr)=>TupK K a [.str q.1.1,.ref q.2]) as (zAt.zip fs)) (hfs:fs.length=7)
  (hdue:∀q∈zAt.zip fs,DueF P w K mg base k q.2 q.1.2) (C:W.Exc3 K D R fi) (hkp:W.keepIn K (.ref D)=true) (zNv:∃j,j+1=k/\FnOk P w K mg base CX0 j fi fdi ["self", "why"] (zK1 D)) (hbi:Binds K fdi ["self", "why"] []) :
  FnOk P w K mg base (CXG P w) (k+1) f fd ["rule"] (zGU D):=by
 refine F.okG zGY (λ vs H Q E h=>?_) (λ cdv A outer s H vs Q E hr h=>?_)
 ·obtain⟨p,t,u,ks,rfl,_⟩:=h
  rfl
 obtain⟨p,t,u,ks,rfl,hR,q⟩:=h;obtain⟨j,rfl,hI⟩:=zNv
 refine⟨_,(zAF (zA5 zLC rfl (zCH (zBB (v:=.ref _) (by rfl) zNt (by rfl))) (zCc rfl (zAZ (pGn (i:=1) zGY.nd) (zAZ (pGn (i:=2) zGY.nd) zBL)))
  (zAF (ps_if (zCv (zKD (pv 2) hr (zAB (pv 0) zAD))) (zAF (zIX (by rfl) zNu C hI hr hbi hkp (zAB (pv 1) zAD))) zAY)))),?_⟩
 refine⟨la,rfl,⟨_,hL.sq⟩,?_⟩;have lz:(zAt.zip fs).length=7:=by rw[List.length_zip,hfs];rfl
 have las:as.length=7:=by rw[zIY hin,lz]
 refine zFY (xs:=as.map V.ref) (λ i σ' H'=>E2 λ(s1 s2:Option V)=>A3 (σ'=[some (.ref p),s1,s2]) (Same H H') (∀r,Due t u ks (zAt.drop i) r->Due t u ks zAt r)) ⟨none,none,rfl,Same.refl _,λ r h=>h⟩ (λ i σ' H' _ h=>hL.sq) ?_ ?_
 ·rintro i x σ1 H1 hx ⟨s1,s2,rfl,g1,hd⟩
  rw[mJ] at hx;obtain⟨ai,ha,rfl⟩:=lV.mp hx;obtain⟨qi,hq,hT⟩:=zIZ hin ha;obtain⟨⟨wy,Rp⟩,fi2⟩:=qi
  have hq1:zAt[i]?=some (wy,Rp):=by
   rw[List.getElem?_zip_eq_some] at hq;exact hq.1
  have hdrop:zAt.drop i=(wy,Rp)::zAt.drop (i+1):=by
   have hi:=(lJ.mp hq1);rw[List.drop_eq_getElem_cons hi.1,hi.2]
  obtain⟨⟨fdd,hF,hB⟩,hk2⟩:=hdue _ (lM hq)
  have hwl:wy.length<=1000:=by
   have hm:=lM hq1;simp only[zAt,nP,List.mem_nil_iff,or_false,Prod.mk.injEq] at hm;rcases hm with ⟨rfl,_⟩|⟨rfl,_⟩|⟨rfl,_⟩|⟨rfl,_⟩|⟨rfl,_⟩|⟨rfl,_⟩|⟨rfl,_⟩<;>symm
  refine⟨ai,_,rfl,hT.sq,rfl,_,_,rfl,_,_,rfl,rfl,?_⟩;refine⟨_,rfl,fi2,fdd,["rule"],_,rfl,hF,hB,hk2,_,rfl,p,t,u,ks,rfl,hR.mono g1,λ z H2 g2 hz=>⟨_,rfl,ite2 (λ c=>?_) (λ c=>?_)⟩⟩
  ·have hdue2:=hd (some wy) (by rw[hdrop];exact .yes (hz.mp c))
   have hE:=q (some wy) hdue2;refine⟨_,rfl,(show 1<=sizeLine by decide),λ ea hea=>⟨ea,wy,rfl,zAA,hwl,λ dx h1 h2=>⟨rfl,dx,zAA,hE dx _ ?_ ?_⟩⟩⟩
   ·intro b o e
    have e2:=(g1.trans g2) b o e;have nb:b≠ea:=λ z=>by rw[z,hea] at e2;cases e2
    rw[zAK h2] at h1;have nd:b≠dx:=λ z=>by rw[z,h1] at e2;cases e2
    rw[zBg nb,zAK nb,zAK nd,zAK nb];exact e2
   ·rw[zBg h2,zAK h2,zAA]
  ·exact⟨_,_,rfl,g1.trans g2,λ r h=>hd r (by rw[hdrop];exact .no (λ y=>c (hz.mpr y)) h)⟩
 ·rintro σ1 H1 ⟨s1,s2,rfl,g1,hd⟩
  have:=hd none (by rw[mD,las];exact .nil);exact q none this H1 g1
abbrev zGa:Stmt:=top 18
abbrev zBu:Stmt:=top 19
theorem zDt:zAQ ["one", "other", "pairs"] ["one", "other", "pairs"] (zAH zBu):=scI
abbrev zCD:Stmt:=top 21
theorem zEZ:zAQ ["one", "other", "pairs"] ["one", "other", "pairs"] (zAH zCD):=scI
def sp_no:Sp:=λ Ω Ω Ω Ω=>False
theorem ok_no {k:Nat}{f:Addr}{fd:FuncData}{ps:List Str}:FnOk P w K mg base CX0 k f fd ps sp_no:=⟨λ vs H Q E h=>h.elim,λ A outer s H args us vs Q E Ω Ω Ω Ω h=>h.elim⟩
def zEk:Sp:=λ vs H Q Ω=>E5 λ(t u:Tr) (v1 v2 v3:V)=>A6 (vs=[v1,v2,v3]) (Rep H t v1) (Rep H u v2) (Pln t/\Pln u/\dpT t<=100) (¬t.kd = .name) (∀z:Bool,(z=true↔t=u)->Q (.bl z) H)
theorem zHw (F:Fun K "alike_leaves" "alike_leaves" zBu f fd) (zNw:FnB P w K mg base k "same_name" g1 gd1 ["one", "other", "pairs"] sp_no):FnOk P w K mg base CX0 (k+1) f fd ["one", "other", "pairs"] zEk:=by
 refine F.ok zDt (λ vs H Q E h=>?_) (λ cdv A outer s H vs Q E hr h=>?_)
 ·obtain⟨t,u,v1,v2,v3,rfl,_⟩:=h
  rfl
 obtain⟨t,u,v1,v2,v3,rfl,r1,r2,⟨p1,p2,hd⟩,nn,q⟩:=h;have hu5:=hu150 hr
 refine⟨_,(zAE (ps_if (zD2 (zAR op_eq (iC (r:=rIxT K) zAS (pv 0)) zAX (zAW _)) (zCj (zAR op_eq (iC (r:=rIxT K) zAS (pv 1)) zAX (zAW _)))).pt (zAF (zAV (pe_cl zNw hr (zAB (iC (r:=rIxT K) zAS (pv 0)) (zAB (iC (r:=rIxT K) zAS (pv 1)) (zAB (pv 2) zAD)))))) zAY)
  (zAF (zAV (zAn (zM8 hu5) (pv 0) (pv 1) (zAW _))))),?_⟩
 have dr1:=r1.drP p1;have dr2:=r2.drP p2;obtain⟨a1,hs1,us1,rfl,ha1,_,_⟩:=r1.all;have at1:atI (V.str t.kd.s::hs1++us1) 0=some (.str t.kd.s):=zAP (j:=0) rfl;refine⟨_,rfl,a1,_,0,_,rfl,rfl,SqT.of ha1,at1,rfl,_,rfl,ite2 (λ c=>absurd (Kd.eq_iff.mp (lT c)) nn) (λ c=>iteF ?_)⟩;obtain⟨l,e1⟩:=zFc t;obtain⟨l',e2⟩:=zFc u;have dp:=zBl t p1
 have key:Dt.beqs (.str t.kd.s::l) (.str u.kd.s::l')=true↔t=u:=by
  rw[Dt.beqs_iff];constructor
  ·intro h
   exact zDa t u p1 p2 (by rw[e1,e2,h])
  ·rintro rfl
   rw[e1] at e2;exact Dt.tup.inj e2
 rw[e1] at dr1 dp;rw[e2] at dr2;exact⟨_,rfl,_,rfl,_,_,dr1,dr2,by omega,q _ key⟩
def zG5:Sp:=λ vs H Q Ω=>E5 λ(t u:Tr) (v1 v2 v3:V)=>A6 (vs=[v1,v2,v3]) (Rep H t v1) (Rep H u v2) (Pln t/\Pln u/\dpT t<=100) (¬t.kd = .name) (∀z:Bool,(z=true↔Hal t u)->Q (.bl z) H)
theorem zKN (F:Fun K "alike_heads" "alike_heads" zCD f fd) (zNc:mg "LEAF_SIGNS" = some (.ref lv)) (hL:zC8 K lv) (zNx:FnB P w K mg base k "alike_leaves" g1 gd1 ["one", "other", "pairs"] zEk):FnOk P w K mg base CX0 (k+1) f fd ["one", "other", "pairs"] zG5:=by
 refine F.ok zEZ (λ vs H Q E h=>?_) (λ cdv A outer s H vs Q E hr h=>?_)
 ·obtain⟨t,u,v1,v2,v3,rfl,_⟩:=h
  rfl
 obtain⟨t,u,v1,v2,v3,rfl,r1,r2,⟨p1,p2,hd⟩,nn,q⟩:=h
 refine⟨_,(zAE (ps_if (zAR op_ne (iC (r:=rIxT K) zAS (pv 0)) (iC (r:=rIxT K) zAS (pv 1)) (zAW _)) (zAF (zAV pe_bl)) zAY)
  (zAE (ps_if (zAR op_eq (iC (r:=rIxT K) zAS (pv 0)) zAX (zAW _)) zIW zAY)
  (zAF (zAV (pe_or (zAn (r:=rIn K true) zDX (iC (r:=rIxT K) zAS (pv 0)) (zBB (v:=.ref _) (by rfl) zNc (by rfl)) rfl) (zB0 (pe_cl zNx hr (zAB (pv 0) (zAB (pv 1) (zAB (pv 2) zAD)))))))))),?_⟩
 have r10:=r1;have r20:=r2;obtain⟨a1,hs1,us1,rfl,ha1,_,_⟩:=r1.all;obtain⟨a2,hs2,us2,rfl,ha2,_,_⟩:=r2.all;have at1:atI (V.str t.kd.s::hs1++us1) 0=some (.str t.kd.s):=zAP (j:=0) rfl;have at2:atI (V.str u.kd.s::hs2++us2) 0=some (.str u.kd.s):=zAP (j:=0) rfl;refine⟨_,rfl,a1,_,0,_,rfl,rfl,SqT.of ha1,at1,_,rfl,a2,_,0,_,rfl,rfl,SqT.of ha2,at2,rfl,_,rfl,ite2 (λ c=>?_) (λ c=>?_)⟩
 ·refine q false ⟨(λ z=>nomatch z),(λ z=>?_)⟩
  rw[z.1,decide_eq_true rfl] at c;cases c
 have ek:t.kd=u.kd:=by
  by_cases z:V.str t.kd.s=V.str u.kd.s
  ·exact Kd.eq_iff.mp z
  ·rw[decide_eq_false z] at c
   exact absurd rfl c
 refine⟨_,rfl,a1,_,0,_,rfl,rfl,SqT.of ha1,at1,rfl,_,rfl,ite2 (λ c=>?_) (λ Ω=>?_)⟩
 ·exact absurd (Kd.eq_iff.mp (lT c)) p1.ng
 refine⟨_,rfl,a1,_,0,_,rfl,rfl,SqT.of ha1,at1,lv,zDT,rfl,.inr (.inr hL),rfl,rfl,_,rfl,?_⟩;show if (!inV (.str t.kd.s) zDT)=true then _ else _
 rw[zFU];refine ite2 (λ e=>?_) (λ e=>?_)
 ·have nlf:¬t.kd.leaf=true:=λ z=>by rw[z] at e;cases e
  exact q true ⟨λ Ω=>⟨ek,λ z=>absurd z nlf⟩,λ Ω=>rfl⟩
 ·have hlf:t.kd.leaf=true:=by simpa using e
  exact⟨_,rfl,_,rfl,_,rfl,t,u,_,_,v3,rfl,r10,r20,⟨p1,p2,hd⟩,nn,λ z hz=>q z (hz.trans ⟨λ h=>⟨ek,λ Ω=>h⟩,λ h=>h.2 hlf⟩)⟩
abbrev zDx:Stmt:=top 47
theorem zHk:zAQ ["tree"] ["tree"] (zAH zDx):=scI
abbrev zCA:Stmt:=top 48
theorem zBp:zAQ ["pairs", "before", "behind"] ["pairs"] (zAH zCA):=scI
def zFt:Sp:=λ vs H Q Ω=>E2 λ(t:Tr) (v:V)=>A4 (vs=[v]) (Rep H t v) (t.size<=60) (∀(z:Bool) (H':Hp),Same H H'->(z=true↔Let1 t)->Q (.bl z) H')
theorem zIu (F:Fun K "has_let" "has_let" zDx f fd) (z_any:mg "any" = none) (zNg:FnB P w K mg base k "all_parts" g1 gd1 ["tree"] zFv):FnOk P w K mg base CX0 (k+1) f fd ["tree"] zFt:=by
 refine F.ok zHk (λ vs H Q E h=>?_) (λ cdv A outer s H vs Q E hr h=>?_)
 ·obtain⟨t,v,rfl,_⟩:=h
  rfl
 obtain⟨t,v,rfl,hR,hz,q⟩:=h;refine⟨_,(zAF (zAV (zAd (zBj rfl) (by rfl) z_any PyProof.Rows.boot_any (zAB (zAq ["part"] [none] rfl (zAs (pe_cl zNg hr (zAB (pv 0) zAD))) (λ Ω Ω Ω Ω Ω=>(zAf (i:=0) (show List.Nodup (["part"]:List Str) by symm) rfl (Or.inl rfl))) (λ Ω Ω Ω Ω Ω=>zBA) (λ Ω Ω Ω Ω Ω=>(zAn op_eq (iC (r:=rIxT K) zAS (pv 0)) zAX (zAW _))) rfl) zAD)))),?_⟩;refine⟨_,rfl,t,v,rfl,hR,hz,λ l us F1 H1 g1 el pu perm=>⟨l,rfl,⟨us,SqL.of el⟩,λ acc hacc=>?_⟩⟩;have lF:F1.length<=60:=by rw[perm.length_eq];rw[zBy];exact hz
 have lu:us.length=F1.length:=zAG pu;refine zA0 (xs:=us) (λ j H'=>Same H1 H'/\H' acc=some (.lst ((F1.take j).map λ p=>V.bl (decide (p.kd = .lett))))) ⟨zAC hacc,zAA⟩ (λ j H' Ω h=>SqL.of (h.1 _ _ el)) ?_ ?_
 ·rintro j x Hx hxj ⟨gx,ex⟩
  obtain⟨p,hp,rp⟩:=zAJ pu hxj;have hj:j<F1.length:=(lJ.mp hp).1;obtain⟨a0,hs0,us0,rfl,ha0,_,_⟩:=(rp.mono gx.tk).all;have at0:atI (V.str p.kd.s::hs0++us0) 0=some (.str p.kd.s):=zAP (j:=0) rfl;refine⟨.skip .nil,_,rfl,a0,_,0,_,rfl,rfl,SqT.of ha0,at0,rfl,_,ex,zAN (by simp;omega),zAU gx hacc,?_⟩;rw[zAA,zAO hp,mQ]
  have e:decide (V.str p.kd.s=V.str "let")=decide (p.kd = .lett):=by
   rw[decide_eq_decide];exact Kd.eq_iff (b:=.lett)
  rw[e];rfl
 ·rintro H2 ⟨g2,e2⟩
  rw[lu,mP] at e2;have e3:(F1.map λ p=>V.bl (decide (p.kd = .lett)))=(F1.map λ p=>decide (p.kd = .lett)).map V.bl:=by rw[nW];rfl
  rw[e3] at e2;refine⟨acc,_,rfl,e2,q _ H2 (g1.trans g2) ?_⟩;rw[List.any_map,List.any_eq_true];constructor
  ·rintro⟨p,hp,e⟩
   exact⟨p,perm.mem_iff.mp hp,by simpa using e⟩
  ·rintro⟨p,hp,e⟩
   exact⟨p,perm.mem_iff.mpr hp,by simpa using e⟩
def zG8 (cN:Addr):Sp:=λ vs H Q E=>E3 λ(l:Addr) (us:List V) (ps:List (Tr × Tr))=>A6 (vs=[.ref l]) (H l=some (.lst us)) (Paired (PrR H) ps us) (∀q∈ps,q.1.size<=60/\q.2.size<=60) (PrOk ps->∀H',Same H H'->Q .non H') (¬PrOk ps->∀H',Same H H'->E (.ref cN) none H')
theorem zIx {k:Nat}{f g1 cN:Addr}{fd gd1:FuncData}{tk:Tok}(F:Fun K "check_pairs" "check_pairs" zCA f fd) (z_len:mg "len" = none) (zNy:mg "MOST_PAIRS" = some (.int 8 tk)) (zNz:mg "NoPair" = some (.ref cN)) (x_NoPair:W.excIn K cN bmVE "ValueError.__new__" = true)
  (zN0:FnB P w K mg base k "has_let" g1 gd1 ["tree"] zFt):FnOk P w K mg base (CXF P w) (k+1) f fd ["pairs"] (zG8 cN):=by
 refine F.okF zBp (λ vs H Q E h=>?_) (λ cdv A outer s H vs Q E hr h=>?_)
 ·obtain⟨l,us,ps,rfl,_⟩:=h
  rfl
 obtain⟨l,us,ps,rfl,el,pu,hz,q,qe⟩:=h
 refine⟨_,(zAE (ps_if (zK6 (zJ3 op_le op_le zAI (cL z_len (zAB (pv 0) zAD)) (zBB (v:=.int 8) (by rfl) zNy ⟨_,rfl⟩))) (zAF (zHG (by rfl) zNz x_NoPair (zAB zAX zAD))) zAY)
  (zAF (zA5 zLC rfl (zAs (pv 0)) (zCc rfl (zAZ (pGn (i:=1) zBp.nd) (zAZ (pGn (i:=2) zBp.nd) zBL))) (zAF (ps_if (pw_or (zCv (pe_cl zN0 hr (zAB (pv 1) zAD))) (zD1 (zCv (pe_cl zN0 hr (zAB (pv 2) zAD))))).pt (zAF (zHG (by rfl) zNz x_NoPair (zAB zAX zAD))) zAY))))),?_⟩
 have lu:us.length=ps.length:=zAG pu;have fewE:∀H',Same H H'->¬(1<=ps.length/\ps.length<=8)->E (.ref cN) none H':=λ H' g h=>qe (λ z=>h ⟨z.1,z.2.1⟩) H' g;have d1:1<=sizeLine:=by decide
 refine⟨_,rfl,l,us,rfl,.inl (SqL.of el),_,_,rfl,rfl,_,rfl,ite2 (λ c1=>⟨_,_,rfl,rfl,_,rfl,ite2 (λ c2=>?_) (λ c2=>?_)⟩) (λ c1=>?_)⟩
 ·refine⟨d1,fewE _ (.refl _) λ z=>?_⟩
  have h:¬decide (((us.length:Nat):Int)<=8)=true:=λ y=>by rw[y] at c2;cases c2
  exact h (lU (by omega))
 ·have hlen:1<=ps.length/\ps.length<=8:=by
   have a1:=lT c1;refine⟨by omega,?_⟩
   by_cases z:((us.length:Nat):Int)<=8
   ·omega
   ·exact absurd (by rw[decide_eq_false z];rfl) c2
  refine⟨_,rfl,l,rfl,⟨us,SqL.of el⟩,?_⟩;refine zBI (xs:=us) (λ i σ' H'=>E2 λ(s1 s2:Option V)=>A3 (σ'=[some (.ref l),s1,s2]) (Same H H') (∀q∈ps.take i,¬Let1 q.1/\¬Let1 q.2)) ⟨none,none,rfl,.refl _,(λ q hq=>nomatch hq)⟩ ?_ ?_ ?_
  ·rintro i σ' H' _ ⟨s1,s2,rfl,g,hq⟩
   exact SqL.of (g _ _ el)
  ·rintro i x σ' H' hx ⟨s1,s2,rfl,g,hq⟩
   obtain⟨pq,ep,pa,a,b,rfl,hp,ra,rb⟩:=zAJ pu hx;have hm:=lM ep
   have bad:Let1 pq.1\/Let1 pq.2->∀H2,Same H H2->E (.ref cN) none H2:=λ z H2 g2=>qe (λ ok=>by
    rcases z with z|z
    ·exact(ok.2.2 pq hm).1 z
    ·exact(ok.2.2 pq hm).2 z) H2 g2
   refine⟨pa,_,rfl,SqT.of (g _ _ hp),rfl,_,_,rfl,_,_,rfl,rfl,?_⟩;refine⟨_,rfl,pq.1,a,rfl,ra.mono g.tk,(hz pq hm).1,λ z1 H1 g1 h1=>⟨_,rfl,ite2 (λ c=>iteT ⟨d1,bad (.inl (h1.mp c)) _ (g.trans g1)⟩) (λ c=>?_)⟩⟩;refine⟨_,rfl,pq.2,b,rfl,rb.mono (g.trans g1).tk,(hz pq hm).2,λ z2 H2 g2 h2=>⟨_,rfl,ite2 (λ c'=>⟨d1,bad (.inr (h2.mp c')) _ (g.trans (g1.trans g2))⟩) (λ c'=>?_)⟩⟩;refine⟨_,_,rfl,g.trans (g1.trans g2),λ r hr'=>?_⟩;rw[zAO ep] at hr';rcases lK.mp hr' with h|h
   ·exact hq r h
   ·rw[mR.mp h]
    exact⟨λ z=>c (h1.mpr z),λ z=>c' (h2.mpr z)⟩
  ·rintro σ' H' ⟨s1,s2,rfl,g,hq⟩
   rw[lu,mP] at hq;exact q ⟨hlen.1,hlen.2,hq⟩ H' g
 ·refine⟨_,rfl,iteT ⟨d1,fewE _ (.refl _) λ z=>?_⟩⟩
  exact c1 (lU (by omega))
abbrev zCC:Stmt:=top 49
theorem zEY:zAQ ["trees"] ["trees"] (zAH zCC):=scI
abbrev zB5:Stmt:=top 50
theorem zEV:zAQ ["trees"] ["trees"] (zAH zB5):=scI
def zG9:Sp:=λ vs H Q Ω=>E2 λ(v:V) (ts:List Tr)=>A4 (vs=[v]) (RowR H ts v) (RowG ts) (∀(z:Bool) (H':Hp),Same H H'->(z=true↔Beg ts)->Q (.bl z) H')
theorem zKQ (F:Fun K "begin_alike" "begin_alike" zCC f fd) (z_all:mg "all" = none) (zN1:FnB P w K mg base k "alike_heads" g1 gd1 ["one", "other", "pairs"] zG5):FnOk P w K mg base CX0 (k+1) f fd ["trees"] zG9:=by
 refine F.ok zEY (λ vs H Q E h=>?_) (λ cdv A outer s H vs Q E hr h=>?_)
 ·obtain⟨v,ts,rfl,_⟩:=h
  rfl
 obtain⟨v,ts,rfl,⟨p,us,rfl,hp,pu⟩,G,q⟩:=h;refine⟨_,(zAF (zAV (zDV (zAn op_ne (pe_ix (r:=rIxT K) zAS (iC (r:=rIxT K) zAS (pv 0)) zAI (λ Ω Ω=>rfl)) zAX (zAW _)) (zB0 (zAd (zER rfl) (by rfl) z_all PyProof.Rows.boot_all (zAB (zAq ["tree", "trees"] [none,some 0] rfl (zCH (pv 0)) (λ Ω Ω Ω Ω Ω=>(zAf (i:=0) (show List.Nodup (["tree", "trees"]:List Str) by symm) rfl (Or.inl rfl))) (λ Ω Ω Ω Ω Ω=>zBA) (λ Ω Ω Ω Ω Ω=>(pe_cl zN1 hr (zAB (iC (r:=rIxT K) zAS (pv 1)) (zAB (pv 0) (zAB (zAv zAD:PE _ _ _) zAD))))) rfl) zAD)))))),?_⟩;have d0:0<=sizeLine:=by decide
 have h1:=G.ne;have h10:=G.fw;have lu:us.length=ts.length:=zAG pu;obtain⟨t0,e0⟩:∃t0,ts[0]?=some t0:=⟨_,lW (by omega)⟩;obtain⟨u0,eu0,r0⟩:=zBC pu e0;have hm0:=lM e0;have atu:atI us 0=some u0:=zAP (j:=0) eu0;obtain⟨a0,hs0,us0,rfl,ha0,_,_⟩:=id r0.all;have at0:atI (V.str t0.kd.s::hs0++us0) 0=some (.str t0.kd.s):=zAP (j:=0) rfl;refine⟨_,rfl,p,us,0,_,rfl,rfl,SqT.of hp,atu,a0,_,0,_,rfl,rfl,SqT.of ha0,at0,rfl,_,rfl,ite2 (λ c=>?_) (λ c=>?_)⟩
 ·have nn:¬t0.kd = .name:=λ z=>by
   have:decide (V.str t0.kd.s=V.str "name")=true:=lU (Kd.eq_iff (b:=.name).mpr z);rw[this] at c;cases c
  refine⟨_,rfl,p,rfl,⟨us,SqT.of hp⟩,λ acc hacc=>?_⟩;refine zBi (xs:=us) (λ j H'=>Same H H'/\∃bs:List Bool,H' acc=some (.lst (bs.map V.bl))/\bs.length=j/\(bs.all id=true↔∀u∈ts.take j,Hal t0 u)) ⟨zAC hacc,[],zAA,rfl,by simp⟩ (λ j H' Ω h=>SqT.of (h.1 _ _ hp)) ?_ ?_
  ·rintro j x Hx hxj ⟨gx,bs,ex,lb,hb⟩
   obtain⟨t,ht,rt⟩:=zAJ pu hxj;have hj:j<ts.length:=(lJ.mp ht).1;have hm:=lM ht;refine⟨.skip (.keep .nil),_,rfl,p,us,0,_,rfl,rfl,SqT.of (gx _ _ hp),atu,_,rfl,d0,λ pe hpe=>?_⟩;have ke:=zAC (o:=.tup []) hpe;have gk:=gx.trans ke;have ex':=ke _ _ ex;generalize upd Hx pe _=Hy at ke gk ex' ⊢;refine⟨t0,t,_,_,_,rfl,r0.mono gk.tk,rt.mono gk.tk,⟨G.pl t0 hm0,G.pl t hm,G.dp t0 hm0⟩,nn,λ z hz=>?_⟩;refine⟨_,ex',zAN (by simp;omega),zAU gk hacc,bs++[z],?_,by simp[lb],?_⟩
   ·rw[zAA,mQ]
    rfl
   ·rw[List.all_append,Bool.and_eq_true,hb,zAO ht]
    constructor
    ·rintro⟨h1,h2⟩ u hu
     rcases lK.mp hu with h|h
     ·exact h1 u h
     ·rw[mR.mp h]
      exact hz.mp (by simpa using h2)
    ·intro h
     exact⟨λ u hu=>h u (mF _ hu),by simpa using hz.mpr (h t (by simp))⟩
  ·rintro H2 ⟨g2,bs,e2,lb,hb⟩
   rw[lu,mP] at hb;refine⟨acc,bs,rfl,e2,q _ H2 g2 ?_⟩;rw[hb];constructor
   ·intro h
    exact⟨t0,e0,nn,h⟩
   ·rintro⟨t1,e1,_,h⟩
    rw[e0] at e1;cases e1;exact h
 ·refine q false H (.refl _) ⟨(λ z=>nomatch z),?_⟩
  rintro⟨t1,e1,nn,_⟩;rw[e0] at e1;cases e1;refine absurd ?_ c;have:decide (V.str t0.kd.s=V.str "name")=false:=decide_eq_false λ z=>nn (Kd.eq_iff (b:=.name).mp z);rw[this];rfl
def zIM:Sp:=λ vs H Q Ω=>E2 λ(v:V) (ts:List Tr)=>A5 (vs=[v]) (RowR H ts v) (RowG ts) (Beg ts) (∀(l:Addr) (us:List V) (H':Hp),Same H H'->H l=none->H' l=some (.lst us)->Paired (RowR H') (rowsW ts) us->Q (.ref l) H')
theorem zL3 (F:Fun K "rows_within" "rows_within" zB5 f fd) (z_range:mg "range" = none) (z_len:mg "len" = none) (z_tuple:mg "tuple" = none) (zNe:FnB P w K mg base k "parts" g1 gd1 ["tree"] zCV):FnOk P w K mg base CX0 (k+1) f fd ["trees"] zIM:=by
 refine F.ok zEV (λ vs H Q E h=>?_) (λ cdv A outer s H vs Q E hr h=>?_)
 ·obtain⟨v,ts,rfl,_⟩:=h
  rfl
 obtain⟨v,ts,rfl,⟨p,us,rfl,hp,pu⟩,G,B,q⟩:=h;refine⟨_,(zAF (zAV (zIk "number" ["number", "trees"] [none,some 0] rfl (zCz (by rfl) z_range (zAB (cL z_len (zAB (pe_cl zNe hr (zAB (iC (r:=rIxT K) zAS (pv 0)) zAD)) zAD)) zAD)) (λ Ω Ω Ω Ω Ω=>(zAf (i:=0) (by symm:List.Nodup (["number", "trees"]:List Str)) rfl (Or.inr rfl))) (λ Ω Ω Ω Ω Ω=>zBA) (λ Ω Ω Ω Ω Ω=>(zBQ (zEf K rfl) (by rfl) z_tuple rO (zAB (zAq ["tree", "number"] [none,some 0] rfl (zLo K rfl (pv 1)) (λ Ω Ω Ω Ω Ω=>(zAf (i:=0) (by symm:List.Nodup (["tree", "number"]:List Str)) rfl (Or.inl rfl))) (λ Ω Ω Ω Ω Ω=>zBA) (λ Ω Ω Ω Ω Ω=>(pe_ix (r:=rIxT K) zAS (pe_cl zNe hr (zAB (pv 0) zAD)) (pv 1) (λ Ω Ω=>rfl))) rfl) zAD))) rfl))),?_⟩;have h1:=G.ne;have h10:=G.fw;have lu:us.length=ts.length:=zAG pu;obtain⟨t0,e0,nn,hal⟩:=B;obtain⟨u0,eu0,r0⟩:=zBC pu e0;have hm0:=lM e0;have atu:atI us 0=some u0:=zAP (j:=0) eu0;refine⟨_,rfl,p,us,0,_,rfl,rfl,SqT.of hp,atu,t0,u0,rfl,r0,λ pp H1 pus g1 epp hpp=>?_⟩;have lp:pus.length=t0.parts.length:=zAG hpp;have h3:=zCP t0;refine⟨pp,pus,rfl,.inr (SqT.of epp),_,rfl,by omega,by omega,λ acc hacc=>?_⟩;have hp1:=g1 _ _ hp;have pu1:=Paired.mapP pu λ Ω Ω z=>Rep.mono g1.tk z;refine zCo (n:=((pus.length:Nat):Int).toNat) (λ j H'=>Same H1 H'/\∃os:List V,H' acc=some (.lst os)/\Paired (RowR H') ((List.range j).map λ i=>ts.filterMap λ t=>t.parts[i]?) os) ⟨zAC hacc,[],zAA,.nil⟩ ?_ ?_
 ·rintro j H2 hj ⟨g2,os,eo,po⟩
  rw[Int.toNat_natCast] at hj;have lo:=zAG po;rw[mD,List.length_range] at lo;refine⟨.skip (.keep .nil),_,rfl,p,rfl,⟨us,SqT.of (g2 _ _ hp1)⟩,λ ac2 hac2=>?_⟩;refine zBi (xs:=us) (λ m H'=>Same H2 H'/\∃vs:List V,H' ac2=some (.lst vs)/\vs.length=m/\Paired (Rep H') ((ts.take m).filterMap λ t=>t.parts[j]?) vs) ⟨zAC hac2,[],zAA,rfl,.nil⟩ (λ m H' Ω h=>SqT.of (h.1 _ _ (g2 _ _ hp1))) ?_ ?_
  ·rintro m x Hx hxm ⟨gx,vs,ev,lv,pv⟩
   obtain⟨t,ht,rt⟩:=zAJ pu1 hxm;have hm:m<ts.length:=(lJ.mp ht).1;have hmt:=lM ht;have lt:=zGD (hal t hmt);refine⟨.skip (.keep .nil),_,rfl,t,x,rfl,rt.mono (g2.trans gx).tk,λ pq Hy qus gy eq hq=>?_⟩;obtain⟨d,hd⟩:∃d,t.parts[j]?=some d:=⟨_,lW (by omega)⟩;obtain⟨y,ey,ry⟩:=zBC hq hd;have ev2:=gy _ _ ev;refine⟨_,rfl,pq,qus,j,y,rfl,by simp,SqT.of eq,zAP ey,vs,ev2,zAN (by omega),zAU (gx.trans gy) hac2,vs++[y],zAA,by simp[lv],?_⟩;rw[zAO ht,List.filterMap_append];have:List.filterMap (λ t=>t.parts[j]?) [t]=[d]:=by simp[hd]
   rw[this];exact zAM (Paired.mapP pv λ Ω Ω z=>z.mono (gy.tk.trans (Tk.lst ev2))) (.cons (ry.mono (Tk.lst ev2)) .nil)
  ·rintro H3 ⟨g3,vs,ev,lv,pv⟩
   rw[lu,mP] at pv;refine⟨ac2,vs,rfl,.inl ⟨SqL.of ev,λ tp htp=>?_⟩⟩;have g4:=zAC (o:=.tup vs) htp;have eo2:=(g3.trans g4) _ _ eo;refine⟨os,eo2,zAN (by omega),zAU (g2.trans (g3.trans g4)) hacc,os++[.ref tp],zAA,?_⟩;rw[List.range_succ,mQ];refine zAM (Paired.mapP po λ Ω Ω z=>z.mono ((g3.trans g4).tk.trans (Tk.lst eo2))) (.cons (RowR.mono (Tk.lst eo2) ⟨tp,vs,rfl,zAA,Paired.mapP pv λ Ω Ω z=>z.mono g4.tk⟩) .nil)
 ·rintro H2 ⟨g2,os,eo,po⟩
  rw[Int.toNat_natCast] at po;refine q acc os H2 (g1.trans g2) ?_ eo ?_
  ·cases z:H acc with
   |none=>rfl
   |some o=>rw[g1 _ _ z] at hacc;cases hacc
  ·unfold rowsW
   rw[e0];rw[lp] at po;exact po
abbrev zCK:Stmt:=top 9
theorem zFC:zAQ ["tree", "parts"] ["tree", "parts"] (zAH zCK):=scI
abbrev zB9:Stmt:=top 24
theorem zAw:zAQ ["heads", "ready", "grown", "begin", "head", "end"] ["heads", "ready"] (zAH zB9):=scI
abbrev zCM:Stmt:=top 25
theorem zBX:zAQ ["levels", "ready", "heads"] ["levels"] (zAH zCM):=scI
abbrev zDu:Stmt:=top 22
theorem zBz:zAQ ["number", "word", "rest"] ["number"] (zAH zDu):=scI
def zIK:Sp:=λ vs H Q Ω=>E5 λ(t:Tr) (v:V) (l:Addr) (us:List V) (ps:List Tr)=>A6 (vs=[v,.ref l]) (Rep H t v) (H l=some (.lst us)) (Paired (Rep H) ps us) (ps.length=t.parts.length) (∀v' H',Same H H'->Rep H' (t.withP ps) v'->Q v' H')
theorem zKd (t:Tr):t.head<=3:=by cases t<;>simp[Tr.head]
theorem zL0 (F:Fun K "with_parts" "with_parts" zCK f fd) (z_tuple:mg "tuple" = none) (zNd:FnB P w K mg base k "parts_begin" g gd ["tree"] zBm) :
  FnOk P w K mg base CX0 (k+1) f fd ["tree", "parts"] zIK:=by
 refine F.ok zFC (λ vs H Q E h=>?_) (λ cdv A outer s H vs Q E hr h=>?_)
 ·obtain⟨t,v,l,us,ps,rfl,_⟩:=h
  rfl
 obtain⟨t,v,l,ws,ps,rfl,hR,hl0,hp,hpl,q⟩:=h;refine⟨_,(zAF (zAV (pe_op zEA (zA8 zLX (pv 0) zCO (zA4 (pe_cl zNd hr (zAB (pv 0) zAD)))) (zBQ zCG (by rfl) z_tuple rO (zAB (pv 1) zAD))))),?_⟩;obtain⟨a,hs,us,rfl,ha,hl,hul,mk⟩:=hR.build hpl;have hn:(V.str t.sign::hs++us).length=t.head+us.length:=by rw[mK,mM];omega
 have e1:HT.sIx (V.str t.sign::hs++us).length (V.str t.sign::hs++us).length (some (zC6 t))=t.head:=by
  show HT.sIx _ _ (some ((t.head:Nat):Int))=_;rw[HT.sIx_nat,hn];omega
 have e2:cutV (V.str t.sign::hs++us) none (some (zC6 t))=V.str t.sign::hs:=by
  unfold cutV;rw[e1,HT.sIx_none,Nat.sub_zero,List.drop_zero,←hl];exact List.take_left' rfl
 have h3:=zKd t;have h4:=zCP t;refine⟨_,rfl,_,rfl,t,_,rfl,hR,_,rfl,a,_,rfl,ha,λ p H' g e=>?_⟩
 ·rw[e2] at e
  have hw:ws.length=ps.length:=(zAG hp);refine⟨_,rfl,l,ws,rfl,.inl ⟨SqL.of (g _ _ hl0),λ p2 hp2=>?_⟩⟩;have g2:=zAC (o:=.tup ws) hp2;refine⟨p,p2,_,_,rfl,rfl,g2 _ _ e,zAA,zAh ?_,λ p3 H3 g3 e3=>?_⟩
  ·rw[mM]
   omega
  ·have gA:=g.trans (g2.trans g3)
   exact q (.ref p3) H3 gA (mk gA.tk e3 (Paired.mapP hp λ Ω Ω r=>r.mono gA.tk))
def zG1:Sp:=λ vs H Q Ω=>E6 λ(hl rl:Addr) (hvs rvs:List V) (hs R:List Tr)=>A8 (vs=[.ref hl,.ref rl]) (H hl=some (.lst hvs)) (H rl=some (.lst rvs)) (Paired (Rep H) hs hvs) (Paired (Rep H) R rvs) (R.length=zAa hs) (hs.length<=600) (∀l us H',Same H H'->H l=none->H' l=some (.lst us)->Paired (Rep H') (growL hs R) us->Q (.ref l) H')
theorem zKK (F:Fun K "grown_level" "grown_level" zB9 f fd) (z_len:mg "len" = none) (zNe:FnB P w K mg base k "parts" g1 gd1 ["tree"] zCV) (zN2:FnB P w K mg base k "with_parts" g2 gd2 ["tree", "parts"] zIK) :
  FnOk P w K mg base CX0 (k+1) f fd ["heads", "ready"] zG1:=by
 refine F.ok zAw (λ vs H Q E h=>?_) (λ cdv A outer s H vs Q E hr h=>?_)
 ·obtain⟨hl,rl,hvs,rvs,hs,R,rfl,_⟩:=h
  rfl
 obtain⟨hl,rl,hvs,rvs,hs,R,rfl,eh,er,pH,pR,hRn,hz,q⟩:=h
 refine⟨_,(zAE (pS (i:=2) zAw.nd (zA1 zAD:PE _ _ _))
  (zAE (pS (i:=3) zAw.nd zAI)
  (zAE (zA5 PassesOwn.never rfl (zAs (pv 0)) (pGn (i:=4) zAw.nd) (zAE (pS (i:=5) zAw.nd (pe_op zC0 (pv 3) (cL z_len (zAB (pe_cl zNe hr (zAB (pv 4) zAD)) zAD))))
  (zAE (pAp (pv 2) (pe_cl zN2 hr (zAB (pv 4) (zAB (zA8 (r:=rSlL K) zDr (pv 1) (zA4 (pv 3)) (zA4 (pv 5))) zAD))))
  (zAF (pS (i:=3) zAw.nd (pv 5))))))
  (zAF (zAV (pv 2)))))),?_⟩
 have lh:hvs.length=hs.length:=zAG pH;have lr:rvs.length=R.length:=zAG pR;refine⟨(by show 0<=sizeLine;decide),λ gl hgl=>?_⟩;have g0:=zAC (o:=.lst []) hgl;refine⟨_,rfl,hl,rfl,⟨hvs,SqL.of (g0 _ _ eh)⟩,?_⟩;refine zBI (xs:=hvs) (λ i σ' H'=>E3 λ(us:List V) (s4 s5:Option V)=>A4 (σ'=[some (.ref hl),some (.ref rl),some (.ref gl),some (.int ((zAa (hs.take i):Nat):Int)),s4,s5]) (Same H H') (H' gl=some (.lst us)) (Paired (Rep H') (growL (hs.take i) (R.take (zAa (hs.take i)))) us)) ?_ ?_ ?_ ?_
 ·exact⟨[],none,none,rfl,g0,zAA,.nil⟩
 ·rintro i σ1 H1 _ ⟨us,s4,s5,rfl,g1,eg1,p1⟩
  exact SqL.of (g1 _ _ eh)
 ·rintro i x σ1 H1 hx ⟨us,s4,s5,rfl,g1,eg1,p1⟩
  obtain⟨h,eh',rh⟩:=zAJ pH hx;have hi:i<hs.length:=(lJ.mp eh').1;have et:=zAO eh';have en:zAa (hs.take (i+1))=zAa (hs.take i)+h.parts.length:=by rw[et,zEs,zHx]
  have le:=zEB hs (i+1);refine⟨_,rfl,_,rfl,h,x,rfl,rh.mono g1.tk,λ pt H2 ws g2 ept pw=>?_⟩;have lw:ws.length=h.parts.length:=zAG pw;refine⟨pt,_,rfl,.inr (SqT.of ept),_,_,rfl,rfl,?_⟩;have er2:=(g1.trans g2) _ _ er;refine⟨_,rfl,.inl ⟨rfl,_,SqL.of (g2 _ _ eg1)⟩,_,rfl,_,rfl,_,rfl,_,rfl,_,rfl,_,rfl,rl,rvs,rfl,SqL.of er2,λ sl hsl=>?_⟩
  have e0:cutV rvs (some ((zAa (hs.take i):Nat):Int)) (some (((zAa (hs.take i):Nat):Int)+(ws.length:Int)))=(rvs.drop (zAa (hs.take i))).take h.parts.length:=by
   have e1:(((zAa (hs.take i):Nat):Int)+(ws.length:Int))=((zAa (hs.take i)+h.parts.length:Nat):Int):=by rw[lw];omega
   rw[e1];unfold cutV;rw[HT.sIx_nat,HT.sIx_nat];congr 1
   ·omega
   ·congr 1
    omega
  rw[e0];have g3:=zAC (o:=.lst ((rvs.drop (zAa (hs.take i))).take h.parts.length)) hsl;have gA:=g1.trans (g2.trans g3);refine⟨h,x,sl,_,(R.drop (zAa (hs.take i))).take h.parts.length,rfl,rh.mono gA.tk,zAA,Paired.mapP (zDK _ _ pR) (λ Ω Ω z=>z.mono gA.tk),?_,λ v' H4 g4 r4=>?_⟩
  ·rw[mO,mX]
   omega
  have eg4:=(g2.trans (g3.trans g4)) _ _ eg1
  have lus:us.length<=i:=by
   have:=zAG p1;rw[zEK,mO] at this;omega
  refine⟨gl,us,v',rfl,rfl,eg4,zAN (by omega),?_⟩;have tkz:Tk H4 (upd H4 gl (.lst (us++[v']))):=Tk.lst eg4;refine⟨_,rfl,us++[v'],some x,some (V.int (((zAa (hs.take i):Nat):Int)+(ws.length:Int))),?_,zAU (gA.trans g4) hgl,zAA,?_⟩
  ·have e1:(((zAa (hs.take i):Nat):Int)+(ws.length:Int))=((zAa (hs.take (i+1)):Nat):Int):=by rw[lw,en];omega
   show [some (V.ref hl),some (V.ref rl),some (V.ref gl),some (V.int (((zAa (hs.take i):Nat):Int)+(ws.length:Int))),some x,some (V.int (((zAa (hs.take i):Nat):Int)+(ws.length:Int)))]=_;rw[e1]
  ·have e2:R.take (zAa (hs.take (i+1)))=R.take (zAa (hs.take i))++(R.drop (zAa (hs.take i))).take h.parts.length:=by
    rw[en,List.take_add]
   rw[e2,et,zEy _ (by rw[mO];have:=zEB hs i;omega) (by rw[mO,mX];omega)];exact zAM (Paired.mapP p1 λ Ω Ω z=>z.mono ((g2.trans (g3.trans g4)).tk.trans tkz)) (.cons (r4.mono tkz) .nil)
 ·rintro σ1 H1 ⟨us,s4,s5,rfl,g1,eg1,p1⟩
  rw[lh,mP,←hRn,mP] at p1;exact⟨_,rfl,q gl us H1 g1 hgl eg1 p1⟩
def zG6:Sp:=λ vs H Q Ω=>E4 λ(L:Addr) (lvs:List V) (Lr:List (List Tr)) (r:Tr)=>A7 (vs=[.ref L]) (H L=some (.lst lvs)) (Paired (zNb H) Lr.reverse lvs) (Fit Lr 0) (zBU Lr []=[r]) (∀hs∈Lr,hs.length<=600) (∀v' H',Same H H'->Rep H' r v'->Q v' H')
theorem zKO (F:Fun K "grown_tree" "grown_tree" zCM f fd) (z_reversed:mg "reversed" = none) (zN3:FnB P w K mg base k "grown_level" g1 gd1 ["heads", "ready"] zG1):FnOk P w K mg base CX0 (k+1) f fd ["levels"] zG6:=by
 refine F.ok zBX (λ vs H Q E h=>?_) (λ cdv A outer s H vs Q E hr h=>?_)
 ·obtain⟨L,lvs,Lr,r,rfl,_⟩:=h
  rfl
 obtain⟨L,lvs,Lr,r,rfl,eL,pL,hfit,hgrow,hz,q⟩:=h
 refine⟨_,(zAE (pS (i:=1) zBX.nd (zA1 zAD:PE _ _ _))
  (zAE (zA5 PassesOwn.never rfl (zLp (by rfl) z_reversed (zAB (pv 0) zAD)) (pGn (i:=2) zBX.nd) (zAF (pS (i:=1) zBX.nd (pe_cl zN3 hr (zAB (pv 2) (zAB (pv 1) zAD))))))
  (zAF (zAV (iC (r:=rIxL K) zBx (pv 1)))))),?_⟩
 have ll:lvs.length=Lr.length:=by rw[zAG pL,List.length_reverse]
 refine⟨(by show 0<=sizeLine;decide),λ rl0 hrl0=>?_⟩;have g0:=zAC (o:=.lst []) hrl0;refine⟨_,rfl,L,rfl,lvs,SqL.of (g0 _ _ eL),?_⟩;refine zKe (xs:=lvs) (λ i σ' H'=>E4 λ(rl:Addr) (rvs:List V) (R:List Tr) (s2:Option V)=>A6 (σ'=[some (.ref L),some (.ref rl),s2]) (Same H H') (H' rl=some (.lst rvs)) (Paired (Rep H') R rvs) (Fit (Lr.drop i) R.length) (zBU (Lr.drop i) R=[r])) ?_ ?_ ?_ ?_
 ·exact⟨rl0,[],[],none,rfl,g0,zAA,.nil,hfit,hgrow⟩
 ·rintro i σ1 H1 _ ⟨rl,rvs,R,s2,rfl,g1,er,pR,hf,hg⟩
  exact SqL.of (g1 _ _ eL)
 ·rintro i x σ1 H1 hi hx ⟨rl,rvs,R,s2,rfl,g1,er,pR,hf,hg⟩
  obtain⟨hs,ehs,l,us,rfl,el,pl⟩:=zEa pL hi hx;have hlt:i<Lr.length:=by omega
  have ed:Lr.drop i=hs::Lr.drop (i+1):=by
   rw[List.drop_eq_getElem_cons hlt];have:=(lJ.mp ehs).2;rw[this]
  rw[ed] at hf hg;obtain⟨hf1,hf2⟩:=hf;refine⟨_,rfl,_,rfl,l,rl,us,rvs,hs,R,rfl,g1 _ _ el,er,Paired.mapP pl (λ Ω Ω z=>z.mono g1.tk),pR,hf1.symm,hz hs (lM ehs),λ l2 us2 H2 g2 Ω e2 p2=>?_⟩;refine⟨l2,us2,growL hs R,_,rfl,g1.trans g2,e2,p2,by rw[zEK];exact hf2,hg⟩
 ·rintro σ1 H1 ⟨rl,rvs,R,s2,rfl,g1,er,pR,hf,hg⟩
  rw[ll,List.drop_length] at hg;have hg':R=[r]:=hg;subst hg';cases pR with
  |cons r1 pR =>
   cases pR;exact⟨_,rfl,rl,_,0,_,rfl,rfl,SqL.of er,rfl,q _ H1 g1 r1⟩
def zEh:Sp:=λ vs H Q Ω=>∃(n:Nat),A3 (vs=[.int (n:Int)]) (n<702) (Q (.str (wrdN n)) H)
theorem zHs {k:Nat}{f:Addr}{fd:FuncData}{tk:Tok}(F:Fun K "word_of" "word_of" zDu f fd) (zN4:mg "LETTERS" = some (.str abcS tk)):FnOk P w K mg base CX0 (k+1) f fd ["number"] zEh:=by
 refine F.ok zBz (λ vs H Q E h=>?_) (λ cdv A outer s H vs Q E hr h=>?_)
 ·obtain⟨n,rfl,_⟩:=h
  rfl
 obtain⟨n,rfl,hn,q⟩:=h
 refine⟨_,(zAE (pS (i:=1) zBz.nd (pe_ix zJA (zBB (v:=.str abcS) (by rfl) zN4 ⟨_,rfl⟩) (pe_op zBE (pv 0) zAI) (λ Ω Ω=>rfl)))
  (zAE (pS (i:=2) zBz.nd (pe_op zBM (pv 0) zAI))
  (zAE (zCZ PassesOwn.never (zAR op_gt (pv 2) zAI (zAW _)) (zAE (pS (i:=1) zBz.nd (pe_op zDL (pe_ix zJA (zBB (v:=.str abcS) (by rfl) zN4 ⟨_,rfl⟩) (pe_op zBE (pe_op zF4 (pv 2) zAI) zAI) (λ Ω Ω=>rfl)) (pv 1)))
  (zAF (pS (i:=2) zBz.nd (pe_op zBM (pe_op zF4 (pv 2) zAI) zAI)))))
  (zAF (zAV (pv 1)))))),?_⟩
 have at_:∀i:Nat,i<26->atI abcS.cps.toList ((i:Nat):Int)=some (97+i):=λ i hi=>zAP (zNZ i hi);have e1:(n:Int) % 26=((n % 26:Nat):Int):=by omega
 have e2:(n:Int) / 26=((n / 26:Nat):Int):=by omega
 refine⟨_,rfl,_,_,rfl,rfl,(show (0:Int)<26 by decide),abcS,_,_,rfl,rfl,zAh (by rw[zGs];decide),(by rw[e1];exact at_ _ (by omega)),?_⟩;refine⟨_,rfl,_,_,rfl,rfl,⟨(show (0:Int)<26 by decide),(show (26:Int)<1073741824 by decide)⟩,?_⟩;refine⟨λ m σ' H'=>H'=H/\((σ'=[some (.int (n:Int)),some (.str ⟨#[97+n % 26]⟩),some (.int ((n:Int) / 26))]/\m=1)\/(26<=n/\σ'=[some (.int (n:Int)),some (.str ⟨#[96+n / 26,97+n % 26]⟩),some (.int 0)]/\m=0)),⟨1,rfl,.inl ⟨rfl,rfl⟩⟩,?_⟩;rintro m σ' H' ⟨rfl,⟨rfl,rfl⟩|⟨hb,rfl,rfl⟩⟩
 ·refine⟨_,rfl,_,_,rfl,rfl,_,rfl,?_⟩
  refine ite2 (λ c=>?_) (λ c=>?_)
  ·have c':(0:Int)<(n:Int) / 26:=lT c
   have e3:((n:Int) / 26 - 1) % 26=((n / 26 - 1:Nat):Int):=by omega
   have e4:((n:Int) / 26 - 1) / 26=0:=by omega
   refine⟨_,λ Ω Ω h=>h,?_⟩;refine⟨_,rfl,_,_,rfl,rfl,_,_,rfl,rfl,(show (0:Int)<26 by decide),abcS,_,_,rfl,rfl,zAh (by rw[zGs];decide),(by rw[e3];exact at_ _ (by omega)),_,rfl,_,_,rfl,rfl,zAh (by show 1+1<=1000;decide),?_⟩;refine⟨_,rfl,_,_,rfl,rfl,_,_,rfl,rfl,⟨(show (0:Int)<26 by decide),(show (26:Int)<1073741824 by decide)⟩,?_⟩;refine⟨0,by decide,rfl,.inr ⟨by omega,?_,rfl⟩⟩;have e5:97+(n / 26 - 1)=96+n / 26:=by omega
   show [some (V.int (n:Int)),some (V.str ⟨#[97+(n / 26 - 1),97+n % 26]⟩),some (V.int (((n:Int) / 26 - 1) / 26))]=_;rw[e4,e5]
  ·have c':¬(0:Int)<(n:Int) / 26:=λ z=>c (lU z)
   have e:wrdN n=⟨#[97+n % 26]⟩:=by
    unfold wrdN;rw[if_pos (by omega),Nat.mod_eq_of_lt (by omega)]
   rw[e] at q;exact⟨_,rfl,q⟩
 ·refine⟨_,rfl,_,_,rfl,rfl,_,rfl,?_⟩
  refine iteN (by decide) ?_
  have e:wrdN n=⟨#[96+n / 26,97+n % 26]⟩:=by
   unfold wrdN;rw[if_neg (by omega)]
  rw[e] at q;exact⟨_,rfl,q⟩
abbrev zB4:Stmt:=top 23
theorem zBo:zAQ ["used", "number"] ["used"] (zAH zB4):=scI
abbrev zDz:Stmt:=top 51
theorem zHl:zAQ ["trees", "words"] ["trees", "words"] (zAH zDz):=scI
def zFp:Sp:=λ vs H Q Ω=>E2 λ(u:Addr) (ks:List Str)=>A4 (vs=[.ref u]) (H u=some (.lst (ks.map V.str))) (ks.length<=600) (∀m,Unu ks m->Q (.str m) H)
theorem zIq (F:Fun K "unused_word" "unused_word" zB4 f fd) (zN5:mg "KEPT_WORDS" = some (.ref kv)) (hL:KeptW K kv) (zN6:FnB P w K mg base k "word_of" g1 gd1 ["number"] zEh):FnOk P w K mg base CX0 (k+1) f fd ["used"] zFp:=by
 refine F.ok zBo (λ vs H Q E h=>?_) (λ cdv A outer s H vs Q E hr h=>?_)
 ·obtain⟨u,ks,rfl,_⟩:=h
  rfl
 obtain⟨u,ks,rfl,hd,hz,q⟩:=h
 refine⟨_,(zAE (pS (i:=1) zBo.nd zAI)
  (zAE (zCZ PassesOwn.never (pw_or (zAR (r:=rIn K false) zBf (pe_cl zN6 hr (zAB (pv 1) zAD)) (pv 0) rfl) (zD1 (zAR (r:=rIn K false) zBf (pe_cl zN6 hr (zAB (pv 1) zAD)) (zBB (v:=.ref _) (by rfl) zN5 (by rfl)) rfl))).pt (zAF (zMz (i:=1) zBo.nd rfl (Or.inl rfl) zAI zNS)))
  (zAF (zAV (pe_cl zN6 hr (zAB (pv 1) zAD)))))),?_⟩
 have inK:∀x:Str,inV (.str x) keptV=decide (x∈keptS):=λ x=>zFV x keptS;have flU:(ks.map V.str).all flatV=true:=by rw[List.all_map];exact List.all_eq_true.mpr λ Ω Ω=>rfl
 refine⟨λ m σ' H'=>H'=H/\∃n:Nat,σ'=[some (.ref u),some (.int (n:Int))]/\m=701 - n/\(∀j<n,wrdN j∈ks\/wrdN j∈keptS)/\n<=701,⟨701,rfl,0,rfl,rfl,(λ j hj=>absurd hj (Nat.not_lt_zero j)),by decide⟩,?_⟩;rintro m σ' H' ⟨rfl,n,rfl,rfl,hall,hn7⟩;have hn:n<=ks.length+11:=zJp hall (by omega)
 have more:(wrdN n∈ks\/wrdN n∈keptS)->∀j<n+1,wrdN j∈ks\/wrdN j∈keptS:=λ z j hj=>by
  rcases Nat.lt_or_ge j n with h|h
  ·exact hall j h
  ·have:j=n:=by omega
   rw[this];exact z
 refine⟨_,rfl,n,rfl,by omega,_,rfl,u,ks.map V.str,rfl,.inl (SqL.of hd),rfl,flU,_,rfl,?_⟩;show if inV (.str (wrdN n)) (ks.map V.str)=true then _ else _
 rw[zFV];refine ite2 (λ c=>?_) (λ c=>?_)
 ·have hin:wrdN n∈ks:=by simpa using c
  exact iteT ⟨_,λ Ω Ω h=>h,_,rfl,n,1,rfl,rfl,701 - (n+1),by omega,rfl,n+1,rfl,rfl,more (.inl hin),by omega⟩
 ·have hnin:wrdN n∉ks:=by simpa using c
  refine⟨_,rfl,n,rfl,by omega,kv,keptV,rfl,.inr (.inr hL),rfl,rfl,_,rfl,?_⟩;show if inV (.str (wrdN n)) keptV=true then _ else _
  rw[inK];refine ite2 (λ c2=>?_) (λ c2=>?_)
  ·have hin:wrdN n∈keptS:=by simpa using c2
   exact⟨_,λ Ω Ω h=>h,_,rfl,n,1,rfl,rfl,701 - (n+1),by omega,rfl,n+1,rfl,rfl,more (.inr hin),by omega⟩
  ·have hnk:wrdN n∉keptS:=by simpa using c2
   exact⟨_,rfl,n,rfl,by omega,q _ ⟨n,rfl,hn7,hall,hnin,hnk⟩⟩
def zK2 (P:Program) (w:World):Sp:=λ vs H Q Ω=>E4 λ(v:V) (d:Addr) (ts:List Tr) (ws:WS)=>A7 (vs=[v,.ref d]) (RowR H ts v) (RowP ts) (WsR P w H d ws) (∀q∈ws,RowP q.1) (ws.length<=200) (∀(g:Str) (ws':WS) (v':V) (H':Hp),Gap1 ws ts g ws'->Sx d H H'->WsR P w H' d ws'->Rep H' (.gap g []) v'->Q v' H')
theorem zND (F:Fun K "gap_for" "gap_for" zDz f fd) (z_list:mg "list" = none) (zN7:FnB P w K mg base k "unused_word" g1 gd1 ["used"] zFp):FnOk P w K mg base CX0 (k+1) f fd ["trees", "words"] (zK2 P w):=by
 refine F.ok zHl (λ vs H Q E h=>?_) (λ cdv A outer s H vs Q E hr h=>?_)
 ·obtain⟨v,d,ts,ws,rfl,_⟩:=h
  rfl
 obtain⟨v,d,ts,ws,rfl,rR,hp,hW,hwp,hwl,q⟩:=h;have hu5:=hu150 hr
 refine⟨_,(zAE (ps_if (zAR (zIn hu5) (pv 0) (pv 1) rfl) (zAF (zLk hu5 (pv 1) (pv 0) (pe_cl zN7 hr (zAB (zBQ (zH7 rfl) (by rfl) z_list PyProof.Rows.boot_list (zAB (zJ9 (pv 1)) zAD)) zAD)) rfl)) zAY)
  (zAF (zAV (zAv (zAB zAX (zAB (zIh hu5 (pv 1) (pv 0) (λ Ω Ω=>rfl)) (zAB (zAv zAD:PE _ _ _) zAD))):PE _ _ _)))),?_⟩
 obtain⟨b,rfl,dr,dp⟩:=rR.dr hp;refine viaN λ N hN=>?_
 have fin:∀(g:Str) (ws':WS) (H1:Hp),Gap1 ws ts g ws'->Sx d H H1->WsR P w H1 d ws'->valV (ws'.map kvW) (dtRow ts)=some (.str g)->N [some (.ref b),some (.ref d)] H1:=λ g ws' H1 hg hx hw hv=>hN _ _ (by
  have dr1:=dr.mono (hx.tk hW);refine⟨_,rfl,_,rfl,d,dtRow ts,_,_,rfl,(DicP.e hw).r hv,⟨b,rfl,dr1,dp⟩,hv,(by show 0<=sizeLine;decide),λ p1 h1=>⟨(by show 3<=sizeLine;decide),λ p2 h2=>?_⟩⟩;have g1:=zAC (o:=.tup []) h1;have g2:=zAC (o:=.tup [.str "gap", .str g,.ref p1]) h2;exact q g ws' (.ref p2) _ hg (hx.same (g1.trans g2)) (hw.mono (g1.trans g2)) ⟨p2,p1,[],rfl,zAA,g2 _ _ zAA,lY _,.nil⟩)
 refine⟨_,rfl,_,rfl,d,dtRow ts,ws.map kvW,rfl,DicP.e hW,⟨b,rfl,dr,dp⟩,_,rfl,?_⟩;rcases zKv ws ts hp hwp with ⟨g,hg,hv⟩|⟨hn,hv⟩
 ·rw[hv]
  exact iteF (fin g ws H (.old hg) (.of (Same.refl _)) hW hv)
 ·rw[hv]
  refine iteT ⟨_,rfl,d,ws.map kvW,rfl,DicP.e hW,λ p hpn=>?_⟩;have g1:=zAC (o:=viewO p d) hpn;refine⟨p,d,ws.map kvW,rfl,zAA,DicP.e (hW.mono g1),λ l hl=>?_⟩;have g2:=zAC (o:=.lst ((ws.map kvW).map (·.2))) hl;have gA:=g1.trans g2
  have e2:(upd (upd H p (viewO p d)) l (.lst ((ws.map kvW).map (·.2)))) l=some (.lst ((ws.map (·.2)).map V.str)):=by
   rw[zAA,nW,nW];rfl
  refine⟨l,ws.map (·.2),rfl,e2,by rw[mD];omega,λ m hm=>?_⟩;have hW2:=hW.mono gA;refine⟨_,rfl,_,rfl,d,dtRow ts,ws.map kvW,rfl,hW2,by rw[mD];omega,⟨b,rfl,dr.mono gA.tk,dp⟩,λ o hd tk=>?_⟩
  have ep:putK (ws.map kvW) (dtRow ts) (.str m)=(ws++[(ts,m)]).map kvW:=by
   unfold putK
   have:((ws.map kvW).any λ kv=>decide (kv.1=dtRow ts))=false:=by
    unfold valV at hv;rw[Option.map_eq_none_iff,List.find?_eq_none] at hv;rw[List.any_eq_false];exact hv
   rw[this];simp[kvW]
  rw[ep] at hd;refine fin m _ _ (.new hn hm) ((Sx.of gA).own) (.inl hd) ?_;rw[mQ];unfold valV at hv ⊢;rw[Option.map_eq_none_iff] at hv;rw[List.find?_append,hv];simp[kvW]
abbrev zBt:Stmt:=top 52
theorem zAk:zAQ ["trees", "words", "levels", "level", "heads", "deeper", "row"] ["trees", "words"] (zAH zBt):=scI
def zFu (P:Program) (w:World):Sp:=λ vs H Q Ω=>E5 λ(tl d:Addr) (us:List V) (ts:List Tr) (ws:WS)=>A9 (vs=[.ref tl,.ref d]) (H tl=some (.lst us)) (Paired (Rep H) ts us) (RowQ ts) (WsR P w H d ws) (∀q∈ws,RowP q.1) (WsN ws) (ws.length+sz0 ts<=150)
 (∀(ws2:WS) (L:List (List Tr)) (r:Tr) (v':V) (H':Hp),Cs ws [ts] ws2 L->zBU L.reverse []=[r]->Sx d H H'->WsR P w H' d ws2->Rep H' r v'->Q v' H')
theorem zIw (F:Fun K "common_shape" "common_shape" zBt f fd) (z_tuple:mg "tuple" = none) (zN8:FnB P w K mg base k "begin_alike" g1 gd1 ["trees"] zG9) (zN9:FnB P w K mg base k "rows_within" g2 gd2 ["trees"] zIM)
  (zOA:FnB P w K mg base k "gap_for" g3 gd3 ["trees", "words"] (zK2 P w)) (zOB:FnB P w K mg base k "grown_tree" g4 gd4 ["levels"] zG6):FnOk P w K mg base CX0 (k+1) f fd ["trees", "words"] (zFu P w):=by
 refine F.ok zAk (λ vs H Q E h=>?_) (λ cdv A outer s H vs Q E hr h=>?_)
 ·obtain⟨tl,d,us,ts,ws,rfl,_⟩:=h
  rfl
 obtain⟨tl,d,us,ts,ws,rfl,etl,pu,hQ,hW,hwp,hnd,hbd,q⟩:=h
 refine⟨_,(zAE (pS (i:=2) zAk.nd (zA1 zAD:PE _ _ _))
  (zAE (pS (i:=3) zAk.nd (zA1 (zAB (zBQ zCG (by rfl) z_tuple rO (zAB (pv 0) zAD)) zAD):PE _ _ _))
  (zAE (zCZ PassesOwn.never (zCw (pv 3) (λ Ω=>rfl)) (zAE (pS (i:=4) zAk.nd (zA1 zAD:PE _ _ _))
  (zAE (pS (i:=5) zAk.nd (zA1 zAD:PE _ _ _))
  (zAE (zA5 PassesOwn.never rfl (zAs (pv 3)) (pGn (i:=6) zAk.nd) (zAF (ps_if (zCv (pe_cl zN8 hr (zAB (pv 6) zAD))) (zAE (pAp (pv 4) (iC (r:=rIxT K) zAS (pv 6)))
  (zAF (zBw (pe_bm rV rZ tE zC2 (pv 5) (zAB (pe_cl zN9 hr (zAB (pv 6) zAD)) zAD))))) (zAF (pAp (pv 4) (pe_cl zOA hr (zAB (pv 6) (zAB (pv 1) zAD))))))))
  (zAE (pAp (pv 2) (pv 4))
  (zAF (pS (i:=3) zAk.nd (pv 5))))))))
  (zAF (zAV (pe_cl zOB hr (zAB (pv 2) zAD))))))),?_⟩
 have d0:0<=sizeLine:=by decide
 refine⟨d0,λ lv hlv=>?_⟩;have g0:=zAC (o:=.lst []) hlv;refine⟨_,rfl,tl,us,rfl,.inl ⟨SqL.of (g0 _ _ etl),λ tp htp=>⟨(by show 1<=sizeLine;decide),λ le0 hle=>?_⟩⟩⟩;have g1:=zAC (o:=.tup us) htp;have g2:=zAC (o:=.lst [.ref tp]) hle;have gA:=g0.trans (g1.trans g2);have s1:totR [ts]=sz0 ts:=by simp[totR]
 refine⟨λ m σ' Hw=>E9 λ(le:Addr) (lev:List V) (rows:List (List Tr)) (lvs:List V) (Lr:List (List Tr)) (wsi:WS) (s4 s5 s6:Option V)=>A14 (σ'=[some (.ref tl),some (.ref d),some (.ref lv),some (.ref le),s4,s5,s6]) (Sx d H Hw) (Hw le=some (.lst lev)) (Paired (RowR Hw) rows lev) (Hw lv=some (.lst lvs)) (Paired (LevN lv Hw) Lr.reverse lvs) (WsR P w Hw d wsi) (∀r∈rows,RowQ r) (∀q∈wsi,RowP q.1) (WsN wsi)
   (wsi.length+totR rows<=ws.length+sz0 ts) (m=totR rows) (Lr.length+totR rows<=sz0 ts) (∀ws2 L,Cs wsi rows ws2 L->Cs ws [ts] ws2 (Lr.reverse++L)),
  ⟨totR [ts],le0,_,[ts],[],[],ws,none,none,none,rfl,.of gA,zAA,.cons ⟨tp,us,rfl,g2 _ _ zAA,Paired.mapP pu λ Ω Ω z=>z.mono gA.tk⟩ .nil,(g1.trans g2) _ _ zAA,.nil,hW.mono gA,(λ r hr=>by rw[mR.mp hr];exact hQ),hwp,hnd,by rw[s1];exact lQ _,rfl,by rw[s1];simp,λ ws2 L h=>h⟩,?_⟩
 rintro m σ' Hw ⟨le,lev,rows,lvs,Lr,wsi,s4,s5,s6,rfl,sw,ele,pR,elv,pL,hWw,hrq,hwpw,hndw,hbw,rfl,hlr,hcs⟩;have lR:lev.length=rows.length:=zAG pR;have lL:lvs.length=Lr.length:=by rw[zAG pL,List.length_reverse]
 have ltR:=zFP hrq;obtain⟨od,eod,nodt,nodl⟩:=hWw.at;have nLd:∀{b xs},Hw b=some (.lst xs)->b≠d:=λ{b xs} e z=>by rw[z,eod] at e;exact nodl _ (mE e)
 refine⟨_,rfl,_,.inl ⟨lev,SqL.of ele,rfl⟩,?_⟩;refine ite2 (λ c=>?_) (λ c=>?_)
 ·refine⟨_,λ Ω Ω h=>h,d0,λ hd hhd=>⟨d0,λ dp hdp=>?_⟩⟩
  have ga:=zAC (o:=.lst []) hhd;have gb:=zAC (o:=.lst []) hdp;have hdpW:Hw dp=none:=ga.free hdp;have nhd:hd≠dp:=zAL (zAA (H:=Hw) (a:=hd) (o:=.lst [])) hdp;have ndh:d≠hd:=zAL eod hhd;have ndd:d≠dp:=zAL eod hdpW;refine⟨_,rfl,le,rfl,⟨lev,SqL.of ((ga.trans gb) _ _ ele)⟩,?_⟩;refine zBI (xs:=lev) (λ i σ' H'=>E6 λ(hvs dvs:List V) (hs:List Tr) (ds:List (List Tr)) (wsj:WS) (s6:Option V)=>A8 (σ'=[some (.ref tl),some (.ref d),some (.ref lv),some (.ref le),some (.ref hd),some (.ref dp),s6]) (Sx d Hw H') (H' hd=some (.lst hvs)) (H' dp=some (.lst dvs)) (Paired (Rep H') hs hvs) (Paired (RowR H') ds dvs) (WsR P w H' d wsj) (Lv1 wsi (rows.take i) wsj hs ds)) ?_ ?_ ?_ ?_
  ·exact⟨[],[],[],[],wsi,s6,rfl,.of (ga.trans gb),gb _ _ zAA,zAA,.nil,.nil,hWw.mono (ga.trans gb),.nil⟩
  ·rintro i σ1 H1 _ ⟨hvs,dvs,hs,ds,wsj,s6,rfl,sx,_⟩
   exact SqL.of (sx _ _ (nLd ele) ele)
  ·rintro i x σ1 H1 hx ⟨hvs,dvs,hs,ds,wsj,s6,rfl,sx,eh,ed,pH,pD,hWj,hlv1⟩
   obtain⟨row,er,rr⟩:=zAJ pR hx;have hm:=lM er;have rq:=hrq row hm;have et:=zAO er;have o:=hlv1.ok (λ r hr=>hrq r (nG hr)) hwpw hndw;have o1:=o.hl;have o2:=o.bd;have o3:=o.tt;have o4:=zFk rows (i+1);have o5:=zFk rows i;have tk1:=sx.tk hWw;have rr1:=rr.mono tk1;have hi:i<rows.length:=(lJ.mp er).1;have lt:(rows.take i).length=i:=by rw[mO];omega
   have lh:hvs.length=i:=by rw[zAG pH];omega
   have ld:dvs.length=ds.length:=zAG pD;have lds:=zFP o.q;refine⟨_,rfl,x,row,rfl,rr1,rq.g,λ z H2 g2 hz=>⟨_,rfl,ite2 (λ c=>?_) (λ c=>?_)⟩⟩
   ·have hB:=hz.mp c
    obtain⟨t0,e0,_,_⟩:=id hB;obtain⟨p,us',rfl,hp,pu'⟩:=id (rr1.mono g2.tk);obtain⟨u0,eu0,r0⟩:=zBC pu' e0;have atu:atI us' 0=some u0:=zAP (j:=0) eu0;have eh2:=g2 _ _ eh;refine⟨_,rfl,.inl ⟨rfl,_,SqL.of eh2⟩,_,rfl,p,us',0,_,rfl,rfl,SqT.of hp,atu,hd,hvs,_,rfl,rfl,eh2,zAN (by omega),?_⟩;have k3:Tk H2 (upd H2 hd (.lst (hvs++[u0]))):=Tk.lst eh2;have s3:Sx d Hw (upd H2 hd (.lst (hvs++[u0]))):=(sx.same g2).set hhd;have e3:=@zAA H2 hd (.lst (hvs++[u0]));have d3:(upd H2 hd (.lst (hvs++[u0]))) dp=some (.lst dvs):=by rw[zAK (Ne.symm nhd)];exact g2 _ _ ed
    have w3:WsR P w (upd H2 hd (.lst (hvs++[u0]))) d wsj:=(hWj.mono g2).tkD k3 (zAK ndh);generalize upd H2 hd _=H3 at k3 s3 e3 d3 w3 ⊢;have tk3:=g2.tk.trans k3;refine⟨_,rfl,.inl ⟨rfl,_,SqL.of d3⟩,_,rfl,_,row,rfl,rr1.mono tk3,rq.g,hB,λ l ls H4 g4 hl el pl=>⟨dp,l,dvs,ls,rfl,rfl,g4 _ _ d3,el,zAh ?_,?_⟩⟩
    ·rw[zAG pl,zCu e0,ld]
     have:=zFz e0;have:=zCP t0;omega
    ·have d4:=g4 _ _ d3
     have k5:Tk H4 (upd H4 dp (.lst (dvs++ls))):=Tk.lst d4;refine⟨hvs++[u0],dvs++ls,hs++[t0],ds++rowsW row,wsj,_,rfl,(s3.same g4).set hdpW,by rw[zAK nhd];exact g4 _ _ e3,zAA,?_,?_,(w3.mono g4).tkD k5 (zAK ndd),?_⟩
     ·exact zAM (Paired.mapP pH λ Ω Ω z=>z.mono (tk3.trans (g4.tk.trans k5))) (.cons (r0.mono (k3.trans (g4.tk.trans k5))) .nil)
     ·exact zAM (Paired.mapP pD λ Ω Ω z=>z.mono (tk3.trans (g4.tk.trans k5))) (Paired.mapP pl λ Ω Ω z=>z.mono k5)
     ·rw[et]
      exact hlv1.snocB hB e0
   ·have hB:¬Beg row:=λ z=>c (hz.mpr z)
    have eh2:=g2 _ _ eh;refine⟨_,rfl,.inl ⟨rfl,_,SqL.of eh2⟩,_,rfl,_,rfl,x,d,row,wsj,rfl,rr1.mono g2.tk,rq.pl,hWj.mono g2,o.wp,by omega,λ g ws' v' H3 hg s3 w3 r3=>?_⟩;have eh3:=s3 _ _ (Ne.symm ndh) eh2;have k3:=s3.tk (hWj.mono g2);have k4:Tk H3 (upd H3 hd (.lst (hvs++[v']))):=Tk.lst eh3;have tk4:=g2.tk.trans (k3.trans k4);refine⟨hd,hvs,v',rfl,rfl,eh3,zAN (by omega),?_⟩;refine⟨hvs++[v'],dvs,hs++[.gap g []],ds,ws',_,rfl,((sx.same g2).trans s3).set hhd,zAA,by rw[zAK (Ne.symm nhd)];exact s3 _ _ (Ne.symm ndd) (g2 _ _ ed),?_,Paired.mapP pD λ Ω Ω z=>z.mono tk4,w3.tkD k4 (zAK ndh),?_⟩
    ·exact zAM (Paired.mapP pH λ Ω Ω z=>z.mono tk4) (.cons (r3.mono k4) .nil)
    ·rw[et]
     exact hlv1.snocG hB hg
  ·rintro σ1 H1 ⟨hvs,dvs,hs,ds,wsj,s6,rfl,sx,eh,ed,pH,pD,hWj,hlv1⟩
   rw[lR,mP] at hlv1;have o:=hlv1.ok hrq hwpw hndw;have elv1:=sx _ _ (nLd elv) elv;have nvh:lv≠hd:=zAL elv hhd;have nvd:lv≠dp:=zAL elv hdpW;have ndv:d≠lv:=λ z=>nLd elv z.symm;have b1:=o.bd;have b2:=o.tt
   have hne:1<=rows.length:=by
    cases lev with
    |nil=>exact absurd c (by simp)
    |cons _ _=>rw[←lR];simp
   refine⟨_,rfl,.inl ⟨rfl,_,SqL.of elv1⟩,_,rfl,lv,lvs,_,rfl,rfl,elv1,zAN (by omega),?_⟩;have k2:Tk H1 (upd H1 lv (.lst (lvs++[.ref hd]))):=Tk.lst elv1;refine⟨_,rfl,totR ds,by omega,dp,dvs,ds,lvs++[.ref hd],hs::Lr,wsj,_,_,_,rfl,(sw.trans sx).set hlv,by rw[zAK (Ne.symm nvd)];exact ed,Paired.mapP pD λ Ω Ω z=>z.mono k2,zAA,?_,hWj.tkD k2 (zAK ndv),o.q,o.wp,o.nd,by omega,rfl,by rw[mM];omega,λ ws2 L h=>?_⟩
   ·rw[List.reverse_cons]
    refine zAM (Paired.mapP pL λ Ω Ω z=>z.mono ((sx.tk hWw).trans k2) λ b us n e=>?_) (.cons ⟨hd,hvs,rfl,Ne.symm nvh,by rw[zAK (Ne.symm nvh)];exact eh,Paired.mapP pH λ Ω Ω z=>z.mono k2⟩ .nil);rw[zAK n];exact sx _ _ (nLd e) e
   ·rw[List.reverse_cons,mZ]
    refine hcs ws2 (hs::L) ?_;cases rows with
    |nil=>simp at hne
    |cons r rs=>exact .cons hlv1 h
 ·have er:rows=[]:=by
   cases lev with
   |nil=>exact nM.mp lR.symm
   |cons _ _=>exact absurd rfl c
  subst er;have hc:=hcs wsi [] .nil;rw[nT] at hc;obtain⟨r,e1,_,fit,_,_,_,lh⟩:=hc.tree hQ hwp hnd;rw[List.reverse_reverse] at fit;have e2:=e1;rw[List.reverse_reverse] at e2;refine⟨_,rfl,lv,lvs,Lr,r,rfl,elv,Paired.mapP pL (λ _ _ ⟨l,us,e,_,h,p⟩=>⟨l,us,e,h,p⟩),fit,e2,λ hs hh=>?_,λ v' H' g' r'=>q wsi Lr.reverse r v' H' hc e1 (sw.same g') (hWw.mono g') r'⟩;have:=lh hs (List.mem_reverse.mpr hh);omega
abbrev zAo:Stmt:=top 32
theorem zCe:zAQ ["tree", "kinds", "told", "part"] ["tree", "kinds"] (zAH zAo):=scI
abbrev zDv:Stmt:=top 53
theorem zHi:zAQ ["trees"] ["trees"] (zAH zDv):=scI
abbrev zDH:Stmt:=top 54
theorem zDs:zAQ ["words", "told"] ["words"] (zAH zDH):=scI
def zGz:Sp:=λ vs H Q Ω=>E2 λ(t:Tr) (v:V)=>A5 (vs=[v,.non]) (Rep H t v) (t.size<=60) (Pln t) (∀(z:Bool) (H':Hp),Same H H'->(z=true↔¬loudT t)->Q (.bl z) H')
theorem zKG (F:FunD K "is_quiet" "is_quiet" zAo f fd [.none]) (z_dict:mg "dict" = none) (zNf:mg "LOUD_SIGNS" = some (.ref la)) (hL:zEU K la) (zNg:FnB P w K mg base k "all_parts" g1 gd1 ["tree"] zFv):FnOk P w K mg base CX0 (k+1) f fd ["tree", "kinds"] zGz:=by
 refine F.ok zCe (λ vs H Q E h=>?_) (λ cdv A outer s H vs Q E hr h=>?_)
 ·obtain⟨t,v,rfl,_⟩:=h
  rfl
 obtain⟨t,v,rfl,hR,hsz,hp,q⟩:=h;have hu:=hu_of hr
 refine⟨_,(zAE (pS (i:=2) zCe.nd (zBQ (zE2 rfl) (by rfl) z_dict PyProof.Rows.boot_dict (zAB (zM4 (pv 1) (zB0 (zLs zAD))) zAD)))
  (zAE (zA5 PassesOwn.never rfl (zAs (pe_cl zNg hr (zAB (pv 0) zAD))) (pGn (i:=3) zCe.nd) (zAF (ps_if (pw_or (zAR (r:=rIn K false) zBf (iC (r:=rIxT K) zAS (pv 3)) (zBB (v:=.ref _) (by rfl) zNf (by rfl)) rfl) (zD1 (zD2 (zAR op_eq (iC (r:=rIxT K) zAS (pv 3)) zAX (zAW _)) (zCj (zAR (zD9 hu) (iC (r:=rIxT K) zAS (pv 3)) (pv 2) rfl))).pt)).pt (zAF (zAV pe_bl)) zAY)))
  (zAF (zAV pe_bl)))),?_⟩
 refine⟨_,rfl,false,rfl,iteF ⟨lY _,λ p o hpn ho=>?_⟩⟩;refine⟨p,o,[],[],rfl,zAA,ho,.nil,lY _,λ d hd=>?_⟩;have g1:=(zAC (o:=.frz o (.tup [])) hpn).trans (zAC (o:=.dK (zB1 [] [])) hd);refine⟨_,rfl,t,v,rfl,hR.mono g1.tk,hsz,λ l us F H2 g2 el pF hF=>⟨l,rfl,⟨us,SqL.of el⟩,?_⟩⟩;have g12:=g1.trans g2;refine zBI (xs:=us) (λ i σ' H'=>∃(s3:Option V),A3 (σ'=[some v,some .non,some (.ref d),s3]) (Same H2 H') (∀p∈F.take i,p.kd.loud=false)) ⟨none,rfl,.refl _,(λ p hp=>nomatch hp)⟩ ?_ ?_ ?_
 ·rintro i σ' H' _ ⟨s3,rfl,g,_⟩
  exact SqL.of (g _ _ el)
 ·rintro i x σ' H' hx ⟨s3,rfl,g,hn⟩
  obtain⟨tq,eq,rq⟩:=zAJ pF hx;have hmem:tq∈t.subs:=hF.mem_iff.mp (lM eq);obtain⟨pa,hs,us',rfl,hpa,hhl,hparts⟩:=(rq.mono g.tk).all;have at0:atI (V.str tq.kd.s::hs++us') 0=some (.str tq.kd.s):=zAP (j:=0) rfl;refine⟨_,rfl,pa,_,0,_,rfl,rfl,SqT.of hpa,at0,la,loudV,rfl,.inr (.inr hL),rfl,rfl,_,rfl,?_⟩;show if inV (.str tq.kd.s) loudV=true then _ else _
  rw[zJF];refine ite2 (λ c=>?_) (λ c=>?_)
  ·exact iteT (q false H' (g12.trans g) ⟨(λ z=>nomatch z),λ z=>(z ⟨tq,hmem,c⟩).elim⟩)
  refine⟨_,rfl,pa,_,0,_,rfl,rfl,SqT.of hpa,at0,rfl,_,rfl,ite2 (λ c2=>?_) (λ c2=>?_)⟩
  ·exact absurd (Kd.eq_iff.mp (lT c2)) (hp.sub tq hmem).ng
  ·refine iteF ⟨_,rfl,g,λ p hpp=>?_⟩
   rw[zAO eq] at hpp;rcases lK.mp hpp with z|z
   ·exact hn p z
   ·rw[mR.mp z]
    simpa using c
 ·rintro σ' H' ⟨s3,rfl,g,hn⟩
  have lu:us.length=F.length:=zAG pF;rw[lu,mP] at hn;refine q true H' (g12.trans g) ⟨λ Ω=>?_,λ Ω=>rfl⟩;rintro⟨p,hpp,e⟩;rw[hn p (hF.mem_iff.mpr hpp)] at e;cases e
def zIP:Sp:=λ vs H Q Ω=>E2 λ(v:V) (ts:List Tr)=>A4 (vs=[v]) (RowR H ts v) (RowP ts) (∀H',Same H H'->Q (optV (kindF ts)) H')
theorem zL5 (F:Fun K "kind_of" "kind_of" zDv f fd) (z_all:mg "all" = none) (zOC:FnD1 P w K mg base k "is_quiet" g1 gd1 ["tree", "kinds"] zGz):FnOk P w K mg base CX0 (k+1) f fd ["trees"] zIP:=by
 refine F.ok zHi (λ vs H Q E h=>?_) (λ cdv A outer s H vs Q E hr h=>?_)
 ·obtain⟨v,ts,rfl,_⟩:=h
  rfl
 obtain⟨v,ts,rfl,⟨p,us,rfl,hp,pu⟩,hP,q⟩:=h
 refine⟨_,(zAE (ps_if (zCv (zAd (zER rfl) (by rfl) z_all PyProof.Rows.boot_all (zAB (zAq ["tree"] [none] rfl (zCH (pv 0)) (λ Ω Ω Ω Ω Ω=>(zAf (i:=0) (show List.Nodup (["tree"]:List Str) by symm) rfl (Or.inl rfl))) (λ Ω Ω Ω Ω Ω=>zBA) (λ Ω Ω Ω Ω Ω=>(zAn op_eq (iC (r:=rIxT K) zAS (pv 0)) zAX (zAW _))) rfl) zAD))) (zAF (zAV zAX)) zAY)
  (zAE (ps_if (zCv (zAd (zER rfl) (by rfl) z_all PyProof.Rows.boot_all (zAB (zAq ["tree"] [none] rfl (zCH (pv 0)) (λ Ω Ω Ω Ω Ω=>(zAf (i:=0) (show List.Nodup (["tree"]:List Str) by symm) rfl (Or.inl rfl))) (λ Ω Ω Ω Ω Ω=>zBA) (λ Ω Ω Ω Ω Ω=>(zD5 zOC.ok hr (by rfl) zOC.gl zOC.kp zOC.bd1 zLR pass0 (zAB (pv 0) zAD))) rfl) zAD))) (zAF (zAV zAX)) zAY)
  (zAF (zAV zK9)))),?_⟩
 have lu:us.length=ts.length:=zAG pu;have l10:=hP.fw;refine⟨_,rfl,p,rfl,⟨us,SqT.of hp⟩,λ acc hacc=>?_⟩;refine zBi (xs:=us) (λ j H'=>Same H H'/\H' acc=some (.lst (((ts.take j).map λ t=>decide (t.kd = .num)).map V.bl))) ⟨zAC hacc,zAA⟩ (λ j H' Ω h=>SqT.of (h.1 _ _ hp)) ?_ ?_
 ·rintro j x Hx hxj ⟨gx,ex⟩
  obtain⟨t,ht,rt⟩:=zAJ pu hxj;have hj:j<ts.length:=(lJ.mp ht).1;obtain⟨a0,hs0,us0,rfl,ha0,_,_⟩:=(rt.mono gx.tk).all;have at0:atI (V.str t.kd.s::hs0++us0) 0=some (.str t.kd.s):=zAP (j:=0) rfl;refine⟨.skip .nil,_,rfl,a0,_,0,_,rfl,rfl,SqT.of ha0,at0,rfl,_,ex,zAN (by simp;omega),zAU gx hacc,?_⟩;rw[zAA,zAO ht,mQ,mQ]
  have e:decide (V.str t.kd.s=V.str "num")=decide (t.kd = .num):=by
   rw[decide_eq_decide];exact Kd.eq_iff (b:=.num)
  rw[e];rfl
 ·rintro H2 ⟨g2,e2⟩
  rw[lu,mP] at e2;refine⟨acc,_,rfl,e2,_,rfl,ite2 (λ c=>?_) (λ c=>?_)⟩
  ·have e:kindF ts=some "number" := by
    unfold kindF;refine if_pos λ t ht=>?_;rw[List.all_map,List.all_eq_true] at c;simpa using c t ht
   have:=q H2 g2;rw[e] at this;exact this
  ·have n1:¬∀t∈ts,t.kd = .num:=λ z=>c (by
    rw[List.all_map,List.all_eq_true];intro t ht;simpa using z t ht)
   refine⟨_,rfl,p,rfl,⟨us,SqT.of (g2 _ _ hp)⟩,λ acc2 hacc2=>?_⟩;refine zBi (xs:=us) (λ j H'=>Same H2 H'/\∃bs:List Bool,H' acc2=some (.lst (bs.map V.bl))/\bs.length=j/\(bs.all id=true↔∀u∈ts.take j,¬loudT u)) ⟨zAC hacc2,[],zAA,rfl,by simp⟩ (λ j H' Ω h=>SqT.of (h.1 _ _ (g2 _ _ hp))) ?_ ?_
   ·rintro j x Hx hxj ⟨gx,bs,ex,lb,hb⟩
    obtain⟨t,ht,rt⟩:=zAJ pu hxj;have hj:j<ts.length:=(lJ.mp ht).1;have hm:=lM ht;refine⟨.skip .nil,_,rfl,t,x,rfl,rt.mono (g2.trans gx).tk,(hP.al t hm).2.2,(hP.al t hm).1,λ z Hy gy hz=>?_⟩;refine⟨_,gy _ _ ex,zAN (by simp;omega),zAU (gx.trans gy) hacc2,bs++[z],?_,by simp[lb],?_⟩
    ·rw[zAA,mQ]
     rfl
    ·rw[List.all_append,Bool.and_eq_true,hb,zAO ht]
     constructor
     ·rintro⟨h1,h2⟩ u hu
      rcases lK.mp hu with h|h
      ·exact h1 u h
      ·rw[mR.mp h]
       exact hz.mp (by simpa using h2)
     ·intro h
      exact⟨λ u hu=>h u (mF _ hu),by simpa using hz.mpr (h t (by simp))⟩
   ·rintro H3 ⟨g3,bs,e3,lb,hb⟩
    rw[lu,mP] at hb;refine⟨acc2,bs,rfl,e3,_,rfl,ite2 (λ c2=>?_) (λ c2=>?_)⟩
    ·have e:kindF ts=some "quiet" := by
      unfold kindF;rw[if_neg n1];exact if_pos (hb.mp c2)
     have:=q H3 (g2.trans g3);rw[e] at this;exact this
    ·have e:kindF ts=none:=by
      unfold kindF;rw[if_neg n1];exact if_neg λ z=>c2 (hb.mpr z)
     have:=q H3 (g2.trans g3);rw[e] at this;exact this
def zG4 (P:Program) (w:World):Sp:=λ vs H Q Ω=>E2 λ(d:Addr) (ws:WS)=>A6 (vs=[.ref d]) (WsR P w H d ws) (∀q∈ws,RowP q.1) (WsN ws) (ws.length<64) (∀(ks:List (Str × Str)) (v':V) (H':Hp),ks.Perm (ksOf ws)->Sx d H H'->RpKs H' ks v'->Q v' H')
theorem zKM (F:Fun K "kinds_of" "kinds_of" zDH f fd) (z_tuple:mg "tuple" = none) (z_sorted:mg "sorted" = none) (zOD:FnB P w K mg base k "kind_of" g1 gd1 ["trees"] zIP):FnOk P w K mg base CX0 (k+1) f fd ["words"] (zG4 P w):=by
 refine F.ok zDs (λ vs H Q E h=>?_) (λ cdv A outer s H vs Q E hr h=>?_)
 ·obtain⟨d,ws,rfl,_⟩:=h
  rfl
 obtain⟨d,ws,rfl,hW,hwp,hnd,hl,q⟩:=h;have hu5:=hu150 hr
 refine⟨_,(zAE (zFE (jj:=1) ["trees", "words"] [none,some 0] rfl (zJ7 (pv 0)) (λ Ω Ω Ω Ω Ω=>(zAf (i:=0) (show List.Nodup (["trees", "words"]:List Str) by symm) rfl (Or.inl rfl))) (λ Ω Ω Ω Ω Ω=>zBA) (λ Ω Ω Ω Ω Ω=>(zAv (zAB (zKA P w rfl rfl hu5 (pv 1) (pv 0) (λ Ω Ω=>rfl)) (zAB (pe_cl zOD hr (zAB (pv 0) zAD)) zAD)):PE _ _ _)) rfl zDs.nd rfl (Or.inl rfl) (Or.inr rfl))
  (zAF (zAV (zBQ zGq (by rfl) z_tuple rO (zAB (zAd (zGI hu5) (by rfl) z_sorted PyProof.Rows.boot_sorted (zAB (zAq ["pair"] [none] rfl (zAs (pv 1)) (λ Ω Ω Ω Ω Ω=>(zAf (i:=0) (show List.Nodup (["pair"]:List Str) by symm) rfl (Or.inl rfl))) (λ Ω Ω Ω Ω Ω=>(zDJ (zAR zLv (iC (r:=rIxT K) zAS (pv 0)) zK9 (zAW _)))) (λ Ω Ω Ω Ω Ω=>(pv 0)) rfl) zAD)) zAD))))),?_⟩
 refine viaN λ N hN=>?_
 have fin:∀(tl:Addr) (tvs:List V) (H1:Hp),Sx d H H1->H1 tl=some (.lst tvs)->Paired (TxV H1) (ws.map txOf) tvs->N [some (.ref d),some (.ref tl)] H1:=λ tl tvs H1 sx et pt=>hN _ _ (by
  have lt:tvs.length=ws.length:=by rw[zAG pt,mD]
  refine⟨_,rfl,tl,rfl,⟨tvs,SqL.of et⟩,λ acc hacc=>?_⟩;refine zA0 (xs:=tvs) (λ j H'=>Same H1 H'/\∃zs:List V,H' acc=some (.lst zs)/\zs.length<=j/\Paired (TxV H') (((ws.map txOf).take j).filter notN) zs) ⟨zAC hacc,[],zAA,lQ _,.nil⟩ (λ j H' Ω h=>SqL.of (h.1 _ _ et)) ?_ ?_
  ·rintro j x Hx hxj ⟨gx,zs,ez,lz,pz⟩
   obtain⟨p,ep,b,rfl,hb⟩:=zAJ pt hxj;have hj:=(lJ.mp hxj).1;refine⟨.skip .nil,_,rfl,b,_,1,_,rfl,rfl,SqT.of (gx _ _ hb),zAP (j:=1) rfl,rfl,_,rfl,ite2 (λ c=>?_) (λ c=>?_)⟩
   ·refine⟨_,rfl,zs,ez,zAN (by omega),zAU gx hacc,zs++[.ref b],zAA,by simp;omega,?_⟩
    rw[zAO ep,List.filter_append];have:List.filter notN [p]=[p]:=by rw[List.filter_cons,if_pos (show notN p=true from c)];rfl
    rw[this];exact zAM (Paired.mapP pz λ Ω Ω z=>z.mono (Tk.lst ez)) (.cons ⟨b,rfl,Tk.lst ez _ _ (gx _ _ hb)⟩ .nil)
   ·refine⟨gx,zs,ez,by omega,?_⟩
    rw[zAO ep,List.filter_append];have:List.filter notN [p]=[]:=by rw[List.filter_cons,if_neg (show ¬notN p=true from c)];rfl
    rw[this,nT];exact pz
  ·rintro H2 ⟨g2,zs,ez,lz,pz⟩
   have ltl:tvs.length=(ws.map txOf).length:=by rw[lt,mD]
   rw[ltl,mP] at pz
   have lf:((ws.map txOf).filter notN).length<=ws.length:=by
    have:=List.length_filter_le notN (ws.map txOf);rw[mD] at this;exact this
   have nd:(((ws.map txOf).filter notN).map (·.1)).Nodup:=by
    have e:(ws.map txOf).map (·.1)=ws.map (·.2):=by rw[nW];rfl
    have n:=hnd.w;rw[←e] at n;exact n.sublist (List.filter_sublist.map _)
   refine⟨acc,zs,_,rfl,ez,pz,nd,by omega,λ l' us qs hl' pq perm=>⟨l',us,rfl,SqL.of zAA,λ l o hll ho=>?_⟩⟩;have g3:=zAC (o:=.lst us) hl';have g4:=zAC (o:=.frz o (.tup us)) hll;obtain⟨b1,b2⟩:=zMG ws;refine q (qs.map bkK) (.ref l) _ (by rw[←b1];exact perm.map _) (sx.same (g2.trans (g3.trans g4))) ⟨l,o,us,rfl,zAA,ho,?_⟩;exact zMq (g3.trans g4).tk pq λ p hp=>b2 p (perm.mem_iff.mp hp))
 rcases id hW with ⟨xs,exs,hd,keys,hxl⟩|⟨hd,ews⟩
 ·refine⟨_,rfl,d,rfl,.inl ⟨xs,hd,λ o acc hacc=>?_⟩⟩
  have sx0:Sx d H (upd H d (.frz o (dN P w d xs))):=(Sx.of (Same.refl H)).own
  have hacc0:H acc=none:=by
   rw[zAK (λ z=>by rw[z,zAA] at hacc;cases hacc)] at hacc;exact hacc
  have nad:d≠acc:=zAL hd hacc0
  have lw:xs.length=ws.length:=by
   have:=congrArg List.length exs;unfold prs at this;rw[mD,mD] at this;exact this.symm
  refine zH6 (λ i H'=>Sx d H H'/\H' d=some (.frz o (dN P w d xs))/\∃zs:List V,H' acc=some (.lst zs)/\zs.length=i/\Paired (TxV H') ((ws.take i).map txOf) zs) ⟨sx0.set hacc0,by rw[zAK nad];exact zAA,[],zAA,rfl,.nil⟩ (λ i H' Ω h=>h.2.1) ?_ ?_
  ·rintro i p H1 hp ⟨sx,ed,zs,ez,lz,pz⟩
   have tk1:=sx.tk hW;have hi:=(lJ.mp hp).1
   obtain⟨qq,eq,ek⟩:∃q,ws[i]?=some q/\kvW q=(p.1,p.2.2):=by
    have:(prs xs)[i]?=some (p.1,p.2.2):=by unfold prs;rw[mJ,hp];rfl
    rw[←exs,mJ] at this;obtain⟨q,h1,h2⟩:=lV.mp this;exact⟨q,h1,h2⟩
   obtain⟨k1,k2⟩:=Prod.mk.inj ek;have hm:=lM eq;obtain⟨dr,dp⟩:=keys p (lM hp);rw[←k1] at dr dp;have rw1:=zMr (dr.mono tk1) (hwp qq hm);refine⟨.skip (.keep .nil),_,rfl,_,rfl,d,dtRow qq.1,.str qq.2,ws.map kvW,rfl,⟨xs,exs,.inr ⟨o,ed⟩,keys.mono tk1,hxl⟩,⟨p.2.1,rfl,dr.mono tk1,dp⟩,zMZ hnd hwp hm,?_⟩;refine⟨_,rfl,_,qq.1,rfl,rw1,hwp qq hm,λ H2 g2=>⟨(by show 2<=sizeLine;decide),λ tp htp=>?_⟩⟩;have g3:=zAC (o:=.tup [.str qq.2,optV (kindF qq.1)]) htp;have gA:=g2.trans g3;have ez3:=gA _ _ ez;refine⟨zs,ez3,zAN (by omega),(sx.same gA).set hacc0,by rw[zAK nad];exact gA _ _ ed,zs++[.ref tp],zAA,by simp[lz],?_⟩;rw[zAO eq,mQ];exact zAM (Paired.mapP pz λ Ω Ω z=>z.mono (gA.tk.trans (Tk.lst ez3))) (.cons ⟨tp,rfl,Tk.lst ez3 _ _ zAA⟩ .nil)
  ·rintro H2 ⟨sx,ed,zs,ez,lz,pz⟩
   rw[lw,mP] at pz;exact fin acc zs H2 sx ez pz
 ·have e0:ws=[]:=List.map_eq_nil_iff.mp ews
  subst e0;refine⟨_,rfl,d,rfl,.inr ⟨hd,λ o acc hacc=>?_⟩⟩
  have hacc0:H acc=none:=by
   rw[zAK (λ z=>by rw[z,zAA] at hacc;cases hacc)] at hacc;exact hacc
  have nad:d≠acc:=zAL hd hacc0;refine zE1 (kvs:=[]) (λ i H'=>Sx d H H'/\H' d=some (.frz o (.dK []))/\H' acc=some (.lst [])) ⟨((Sx.of (Same.refl H)).own).set hacc0,by rw[zAK nad];exact zAA,zAA⟩ (λ i H' Ω h=>h.2.1) ?_ ?_
  ·rintro i p H1 hp _
   cases hp
  ·rintro H2 ⟨sx,_,ez⟩
   exact fin acc [] H2 sx ez .nil
abbrev zDE:Stmt:=top 55
theorem zBa:zAQ ["pairs", "words", "left", "right", "rule"] ["pairs"] (zAH zDE):=scI
def zIN (cN D:Addr):Sp:=λ vs H Q E=>E3 λ(l:Addr) (us:List V) (ps:List (Tr × Tr))=>A7 (vs=[.ref l]) (H l=some (.lst us)) (Paired (PrR H) ps us) (∀q∈ps,q.1.size<=60/\q.2.size<=60) (PrOk ps->PrG ps) (¬PrOk ps->∀H',Same H H'->E (.ref cN) none H')
 (PrOk ps->∀b,RdO ps b->(b=true->∀(p:Addr) (x y z:V) (H':Hp),Same H H'->H' p=some (.tup [x,y,z])->Q (.ref p) H')/\(b=false->∀H',Same H H'->E (.ref D) none H'))
theorem zKS (F:Fun K "read_off" "read_off" zDE f fd) (zOE:FnF P w K mg base k "check_pairs" g1 gd1 ["pairs"] (zG8 cN)) (zOF:FnB P w K mg base k "common_shape" g2 gd2 ["trees", "words"] (zFu P w))
  (zOG:FnB P w K mg base k "kinds_of" g3 gd3 ["words"] (zG4 P w)) (zOH:FnG P w K mg base k "form" g4 gd4 ["rule"] (zGU D)):FnOk P w K mg base (CXF P w) (k+1) f fd ["pairs"] (zIN cN D):=by
 refine F.okF zBa (λ vs H Q E h=>?_) (λ cdv A outer s H vs Q E hr h=>?_)
 ·obtain⟨l,us,ps,rfl,_⟩:=h
  rfl
 obtain⟨l,us,ps,rfl,el,pu,hz,hG,qe,qo⟩:=h
 refine⟨_,(zAE (zBw (zD5 zOE.ok hr (by rfl) zOE.gl zOE.kp zOE.bd .nil zHU (zAB (pv 0) zAD)))
  (zAE (pS (i:=1) zBa.nd zFH)
  (zAE (pS (i:=2) zBa.nd (pe_cl zOF hr (zAB (zAq ["before", "behind"] [none,none] rfl (zAs (pv 0)) (λ Ω Ω Ω Ω Ω=>(zFF (K:=K) (n:=2) rfl rfl (zAZ (zAf (i:=0) (show List.Nodup (["before", "behind"]:List Str) by symm) rfl (Or.inl rfl)) (zAZ (zAf (i:=1) (show List.Nodup (["before", "behind"]:List Str) by symm) rfl (Or.inl rfl)) zBL)))) (λ Ω Ω Ω Ω Ω=>zBA) (λ Ω Ω Ω Ω Ω=>(pv 0)) rfl) (zAB (pv 1) zAD))))
  (zAE (pS (i:=3) zBa.nd (pe_cl zOF hr (zAB (zAq ["before", "behind"] [none,none] rfl (zAs (pv 0)) (λ Ω Ω Ω Ω Ω=>(zFF (K:=K) (n:=2) rfl rfl (zAZ (zAf (i:=0) (show List.Nodup (["before", "behind"]:List Str) by symm) rfl (Or.inl rfl)) (zAZ (zAf (i:=1) (show List.Nodup (["before", "behind"]:List Str) by symm) rfl (Or.inl rfl)) zBL)))) (λ Ω Ω Ω Ω Ω=>zBA) (λ Ω Ω Ω Ω Ω=>(pv 1)) rfl) (zAB (pv 1) zAD))))
  (zAE (pS (i:=4) zBa.nd (zAv (zAB (pv 2) (zAB (pv 3) (zAB (pe_cl zOG hr (zAB (pv 1) zAD)) zAD))):PE _ _ _))
  (zAE (zBw (zD5 zOH.ok hr (by rfl) zOH.gl zOH.kp zOH.bd .nil zJd (zAB (pv 4) zAD)))
  (zAF (zAV (pv 4))))))))),?_⟩
 have lu:us.length=ps.length:=zAG pu;refine⟨_,rfl,l,us,ps,rfl,el,pu,hz,(λ ok H1 g1=>?_),qe⟩;have hG:=hG ok;obtain⟨rq1,z1⟩:=hG.q1 ok;obtain⟨rq2,z2⟩:=hG.q2 ok;have l8:=ok.2.1;refine λ d hd=>?_;have g2:=zAC (o:=.dK []) hd;have hd0:H d=none:=g1.free hd;have g02:=g1.trans g2;have W0:WsR P w (upd H1 d (.dK [])) d []:=.inr ⟨zAA,rfl⟩;generalize upd H1 d _=H2 at g2 g02 W0 ⊢;have nld:l≠d:=λ z=>by rw[z,hd0] at el;cases el
 have el2:=g02 _ _ el;have pu2:=Paired.mapP pu λ Ω Ω z=>PrR.mono g02.tk z;refine⟨_,rfl,l,rfl,⟨us,SqL.of el2⟩,λ acc hacc=>?_⟩;refine zA0 (xs:=us) (λ j H'=>Same H2 H'/\∃zs:List V,H' acc=some (.lst zs)/\Paired (Rep H') ((ps.take j).map (·.1)) zs) ⟨zAC hacc,[],zAA,.nil⟩ (λ j H' Ω h=>SqL.of (h.1 _ _ el2)) ?_ ?_
 ·rintro j x Hx hxj ⟨gx,zs,ez,pz⟩
  obtain⟨pq,ep,pa,a,b,rfl,hp,ra,rb⟩:=zAJ pu2 hxj;have hj:=(lJ.mp hxj).1;have lz:=zAG pz;rw[mD,mO] at lz;refine⟨pa,_,rfl,SqT.of (gx _ _ hp),rfl,_,_,rfl,_,_,rfl,rfl,.skip (.skip .nil),_,rfl,zs,ez,zAN (by omega),zAU gx hacc,zs++[a],zAA,?_⟩;rw[zAO ep,mQ];exact zAM (Paired.mapP pz λ Ω Ω z=>z.mono (Tk.lst ez)) (.cons ((ra.mono gx.tk).mono (Tk.lst ez)) .nil)
 rintro H3 ⟨g3,zs,ez,pz⟩;rw[lu,mP] at pz;refine⟨_,rfl,acc,d,zs,ps.map (·.1),[],rfl,ez,pz,rq1,W0.mono g3,(λ q hq=>nomatch hq),wsN0,(by show 0+_<=150;omega),λ ws1 L1 t v1 H4 c1 e1 x4 W4 r4=>?_⟩
 obtain⟨t',f1,sh1,_,wp1,nd1,bd1,_⟩:=c1.tree rq1 (λ q hq=>nomatch hq) wsN0
 rw[e1] at f1;cases f1;have bd1':ws1.length<=30:=by have:ws1.length<=0+_:=bd1;omega
 have x24:Sx d H2 H4:=(Sx.of g3).trans x4;have tk24:=x24.tk W0;have el4:=x24 _ _ nld el2;refine⟨_,rfl,l,rfl,⟨us,SqL.of el4⟩,λ ac2 hac2=>?_⟩;refine zA0 (xs:=us) (λ j H'=>Same H4 H'/\∃zs:List V,H' ac2=some (.lst zs)/\Paired (Rep H') ((ps.take j).map (·.2)) zs) ⟨zAC hac2,[],zAA,.nil⟩ (λ j H' Ω h=>SqL.of (h.1 _ _ el4)) ?_ ?_
 ·rintro j x Hx hxj ⟨gx,zs,ez,pz⟩
  obtain⟨pq,ep,pa,a,b,rfl,hp,ra,rb⟩:=zAJ pu2 hxj;have hj:=(lJ.mp hxj).1;have lz:=zAG pz;rw[mD,mO] at lz;refine⟨pa,_,rfl,SqT.of (gx _ _ (tk24 _ _ hp)),rfl,_,_,rfl,_,_,rfl,rfl,.skip (.skip .nil),_,rfl,zs,ez,zAN (by omega),zAU gx hac2,zs++[b],zAA,?_⟩;rw[zAO ep,mQ];exact zAM (Paired.mapP pz λ Ω Ω z=>z.mono (Tk.lst ez)) (.cons ((rb.mono (tk24.trans gx.tk)).mono (Tk.lst ez)) .nil)
 rintro H5 ⟨g5,zs2,ez2,pz2⟩;rw[lu,mP] at pz2;refine⟨_,rfl,ac2,d,zs2,ps.map (·.2),ws1,rfl,ez2,pz2,rq2,W4.mono g5,wp1,nd1,by omega,λ ws2 L2 u v2 H6 c2 e2 x6 W6 r6=>?_⟩;obtain⟨u',f2,sh2,_,wp2,nd2,bd2,_⟩:=c2.tree rq2 wp1 nd1;rw[e2] at f2;cases f2;have x46:Sx d H4 H6:=(Sx.of g5).trans x6;have r46:=r4.mono (x46.tk W4);refine⟨_,rfl,_,rfl,_,rfl,d,ws2,rfl,W6,wp2,nd2,by omega,λ ks v3 H7 pm x7 rk=>⟨(by show 3<=sizeLine;decide),λ p hp=>?_⟩⟩;have tk7:=x7.tk W6;have g8:=zAC (o:=.tup [v1,v2,v3]) hp;have gAll:Same H (upd H7 p (.tup [v1,v2,v3])):=Sx.out g02 hd0 ((x24.trans (x46.trans x7)).same g8);have hF:RdF ps t u ks:=⟨ws1,L1,ws2,L2,c1,e1,c2,e2,pm⟩;have nk:(ks.map (·.1)).Nodup:=((pm.map (·.1)).nodup_iff).mpr (nd2.w.sublist (zF7 ws2))
 have lk:ks.length<=60:=by
  have:=(zF7 ws2).length_le;rw[mD,mD] at this;rw[pm.length_eq];omega
 have hR:RuR (upd H7 p (.tup [v1,v2,v3])) p t u ks:=⟨⟨v1,v2,v3,⟨zAA,(r46.mono tk7).mono g8.tk,(r6.mono tk7).mono g8.tk,by have:=sh1.2;omega,by have:=sh2.2;omega,sh1.1.cnt,sh2.1.cnt⟩,rk.mono g8⟩,λ x hx g as e=>by subst e;rw[sh1.1.gap hx];decide,nk,lk,[],by decide,by rw[sh1.1.fv];simp,by rw[sh2.1.fv];simp⟩;refine⟨_,rfl,p,t,u,ks,rfl,hR,λ r hdue=>?_⟩;cases r with
 |none=>exact λ H9 g9=>⟨_,rfl,(qo ok true ⟨t,u,ks,none,hF,hdue,rfl⟩).1 rfl p v1 v2 v3 H9 (gAll.trans g9) (g9 _ _ zAA)⟩
 |some x=>exact λ dx H9 g9 Ω=>(qo ok false ⟨t,u,ks,some x,hF,hdue,rfl⟩).2 rfl H9 (gAll.trans g9)
abbrev zB7:Stmt:=top 57
theorem zEX:zAQ ["_law_script", "_law_k"] ["_law_script", "_law_k"] (zAH zB7):=scI
abbrev zDG:Stmt:=top 58
theorem zBb:zAQ ["_law_cell", "_law_letters", "_law_word_here", "_law_j"] ["_law_cell"] (zAH zDG):=scI
abbrev zCX:Stmt:=top 59
theorem zBK:zAQ ["_law_cells", "_law_deep", "_law_cell", "_law_at", "_law_one", "_law_other", "_law_sign"] ["_law_cells", "_law_deep"] (zAH zCX):=scI
def zEj (K:W.Frag):Sp:=λ vs H Q Ω=>E3 λ(a:Addr) (ns:List Int) (k:Int)=>A4 (vs=[.ref a,.int k]) (SqL K H a (ns.map V.int)) (0<=k) (∀i:Int,Q (.int i) H)
theorem zHv (F:Fun K "_law_cell_at" "_law_cell_at" zB7 f fd) (z_len:mg "len" = none):FnOk P w K mg base CX0 (k+1) f fd ["_law_script", "_law_k"] (zEj K):=by
 refine F.ok zEX (λ vs H Q E h=>?_) (λ cdv A outer s H vs Q E hr h=>?_)
 ·obtain⟨a,ns,k,rfl,_⟩:=h
  rfl
 obtain⟨a,ns,k,rfl,hS,h0,q⟩:=h
 refine⟨_,(zAE (ps_if (zAR op_lt (pv 1) (cL z_len (zAB (pv 0) zAD)) (zAW _)) (zAF (zAV (pe_ix (r:=rIxL K) zBx (pv 0) (pv 1) (λ Ω Ω=>rfl)))) zAY)
  (zAF (zAV zAI))),?_⟩
 refine⟨_,rfl,_,rfl,a,_,rfl,.inl hS,_,_,rfl,rfl,_,rfl,?_⟩;refine ite2 (λ c=>?_) (λ c=>?_)
 ·have c':k<((ns.map V.int).length:Int):=lT c
  obtain⟨v,hv,e⟩:=zJm h0 c';obtain⟨i,_,rfl⟩:=mC.mp hv;exact⟨_,rfl,_,rfl,a,_,k,_,rfl,rfl,hS,e,q i⟩
 ·exact q 0
def zE7:Sp:=λ vs H Q Ω=>∃(c:Int),vs=[.int c]/\∀(x:Str) (H':Hp),Same H H'->Q (.str x) H'
theorem zKJ (F:Fun K "_law_word" "_law_word" zDG f fd) (z_range:mg "range" = none):FnOk P w K mg base CX0 (k+1) f fd ["_law_cell"] zE7:=by
 refine F.ok zBb (λ vs H Q E h=>?_) (λ cdv A outer s H vs Q E hr h=>?_)
 ·obtain⟨c,rfl,_⟩:=h
  rfl
 obtain⟨c,rfl,q⟩:=h
 refine⟨_,(zAE (pS (i:=1) zBb.nd zAX)
  (zAE (pS (i:=2) zBb.nd zAX)
  (zAE (zA5 PassesOwn.never rfl (zCz (by rfl) z_range (zAB (pe_op zC0 zAI (pe_op zBE (pv 0) zAI)) zAD)) (pGn (i:=3) zBb.nd) (zAF (pS (i:=2) zBb.nd (pe_op zDL (pv 2) (pe_ix zJA (pv 1) (pe_op zBE (pe_op zBM (pv 0) (pe_op zC0 zAI (pe_op zEq zAI (pv 3)))) zAI) (λ Ω Ω=>rfl))))))
  (zAE (ps_if (zAR (r:=rIn K false) zBf (pv 2) (zLr [.str "let", .str "in", .str "if", .str "then", .str "else", .str "say", .str "ask", .str "stop", .str "where", .str "quiet", .str "number"] (by rfl):PE _ _ _) rfl) (zAF (zAV (pe_op zDL zAX (zA8 zMn (pv 2) (zA4 zAI) zCO)))) zAY)
  (zAF (zAV (pv 2))))))),?_⟩
 have hLlen:abcS.length=26:=zGs;have hLl:((abcS.cps.toList).length:Int)=26:=by show (abcS.cps.toList.length:Int)=26;rw[Array.length_toList];exact congrArg _ hLlen
 refine⟨_,rfl,_,_,rfl,rfl,(show (0:Int)<8 by decide),_,_,rfl,rfl,1+c % 8,rfl,by omega,by omega,?_⟩;refine zEM (n:=(1+c % 8).toNat) (λ i σ' H'=>E2 λ(x:Str) (s3:Option V)=>A3 (σ'=[some (.int c),some (.str abcS),some (.str x),s3]) (H'=H) (x.length=i)) ?_ ?_ ?_
 ·exact⟨_,none,rfl,rfl,by symm⟩
 ·rintro i σ1 H1 hi ⟨x,s3,rfl,rfl,hx⟩
  obtain⟨ch,hch,e1⟩:=zJm (xs:=abcS.cps.toList) (i:=(c / (9+4 * (0+(i:Int)))) % 26) (by omega) (by omega);refine⟨_,rfl,_,rfl,_,rfl,_,rfl,_,_,rfl,rfl,.inl ⟨(by decide),(by decide)⟩,_,_,rfl,rfl,_,_,rfl,rfl,⟨(by omega),(by omega)⟩,_,_,rfl,rfl,(show (0:Int)<26 by decide),abcS,_,ch,rfl,rfl,zAh (by rw[hLlen];decide),e1,_,_,rfl,rfl,zAh ?_,?_⟩
  ·show x.length+1<=1000
   omega
  ·refine⟨_,_,rfl,rfl,?_⟩
   have:(x++(⟨#[ch]⟩:Str)).length=x.length+1:=by
    show (x.cps++#[ch]).size=x.cps.size+1;simp
   omega
 ·rintro σ1 H1 ⟨x,s3,rfl,rfl,hx⟩
  refine⟨_,rfl,(by show 11<=sizeLine;decide),λ p hp=>⟨p,_,rfl,.inr (SqT.of zAA),rfl,rfl,_,rfl,?_⟩⟩;refine ite2 (λ hin=>?_) (λ hin=>?_)
  ·refine⟨_,rfl,_,rfl,x,rfl,zAh (by omega),λ hle=>⟨_,_,rfl,rfl,zAh ?_,q _ _ (zAC hp)⟩⟩
   have:(Str.ofString "m").length=1:=by symm
   omega
  ·exact⟨_,rfl,q _ _ (zAC hp)⟩
def zDB (K:W.Frag) (n:Nat):Sp:=λ vs H Q Ω=>E3 λ(a:Addr) (ns:List Int) (d:Int)=>A7 (vs=[.ref a,.int d]) (SqL K H a (ns.map V.int)) (ns.length<=63) (0<=d) (d<n) (d<=12) (∀(t:Tr) (v:V) (H':Hp),Same H H'->Rep H' t v->PtT t ns.length d->Q v H')
theorem zL1 (F:Fun K "_law_tree" "_law_tree" zCX f fd) (z_len:mg "len" = none) (zOI:FnB P w K mg base k "_law_word" g1 gd1 ["_law_cell"] zE7)
  (zOJ:FnB P w K mg base k "_law_tree" f fd ["_law_cells", "_law_deep"] (zDB K n)):FnOk P w K mg base CX0 (k+1) f fd ["_law_cells", "_law_deep"] (zDB K (n+1)):=by
 refine F.ok zBK (λ vs H Q E h=>?_) (λ cdv A outer s H vs Q E hr h=>?_)
 ·obtain⟨a,ns,d,rfl,_⟩:=h
  rfl
 obtain⟨a,ns,d,rfl,hS,h63,hd0,hdn,h12,q⟩:=h
 refine⟨_,(Sd.un (zAT (zCy ⟨zAR op_eq (cL z_len (zAB (pv 0) zAD)) zAI (zAW _)⟩ (zAr (zBv (zCk (zAg ⟨zAX⟩ (zAg ⟨pv 1⟩ ⟨zAD⟩))))) ⟨zAY⟩)
  (zAT (pSS (i:=2) zBK.nd ⟨pe_op zBE (pe_op zEq (iC (r:=rIxL K) zBx (pv 0)) zAI) zAI⟩)
  (zAT (zCy ⟨(pw_or (zAR op_eq (cL z_len (zAB (pv 0) zAD)) zAI (zAW _)) (zD1 (zAR op_eq (pv 1) zAI (zAW _)))).pt⟩ (zAT (zCy ⟨zAR op_eq (pe_op zBE (pv 2) zAI) zAI (zAW _)⟩ (zAr (zBv (zCk (zAg ⟨zAX⟩ (zAg ⟨pe_op zBE (iC (r:=rIxL K) zBx (pv 0)) (pe_op zIm zAI zAI)⟩ ⟨zAD⟩))))) ⟨zAY⟩)
  (zAr (zBv (zCk (zAg (zLA (r:=rIxL K) zBx ⟨zIi [.str "name", .str "name", .str "ask", .str "stop"] (by rfl)⟩ ⟨pe_op zBE (pv 2) zAI⟩ (λ Ω Ω=>rfl)) (zAg ⟨pe_cl zOI hr (zAB (pe_op zBM (pv 2) zAI) zAD)⟩ ⟨zAD⟩)))))) ⟨zAY⟩)
  (zAT (pSS (i:=3) zBK.nd ⟨pe_op zC0 zAI (pe_op zBE (pe_op zBM (pv 2) zAI) (cL z_len (zAB (pv 0) zAD)))⟩)
  (zAT (pSS (i:=4) zBK.nd ⟨pe_cl zOJ hr (zAB (zA8 (r:=rSlL K) zDr (pv 0) (zA4 zAI) (zA4 (pv 3))) (zAB (pe_op zF4 (pv 1) zAI) zAD))⟩)
  (zAT (pSS (i:=5) zBK.nd ⟨pe_cl zOJ hr (zAB (zA8 (r:=rSlL K) zDr (pv 0) (zA4 (pv 3)) zCO) (zAB (pe_op zF4 (pv 1) zAI) zAD))⟩)
  (zAT (pSS (i:=6) zBK.nd (zLA (r:=rIxL K) zBx ⟨zIi [.str "say", .str "add", .str "sub", .str "mul", .str "then", .str "if", .str "add", .str "if"] (by rfl)⟩ ⟨pe_op zBE (pv 2) zAI⟩ (λ Ω Ω=>rfl)))
  (zAT (zCy ⟨zAR op_eq (pv 6) zAX (zAW _)⟩ (zAr (zBv (zCk (zAg ⟨zAX⟩ (zAg ⟨pv 5⟩ ⟨zAD⟩))))) ⟨zAY⟩)
  (zAT (zCy ⟨zAR op_eq (pv 6) zAX (zAW _)⟩ (zAr (zBv (zCk (zAg ⟨zAX⟩ (zAg ⟨pv 5⟩ (zAg (zCk (zAg ⟨zAX⟩ (zAg ⟨zAX⟩ ⟨zAD⟩))) (zAg ⟨pv 4⟩ ⟨zAD⟩))))))) ⟨zAY⟩)
  (zAr (zBv (zCk (zAg ⟨pv 6⟩ (zAg ⟨pv 4⟩ (zAg ⟨pv 5⟩ ⟨zAD⟩)))))))))))))))),?_⟩
 have d2:2<=sizeLine:=by decide
 have hlen:(ns.map V.int).length=ns.length:=mD _;refine⟨_,rfl,a,_,rfl,.inl hS,rfl,_,rfl,?_⟩;refine ite2 (λ Ω=>?_) (λ c0=>?_)
 ·refine⟨_,rfl,d2,λ p hp=>?_⟩
  exact q (.num d) (.ref p) _ (zAC hp) ⟨p,rfl,zAA⟩ ⟨True.intro,by show ((1:Nat):Int)<=_;omega,by show 1<=_;omega⟩
 have c0':ns.length≠0:=λ z=>c0 (lU (by rw[hlen,z];rfl));obtain⟨v0,hv0,e0⟩:=zJm (xs:=ns.map V.int) (i:=0) (Int.le_refl 0) (by rw[hlen];omega);obtain⟨i0,_,rfl⟩:=mC.mp hv0;refine⟨_,rfl,a,_,0,_,rfl,rfl,hS,e0,_,_,rfl,rfl,.inr ⟨by decide,by decide⟩,_,_,rfl,rfl,(show (0:Int)<2147483647 by decide),?_⟩;dsimp only;generalize hN:i0 * 48271 % 2147483647=N;refine⟨_,rfl,a,_,rfl,.inl hS,rfl,_,rfl,?_⟩;refine ite2 (λ Ω=>?leafA) (λ c1=>⟨_,rfl,rfl,_,rfl,ite2 (λ Ω=>?leafB) (λ c2=>?rest)⟩)
 case leafA|leafB =>
  refine⟨_,rfl,_,_,rfl,rfl,(show (0:Int)<3 by decide),rfl,_,rfl,ite2 (λ Ω=>?_) (λ c3=>?_)⟩
  ·refine⟨_,rfl,a,_,0,_,rfl,rfl,hS,e0,_,_,rfl,rfl,⟨by decide,by decide,by decide⟩,_,_,rfl,rfl,(show (0:Int)<10 ^ 30 by decide),d2,λ p hp=>?_⟩
   exact q (.num _) (.ref p) _ (zAC hp) ⟨p,rfl,zAA⟩ ⟨True.intro,by show ((1:Nat):Int)<=_;omega,by show 1<=_;omega⟩
  ·obtain⟨s0,t,e1,k1,k2⟩:=leaf4 (z:=N % 4) (by omega) (by omega)
   refine⟨(by show 4<=sizeLine;decide),λ p1 hp1=>⟨_,rfl,_,_,rfl,rfl,(show (0:Int)<4 by decide),p1,_,_,_,rfl,rfl,SqL.of zAA,e1,_,rfl,_,_,rfl,rfl,⟨(show (0:Int)<12 by decide),(show (12:Int)<1073741824 by decide)⟩,_,rfl,λ x H1 g1=>⟨d2,λ p2 hp2=>?_⟩⟩⟩;obtain⟨b1,b2,b3⟩:=k1 x;exact q (t x) (.ref p2) _ ((zAC hp1).trans (g1.trans (zAC hp2))) (k2 _ p2 x zAA) ⟨b1,by rw[b2];show ((1:Nat):Int)<=_;omega,by rw[b3];omega⟩
 case rest =>
  have c2':d≠0:=λ z=>c2 (lU (by rw[z]));refine⟨_,rfl,_,_,rfl,rfl,⟨(show (0:Int)<8 by decide),(show (8:Int)<1073741824 by decide)⟩,_,rfl,a,_,rfl,.inl hS,_,_,rfl,rfl,(by rw[hlen];omega),_,_,rfl,rfl,?_⟩
  obtain⟨at_,hat,hat0,hat1⟩:∃at_:Int,1+N / 8 % ((ns.map V.int).length:Int)=at_/\1<=at_/\at_<=ns.length :=
   ⟨_,rfl,by have:=Int.emod_nonneg (N / 8) (show ((ns.map V.int).length:Int)≠0 by rw[hlen];omega);omega,by have:=Int.emod_lt_of_pos (N / 8) (show (0:Int)<((ns.map V.int).length:Int) by rw[hlen];omega);rw[hlen] at this ⊢;omega⟩
  dsimp only;rw[hat];obtain⟨m1,em1,lm1⟩:=zJf (ns:=ns) (lo:=some 1) (hi:=some at_) (i:=1) (j:=at_.toNat) (zGc (by decide) (by omega)) (zGc (by omega) hat1) (by omega);obtain⟨m2,em2,lm2⟩:=zJf (ns:=ns) (lo:=some at_) (hi:=none) (i:=at_.toNat) (j:=ns.length) (zGc (by omega) hat1) rfl (lQ _);refine⟨_,rfl,_,rfl,_,rfl,_,rfl,a,_,rfl,hS,λ p1 hp1=>?_⟩;rw[em1];have g1:=zAC (o:=.lst (m1.map V.int)) hp1;refine⟨_,rfl,_,_,rfl,rfl,p1,m1,d - 1,rfl,SqL.of zAA,by omega,by omega,by omega,by omega,λ t1 v1 H1 g2 r1 ⟨a1,a2,a3⟩=>?_⟩;have gA:=g1.trans g2;refine⟨_,rfl,_,rfl,_,rfl,a,_,rfl,gA.seq hS,λ p2 hp2=>?_⟩;rw[em2];have g3:=zAC (o:=.lst (m2.map V.int)) hp2;refine⟨_,rfl,_,_,rfl,rfl,p2,m2,d - 1,rfl,SqL.of zAA,by omega,by omega,by omega,by omega,λ t2 v2 H2 g4 r2 ⟨b1,b2,b3⟩=>?_⟩;have gB:=gA.trans (g3.trans g4);have r1':=r1.mono (g3.trans g4).tk;obtain⟨s0,e8,hs8⟩:=sign8 (z:=N % 8) (by omega) (by omega);refine⟨(by show 8<=sizeLine;decide),λ p3 hp3=>⟨_,rfl,_,_,rfl,rfl,(show (0:Int)<8 by decide),p3,_,_,_,rfl,rfl,SqL.of zAA,e8,?_⟩⟩;generalize hH3:upd H2 p3 _=H3;have g5:Same H2 H3:=by rw[←hH3];exact zAC hp3
  have gC:=gB.trans g5;clear hH3;have r1'':=r1'.mono g5.tk;have r2'':=r2.mono g5.tk;refine⟨_,rfl,rfl,_,rfl,ite2 (λ c=>?_) (λ c=>?_)⟩
  ·refine⟨_,rfl,d2,λ p hp=>?_⟩
   have g6:=zAC (o:=.tup [.str "say", v2]) hp;refine q (.say t2) (.ref p) _ (gC.trans g6) ⟨p,v2,rfl,zAA,r2''.mono g6.tk⟩ ⟨b1,?_,?_⟩
   ·show ((dpT t2+1:Nat):Int)<=_;omega
   ·show t2.size+1<=_;omega
  refine⟨_,rfl,rfl,_,rfl,ite2 (λ c'=>?_) (λ c'=>?_)⟩
  ·refine⟨_,rfl,d2,λ p0 hp0=>⟨_,rfl,(by show 4<=sizeLine;decide),λ p hp=>?_⟩⟩
   have g6:=zAC (o:=.tup [.str "name", .str "c"]) hp0;have g7:=zAC (o:=.tup [.str "if", v2,.ref p0,v1]) hp;refine q (.ite t2 (.name "c") t1) (.ref p) _ (gC.trans (g6.trans g7)) ⟨p,v2,.ref p0,v1,rfl,zAA,r2''.mono (g6.trans g7).tk,⟨p0,rfl,g7 _ _ zAA⟩,r1''.mono (g6.trans g7).tk⟩ ⟨⟨b1,True.intro,a1⟩,?_,?_⟩
   ·show ((max (dpT t2) (max 1 (dpT t1))+1:Nat):Int)<=_;omega
   ·show t2.size+1+t1.size+1<=_;omega
  ·have ho:∃o:Bin,s0=o.s:=by
    rcases hs8 with z|z|z
    ·exact absurd (lU (by rw[z])) c
    ·exact absurd (lU (by rw[z])) c'
    ·exact z
   obtain⟨o,rfl⟩:=ho;refine⟨_,rfl,_,rfl,_,rfl,(by show 3<=sizeLine;decide),λ p hp=>?_⟩;have g6:=zAC (o:=.tup [.str o.s,v1,v2]) hp;refine q (.bin o t1 t2) (.ref p) _ (gC.trans g6) ⟨p,v1,v2,rfl,zAA,r1''.mono g6.tk,r2''.mono g6.tk⟩ ⟨⟨a1,b1⟩,?_,?_⟩
   ·show ((max (dpT t1) (dpT t2)+1:Nat):Int)<=_;omega
   ·show t1.size+t2.size+1<=_;omega
theorem zMA {k:Nat}{f:Addr}{fd:FuncData}:FnOk P w K mg base CX0 k f fd ["_law_cells", "_law_deep"] (zDB K 0):=by
 have no:∀vs H Q E,¬zDB K 0 vs H Q E:=λ vs H Q E h=>by
  obtain⟨a,ns,d,_,_,_,h1,h2,_⟩:=h;omega
 exact⟨λ vs H Q E h=>(no _ _ _ _ h).elim,λ A outer s H args us vs Q E Ω Ω Ω Ω h=>(no _ _ _ _ h).elim⟩
theorem zHb (F:Fun K "_law_tree" "_law_tree" zCX f fd) (b:Binds K fd ["_law_cells", "_law_deep"] []) (m:mg "_law_tree" = some (.ref f)) (z_len:mg "len" = none) (G:FnB P w K mg base k "_law_word" g1 gd1 ["_law_cell"] zE7) :
  ∀n:Nat,FnB P w K mg base (k+n) "_law_tree" f fd ["_law_cells", "_law_deep"] (zDB K n)
 |0=>⟨zMA,b,F.kp,m⟩
 |n+1=>⟨zL1 F z_len (G.up (Nat.le_add_right _ _)) (zHb F b m z_len G n),b,F.kp,m⟩
abbrev zBN:Stmt:=top 60
theorem zBG:zAQ ["_law_tree_here", "_law_cell", "_law_deep", "_law_inner", "_law_other", "_law_at"] ["_law_tree_here", "_law_cell", "_law_deep"] (zAH zBN):=scI
def zDA (n:Nat):Sp:=λ vs H Q Ω=>E4 λ(t:Tr) (v:V) (c d:Int)=>A7 (vs=[v,.int c,.int d]) (Rep H t v) (Pln t) (0<=d) (d<n) (d<=12) (∀(t':Tr) (v':V) (H':Hp),Same H H'->Rep H' t' v'->Let1 t'->t'.size<=t.size+2->Q v' H')
theorem zLz (F:Fun K "_law_with_let" "_law_with_let" zBN f fd) (z_range:mg "range" = none) (z_len:mg "len" = none) (z_isinstance:mg "isinstance" = none) (z_tuple:mg "tuple" = none)
  (zOK:FnB P w K mg base k "_law_with_let" f fd ["_law_tree_here", "_law_cell", "_law_deep"] (zDA n)):FnOk P w K mg base CX0 (k+1) f fd ["_law_tree_here", "_law_cell", "_law_deep"] (zDA (n+1)):=by
 refine F.ok zBG (λ vs H Q E h=>?_) (λ cdv A outer s H vs Q E hr h=>?_)
 ·obtain⟨t,v,c,d,rfl,_⟩:=h
  rfl
 obtain⟨t,v,c,d,rfl,hR,hp,hd0,hdn,h12,q⟩:=h;have hu0:=Nat.lt_of_succ_lt (hu_of hr)
 refine⟨_,(zAE (zFE (jj:=3) ["_law_at", "_law_tree_here"] [none,some 0] rfl (zId (by rfl) z_range (zAB zAI (zAB (cL z_len (zAB (pv 0) zAD)) zAD))) (λ Ω Ω Ω Ω Ω=>(zAf (i:=0) (show List.Nodup (["_law_at", "_law_tree_here"]:List Str) by symm) rfl (Or.inl rfl))) (λ Ω Ω Ω Ω Ω=>(zDJ (zCv (zAd (r:=rIsi K) zHY (by rfl) z_isinstance rP (zAB (pe_ix (r:=rIxT K) zAS (pv 1) (pv 0) (λ Ω Ω=>rfl)) (zAB (zGd (v:=.ty _) (by rfl) z_tuple rO (by rfl)) zAD)))))) (λ Ω Ω Ω Ω Ω=>(pv 0)) rfl zBG.nd rfl (Or.inl rfl) (Or.inr rfl))
  (zAE (ps_if (pw_or (zAR (zLx hu0) (pv 3) (zA1 zAD:PE _ _ _) (zAW _)) (pw_or (zAR op_eq (pv 2) zAI (zAW _)) (zD1 (zAR op_eq (pe_op zBE (pv 1) zAI) zAI (zAW _))))).pt (zAE (pS (i:=4) zBG.nd (zAv (zAB zAX (zAB zAX zAD)):PE _ _ _))
  (zAE (ps_if (zAR op_eq (pe_op zBE (pe_op zBM (pv 1) zAI) zAI) zAI (zAW _)) (zAF (zAV (zAv (zAB zAX (zAB zAX (zAB (pv 0) (zAB (pv 4) zAD)))):PE _ _ _))) zAY)
  (zAF (zAV (zAv (zAB zAX (zAB zAX (zAB (pv 4) (zAB (pv 0) zAD)))):PE _ _ _))))) zAY)
  (zAE (pS (i:=5) zBG.nd (pe_ix (r:=rIxL K) zBx (pv 3) (pe_op zBE (pe_op zBM (pv 1) zAI) (cL z_len (zAB (pv 3) zAD))) (λ Ω Ω=>rfl)))
  (zAF (zAV (pe_op zEA (pe_op zEA (zA8 zDq (pv 0) zCO (zA4 (pv 5))) (zAv (zAB (pe_cl zOK hr (zAB (pe_ix (r:=rIxT K) zAS (pv 0) (pv 5) (λ Ω Ω=>rfl)) (zAB (pe_op zBM (pv 1) zAI) (zAB (pe_op zF4 (pv 2) zAI) zAD)))) zAD):PE _ _ _)) (zA8 zDq (pv 0) (zA4 (pe_op zC0 (pv 5) zAI)) zCO))))))),?_⟩
 have d0:0<=sizeLine:=by decide
 obtain⟨a,ys,rfl,ha,hcase⟩:=hR.pln hp;refine viaN λ N hN=>?_
 have fin:∀(acc:Addr) (is:List V) (H1:Hp),Same H H1->H1 acc=some (.lst is)->(is=[]\/(PlnB H t ys/\is=ixs ys.length))->N [some (.ref a),some (.int c),some (.int d),some (.ref acc),none,none] H1:=λ acc is H1 g1 e1 hi=>hN _ _ (by
  refine⟨_,rfl,d0,λ e he=>⟨acc,e,is,rfl,rfl,(zAC he) _ _ e1,zAA,_,rfl,?_⟩⟩;have g2:=g1.trans (zAC (o:=.lst []) he);have e2:=(zAC (o:=.lst []) he) _ _ e1;generalize upd H1 e _=H2 at g2 e2 ⊢;refine ite2 (λ Ω=>iteT ?A) (λ c1=>⟨_,rfl,rfl,_,rfl,ite2 (λ Ω=>iteT ?B) (λ c2=>⟨_,rfl,_,_,rfl,rfl,(show (0:Int)<3 by decide),rfl,_,rfl,ite2 (λ Ω=>?C) (λ c3=>?rest)⟩)⟩)
  case A|B|C =>
   refine⟨(by show 2<=sizeLine;decide),λ p1 hp1=>?_⟩;have g3:=zAC (o:=.tup [.str "name", .str "a"]) hp1;refine⟨_,rfl,_,_,rfl,rfl,⟨(show (0:Int)<3 by decide),(show (3:Int)<1073741824 by decide)⟩,_,_,rfl,rfl,(show (0:Int)<2 by decide),rfl,_,rfl,ite2 (λ Ω=>?_) (λ Ω=>?_)⟩
   ·refine⟨_,rfl,_,rfl,(by show 4<=sizeLine;decide),λ p hpp=>?_⟩
    have g4:=zAC (o:=.tup [.str "let", .str "a", .ref a,.ref p1]) hpp;have gA:=g2.trans (g3.trans g4);exact q (.lett "a" t (.name "a")) (.ref p) _ gA ⟨p,_,_,rfl,zAA,hR.mono gA.tk,⟨p1,rfl,g4 _ _ zAA⟩⟩ zI4.1 (by show t.size+1+1<=_;omega)
   ·refine⟨_,rfl,_,rfl,(by show 4<=sizeLine;decide),λ p hpp=>?_⟩
    have g4:=zAC (o:=.tup [.str "let", .str "a", .ref p1,.ref a]) hpp;have gA:=g2.trans (g3.trans g4);exact q (.lett "a" (.name "a") t) (.ref p) _ gA ⟨p,_,_,rfl,zAA,⟨p1,rfl,g4 _ _ zAA⟩,hR.mono gA.tk⟩ zI4.2 (by show 1+t.size+1<=_;omega)
  case rest =>
   have c2':d≠0:=λ z=>c2 (lU (by rw[z]));rcases hi with rfl|⟨⟨pr,hne,mk⟩,rfl⟩
   ·exact absurd rfl c1
   have hl:=zI9 ys.length
   have hy1:1<=ys.length:=by
    cases ys with
    |nil=>exact absurd rfl hne
    |cons _ _=>simp
   obtain⟨i,hi1,hi2⟩:∃i:Nat,c / 3 % ((ixs ys.length).length:Int)=(i:Int)/\i<ys.length:=by
    rw[hl];have h0:=Int.emod_nonneg (c / 3) (show ((ys.length:Nat):Int)≠0 by omega);have h1:=Int.emod_lt_of_pos (c / 3) (show (0:Int)<((ys.length:Nat):Int) by omega);exact⟨(c / 3 % ((ys.length:Nat):Int)).toNat,by omega,by omega⟩
   have lp:ys.length=t.parts.length:=zAG pr;have p3:=zCP t;obtain⟨u,eu⟩:∃u,t.parts[i]?=some u:=⟨_,lW (by omega)⟩;obtain⟨y,ey,ry⟩:=zBC pr eu;refine⟨_,rfl,_,rfl,_,_,rfl,rfl,⟨(show (0:Int)<3 by decide),(show (3:Int)<1073741824 by decide)⟩,_,rfl,acc,_,rfl,.inl (SqL.of e2),_,_,rfl,rfl,(by rw[hl];omega),acc,_,_,_,rfl,rfl,SqL.of e2,(by rw[hi1];exact zNQ hi2),?_⟩;have hxl:(V.str t.sign::ys).length=ys.length+1:=rfl;have ha2:=g2 _ _ ha;have e5:(1+(i:Int))=((i+1:Nat):Int):=by omega
   dsimp only[gName];rw[e5];have k1:HT.sIx (V.str t.sign::ys).length (V.str t.sign::ys).length (some ((i+1:Nat):Int))=i+1:=by rw[HT.sIx_nat];omega
   have k2:HT.sIx (V.str t.sign::ys).length 0 (some (((i+1:Nat):Int)+1))=i+2:=by
    rw[show ((i+1:Nat):Int)+1=((i+2:Nat):Int) by omega,HT.sIx_nat];omega
   have cut1:cutV (V.str t.sign::ys) none (some ((i+1:Nat):Int))=(V.str t.sign::ys).take (i+1):=by
    unfold cutV;rw[k1,HT.sIx_none,List.drop_zero,Nat.sub_zero]
   have cut2:cutV (V.str t.sign::ys) (some (((i+1:Nat):Int)+1)) none=(V.str t.sign::ys).drop (i+2):=by
    unfold cutV;rw[k2,HT.sIx_none];exact mW (by rw[mX];omega)
   refine⟨_,rfl,_,rfl,_,rfl,a,_,rfl,ha2,(λ z=>by rw[k1] at z;omega),λ p1 H3 g3 e3=>?_⟩;rw[cut1] at e3;have at2:atI (V.str t.sign::ys) ((i+1:Nat):Int)=some y:=zAP (by simpa using ey);have gB:=g2.trans g3;refine⟨_,rfl,_,rfl,a,_,_,_,rfl,rfl,SqT.of (gB _ _ ha),at2,_,rfl,_,_,rfl,rfl,⟨(show (0:Int)<7 by decide),(show (7:Int)<1073741824 by decide)⟩,_,rfl,_,_,rfl,rfl,u,y,c / 7,d - 1,rfl,ry.mono gB.tk,hp.part (lM eu),by omega,by omega,by omega,λ t' v' H4 g4 r4 l4 s4=>⟨(by show 1<=sizeLine;decide),λ p5 hp5=>?_⟩⟩;have g5:=zAC (o:=.tup [v']) hp5;refine⟨p1,p5,_,_,rfl,rfl,(g4.trans g5) _ _ e3,zAA,zAh (by rw[mO];simp;omega),λ p6 H6 g6 e6=>?_⟩;have gC:=gB.trans (g4.trans (g5.trans g6));refine⟨_,rfl,_,rfl,_,_,rfl,rfl,_,rfl,a,_,rfl,gC _ _ ha,(λ z=>by rw[k2] at z;omega),λ p7 H7 g7 e7=>?_⟩;rw[cut2] at e7;refine⟨p6,p7,_,_,rfl,rfl,g7 _ _ e6,e7,zAh (by rw[mK,mO,mX];simp;omega),λ p8 H8 g8 e8=>?_⟩;have gD:=gC.trans (g7.trans g8)
   have es:(V.str t.sign::ys).take (i+1)++[v']++(V.str t.sign::ys).drop (i+2)=V.str t.sign::ys.set i v':=by
    have:=List.set_eq_take_append_cons_drop (l:=V.str t.sign::ys) (i:=i+1) (a:=v');rw[if_pos (by rw[hxl];omega)] at this;rw[mZ];exact this.symm
   rw[es] at e8;obtain⟨w1,w2⟩:=zNH eu l4 s4;exact q _ (.ref p8) H8 gD (mk (by simp) e8 (zCa (r4.mono (g5.trans (g6.trans (g7.trans g8))).tk) (Paired.mapP pr λ Ω Ω z=>z.mono gD.tk) i)) w1 w2)
 have hxl:(V.str t.sign::ys).length=ys.length+1:=rfl;rcases id hcase with ⟨y,rfl,hy⟩|B
 ·have hx2:((V.str t.sign::[y]).length:Int)=2:=rfl
  refine⟨_,rfl,a,_,rfl,.inr (SqT.of ha),1,_,rfl,⟨by omega,by omega,by omega,by omega⟩,λ acc hacc=>?_⟩;refine zCo (λ j H'=>Same H H'/\H' acc=some (.lst [])) ⟨zAC hacc,zAA⟩ ?_ ?_
  ·rintro j H' hj ⟨g,e⟩
   have j0:j=0:=by omega
   subst j0;have at1:atI (V.str t.sign::[y]) (1+((0:Nat):Int))=some y:=zAP (j:=1) rfl;rcases hy with ⟨z,rfl⟩|⟨z,rfl⟩
   ·exact⟨.skip (.keep .nil),_,rfl,_,rfl,a,_,_,_,rfl,rfl,SqT.of (g _ _ ha),at1,.int z, "tuple", _,false,rfl,.int z,rfl,_,rfl,iteF ⟨g,e⟩⟩
   ·exact⟨.skip (.keep .nil),_,rfl,_,rfl,a,_,_,_,rfl,rfl,SqT.of (g _ _ ha),at1,.str z, "tuple", _,false,rfl,.str z,rfl,_,rfl,iteF ⟨g,e⟩⟩
  ·rintro H' ⟨g,e⟩
   exact fin acc [] H' g e (.inl rfl)
 ·have lp:ys.length=t.parts.length:=zAG B.pr
  have p3:=zCP t;refine⟨_,rfl,a,_,rfl,.inr (SqT.of ha),1,_,rfl,⟨by omega,by omega,by omega,by omega⟩,λ acc hacc=>?_⟩;refine zCo (λ j H'=>Same H H'/\H' acc=some (.lst (ixs j))) ⟨zAC hacc,zAA⟩ ?_ ?_
  ·rintro j H' hj ⟨g,e⟩
   have hj':j<ys.length:=by omega
   have at1:atI (V.str t.sign::ys) (1+(j:Int))=some ys[j]:=by
    rw[show (1+(j:Int))=((j+1:Nat):Int) by omega];exact zAP (by simp[hj'])
   obtain⟨u,eu,ru⟩:=zAJ B.pr (lW hj');obtain⟨b,hs,us,eb,hb,_,_⟩:=(ru.mono g.tk).all;rw[eb] at at1;refine⟨.skip (.keep .nil),_,rfl,_,rfl,a,_,_,_,rfl,rfl,SqT.of (g _ _ ha),at1,.ref b, "tuple", _,true,rfl,.tup hb,rfl,_,rfl,iteT ⟨_,rfl,_,e,zAN (by rw[zI9];omega),zAU g hacc,?_⟩⟩;rw[zAA];unfold ixs;rw[List.range_succ,mQ];rfl
  ·rintro H' ⟨g,e⟩
   refine fin acc (ixs ys.length) H' g ?_ (.inr ⟨B,rfl⟩);rw[e];congr 3;omega
theorem zL9 {k:Nat}{f:Addr}{fd:FuncData}:FnOk P w K mg base CX0 k f fd ["_law_tree_here", "_law_cell", "_law_deep"] (zDA 0):=by
 have no:∀vs H Q E,¬zDA 0 vs H Q E:=λ vs H Q E h=>by
  obtain⟨t,v,c,d,_,_,_,h1,h2,_⟩:=h;omega
 exact⟨λ vs H Q E h=>(no _ _ _ _ h).elim,λ A outer s H args us vs Q E Ω Ω Ω Ω h=>(no _ _ _ _ h).elim⟩
theorem zHa (F:Fun K "_law_with_let" "_law_with_let" zBN f fd) (b:Binds K fd ["_law_tree_here", "_law_cell", "_law_deep"] []) (m:mg "_law_with_let" = some (.ref f)) (z_range:mg "range" = none) (z_len:mg "len" = none) (z_isinstance:mg "isinstance" = none) (z_tuple:mg "tuple" = none) :
  ∀n:Nat,FnB P w K mg base (k+n) "_law_with_let" f fd ["_law_tree_here", "_law_cell", "_law_deep"] (zDA n)
 |0=>⟨zL9,b,F.kp,m⟩
 |n+1=>⟨zLz F z_range z_len z_isinstance z_tuple (zHa F b m z_range z_len z_isinstance z_tuple n),b,F.kp,m⟩
abbrev zCg:Stmt:=top 61
theorem zAi:zAQ ["_law_pairs", "_law_told", "_law_apart", "_law_rule", "e"] ["_law_pairs"] (zAH zCg):=scI
structure Er (K:W.Frag) (cR cN cU cF c:Addr) (g:Bool):Prop where
 x:W.ExCls K c
 nR:W.mroIn K c (.ref cR)=some true
 nN:W.kitOne K (.ref c) (.ref cN)=some g
 nU:W.kitOne K (.ref c) (.ref cU)=some !g
 nF:W.kitOne K (.ref c) (.ref cF)=some false
 nV:W.kitOne K (.ref c) (.type "ValueError")=some true
def zHA:Sp:=λ vs H Q Ω=>E3 λ(l:Addr) (us:List V) (ps:List (Tr × Tr))=>A7 (vs=[.ref l]) (H l=some (.lst us)) (Paired (PrR H) ps us) (∀q∈ps,q.1.size<=60/\q.2.size<=60) (PrOk ps->PrG ps) (¬PrOk ps->∀p H',Same H H'->H p=none->H' p=some (.lst [.str "no pair"])->Q (.ref p) H')
 (PrOk ps->∀b,RdO ps b->∀p H',Same H H'->H p=none->H' p=some (.lst [.str (if b=true then "rule" else "other")])->Q (.ref p) H')
theorem zKR (F:Fun K "_law_asked" "_law_asked" zCg f fd) (z_isinstance:mg "isinstance" = none) (z_ValueError:mg "ValueError" = none) (z_tuple:mg "tuple" = none) (z_len:mg "len" = none) (zNs:mg "RecastError" = some (.ref cR)) (zNz:mg "NoPair" = some (.ref cN)) (zNu:mg "NoRule" = some (.ref cU)) (zOL:mg "NoFill" = some (.ref cF)) (zOM:ExC K cR)
  (XN:Er K cR cN cU cF cN true) (XU:Er K cR cN cU cF cU false) (zON:FnF P w K mg base k "read_off" g1 gd1 ["pairs"] (zIN cN cU)):FnOk P w K mg base CX0 (k+1) f fd ["_law_pairs"] zHA:=by
 refine F.ok zAi (λ vs H Q E h=>?_) (λ cdv A outer s H vs Q E hr h=>?_)
 ·obtain⟨l,us,ps,rfl,_⟩:=h
  rfl
 obtain⟨l,us,ps,rfl,el,pu,hz,hG,qe,qo⟩:=h
 refine zK4 ⟨_,(zAT (pSS (i:=1) zAi.nd ⟨zAX⟩)
  (zAT (pSS (i:=2) zAi.nd ⟨pe_bl⟩)
  (zAT (zLi (tb:=λ D=>(tAsg (zKy _ _ _ D _) (gName 3))) (λ Ω D=>(zAr (pSS (i:=3) zAi.nd ⟨zKE rfl rfl (ph_as zAi.nd (i:=4) rfl rfl (by rfl) zNs zOM (λ Ω=>(zAE (pS (i:=1) zAi.nd zAX)
  (zAE (pS (i:=2) zAi.nd (zDV (zAn op_ne (zAd (r:=rIsiX K) zCT (by rfl) z_isinstance rP (zAB (pv 4) (zAB (zBB (v:=.ref _) (by rfl) zNz (by rfl)) zAD))) (zAd (r:=rIsiX K) zCT (by rfl) z_isinstance rP (zAB (pv 4) (zAB (zBB (v:=.ref _) (by rfl) zNu (by rfl)) zAD))) (zAW _)) (zB0 (zK8 (zAd (r:=rIsiX K) zCT (by rfl) z_isinstance rP (zAB (pv 4) (zAB (zBB (v:=.ref _) (by rfl) zOL (by rfl)) zAD)))))))
  (zAE (pS (i:=2) zAi.nd (zDV (pv 2) (zB0 (zAd (r:=rIsiX K) zCT (by rfl) z_isinstance rP (zAB (pv 4) (zAB (zGd (v:=.ty _) (by rfl) z_ValueError zMU (by rfl)) zAD))))))
  (zAF (ps_if (zCv (zAd (r:=rIsiX K) zCT (by rfl) z_isinstance rP (zAB (pv 4) (zAB (zBB (v:=.ref _) (by rfl) zNz (by rfl)) zAD)))) (zAF (pS (i:=1) zAi.nd zAX)) zAY)))))) zM2) zON.ok hr (by rfl) zON.gl zON.kp zON.bd .nil (zAB (pv 0) zAD)⟩))) (zAr (pSS (i:=2) zAi.nd ⟨zDV (cI z_isinstance z_tuple rO (pv 3)) (zB0 (zAn op_eq (cL z_len (zAB (pv 3) zAD)) zAI (zAW _)))⟩)))
  (zAT (zCy ⟨zK6 (zCw (pv 2) (λ Ω=>rfl))⟩ (zAr (zBv (zFG (pa_cS ⟨zAX⟩ ⟨zAD⟩)))) ⟨zAY⟩)
  (zAr (zBv (zFG (zAg ⟨pv 1⟩ ⟨zAD⟩)))))))),?_⟩
 refine⟨_,rfl,l,us,ps,rfl,el,pu,hz,hG,(λ n H1 g1=>⟨cN,rfl,XN.x,true,XN.nR,iteT λ ea hea=>?_⟩),(λ ok b hb=>⟨λ eb p x y z H1 g1 e1=>?_,λ eb H1 g1=>⟨cU,rfl,XU.x,true,XU.nR,iteT λ ea hea=>?_⟩⟩)⟩
 ·refine⟨_,rfl,ea,cN,.ref cN,.ref cN,true,rfl,zAA,XN.x,(λ u r=>r),XN.nN,_,rfl,ea,cN,.ref cU,.ref cU,false,rfl,zAA,XN.x,(λ u r=>r),XN.nU,rfl,_,rfl,iteT ⟨_,rfl,ea,cN,.ref cF,.ref cF,false,rfl,zAA,XN.x,(λ u r=>r),XN.nF,_,rfl,?_⟩⟩
  refine⟨_,rfl,true,rfl,iteT ⟨_,rfl,ea,cN,.ty "ValueError", .type "ValueError", true,rfl,zAA,XN.x,(λ u r=>r),XN.nV,?_⟩⟩;refine⟨_,rfl,ea,cN,.ref cN,.ref cN,true,rfl,zAA,XN.x,(λ u r=>r),XN.nN,_,rfl,iteT ?_⟩;refine⟨_,rfl,true,rfl,iteF ⟨_,rfl,(by show 1<=sizeLine;decide),λ p hp=>?_⟩⟩;exact qe n p _ (g1.trans ((zAC hea).trans (zAC hp))) ((g1.trans (zAC hea)).free hp) zAA
 ·refine⟨_,rfl,.ref p, "tuple", _,true,rfl,.tup e1,rfl,true,rfl,iteT ⟨_,rfl,p,_,rfl,.inr (SqT.of e1),rfl,?_⟩⟩
  refine⟨_,rfl,true,rfl,iteF ⟨_,rfl,(by show 1<=sizeLine;decide),λ p2 hp2=>?_⟩⟩;subst eb;exact qo ok true hb p2 _ (g1.trans (zAC hp2)) (g1.free hp2) zAA
 ·refine⟨_,rfl,ea,cU,.ref cN,.ref cN,false,rfl,zAA,XU.x,(λ u r=>r),XU.nN,_,rfl,ea,cU,.ref cU,.ref cU,true,rfl,zAA,XU.x,(λ u r=>r),XU.nU,rfl,_,rfl,iteT ⟨_,rfl,ea,cU,.ref cF,.ref cF,false,rfl,zAA,XU.x,(λ u r=>r),XU.nF,_,rfl,?_⟩⟩
  refine⟨_,rfl,true,rfl,iteT ⟨_,rfl,ea,cU,.ty "ValueError", .type "ValueError", true,rfl,zAA,XU.x,(λ u r=>r),XU.nV,?_⟩⟩;refine⟨_,rfl,ea,cU,.ref cN,.ref cN,false,rfl,zAA,XU.x,(λ u r=>r),XU.nN,_,rfl,iteF ?_⟩;refine⟨_,rfl,true,rfl,iteF ⟨_,rfl,(by show 1<=sizeLine;decide),λ p hp=>?_⟩⟩;subst eb;exact qo ok false hb p _ (g1.trans ((zAC hea).trans (zAC hp))) ((g1.trans (zAC hea)).free hp) zAA
abbrev s_law:Stmt:=top 62
theorem zBV:zAQ ["_law_script", "_law_many", "_law_pairs", "_law_k", "_law_one", "_law_cell", "_law_spoiled", "_law_lets", "_law_at", "_law_other", "_law_handed", "_law_due", "_law_told"] ["_law_script"] (zAH s_law):=scI
def zG3 (K:W.Frag):Sp:=λ vs H Q Ω=>E2 λ(a:Addr) (ns:List Int)=>A3 (vs=[.ref a]) (SqL K H a (ns.map V.int)) (∀H',Q (.bl true) H')
theorem zNC (F:Fun K "law" "law" s_law f fd) (z_range:mg "range" = none) (z_list:mg "list" = none)
  (zOO:FnB P w K mg base k "_law_cell_at" g1 gd1 ["_law_script", "_law_k"] (zEj K)) (zOJ:FnB P w K mg base k "_law_tree" g2 gd2 ["_law_cells", "_law_deep"] (zDB K 6)) (zOK:FnB P w K mg base k "_law_with_let" g3 gd3 ["_law_tree_here", "_law_cell", "_law_deep"] (zDA 7)) (zOP:FnB P w K mg base k "_law_asked" g4 gd4 ["_law_pairs"] zHA) :
  FnOk P w K mg base CX0 (k+1) f fd ["_law_script"] (zG3 K):=by
 refine F.ok zBV (λ vs H Q E h=>?_) (λ cdv A outer s H vs Q E hr h=>?_)
 ·obtain⟨a,ns,rfl,_⟩:=h
  rfl
 obtain⟨a,ns,rfl,hS,qf⟩:=h;have hu:=hu_of hr;have hu0:=Nat.lt_of_succ_lt (hu_of hr)
 refine zK4 ⟨_,(zAT (pSS (i:=1) zBV.nd (zIg zBE (zFI zOO.ok hr (by rfl) zOO.gl zOO.kp zOO.bd .nil pass0 (pa_nS ⟨pv 0⟩ (zAg ⟨zAI⟩ ⟨zAD⟩))) ⟨zAI⟩))
  (zAT (pSS (i:=2) zBV.nd (zFG ⟨zAD⟩))
  (zAT ⟨zA5 PassesOwn.never rfl (zCz (by rfl) z_range (zAB (pv 1) zAD)) (pGn (i:=3) zBV.nd) (zAE (pS (i:=4) zBV.nd (pe_cl zOJ hr (zAB (zA8 (r:=rSlL K) zDr (pv 0) (zA4 (pe_op zC0 zAI (pe_op zEq zAI (pv 3)))) (zA4 (pe_op zC0 zAI (pe_op zEq zAI (pv 3))))) (zAB zAI zAD))))
  (zAF (pAp (pv 2) (zAv (zAB (pv 4) (zAB (pe_cl zOJ hr (zAB (zA8 (r:=rSlL K) zDr (pv 0) (zA4 (pe_op zC0 zAI (pe_op zEq zAI (pv 3)))) (zA4 (pe_op zC0 zAI (pe_op zEq zAI (pv 3))))) (zAB zAI zAD))) zAD)):PE _ _ _))))⟩
  (zAT (zCy ⟨(zD2 (zAR op_gt (pv 1) zAI (zAW _)) (zCj (zAR op_eq (pe_op zBE (pe_op zBM (pe_cl zOO hr (zAB (pv 0) (zAB zAI zAD))) zAI) zAI) zAI (zAW _)))).pt⟩ (zAr ⟨zHH (zAv (zAB (pe_ix (r:=rIxT K) zAS (iC (r:=rIxL K) zBx (pv 2)) zAI (λ Ω Ω=>rfl)) (zAB (pe_ix (r:=rIxT K) zAS (iC (r:=rIxL K) zBx (pv 2)) zAI (λ Ω Ω=>rfl)) zAD)):PE _ _ _) (zIf (pv 2) zAI zFB)⟩) ⟨zAY⟩)
  (zAT (pSS (i:=5) zBV.nd (zFI zOO.ok hr (by rfl) zOO.gl zOO.kp zOO.bd .nil pass0 (pa_nS ⟨pv 0⟩ (zAg ⟨zAI⟩ ⟨zAD⟩))))
  (zAT (pSS (i:=6) zBV.nd (zEo zDc (by rfl) z_list PyProof.Rows.boot_list (pa_nS ⟨pv 2⟩ ⟨zAD⟩)))
  (zAT (pSS (i:=7) zBV.nd ⟨pe_bl⟩)
  (zAT (zCy ⟨(zD2 (zAR op_gt (pe_op zBE (pv 5) zAI) zAI (zAW _)) (zCj (zAR op_gt (pv 1) zAI (zAW _)))).pt⟩ (zAT (pSS (i:=8) zBV.nd (zIg zBE (zIg zBM ⟨pv 5⟩ ⟨zAI⟩) ⟨pv 1⟩))
  (zAT ⟨zHH (pe_ix (r:=rIxL K) zBx (pv 2) (pv 8) (λ Ω Ω=>rfl)) (zCc rfl (zAZ (pGn (i:=4) zBV.nd) (zAZ (pGn (i:=9) zBV.nd) zBL)))⟩
  (zAT (pSS (i:=7) zBV.nd ⟨pe_bl⟩)
  (zAr (zCy ⟨zAR op_eq (pe_op zBE (pe_op zBM (pv 5) zAI) zAI) zAI (zAW _)⟩ (zAr ⟨zHH (zAv (zAB (pe_cl zOK hr (zAB (pv 4) (zAB (pe_op zBE (pe_op zBM (pv 5) zAI) (pe_op zIm zAI zAI)) (zAB zAI zAD)))) (zAB (pv 9) zAD)):PE _ _ _) (zIf (pv 6) (pv 8) zFB)⟩) (zAr ⟨zHH (zAv (zAB (pv 4) (zAB (pe_cl zOK hr (zAB (pv 9) (zAB (pe_op zBE (pe_op zBM (pv 5) zAI) (pe_op zIm zAI zAI)) (zAB zAI zAD)))) zAD)):PE _ _ _) (zIf (pv 6) (pv 8) zFB)⟩)))))) ⟨zAY⟩)
  (zAT (pSS (i:=10) zBV.nd (zEo zDc (by rfl) z_list PyProof.Rows.boot_list (pa_nS ⟨pv 6⟩ ⟨zAD⟩)))
  (zAT (pSS (i:=11) zBV.nd ⟨pe_or (zAn op_eq (pv 1) zAI (zAW _)) (zB0 (zAn op_gt (pv 1) zAI (zAW _)))⟩)
  (zAT ⟨zA5 PassesOwn.never rfl (zCz (by rfl) z_range (zAB zAI zAD)) (pGn (i:=3) zBV.nd) (zAF (ps_if (pw_or (zAR op_ne (zAn (zIo hu0) (pe_cl zOP hr (zAB (pv 10) zAD)) (zA1 (zAB zAX zAD):PE _ _ _) (zAW _)) (pe_or (pv 11) (zB0 (pv 7))) (zAW _)) (zD1 (zAR (zLw hu0) (pv 10) (pv 6) (zAW _)))).pt (zAF (zAV pe_bl)) zAY))⟩
  (zAT (pSS (i:=12) zBV.nd (zFI zOP.ok hr (by rfl) zOP.gl zOP.kp zOP.bd .nil pass0 (pa_nS ⟨pv 2⟩ ⟨zAD⟩)))
  (zAr (zBv ⟨zDV (zAn (zM6 hu0) (pv 12) (zA1 (zAB zAX zAD):PE _ _ _) (zAW _)) (zDV (zAn op_eq (zAn (zIo hu0) (pv 12) (zA1 (zAB zAX zAD):PE _ _ _) (zAW _)) (pv 11) (zAW _)) (zB0 (zAn (zIo hu0) (pe_cl zOP hr (zAB (pv 2) zAD)) (pv 12) (zAW _))))⟩)))))))))))))),?_⟩
 have d0:0<=sizeLine:=by decide
 have d1:1<=sizeLine:=by decide
 have d2:2<=sizeLine:=by decide
 refine⟨_,rfl,a,ns,0,rfl,hS,by decide,λ i0=>⟨_,_,rfl,rfl,(show (0:Int)<11 by decide),?_⟩⟩;have m0:0<=i0 % 11:=by omega
 have m1:i0 % 11<11:=by omega
 dsimp only[gName];generalize i0 % 11=M at m0 m1 ⊢;refine⟨d0,λ pl hpl=>?_⟩;have g0:=zAC (o:=.lst []) hpl;refine⟨_,rfl,M,rfl,by omega,by omega,?_⟩;refine zEM (n:=M.toNat) (λ i σ' H'=>E4 λ(s3 s4:Option V) (us:List V) (ps:List (Tr × Tr))=>A6 (σ'=[some (.ref a),some (.int M),some (.ref pl),s3,s4,none,none,none,none,none,none,none,none]) (Same H H') (H' pl=some (.lst us)) (Paired (PrR H') ps us) (ps.length=i) (PrP ps)) ⟨none,none,[],[],rfl,g0,zAA,.nil,rfl,(λ q hq=>nomatch hq)⟩ ?_ ?_
 ·rintro i σ1 H1 hi ⟨s3,s4,us,ps,rfl,g1,e1,p1,l1,hp1⟩
  have lu:us.length=ps.length:=zAG p1;have ml:(0:Int)<=5/\(5:Int)<1073741824:=⟨by decide,by decide⟩;obtain⟨m1,c1,k1⟩:=cutN (ns:=ns) (2+5 * i) (8+5 * i) (by omega);obtain⟨m2,c2,k2⟩:=cutN (ns:=ns) (4+5 * i) (10+5 * i) (by omega);rw[show ((2+5 * i:Nat):Int)=2+5 * (0+(i:Int)) by omega,show ((8+5 * i:Nat):Int)=8+5 * (0+(i:Int)) by omega] at c1;rw[show ((4+5 * i:Nat):Int)=4+5 * (0+(i:Int)) by omega,show ((10+5 * i:Nat):Int)=10+5 * (0+(i:Int)) by omega] at c2;refine⟨_,rfl,_,rfl,_,_,rfl,rfl,.inl ⟨by decide,by decide⟩,_,_,rfl,rfl,_,rfl,_,rfl,_,_,rfl,rfl,.inl ⟨by decide,by decide⟩,_,_,rfl,rfl,_,rfl,a,_,rfl,g1.seq hS,λ q1 hq1=>?_⟩;rw[c1];have g2:=zAC (o:=.lst (m1.map V.int)) hq1;refine⟨q1,m1,5,rfl,SqL.of zAA,by omega,by decide,by decide,by decide,λ t1 v1 H2 g3 r1 pt1=>?_⟩;have gA:=g2.trans g3;have e2:=gA _ _ e1;refine⟨_,rfl,.inl ⟨rfl,_,SqL.of e2⟩,_,rfl,_,rfl,_,rfl,_,_,rfl,rfl,.inl ⟨by decide,by decide⟩,_,_,rfl,rfl,_,rfl,_,rfl,_,_,rfl,rfl,.inl ⟨by decide,by decide⟩,_,_,rfl,rfl,_,rfl,a,_,rfl,(g1.trans gA).seq hS,λ q2 hq2=>?_⟩;rw[c2];have g4:=zAC (o:=.lst (m2.map V.int)) hq2;refine⟨q2,m2,5,rfl,SqL.of zAA,by omega,by decide,by decide,by decide,λ t2 v2 H3 g5 r2 pt2=>⟨d2,λ tp htp=>?_⟩⟩;have g6:=zAC (o:=.tup [v1,v2]) htp;have gB:=g4.trans (g5.trans g6);have e3:=gB _ _ e2;have k7:Tk _ _:=Tk.lst (o:=.lst (us++[.ref tp])) e3;refine⟨pl,us,_,rfl,rfl,e3,zAN (by omega),_,_,us++[.ref tp],ps++[(t1,t2)],rfl,zAU (g1.trans (gA.trans gB)) hpl,zAA,?_,by simp[l1],λ q hq=>?_⟩
  ·exact zAM (Paired.mapP p1 λ Ω Ω z=>z.mono ((gA.trans gB).tk.trans k7)) (.cons ⟨tp,v1,v2,rfl,k7 _ _ zAA,r1.mono (gB.tk.trans k7),r2.mono (g6.tk.trans k7)⟩ .nil)
  ·rcases lK.mp hq with z|z
   ·exact hp1 q z
   ·rw[mR.mp z]
    exact⟨pt1.g (by omega),pt2.g (by omega)⟩
 rintro σ1 H1 ⟨s3,s4,us,ps,rfl,g1,e1,p1,l1,hp1⟩;dsimp only;refine viaN λ N hN=>?_
 have fin:∀(us:List V) (ps:List (Tr × Tr)) (H2:Hp),Same H H2->H2 pl=some (.lst us)->Paired (PrR H2) ps us->ps.length=M.toNat->PrP ps->N [some (.ref a),some (.int M),some (.ref pl),s3,s4,none,none,none,none,none,none,none,none] H2:=λ us ps H2 g2 e2 p2 l2 hp2=>hN _ _ (by
  refine⟨_,rfl,a,ns,1,rfl,g2.seq hS,by decide,λ C=>?_⟩;refine⟨_,rfl,pl,us,rfl,.inl (SqL.of e2),λ sl hsl=>?_⟩;have g3:=zAC (o:=.lst us) hsl;have e3:=g3 _ _ e2;have f3:=@zAA H2 sl (.lst us);have p3:=Paired.mapP p2 λ Ω Ω z=>PrR.mono g3.tk z;have g03:=g2.trans g3;have hsl0:H sl=none:=g2.free hsl;have nps:pl≠sl:=zAL e2 hsl;have lu:us.length=ps.length:=zAG p2;dsimp only[gName];generalize upd H2 sl _=H3 at e3 f3 p3 g03 ⊢;clear g3;refine viaN λ Ω hN0=>hN0 _ _ ?_;refine viaN λ N2 hN2=>?_
  have fin2:∀(b:Bool) (us2:List V) (qs:List (Tr × Tr)) (s4 s8 s9:Option V) (H4:Hp),Same H H4->H4 pl=some (.lst us)->Paired (PrR H4) ps us->H4 sl=some (.lst us2)->Paired (PrR H4) qs us2->SpO ps qs b->N2 [some (.ref a),some (.int M),some (.ref pl),s3,s4,some (.int C),some (.ref sl),some (.bl b),s8,s9,none,none,none] H4:=λ b us2 qs s4 s8 s9 H4 g4 e4 p4 f4 r4 so=>hN2 _ _ (by
   refine⟨_,rfl,sl,us2,rfl,.inl (SqL.of f4),λ hl hhl=>?_⟩;have g5:=zAC (o:=.lst us2) hhl;have h5:=@zAA H4 hl (.lst us2);have e5:=g5 _ _ e4;have f5:=g5 _ _ f4;have p5:=Paired.mapP p4 λ Ω Ω z=>PrR.mono g5.tk z;have r5:=Paired.mapP r4 λ Ω Ω z=>PrR.mono g5.tk z;dsimp only[gName];generalize upd H4 hl _=H5 at h5 e5 f5 p5 r5 ⊢;refine viaN λ N3 hN3=>?_
   have fin3:∀D:Bool,(D=true↔¬(1<=ps.length/\ps.length<=8))->N3 [some (.ref a),some (.int M),some (.ref pl),s3,s4,some (.int C),some (.ref sl),some (.bl b),s8,s9,some (.ref hl),some (.bl D),none] H5:=λ D hD=>hN3 _ _ (by
    have okq:=so.ok hp2;have s5:∀q∈ps,q.1.size<=60/\q.2.size<=60:=λ q hq=>⟨by have:=(hp2 q hq).1.2.2;omega,by have:=(hp2 q hq).2.2.2;omega⟩;have ne1:¬([if (true:Bool)=true then Str.ofString "rule" else Str.ofString "other"]=[Str.ofString "no pair"]):=by symm
    have ne2:¬([if (false:Bool)=true then Str.ofString "rule" else Str.ofString "other"]=[Str.ofString "no pair"]):=by symm
    have ne3:∀b':Bool,¬([if b'=true then Str.ofString "rule" else Str.ofString "other"]=[Str.ofString "no pair"]):=λ b'=>by cases b'<;>assumption
    have na1:¬([Str.ofString "no pair"]=[Str.ofString "amiss"]):=by symm
    have na2:∀b':Bool,¬([if b'=true then Str.ofString "rule" else Str.ofString "other"]=[Str.ofString "amiss"]):=λ b'=>by cases b'<;>symm
    have refs:∀x∈us2,∃c,x = .ref c:=λ x hx=>by
     obtain⟨n,hn,en⟩:=List.mem_iff_getElem.mp hx;obtain⟨q,_,p,_,_,e,_⟩:=zAJ r5 (lW hn);exact⟨p,by rw[←en,e]⟩
    refine⟨2,rfl,by decide,by decide,?_⟩;refine zEM (n:=2) (λ i σ' H'=>∃s3':Option V,σ'=[some (.ref a),some (.int M),some (.ref pl),s3',s4,some (.int C),some (.ref sl),some (.bl b),s8,s9,some (.ref hl),some (.bl D),none]/\Same H5 H') ⟨s3,rfl,.refl _⟩ ?_ ?_
    ·rintro i σ1 H6 hi ⟨s3',rfl,g6⟩
     refine⟨_,rfl,hl,us2,qs,rfl,g6 _ _ h5,Paired.mapP r5 λ Ω Ω z=>PrR.mono g6.tk z,so.sz,so.g hp2,(λ n p H7 g7 hp7 e7=>⟨d1,λ p8 hp8=>?_⟩),(λ ok b' hb' p H7 g7 hp7 e7=>⟨d1,λ p8 hp8=>?_⟩)⟩
     ·have g8:=zAC (o:=.lst [.str "no pair"]) hp8
      have gA:=g6.trans (g7.trans g8);refine⟨p,p8,["no pair"],["no pair"],rfl,rfl,g8 _ _ e7,zAA,?_⟩;refine⟨_,rfl,D,rfl,?_⟩;cases D with
      |true =>
       refine iteT ⟨rfl,_,rfl,ite2 (λ c=>absurd c (by simp)) (λ Ω=>?_)⟩;exact⟨_,rfl,_,rfl,hl,sl,us2,rfl,rfl,gA _ _ h5,gA _ _ f5,refs,_,rfl,iteF ⟨_,rfl,gA⟩⟩
      |false =>
       have b1:b=true:=by
        cases b with
        |true=>rfl
        |false=>exact absurd (okq.mpr ⟨Classical.byContradiction λ z=>lX (hD.mpr z),rfl⟩) n
       subst b1;refine iteF ⟨_,rfl,rfl,_,rfl,ite2 (λ c=>absurd c (by simp)) (λ Ω=>?_)⟩;exact⟨_,rfl,_,rfl,hl,sl,us2,rfl,rfl,gA _ _ h5,gA _ _ f5,refs,_,rfl,iteF ⟨_,rfl,gA⟩⟩
     ·have g8:=zAC (o:=.lst [.str "no pair"]) hp8
      have gA:=g6.trans (g7.trans g8);obtain⟨o1,o2⟩:=okq.mp ok;subst o2
      have dF:D=false:=by
       cases D with
       |true=>exact absurd o1 (hD.mp rfl)
       |false=>rfl
      subst dF;refine⟨p,p8,[_],["no pair"],rfl,rfl,g8 _ _ e7,zAA,_,rfl,false,rfl,iteF ⟨_,rfl,rfl,_,rfl,ite2 (λ c=>absurd c ?_) (λ Ω=>?_)⟩⟩
      ·simp[ne3 b']
      ·exact⟨_,rfl,_,rfl,hl,sl,us2,rfl,rfl,gA _ _ h5,gA _ _ f5,refs,_,rfl,iteF ⟨_,rfl,gA⟩⟩
    ·rintro σ1 H6 ⟨s3',rfl,g6⟩
     have okp:=hp2.ok;refine⟨_,rfl,pl,us,ps,rfl,g6 _ _ e5,Paired.mapP p5 λ Ω Ω z=>PrR.mono g6.tk z,s5,λ Ω=>hp2,(λ n p H7 g7 hp7 e7=>?_),(λ ok b' hb' p H7 g7 hp7 e7=>?_)⟩
     ·have dT:D=true:=hD.mpr λ z=>n (okp.mpr z)
      subst dT;refine⟨_,rfl,d1,λ p8 hp8=>⟨p,p8,["no pair"],["amiss"],rfl,rfl,zAC hp8 _ _ e7,zAA,_,rfl,ite2 (λ Ω=>?_) (λ c=>absurd ?_ c)⟩⟩
      ·have g8:=zAC (o:=.lst [.str "amiss"]) hp8
       refine⟨_,rfl,d1,λ p9 hp9=>⟨p,p9,["no pair"],["no pair"],rfl,rfl,zAC hp9 _ _ (g8 _ _ e7),zAA,_,rfl,rfl,_,rfl,ite2 (λ Ω=>?_) (λ c=>absurd (by simp) c)⟩⟩;have g9:=zAC (o:=.lst [.str "no pair"]) hp9;have gA:=g6.trans (g7.trans (g8.trans g9));refine⟨_,rfl,pl,us,ps,rfl,gA _ _ e5,Paired.mapP p5 λ Ω Ω z=>PrR.mono gA.tk z,s5,λ Ω=>hp2,(λ Ω q H8 g10 hq8 e8=>⟨_,rfl,q,p,["no pair"],["no pair"],rfl,rfl,e8,(g8.trans (g9.trans g10)) _ _ e7,?_⟩),(λ ok=>absurd ok n)⟩;have:(if false=true then !decide ([Str.ofString "no pair"]=[Str.ofString "no pair"]) else decide ([Str.ofString "no pair"]=[Str.ofString "no pair"]))=true:=by simp
       rw[this];exact qf _
      ·simp[na1]
     ·have dF:D=false:=by
       cases D with
       |true=>exact absurd (okp.mp ok) (hD.mp rfl)
       |false=>rfl
      subst dF;have n2:=na2 b';have n3:=ne3 b';generalize hT:(if b'=true then Str.ofString "rule" else Str.ofString "other")=T at n2 n3 e7;refine⟨_,rfl,d1,λ p8 hp8=>⟨p,p8,[T],["amiss"],rfl,rfl,zAC hp8 _ _ e7,zAA,_,rfl,ite2 (λ Ω=>?_) (λ c=>absurd ?_ c)⟩⟩
      ·have g8:=zAC (o:=.lst [.str "amiss"]) hp8
       refine⟨_,rfl,d1,λ p9 hp9=>⟨p,p9,[T],["no pair"],rfl,rfl,zAC hp9 _ _ (g8 _ _ e7),zAA,_,rfl,rfl,_,rfl,ite2 (λ Ω=>?_) (λ c=>absurd ?_ c)⟩⟩
       ·have g9:=zAC (o:=.lst [.str "no pair"]) hp9
        have gA:=g6.trans (g7.trans (g8.trans g9));refine⟨_,rfl,pl,us,ps,rfl,gA _ _ e5,Paired.mapP p5 λ Ω Ω z=>PrR.mono gA.tk z,s5,λ Ω=>hp2,(λ n=>absurd ok n),(λ Ω b2 hb2 q H8 g10 hq8 e8=>?_)⟩;have e2:b2=b':=hb2.uniq ok hp2 hb';rw[e2,hT] at e8;refine⟨_,rfl,q,p,[T],[T],rfl,rfl,e8,(g8.trans (g9.trans g10)) _ _ e7,?_⟩;have:(if false=true then !decide ([T]=[T]) else decide ([T]=[T]))=true:=by simp
        rw[this];exact qf _
       ·simp only[n3,decide_false]
        simp
      ·simp[n2])
   refine⟨_,rfl,rfl,_,rfl,ite2 (λ c=>fin3 true ?_) (λ c=>⟨_,rfl,_,_,rfl,rfl,fin3 _ ?_⟩)⟩
   ·have:M=0:=V.int.inj (lT c)
    exact⟨λ Ω=>by omega,λ Ω=>rfl⟩
   ·have:¬M=0:=λ z=>c (lU (by rw[z]))
    rw[decide_eq_true_iff];omega)
  have same0:SpO ps ps false:=⟨rfl,λ q hq=>⟨by have:=(hp2 q hq).1.2.2;omega,by have:=(hp2 q hq).2.2.2;omega⟩,λ Ω=>rfl,λ z=>nomatch z⟩
  refine⟨_,rfl,_,_,rfl,rfl,(show (0:Int)<4 by decide),_,_,rfl,rfl,_,rfl,ite2 (λ c=>⟨_,rfl,_,_,rfl,rfl,_,rfl,ite2 (λ c'=>?_) (λ Ω=>fin2 false us ps _ _ _ H3 g03 e3 p3 f3 p3 same0)⟩) (λ Ω=>iteF (fin2 false us ps _ _ _ H3 g03 e3 p3 f3 p3 same0))⟩;have cM:(0:Int)<M:=lT c';refine⟨_,rfl,_,_,rfl,rfl,⟨(show (0:Int)<4 by decide),(show (4:Int)<1073741824 by decide)⟩,_,rfl,_,_,rfl,rfl,cM,?_⟩
  obtain⟨j,hj,hj2⟩:∃j:Nat,C / 4 % M=(j:Int)/\j<ps.length:=by
   have h0:=Int.emod_nonneg (C / 4) (show M≠0 by omega);have h1:=Int.emod_lt_of_pos (C / 4) cM;exact⟨(C / 4 % M).toNat,by omega,by omega⟩
  dsimp only[gName];rw[hj];obtain⟨qj,eqj⟩:∃q,ps[j]?=some q:=⟨_,lW hj2⟩;obtain⟨uj,euj,pj,xj,yj,rfl,hpj,rx,ry⟩:=zBC p3 eqj;have mj:=lM eqj;obtain⟨⟨a1,a2,a3⟩,b1,b2,b3⟩:=hp2 qj mj
  have hix:ixN us.length (j:Int)=some j:=by
   unfold ixN;rw[if_pos (by omega),if_pos (by omega),Int.toNat_natCast]
  refine⟨_,rfl,_,rfl,pl,us,_,_,rfl,rfl,SqL.of e3,zAP euj,pj,_,rfl,SqT.of hpj,rfl,_,_,rfl,_,_,rfl,rfl,?_⟩;refine⟨_,rfl,_,_,rfl,rfl,⟨(show (0:Int)<44 by decide),(show (44:Int)<1073741824 by decide)⟩,_,_,rfl,rfl,(show (0:Int)<2 by decide),rfl,_,rfl,ite2 (λ Ω=>?_) (λ Ω=>?_)⟩
  ·refine⟨_,rfl,_,rfl,_,_,rfl,rfl,⟨(show (0:Int)<88 by decide),(show (88:Int)<1073741824 by decide)⟩,_,_,rfl,rfl,⟨by decide,by decide,by decide⟩,_,_,rfl,rfl,(show (0:Int)<10 ^ 9 by decide),qj.1,xj,_,6,rfl,rx,a1,by decide,by decide,by decide,λ t' v' H4 g4 r4 l4 s4=>⟨_,rfl,d2,λ tp htp=>?_⟩⟩
   have g5:=zAC (o:=.tup [v',yj]) htp;have gA:=g4.trans g5;have fs:=gA _ _ f3;have k6:Tk _ _:=Tk.lst (o:=.lst (us.set j (.ref tp))) fs;refine⟨_,rfl,_,rfl,sl,us,_,j,rfl,rfl,fs,hix,fin2 true (us.set j (.ref tp)) (ps.set j (t',qj.2)) _ _ _ _ (zAU (g03.trans gA) hsl0) (by rw[zAK nps];exact gA _ _ e3) (Paired.mapP p3 λ Ω Ω z=>z.mono (gA.tk.trans k6)) zAA (zCa ⟨tp,v',yj,rfl,k6 _ _ zAA,r4.mono (g5.tk.trans k6),ry.mono (gA.tk.trans k6)⟩ (Paired.mapP p3 λ Ω Ω z=>z.mono (gA.tk.trans k6)) j) ⟨by simp,λ q hq=>?_,(λ z=>nomatch z),λ Ω=>⟨(t',qj.2),?_,.inl l4⟩⟩⟩
   ·rcases List.mem_or_eq_of_mem_set hq with z|z
    ·exact same0.sz q z
    ·rw[z]
     exact⟨by show t'.size<=60;omega,by show qj.2.size<=60;omega⟩
   ·exact List.mem_iff_getElem?.mpr ⟨j,by rw[rL hj2]⟩
  ·refine⟨_,rfl,_,rfl,_,rfl,_,_,rfl,rfl,⟨(show (0:Int)<88 by decide),(show (88:Int)<1073741824 by decide)⟩,_,_,rfl,rfl,⟨by decide,by decide,by decide⟩,_,_,rfl,rfl,(show (0:Int)<10 ^ 9 by decide),qj.2,yj,_,6,rfl,ry,b1,by decide,by decide,by decide,λ t' v' H4 g4 r4 l4 s4=>⟨d2,λ tp htp=>?_⟩⟩
   have g5:=zAC (o:=.tup [xj,v']) htp;have gA:=g4.trans g5;have fs:=gA _ _ f3;have k6:Tk _ _:=Tk.lst (o:=.lst (us.set j (.ref tp))) fs;refine⟨_,rfl,_,rfl,sl,us,_,j,rfl,rfl,fs,hix,fin2 true (us.set j (.ref tp)) (ps.set j (qj.1,t')) _ _ _ _ (zAU (g03.trans gA) hsl0) (by rw[zAK nps];exact gA _ _ e3) (Paired.mapP p3 λ Ω Ω z=>z.mono (gA.tk.trans k6)) zAA (zCa ⟨tp,xj,v',rfl,k6 _ _ zAA,rx.mono (gA.tk.trans k6),r4.mono (g5.tk.trans k6)⟩ (Paired.mapP p3 λ Ω Ω z=>z.mono (gA.tk.trans k6)) j) ⟨by simp,λ q hq=>?_,(λ z=>nomatch z),λ Ω=>⟨(qj.1,t'),?_,.inr l4⟩⟩⟩
   ·rcases List.mem_or_eq_of_mem_set hq with z|z
    ·exact same0.sz q z
    ·rw[z]
     exact⟨by show qj.1.size<=60;omega,by show t'.size<=60;omega⟩
   ·exact List.mem_iff_getElem?.mpr ⟨j,by rw[rL hj2]⟩)
 clear hN;refine⟨_,rfl,_,_,rfl,rfl,_,rfl,ite2 (λ c=>?_) (λ c=>iteF (fin us ps H1 g1 e1 p1 l1 hp1))⟩;refine⟨_,rfl,a,ns,0,rfl,g1.seq hS,by decide,λ i1=>⟨_,_,rfl,rfl,⟨(show (0:Int)<11 by decide),(show (11:Int)<1073741824 by decide)⟩,_,_,rfl,rfl,(show (0:Int)<2 by decide),rfl,_,rfl,ite2 (λ Ω=>?_) (λ Ω=>fin us ps H1 g1 e1 p1 l1 hp1)⟩⟩;have c2:(2:Int)<M:=lT c;have lu:us.length=ps.length:=zAG p1;obtain⟨q0,eq0⟩:∃q0,ps[0]?=some q0:=⟨_,lW (by omega)⟩;obtain⟨u0,eu0,p0,x0,y0,rfl,h0,rx,ry⟩:=zBC p1 eq0;have at0:atI us 0=some (.ref p0):=zAP (j:=0) eu0;refine⟨_,rfl,pl,us,0,_,rfl,rfl,SqL.of e1,at0,p0,_,1,_,rfl,rfl,SqT.of h0,rfl,_,rfl,pl,us,0,_,rfl,rfl,SqL.of e1,at0,p0,_,0,_,rfl,rfl,SqT.of h0,rfl,d2,λ tp htp=>?_⟩;have g2:=zAC (o:=.tup [y0,x0]) htp;have e2:=g2 _ _ e1;have k3:Tk _ _:=Tk.lst (o:=.lst (us.set 1 (.ref tp))) e2;refine⟨_,rfl,pl,us,1,1,rfl,rfl,e2,?_,fin (us.set 1 (.ref tp)) (ps.set 1 (q0.2,q0.1)) _ (zAU (g1.trans g2) hpl) zAA (zCa ⟨tp,y0,x0,rfl,k3 _ _ zAA,ry.mono (g2.tk.trans k3),rx.mono (g2.tk.trans k3)⟩ (Paired.mapP p1 λ Ω Ω z=>z.mono (g2.tk.trans k3)) 1) (by simp[l1]) λ q hq=>?_⟩
 ·unfold ixN
  rw[if_pos (by decide),if_pos (by omega)];rfl
 ·rcases List.mem_or_eq_of_mem_set hq with z|z
  ·exact hp1 q z
  ·rw[z]
   have:=hp1 q0 (lM eq0);exact⟨this.2,this.1⟩
section
variable {k:Nat}{f:Addr}{fd:FuncData}
theorem zKm (h:FnOk P w K mg base CX0 k f fd ["rule"] zG2):FnOk P w K mg base CX0 k f fd ["rule"] (zDS rLeaf):=h.imp λ vs H Q E ⟨p,t,u,ks,e,hR,q⟩=>by
 obtain⟨a,b,c,hS,hK⟩:=hR.ru;exact⟨t,p,a,_,e,hS.hp,hS.ra,q _ H (.refl H) Iff.rfl⟩
theorem zJS (h:FnOk P w K mg base CX0 k f fd ["rule"] zGy):FnOk P w K mg base CX0 k f fd ["rule"] (zDS zHE):=h.imp λ vs H Q E ⟨p,t,u,ks,e,hR,q⟩=>by
 obtain⟨a,b,c,hS,hK⟩:=hR.ru;exact⟨t,u,p,a,b,c,e,hS.hp,hS.ra,hS.rb,hS.st,hS.su,q⟩
theorem zKo (h:FnOk P w K mg base CX0 k f fd ["rule"] zEi):FnOk P w K mg base CX0 k f fd ["rule"] (zDS rFree):=h.imp λ vs H Q E ⟨p,t,u,ks,e,hR,q⟩=>by
 obtain⟨a,b,c,hS,hK⟩:=hR.ru;obtain⟨ws,l,h1,h2⟩:=hR.ws;exact⟨t,u,p,a,b,c,ws,e,hS.hp,hS.ra,hS.rb,hS.st,hS.su,l,h1,h2,q⟩
theorem zKj (h:FnOk P w K mg base CX0 k f fd ["rule"] zIL):FnOk P w K mg base CX0 k f fd ["rule"] (zDS rTold):=h.imp λ vs H Q E ⟨p,t,u,ks,e,hR,q⟩=>by
 obtain⟨a,b,c,hS,hK⟩:=hR.ru;exact⟨t,u,ks,p,a,b,c,e,hS,hR.h4,hK,hR.nd,hR.lk,q⟩
theorem zMP (h:FnOk P w K mg base CX0 k f fd ["rule"] zFs):FnOk P w K mg base CX0 k f fd ["rule"] (zDS rGap):=h.imp λ vs H Q E ⟨p,t,u,ks,e,hR,q⟩=>by
 obtain⟨a,b,c,hS,hK⟩:=hR.ru;exact⟨t,u,p,a,b,c,e,hS,q⟩
theorem zKn (h:FnOk P w K mg base CX0 k f fd ["rule"] zFo):FnOk P w K mg base CX0 k f fd ["rule"] (zDS rKind):=h.imp λ vs H Q E ⟨p,t,u,ks,e,hR,q⟩=>by
 obtain⟨a,b,c,hS,hK⟩:=hR.ru;exact⟨t,u,ks,p,a,b,c,e,hS,hK,q⟩
theorem zKl (h:FnOk P w K mg base CX0 k f fd ["rule"] zG7):FnOk P w K mg base CX0 k f fd ["rule"] (zDS rLoud):=h.imp λ vs H Q E ⟨p,t,u,ks,e,hR,q⟩=>by
 obtain⟨a,b,c,hS,hK⟩:=hR.ru;exact⟨t,u,p,a,b,_,e,hS.hp,hS.ra,hS.rb,hS.st,hS.su,q⟩
end
theorem zMQ {k:Nat}{f1 f2 f3 f4 f5 f6 f7:Addr}(h1:DueF P w K mg base k f1 rLeaf) (h2:DueF P w K mg base k f2 zHE) (h3:DueF P w K mg base k f3 rFree) (h4:DueF P w K mg base k f4 rTold) (h5:DueF P w K mg base k f5 rGap) (h6:DueF P w K mg base k f6 rKind) (h7:DueF P w K mg base k f7 rLoud) :
  ∀q∈zAt.zip [f1,f2,f3,f4,f5,f6,f7],DueF P w K mg base k q.2 q.1.2:=by
 intro q hq;have hq':q∈[((("leaf" : Str),(rLeaf:RP)),f1),((("twice" : Str),(zHE:RP)),f2),((("free" : Str),(rFree:RP)),f3),((("told" : Str),(rTold:RP)),f4),((("gap" : Str),(rGap:RP)),f5),((("kind" : Str),(rKind:RP)),f6),((("loud" : Str),(rLoud:RP)),f7)]:=hq;rcases lN.mp hq' with rfl|hq'
 ·exact h1
 rcases lN.mp hq' with rfl|hq'
 ·exact h2
 rcases lN.mp hq' with rfl|hq'
 ·exact h3
 rcases lN.mp hq' with rfl|hq'
 ·exact h4
 rcases lN.mp hq' with rfl|hq'
 ·exact h5
 rcases lN.mp hq' with rfl|hq'
 ·exact h6
 rcases lN.mp hq' with rfl|hq'
 ·exact h7
 ·cases hq'
theorem zHn {r1 r2 r3 r4 r5 r6 r7 f1 f2 f3 f4 f5 f6 f7:Addr}(h1:TupK K r1 [.str "leaf", .ref f1]) (h2:TupK K r2 [.str "twice", .ref f2]) (h3:TupK K r3 [.str "free", .ref f3]) (h4:TupK K r4 [.str "told", .ref f4]) (h5:TupK K r5 [.str "gap", .ref f5]) (h6:TupK K r6 [.str "kind", .ref f6]) (h7:TupK K r7 [.str "loud", .ref f7]) :
  Paired (λ(a:Addr) (q:(Str × RP) × Addr)=>TupK K a [.str q.1.1,.ref q.2]) [r1,r2,r3,r4,r5,r6,r7] (zAt.zip [f1,f2,f3,f4,f5,f6,f7]):=.cons h1 (.cons h2 (.cons h3 (.cons h4 (.cons h5 (.cons h6 (.cons h7 .nil))))))
theorem zFR {K:W.Frag}{f:Addr}{oc:Value}{od:Option Addr}{fd:FuncData}{sl:Array (Option Value)}(l:K.lookup f=some ⟨oc,od,.func fd,sl⟩):W.keepIn K (.ref f)=true:=by unfold W.keepIn;dsimp only;rw[l]
def DfA (K:W.Frag) (x:Str) (s:Stmt) (f:Addr):Prop:=∃fd,W.nsIn K mainGlobals x=some (some (.ref f))/\Fun K x x s f fd
theorem dfa {K:W.Frag}{x:Str}{st:Stmt}{f:Addr}{oc:Value}{od an:Option Addr}{osl:Array (Option Value)}{kV doc pm cdv ct:Value}(a:W.nsIn K mainGlobals x=some (some (.ref f))) (l:K.lookup f=some ⟨oc,od,.func (W.fnOf x x (zBJ st) (zAx st) (zAH st) .none kV doc pm an cdv ct),osl⟩) (c:W.codeIn K cdv x=true):DfA K x st f:=⟨_,a,zJJ l c (zFR l)⟩
theorem DfA.go {K:W.Frag}{x:Str}{s:Stmt}{f:Addr}{h:Heap}{mg:Str->Option Value}(d:DfA K x s f) (X:K.In h) (G:h.Ns mainGlobals mg):∃fd,Fun K x x s f fd/\mg x=some (.ref f):=d.elim λ fd h=>⟨fd,h.2,W.mg_of X G h.1⟩
theorem us1 {p:List Value->Prop}(h:∀a,p [a]):∀us:List Value,us.length=1->p us:=λ us q=>by
 obtain _|⟨a,us⟩:=us
 ·cases q
 obtain _|⟨z,us⟩:=us
 ·exact h a
 ·simp at q
theorem us2 {p:List Value->Prop}(h:∀a b,p [a,b]):∀us:List Value,us.length=2->p us:=λ us q=>by
 obtain _|⟨a,us⟩:=us
 ·cases q
 obtain _|⟨b,us⟩:=us
 ·cases q
 obtain _|⟨z,us⟩:=us
 ·exact h a b
 ·simp at q
theorem us3 {p:List Value->Prop}(h:∀a b c,p [a,b,c]):∀us:List Value,us.length=3->p us:=λ us q=>by
 obtain _|⟨a,us⟩:=us
 ·cases q
 obtain _|⟨b,us⟩:=us
 ·cases q
 obtain _|⟨c,us⟩:=us
 ·cases q
 obtain _|⟨z,us⟩:=us
 ·exact h a b c
 ·simp at q
theorem ud1:∀{us:List Value},us.length=1->∃a,us=[a]
 |[a],_=>⟨a,rfl⟩
theorem ud2:∀{us:List Value},us.length=2->∃a b,us=[a,b]
 |[a,b],_=>⟨a,b,rfl⟩
theorem all_mk {l:W.OpenLaw}{w:World}{K:W.Frag}{h:Heap}{mg:Str->Option Value}{fa f0 f1 f2 f3 f4 f5 f6 f7 f8 f9 f10 f11 f12 f13 f14 f15 f16 f17 f18 f19 f20 f21 f22 f23 f24 f25 f26 f27 f28 f29 f30 f31 f32 f33 f34 f35 f36 f37 f38 f39 f40 f41 f42 f43 f44 f45 f46 lv_LEAF_SIGNS lv_LOUD_SIGNS lv_KEPT_WORDS zOM zOQ zOR zOS la r1 r2 r3 r4 r5 r6 r7:Addr}(X:K.In h) (G:h.Ns mainGlobals mg) (hfa:mg "law" = some (.ref fa))
  {od19 an19:Option Addr}{sl19:Array (Option Value)}{oc19 kV19 dc19 pm19 cd19 ct19:Value}
  {dt19:Addr}{odT19:Option Addr}{slT19:Array (Option Value)}{ocT19:Value}{nT19:Nat}
  {od45 an45:Option Addr}{sl45:Array (Option Value)}{oc45 kV45 dc45 pm45 cd45 ct45:Value}
  {od46 an46:Option Addr}{sl46:Array (Option Value)}{oc46 kV46 dc46 pm46 cd46 ct46:Value}
  {odC0:Option Addr}{slC0:Array (Option Value)}{nC0:Nat}{tC0_0 tC0_1 tC0_2 tC0_3 tC0_4:Tok}
  {odC1:Option Addr}{slC1:Array (Option Value)}{nC1:Nat}{tC1_0 tC1_1 tC1_2:Tok}
  {odC2:Option Addr}{slC2:Array (Option Value)}{nC2:Nat}{tC2_0 tC2_1 tC2_2 tC2_3 tC2_4 tC2_5 tC2_6 tC2_7 tC2_8 tC2_9 tC2_10:Tok}
  {tkL tkM:Tok}{dd_RecastError dd_NoRule dd_NoPair dd_NoFill:Option Addr}{cd_RecastError cd_NoRule cd_NoPair cd_NoFill:ClassData}{sl_RecastError sl_NoRule sl_NoPair sl_NoFill:Array (Option Value)}
  {xnm xq:Str}{xN:Addr}{xbs xsub:List Value}{xsn:List Str}{xab:Bool}{xcol:Option Bool}{xdd:Option Addr}{xk0 xk1 xk2 xk3 xk5:Option Value}
  {od_rs od_r1 od_r2 od_r3 od_r4 od_r5 od_r6 od_r7:Option Addr}{sl_rs sl_r1 sl_r2 sl_r3 sl_r4 sl_r5 sl_r6 sl_r7:Array (Option Value)}{n_rs n_r1 n_r2 n_r3 n_r4 n_r5 n_r6 n_r7:Nat}{t_r1 t_r2 t_r3 t_r4 t_r5 t_r6 t_r7:Tok}
  (a0:DfA K "parts_begin" zB6 f0)
  (a1:DfA K "parts" zGb f1)
  (a2:DfA K "with_parts" zCK f2)
  (a3:DfA K "all_parts" zCi f3)
  (a4:DfA K "placed_parts" zBr f4)
  (a5:DfA K "names_at" zDF f5)
  (a6:DfA K "bound_in" zDI f6)
  (a7:DfA K "free_names" zCN f7)
  (a8:DfA K "same_name" zGa f8)
  (a9:DfA K "alike_leaves" zBu f9)
  (a10:DfA K "alike_heads" zCD f10)
  (a11:DfA K "word_of" zDu f11)
  (a12:DfA K "unused_word" zB4 f12)
  (a13:DfA K "grown_level" zB9 f13)
  (a14:DfA K "grown_tree" zCM f14)
  (a15:DfA K "gap_parts" zCh f15)
  (a16:DfA K "counted_gaps" zBs f16)
  (a17:DfA K "gaps_of" zDy f17)
  (a18:DfA K "is_loud" zDw f18)
  (a19:W.nsIn K mainGlobals "is_quiet" = some (some (.ref f19)))
  (l19:K.lookup f19=some ⟨oc19,od19,.func (W.fnOf "is_quiet" "is_quiet" (zBJ zAo) (zAx zAo) (zAH zAo) (.ref dt19) kV19 dc19 pm19 an19 cd19 ct19),sl19⟩) (c19:W.codeIn K cd19 "is_quiet" = true)
  (lT19:K.lookup dt19=some ⟨ocT19,odT19,.seq #[.none] nT19,slT19⟩)
  (a20:DfA K "begins_with_leaf" zBH f20)
  (a21:DfA K "binds_twice" zCB f21)
  (a22:DfA K "has_free_name" zBe f22)
  (a23:DfA K "tells_no_piece" zBS f23)
  (a24:DfA K "has_unlike_counts" zA9 f24)
  (a25:DfA K "has_no_number_atom" zA3 f25)
  (a26:DfA K "is_told_wrong" zBd f26)
  (a27:DfA K "has_new_gap" zB8 f27)
  (a28:DfA K "has_wrong_kind" zBT f28)
  (a29:DfA K "grows_loud" zCL f29)
  (a30:DfA K "form" zIT f30)
  (a31:DfA K "has_let" zDx f31)
  (a32:DfA K "check_pairs" zCA f32)
  (a33:DfA K "begin_alike" zCC f33)
  (a34:DfA K "rows_within" zB5 f34)
  (a35:DfA K "gap_for" zDz f35)
  (a36:DfA K "common_shape" zBt f36)
  (a37:DfA K "kind_of" zDv f37)
  (a38:DfA K "kinds_of" zDH f38)
  (a39:DfA K "read_off" zDE f39)
  (a40:DfA K "_law_cell_at" zB7 f40)
  (a41:DfA K "_law_word" zDG f41)
  (a42:DfA K "_law_tree" zCX f42)
  (a43:DfA K "_law_with_let" zBN f43)
  (a44:DfA K "_law_asked" zCg f44)
  (a45:W.nsIn K mainGlobals "law" = some (some (.ref f45)))
  (l45:K.lookup f45=some ⟨oc45,od45,.func (W.fnOf "law" "law" (zBJ s_law) (zAx s_law) (zAH s_law) .none kV45 dc45 pm45 an45 cd45 ct45),sl45⟩) (c45:W.codeIn K cd45 "law" = true)
  (a46:W.findIn K (.ref zOQ) "__init__" = some (some (.ref f46))) (i46:W.isFn K (.ref f46)=true)
  (l46:K.lookup f46=some ⟨oc46,od46,.func (W.fnOf "__init__" "NoRule.__init__" (zBJ zAj) (zAx zAj) (zAH zAj) .none kV46 dc46 pm46 an46 cd46 ct46),sl46⟩) (c46:W.codeIn K cd46 "NoRule.__init__" = true)
  (aC0:W.nsIn K mainGlobals "LEAF_SIGNS" = some (some (.ref lv_LEAF_SIGNS))) (lC0:K.lookup lv_LEAF_SIGNS=some ⟨.type "tuple", odC0,.seq #[.str "num" tC0_0,.str "name" tC0_1,.str "ask" tC0_2,.str "stop" tC0_3,.str "gap" tC0_4] nC0,slC0⟩)
  (aC1:W.nsIn K mainGlobals "LOUD_SIGNS" = some (some (.ref lv_LOUD_SIGNS))) (lC1:K.lookup lv_LOUD_SIGNS=some ⟨.type "tuple", odC1,.seq #[.str "say" tC1_0,.str "ask" tC1_1,.str "stop" tC1_2] nC1,slC1⟩)
  (aC2:W.nsIn K mainGlobals "KEPT_WORDS" = some (some (.ref lv_KEPT_WORDS))) (lC2:K.lookup lv_KEPT_WORDS=some ⟨.type "tuple", odC2,.seq #[.str "let" tC2_0,.str "in" tC2_1,.str "if" tC2_2,.str "then" tC2_3,.str "else" tC2_4,.str "say" tC2_5,.str "ask" tC2_6,.str "stop" tC2_7,.str "where" tC2_8,.str "quiet" tC2_9,.str "number" tC2_10] nC2,slC2⟩)
  (aX0:W.nsIn K mainGlobals "RecastError" = some (some (.ref zOM)))
  (aX1:W.nsIn K mainGlobals "NoRule" = some (some (.ref zOQ)))
  (aX2:W.nsIn K mainGlobals "NoPair" = some (some (.ref zOR)))
  (aX3:W.nsIn K mainGlobals "NoFill" = some (some (.ref zOS)))
  (xP:W.excIn K zOR bmVE "ValueError.__new__" = true)
  (xR:W.excIn K zOM W.mroVE "ValueError.__new__" = true)
  (RecastError_ga:W.findIn K (.ref zOM) "__getattribute__" = some (some (.builtin "BaseException.__getattribute__")))
  (RecastError_gt:W.findIn K (.ref zOM) "__getattr__" = some none)
  (RecastError_bs:W.mroIn K zOM (.type "BaseException")=some true)
  (RecastError_cl:W.findIn K (.ref zOM) "__class__" = some (some (.builtin "object.__class__")))
  (RecastError_ob:W.mroIn K zOM (.type "object")=some true)
  (RecastError_ty:W.typeIn K (.ref zOM)=some (.type "type"))
  (NoRule_ga:W.findIn K (.ref zOQ) "__getattribute__" = some (some (.builtin "BaseException.__getattribute__")))
  (NoRule_gt:W.findIn K (.ref zOQ) "__getattr__" = some none)
  (NoRule_bs:W.mroIn K zOQ (.type "BaseException")=some true)
  (NoRule_cl:W.findIn K (.ref zOQ) "__class__" = some (some (.builtin "object.__class__")))
  (NoRule_ob:W.mroIn K zOQ (.type "object")=some true)
  (NoRule_ty:W.typeIn K (.ref zOQ)=some (.type "type"))
  (NoPair_ga:W.findIn K (.ref zOR) "__getattribute__" = some (some (.builtin "BaseException.__getattribute__")))
  (NoPair_gt:W.findIn K (.ref zOR) "__getattr__" = some none)
  (NoPair_bs:W.mroIn K zOR (.type "BaseException")=some true)
  (NoPair_cl:W.findIn K (.ref zOR) "__class__" = some (some (.builtin "object.__class__")))
  (NoPair_ob:W.mroIn K zOR (.type "object")=some true)
  (NoPair_ty:W.typeIn K (.ref zOR)=some (.type "type"))
  (lk_RecastError:K.lookup zOM=some ⟨.type "type", dd_RecastError,.cls cd_RecastError,sl_RecastError⟩)
  (lk_NoPair:K.lookup zOR=some ⟨.type "type", dd_NoPair,.cls cd_NoPair,sl_NoPair⟩)
  (lk_NoRule:K.lookup zOQ=some ⟨.type "type", dd_NoRule,.cls cd_NoRule,sl_NoRule⟩)
  (lk_NoFill:K.lookup zOS=some ⟨.type "type", dd_NoFill,.cls cd_NoFill,sl_NoFill⟩)
  (lkN:K.lookup zOQ=some (excClassObj xnm xq zOQ xN xbs (.ref zOM::W.mroVE) true xsn xsub xab xcol xdd xk0 xk1 xk2 xk3 xk5 "ValueError.__new__"))
  (mV:W.mroIn K zOQ (.type "ValueError")=some true)
  (nWhy:W.findIn K (.ref zOQ) "why" = some none)
  (nSa:W.findIn K (.ref zOQ) "__setattr__" = some (some (.builtin "object.__setattr__")))
  (kpN:W.keepIn K (.ref zOQ)=true)
  (fnI:W.typeIn K (.ref f46)=some (.type "function"))
  (spR:W.specialIn K (.ref zOM) "__getattribute__" = some (some (.builtin "type.__getattribute__")))
  (rdR:W.readsIn K zOM (.type "type")=true)
  (fcR:W.findCls K (.ref zOM) (.type "type") "__init__" = some (.val (.builtin "ValueError.__init__")))
  (aRs:W.nsIn K mainGlobals "REASONS" = some (some (.ref la)))
  (lRs:K.lookup la=some ⟨.type "tuple", od_rs,.seq #[.ref r1,.ref r2,.ref r3,.ref r4,.ref r5,.ref r6,.ref r7] n_rs,sl_rs⟩)
  (lr1:K.lookup r1=some ⟨.type "tuple", od_r1,.seq #[.str "leaf" t_r1,.ref f20] n_r1,sl_r1⟩)
  (lr2:K.lookup r2=some ⟨.type "tuple", od_r2,.seq #[.str "twice" t_r2,.ref f21] n_r2,sl_r2⟩)
  (lr3:K.lookup r3=some ⟨.type "tuple", od_r3,.seq #[.str "free" t_r3,.ref f22] n_r3,sl_r3⟩)
  (lr4:K.lookup r4=some ⟨.type "tuple", od_r4,.seq #[.str "told" t_r4,.ref f26] n_r4,sl_r4⟩)
  (lr5:K.lookup r5=some ⟨.type "tuple", od_r5,.seq #[.str "gap" t_r5,.ref f27] n_r5,sl_r5⟩)
  (lr6:K.lookup r6=some ⟨.type "tuple", od_r6,.seq #[.str "kind" t_r6,.ref f28] n_r6,sl_r6⟩)
  (lr7:K.lookup r7=some ⟨.type "tuple", od_r7,.seq #[.str "loud" t_r7,.ref f29] n_r7,sl_r7⟩)
  (ne_NoPairNoRule:zOR≠zOQ)
  (sb_NoPairNoRule:W.subIn K (.ref zOR) (.ref zOQ)=some false)
  (ne_NoPairNoFill:zOR≠zOS)
  (sb_NoPairNoFill:W.subIn K (.ref zOR) (.ref zOS)=some false)
  (ne_NoRuleNoPair:zOQ≠zOR)
  (sb_NoRuleNoPair:W.subIn K (.ref zOQ) (.ref zOR)=some false)
  (ne_NoRuleNoFill:zOQ≠zOS)
  (sb_NoRuleNoFill:W.subIn K (.ref zOQ) (.ref zOS)=some false)
  (sv_NoPair:W.subIn K (.ref zOR) (.type "ValueError")=some true)
  (mr_NoPair:W.mroIn K zOR (.ref zOM)=some true)
  (sv_NoRule:W.subIn K (.ref zOQ) (.type "ValueError")=some true)
  (mr_NoRule:W.mroIn K zOQ (.ref zOM)=some true)
  (aLt:W.nsIn K mainGlobals "LETTERS" = some (some (.str "abcdefghijklmnopqrstuvwxyz" tkL)))
  (aMp:W.nsIn K mainGlobals "MOST_PAIRS" = some (some (.int 8 tkM)))
  (z_len:W.nsIn K mainGlobals "len" = some none)
  (z_range:W.nsIn K mainGlobals "range" = some none)
  (z_isinstance:W.nsIn K mainGlobals "isinstance" = some none)
  (z_tuple:W.nsIn K mainGlobals "tuple" = some none)
  (z_list:W.nsIn K mainGlobals "list" = some none)
  (z_any:W.nsIn K mainGlobals "any" = some none)
  (z_all:W.nsIn K mainGlobals "all" = some none)
  (z_sorted:W.nsIn K mainGlobals "sorted" = some none)
  (z_enumerate:W.nsIn K mainGlobals "enumerate" = some none)
  (z_set:W.nsIn K mainGlobals "set" = some none)
  (z_dict:W.nsIn K mainGlobals "dict" = some none)
  (z_reversed:W.nsIn K mainGlobals "reversed" = some none)
  (z_ValueError:W.nsIn K mainGlobals "ValueError" = some none)
  : ∃fd:FuncData,(∀(s:Shared) (v:Value),BindsTo s fd ⟨[v],[]⟩ [("_law_script", v)])/\∀base:Heap,K.In base->base.Ns mainGlobals mg->FnOk l.prog w K mg base CX0 13 fa fd ["_law_script"] (zG3 K):=by
 have e:=hfa.symm.trans (W.mg_of X G a45);cases e;have z_len:=W.mg_none_of X G z_len;have z_range:=W.mg_none_of X G z_range;have z_isinstance:=W.mg_none_of X G z_isinstance;have z_tuple:=W.mg_none_of X G z_tuple;have z_list:=W.mg_none_of X G z_list;have z_any:=W.mg_none_of X G z_any;have z_all:=W.mg_none_of X G z_all;have z_sorted:=W.mg_none_of X G z_sorted;have z_enumerate:=W.mg_none_of X G z_enumerate;have z_set:=W.mg_none_of X G z_set;have z_dict:=W.mg_none_of X G z_dict;have z_reversed:=W.mg_none_of X G z_reversed;have z_ValueError:=W.mg_none_of X G z_ValueError;have zNc:=W.mg_of X G aC0;have h_LEAF_SIGNS:zC8 K lv_LEAF_SIGNS:=⟨_,_,_,lC0,rfl,rfl,(by show 5<=sizeLine;decide),(.cons ⟨_,rfl⟩ (.cons ⟨_,rfl⟩ (.cons ⟨_,rfl⟩ (.cons ⟨_,rfl⟩ (.cons ⟨_,rfl⟩ .nil)))))⟩;have zNf:=W.mg_of X G aC1;have h_LOUD_SIGNS:zEU K lv_LOUD_SIGNS:=⟨_,_,_,lC1,rfl,rfl,(by show 3<=sizeLine;decide),(.cons ⟨_,rfl⟩ (.cons ⟨_,rfl⟩ (.cons ⟨_,rfl⟩ .nil)))⟩;have zN5:=W.mg_of X G aC2;have h_KEPT_WORDS:KeptW K lv_KEPT_WORDS:=⟨_,_,_,lC2,rfl,rfl,(by show 11<=sizeLine;decide),(.cons ⟨_,rfl⟩ (.cons ⟨_,rfl⟩ (.cons ⟨_,rfl⟩ (.cons ⟨_,rfl⟩ (.cons ⟨_,rfl⟩ (.cons ⟨_,rfl⟩ (.cons ⟨_,rfl⟩ (.cons ⟨_,rfl⟩ (.cons ⟨_,rfl⟩ (.cons ⟨_,rfl⟩ (.cons ⟨_,rfl⟩ .nil)))))))))))⟩;have zNs:=W.mg_of X G aX0;have zNu:=W.mg_of X G aX1;have zNz:=W.mg_of X G aX2;have zOL:=W.mg_of X G aX3;have XRecastError:ExC K zOM:=⟨⟨RecastError_ga,RecastError_gt,RecastError_bs,RecastError_cl,RecastError_ob,zHW lk_RecastError⟩,RecastError_ty⟩;have XNoRule:ExC K zOQ:=⟨⟨NoRule_ga,NoRule_gt,NoRule_bs,NoRule_cl,NoRule_ob,zHW lk_NoRule⟩,NoRule_ty⟩;have XNoPair:ExC K zOR:=⟨⟨NoPair_ga,NoPair_gt,NoPair_bs,NoPair_cl,NoPair_ob,zHW lk_NoPair⟩,NoPair_ty⟩;have XCR:=XRecastError;have XN:Er K zOM zOR zOQ zOS zOR true:=⟨XNoPair.toExCls,mr_NoPair,zHS,zFQ ne_NoPairNoRule lk_NoRule sb_NoPairNoRule,zFQ ne_NoPairNoFill lk_NoFill sb_NoPairNoFill,zLG (by symm) sv_NoPair⟩;have XU:Er K zOM zOR zOQ zOS zOQ false:=⟨XNoRule.toExCls,mr_NoRule,zFQ ne_NoRuleNoPair lk_NoPair sb_NoRuleNoPair,zHS,zFQ ne_NoRuleNoFill lk_NoFill sb_NoRuleNoFill,zLG (by symm) sv_NoRule⟩;have XS:XSup K zOM:=⟨spR,_,rdR,fcR⟩;have XC:W.Exc3 K zOQ zOM f46:={ toExc2:=⟨⟨_,_,_,lkN,rfl,rfl⟩,nSa⟩,toExCls:=XNoRule.toExCls,obj:=⟨_,_,_,_,_,_,_,_,_,_,_,_,_,_,lkN⟩,tail:=zGR xR,init:=a46,fn:=fnI };have zNt:=W.mg_of X G aRs;have hRs:TupK K la ([r1,r2,r3,r4,r5,r6,r7].map V.ref):=⟨_,_,_,lRs,rfl,rfl,(by show 7<=sizeLine;decide),.cons rfl (.cons rfl (.cons rfl (.cons rfl (.cons rfl (.cons rfl (.cons rfl .nil))))))⟩;have hr1:TupK K r1 [.str "leaf", .ref f20]:=⟨_,_,_,lr1,rfl,rfl,(by show 2<=sizeLine;decide),.cons ⟨_,rfl⟩ (.cons rfl .nil)⟩;have hr2:TupK K r2 [.str "twice", .ref f21]:=⟨_,_,_,lr2,rfl,rfl,(by show 2<=sizeLine;decide),.cons ⟨_,rfl⟩ (.cons rfl .nil)⟩;have hr3:TupK K r3 [.str "free", .ref f22]:=⟨_,_,_,lr3,rfl,rfl,(by show 2<=sizeLine;decide),.cons ⟨_,rfl⟩ (.cons rfl .nil)⟩;have hr4:TupK K r4 [.str "told", .ref f26]:=⟨_,_,_,lr4,rfl,rfl,(by show 2<=sizeLine;decide),.cons ⟨_,rfl⟩ (.cons rfl .nil)⟩;have hr5:TupK K r5 [.str "gap", .ref f27]:=⟨_,_,_,lr5,rfl,rfl,(by show 2<=sizeLine;decide),.cons ⟨_,rfl⟩ (.cons rfl .nil)⟩;have hr6:TupK K r6 [.str "kind", .ref f28]:=⟨_,_,_,lr6,rfl,rfl,(by show 2<=sizeLine;decide),.cons ⟨_,rfl⟩ (.cons rfl .nil)⟩;have hr7:TupK K r7 [.str "loud", .ref f29]:=⟨_,_,_,lr7,rfl,rfl,(by show 2<=sizeLine;decide),.cons ⟨_,rfl⟩ (.cons rfl .nil)⟩;have hIn:=zHn hr1 hr2 hr3 hr4 hr5 hr6 hr7;have zN4:mg "LETTERS" = some (.str abcS tkL):=W.mg_of X G aLt;have m_MP:=W.mg_of X G aMp;obtain⟨_,F0,m0⟩:=a0.go X G;have b0:=F0.binds (ps:=["tree"]) λ Ω Ω Ω Ω Ω Ω=>us1 λ Ω=>rfl;obtain⟨_,F1,m1⟩:=a1.go X G;have b1:=F1.binds (ps:=["tree"]) λ Ω Ω Ω Ω Ω Ω=>us1 λ Ω=>rfl;obtain⟨_,F2,m2⟩:=a2.go X G;have b2:=F2.binds (ps:=["tree", "parts"]) λ Ω Ω Ω Ω Ω Ω=>us2 λ Ω Ω=>rfl;obtain⟨_,F3,m3⟩:=a3.go X G;have b3:=F3.binds (ps:=["tree"]) λ Ω Ω Ω Ω Ω Ω=>us1 λ Ω=>rfl;obtain⟨_,F4,m4⟩:=a4.go X G;have b4:=F4.binds (ps:=["tree"]) λ Ω Ω Ω Ω Ω Ω=>us1 λ Ω=>rfl;obtain⟨_,F5,m5⟩:=a5.go X G;have b5:=F5.binds (ps:=["part"]) λ Ω Ω Ω Ω Ω Ω=>us1 λ Ω=>rfl;obtain⟨_,F6,m6⟩:=a6.go X G;have b6:=F6.binds (ps:=["part", "number", "bound"]) λ Ω Ω Ω Ω Ω Ω=>us3 λ Ω Ω Ω=>rfl;obtain⟨_,F7,m7⟩:=a7.go X G;have b7:=F7.binds (ps:=["tree"]) λ Ω Ω Ω Ω Ω Ω=>us1 λ Ω=>rfl;obtain⟨_,F8,m8⟩:=a8.go X G;have b8:=F8.binds (ps:=["one", "other", "pairs"]) λ Ω Ω Ω Ω Ω Ω=>us3 λ Ω Ω Ω=>rfl;obtain⟨_,F9,m9⟩:=a9.go X G;have b9:=F9.binds (ps:=["one", "other", "pairs"]) λ Ω Ω Ω Ω Ω Ω=>us3 λ Ω Ω Ω=>rfl;obtain⟨_,F10,m10⟩:=a10.go X G;have b10:=F10.binds (ps:=["one", "other", "pairs"]) λ Ω Ω Ω Ω Ω Ω=>us3 λ Ω Ω Ω=>rfl;obtain⟨_,F11,m11⟩:=a11.go X G;have b11:=F11.binds (ps:=["number"]) λ Ω Ω Ω Ω Ω Ω=>us1 λ Ω=>rfl;obtain⟨_,F12,m12⟩:=a12.go X G;have b12:=F12.binds (ps:=["used"]) λ Ω Ω Ω Ω Ω Ω=>us1 λ Ω=>rfl;obtain⟨_,F13,m13⟩:=a13.go X G;have b13:=F13.binds (ps:=["heads", "ready"]) λ Ω Ω Ω Ω Ω Ω=>us2 λ Ω Ω=>rfl;obtain⟨_,F14,m14⟩:=a14.go X G;have b14:=F14.binds (ps:=["levels"]) λ Ω Ω Ω Ω Ω Ω=>us1 λ Ω=>rfl;obtain⟨_,F15,m15⟩:=a15.go X G;have b15:=F15.binds (ps:=["shape"]) λ Ω Ω Ω Ω Ω Ω=>us1 λ Ω=>rfl;obtain⟨_,F16,m16⟩:=a16.go X G;have b16:=F16.binds (ps:=["shape"]) λ Ω Ω Ω Ω Ω Ω=>us1 λ Ω=>rfl;obtain⟨_,F17,m17⟩:=a17.go X G;have b17:=F17.binds (ps:=["shape"]) λ Ω Ω Ω Ω Ω Ω=>us1 λ Ω=>rfl;obtain⟨_,F18,m18⟩:=a18.go X G;have b18:=F18.binds (ps:=["tree"]) λ Ω Ω Ω Ω Ω Ω=>us1 λ Ω=>rfl;have k19:=zFR l19;have F19:=zMK (st:=zAo) (dvs:=[.none]) l19 c19 k19 lT19 rfl;have b190:Binds K (W.fnOf "is_quiet" "is_quiet" (zBJ zAo) (zAx zAo) (zAH zAo) (.ref dt19) kV19 dc19 pm19 an19 cd19 ct19) ["tree", "kinds"] []:=λ s us X hl=>by obtain⟨a,b,rfl⟩:=ud2 (us:=us) (by simpa using hl);first|exact .of_eq rfl|exact W.binds_K X rfl lT19 rfl rfl rfl
 have b191:Binds K (W.fnOf "is_quiet" "is_quiet" (zBJ zAo) (zAx zAo) (zAH zAo) (.ref dt19) kV19 dc19 pm19 an19 cd19 ct19) ["tree", "kinds"] [.none]:=λ s us X hl=>by obtain⟨a,rfl⟩:=ud1 (us:=us) (by simpa using hl);first|exact .of_eq rfl|exact W.binds_K X rfl lT19 rfl rfl rfl
 have m19:=W.mg_of X G a19;obtain⟨_,F20,m20⟩:=a20.go X G;have b20:=F20.binds (ps:=["rule"]) λ Ω Ω Ω Ω Ω Ω=>us1 λ Ω=>rfl;obtain⟨_,F21,m21⟩:=a21.go X G;have b21:=F21.binds (ps:=["rule"]) λ Ω Ω Ω Ω Ω Ω=>us1 λ Ω=>rfl;obtain⟨_,F22,m22⟩:=a22.go X G;have b22:=F22.binds (ps:=["rule"]) λ Ω Ω Ω Ω Ω Ω=>us1 λ Ω=>rfl;obtain⟨_,F23,m23⟩:=a23.go X G;have b23:=F23.binds (ps:=["gap"]) λ Ω Ω Ω Ω Ω Ω=>us1 λ Ω=>rfl;obtain⟨_,F24,m24⟩:=a24.go X G;have b24:=F24.binds (ps:=["rule"]) λ Ω Ω Ω Ω Ω Ω=>us1 λ Ω=>rfl;obtain⟨_,F25,m25⟩:=a25.go X G;have b25:=F25.binds (ps:=["rule"]) λ Ω Ω Ω Ω Ω Ω=>us1 λ Ω=>rfl;obtain⟨_,F26,m26⟩:=a26.go X G;have b26:=F26.binds (ps:=["rule"]) λ Ω Ω Ω Ω Ω Ω=>us1 λ Ω=>rfl;obtain⟨_,F27,m27⟩:=a27.go X G;have b27:=F27.binds (ps:=["rule"]) λ Ω Ω Ω Ω Ω Ω=>us1 λ Ω=>rfl;obtain⟨_,F28,m28⟩:=a28.go X G;have b28:=F28.binds (ps:=["rule"]) λ Ω Ω Ω Ω Ω Ω=>us1 λ Ω=>rfl;obtain⟨_,F29,m29⟩:=a29.go X G;have b29:=F29.binds (ps:=["rule"]) λ Ω Ω Ω Ω Ω Ω=>us1 λ Ω=>rfl;obtain⟨_,F30,m30⟩:=a30.go X G;have b30:=F30.binds (ps:=["rule"]) λ Ω Ω Ω Ω Ω Ω=>us1 λ Ω=>rfl;obtain⟨_,F31,m31⟩:=a31.go X G;have b31:=F31.binds (ps:=["tree"]) λ Ω Ω Ω Ω Ω Ω=>us1 λ Ω=>rfl;obtain⟨_,F32,m32⟩:=a32.go X G;have b32:=F32.binds (ps:=["pairs"]) λ Ω Ω Ω Ω Ω Ω=>us1 λ Ω=>rfl;obtain⟨_,F33,m33⟩:=a33.go X G;have b33:=F33.binds (ps:=["trees"]) λ Ω Ω Ω Ω Ω Ω=>us1 λ Ω=>rfl;obtain⟨_,F34,m34⟩:=a34.go X G;have b34:=F34.binds (ps:=["trees"]) λ Ω Ω Ω Ω Ω Ω=>us1 λ Ω=>rfl;obtain⟨_,F35,m35⟩:=a35.go X G;have b35:=F35.binds (ps:=["trees", "words"]) λ Ω Ω Ω Ω Ω Ω=>us2 λ Ω Ω=>rfl;obtain⟨_,F36,m36⟩:=a36.go X G;have b36:=F36.binds (ps:=["trees", "words"]) λ Ω Ω Ω Ω Ω Ω=>us2 λ Ω Ω=>rfl;obtain⟨_,F37,m37⟩:=a37.go X G;have b37:=F37.binds (ps:=["trees"]) λ Ω Ω Ω Ω Ω Ω=>us1 λ Ω=>rfl;obtain⟨_,F38,m38⟩:=a38.go X G;have b38:=F38.binds (ps:=["words"]) λ Ω Ω Ω Ω Ω Ω=>us1 λ Ω=>rfl;obtain⟨_,F39,m39⟩:=a39.go X G;have b39:=F39.binds (ps:=["pairs"]) λ Ω Ω Ω Ω Ω Ω=>us1 λ Ω=>rfl;obtain⟨_,F40,m40⟩:=a40.go X G;have b40:=F40.binds (ps:=["_law_script", "_law_k"]) λ Ω Ω Ω Ω Ω Ω=>us2 λ Ω Ω=>rfl;obtain⟨_,F41,m41⟩:=a41.go X G;have b41:=F41.binds (ps:=["_law_cell"]) λ Ω Ω Ω Ω Ω Ω=>us1 λ Ω=>rfl;obtain⟨_,F42,m42⟩:=a42.go X G;have b42:=F42.binds (ps:=["_law_cells", "_law_deep"]) λ Ω Ω Ω Ω Ω Ω=>us2 λ Ω Ω=>rfl;obtain⟨_,F43,m43⟩:=a43.go X G;have b43:=F43.binds (ps:=["_law_tree_here", "_law_cell", "_law_deep"]) λ Ω Ω Ω Ω Ω Ω=>us3 λ Ω Ω Ω=>rfl;obtain⟨_,F44,m44⟩:=a44.go X G;have b44:=F44.binds (ps:=["_law_pairs"]) λ Ω Ω Ω Ω Ω Ω=>us1 λ Ω=>rfl;have k45:=zFR l45;have F45:=zJJ (st:=s_law) l45 c45 k45;have b45:=F45.binds (ps:=["_law_script"]) λ Ω Ω Ω Ω Ω Ω=>us1 λ Ω=>rfl;have m45:=W.mg_of X G a45;have k46:=zFR l46;have F46:=zJJ (st:=zAj) l46 c46 k46;have b46:=F46.binds (ps:=["self", "why"]) λ Ω Ω Ω Ω Ω Ω=>us2 λ Ω Ω=>rfl;refine⟨W.fnOf "law" "law" (zBJ s_law) (zAx s_law) (zAH s_law) .none kV45 dc45 pm45 an45 cd45 ct45,λ s v=>.of_eq rfl,λ base Ω Ω=>?_⟩;have G0:FnB l.prog w K mg base 1 "parts_begin" f0 _ _ _:=⟨zEb (k:=0) F0 z_len zNc h_LEAF_SIGNS,b0,F0.kp,m0⟩;have G1:FnB l.prog w K mg base 2 "parts" f1 _ _ _:=⟨zKH F1 (G0.up (k:=1) (by decide)),b1,F1.kp,m1⟩;have G2:FnB l.prog w K mg base 2 "with_parts" f2 _ _ _:=⟨zL0 F2 z_tuple (G0.up (k:=1) (by decide)),b2,F2.kp,m2⟩;have G3:FnB l.prog w K mg base 3 "all_parts" f3 _ _ _:=⟨zNE F3 (G1.up (k:=2) (by decide)),b3,F3.kp,m3⟩;have G4:FnB l.prog w K mg base 3 "placed_parts" f4 _ _ _:=⟨zIs F4 z_enumerate z_sorted (G1.up (k:=2) (by decide)),b4,F4.kp,m4⟩;have G18:FnB l.prog w K mg base 4 "is_loud" f18 _ _ _:=⟨zL4 F18 z_any zNf h_LOUD_SIGNS (G3.up (k:=3) (by decide)),b18,F18.kp,m18⟩;have G20:FnB l.prog w K mg base 1 "begins_with_leaf" f20 _ _ _:=⟨zKL (k:=0) F20 zNc h_LEAF_SIGNS,b20,F20.kp,m20⟩;have G29:FnB l.prog w K mg base 5 "grows_loud" f29 _ _ _:=⟨zKP F29 (G18.up (k:=4) (by decide)),b29,F29.kp,m29⟩;have G21:FnB l.prog w K mg base 4 "binds_twice" f21 _ _ _:=⟨zKF F21 z_len z_set (G3.up (k:=3) (by decide)),b21,F21.kp,m21⟩;have G5:FnB l.prog w K mg base 1 "names_at" f5 _ _ _:=⟨zGf (k:=0) F5,b5,F5.kp,m5⟩;have G6:FnB l.prog w K mg base 1 "bound_in" f6 _ _ _:=⟨zGg (k:=0) F6,b6,F6.kp,m6⟩;have G7:FnB l.prog w K mg base 3 "free_names" f7 _ _ _:=⟨zFJ F7 z_sorted z_enumerate (G1.up (k:=2) (by decide)) (G5.up (k:=2) (by decide)) (G6.up (k:=2) (by decide)),b7,F7.kp,m7⟩;have G22:FnB l.prog w K mg base 4 "has_free_name" f22 _ _ _:=⟨zHt F22 z_len z_any (G7.up (k:=3) (by decide)),b22,F22.kp,m22⟩;have G15:FnB l.prog w K mg base 4 "gap_parts" f15 _ _ _:=⟨zL6 F15 (G4.up (k:=3) (by decide)),b15,F15.kp,m15⟩;have G16:FnB l.prog w K mg base 5 "counted_gaps" f16 _ _ _:=⟨zHu F16 z_len (G15.up (k:=4) (by decide)),b16,F16.kp,m16⟩;have G17:FnB l.prog w K mg base 6 "gaps_of" f17 _ _ _:=⟨zIv F17 (G16.up (k:=5) (by decide)),b17,F17.kp,m17⟩;have G27:FnB l.prog w K mg base 7 "has_new_gap" f27 _ _ _:=⟨zIt F27 z_any (G17.up (k:=6) (by decide)),b27,F27.kp,m27⟩;have G24:FnB l.prog w K mg base 7 "has_unlike_counts" f24 _ _ _:=⟨zIr F24 z_any (G17.up (k:=6) (by decide)) (G16.up (k:=6) (by decide)),b24,F24.kp,m24⟩;have G28:FnB l.prog w K mg base 7 "has_wrong_kind" f28 _ _ _:=⟨zIp F28 (G17.up (k:=6) (by decide)),b28,F28.kp,m28⟩;have G25:FnB l.prog w K mg base 5 "has_no_number_atom" f25 _ _ _:=⟨zKI F25 z_dict (G15.up (k:=4) (by decide)),b25,F25.kp,m25⟩;have G23:FnB l.prog w K mg base 1 "tells_no_piece" f23 _ _ _:=⟨zNA (k:=0) F23 z_any z_len z_set,b23,F23.kp,m23⟩;have G26:FnB l.prog w K mg base 8 "is_told_wrong" f26 _ _ _:=⟨zL2 F26 z_any (G15.up (k:=7) (by decide)) (G23.up (k:=7) (by decide)) (G24.up (k:=7) (by decide)) (G25.up (k:=7) (by decide)),b26,F26.kp,m26⟩;have G46:=zNB (P:=l.prog) (w:=w) (mg:=mg) (base:=base) (k:=7) F46 zNs XS XC mV nWhy;have G30:=(⟨zL7 (k:=9) F30 zNt zNu hRs hIn rfl (zMQ ⟨⟨_,zKm ((G20.up (k:=9) (by decide))).ok,b20⟩,F20.kp⟩ ⟨⟨_,zJS ((G21.up (k:=9) (by decide))).ok,b21⟩,F21.kp⟩ ⟨⟨_,zKo ((G22.up (k:=9) (by decide))).ok,b22⟩,F22.kp⟩ ⟨⟨_,zKj ((G26.up (k:=9) (by decide))).ok,b26⟩,F26.kp⟩ ⟨⟨_,zMP ((G27.up (k:=9) (by decide))).ok,b27⟩,F27.kp⟩ ⟨⟨_,zKn ((G28.up (k:=9) (by decide))).ok,b28⟩,F28.kp⟩ ⟨⟨_,zKl ((G29.up (k:=9) (by decide))).ok,b29⟩,F29.kp⟩) XC kpN ⟨8,rfl,G46⟩ b46,b30,F30.kp,m30⟩:FnG l.prog w K mg base 10 "form" _ _ ["rule"] (zGU zOQ));have G8:FnB l.prog w K mg base 1 "same_name" f8 _ _ _:=⟨ok_no,b8,F8.kp,m8⟩;have G9:FnB l.prog w K mg base 2 "alike_leaves" f9 _ _ _:=⟨zHw F9 (G8.up (k:=1) (by decide)),b9,F9.kp,m9⟩;have G10:FnB l.prog w K mg base 3 "alike_heads" f10 _ _ _:=⟨zKN F10 zNc h_LEAF_SIGNS (G9.up (k:=2) (by decide)),b10,F10.kp,m10⟩;have G11:FnB l.prog w K mg base 1 "word_of" f11 _ _ _:=⟨zHs (k:=0) F11 zN4,b11,F11.kp,m11⟩;have G12:FnB l.prog w K mg base 2 "unused_word" f12 _ _ _:=⟨zIq F12 zN5 h_KEPT_WORDS (G11.up (k:=1) (by decide)),b12,F12.kp,m12⟩;have G13:FnB l.prog w K mg base 3 "grown_level" f13 _ _ _:=⟨zKK F13 z_len (G1.up (k:=2) (by decide)) (G2.up (k:=2) (by decide)),b13,F13.kp,m13⟩;have G14:FnB l.prog w K mg base 4 "grown_tree" f14 _ _ _:=⟨zKO F14 z_reversed (G13.up (k:=3) (by decide)),b14,F14.kp,m14⟩;have G19:FnD1 l.prog w K mg base 4 "is_quiet" f19 _ _ _:=⟨zKG F19 z_dict zNf h_LOUD_SIGNS (G3.up (k:=3) (by decide)),b190,b191,k19,m19⟩;have G31:FnB l.prog w K mg base 4 "has_let" f31 _ _ _:=⟨zIu F31 z_any (G3.up (k:=3) (by decide)),b31,F31.kp,m31⟩;have G32:FnF l.prog w K mg base 5 "check_pairs" f32 _ _ _:=⟨zIx F32 z_len m_MP zNz xP (G31.up (k:=4) (by decide)),b32,F32.kp,m32⟩;have G33:FnB l.prog w K mg base 4 "begin_alike" f33 _ _ _:=⟨zKQ F33 z_all (G10.up (k:=3) (by decide)),b33,F33.kp,m33⟩;have G34:FnB l.prog w K mg base 3 "rows_within" f34 _ _ _:=⟨zL3 F34 z_range z_len z_tuple (G1.up (k:=2) (by decide)),b34,F34.kp,m34⟩;have G35:FnB l.prog w K mg base 3 "gap_for" f35 _ _ _:=⟨zND F35 z_list (G12.up (k:=2) (by decide)),b35,F35.kp,m35⟩;have G36:FnB l.prog w K mg base 5 "common_shape" f36 _ _ _:=⟨zIw F36 z_tuple (G33.up (k:=4) (by decide)) (G34.up (k:=4) (by decide)) (G35.up (k:=4) (by decide)) (G14.up (k:=4) (by decide)),b36,F36.kp,m36⟩;have G37:FnB l.prog w K mg base 5 "kind_of" f37 _ _ _:=⟨zL5 F37 z_all (G19.up (k:=4) (by decide)),b37,F37.kp,m37⟩;have G38:FnB l.prog w K mg base 6 "kinds_of" f38 _ _ _:=⟨zKM F38 z_tuple z_sorted (G37.up (k:=5) (by decide)),b38,F38.kp,m38⟩;have G39:FnF l.prog w K mg base 11 "read_off" f39 _ _ _:=⟨zKS F39 (G32.up (k:=10) (by decide)) (G36.up (k:=10) (by decide)) (G38.up (k:=10) (by decide)) (G30.up (k:=10) (by decide)),b39,F39.kp,m39⟩;have G40:FnB l.prog w K mg base 1 "_law_cell_at" f40 _ _ _:=⟨zHv (k:=0) F40 z_len,b40,F40.kp,m40⟩;have G41:FnB l.prog w K mg base 1 "_law_word" f41 _ _ _:=⟨zKJ (k:=0) F41 z_range,b41,F41.kp,m41⟩;have G42:=zHb F42 b42 m42 z_len (G41.up (k:=1) (by decide)) 6;have G43:=zHa (P:=l.prog) (w:=w) (base:=base) (k:=0) F43 b43 m43 z_range z_len z_isinstance z_tuple 7;have G44:FnB l.prog w K mg base 12 "_law_asked" f44 _ _ _:=⟨zKR F44 z_isinstance z_ValueError z_tuple z_len zNs zNz zNu zOL XCR XN XU (G39.up (k:=11) (by decide)),b44,F44.kp,m44⟩;exact zNC F45 z_range z_list (G40.up (k:=12) (by decide)) (G42.up (k:=12) (by decide)) (G43.up (k:=12) (by decide)) (G44.up (k:=12) (by decide))
theorem walk {l:W.OpenLaw}{q:Program}{loose:List Str}{XP:(Str->Option Value)->Heap->Prop}{YP:World->Heap->Prop}{d:DefRec}{K:Params->W.Frag}(hn:l.most=some 63) (hdf:d.params.defaults=[])
  (hY:∀(w:World) (h:Heap),YP w h->(K w.params).In h)
  (F:∀(w:World) (mg:Str->Option Value) (fa:Addr) (h:Heap),(K w.params).In h->h.Ns mainGlobals mg->mg d.name=some (.ref fa) ->
   ∃fd:FuncData,(∀(s:Shared) (u:Value),BindsTo s fd ⟨[u],[]⟩ [("_law_script", u)])/\∀base:Heap,(K w.params).In base->base.Ns mainGlobals mg->FnOk l.prog w (K w.params) mg base CX0 13 fa fd ["_law_script"] (zG3 (K w.params))) :
  W.WalkO q loose XP YP l.row.toRowW d [] (λ f vs=>PySem.call f vs) :=
 L2.walk_of (n:=63) (k:=13) (x := "_law_script") (CX:=λ Ω=>CX0) (sp:=λ w=>zG3 (K w.params)) hn (by decide) hdf ⟨rfl,by decide,by decide⟩ hY F (λ Ω Ω a ns hl Ω hS=>⟨a,ns,rfl,hS,λ Ω=>rfl⟩) λ Ω Ω Ω Ω Ω z=>z
end
end K72
namespace PySem.W.Fast
def tw8408782409406735874:Unit:=()
def tw4467889362437955497:Unit:=()
def tw1769343024406543336:Unit:=()
def tw12916975795672663188:Unit:=()
def tw13406756058680997124:Unit:=()
def tw16485539972933541637:Unit:=()
def tw12579768203012790645:Unit:=()
def tw12636975274260709969:Unit:=()
def tw17555350517696552960:Unit:=()
def tw625762921581243208:Unit:=()
def tw7089605962411085809:Unit:=()
def tw15982721618532857762:Unit:=()
def tw11702846582110215638:Unit:=()
def tw16565435787359809268:Unit:=()
def tw4976732720950014735:Unit:=()
def tw5177538634135200502:Unit:=()
def tw4883593931085246321:Unit:=()
def tw13626933361376986967:Unit:=()
def tw10089366102294740908:Unit:=()
def tw14398897824873146593:Unit:=()
def tw3346874021965537108:Unit:=()
def tw185965394334388489:Unit:=()
def tw17986014060541707491:Unit:=()
def tw13124965377723583892:Unit:=()
def tw5910623628487206173:Unit:=()
def tw3365618091263762188:Unit:=()
def tw181343966915626210:Unit:=()
def tw8341031570877486894:Unit:=()
def tw3883531503361725546:Unit:=()
def tw16214681070681134491:Unit:=()
def tw7158435983012394089:Unit:=()
def tw1067173806578333997:Unit:=()
def tw10014005015585647084:Unit:=()
def tw3336612166646478208:Unit:=()
def tw1173312510568933748:Unit:=()
def tw2782213040958582247:Unit:=()
def tw2384223402570952964:Unit:=()
def tw8289505953687580650:Unit:=()
def tw11705675709181573857:Unit:=()
def tw10159536577484051268:Unit:=()
def tw2950634827455188976:Unit:=()
def tw4484054032993915583:Unit:=()
def tw7388899685985886526:Unit:=()
def tw11380264613564134134:Unit:=()
def tw17422630504961445291:Unit:=()
def tw3188167639993210987:Unit:=()
def tw17314262594603604160:Unit:=()
def tw9566735219417070227:Unit:=()
def tw17046224570798004116:Unit:=()
def tw14375659927084336026:Unit:=()
def tw6033713562789372349:Unit:=()
def tw17623335077427104375:Unit:=()
def tw1078239248960724990:Unit:=()
def tw15977502368300113852:Unit:=()
def tw6949413277868905333:Unit:=()
def tw6426897999206174464:Unit:=()
def tw7210764678006206050:Unit:=()
def tw8152114288950727857:Unit:=()
def tw15919787181852263621:Unit:=()
def tw8371685979799479549:Unit:=()
def tw17164081136114998375:Unit:=()
def tw11345129390932398797:Unit:=()
def tw266544364337958240:Unit:=()
def tw10455627171150109440:Unit:=()
def tw4209448188707635519:Unit:=()
def tw6546952267325780693:Unit:=()
def tw14218659724872368161:Unit:=()
def tw12859479772329877142:Unit:=()
def tw11763334149001301629:Unit:=()
def tw13762286507263854612:Unit:=()
def tw14460951126460623697:Unit:=()
def tw3873742374872248213:Unit:=()
def tw7771496699505413929:Unit:=()
def tw16020015308801039687:Unit:=()
def tw10556063844860989767:Unit:=()
def tw7593404285204533172:Unit:=()
def tw11481058339667947618:Unit:=()
def tw10414625538054046830:Unit:=()
def tw2084702363661347889:Unit:=()
def tw12144623250802006394:Unit:=()
def tw17045464842784961753:Unit:=()
def tw11083584117082338853:Unit:=()
def tw15683615740808647083:Unit:=()
def tw10712062100883802190:Unit:=()
def tw612745385068361501:Unit:=()
def tw8964371453355111012:Unit:=()
def tw4167016115598713764:Unit:=()
def tw831075552753423275:Unit:=()
def tw155710785202207650:Unit:=()
def tw17404458813524640037:Unit:=()
def tw12394046263030465047:Unit:=()
def tw843552253795721196:Unit:=()
def tw2240507301343744974:Unit:=()
def tw12409333996807557504:Unit:=()
def tw18043004441244677890:Unit:=()
def tw7622463765467060606:Unit:=()
end PySem.W.Fast
open PySem PySem.W PyProof.Rows K72
set_option maxRecDepth 100000 in
set_option maxHeartbeats 0 in
theorem PySem.Challenge.cw_recastle_k72_pairs_refused_holds : PySem.Challenge.rw_recastle_k72_pairs_refused.Holds := by
 w_on;o_law;k_head;(case hw=>w_witness2)
 k_fill
 refine K72.walk (l:=PySem.Challenge.rw_recastle_k72_pairs_refused) rfl rfl (λ w h Y=>W.kIn_of Y) ?F
 case F =>
  intro w mg fa h KX G hmg
  refine' K72.all_mk KX G hmg (dfa ?_ ?_ ?_) (dfa ?_ ?_ ?_) (dfa ?_ ?_ ?_) (dfa ?_ ?_ ?_) (dfa ?_ ?_ ?_) (dfa ?_ ?_ ?_) (dfa ?_ ?_ ?_) (dfa ?_ ?_ ?_) (dfa ?_ ?_ ?_) (dfa ?_ ?_ ?_) (dfa ?_ ?_ ?_) (dfa ?_ ?_ ?_) (dfa ?_ ?_ ?_) (dfa ?_ ?_ ?_) (dfa ?_ ?_ ?_) (dfa ?_ ?_ ?_) (dfa ?_ ?_ ?_) (dfa ?_ ?_ ?_) (dfa ?_ ?_ ?_) ?a19 ?l19 ?c19 ?lT19 (dfa ?_ ?_ ?_) (dfa ?_ ?_ ?_) (dfa ?_ ?_ ?_) (dfa ?_ ?_ ?_) (dfa ?_ ?_ ?_) (dfa ?_ ?_ ?_) (dfa ?_ ?_ ?_) (dfa ?_ ?_ ?_) (dfa ?_ ?_ ?_) (dfa ?_ ?_ ?_) (dfa ?_ ?_ ?_) (dfa ?_ ?_ ?_) (dfa ?_ ?_ ?_) (dfa ?_ ?_ ?_) (dfa ?_ ?_ ?_) (dfa ?_ ?_ ?_) (dfa ?_ ?_ ?_) (dfa ?_ ?_ ?_) (dfa ?_ ?_ ?_) (dfa ?_ ?_ ?_) (dfa ?_ ?_ ?_) (dfa ?_ ?_ ?_) (dfa ?_ ?_ ?_) (dfa ?_ ?_ ?_) (dfa ?_ ?_ ?_) ?a45 ?l45 ?c45 ?a46 ?i46 ?l46 ?c46 ?aC0 ?lC0 ?aC1 ?lC1 ?aC2 ?lC2 ?aX0 ?aX1 ?aX2 ?aX3 ?xP ?xR ?RecastError_ga ?RecastError_gt ?RecastError_bs ?RecastError_cl ?RecastError_ob ?RecastError_ty ?NoRule_ga ?NoRule_gt ?NoRule_bs ?NoRule_cl ?NoRule_ob ?NoRule_ty ?NoPair_ga ?NoPair_gt ?NoPair_bs ?NoPair_cl ?NoPair_ob ?NoPair_ty ?lk_RecastError ?lk_NoPair ?lk_NoRule ?lk_NoFill ?lkN ?mV ?nWhy ?nSa ?kpN ?fnI ?spR ?rdR ?fcR ?aRs ?lRs ?lr1 ?lr2 ?lr3 ?lr4 ?lr5 ?lr6 ?lr7 ?ne_NoPairNoRule ?sb_NoPairNoRule ?ne_NoPairNoFill ?sb_NoPairNoFill ?ne_NoRuleNoPair ?sb_NoRuleNoPair ?ne_NoRuleNoFill ?sb_NoRuleNoFill ?sv_NoPair ?mr_NoPair ?sv_NoRule ?mr_NoRule ?aLt ?aMp ?z_len ?z_range ?z_isinstance ?z_tuple ?z_list ?z_any ?z_all ?z_sorted ?z_enumerate ?z_set ?z_dict ?z_reversed ?z_ValueError
  (case aX0=>k_is);(case aX1=>k_is);(case aX2=>k_is);(case aX3=>k_is);(case xP=>k_exc);(case xR=>k_exc);(case ne_NoPairNoRule=>decide);(case ne_NoPairNoFill=>decide);(case ne_NoRuleNoPair=>decide);(case ne_NoRuleNoFill=>decide)
  all_goals try k_is
#print axioms PySem.Challenge.cw_recastle_k72_pairs_refused_holds