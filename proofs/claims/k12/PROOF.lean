import PyProof.Rows.All
import Wide.All
import OpenK.AllK
import Wide.FinOn
import Lean
import PyProof.EqAt
import PyProof.EqKinds
import PyProof.TupleCall
import PyProof.NeKinds
import PyProof.AttrMissHeap
import KE.KDictOf
import KE.KDictLaws
import KE.KSortTup
import PyProof.Rows.SortWalk
import PyProof.Rows.SortShellK
import PySem.Challenge.RW_recastle_k12_pieces_of_a_plain_side
abbrev lA:=@PySem.wpAny_bind
abbrev lB:=@PySem.wpAny_pure
abbrev lD:=@PySem.wpAny_holding
abbrev lE:=@PySem.Heap.get?_push_of_some
abbrev lG:=@PySem.Heap.get?_push_size
abbrev lH:=@PySem.Heap.lt_size
abbrev lJ:=@List.getElem?_eq_some_iff
abbrev lK:=@List.mem_append
abbrev lM:=@List.mem_of_getElem?
abbrev lN:=@List.mem_cons
abbrev lO:=@List.mem_cons_self
abbrev lP:=@List.mem_cons_of_mem
abbrev lQ:=@Nat.le_refl
abbrev lR:=@Nat.ne_of_lt
abbrev lS:=@of_decide_eq_true
abbrev lU:=@decide_eq_true
abbrev lV:=@Option.map_eq_some_iff
abbrev lW:=@List.getElem?_eq_getElem
abbrev lX:=@Bool.false_ne_true
abbrev lY:=@Nat.zero_le
abbrev lZ:=@Nat.lt_of_lt_of_le
abbrev mB:=@List.mem_append_right
abbrev mC:=@List.mem_map
abbrev mE:=@Option.some.inj
abbrev mF:=@List.mem_append_left
abbrev mG:=@Nat.le_trans
abbrev mI:=@PySem.Heap.get?_update_self
set_option Elab.async false
set_option tactic.hygienic false
set_option linter.all false
set_option maxRecDepth 100000
namespace L2
open PySem PySem.Spec PyProof.Rows
abbrev Key:=Sum Int Str
noncomputable def keyIs:Key->Value->Bool
 |.inl k,v=>Value.isInt k v
 |.inr x,v=>Value.isStrOf x v
noncomputable def keyH (w:World):Key->Int
 |.inl k=>hashInt k
 |.inr x=>hashStr w x
theorem zAo:∀{k:Key}{v:Value},keyIs k v=true->(∃i t,k=Sum.inl i/\v=Value.int i t)\/(∃x t,k=Sum.inr x/\v=Value.str x t)
 |.inl i,v,h=>by
  obtain⟨t,e⟩:=Value.isInt_shape (k:=i) (v:=v) h;exact .inl ⟨i,t,rfl,e⟩
 |.inr x,v,h=>by
  obtain⟨t,e⟩:=Value.isStrOf_shape (x:=x) (v:=v) h;exact .inr ⟨x,t,rfl,e⟩
theorem zJS (i:Int) (t:Tok):keyIs (.inl i) (.int i t)=true:=by simp[keyIs,Value.isInt]
theorem zJR (x:Str) (t:Tok):keyIs (.inr x) (.str x t)=true:=by simp[keyIs,Value.isStrOf]
theorem zMa (a b:Int):decide ((Sum.inl a:Key)=Sum.inl b)=(a == b):=by
 by_cases e:a=b
 ·subst e;simp
 ·have h:¬(Sum.inl a:Key)=Sum.inl b:=λ q=>e (Sum.inl.inj q)
  rw[decide_eq_false h];exact(beq_eq_false_iff_ne.mpr e).symm
theorem zMX (a b:Str):decide ((Sum.inr a:Key)=Sum.inr b)=decide (a=b):=by
 by_cases e:a=b
 ·subst e;simp
 ·have h:¬(Sum.inr a:Key)=Sum.inr b:=λ q=>e (Sum.inr.inj q)
  rw[decide_eq_false h,decide_eq_false e]
theorem zMZ (a:Int) (b:Str):decide ((Sum.inl a:Key)=Sum.inr b)=false:=decide_eq_false (λ q=>nomatch q)
theorem zMY (a:Str) (b:Int):decide ((Sum.inr a:Key)=Sum.inl b)=false:=decide_eq_false (λ q=>nomatch q)
noncomputable def zAf (prog:Program) (w:World):PySem.KeyKind prog w Key where
 is:=keyIs
 hash:=keyH w
 inj:=λ v a b ha hb=>by
  rcases zAo ha with ⟨i,t,rfl,rfl⟩|⟨x,t,rfl,rfl⟩
  ·rcases zAo hb with ⟨j,u,rfl,e⟩|⟨y,u,rfl,e⟩
   ·injection e with e1 _;rw[e1]
   ·exact nomatch e
  ·rcases zAo hb with ⟨j,u,rfl,e⟩|⟨y,u,rfl,e⟩
   ·exact nomatch e
   ·injection e with e1 _;rw[e1]
 byValue:=λ k v h=>by
  rcases zAo h with ⟨i,t,rfl,rfl⟩|⟨x,t,rfl,rfl⟩<;>rfl
 pyHash:=λ hv h=>by
  rcases zAo hv with ⟨i,t,rfl,rfl⟩|⟨x,t,rfl,rfl⟩
  ·exact wpAny_pyHash_int h
  ·exact wpAny_pyHash_str h
 eqBool:=λ hu hv h=>by
  rcases zAo hu with ⟨i,t,rfl,rfl⟩|⟨x,t,rfl,rfl⟩
  ·rcases zAo hv with ⟨j,u,rfl,rfl⟩|⟨y,u,rfl,rfl⟩
   ·rw[zMa] at h;exact wpAny_eqBool_int h
   ·rw[zMZ] at h;exact SeqAt.EqAt.int_str i t y u _ _ _ _ h
  ·rcases zAo hv with ⟨j,u,rfl,rfl⟩|⟨y,u,rfl,rfl⟩
   ·rw[zMY] at h;exact SeqAt.EqAt.str_int x t j u _ _ _ _ h
   ·rw[zMX] at h;exact wpAny_eqBool_str h
 «strs»:=λ k x t v h=>by
  rcases zAo h with ⟨i,u,rfl,e⟩|⟨y,u,rfl,e⟩
  ·exact nomatch e
  ·injection e with e1 _
   subst e1;cases v<;>rfl
theorem zGw (prog:Program) (w:World) (i:Int) (t:Tok):(zAf prog w).is (.inl i) (.int i t)=true:=zJS i t
theorem zGv (prog:Program) (w:World) (x:Str) (t:Tok):(zAf prog w).is (.inr x) (.str x t)=true:=zJR x t
inductive V where
 |non|bl (b:Bool)|int (i:Int)|str (x:Str)|byt (b:Array UInt8)|flt (b:UInt64)|ref (a:Addr)|ty (n:String)
 deriving DecidableEq
noncomputable def RelV:V->Value->Prop
 |.non,u=>u=Value.none
 |.bl b,u=>u=Value.bool b
 |.int i,u=>∃t,u=Value.int i t
 |.str x,u=>∃t,u=Value.str x t
 |.byt b,u=>∃t,u=Value.bytes b t
 |.flt b,u=>∃t,u=Value.float b t
 |.ref a,u=>u=Value.ref a
 |.ty n,u=>u=Value.type n
abbrev Vals:List V->List Value->Prop:=Paired RelV
theorem Vals.length {xs:List V}{us:List Value}(r:Vals xs us):xs.length=us.length:=Paired.length r
theorem Vals.get {xs:List V}{us:List Value}{i:Nat}{x:V}(h:Vals xs us):xs[i]?=some x->∃u,us[i]?=some u/\RelV x u:=by
 induction h generalizing i with
 |nil=>exact λ e=>nomatch e
 |cons h t ih=>cases i with
  |zero=>exact λ e=>⟨_,rfl,by cases e;exact h⟩
  |succ i=>exact λ e=>ih (i:=i) (by simpa using e)
theorem Vals.set {x:V}{u:Value}(r:RelV x u):∀{xs:List V}{us:List Value}(i:Nat),Vals xs us->Vals (xs.set i x) (us.set i u)
 |_,_,_,.nil=>.nil
 |_,_,0,.cons _ t=>.cons r t
 |_,_,i+1,.cons q t=>.cons q (Vals.set r i t)
theorem Vals.append {xs ys:List V}{us ws:List Value}(h:Vals xs us) (s:Vals ys ws):Vals (xs++ys) (us++ws):=by
 induction h with
 |nil=>exact s
 |cons r t ih=>exact .cons r ih
theorem Vals.take:∀{xs:List V}{us:List Value}(n:Nat),Vals xs us->Vals (xs.take n) (us.take n)
 |_,_,0,_=>.nil
 |_,_,_+1,.nil=>.nil
 |_,_,n+1,.cons r t=>.cons r (Vals.take n t)
theorem Vals.drop:∀{xs:List V}{us:List Value}(n:Nat),Vals xs us->Vals (xs.drop n) (us.drop n)
 |_,_,0,r=>r
 |_,_,_+1,.nil=>.nil
 |_,_,n+1,.cons _ t=>Vals.drop n t
noncomputable def RelO:Option V->Option Value->Prop
 |some v,some u=>RelV v u
 |none,none=>True
 |_,_=>False
noncomputable def KV {κ:Type}:List (κ × V)->List (κ × Value)->Prop:=Paired λ(p:κ × V) (q:κ × Value)=>p.1=q.1/\RelV p.2 q.2
noncomputable def kV:Key->V
 |.inl i=>.int i
 |.inr x=>.str x
inductive HO where
 |lst (xs:List V)
 |tup (xs:List V)
 |dK (kvs:List (Key × V))|dT (kvs:List (List Key × V))
 |set (S:Int->Bool) (n:Nat)
 |ins (C dx:Addr) (fs:List (Str × V))
 |own (x:Addr)
 |xd (fs:List (Str × V))
 |met (f x:Addr)
 |rng (lo hi:Int)
 |frz (o:Obj) (u:HO)
 |tbl (ps:Array Value)
 |ext (φ:Heap->Prop)
abbrev Hp:=Addr->Option HO
noncomputable def upd (H:Hp) (a:Addr) (o:HO):Hp:=λ b=>if b=a then some o else H b
theorem zAB {H:Hp}{a:Addr}{o:HO}:upd H a o a=some o:=by unfold upd;rw[if_pos rfl]
theorem zAL {H:Hp}{a b:Addr}{o:HO}(h:b≠a):upd H a o b=H b:=by unfold upd;rw[if_neg h]
theorem ne_of {H:Hp}{a b:Addr}{o u:HO}(h:H a=some o) (h':H b=some u) (d:o≠u):a≠b:=by
 intro e;subst e;rw[h] at h';exact d (mE h')
theorem zAK {H:Hp}{a b:Addr}{o:HO}(h:H a=some o) (h':H b=none):a≠b:=by
 intro e;subst e;rw[h] at h';cases h'
section
variable (P:Program) (w:World)
noncomputable def ObjOk (H:Hp) (h:Heap) (a:Addr):HO->Prop
 |.lst xs=>xs.length<=sizeLine/\∃(its:List Value) (n:Nat),Vals xs its/\h.get? a=some { cls:=.type "list", data:=.seq its.toArray n }
 |.tup xs=>xs.length<=sizeLine/\∃its:List Value,Vals xs its/\IsTup h a its.toArray
 |.dK kvs=>kvs.length<=sizeLine/\(a == sysModules)=false/\∃vs,KV kvs vs/\h.DictOf (zAf P w) a vs
 |.dT kvs=>kvs.length<=sizeLine/\(a == sysModules)=false/\∃xs:List (List Key × Addr × Value),
   Paired (λ(p:List Key × V) (q:List Key × Addr × Value)=>p.1=q.1/\H q.2.1=some (.tup (p.1.map kV))/\RelV p.2 q.2.2) kvs xs /\
   ∃o es ep,h.get? a=some o/\o.ExactDict/\o.data = .dict es ep/\es.toList=xs.map (entryOfKey (tupleKind (zAf P w)))/\(xs.map (·.1)).Nodup
 |.set S n=>h.SetOf (intKind P w) a S n
 |.ins C dx fs=>H dx=some (.own a)/\fs.length<=1000/\dx≠a/\h.get? a=some (W.instObj C dx) /\
   ∃mA,h.Ns1 dx mA/\(∀f,RelO (fs.lookup f) (mA f))/\PySem.Within mA (fs.map (·.1))
 |.own _=>∃o,h.get? a=some o
 |.xd fs=>∃mA,h.Ns1 a mA/\∀f,RelO (fs.lookup f) (mA f)
 |.rng lo hi=>∃t u v,h.get? a=some { cls:=.type "range", data:=.fields #[.int lo t,.int hi u,.int 1 v] }
 |.frz o u=>h.get? a=some o/\ObjOk H h a u
 |.tbl ps=>h.get? a=some { cls:=.none,data:=.fields ps }
 |.met f x=>h.get? a=some (W.methodObj (.ref f) (.ref x))
 |.ext φ=>φ h/\(∃o,h.get? a=some o)/\∀h1 h2:Heap,φ h1->(∀o,h1.get? a=some o->h2.get? a=some o)->φ h2
noncomputable def HOk (H:Hp) (h:Heap):Prop:=∀a o,H a=some o->ObjOk P w H h a o
end
section
variable {P:Program}{w:World}{H H':Hp}{h h':Heap}{a:Addr}{o:HO}
theorem ObjOk.lt (x:ObjOk P w H h a o):a<h.objs.size:=by
 cases o with
 |lst xs=>obtain⟨_,_,_,_,e⟩:=x;exact lH e
 |tup xs=>obtain⟨_,_,_,p⟩:=x;exact p.lt
 |dK kvs=>obtain⟨_,_,_,_,o,_,_,e,_⟩:=x;exact lH e
 |dT kvs=>obtain⟨_,_,_,_,o,_,_,e,_⟩:=x;exact lH e
 |set S n=>obtain⟨o,_,_,_,e,_⟩:=x;exact lH e
 |ins C dx fs=>obtain⟨_,_,_,e,_⟩:=x;exact lH e
 |own y=>obtain⟨_,e⟩:=x;exact lH e
 |xd fs=>obtain⟨_,⟨_,_,_,e,_⟩,_⟩:=x;exact lH e
 |rng lo hi=>obtain⟨_,_,_,e⟩:=x;exact lH e
 |frz ob u=>obtain⟨e,_⟩:=x;exact lH e
 |tbl ps=>exact lH (show h.get? a=some _ from x)
 |met f y=>exact lH (show h.get? a=some _ from x)
 |ext φ=>obtain⟨_,⟨_,e⟩,_⟩:=x;exact lH e
theorem Paired.mapP {α β:Type}{F G:α->β->Prop}{l₁:List α}{l₂:List β}(h:Paired F l₁ l₂) (f:∀a b,F a b->G a b):Paired G l₁ l₂:=by
 induction h with
 |nil=>exact .nil
 |cons r t ih=>exact .cons (f _ _ r) ih
theorem ObjOk.stay (x:ObjOk P w H h a o) (k:∀b u,(b=a\/H b=some (.own a))->h.get? b=some u->h'.get? b=some u)
  (ho:∀b,H b=some (.own a)->H' b=some (.own a)) (ht:∀b xs,H b=some (.tup xs)->H' b=some (.tup xs)):ObjOk P w H' h' a o:=by
 induction o with
 |lst xs=>obtain⟨z,its,n,r,e⟩:=x;exact⟨z,its,n,r,k _ _ (.inl rfl) e⟩
 |tup xs=>obtain⟨z,its,r,ob,e,c⟩:=x;exact⟨z,its,r,ob,k _ _ (.inl rfl) e,c⟩
 |dK kvs=>obtain⟨z,y,vs,r,ob,es,ep,e,c⟩:=x;exact⟨z,y,vs,r,ob,es,ep,k _ _ (.inl rfl) e,c⟩
 |dT kvs =>
  obtain⟨z,y,xs,r,ob,es,ep,e,c⟩:=x;exact⟨z,y,xs,Paired.mapP r λ p q z=>⟨z.1,ht _ _ z.2.1,z.2.2⟩,ob,es,ep,k _ _ (.inl rfl) e,c⟩
 |set S n=>obtain⟨ob,es,ep,t,e,c⟩:=x;exact⟨ob,es,ep,t,k _ _ (.inl rfl) e,c⟩
 |ins C dx fs =>
  obtain⟨d,z,ne,e,mA,⟨od,es,ep,e2,c⟩,r⟩:=x;exact⟨ho _ d,z,ne,k _ _ (.inl rfl) e,mA,⟨od,es,ep,k _ _ (.inr d) e2,c⟩,r⟩
 |own y=>obtain⟨ob,e⟩:=x;exact⟨ob,k _ _ (.inl rfl) e⟩
 |xd fs=>obtain⟨mA,⟨od,es,ep,e,c⟩,r⟩:=x;exact⟨mA,⟨od,es,ep,k _ _ (.inl rfl) e,c⟩,r⟩
 |rng lo hi=>obtain⟨t,u,v,e⟩:=x;exact⟨t,u,v,k _ _ (.inl rfl) e⟩
 |frz ob u ih=>obtain⟨e,q⟩:=x;exact⟨k _ _ (.inl rfl) e,ih q⟩
 |tbl ps =>
  have e:h.get? a=some { cls:=.none,data:=.fields ps }:=x;show h'.get? a=some { cls:=.none,data:=.fields ps };exact k a _ (.inl rfl) e
 |met f y =>
  have e:h.get? a=some (W.methodObj (.ref f) (.ref y)):=x;show h'.get? a=some (W.methodObj (.ref f) (.ref y));exact k a _ (.inl rfl) e
 |ext φ=>obtain⟨p,⟨o,e⟩,st⟩:=x;exact⟨st _ _ p λ o q=>k _ _ (.inl rfl) q,⟨o,k _ _ (.inl rfl) e⟩,st⟩
theorem HOk.lt (x:HOk P w H h) (e:H a=some o):a<h.objs.size:=(x a o e).lt
theorem HOk.fresh (x:HOk P w H h) (e:h.objs.size<=a):H a=none:=by
 cases q:H a with
 |none=>rfl
 |some u=>exact absurd (lZ (x.lt q) e) (Nat.lt_irrefl _)
theorem HOk.kept (x:HOk P w H h) (k:∀b u,h.get? b=some u->h'.get? b=some u):HOk P w H h':=λ a o e =>
 (x a o e).stay (λ b u Ω q=>k b u q) (λ Ω q=>q) λ Ω Ω q=>q
theorem HOk.laid (x:HOk P w H h) (k:∀b u,h.get? b=some u->h'.get? b=some u) (hp:h.objs.size<=a) (new:ObjOk P w (upd H a o) h' a o):HOk P w (upd H a o) h':=λ b u e=>by
 have hn:=x.fresh hp
 by_cases hb:b=a
 ·subst hb;rw[zAB] at e;cases e;exact new
 ·rw[zAL hb] at e
  exact(x b u e).stay (λ c v Ω q=>k c v q) (λ c q=>by rw[zAL (zAK q hn)];exact q) λ c xs q=>by rw[zAL (zAK q hn)];exact q
end
noncomputable def Rd (H:Hp) (a:Addr) (u:HO):Prop:=H a=some u\/∃o,H a=some (.frz o u)
theorem Rd.ok {P:Program}{w:World}{H:Hp}{h:Heap}{a:Addr}{u:HO}(r:Rd H a u) (x:HOk P w H h):ObjOk P w H h a u:=by
 rcases r with r|⟨o,r⟩
 ·exact x a u r
 ·obtain⟨_,q⟩:=x a _ r
  exact q
noncomputable def Mut:Option HO->Prop
 |some (.lst _)=>True
 |some (.dK _)=>True
 |some (.dT _)=>True
 |some (.set _ _)=>True
 |some (.ins _ _ _)=>True
 |some (.ext _)=>True
 |_=>False
section
variable {P:Program}{w:World}{H:Hp}{h h':Heap}{x e:Addr}{o':HO}
theorem HOk.write (ok:HOk P w H h) (mu:Mut (H x)) (he:e=x\/H e=some (.own x)) (k:∀b u,b≠e->h.get? b=some u->h'.get? b=some u) (heo:∃u,h'.get? e=some u)
  (new:ObjOk P w (upd H x o') h' x o'):HOk P w (upd H x o') h':=λ b u q=>by
 have nown:∀c y,H c=some (.own y)->c≠x:=λ c y r z=>by subst z;rw[r] at mu;exact mu
 have ntup:∀c xs,H c=some (.tup xs)->c≠x:=λ c xs r z=>by subst z;rw[r] at mu;exact mu
 by_cases hb:b=x
 ·subst hb;rw[zAB] at q;cases q;exact new
 ·rw[zAL hb] at q
  by_cases hbe:b=e
  ·have q':H b=some (.own x):=by
    rcases he with z|z
    ·exact absurd (hbe.trans z) hb
    ·rw[hbe];exact z
   rw[q] at q';cases q';obtain⟨v,hv⟩:=heo;exact⟨v,by rw[hbe];exact hv⟩
  ·refine(ok b u q).stay (λ c v hc r=>k c v ?_ r) (λ c r=>by rw[zAL (nown c b r)];exact r) λ c xs r=>by rw[zAL (ntup c xs r)];exact r
   rcases hc with rfl|hc
   ·exact hbe
   ·rintro rfl
    rcases he with z|z
    ·exact nown c b hc z
    ·rw[hc] at z;cases z;exact hb rfl
end
structure Un (fs ex:List Addr) (H H':Hp) (h h':Heap):Prop where
 keep:∀b o,h.get? b=some o->H b=none->b∉fs->b∉ex->h'.get? b=some o
 slot:∀b o,h.get? b=some o->H b=none->b∈fs->b∉ex->∃sl,h'.get? b=some { o with slots:=sl }
 free:∀b o,h.get? b=some o->H b=none->b∉ex->H' b=none
 there:∀b o,h.get? b=some o->b∉ex->∃o',h'.get? b=some o'
 tups:∀b xs,H b=some (.tup xs)->H' b=some (.tup xs)
 frzs:∀b o u,H b=some (.frz o u)->H' b=some (.frz o u)
 tbls:∀b ps,H b=some (.tbl ps)->∃more,H' b=some (.tbl (ps++more))
section
variable {fs fs' ex ex':List Addr}{H H1 H2:Hp}{h h1 h2 h':Heap}{a x e:Addr}{o:HO}
theorem Un.any (u:Un fs ex H H1 h h1) {b:Addr}{ob:Obj}(q:h.get? b=some ob) (n:H b=none) (hx:b∉ex):∃sl,h1.get? b=some { ob with slots:=sl }:=by
 by_cases hb:b∈fs
 ·exact u.slot b ob q n hb hx
 ·exact⟨ob.slots,u.keep b ob q n hb hx⟩
theorem Un.kept (k:∀b u,h.get? b=some u->h'.get? b=some u):Un fs ex H H h h' :=
 ⟨λ b ob q Ω Ω Ω=>k b ob q,λ b ob q Ω Ω Ω=>⟨ob.slots,k b ob q⟩,λ Ω Ω Ω n Ω=>n,λ b ob q Ω=>⟨ob,k b ob q⟩,λ Ω Ω q=>q,λ Ω Ω Ω q=>q,λ Ω ps q=>⟨#[],by rw[q];simp⟩⟩
theorem Un.refl:Un fs ex H H h h:=Un.kept λ Ω Ω q=>q
theorem Un.laid (k:∀b u,h.get? b=some u->h'.get? b=some u) (hp:h.objs.size<=a) (hn:H a=none):Un fs ex H (upd H a o) h h' where
 keep:=λ b u q Ω Ω Ω=>k b u q
 slot:=λ b u q Ω Ω Ω=>⟨u.slots,k b u q⟩
 free:=λ b u q n Ω=>by rw[zAL (Nat.ne_of_lt (Nat.lt_of_lt_of_le (Heap.lt_size q) hp))];exact n
 there:=λ b u q Ω=>⟨u,k b u q⟩
 tups:=λ b xs q=>by rw[zAL (zAK q hn)];exact q
 frzs:=λ b u xs q=>by rw[zAL (zAK q hn)];exact q
 tbls:=λ b ps q=>⟨#[],by rw[zAL (zAK q hn),q];simp⟩
theorem Un.write (mu:Mut (H x)) (he:e=x\/H e=some (.own x)) (k:∀b u,b≠e->h.get? b=some u->h'.get? b=some u) (heo:∃u,h'.get? e=some u):Un fs ex H (upd H x o) h h':=by
 have hx:∀b,H b=none->b≠x:=λ b n z=>by subst z;rw[n] at mu;exact mu
 have hb:∀b,H b=none->b≠e:=λ b n z=>by
  subst z;rcases he with r|r
  ·exact hx b n r
  ·rw[n] at r;cases r
 have hm:∀b u,H b=some u->¬Mut (some u)->b≠x:=λ b u q nm z=>by subst z;rw[q] at mu;exact nm mu
 refine⟨λ b u q n Ω Ω=>k b u (hb b n) q,λ b u q n Ω Ω=>⟨u.slots,k b u (hb b n) q⟩,λ b u q n Ω=>by rw[zAL (hx b n)];exact n,λ b u q Ω=>?_,
  λ b xs q=>by rw[zAL (hm b _ q λ z=>z)];exact q,λ b u xs q=>by rw[zAL (hm b _ q λ z=>z)];exact q,λ b ps q=>⟨#[],by rw[zAL (hm b _ q λ z=>z),q];simp⟩⟩
 by_cases hbe:b=e
 ·subst hbe;exact heo
 ·exact⟨u,k b u hbe q⟩
end
noncomputable def trk (h:Heap) (H:Hp):List Addr:=(List.range h.objs.size).filter λ a=>(H a).isSome
noncomputable def hidT (h:Heap) (H:Hp):Heap:=W.hideAll h (trk h H)
theorem zJZ (h:Heap) (H:Hp):(hidT h H).objs.size=h.objs.size:=W.hideAll_size _ _
theorem zKh {h:Heap}{H:Hp}{b:Addr}{o:Obj}(e:h.get? b=some o) (n:H b=none):(hidT h H).get? b=some o :=
 W.hideAll_get _ e λ hm=>by
  have q:(H b).isSome=true:=(List.mem_filter.mp hm).2;rw[n] at q;simp at q
theorem zLn {h:Heap}{H:Hp}{b:Addr}{o:Obj}(e:(hidT h H).get? b=some o):h.get? b=some o/\H b=none:=by
 have e':h.get? b=some o:=W.of_hideAll (trk h H) e;refine⟨e',?_⟩;cases q:H b with
 |none=>rfl
 |some x =>
  have hm:b∈trk h H:=List.mem_filter.mpr ⟨List.mem_range.mpr (lH e'),by simp[q]⟩;have z:(hidT h H).get? b=none:=W.hideAll_none (trk h H) hm;rw[z] at e;cases e
noncomputable def zL4 (g h:Heap) (L:Addr):List (Addr × Obj):=(List.range h.objs.size).filterMap λ a=>if a=L\/(g.get? a).isSome=true then none else (h.get? a).map λ o=>(a,o)
noncomputable def rest (g h:Heap) (L d:Addr):List (Addr × Obj):=(zL4 g h L).filter λ p=>decide (p.1≠d)
structure Mod (K:W.Frag) (mg:Str->Option Value) (base:Heap):Prop where
 kin:K.In base
 glob:base.Ns mainGlobals mg
 blt:∃mb,base.Ns builtinsNs mb/\∀x:Str,x ≠ "__name__" -> mb x=bootBuiltins x
 nolimit:base.NoLimit
structure Cx where
 prog:Program
 w:World
 K:W.Frag
 mg:Str->Option Value
 base:Heap
 A:Around
 N:List Str
 s₀:Shared
 H₀:Hp
 env:Env
 outer:List Env
 stack:List Env
 ex:List Addr
 fn:Str->Bool
 calm:Bool
 pn:List (Addr × Obj)
 xe:Value->Shared->Prop
def frs (l:List Env):List Addr:=l.filterMap (·.frame)
abbrev Cx.fs (X:Cx):List Addr:=frs X.outer
noncomputable def Vis (sc:Scope) (x:Str):Prop:=sc.names.lookup x=some .local\/sc.names.lookup x=some .cell\/sc.names.lookup x=some .free
noncomputable def Loc (sc:Scope) (x:Str):Prop:=sc.names.lookup x=some .local\/sc.names.lookup x=some .cell
noncomputable def Look (env:Env) (h:Heap) (m:Str->Option Value) (x:Str) (u:Value):Prop :=
 (env.kindOf x=some .local/\m x=some u)\/((env.kindOf x=some .cell\/env.kindOf x=some .free)/\∃c,env.cells.lookup x=some c/\h.IsCell c (some u))
structure Cx.Ok (X:Cx):Prop where
 mod:Mod X.K X.mg X.base
 kind:X.env.scope.kind = .function
 glob:X.env.globals=mainGlobals
 blt:X.env.builtins=builtinsNs
 above:X.s₀.heap.objs.size<=X.env.locals
 inj:∀x y c,X.env.cells.lookup x=some c->X.env.cells.lookup y=some c->x=y
 has:∀x,(X.env.kindOf x=some .cell\/X.env.kindOf x=some .free)->∃c,X.env.cells.lookup x=some c
 cab:∀x c,X.fn x=true->X.env.cells.lookup x=some c->X.s₀.heap.objs.size<=c
 hd:X.calm=true->X.A.handled=none
 frames:X.A.frames=some X.stack
 stk:X.stack=X.outer\/(X.stack=X.env::X.outer/\X.env.frame=some X.env.locals)
 exf:∀b∈X.ex,b≠X.env.locals/\∀x c,X.env.cells.lookup x=some c->c≠b
 bs:∀b o,X.base.get? b=some o->X.s₀.heap.get? b=some o/\X.H₀ b=none
 bsz:X.base.objs.size<=X.s₀.heap.objs.size
 noex:∀b o,X.base.get? b=some o->b∉X.ex
 exfs:∀b∈X.ex,b∉X.fs
 funs:X.s₀.heap.FunFrames X.base X.outer
 frf:∀b∈X.fs,X.H₀ b=none
structure Inv (X:Cx) (jP:List (Addr × Obj)) (σ:List (Option V)) (H:Hp) (s:Shared):Prop where
 ok:X.Ok
 os:s.os=X.s₀.os
 bare:AllBare s.gens
 base:Un X.fs X.ex X.H₀ H X.s₀.heap s.heap
 loc:∃m,s.heap.Ns X.env.locals m/\∀(i:Nat) (x:Str) (v:V),X.N[i]?=some x->σ[i]?=some (some v)->Vis X.env.scope x->∃u,RelV v u/\Look X.env s.heap m x u
 cell:∀x c,X.env.cells.lookup x=some c->∃v,s.heap.IsCell c v
 free:H X.env.locals=none
 freeC:∀x c,X.env.cells.lookup x=some c->H c=none
 pin:∀p∈X.pn++jP,s.heap.get? p.1=some p.2/\H p.1=none/\p.1≠X.env.locals/\p.1∉X.fs/\∀v,p.2.data ≠ .cell v
 hok:HOk X.prog X.w H s.heap
 len:σ.length=X.N.length
section
variable {X:Cx}{jP:List (Addr × Obj)}{σ:List (Option V)}{H H':Hp}{s:Shared}{h':Heap}
theorem Cx.Ok.nofr (ok:X.Ok) {b:Addr}{o:Obj}(e:X.base.get? b=some o):b∉X.fs:=λ hb=>by
 have:=(ok.funs.mem hb).1;rw[e] at this;cases this
theorem Inv.bs (I:Inv X jP σ H s):∀b o,X.base.get? b=some o->s.heap.get? b=some o/\H b=none:=λ b o e =>
 ⟨I.base.keep b o (I.ok.bs b o e).1 (I.ok.bs b o e).2 (I.ok.nofr e) (I.ok.noex b o e),I.base.free b o (I.ok.bs b o e).1 (I.ok.bs b o e).2 (I.ok.noex b o e)⟩
theorem Inv.bk (I:Inv X jP σ H s):∀b o,X.base.get? b=some o->s.heap.get? b=some o:=λ b o e=>(I.bs b o e).1
theorem Inv.mod (I:Inv X jP σ H s):Mod X.K X.mg X.base:=I.ok.mod
theorem Inv.kIn (I:Inv X jP σ H s):X.K.In s.heap:=I.ok.mod.kin.keeps I.bk
theorem Inv.lt (I:Inv X jP σ H s):X.env.locals<s.heap.objs.size:=let ⟨_,hn,_⟩:=I.loc;hn.lt
theorem Inv.sz (I:Inv X jP σ H s):X.s₀.heap.objs.size<=s.heap.objs.size:=mG I.ok.above (Nat.le_of_lt I.lt)
theorem Inv.nofs (I:Inv X jP σ H s) {a:Addr}(h:s.heap.objs.size<=a):a∉X.fs:=λ hb=>by
 obtain⟨_,o,ho,_⟩:=I.ok.funs.mem hb;exact absurd (lZ (lH ho) (mG I.sz h)) (Nat.lt_irrefl _)
theorem Inv.cne (I:Inv X jP σ H s):∀x c,X.env.cells.lookup x=some c->c≠X.env.locals:=λ x c e z=>by
 obtain⟨v,o,ho,hd⟩:=I.cell x c e;obtain⟨m,⟨o',es,ep,ho',hd',_⟩,_⟩:=I.loc;rw[z,ho'] at ho;cases ho;rw[hd'] at hd;cases hd
theorem Inv.funs (I:Inv X jP σ H s):s.heap.FunFrames X.base X.outer:=by
 have all:∀(l:List Env),(∀b∈frs l,b∈X.fs)->X.s₀.heap.FunFrames X.base l->s.heap.FunFrames X.base l:=by
  intro l
  induction l with
  |nil=>intro _ _;trivial
  |cons env r ih =>
   intro hs hl;obtain⟨hk,⟨L,o,hf,hn,ho,hd⟩,hr⟩:=hl;have hL:L∈X.fs:=hs L (by unfold frs;rw[List.filterMap_cons,hf];exact lO);obtain⟨sl,e⟩:=I.base.slot L o ho (I.ok.frf L hL) hL λ z=>I.ok.exfs L z hL;exact⟨hk,⟨L,_,hf,hn,e,hd⟩,ih (λ b hb=>hs b (by unfold frs;rw[List.filterMap_cons,hf];exact lP _ hb)) hr⟩
 exact all X.outer (λ Ω hb=>hb) I.ok.funs
theorem Inv.stack (I:Inv X jP σ H s):s.heap.FunFrames X.base X.stack:=by
 rcases I.ok.stk with e|⟨e,hf⟩
 ·rw[e];exact I.funs
 ·rw[e]
  obtain⟨m,hn,_⟩:=I.loc;refine .cons (by rw[I.ok.kind];decide) hf hn ?_ I.funs;exact Heap.get?_none_of_le (mG I.ok.bsz I.ok.above)
theorem Inv.stkSub (I:Inv X jP σ H s):∀b∈frs X.stack,b∈X.env.locals::X.fs:=λ b hb=>by
 rcases I.ok.stk with e|⟨e,hf⟩
 ·rw[e] at hb;exact lP _ hb
 ·rw[e] at hb
  unfold frs at hb;rw[List.filterMap_cons,hf] at hb;exact hb
theorem Inv.stkFree (I:Inv X jP σ H s):∀b∈frs X.stack,H b=none:=λ b hb=>by
 rcases lN.mp (I.stkSub b hb) with e|hb
 ·rw[e];exact I.free
 ·obtain⟨_,o,ho,_⟩:=I.ok.funs.mem hb
  exact I.base.free b o ho (I.ok.frf b hb) λ z=>I.ok.exfs b z hb
theorem Inv.step {g':Array GenState}{t':Nat}{d':Drawn}{ch:List Addr}(I:Inv X jP σ H s)
  (hch:∀b∈ch,(b∈X.ex\/X.s₀.heap.objs.size<=b)/\b≠X.env.locals/\(∀x c,X.env.cells.lookup x=some c->c≠b)/\∀p∈X.pn++jP,p.1≠b)
  (keep:∀b o,b≠X.env.locals->b∉X.fs->b∉ch->s.heap.get? b=some o->H b=none->h'.get? b=some o)
  (slot:∀b o,b≠X.env.locals->b∈X.fs->b∉ch->s.heap.get? b=some o->H b=none->∃sl,h'.get? b=some { o with slots:=sl }) (free:∀b o,b∉ch->s.heap.get? b=some o->H b=none->H' b=none)
  (there:∀b o,b∉ch->s.heap.get? b=some o->∃o',h'.get? b=some o')
  (tups:∀b xs,H b=some (.tup xs)->H' b=some (.tup xs)) (frzs:∀b o u,H b=some (.frz o u)->H' b=some (.frz o u)) (tbls:∀b ps,H b=some (.tbl ps)->∃more,H' b=some (.tbl (ps++more)))
  (ns:∀m,s.heap.Ns X.env.locals m->h'.Ns X.env.locals m) (hok:HOk X.prog X.w H' h') (hg:AllBare g') :
  Inv X jP σ H' { s with heap:=h',gens:=g',drawn:=d',toks:=t' }:=by
 have neL:∀b o,X.s₀.heap.get? b=some o->b≠X.env.locals:=λ b o e=>lR (lZ (lH e) I.ok.above)
 have neC:∀b o,X.s₀.heap.get? b=some o->b∉X.ex->b∉ch:=λ b o e hx hb=>by
  rcases (hch b hb).1 with z|z
  ·exact hx z
  ·exact absurd (lZ (lH e) z) (Nat.lt_irrefl _)
 have cellK:∀x c,X.env.cells.lookup x=some c->∀v,s.heap.IsCell c v->h'.IsCell c v:=λ x c e v ⟨o,ho,hd⟩=>by
  have nch:c∉ch:=λ z=>(hch c z).2.2.1 x c e rfl
  by_cases hc:c∈X.fs
  ·obtain⟨sl,q⟩:=slot c o (I.cne x c e) hc nch ho (I.freeC x c e)
   exact⟨_,q,hd⟩
  ·exact⟨o,keep c o (I.cne x c e) hc nch ho (I.freeC x c e),hd⟩
 refine⟨I.ok,I.os,hg,⟨λ b o e n hb hx=>?_,λ b o e n hb hx=>?_,λ b o e n hx=>?_,λ b o e hx=>?_,λ b xs e=>tups b xs (I.base.tups b xs e),λ b o xs e=>frzs b o xs (I.base.frzs b o xs e),λ b ps e=>?_⟩,?_,λ x c e=>?_,?_,λ x c e=>?_,λ p hp=>?_,hok,I.len⟩
 ·exact keep b o (neL b o e) hb (neC b o e hx) (I.base.keep b o e n hb hx) (I.base.free b o e n hx)
 ·obtain⟨sl,e1⟩:=I.base.slot b o e n hb hx
  obtain⟨sl',e2⟩:=slot b _ (neL b o e) hb (neC b o e hx) e1 (I.base.free b o e n hx);exact⟨sl',e2⟩
 ·obtain⟨o',e1⟩:=I.base.there b o e hx
  exact free b o' (neC b o e hx) e1 (I.base.free b o e n hx)
 ·obtain⟨o',e1⟩:=I.base.there b o e hx
  exact there b o' (neC b o e hx) e1
 ·obtain⟨m1,e1⟩:=I.base.tbls b ps e
  obtain⟨m2,e2⟩:=tbls b _ e1;exact⟨m1++m2,by rw[e2,Array.append_assoc]⟩
 ·obtain⟨m,hn,hl⟩:=I.loc
  refine⟨m,ns m hn,λ i x v e1 e2 e3=>?_⟩;obtain⟨u,r,l⟩:=hl i x v e1 e2 e3;refine⟨u,r,?_⟩;rcases l with l|⟨k,c,e,z⟩
  ·exact .inl l
  ·exact .inr ⟨k,c,e,cellK x c e _ z⟩
 ·obtain⟨v,z⟩:=I.cell x c e
  exact⟨v,cellK x c e v z⟩
 ·obtain⟨m,⟨o,_,_,ho,_⟩,_⟩:=I.loc
  exact free _ o (λ z=>(hch _ z).2.1 rfl) ho I.free
 ·obtain⟨v,o,ho,hd⟩:=I.cell x c e
  exact free c o (λ z=>(hch c z).2.2.1 x c e rfl) ho (I.freeC x c e)
 ·obtain⟨e,n,ne,nf,d⟩:=I.pin p hp
  have nch:p.1∉ch:=λ z=>(hch p.1 z).2.2.2 p hp rfl;exact⟨keep p.1 p.2 ne nf nch e n,free p.1 p.2 nch e n,ne,nf,d⟩
theorem Inv.un {t':Nat}(I:Inv X jP σ H s) (u:Un X.fs [] H H' s.heap h') (hok:HOk X.prog X.w H' h'):Inv X jP σ H' { s with heap:=h',toks:=t' }:=by
 obtain⟨m,⟨o,es,ep,ho,r⟩,_⟩:=id I.loc;obtain⟨sl,hL⟩:=u.any ho I.free (by simp)
 exact I.step (g':=s.gens) (d':=s.drawn) (ch:=[]) (λ Ω z=>nomatch z) (λ b o Ω hb Ω e n=>u.keep b o e n hb (by simp)) (λ b o Ω hb Ω e n=>u.slot b o e n hb (by simp)) (λ b o Ω e n=>u.free b o e n (by simp)) (λ b o Ω e=>u.there b o e (by simp)) u.tups u.frzs u.tbls (λ m' hm=>by
  obtain⟨o',es',ep',ho',r'⟩:=hm;rw[ho] at ho';cases ho';exact⟨_,es',ep',hL,r'⟩) hok I.bare
theorem Inv.call {g':Array GenState}{t':Nat}{d':Drawn}{ch:List Addr}(I:Inv X jP σ H s) (u:Un (frs X.stack) ch H H' s.heap h') (hok:HOk X.prog X.w H' h') (hg:AllBare g')
  (hch:∀b∈ch,(b∈X.ex\/X.s₀.heap.objs.size<=b)/\b≠X.env.locals/\(∀x c,X.env.cells.lookup x=some c->c≠b)/\∀p∈X.pn++jP,p.1≠b) :
  Inv X jP σ H' { s with heap:=h',gens:=g',drawn:=d',toks:=t' }:=by
 obtain⟨m,⟨o,es,ep,ho,r⟩,_⟩:=id I.loc;obtain⟨sl,hL⟩:=u.any ho I.free λ z=>(hch _ z).2.1 rfl
 exact I.step (ch:=ch) hch (λ b o hL hb hc e n=>u.keep b o e n (λ z=>(lN.mp (I.stkSub b z)).elim hL hb) hc) (λ b o Ω Ω hc e n=>u.any e n hc) (λ b o hc e n=>u.free b o e n hc) (λ b o hc e=>u.there b o e hc) u.tups u.frzs u.tbls (λ m' hm=>by
  obtain⟨o',es',ep',ho',r'⟩:=hm;rw[ho] at ho';cases ho';exact⟨_,es',ep',hL,r'⟩) hok hg
theorem Inv.turned {t':Nat}{it:Addr}(I:Inv X jP σ H s) (k:∀b o,b≠it->s.heap.get? b=some o->h'.get? b=some o) (hn:H it=none) (hL:it≠X.env.locals)
  (h1:it∈X.ex\/X.s₀.heap.objs.size<=it) (h2:∀x c,X.env.cells.lookup x=some c->c≠it) (h3:∀p∈X.pn++jP,p.1≠it):Inv X jP σ H { s with heap:=h',toks:=t' }:=by
 have nit:∀b u,H b=some u->b≠it:=λ b u e z=>by rw[z,hn] at e;cases e
 refine I.step (g':=s.gens) (d':=s.drawn) (ch:=[it]) (λ b hb=>?_) (λ b o Ω Ω hc e Ω=>k b o (λ z=>hc (by simp[z])) e) (λ b o Ω Ω hc e Ω=>⟨o.slots,k b o (λ z=>hc (by simp[z])) e⟩) (λ Ω Ω Ω Ω n=>n)
  (λ b o hc e=>⟨o,k b o (λ z=>hc (by simp[z])) e⟩) (λ Ω Ω e=>e) (λ Ω Ω Ω e=>e) (λ b ps e=>⟨#[],by rw[e];simp⟩) (λ m hm=>?_) (λ b u e=>?_) I.bare
 ·have e:b=it:=by simpa using hb
  subst e;exact⟨h1,hL,h2,h3⟩
 ·obtain⟨o,es,ep,ho,r⟩:=hm
  exact⟨o,es,ep,k _ o (Ne.symm hL) ho,r⟩
 ·refine(I.hok b u e).stay (λ c v hc q=>k c v ?_ q) (λ Ω q=>q) λ Ω Ω q=>q
  rcases hc with z|z
  ·rw[z];exact nit b u e
  ·exact nit c _ z
theorem Inv.tok (I:Inv X jP σ H s) (t:Nat):Inv X jP σ H { s with toks:=t }:=I.un (h':=s.heap) (t':=t) Un.refl I.hok
theorem Inv.kept {t':Nat}(I:Inv X jP σ H s) (k:∀b u,s.heap.get? b=some u->h'.get? b=some u):Inv X jP σ H { s with heap:=h',toks:=t' }:=I.un (Un.kept k) (I.hok.kept k)
theorem Inv.laid {a:Addr}{o:HO}{t':Nat}(I:Inv X jP σ H s) (k:∀b u,s.heap.get? b=some u->h'.get? b=some u) (hp:s.heap.objs.size<=a) (new:ObjOk X.prog X.w (upd H a o) h' a o) :
  Inv X jP σ (upd H a o) { s with heap:=h',toks:=t' }:=I.un (Un.laid k hp (I.hok.fresh hp)) (I.hok.laid k hp new)
theorem Inv.write {x e:Addr}{o:HO}{t':Nat}(I:Inv X jP σ H s) (mu:Mut (H x)) (he:e=x\/H e=some (.own x)) (k:∀b u,b≠e->s.heap.get? b=some u->h'.get? b=some u) (heo:∃u,h'.get? e=some u)
  (new:ObjOk X.prog X.w (upd H x o) h' x o):Inv X jP σ (upd H x o) { s with heap:=h',toks:=t' }:=I.un (Un.write mu he k heo) (I.hok.write mu he k heo new)
theorem Inv.weak {σ':List (Option V)}(I:Inv X jP σ H s) (hl:σ'.length=σ.length) (w:∀(i:Nat) v,σ'[i]?=some (some v)->σ[i]?=some (some v)):Inv X jP σ' H s :=
 ⟨I.ok,I.os,I.bare,I.base,let ⟨m,hn,hl'⟩:=I.loc;⟨m,hn,λ i x v e1 e2 e3=>hl' i x v e1 (w i v e2) e3⟩,I.cell,I.free,I.freeC,I.pin,I.hok,hl.trans I.len⟩
theorem Inv.pins_of {pins':List (Addr × Obj)}(I:Inv X jP σ H s) (h:∀p∈pins',s.heap.get? p.1=some p.2/\H p.1=none/\p.1≠X.env.locals/\p.1∉X.fs/\∀v,p.2.data ≠ .cell v):Inv X pins' σ H s :=
 ⟨I.ok,I.os,I.bare,I.base,I.loc,I.cell,I.free,I.freeC,λ p hp=>(lK.mp hp).elim (λ z=>I.pin p (mF _ z)) (h p),I.hok,I.len⟩
theorem zHb {N:List Str}(hN:N.Nodup) {i j:Nat}{x:Str}(a:N[i]?=some x) (b:N[j]?=some x):i=j:=by
 obtain⟨h1,e1⟩:=lJ.mp a;obtain⟨h2,e2⟩:=lJ.mp b;exact(List.getElem_inj hN).mp (e1.trans e2.symm)
theorem zFj {M:Model}{A:Around}{E:Value->Shared->Prop}{i:Nat}{x:Str}{v:V}{u:Value}{Q:Unit->Shared->Prop}(I:Inv X jP σ H s) (hN:X.N.Nodup) (hi:X.N[i]?=some x) (hx:Loc X.env.scope x) (r:RelV v u)
  (h:∀s',Inv X jP (σ.set i (some v)) H s'->(∃a,Heap.SameBut a s.heap s'.heap/\(a=X.env.locals\/X.env.cells.lookup x=some a))->Q () s') (hf:X.fn x=true\/X.env.scope.names.lookup x=some .local:=by first|exact .inl rfl|exact .inr rfl|assumption):wpAny M A (storeName X.env x u) Q E s:=by
 obtain⟨m,hn,hl⟩:=id I.loc;have hcls:(X.env.scope.kind == .class || (X.env.scope.kind == .module && X.env.locals != X.env.globals))=false:=by rw[I.ok.kind];rfl
 have hiσ:i<σ.length:=by rw[I.len];exact(lJ.mp hi).1
 have cne:=I.cne
 have tracked:∀{a:Addr}{h':Heap},(∃o,s.heap.get? a=some o/\H a=none)->Heap.SameBut a s.heap h'->HOk X.prog X.w H h':=λ{a h'} ha hs b ob e=>by
  obtain⟨_,_,hfree⟩:=ha;refine(I.hok b ob e).stay (λ c w' hc q=>(hs.2 c ?_).trans q) (λ Ω q=>q) λ Ω Ω q=>q;rintro rfl;rcases hc with rfl|hc
  ·rw[hfree] at e;cases e
  ·rw[hfree] at hc;cases hc
 rcases hx with hk|hk
 ·refine wpAny_storeName_local hk hn (λ h' hn' hs=>?_) hcls
  obtain⟨oL,_,_,hoL,_⟩:=id hn;refine h _ ⟨I.ok,I.os,I.bare,⟨λ b o e n hb hx=>?_,λ b o e n hb hx=>?_,I.base.free,λ b o e hx=>?_,I.base.tups,I.base.frzs,I.base.tbls⟩,⟨_,hn',λ j y v' e1 e2 e3=>?_⟩,λ y c e=>?_,I.free,I.freeC,λ p hp=>?_,tracked ⟨oL,hoL,I.free⟩ hs,by simpa using I.len⟩ ⟨_,hs,.inl rfl⟩
  ·exact(hs.2 b (lR (lZ (lH e) I.ok.above))).trans (I.base.keep b o e n hb hx)
  ·obtain⟨sl,e1⟩:=I.base.slot b o e n hb hx
   exact⟨sl,(hs.2 b (lR (lZ (lH e) I.ok.above))).trans e1⟩
  ·obtain⟨o',e1⟩:=I.base.there b o e hx
   exact⟨o',(hs.2 b (lR (lZ (lH e) I.ok.above))).trans e1⟩
  ·by_cases hj:j=i
   ·subst hj
    rw[hi] at e1;cases e1;rw[List.getElem?_set_self hiσ] at e2;cases e2;exact⟨u,r,.inl ⟨hk,by simp⟩⟩
   ·rw[List.getElem?_set_ne (Ne.symm hj)] at e2
    obtain⟨u',r',q⟩:=hl j y v' e1 e2 e3;refine⟨u',r',?_⟩;rcases q with ⟨k,e⟩|⟨k,c,e,z⟩
    ·refine .inl ⟨k,?_⟩
     have:y≠x:=λ e=>hj (zHb hN e1 (e▸hi));simp[this,e]
    ·exact .inr ⟨k,c,e,z.sameBut hs (cne y c e)⟩
  ·obtain⟨w',z⟩:=I.cell y c e
   exact⟨w',z.sameBut hs (cne y c e)⟩
  ·obtain⟨e,n,ne,nf,d⟩:=I.pin p hp
   exact⟨(hs.2 p.1 ne).trans e,n,ne,nf,d⟩
 ·have hfn:X.fn x=true:=by
   rcases hf with z|z
   ·exact z
   ·rw[z] at hk;cases hk
  obtain⟨c,hc⟩:=I.ok.has x (.inl hk);obtain⟨w',z⟩:=I.cell x c hc;refine wpAny_storeName_cell I.ok.kind hk hc z (λ h' hc' hs=>?_);obtain⟨oc,hoc,hocd⟩:=id z;refine h { s with heap:=h' } ⟨I.ok,I.os,I.bare,⟨λ b o e n hb hx=>?_,λ b o e n hb hx=>?_,I.base.free,λ b o e hx=>?_,I.base.tups,I.base.frzs,I.base.tbls⟩,⟨m,hn.sameBut hs (Ne.symm (cne x c hc)),λ j y v' e1 e2 e3=>?_⟩,λ y c' e=>?_,I.free,I.freeC,λ p hp=>?_,tracked ⟨oc,hoc,I.freeC x c hc⟩ hs,by simpa using I.len⟩ ⟨c,hs,.inr hc⟩
  ·exact(hs.2 b (lR (lZ (lH e) (I.ok.cab x c hfn hc)))).trans (I.base.keep b o e n hb hx)
  ·obtain⟨sl,e1⟩:=I.base.slot b o e n hb hx
   exact⟨sl,(hs.2 b (lR (lZ (lH e) (I.ok.cab x c hfn hc)))).trans e1⟩
  ·obtain⟨o',e1⟩:=I.base.there b o e hx
   exact⟨o',(hs.2 b (lR (lZ (lH e) (I.ok.cab x c hfn hc)))).trans e1⟩
  ·by_cases hj:j=i
   ·subst hj
    rw[hi] at e1;cases e1;rw[List.getElem?_set_self hiσ] at e2;cases e2;exact⟨u,r,.inr ⟨.inl hk,c,hc,hc'⟩⟩
   ·rw[List.getElem?_set_ne (Ne.symm hj)] at e2
    obtain⟨u',r',q⟩:=hl j y v' e1 e2 e3;refine⟨u',r',?_⟩;rcases q with q|⟨k,c',e,z'⟩
    ·exact .inl q
    ·refine .inr ⟨k,c',e,z'.sameBut hs ?_⟩
     rintro rfl;exact hj (zHb hN e1 (I.ok.inj _ _ _ e hc▸hi))
  ·by_cases hcc:c'=c
   ·subst hcc;exact⟨_,hc'⟩
   ·obtain⟨w2,z2⟩:=I.cell y c' e
    exact⟨w2,z2.sameBut hs hcc⟩
  ·obtain⟨e,n,ne,nf,d⟩:=I.pin p hp
   refine⟨(hs.2 p.1 ?_).trans e,n,ne,nf,d⟩;intro q;rw[q,hoc] at e;have q':oc=p.2:=mE e;exact d w' (by rw[←q'];exact hocd)
theorem zHB {M:Model}{A:Around}{E:Value->Shared->Prop}{i:Nat}{x:Str}{v:V}{u:Value}{Q:Unit->Shared->Prop}(I:Inv X jP σ H s) (hN:X.N.Nodup) (hi:X.N[i]?=some x) (hx:Loc X.env.scope x) (r:RelV v u)
  (h:∀s',Inv X jP (σ.set i (some v)) H s'->Q () s') (hf:X.fn x=true\/X.env.scope.names.lookup x=some .local:=by first|exact .inl rfl|exact .inr rfl|assumption):wpAny M A (storeName X.env x u) Q E s :=
 zFj I hN hi hx r (λ s' I' Ω=>h s' I') hf
theorem Inv.call' {s':Shared}{ch:List Addr}(I:Inv X jP σ H s) (ho:s'.os=s.os) (u:Un (frs X.stack) ch H H' s.heap s'.heap) (hok:HOk X.prog X.w H' s'.heap) (hg:AllBare s'.gens)
  (hch:∀b∈ch,(b∈X.ex\/X.s₀.heap.objs.size<=b)/\b≠X.env.locals/\(∀x c,X.env.cells.lookup x=some c->c≠b)/\∀p∈X.pn++jP,p.1≠b):Inv X jP σ H' s':=by
 obtain⟨h',g',d',t',o'⟩:=s';have e:o'=s.os:=ho;subst e;exact I.call (g':=g') (t':=t') (d':=d') u hok hg hch
end
abbrev XK:=Value->Option Addr->Hp->Prop
abbrev St:=List (Option V)
abbrev VK:=V->Hp->Prop
abbrev TE:=St->Hp->VK->Prop
abbrev TT:=St->Hp->(Bool->Hp->Prop)->Prop
abbrev TA:=St->Hp->(List V->Hp->Prop)->Prop
structure Ends where
 nx:St->Hp->Prop
 rt:VK
 bk:St->Hp->Prop:=λ Ω Ω=>False
 ct:St->Hp->Prop:=λ Ω Ω=>False
abbrev TS:=Ends->St->Hp->Prop
noncomputable def EP (X:Cx) (jP:List (Addr × Obj)) (σ:St) (Q:VK) (u:Value) (s':Shared):Prop:=∃v H',Inv X jP σ H' s'/\RelV v u/\Q v H'
noncomputable def TP (X:Cx) (jP:List (Addr × Obj)) (σ:St) (Q:Bool->Hp->Prop) (b:Bool) (s':Shared):Prop:=∃H',Inv X jP σ H' s'/\Q b H'
noncomputable def AP (X:Cx) (jP:List (Addr × Obj)) (σ:St) (Q:List V->Hp->Prop) (us:List Value) (s':Shared):Prop:=∃vs H',Inv X jP σ H' s'/\Vals vs us/\Q vs H'
noncomputable def SP (X:Cx) (jP:List (Addr × Obj)) (D:Ends) (f:Flow) (s':Shared):Prop :=
 match f with
 |.next=>∃σ' H',Inv X jP σ' H' s'/\D.nx σ' H'
 |.brk=>∃σ' H',Inv X jP σ' H' s'/\D.bk σ' H'
 |.cont=>∃σ' H',Inv X jP σ' H' s'/\D.ct σ' H'
 |.ret u=>∃v σ' H',Inv X jP σ' H' s'/\RelV v u/\D.rt v H'
noncomputable def PE (X:Cx) (e:Expr) (t:TE):Prop :=
 ∀(jP:List (Addr × Obj)) (s:Shared) (σ:St) (H:Hp) (Q:VK),Inv X jP σ H s->t σ H Q->wpAny (model X.prog X.w) X.A (eval e X.env) (EP X jP σ Q) X.xe s
noncomputable def PT (X:Cx) (e:Expr) (t:TT):Prop :=
 ∀(jP:List (Addr × Obj)) (s:Shared) (σ:St) (H:Hp) (Q:Bool->Hp->Prop),Inv X jP σ H s->t σ H Q->wpAny (model X.prog X.w) X.A (isTrue e X.env (eval e X.env)) (TP X jP σ Q) X.xe s
noncomputable def PW (X:Cx) (e:Expr) (t:TT):Prop :=
 ∀(whole:Sem Value) (jP:List (Addr × Obj)) (s:Shared) (σ:St) (H:Hp) (Q:Bool->Hp->Prop),Inv X jP σ H s->t σ H Q->wpAny (model X.prog X.w) X.A (isTrue e X.env whole) (TP X jP σ Q) X.xe s
theorem PW.pt {X:Cx}{e:Expr}{t:TT}(h:PW X e t):PT X e t:=h _
noncomputable def PA (X:Cx) (es:List Expr) (t:TA):Prop :=
 ∀(pos:Pos) (jP:List (Addr × Obj)) (s:Shared) (σ:St) (H:Hp) (Q:List V->Hp->Prop),Inv X jP σ H s->t σ H Q->wpAny (model X.prog X.w) X.A (spliced (backTo pos (starEach es X.env))) (AP X jP σ Q) X.xe s
noncomputable def PS (X:Cx) (st:Stmt) (t:TS):Prop :=
 ∀(jP:List (Addr × Obj)) (s:Shared) (σ:St) (H:Hp) (D:Ends),Inv X jP σ H s->t D σ H->wpAny (model X.prog X.w) X.A (exec st X.env) (SP X jP D) X.xe s
noncomputable def PSs (X:Cx) (st:List Stmt) (t:TS):Prop :=
 ∀(jP:List (Addr × Obj)) (s:Shared) (σ:St) (H:Hp) (D:Ends),Inv X jP σ H s->t D σ H->wpAny (model X.prog X.w) X.A (execs st X.env) (SP X jP D) X.xe s
theorem thn {α:Type}{t:Sem α}{Q Q':α->Shared->Prop}{M:Model}{A:Around}{E:Value->Shared->Prop}{s:Shared}(h:wpAny M A t Q E s) (hQ:∀a s,Q a s->Q' a s):wpAny M A t Q' E s:=wpAny_mono h hQ λ Ω Ω x=>x
section
variable {X:Cx}
noncomputable def tVar (i:Nat):TE:=λ σ H Q=>∃v,σ[i]?=some (some v)/\Q v H
noncomputable def tC (v:V):TE:=λ Ω H Q=>Q v H
theorem zMN {i:Nat}{x:Str}{pos:Pos}(hN:X.N[i]?=some x) (hv:Vis X.env.scope x) (hd:(x == ("__debug__" : Str))=false:=by decide) (hcd:(x == ("__classdict__" : Str))=false:=by decide):PE X (.Name x pos) (tVar i):=by
 intro jP s σ H Q I h;obtain⟨v,e,h⟩:=h;obtain⟨m,hn,hl⟩:=I.loc;obtain⟨u,r,l⟩:=hl i x v hN e hv;have fin:EP X jP σ Q u s:=⟨v,H,I,r,h⟩;rcases l with ⟨hk,hm⟩|⟨hk,c,hc,hcell⟩
 ·exact wpAny_Name (wpAny_loadName_local I.ok.kind hk hn hm fin) hd
 ·rcases hk with hk|hk
  ·exact wpAny_Name (wpAny_loadName_cell I.ok.kind hk hc hcell fin) hd
  ·exact wpAny_Name (wpAny_loadName_free I.ok.kind hk hc hcell fin hcd) hd
theorem zAJ {i j pos}:PE X (.Constant (.int i) j pos) (tC (.int i)):=λ Ω Ω Ω H Ω I h=>wpAny_Constant_int ⟨.int i,H,I.tok _,⟨_,rfl⟩,h⟩
theorem pe_bl {b j pos}:PE X (.Constant (.bool b) j pos) (tC (.bl b)):=λ Ω Ω Ω H Ω I h=>Constant_bool ⟨.bl b,H,I,rfl,h⟩
theorem zF2 {j pos}:PE X (.Constant .none j pos) (tC .non):=λ Ω Ω Ω H Ω I h=>Constant_none ⟨.non,H,I,rfl,h⟩
theorem zAY {x j pos}:PE X (.Constant (.str x) j pos) (tC (.str x)):=λ Ω Ω Ω H Ω I h=>Calls.Constant_str ⟨.str x,H,I.tok _,⟨_,rfl⟩,h⟩
noncomputable def Gl (X:Cx) (x:Str):Prop:=X.env.kindOf x=some .globalImplicit
theorem zGz {E:Value->Shared->Prop}{jP:List (Addr × Obj)}{s:Shared}{σ:St}{H:Hp}{x:Str}{u:Value}{pos:Pos}{Q:Value->Shared->Prop}(I:Inv X jP σ H s) (hg:Gl X x) (hm:X.mg x=some u) (h:Q u s)
  (hd:(x == ("__debug__" : Str))=false:=by decide):wpAny (model X.prog X.w) X.A (eval (.Name x pos) X.env) Q E s :=
 Calls.Name_function_global I.ok.kind hg (Calls.loadGlobal_global (by rw[I.ok.glob];exact I.mod.glob.keeps I.bk) hm h) hd
theorem zBv {E:Value->Shared->Prop}{jP:List (Addr × Obj)}{s:Shared}{σ:St}{H:Hp}{x:Str}{u:Value}{pos:Pos}{Q:Value->Shared->Prop}(I:Inv X jP σ H s) (hg:Gl X x) (hm:X.mg x=none) (hv:bootBuiltins x=some u) (h:Q u s)
  (hn:x ≠ "__name__" := by decide) (hd:(x == ("__debug__" : Str))=false:=by decide):wpAny (model X.prog X.w) X.A (eval (.Name x pos) X.env) Q E s:=by
 obtain⟨mb,h1,h2⟩:=I.mod.blt;exact Calls.Name_function_global I.ok.kind hg (Calls.loadGlobal_builtin (by rw[I.ok.glob];exact I.mod.glob.keeps I.bk) hm (by rw[I.ok.blt];exact h1.keeps I.bk) ((h2 x hn).trans hv) h) hd
theorem zGr {x:Str}{v:V}{u:Value}{pos:Pos}(hg:Gl X x) (hm:X.mg x=some u) (r:RelV v u) (hd:(x == ("__debug__" : Str))=false:=by decide):PE X (.Name x pos) (tC v) :=
 λ Ω Ω Ω H Ω I h=>zGz I hg hm ⟨v,H,I,r,h⟩ hd
theorem zBt {x:Str}{v:V}{u:Value}{pos:Pos}(hg:Gl X x) (hm:X.mg x=none) (hv:bootBuiltins x=some u) (r:RelV v u) (hn:x ≠ "__name__" := by decide) (hd:(x == ("__debug__" : Str))=false:=by decide):PE X (.Name x pos) (tC v) :=
 λ Ω Ω Ω H Ω I h=>zBv I hg hm hv ⟨v,H,I,r,h⟩ hn hd
variable {a b:Expr}{ta tb:TE}{pos:Pos}
noncomputable def tB (t:TE):TT:=λ σ H Q=>t σ H λ x H1=>∃c,x = .bl c/\Q c H1
theorem zBq {e:Expr}{t:TE}(h:PE X e t) (he:∀whole,isTrue e X.env whole=(do let v ← whole;standAt e.pos;holding [v] (truthy v)):=by intro _;rfl):PT X e (tB t):=by
  intro jP s σ H Q I hw;refine isTrue_plain (thn (h jP s σ H _ I hw) λ v s1 ⟨x,H1,I1,r1,q1⟩=>?_) (he _);obtain⟨d,rfl,q⟩:=q1;cases r1;exact wpAny_truthy_bool ⟨H1,I1,q⟩
variable {tA tB':TT}{rest:List Expr}
noncomputable def tAnd (t u:TT):TT:=λ σ H Q=>t σ H λ c H1=>if c=true then u σ H1 Q else Q false H1
noncomputable def tOr (t u:TT):TT:=λ σ H Q=>t σ H λ c H1=>if c=true then Q true H1 else u σ H1 Q
noncomputable def tNot (t:TT):TT:=λ σ H Q=>t σ H λ c H1=>Q (!c) H1
theorem zEF (ha:PT X a tA):PW X (.BoolOp .And [a] pos) tA:=by
 intro wh jP s σ H Q I h;refine isTrue_and (thn (ha jP s σ H Q I h) λ c s1 e=>?_);cases c with
 |true=>exact isTrue_and_nil e
 |false=>exact e
theorem zEE (ha:PT X a tA):PW X (.BoolOp .Or [a] pos) tA:=by
 intro wh jP s σ H Q I h;refine isTrue_or (thn (ha jP s σ H Q I h) λ c s1 e=>?_);cases c with
 |false=>exact isTrue_or_nil e
 |true=>exact e
theorem zFx (ha:PT X a tA) (hb:PW X (.BoolOp .And (b::rest) pos) tB'):PW X (.BoolOp .And (a::b::rest) pos) (tAnd tA tB'):=by
 intro wh jP s σ H Q I h;refine isTrue_and (thn (ha jP s σ H _ I h) λ c s1 ⟨H1,I1,q1⟩=>?_);cases c with
 |true=>exact hb wh jP s1 σ H1 Q I1 q1
 |false=>exact⟨H1,I1,q1⟩
theorem pw_or (ha:PT X a tA) (hb:PW X (.BoolOp .Or (b::rest) pos) tB'):PW X (.BoolOp .Or (a::b::rest) pos) (tOr tA tB'):=by
 intro wh jP s σ H Q I h;refine isTrue_or (thn (ha jP s σ H _ I h) λ c s1 ⟨H1,I1,q1⟩=>?_);cases c with
 |true=>exact⟨H1,I1,q1⟩
 |false=>exact hb wh jP s1 σ H1 Q I1 q1
theorem zCQ (ha:PT X a tA):PT X (.UnaryOp .Not a pos) (tNot tA):=by
 intro jP s σ H Q I h;exact isTrue_not (ha jP s σ H (λ c H1=>Q (!c) H1) I h)
noncomputable def tAndV (ta tb:TE):TE:=λ σ H Q=>ta σ H λ x H1=>∃c,x = .bl c/\if c=true then tb σ H1 Q else Q (.bl false) H1
noncomputable def tOrV (ta tb:TE):TE:=λ σ H Q=>ta σ H λ x H1=>∃c,x = .bl c/\if c=true then Q (.bl true) H1 else tb σ H1 Q
noncomputable def tNotV (ta:TE):TE:=λ σ H Q=>ta σ H λ x H1=>∃c,x = .bl c/\Q (.bl (!c)) H1
theorem zDq {op} {t:TE}(h:PE X a t):PE X (.BoolOp op [a] pos) t:=λ jP s σ H Q I hw=>BoolOp_one (h jP s σ H Q I hw)
theorem zF3 (ha:PE X a ta) (hb:PE X (.BoolOp .And (b::rest) pos) tb):PE X (.BoolOp .And (a::b::rest) pos) (tAndV ta tb):=by
 intro jP s σ H Q I h;refine BoolOp_and (thn (ha jP s σ H _ I h) λ v s1 ⟨x,H1,I1,r1,q1⟩=>?_);obtain⟨c,rfl,q1⟩:=q1;cases r1;refine wpAny_truthy_bool ?_;cases c with
 |true=>exact hb jP s1 σ H1 Q I1 q1
 |false=>exact⟨.bl false,H1,I1,rfl,q1⟩
theorem pe_or (ha:PE X a ta) (hb:PE X (.BoolOp .Or (b::rest) pos) tb):PE X (.BoolOp .Or (a::b::rest) pos) (tOrV ta tb):=by
 intro jP s σ H Q I h;refine BoolOp_or (thn (ha jP s σ H _ I h) λ v s1 ⟨x,H1,I1,r1,q1⟩=>?_);obtain⟨c,rfl,q1⟩:=q1;cases r1;refine wpAny_truthy_bool ?_;cases c with
 |false=>exact hb jP s1 σ H1 Q I1 q1
 |true=>exact⟨.bl true,H1,I1,rfl,q1⟩
theorem zK6 (ha:PE X a ta):PE X (.UnaryOp .Not a pos) (tNotV ta):=by
 intro jP s σ H Q I h;refine UnaryOp_ (thn (ha jP s σ H _ I h) λ v s1 ⟨x,H1,I1,r1,q1⟩=>?_);obtain⟨c,rfl,q1⟩:=q1;cases r1;exact not_of (wpAny_truthy_bool ⟨.bl (!c),H1,I1,rfl,q1⟩)
end
noncomputable def SqL (K:W.Frag) (H:Hp) (a:Addr) (xs:List V):Prop :=
 Rd H a (.lst xs) \/
  ∃(o:Obj) (its:Array Value) (n:Nat),K.lookup a=some o/\o.cls = .type "list" /\ o.dict=none/\o.data = .seq its n/\its.size<=sizeLine/\Vals xs its.toList
noncomputable def SqT (K:W.Frag) (H:Hp) (a:Addr) (xs:List V):Prop :=
 Rd H a (.tup xs) \/
  ∃(o:Obj) (its:Array Value) (n:Nat),K.lookup a=some o/\o.cls = .type "tuple" /\ o.data = .seq its n/\its.size<=sizeLine/\Vals xs its.toList
noncomputable def absV:Value->Option V
 |.none=>some .non
 |.bool b=>some (.bl b)
 |.int i _=>some (.int i)
 |.str x _=>some (.str x)
 |.bytes b _=>some (.byt b)
 |.float b _=>some (.flt b)
 |.ref a=>some (.ref a)
 |.type n=>some (.ty n)
 |_=>none
theorem RelV.abs {x:V}{u:Value}(r:RelV x u):absV u=some x:=by
 cases x with
 |non=>cases r;rfl
 |bl _=>cases r;rfl
 |int _=>obtain⟨t,rfl⟩:=r;rfl
 |str _=>obtain⟨t,rfl⟩:=r;rfl
 |byt _=>obtain⟨t,rfl⟩:=r;rfl
 |flt _=>obtain⟨t,rfl⟩:=r;rfl
 |ref _=>cases r;rfl
 |ty _=>cases r;rfl
theorem RelV.inj {x y:V}{u:Value}(r:RelV x u) (q:RelV y u):x=y:=mE (r.abs.symm.trans q.abs)
theorem Vals.inj {xs ys:List V}{us:List Value}(h:Vals xs us):Vals ys us->xs=ys:=by
 induction h generalizing ys with
 |nil=>intro z;cases z;rfl
 |cons r t ih=>intro z;cases z with|cons r' t'=>rw[r.inj r',ih t']
section
variable {X:Cx}{jP:List (Addr × Obj)}{σ:St}{H:Hp}{s:Shared}{a:Addr}{xs ys:List V}
theorem SqL.of {K:W.Frag}(h:H a=some (.lst xs)):SqL K H a xs:=.inl (.inl h)
theorem SqT.of {K:W.Frag}(h:H a=some (.tup xs)):SqT K H a xs:=.inl (.inl h)
theorem Inv.list (I:Inv X jP σ H s) (h:SqL X.K H a xs):∃its:List Value,Vals xs its/\PlainL s.heap a its.toArray/\xs.length<=sizeLine:=by
 rcases h with h|⟨o,its,n,hk,hc,hd,hs,hz,r⟩
 ·obtain⟨z,its,n,r,e⟩:=h.ok I.hok
  exact⟨its,r,⟨_,n,e,rfl,rfl,rfl⟩,z⟩
 ·refine⟨its.toList,r,⟨o,n,I.kIn a o hk,hc,hd,by simpa using hs⟩,?_⟩
  have e:=r.length;simp only[Array.length_toList] at e;omega
theorem Inv.tuple (I:Inv X jP σ H s) (h:SqT X.K H a xs):∃its:List Value,Vals xs its/\IsTup s.heap a its.toArray/\xs.length<=sizeLine:=by
 rcases h with h|⟨o,its,n,hk,hc,hs,hz,r⟩
 ·obtain⟨z,its,r,p⟩:=h.ok I.hok
  exact⟨its,r,p,z⟩
 ·refine⟨its.toList,r,⟨o,I.kIn a o hk,hc,n,by simpa using hs⟩,?_⟩
  have e:=r.length;simp only[Array.length_toList] at e;omega
theorem Inv.list_inj (I:Inv X jP σ H s) (h:SqL X.K H a xs) (h':SqL X.K H a ys):xs=ys:=by
 obtain⟨its,r,⟨o,n,e,_,_,d⟩,_⟩:=I.list h;obtain⟨its',r',⟨o',n',e',_,_,d'⟩,_⟩:=I.list h';rw[e] at e';cases e';rw[d] at d';injection d' with d1 _
 have:its=its':=by simpa using congrArg Array.toList d1
 subst this;exact r.inj r'
theorem Inv.tuple_inj (I:Inv X jP σ H s) (h:SqT X.K H a xs) (h':SqT X.K H a ys):xs=ys:=by
 obtain⟨its,r,⟨o,e,_,n,d⟩,_⟩:=I.tuple h;obtain⟨its',r',⟨o',e',_,n',d'⟩,_⟩:=I.tuple h';rw[e] at e';cases e';rw[d] at d';injection d' with d1 _
 have:its=its':=by simpa using congrArg Array.toList d1
 subst this;exact r.inj r'
end
abbrev Cx.wish (X:Cx) (E:Value->Shared->Prop):Cx:={ X with xe:=E }
abbrev Cx.nox (X:Cx):Cx:=X.wish λ Ω Ω=>False
theorem Cx.Ok.wish {X:Cx}(ok:X.Ok) (E:Value->Shared->Prop):(X.wish E).Ok :=
 ⟨ok.mod,ok.kind,ok.glob,ok.blt,ok.above,ok.inj,ok.has,ok.cab,ok.hd,ok.frames,ok.stk,ok.exf,ok.bs,ok.bsz,ok.noex,ok.exfs,ok.funs,ok.frf⟩
theorem Cx.Ok.unwish {X:Cx}{E:Value->Shared->Prop}(ok:(X.wish E).Ok):X.Ok :=
 ⟨ok.mod,ok.kind,ok.glob,ok.blt,ok.above,ok.inj,ok.has,ok.cab,ok.hd,ok.frames,ok.stk,ok.exf,ok.bs,ok.bsz,ok.noex,ok.exfs,ok.funs,ok.frf⟩
section
variable {X:Cx}{jP:List (Addr × Obj)}{σ:St}{H:Hp}{s:Shared}{E:Value->Shared->Prop}
theorem Inv.wish (I:Inv X jP σ H s) (E:Value->Shared->Prop):Inv (X.wish E) jP σ H s:=⟨I.ok.wish E,I.os,I.bare,I.base,I.loc,I.cell,I.free,I.freeC,I.pin,I.hok,I.len⟩
theorem Inv.unwish (I:Inv (X.wish E) jP σ H s):Inv X jP σ H s:=⟨I.ok.unwish,I.os,I.bare,I.base,I.loc,I.cell,I.free,I.freeC,I.pin,I.hok,I.len⟩
theorem SP.unwish {D:Ends}{f:Flow}{s':Shared}(h:SP (X.wish E) jP D f s'):SP X jP D f s':=by
 cases f with
 |next=>obtain⟨σ',H',I,q⟩:=h;exact⟨σ',H',I.unwish,q⟩
 |brk=>obtain⟨σ',H',I,q⟩:=h;exact⟨σ',H',I.unwish,q⟩
 |cont=>obtain⟨σ',H',I,q⟩:=h;exact⟨σ',H',I.unwish,q⟩
 |ret u=>obtain⟨v,σ',H',I,r,q⟩:=h;exact⟨v,σ',H',I.unwish,r,q⟩
theorem PSs.nox {st:List Stmt}{t:TS}(h:PSs X.nox st t):PSs X st t:=λ jP s σ H D I hw =>
 wpAny_mono (h jP s σ H D (I.wish _) hw) (λ Ω Ω q=>q.unwish) λ Ω Ω z=>False.elim z
end
section
variable {X:Cx}{st:Stmt}{rest:List Stmt}{t u:TS}{e:Expr}{te:TE}{pos:Pos}
noncomputable def tNext:TS:=λ D σ H=>D.nx σ H
noncomputable def tSeq (t u:TS):TS:=λ D σ H=>t { D with nx:=u D } σ H
theorem zAO:PSs X [] tNext:=λ _ _ σ H _ I h=>wpAny_execs_nil ⟨σ,H,I,h⟩
theorem zAE (h1:PS X st t) (h2:PSs X rest u):PSs X (st::rest) (tSeq t u):=by
 intro jP s σ H D I h;refine wpAny_execs_cons (thn (h1 jP s σ H { D with nx:=u D } I h) λ f s1 q=>?_);cases f with
 |next =>
  obtain⟨σ',H',I',q⟩:=q;exact h2 jP s1 σ' H' D I' q
 |ret v=>exact q
 |brk=>exact q
 |cont=>exact q
theorem zAF (h1:PS X st t):PSs X [st] t:=by
 intro jP s σ H D I h;refine wpAny_execs_cons (thn (h1 jP s σ H D I h) λ f s1 q=>?_);cases f with
 |next=>exact wpAny_execs_nil q
 |ret v=>exact q
 |brk=>exact q
 |cont=>exact q
theorem Inv.quiet {jP:List (Addr × Obj)}{σ:St}{H:Hp}{s:Shared}(I:Inv X jP σ H s):interactive X.env=false:=by simp[interactive,I.ok.kind]
noncomputable def tDrop (te:TE):TS:=λ D σ H=>te σ H λ Ω H1=>D.nx σ H1
theorem zAw (he:PE X e te) (hs:swapsWith e none pos.line X.env=pure false:=by rfl):PS X (.Expr e pos) (tDrop te):=by
 intro jP s σ H D I h;exact wpAny_Expr_any (thn (he jP s σ H _ I h) λ v s1 ⟨x,H1,I1,r1,q1⟩=>⟨σ,H1,I1,q1⟩) I.quiet hs
noncomputable def tRet (te:TE):TS:=λ D σ H=>te σ H D.rt
theorem zAU (he:PE X e te):PS X (.Return (some e) pos) (tRet te):=by
 intro jP s σ H D I h;exact wpAny_Return_some (thn (he jP s σ H _ I h) λ v s1 ⟨x,H1,I1,r1,q1⟩=>⟨x,σ,H1,I1,r1,q1⟩)
noncomputable def tIfS (c:TT) (t u:TS):TS:=λ D σ H=>c σ H λ b H1=>if b=true then t D σ H1 else u D σ H1
theorem ps_if {c:Expr}{a b:List Stmt}{tc:TT}(hc:PT X c tc) (ha:PSs X a t) (hb:PSs X b u):PS X (.If c a b pos) (tIfS tc t u):=by
 intro jP s σ H D I h;refine wpAny_If (thn (hc jP s σ H _ I h) λ d s1 ⟨H1,I1,q1⟩=>?_);cases d with
 |true=>exact ha jP s1 σ H1 D I1 q1
 |false=>exact hb jP s1 σ H1 D I1 q1
noncomputable def zL7:TS:=λ Ω Ω Ω=>False
theorem zBr {sts:List Stmt}:PSs X sts zL7:=λ Ω Ω Ω Ω Ω Ω h=>h.elim
end
abbrev TG:=V->St->Hp->(St->Hp->Prop)->Prop
abbrev TGs:=List V->St->Hp->(St->Hp->Prop)->Prop
noncomputable def PG (X:Cx) (target:Expr) (t:TG):Prop :=
 ∀(jP:List (Addr × Obj)) (s:Shared) (σ:St) (H:Hp) (v:V) (u:Value) (Q:St->Hp->Prop),Inv X jP σ H s->RelV v u->t v σ H Q ->
  wpAny (model X.prog X.w) X.A (assign target X.env u) (λ Ω s'=>∃σ' H',Inv X jP σ' H' s'/\Q σ' H') X.xe s
noncomputable def PGs (X:Cx) (ts:List Expr) (t:TGs):Prop :=
 ∀(jP:List (Addr × Obj)) (s:Shared) (σ:St) (H:Hp) (vs:List V) (us:List Value) (Q:St->Hp->Prop),Inv X jP σ H s->Vals vs us->t vs σ H Q ->
  wpAny (model X.prog X.w) X.A (assignInOrder ((assignEach ts X.env).map (·.2)) us) (λ Ω s'=>∃σ' H',Inv X jP σ' H' s'/\Q σ' H') X.xe s
abbrev TSet:=V->V->V->Hp->(Hp->Prop)->Prop
noncomputable def PSet (X:Cx) (t:TSet):Prop :=
 ∀(jP:List (Addr × Obj)) (s:Shared) (σ:St) (H:Hp) (o i v:V) (ov iv u:Value) (Q:Hp->Prop),Inv X jP σ H s->RelV o ov->RelV i iv->RelV v u->t o i v H Q ->
  wpAny (model X.prog X.w) X.A (setItem ov iv u) (λ Ω s'=>∃H',Inv X jP σ H' s'/\Q H') X.xe s
section
variable {X:Cx}{pos:Pos}
noncomputable def gName (i:Nat):TG:=λ v σ H Q=>Q (σ.set i (some v)) H
theorem zAN {i:Nat}{x:Str}(hN:X.N.Nodup) (hi:X.N[i]?=some x) (hx:Loc X.env.scope x) (hf:X.fn x=true\/X.env.scope.names.lookup x=some .local:=by first|exact .inl rfl|exact .inr rfl|assumption):PG X (.Name x pos) (gName i):=by
 intro jP s σ H v u Q I r h;exact wpAny_assign_Name (zHB I hN hi hx r (λ s' I'=>⟨_,H,I',h⟩) hf)
noncomputable def gNil:TGs:=λ vs σ H Q=>vs=[]/\Q σ H
noncomputable def gCons (t:TG) (u:TGs):TGs:=λ vs σ H Q=>∃v r,vs=v::r/\t v σ H λ σ' H'=>u r σ' H' Q
theorem zBJ:PGs X [] gNil:=by
 intro jP s σ H vs us Q I r h;obtain⟨e,h⟩:=h;subst e;cases r;exact assignInOrder_nil ⟨σ,H,I,h⟩
theorem zAc {e:Expr}{es:List Expr}{t:TG}{u:TGs}(h1:PG X e t) (h2:PGs X es u)
  (hs:(assignEach (e::es) X.env).map (·.2)=assign e X.env::(assignEach es X.env).map (·.2):=by rfl):PGs X (e::es) (gCons t u):=by
 intro jP s σ H vs us Q I r h;obtain⟨v,vr,e1,h⟩:=h;subst e1;cases r with
 |cons r rr =>
  rw[hs];refine assignInOrder_cons (thn (h1 jP s σ H _ _ _ I r h) λ _ s1 ⟨σ1,H1,I1,q1⟩=>?_);exact h2 jP s1 σ1 H1 _ _ Q I1 rr q1
noncomputable def gTup (K:W.Frag) (n:Nat) (t:TGs):TG:=λ v σ H Q=>∃a xs,v = .ref a/\SqT K H a xs/\xs.length=n/\t xs σ H Q
theorem zBz {es:List Expr}{k:Nat}{t:TGs}{n:Nat}(hc:X.calm=true) (h:PGs X es t)
  (hn:(assignEach es X.env).length=n:=by rfl) (hst:(assignEach es X.env).findIdx? (·.1)=none:=by rfl):PG X (.Tuple es k pos) (gTup X.K n t):=by
 intro jP s σ H v u Q I r hw;obtain⟨a,xs,e1,hq,hl,hw⟩:=hw;subst e1;cases r;obtain⟨its,rv,ht,hz⟩:=I.tuple hq;refine assign_Tuple_tuple (I.ok.hd hc) ht (by simp[hn,←hl,rv.length]) hst λ h' hx=>?_;have I1:Inv X jP σ H { s with heap:=h' }:=I.kept (t':=s.toks) λ b o e=>hx b o (lR (lH e)) e;exact h jP _ σ H xs _ Q I1 (by simpa using rv) hw
noncomputable def gSub (to ti:TE) (t:TSet):TG:=λ v σ H Q=>to σ H λ o H1=>ti σ H1 λ i H2=>t o i v H2 λ H3=>Q σ H3
theorem zK4 {o i:Expr}{to ti:TE}{t:TSet}(ho:PE X o to) (hi:PE X i ti) (hs:PSet X t)
  (ha:∀v,assign (.Subscript o i pos) X.env v=(do
   let ov ← holding [v] (eval o X.env)
   let iv ← holding [v,ov] (eval i X.env)
   standAt pos
   holding [v,ov,iv] (setItem ov iv v)
   release [v,ov,iv] []):=by intro _;rfl):PG X (.Subscript o i pos) (gSub to ti t):=by
 intro jP s σ H v u Q I r h;rw[ha];refine lA (lD (thn (ho jP s σ H _ I h) λ ov s1 ⟨x,H1,I1,r1,q1⟩=>?_));refine lA (lD (thn (hi jP s1 σ H1 _ I1 q1) λ iv s2 ⟨y,H2,I2,r2,q2⟩=>?_));refine lA (wpAny_standAt (lA (lD (thn (hs jP s2 σ H2 x y v ov iv u _ I2 r1 r2 r q2) λ _ s3 ⟨H3,I3,q3⟩=>?_))));exact wpAny_release ⟨σ,H3,I3,q3⟩
noncomputable def tAsg (te:TE) (g:TG):TS:=λ D σ H=>te σ H λ x H1=>g x σ H1 D.nx
theorem zK2 {tg e:Expr}{te:TE}{g:TG}(he:PE X e te) (hg:PG X tg g) (hs:swapsWithSole [tg] e pos.line X.env=pure false:=by rfl) (hw:swappedStores [tg] e X.env=pure none:=by rfl)
  (h1:(assignEach [tg] X.env).map (·.2)=[assign tg X.env]:=by rfl):PS X (.Assign [tg] e pos) (tAsg te g):=by
 intro jP s σ H D I h;refine wpAny_Assign_stores (thn (he jP s σ H _ I h) λ v s1 ⟨x,H1,I1,r1,q1⟩=>?_) hs hw;rw[h1];exact thn (hg jP s1 σ H1 x v _ I1 r1 q1) λ Ω s2 q=>q
theorem zAX {i:Nat}{x:Str}{e:Expr}{te:TE}{pos':Pos}(hN:X.N.Nodup) (hi:X.N[i]?=some x) (hx:Loc X.env.scope x) (he:PE X e te) (hs:swapsWith e (some (.Name x pos')) pos.line X.env=pure false:=by rfl) (hf:X.fn x=true\/X.env.scope.names.lookup x=some .local:=by first|exact .inl rfl|exact .inr rfl|assumption) :
  PS X (.Assign [.Name x pos'] e pos) (tAsg te (gName i)):=by
 intro jP s σ H D I h;refine wpAny_Assign_Name (thn (he jP s σ H _ I h) λ v s1 ⟨y,H1,I1,r1,q1⟩=>?_) hs;exact zHB I1 hN hi hx r1 (λ s2 I2=>⟨_,H1,I2,q1⟩) hf
end
section
variable {X:Cx}{pos:Pos}
noncomputable def zL5 (c:TT) (tb:TS):TS:=λ D σ H=>∃W:Nat->St->Hp->Prop,(∃m,W m σ H)/\∀m σ H,W m σ H ->
 c σ H λ b H1=>if b=true then ∃N:St->Hp->Prop,(∀σ' H',N σ' H'->∃m',m'<m/\W m' σ' H')/\tb { D with nx:=N,ct:=N,bk:=D.nx } σ H1 else D.nx σ H1
theorem zDE {c:Expr}{body:List Stmt}{tc:TT}{tb:TS}(hp:PassesOwn (model X.prog X.w) X.A X.env X.xe) (hc:PT X c tc) (hb:PSs X body tb):PS X (.While c body [] pos) (zL5 tc tb):=by
 intro jP s σ H D I h;obtain⟨W,⟨m0,w0⟩,turn⟩:=h;refine wpAny_While (codeAny_whileLoop (λ n s'=>∃σ' H',Inv X jP σ' H' s'/\W n σ' H') ?_ m0 ⟨σ,H,I,w0⟩);rintro n s1 ⟨σ1,H1,I1,w1⟩;refine wpAny_passesOwn hp (thn (hc jP s1 σ1 H1 _ I1 (turn n σ1 H1 w1)) λ b s2 ⟨H2,I2,q2⟩=>?_);cases b with
 |true =>
  obtain⟨N,hN,q2⟩:=q2;rw[if_pos rfl];refine wpAny_passesOwn hp (thn (hb jP s2 σ1 H2 _ I2 q2) λ f s3 q3=>?_);cases f with
  |next =>
   obtain⟨σ3,H3,I3,n3⟩:=q3;obtain⟨m',hm,w3⟩:=hN σ3 H3 n3;exact⟨m',hm,σ3,H3,I3,w3⟩
  |cont =>
   obtain⟨σ3,H3,I3,n3⟩:=q3;obtain⟨m',hm,w3⟩:=hN σ3 H3 n3;exact⟨m',hm,σ3,H3,I3,w3⟩
  |brk=>exact q3
  |ret v=>exact q3
 |false =>
  rw[if_neg Bool.false_ne_true];exact wpAny_execs_nil ⟨σ1,H2,I2,q2⟩
end
structure It where
 go:Nat->Hp->Prop
 yld:Nat->Hp->V->Hp->Prop
 stop:Nat->Hp->Prop
noncomputable def FpOk (X:Cx) (jP:List (Addr × Obj)) (H:Hp) (b:Addr):Prop :=
 H b=none/\b≠X.env.locals/\b∉X.fs/\(b∈X.ex\/X.s₀.heap.objs.size<=b)/\(∀x c,X.env.cells.lookup x=some c->c≠b)/\∀p∈X.pn++jP,p.1≠b
theorem Inv.fpOk {X:Cx}{jP:List (Addr × Obj)}{σ:St}{H H':Hp}{s:Shared}{b:Addr}(I:Inv X jP σ H s) (hb:s.heap.objs.size<=b) (hn:H' b=none):FpOk X jP H' b:=by
 refine⟨hn,Nat.ne_of_gt (lZ I.lt hb),I.nofs hb,.inr (mG I.sz hb),λ x c e z=>?_,λ p hp z=>?_⟩
 ·obtain⟨v,q⟩:=I.cell x c e
  exact absurd (lZ q.lt (by rw[z];exact hb)) (Nat.lt_irrefl _)
 ·exact absurd (lZ (lH (I.pin p hp).1) (by rw[z];exact hb)) (Nat.lt_irrefl _)
structure Turn (P:Program) (w:World) (K:W.Frag) (tg:Expr) (J:It) (fp:List Addr) (it:Addr) (tn:Nat->Heap->Prop):Prop where
 mem:it∈fp
 obj:∀i h,tn i h->∀b∈fp,∃o,h.get? b=some o/\∀v,o.data ≠ .cell v
 keep:∀i h h',tn i h->(∀b∈fp,∀o,h.get? b=some o->h'.get? b=some o)->tn i h'
 item:∀(X:Cx),X.prog=P->X.w=w->X.K=K->X.calm=true->∀(i:Nat) (jP:List (Addr × Obj)) (s:Shared) (σ:St) (H:Hp) (E:Value->Shared->Prop),Inv X jP σ H s->(∀b∈fp,FpOk X jP H b)->tn i s.heap->J.go i H ->
  wpAny (model P w) X.A (pyNext (.ref it)) (λ r s1=>∃u,r=some u /\
   wpAny (model P w) X.A (letOwnedTupleGo tg (.ref it) u) (λ Ω s2=>∃x H',Inv X jP σ H' s2/\RelV x u/\J.yld i H x H'/\tn (i+1) s2.heap/\∀b∈fp,H' b=none) E s1) E s
 done:∀(X:Cx),X.prog=P->X.w=w->X.K=K->X.calm=true->∀(i:Nat) (jP:List (Addr × Obj)) (s:Shared) (σ:St) (H:Hp) (E:Value->Shared->Prop),Inv X jP σ H s->(∀b∈fp,FpOk X jP H b)->tn i s.heap->J.stop i H ->
  wpAny (model P w) X.A (pyNext (.ref it)) (λ r s1=>r=none/\Inv X jP σ H s1) E s
 self:∀(A:Around) (i:Nat) (s:Shared) (Q:Value->Shared->Prop) (E:Value->Shared->Prop),tn i s.heap->Q (.ref it) s->wpAny (model P w) A (pyIter (.ref it)) Q E s
abbrev TI:=St->Hp->(It->Hp->Prop)->Prop
noncomputable def PIE (X:Cx) (jP:List (Addr × Obj)) (σ:St) (tg:Expr) (R:It->Hp->Prop) (itv:Value) (s2:Shared):Prop :=
 ∃(it:Addr) (fp:List Addr) (tn:Nat->Heap->Prop) (J:It) (H':Hp),itv = .ref it/\Inv X jP σ H' s2/\Turn X.prog X.w X.K tg J fp it tn/\tn 0 s2.heap/\(∀b∈fp,FpOk X jP H' b)/\R J H'
noncomputable def PI (X:Cx) (tg iter:Expr) (wi:TI):Prop :=
 ∀(jP:List (Addr × Obj)) (s:Shared) (σ:St) (H:Hp) (R:It->Hp->Prop),Inv X jP σ H s->wi σ H R ->
  wpAny (model X.prog X.w) X.A (eval iter X.env) (λ v s1=>wpAny (model X.prog X.w) X.A (pyIter v) (PIE X jP σ tg R) X.xe s1) X.xe s
theorem go_of {M:Model}{A:Around}{E:Value->Shared->Prop}{s:Shared}{tg:Expr}{it:Addr}{u:Value}{o:Obj}{n:String}{vs:Array Value}{Q:Unit->Shared->Prop}(ho:s.heap.get? it=some o) (hc:o.cls = .type n) (hd:o.data = .fields vs)
    (hn:["enumerate", "zip", "dict_itemiterator", "dict_reverseitemiterator", "odict_iterator", "itertools.zip_longest", "itertools.pairwise"].contains n=false) (hQ:Q () s):wpAny M A (letOwnedTupleGo tg (.ref it) u) Q E s:=by
  unfold letOwnedTupleGo
  cases tg<;>first
    |exact lB hQ
    | (cases u<;>first
        |exact lB hQ
        | (refine lA (wpAny_load ho ?_)
           rw[hc,hd];show wpAny M A (if (["enumerate", "zip", "dict_itemiterator", "dict_reverseitemiterator", "odict_iterator", "itertools.zip_longest", "itertools.pairwise"].contains n && vs[0]? == some (rawInt _))=true then _ else _) Q E s;rw[if_neg (by intro h;rw[hn,Bool.false_and] at h;cases h)];exact lB hQ))
noncomputable def Itl (K:W.Frag) (a:Addr):It :=
 ⟨λ i H=>∃xs x,SqL K H a xs/\xs[i]?=some x,λ i H x H'=>H'=H/\∀xs,SqL K H a xs->xs[i]?=some x,λ i H=>∃xs,SqL K H a xs/\xs.length<=i⟩
noncomputable def Itt (K:W.Frag) (a:Addr):It :=
 ⟨λ i H=>∃xs x,SqT K H a xs/\xs[i]?=some x,λ i H x H'=>H'=H/\∀xs,SqT K H a xs->xs[i]?=some x,λ i H=>∃xs,SqT K H a xs/\xs.length<=i⟩
noncomputable def Itr (lo:Int) (n:Nat):It:=⟨λ i Ω=>i<n,λ i H x H'=>H'=H/\x = .int (lo+i),λ i Ω=>n<=i⟩
theorem zIc {P:Program}{w:World}{K:W.Frag}{tg:Expr}(a it:Addr):Turn P w K tg (Itl K a) [it] it (λ i h=>h.IsListIter it a i) where
 mem:=by simp
 obj:=λ i h st b hb=>by
  have e:b=it:=by simpa using hb
  subst e;obtain⟨o,e,c,d⟩:=st;exact⟨o,e,λ v z=>by rw[d] at z;cases z⟩
 keep:=λ i h h' st k=>st.at λ o e=>k it (by simp) o e
 item:=by
  intro X hP hw hK hc i jP s σ H E I hf st hg;subst hP hw hK;obtain⟨xs,x,hq,hx⟩:=hg;obtain⟨its,rv,p,hz⟩:=I.list hq;obtain⟨u,hu,ru⟩:=rv.get hx;obtain⟨f0,f1,f2,f3,f4,f5⟩:=hf it (by simp);refine wpAny_pyNext_list_item st p.isList (x:=u) (by simpa using hu) λ h' st' sb=>?_;have I1:Inv X jP σ H { s with heap:=h' }:=I.turned (t':=s.toks) (λ b o hb e=>(sb.2 b hb).trans e) f0 f1 f3 f4 f5;obtain⟨o,e,c,d⟩:=id st';exact⟨u,rfl,go_of (s:={ s with heap:=h' }) e c d (by decide) ⟨x,H,I1,ru,⟨rfl,λ ys hy=>by rw[I.list_inj hy hq];exact hx⟩,st',λ b hb=>(hf b hb).1⟩⟩
 done:=by
  intro X hP hw hK hc i jP s σ H E I hf st hg;subst hP hw hK;obtain⟨xs,hq,hx⟩:=hg;obtain⟨its,rv,p,hz⟩:=I.list hq;obtain⟨f0,f1,f2,f3,f4,f5⟩:=hf it (by simp);have hl:=rv.length;exact wpAny_pyNext_list_end (I.ok.hd hc) st p.isList (by simp;omega) λ h' eb=>⟨rfl,I.turned (t':=s.toks) (λ b o hb e=>eb b o hb e) f0 f1 f3 f4 f5⟩
 self:=λ Ω Ω Ω Ω Ω st h=>wpAny_pyIter_listiter st h
theorem zHz {P:Program}{w:World}{K:W.Frag}{tg:Expr}(a it:Addr):Turn P w K tg (Itt K a) [it] it (λ i h=>h.IsTupleIter it a i) where
 mem:=by simp
 obj:=λ i h st b hb=>by
  have e:b=it:=by simpa using hb
  subst e;obtain⟨o,e,c,d⟩:=st;exact⟨o,e,λ v z=>by rw[d] at z;cases z⟩
 keep:=λ i h h' st k=>st.at λ o e=>k it (by simp) o e
 item:=by
  intro X hP hw hK hc i jP s σ H E I hf st hg;subst hP hw hK;obtain⟨xs,x,hq,hx⟩:=hg;obtain⟨its,rv,p,hz⟩:=I.tuple hq;obtain⟨u,hu,ru⟩:=rv.get hx;obtain⟨f0,f1,f2,f3,f4,f5⟩:=hf it (by simp);refine wpAny_pyNext_tuple_item st (show s.heap.IsTuple a its.toArray from p) (x:=u) (by simpa using hu) λ h' st' sb=>?_;have I1:Inv X jP σ H { s with heap:=h' }:=I.turned (t':=s.toks) (λ b o hb e=>(sb.2 b hb).trans e) f0 f1 f3 f4 f5;obtain⟨o,e,c,d⟩:=id st';exact⟨u,rfl,go_of (s:={ s with heap:=h' }) e c d (by decide) ⟨x,H,I1,ru,⟨rfl,λ ys hy=>by rw[I.tuple_inj hy hq];exact hx⟩,st',λ b hb=>(hf b hb).1⟩⟩
 done:=by
  intro X hP hw hK hc i jP s σ H E I hf st hg;subst hP hw hK;obtain⟨xs,hq,hx⟩:=hg;obtain⟨its,rv,p,hz⟩:=I.tuple hq;obtain⟨f0,f1,f2,f3,f4,f5⟩:=hf it (by simp);have hl:=rv.length;exact wpAny_pyNext_tuple_end (I.ok.hd hc) st (show s.heap.IsTuple a its.toArray from p) (by simp;omega) λ h' eb=>⟨rfl,I.turned (t':=s.toks) (λ b o hb e=>eb b o hb e) f0 f1 f3 f4 f5⟩
 self:=λ Ω Ω Ω Ω Ω st h=>wpAny_pyIter_tupleiter st h
theorem zH0 {P:Program}{w:World}{K:W.Frag}{tg:Expr}(it:Addr) (lo:Int) (n:Nat):Turn P w K tg (Itr lo n) [it] it (λ i h=>IsRangeIter h it (lo+(i:Nat) * 1) ((n:Int) - (i:Nat)) 1) where
 mem:=by simp
 obj:=λ i h st b hb=>by
  have e:b=it:=by simpa using hb
  subst e
  exact⟨_,st,λ v z=>by
   have z':Data.fields _=Data.cell v:=z;cases z'⟩
 keep:=λ i h h' st k=>k it (by simp) _ st
 item:=by
  intro X hP hw hK hc i jP s σ H E I hf st hg;subst hP hw hK;obtain⟨f0,f1,f2,f3,f4,f5⟩:=hf it (by simp);have W:=Walks.range (prog:=X.prog) (w:=X.w) (I.ok.hd hc) it lo 1 n;refine W.item i s _ _ hg st λ v h' tk hv st' kk=>?_;obtain⟨t,rfl⟩:=hv;have I1:Inv X jP σ H { s with heap:=h',toks:=tk }:=I.turned (λ b o hb e=>kk b o (by simpa using hb) e) f0 f1 f3 f4 f5;refine⟨_,rfl,go_of (s:={ s with heap:=h',toks:=tk }) (n := "range_iterator") st' rfl rfl (by decide) ⟨.int (lo+i),H,I1,⟨t,?_⟩,⟨rfl,rfl⟩,st',λ b hb=>(hf b hb).1⟩⟩;rw[Int.mul_one]
 done:=by
  intro X hP hw hK hc i jP s σ H E I hf st hg;subst hP hw hK;obtain⟨f0,f1,f2,f3,f4,f5⟩:=hf it (by simp);exact wpAny_pyNext_range_end (I.ok.hd hc) st (by have:n<=i:=hg;omega) λ h' eb=>⟨rfl,I.turned (t':=s.toks) (λ b o hb e=>eb b o hb e) f0 f1 f3 f4 f5⟩
 self:=λ Ω Ω Ω Ω Ω st h=>wpAny_pyIter_rangeiter st h
section
variable {X:Cx}{tg:Expr}
noncomputable def iList (K:W.Frag) (tl:TE):TI:=λ σ H R=>tl σ H λ x H1=>∃a,x = .ref a/\(∃xs,SqL K H1 a xs)/\R (Itl K a) H1
noncomputable def iTup (K:W.Frag) (tl:TE):TI:=λ σ H R=>tl σ H λ x H1=>∃a,x = .ref a/\(∃xs,SqT K H1 a xs)/\R (Itt K a) H1
theorem zA7 {l:Expr}{tl:TE}(hl:PE X l tl):PI X tg l (iList X.K tl):=by
 intro jP s σ H R I h;refine thn (hl jP s σ H _ I h) λ v s1 ⟨x,H1,I1,r1,q1⟩=>?_;obtain⟨a,e,⟨xs,hq⟩,q⟩:=q1;subst e;cases r1;obtain⟨its,rv,p,hz⟩:=I1.list hq;refine wpAny_pyIter_list p.isList ?_;refine⟨s1.heap.objs.size,[s1.heap.objs.size],_,_,H1,rfl,I1.kept (t':=s1.toks) λ b o e=>lE _ e,zIc a _,⟨_,lG _ rfl,rfl,rfl⟩,λ b hb=>?_,q⟩;have e:b=s1.heap.objs.size:=by simpa using hb
 subst e;exact I1.fpOk (lQ _) (I1.hok.fresh (lQ _))
theorem zCt {l:Expr}{tl:TE}(hl:PE X l tl):PI X tg l (iTup X.K tl):=by
 intro jP s σ H R I h;refine thn (hl jP s σ H _ I h) λ v s1 ⟨x,H1,I1,r1,q1⟩=>?_;obtain⟨a,e,⟨xs,hq⟩,q⟩:=q1;subst e;cases r1;obtain⟨its,rv,p,hz⟩:=I1.tuple hq;refine wpAny_pyIter_tuple (show s1.heap.IsTuple a its.toArray from p) ?_;refine⟨s1.heap.objs.size,[s1.heap.objs.size],_,_,H1,rfl,I1.kept (t':=s1.toks) λ b o e=>lE _ e,zHz a _,⟨_,lG _ rfl,rfl,rfl⟩,λ b hb=>?_,q⟩;have e:b=s1.heap.objs.size:=by simpa using hb
 subst e;exact I1.fpOk (lQ _) (I1.hok.fresh (lQ _))
theorem zJ8 {jP:List (Addr × Obj)}{σ:St}{H:Hp}{s:Shared}{R:It->Hp->Prop}{E:Value->Shared->Prop}{lo hi:Int}{t u v:Tok}{tk:Nat}(I:Inv X jP σ H s) (h1:-(2 ^ 62)<=lo) (h2:lo<2 ^ 62) (h3:-(2 ^ 62)<=hi) (h4:hi<2 ^ 62)
  (q:R (Itr lo (hi - lo).toNat) H):wpAny (model X.prog X.w) X.A (pyIter (.ref s.heap.objs.size)) (PIE X jP σ tg R) E { s with heap:=s.heap.push { cls:=.type "range", data:=.fields #[.int lo t,.int hi u,.int 1 v] },toks:=tk }:=by
 refine wpAny_pyIter_range (IsRange.new ..) (small_one h1 h2 h3 h4) ?_;have I1:Inv X jP σ H { s with heap:=s.heap.push { cls:=.type "range", data:=.fields #[.int lo t,.int hi u,.int 1 v] },toks:=tk }:=I.kept λ b o e=>lE _ e
 refine⟨(s.heap.push { cls:=.type "range", data:=.fields #[.int lo t,.int hi u,.int 1 v] }).objs.size,[(s.heap.push { cls:=.type "range", data:=.fields #[.int lo t,.int hi u,.int 1 v] }).objs.size],_,_,H,rfl,
  I1.kept (t':=tk) λ b o e=>lE _ e,zH0 _ lo (hi - lo).toNat,?_,λ b hb=>?_,q⟩
 ·have e1:lo+((0:Nat):Int) * 1=lo:=by simp
  have e2:(((hi - lo).toNat:Nat):Int) - ((0:Nat):Int)=Builtin.Range.rangeSize lo hi 1:=by rw[rangeSize_one];split<;>omega
  show IsRangeIter _ _ (lo+((0:Nat):Int) * 1) ((((hi - lo).toNat:Nat):Int) - ((0:Nat):Int)) 1;rw[e1,e2];exact lG _ rfl
 ·have e:b=(s.heap.push { cls:=.type "range", data:=.fields #[.int lo t,.int hi u,.int 1 v] }).objs.size:=by simpa using hb
  subst e;exact I1.fpOk (lQ _) (I1.hok.fresh (lQ _))
noncomputable def iRng1 (ta:TA):TI:=λ σ H R=>ta σ H λ vs H1=>∃j:Int,vs=[.int j] /\ -(2 ^ 62)<=j/\j<2 ^ 62/\R (Itr 0 j.toNat) H1
theorem zF1 {a:Expr}{ta:TA}{p pos:Pos}(hg:Gl X "range") (hm:X.mg "range" = none) (ha:PA X [a] ta) (hs:starEach [a] X.env=[(false,eval a X.env)]:=by rfl):PI X tg (.Call (.Name "range" p) [a] [] pos) (iRng1 ta):=by
 intro jP s σ H R I h;refine Call_ (zBv I hg hm boot_range (PyProof.Rows.callWith_type1 (thn (ha pos jP s σ H _ I h) λ us s1 ⟨vs,H1,I1,r1,q1⟩=>?_) hs rfl));obtain⟨j,e,q1,q2,q⟩:=q1;subst e;cases r1 with
 |cons r rr =>
  cases rr;obtain⟨t,rfl⟩:=r;exact call_range_1 (zJ8 I1 (by omega) (by omega) q1 q2 (by simpa using q))
noncomputable def tFor (wi:TI) (g:TG) (tb:TS):TS:=λ D σ H=>wi σ H λ J H1=>∃W:Nat->Nat->St->Hp->Prop,(∃m,W 0 m σ H1)/\∀i m σ H,W i m σ H ->
 (J.stop i H/\D.nx σ H)\/(J.go i H/\∃N:St->Hp->Prop,(∀σ' H',N σ' H'->∃m',m'<m/\W (i+1) m' σ' H')/\∀x H',J.yld i H x H'->g x σ H' λ σ2 H2=>tb { D with nx:=N,ct:=N,bk:=D.nx } σ2 H2)
noncomputable def zEs (fp:List Addr) (h:Heap):List (Addr × Obj):=fp.filterMap λ b=>(h.get? b).map λ o=>(b,o)
theorem zBk {fp:List Addr}{h:Heap}{b:Addr}{o:Obj}(hb:b∈fp) (e:h.get? b=some o):(b,o)∈zEs fp h:=List.mem_filterMap.mpr ⟨b,hb,by rw[e];rfl⟩
theorem zJF {fp:List Addr}{h:Heap}{p:Addr × Obj}(hp:p∈zEs fp h):p.1∈fp/\h.get? p.1=some p.2:=by
 obtain⟨b,hb,e⟩:=List.mem_filterMap.mp hp;cases q:h.get? b with
 |none=>rw[q] at e;cases e
 |some o =>
  rw[q] at e;have e':(b,o)=p:=mE e;subst e';exact⟨hb,q⟩
theorem Inv.pinned {jP:List (Addr × Obj)}{σ:St}{H:Hp}{s:Shared}{fp:List Addr}(I:Inv X jP σ H s) (hf:∀b∈fp,FpOk X jP H b) (ho:∀b∈fp,∃o,s.heap.get? b=some o/\∀v,o.data ≠ .cell v):Inv X (jP++zEs fp s.heap) σ H s :=
 I.pins_of λ p hp=>(lK.mp hp).elim (λ z=>I.pin p (mB _ z)) λ z=>by
  obtain⟨hb,e⟩:=zJF z;obtain⟨f0,f1,f2,_⟩:=hf p.1 hb;obtain⟨o,e',d⟩:=ho p.1 hb;rw[e] at e';cases e';exact⟨e,f0,f1,f2,d⟩
theorem Inv.unpinned {jP pl:List (Addr × Obj)}{σ:St}{H:Hp}{s:Shared}(I:Inv X (jP++pl) σ H s):Inv X jP σ H s:=I.pins_of λ p hp=>I.pin p (mB _ (mF _ hp))
theorem zAn {iter:Expr}{body:List Stmt}{wi:TI}{g:TG}{tb:TS}{pos:Pos}(hp:PassesOwn (model X.prog X.w) X.A X.env X.xe) (hc:X.calm=true) (hi:PI X tg iter wi) (hg:PG X tg g) (hb:PSs X body tb)
  (hs:∀x,foldedSetIterable iter X.env x=pure x:=by intro _;rfl):PS X (.For tg iter body [] pos) (tFor wi g tb):=by
 intro jP s σ H D I h;refine wpAny_For (thn (hi jP s σ H _ I h) λ v s1 h1=>thn h1 λ itv s2 h2=>?_) hs;obtain⟨it,fp,tn,J,H2,e,I2,T,st2,f2,W,⟨m0,w0⟩,turn⟩:=h2;subst e;have stat:∀{H':Hp},(∀b∈fp,H' b=none)->∀b∈fp,FpOk X jP H' b:=λ hn b hb=>⟨hn b hb,(f2 b hb).2⟩;refine codeAny_forLoop_any (λ n s'=>∃i σ' H',Inv X jP σ' H' s'/\tn i s'.heap/\(∀b∈fp,H' b=none)/\W i n σ' H') ?_ m0 ⟨0,σ,H2,I2,st2,λ b hb=>(f2 b hb).1,w0⟩;rintro n s3 ⟨i,σ3,H3,I3,st3,fr3,w3⟩;rcases turn i n σ3 H3 w3 with ⟨stop,qn⟩|⟨go,N,hN,step⟩
 ·refine wpAny_passesOwn hp (thn (T.done X rfl rfl rfl hc i jP s3 σ3 H3 X.xe I3 (stat fr3) st3 stop) λ r s4 ⟨hr,I4⟩=>?_)
  subst hr;exact wpAny_execs_nil ⟨σ3,H3,I4,qn⟩
 ·refine wpAny_passesOwn hp (thn (T.item X rfl rfl rfl hc i jP s3 σ3 H3 X.xe I3 (stat fr3) st3 go) λ r s4 ⟨u,hr,h4⟩=>?_)
  subst hr;refine wpAny_passesOwn hp (thn h4 λ _ s5 ⟨x,H5,I5,r5,y5,st5,fr5⟩=>?_);have I5':=I5.pinned (stat fr5) (T.obj _ _ st5);refine wpAny_passesOwn hp (thn (hg _ s5 σ3 H5 x u _ I5' r5 (step x H5 y5)) λ _ s6 ⟨σ6,H6,I6,q6⟩=>?_);refine wpAny_passesOwn hp (thn (hb _ s6 σ6 H6 _ I6 q6) λ f s7 q7=>?_)
  have again:∀{σ7:St}{H7:Hp},Inv X (jP++zEs fp s5.heap) σ7 H7 s7->N σ7 H7->∃m,m<n/\∃i σ' H',Inv X jP σ' H' s7/\tn i s7.heap/\(∀b∈fp,H' b=none)/\W i m σ' H':=λ{σ7 H7} I7 n7=>by
   obtain⟨m',hm,w7⟩:=hN σ7 H7 n7;refine⟨m',hm,i+1,σ7,H7,I7.unpinned,T.keep _ _ _ st5 λ b hb o e=>(I7.pin (b,o) (mB _ (mB _ (zBk hb e)))).1,λ b hb=>?_,w7⟩;obtain⟨o,e,d⟩:=T.obj _ _ st5 b hb;exact(I7.pin (b,o) (mB _ (mB _ (zBk hb e)))).2.1
  cases f with
  |next=>obtain⟨σ7,H7,I7,n7⟩:=q7;exact again I7 n7
  |cont=>obtain⟨σ7,H7,I7,n7⟩:=q7;exact again I7 n7
  |brk=>obtain⟨σ7,H7,I7,q7⟩:=q7;exact⟨σ7,H7,I7.unpinned,q7⟩
  |ret v=>obtain⟨x7,σ7,H7,I7,r7,q7⟩:=q7;exact⟨x7,σ7,H7,I7.unpinned,r7,q7⟩
end
theorem zA4 {K:W.Frag}{a:Addr}{xs:List V}{g:TG}{tb:TS}{D:Ends}{σ:St}{H:Hp}(Pv:Nat->St->Hp->Prop) (h0:Pv 0 σ H) (hl:∀i σ H,i<=xs.length->Pv i σ H->SqL K H a xs)
  (hs:∀i x σ H,xs[i]?=some x->Pv i σ H->g x σ H λ σ2 H2=>tb { D with nx:=Pv (i+1),ct:=Pv (i+1),bk:=D.nx } σ2 H2) (hd:∀σ H,Pv xs.length σ H->D.nx σ H) :
  ∃W:Nat->Nat->St->Hp->Prop,(∃m,W 0 m σ H)/\∀i m σ H,W i m σ H ->
   ((Itl K a).stop i H/\D.nx σ H)\/((Itl K a).go i H/\∃N:St->Hp->Prop,(∀σ' H',N σ' H'->∃m',m'<m/\W (i+1) m' σ' H')/\∀x H',(Itl K a).yld i H x H'->g x σ H' λ σ2 H2=>tb { D with nx:=N,ct:=N,bk:=D.nx } σ2 H2):=by
 refine⟨λ i m σ H=>m=xs.length - i/\i<=xs.length/\Pv i σ H,⟨xs.length,by simp,lY _,h0⟩,?_⟩;rintro i m σ H ⟨rfl,hi,p⟩;have q:=hl i σ H hi p
 by_cases hlt:i<xs.length
 ·refine .inr ⟨⟨xs,xs[i],q,by simp[hlt]⟩,Pv (i+1),λ σ' H' p'=>⟨xs.length - (i+1),by omega,rfl,hlt,p'⟩,λ x H' y=>?_⟩
  obtain⟨e,y⟩:=y;subst e;exact hs i x σ _ (y xs q) p
 ·have e:i=xs.length:=by omega
  subst e;exact .inl ⟨⟨xs,q,lQ _⟩,hd σ H p⟩
theorem zFR {K:W.Frag}{a:Addr}{xs:List V}{g:TG}{tb:TS}{D:Ends}{σ:St}{H:Hp}(Pv:Nat->St->Hp->Prop) (h0:Pv 0 σ H) (hl:∀i σ H,i<=xs.length->Pv i σ H->SqT K H a xs)
  (hs:∀i x σ H,xs[i]?=some x->Pv i σ H->g x σ H λ σ2 H2=>tb { D with nx:=Pv (i+1),ct:=Pv (i+1),bk:=D.nx } σ2 H2) (hd:∀σ H,Pv xs.length σ H->D.nx σ H) :
  ∃W:Nat->Nat->St->Hp->Prop,(∃m,W 0 m σ H)/\∀i m σ H,W i m σ H ->
   ((Itt K a).stop i H/\D.nx σ H)\/((Itt K a).go i H/\∃N:St->Hp->Prop,(∀σ' H',N σ' H'->∃m',m'<m/\W (i+1) m' σ' H')/\∀x H',(Itt K a).yld i H x H'->g x σ H' λ σ2 H2=>tb { D with nx:=N,ct:=N,bk:=D.nx } σ2 H2):=by
 refine⟨λ i m σ H=>m=xs.length - i/\i<=xs.length/\Pv i σ H,⟨xs.length,by simp,lY _,h0⟩,?_⟩;rintro i m σ H ⟨rfl,hi,p⟩;have q:=hl i σ H hi p
 by_cases hlt:i<xs.length
 ·refine .inr ⟨⟨xs,xs[i],q,by simp[hlt]⟩,Pv (i+1),λ σ' H' p'=>⟨xs.length - (i+1),by omega,rfl,hlt,p'⟩,λ x H' y=>?_⟩
  obtain⟨e,y⟩:=y;subst e;exact hs i x σ _ (y xs q) p
 ·have e:i=xs.length:=by omega
  subst e;exact .inl ⟨⟨xs,q,lQ _⟩,hd σ H p⟩
theorem zGD {lo:Int}{n:Nat}{g:TG}{tb:TS}{D:Ends}{σ:St}{H:Hp}(Pv:Nat->St->Hp->Prop) (h0:Pv 0 σ H)
  (hs:∀i σ H,i<n->Pv i σ H->g (.int (lo+i)) σ H λ σ2 H2=>tb { D with nx:=Pv (i+1),ct:=Pv (i+1),bk:=D.nx } σ2 H2) (hd:∀σ H,Pv n σ H->D.nx σ H) :
  ∃W:Nat->Nat->St->Hp->Prop,(∃m,W 0 m σ H)/\∀i m σ H,W i m σ H ->
   ((Itr lo n).stop i H/\D.nx σ H)\/((Itr lo n).go i H/\∃N:St->Hp->Prop,(∀σ' H',N σ' H'->∃m',m'<m/\W (i+1) m' σ' H')/\∀x H',(Itr lo n).yld i H x H'->g x σ H' λ σ2 H2=>tb { D with nx:=N,ct:=N,bk:=D.nx } σ2 H2):=by
 refine⟨λ i m σ H=>m=n - i/\i<=n/\Pv i σ H,⟨n,by simp,lY _,h0⟩,?_⟩;rintro i m σ H ⟨rfl,hi,p⟩
 by_cases hlt:i<n
 ·refine .inr ⟨hlt,Pv (i+1),λ σ' H' p'=>⟨n - (i+1),by omega,rfl,hlt,p'⟩,λ x H' y=>?_⟩
  obtain⟨e,y⟩:=y;subst e y;exact hs i σ _ hlt p
 ·have e:i=n:=by omega
  subst e;exact .inl ⟨lQ _,hd σ H p⟩
abbrev R2:=V->V->Hp->VK->Prop
noncomputable def OpR (X:Cx) (f:Value->Value->Sem Value) (r:R2):Prop :=
 ∀(jP:List (Addr × Obj)) (s:Shared) (σ:St) (H:Hp) (x y:V) (v u:Value) (Q:VK),Inv X jP σ H s->RelV x v->RelV y u->r x y H Q ->
  wpAny (model X.prog X.w) X.A (f v u) (EP X jP σ Q) X.xe s
noncomputable def UnR (X:Cx) (f:Value->Sem Value) (r:V->Hp->VK->Prop):Prop :=
 ∀(jP:List (Addr × Obj)) (s:Shared) (σ:St) (H:Hp) (x:V) (v:Value) (Q:VK),Inv X jP σ H s->RelV x v->r x H Q ->
  wpAny (model X.prog X.w) X.A (f v) (EP X jP σ Q) X.xe s
noncomputable def CallR (X:Cx) (f:Value) (r:List V->Hp->VK->Prop):Prop :=
 ∀(jP:List (Addr × Obj)) (s:Shared) (σ:St) (H:Hp) (xs:List V) (us:List Value) (Q:VK),Inv X jP σ H s->Vals xs us->r xs H Q ->
  wpAny (model X.prog X.w) X.A (call f us) (EP X jP σ Q) X.xe s
noncomputable def TruR (X:Cx) (r:V->Hp->(Bool->Hp->Prop)->Prop):Prop :=
 ∀(jP:List (Addr × Obj)) (s:Shared) (σ:St) (H:Hp) (x:V) (v:Value) (Q:Bool->Hp->Prop),Inv X jP σ H s->RelV x v->r x H Q ->
  wpAny (model X.prog X.w) X.A (truthy v) (TP X jP σ Q) X.xe s
noncomputable def tOp (r:R2) (ta tb:TE):TE:=λ σ H Q=>ta σ H λ x H1=>tb σ H1 λ y H2=>r x y H2 Q
noncomputable def tUn (r:V->Hp->VK->Prop) (ta:TE):TE:=λ σ H Q=>ta σ H λ x H1=>r x H1 Q
noncomputable def rI (C:Int->Int->Prop) (g:Int->Int->V):R2:=λ x y H Q=>∃i j,x = .int i/\y = .int j/\C i j/\Q (g i j) H
noncomputable def rI0 (g:Int->Int->V):R2:=λ x y H Q=>∃i j,x = .int i/\y = .int j/\Q (g i j) H
noncomputable def rU (g:Int->V):V->Hp->VK->Prop:=λ x H Q=>∃i,x = .int i/\Q (g i) H
section
variable {X:Cx}{a b c:Expr}{ta tb tc:TE}{pos:Pos}
theorem binT (ha:PE X a ta) (hb:PE X b tb) {jP:List (Addr × Obj)}{s:Shared}{σ:St}{H:Hp}{R:V->V->Hp->Prop}(I:Inv X jP σ H s)
  (h:ta σ H λ x H1=>tb σ H1 λ y H2=>R x y H2) {Q:Value->Shared->Prop}{f:Value->Value->Sem Value}
  (hf:∀v u s2 x y H2,Inv X jP σ H2 s2->RelV x v->RelV y u->R x y H2->wpAny (model X.prog X.w) X.A (f v u) Q X.xe s2) :
  wpAny (model X.prog X.w) X.A (eval a X.env) (λ v s₁=>wpAny (model X.prog X.w) X.A (eval b X.env) (λ u s₂=>wpAny (model X.prog X.w) X.A (f v u) Q X.xe s₂) X.xe s₁) X.xe s:=by
 refine thn (ha jP s σ H _ I h) λ v s1 ⟨x,H1,I1,r1,q1⟩=>?_;refine thn (hb jP s1 σ H1 _ I1 q1) λ u s2 ⟨y,H2,I2,r2,q2⟩=>?_;exact hf v u s2 x y H2 I2 r1 r2 q2
theorem pe_op {op:Operator}{r:R2}(ho:OpR X (binaryOp op) r) (ha:PE X a ta) (hb:PE X b tb):PE X (.BinOp a op b pos) (tOp r ta tb):=by
 intro jP s σ H Q I h;exact wpAny_BinOp (binT ha hb I h λ v u s2 x y H2 I2 rx ry q=>ho jP s2 σ H2 x y v u Q I2 rx ry q)
theorem pe_un {op:UnaryOp}{r:V->Hp->VK->Prop}(ho:UnR X (unaryOp op) r) (ha:PE X a ta):PE X (.UnaryOp op a pos) (tUn r ta):=by
 intro jP s σ H Q I h;exact UnaryOp_ (thn (ha jP s σ H _ I h) λ v s1 ⟨x,H1,I1,r1,q1⟩=>ho jP s1 σ H1 x v Q I1 r1 q1)
theorem opI {f:Value->Value->Sem Value}{C:Int->Int->Prop}{g:Int->Int->Int}
  (rule:∀(i j:Int) (t u:Tok) (s:Shared) (Q:Value->Shared->Prop) (E:Value->Shared->Prop),C i j->Q (.int (g i j) s.toks) { s with toks:=s.toks+1 }->wpAny (model X.prog X.w) X.A (f (.int i t) (.int j u)) Q E s) :
  OpR X f (rI C λ i j=>.int (g i j)):=by
 intro jP s σ H x y v u Q I rx ry h;obtain⟨i,j,rfl,rfl,hc,q⟩:=h;obtain⟨t,rfl⟩:=rx;obtain⟨t',rfl⟩:=ry;exact rule i j t t' s _ _ hc ⟨.int (g i j),H,I.tok _,⟨_,rfl⟩,q⟩
theorem opI0 {f:Value->Value->Sem Value}{g:Int->Int->Int}
  (rule:∀(i j:Int) (t u:Tok) (s:Shared) (Q:Value->Shared->Prop) (E:Value->Shared->Prop),Q (.int (g i j) s.toks) { s with toks:=s.toks+1 }->wpAny (model X.prog X.w) X.A (f (.int i t) (.int j u)) Q E s) :
  OpR X f (rI0 λ i j=>.int (g i j)):=by
 intro jP s σ H x y v u Q I rx ry h;obtain⟨i,j,rfl,rfl,q⟩:=h;obtain⟨t,rfl⟩:=rx;obtain⟨t',rfl⟩:=ry;exact rule i j t t' s _ _ ⟨.int (g i j),H,I.tok _,⟨_,rfl⟩,q⟩
theorem opB0 {f:Value->Value->Sem Value}{g:Int->Int->Bool}
  (rule:∀(i j:Int) (t u:Tok) (s:Shared) (Q:Value->Shared->Prop) (E:Value->Shared->Prop),Q (.bool (g i j)) s->wpAny (model X.prog X.w) X.A (f (.int i t) (.int j u)) Q E s) :
  OpR X f (rI0 λ i j=>.bl (g i j)):=by
 intro jP s σ H x y v u Q I rx ry h;obtain⟨i,j,rfl,rfl,q⟩:=h;obtain⟨t,rfl⟩:=rx;obtain⟨t',rfl⟩:=ry;exact rule i j t t' s _ _ ⟨.bl (g i j),H,I,rfl,q⟩
noncomputable def CDiv (i j:Int):Prop:=0<j/\j<1073741824
noncomputable def CPow (i j:Int):Prop:=0<=j/\j<=1000000/\i.natAbs<2 ^ 64
theorem zEL:OpR X (binaryOp .Add) (rI0 λ i j=>.int (i+j)):=opI0 λ Ω Ω Ω Ω Ω Ω Ω q=>add_int q
theorem zK9:OpR X (binaryOp .Sub) (rI0 λ i j=>.int (i - j)):=opI0 λ Ω Ω Ω Ω Ω Ω Ω q=>sub_int q
theorem zAx:OpR X (binaryOp .FloorDiv) (rI CDiv λ i j=>.int (i / j)):=opI λ i j Ω Ω Ω Ω Ω hc q=>by
 have h1:(0:Int)<j:=hc.1;have h2:j<1073741824:=hc.2;exact floordiv_int (by omega) (by rw[Int.fdiv_eq_ediv_of_nonneg i (by omega)];exact q) (.inl (PyProof.noPylong_small (by omega)))
theorem zAq:OpR X (binaryOp .Mod) (rI (λ Ω j=>0<j) λ i j=>.int (i % j)):=opI λ i j Ω Ω Ω Ω Ω hc q=>by
 have h1:(0:Int)<j:=hc;exact mod_int' (by omega) (by rw[Int.fmod_eq_emod_of_nonneg i (by omega)];exact q)
theorem zEx:OpR X (binaryOp .Pow) (rI CPow λ i j=>.int (i ^ j.toNat)):=opI λ Ω Ω Ω Ω Ω Ω Ω hc q=>pow_int_small hc.1 hc.2.1 hc.2.2 q
theorem unI {f:Value->Sem Value}{g:Int->Int}
  (rule:∀(i:Int) (t:Tok) (s:Shared) (Q:Value->Shared->Prop) (E:Value->Shared->Prop),Q (.int (g i) s.toks) { s with toks:=s.toks+1 }->wpAny (model X.prog X.w) X.A (f (.int i t)) Q E s) :
  UnR X f (rU λ i=>.int (g i)):=by
 intro jP s σ H x v Q I rx h;obtain⟨i,rfl,q⟩:=h;obtain⟨t,rfl⟩:=rx;exact rule i t s _ _ ⟨.int (g i),H,I.tok _,⟨_,rfl⟩,q⟩
theorem zKv:UnR X (unaryOp .USub) (rU λ i=>.int (-i)):=unI λ Ω Ω Ω Ω Ω q=>neg_int q
end
noncomputable def scal:V->V->Bool
 |.non,.non=>true|.non,.int _=>true|.int _,.non=>true|.non,.bl _=>true|.bl _,.non=>true|.non,.str _=>true|.str _,.non=>true
 |.int _,.int _=>true|.bl _,.bl _=>true|.str _,.str _=>true|.byt _,.byt _=>true
 |.int _,.str _=>true|.str _,.int _=>true|.bl _,.str _=>true|.str _,.bl _=>true
 |_,_=>false
noncomputable def rEq:R2:=λ x y H Q=>scal x y=true/\Q (.bl (decide (x=y))) H
noncomputable def rNe:R2:=λ x y H Q=>scal x y=true/\Q (.bl (!decide (x=y))) H
theorem zJj {i j:Int}:decide (V.int i=V.int j)=(i == j):=by
 rw[Bool.eq_iff_iff];simp
theorem zLI {i j:Bool}:decide (V.bl i=V.bl j)=(i == j):=by
 rw[Bool.eq_iff_iff];simp
theorem zJi {i j:Str}:decide (V.str i=V.str j)=(i == j):=by
 rw[Bool.eq_iff_iff];simp
theorem zJk {i j:Array UInt8}:decide (V.byt i=V.byt j)=(i.toList == j.toList):=by
 rw[Bool.eq_iff_iff];cases i;cases j;simp
section
variable {X:Cx}{a b c:Expr}{ta tb tc:TE}{pos:Pos}
theorem zAp {jP:List (Addr × Obj)}{σ:St}{H:Hp}{s:Shared}{Q:VK}{k k':Bool}(I:Inv X jP σ H s) (q:Q (.bl k) H) (e:k=k'):EP X jP σ Q (.bool k') s:=by
 subst e;exact⟨.bl k,H,I,rfl,q⟩
theorem op_eq:OpR X (compareOp .Eq) rEq:=by
 intro jP s σ H x y v u Q I rx ry h;obtain⟨hs,q⟩:=h;cases x with
 |non =>
  cases rx;cases y with
  |non=>cases ry;exact PySem.EqNone.eq_none_none (zAp I q (by simp))
  |bl j=>cases ry;exact PySem.EqNone.eq_none_bool (zAp I q (by simp))
  |int j=>obtain⟨t',rfl⟩:=ry;exact PySem.EqNone.eq_none_int (zAp I q (by simp))
  |str j=>obtain⟨t',rfl⟩:=ry;exact PySem.EqNone.eq_none_str (zAp I q (by simp))
  |_=>exact absurd (show false=true from hs) lX
 |bl i =>
  cases rx;cases y with
  |non=>cases ry;exact PySem.EqNone.eq_bool_none (zAp I q (by simp))
  |bl j=>cases ry;exact eq_bool (zAp I q zLI)
  |str j=>obtain⟨t',rfl⟩:=ry;exact PySem.EqMixed.eq_bool_str (zAp I q (by simp))
  |_=>exact absurd (show false=true from hs) lX
 |int i =>
  obtain⟨t,rfl⟩:=rx;cases y with
  |non=>cases ry;exact PySem.EqNone.eq_int_none (zAp I q (by simp))
  |int j=>obtain⟨t',rfl⟩:=ry;exact eq_int (zAp I q zJj)
  |str j=>obtain⟨t',rfl⟩:=ry;exact PySem.EqMixed.eq_int_str (zAp I q (by simp))
  |_=>exact absurd (show false=true from hs) lX
 |str i =>
  obtain⟨t,rfl⟩:=rx;cases y with
  |non=>cases ry;exact PySem.EqNone.eq_str_none (zAp I q (by simp))
  |bl j=>cases ry;exact PySem.EqMixed.eq_str_bool (zAp I q (by simp))
  |int j=>obtain⟨t',rfl⟩:=ry;exact PySem.EqMixed.eq_str_int (zAp I q (by simp))
  |str j=>obtain⟨t',rfl⟩:=ry;exact eq_str (zAp I q zJi)
  |_=>exact absurd (show false=true from hs) lX
 |byt i =>
  obtain⟨t,rfl⟩:=rx;cases y with
  |byt j=>obtain⟨t',rfl⟩:=ry;exact W.eq_bytes (zAp I q zJk)
  |_=>exact absurd (show false=true from hs) lX
 |_=>cases y<;>exact absurd (show false=true from hs) lX
theorem op_ne:OpR X (compareOp .NotEq) rNe:=by
 intro jP s σ H x y v u Q I rx ry h;obtain⟨hs,q⟩:=h;cases x with
 |non =>
  cases rx;cases y with
  |non=>cases ry;exact PySem.EqNone.ne_none_none (zAp I q (by simp))
  |bl j=>cases ry;exact PySem.EqNone.ne_none_bool (zAp I q (by simp))
  |int j=>obtain⟨t',rfl⟩:=ry;exact PySem.EqNone.ne_none_int (zAp I q (by simp))
  |str j=>obtain⟨t',rfl⟩:=ry;exact PySem.EqNone.ne_none_str (zAp I q (by simp))
  |_=>exact absurd (show false=true from hs) lX
 |bl i =>
  cases rx;cases y with
  |non=>cases ry;exact PySem.EqNone.ne_bool_none (zAp I q (by simp))
  |bl j=>cases ry;exact ne_bool (zAp I q (congrArg not zLI))
  |str j=>obtain⟨t',rfl⟩:=ry;exact PySem.EqMixed.ne_bool_str (zAp I q (by simp))
  |_=>exact absurd (show false=true from hs) lX
 |int i =>
  obtain⟨t,rfl⟩:=rx;cases y with
  |non=>cases ry;exact PySem.EqNone.ne_int_none (zAp I q (by simp))
  |int j=>obtain⟨t',rfl⟩:=ry;exact ne_int (zAp I q (congrArg not zJj))
  |str j=>obtain⟨t',rfl⟩:=ry;exact PySem.EqMixed.ne_int_str (zAp I q (by simp))
  |_=>exact absurd (show false=true from hs) lX
 |str i =>
  obtain⟨t,rfl⟩:=rx;cases y with
  |non=>cases ry;exact PySem.EqNone.ne_str_none (zAp I q (by simp))
  |bl j=>cases ry;exact PySem.EqMixed.ne_str_bool (zAp I q (by simp))
  |int j=>obtain⟨t',rfl⟩:=ry;exact PySem.EqMixed.ne_str_int (zAp I q (by simp))
  |str j=>obtain⟨t',rfl⟩:=ry;exact ne_str (zAp I q (congrArg not zJi))
  |_=>exact absurd (show false=true from hs) lX
 |byt i =>
  obtain⟨t,rfl⟩:=rx;cases y with
  |byt j=>obtain⟨t',rfl⟩:=ry;exact W.ne_bytes (zAp I q (congrArg not zJk))
  |_=>exact absurd (show false=true from hs) lX
 |_=>cases y<;>exact absurd (show false=true from hs) lX
theorem op_lt:OpR X (compareOp .Lt) (rI0 λ i j=>.bl (decide (i<j))):=opB0 λ Ω Ω Ω Ω Ω Ω Ω q=>lt_int q
theorem op_le:OpR X (compareOp .LtE) (rI0 λ i j=>.bl (decide (i<=j))):=opB0 λ Ω Ω Ω Ω Ω Ω Ω q=>le_int q
theorem zMP:OpR X (compareOp .Is) (λ x y H Q=>y = .non/\Q (.bl (decide (x = .non))) H):=by
  intro jP s σ H x y v u Q I rx ry h;obtain⟨rfl,q⟩:=h;cases ry;refine is_none_gen (zAp I q ?_)
  cases x<;>first
    | (cases rx;rfl)
    | (obtain⟨t,rfl⟩:=rx;rfl)
theorem zAb (b:Expr) {op:CmpOp}(h:op ≠ .In:=by decide) (h2:op ≠ .NotIn:=by decide):behindInMarks op b=false:=by
 have e1:(op == CmpOp.In)=false:=by cases op<;>first|rfl|exact absurd rfl h
 have e2:(op == CmpOp.NotIn)=false:=by cases op<;>first|rfl|exact absurd rfl h2
 cases b<;>simp[behindInMarks,e1,e2]
theorem zCN {op:CmpOp}{r:R2}(ho:OpR X (compareOp op) r) (ha:PE X a ta) (hb:PE X b tb) (hm:behindInMarks op b=false):PE X (.Compare a [op] [b] pos) (tOp r ta tb):=by
 intro jP s σ H Q I h;exact wpAny_Compare1 (binT ha hb I h λ v u s2 x y H2 I2 rx ry q=>ho jP s2 σ H2 x y v u Q I2 rx ry q) hm
noncomputable def tTest (t:TE):TT:=λ σ H Q=>t σ H λ x H'=>∃k,x = .bl k/\Q k H'
theorem zAP {op:CmpOp}{r:R2}(ho:OpR X (compareOp op) r) (ha:PE X a ta) (hb:PE X b tb) (hm:behindInMarks op b=false):PT X (.Compare a [op] [b] pos) (tTest (tOp r ta tb)):=by
 intro jP s σ H Q I h
 refine wpAny_isTrue_Compare1 (thn (ha jP s σ H _ I h) λ v s1 ⟨x,H1,I1,r1,q1⟩=>thn (hb jP s1 σ H1 _ I1 q1) λ u s2 ⟨y,H2,I2,r2,q2⟩ =>
  thn (ho jP s2 σ H2 x y v u _ I2 r1 r2 q2) λ c s3 ⟨z,H3,I3,r3,k,e,q3⟩=>?_) hm
 subst e;cases r3;exact wpAny_truthy_bool ⟨H3,I3,q3⟩
noncomputable def zMB (r r':R2) (ta tb tc:TE):TE:=λ σ H Q=>ta σ H λ x H1=>tb σ H1 λ y H2=>r x y H2 λ z H3=>∃k,z = .bl k /\
 (if k=true then tc σ H3 λ w' H4=>r' y w' H4 Q else Q (.bl false) H3)
theorem zKB {op op':CmpOp}{r r':R2}(ho:OpR X (compareOp op) r) (ho':OpR X (compareOp op') r') (ha:PE X a ta) (hb:PE X b tb) (hc:PE X c tc)
  (hm:lastMarks [op,op'] [b,c]=false:=by with_unfolding_all rfl):PT X (.Compare a [op,op'] [b,c] pos) (tTest (zMB r r' ta tb tc)):=by
 intro jP s σ H Q I h
 refine isTrue_chain (thn (ha jP s σ H _ I h) λ v s1 ⟨x,H1,I1,r1,q1⟩=>test_link (thn (hb jP s1 σ H1 _ I1 q1) λ u s2 ⟨y,H2,I2,r2,q2⟩ =>
  thn (ho jP s2 σ H2 x y v u _ I2 r1 r2 q2) λ d s3 ⟨z,H3,I3,r3,k,e,q3⟩=>?_)) hm
 subst e;cases r3;refine wpAny_truthy_bool ?_;cases k with
 |false =>
  obtain⟨k',e',q'⟩:=q3;cases e';exact ite_ff ⟨H3,I3,q'⟩
 |true =>
  refine ite_tt (test_last (thn (hc jP s3 σ H3 _ I3 q3) λ w' s4 ⟨z',H4,I4,r4,q4⟩=>thn (ho' jP s4 σ H4 y z' u w' _ I4 r2 r4 q4) λ d' s5 ⟨z2,H5,I5,r5,k2,e2,q5⟩=>?_));subst e2;cases r5;exact wpAny_truthy_bool ⟨H5,I5,q5⟩
noncomputable def TruV (K:W.Frag) (x:V) (H:Hp) (k:Bool):Prop :=
 match x with
 |.non=>k=false
 |.bl b=>k=b
 |.int i=>k=(i != 0)
 |.str y=>y.length<=sizeLine/\k=((y.length:Int) != 0)
 |.byt y=>y.size<=sizeLine/\k=((y.size:Int) != 0)
 |.ref p=>(∃xs,SqL K H p xs/\k=!xs.isEmpty)\/(∃xs,SqT K H p xs/\k=!xs.isEmpty)\/∃kvs,H p=some (.dK kvs)/\k=!kvs.isEmpty
 |_=>False
theorem zIR {κ:Type}{kvs:List (κ × V)}{vs:List (κ × Value)}(r:KV kvs vs):(!vs.isEmpty)=!kvs.isEmpty:=by
 cases r<;>rfl
theorem zE1 {xs:List V}{its:List Value}(r:Vals xs its):(!its.toArray.isEmpty)=!xs.isEmpty:=by
 cases r<;>simp
theorem zDs:(sizeLine:Nat)<2 ^ 63:=by rw[sizeLine_eq];decide
theorem zKx:TruR X (λ x H Q=>∃k,TruV X.K x H k/\Q k H):=by
 intro jP s σ H x v Q I rx h;obtain⟨k,e,q⟩:=h;have hl:=zDs;have hs:sizeLine=16777216:=sizeLine_eq;cases x with
 |non =>
  cases rx;have e':k=false:=e;subst e';exact truthy_none ⟨H,I,q⟩
 |bl b =>
  cases rx;have e':k=b:=e;subst e';exact wpAny_truthy_bool ⟨H,I,q⟩
 |int i =>
  obtain⟨t,rfl⟩:=rx;have e':k=(i != 0):=e;subst e';exact PySem.P.truthy_int ⟨H,I,q⟩
 |str y =>
  obtain⟨t,rfl⟩:=rx;obtain⟨hy,e'⟩:y.length<=sizeLine/\k=((y.length:Int) != 0):=e;subst e';exact PySem.P.truthy_str (by omega) ⟨H,I.tok _,q⟩
 |byt y =>
  obtain⟨t,rfl⟩:=rx;obtain⟨hy,e'⟩:y.size<=sizeLine/\k=((y.size:Int) != 0):=e;subst e';exact W.truthy_bytes (by omega) ⟨H,I.tok _,q⟩
 |ref p =>
  cases rx;have e':(∃xs,SqL X.K H p xs/\k=!xs.isEmpty)\/(∃xs,SqT X.K H p xs/\k=!xs.isEmpty)\/∃kvs,H p=some (.dK kvs)/\k=!kvs.isEmpty:=e;rcases e' with ⟨xs,hx,e'⟩|⟨xs,hx,e'⟩|⟨kvs,hx,e'⟩
  ·subst e'
   obtain⟨its,r,pl,hz⟩:=I.list hx;have hlen:=r.length;exact wpAny_truthy_list pl.isList (by simp only[List.size_toArray];omega) ⟨H,I.tok _,by rw[zE1 r];exact q⟩
  ·subst e'
   obtain⟨its,r,pl,hz⟩:=I.tuple hx;have hlen:=r.length;exact truthy_tuple pl (by simp only[List.size_toArray];omega) ⟨H,I.tok _,by rw[zE1 r];exact q⟩
  ·subst e'
   obtain⟨hz,hS,vs,r,m⟩:kvs.length<=sizeLine/\(p == sysModules)=false/\∃vs,KV kvs vs/\s.heap.DictOf (zAf X.prog X.w) p vs:=I.hok p _ hx;have hlen:kvs.length=vs.length:=Paired.length r;exact wpAny_truthy_dict hS m (by omega) ⟨H,I.tok _,by rw[zIR r];exact q⟩
 |_=>exact(show False from e).elim
theorem zBw (ha:PE X a ta) (he:∀whole,isTrue a X.env whole=(do let v ← whole;standAt a.pos;holding [v] (truthy v))) :
    PT X a (λ σ H Q=>ta σ H λ x H'=>∃k,TruV X.K x H' k/\Q k H'):=by
  intro jP s σ H Q I h;exact isTrue_plain (thn (ha jP s σ H _ I h) λ v s1 ⟨x,H1,I1,r1,q1⟩=>zKx jP s1 σ H1 x v Q I1 r1 q1) (he _)
theorem vals1 {x:V}{us:List Value}(r:Vals [x] us):∃u,us=[u]/\RelV x u:=by
 cases r with
 |cons r1 r2=>cases r2;exact⟨_,rfl,r1⟩
theorem vals2 {x y:V}{us:List Value}(r:Vals [x,y] us):∃u w',us=[u,w']/\RelV x u/\RelV y w':=by
 cases r with
 |cons r1 r2 =>
  cases r2 with
  |cons r3 r4=>cases r4;exact⟨_,_,rfl,r1,r3⟩
end
structure ObjM (h:Heap) (x dx C:Addr) (mA:Str->Option Value):Prop where
 obj:h.get? x=some (W.instObj C dx)
 ns:h.Ns1 dx mA
 ne:dx≠x
set_option tactic.hygienic true in
theorem zJL {h:Heap}{dx:Addr}{mA:Str->Option Value}(n:h.Ns1 dx mA):∃od,h.get? dx=some od/\∀name,W.lookIn name od=some (mA name):=by
 obtain⟨o,es,ep,ho,hd,hk,_,hm⟩:=n;refine⟨o,ho,λ name=>?_⟩;have e:=hm name;unfold nsFind findBy at e;rw[←Array.find?_toList] at e;unfold W.lookIn;rw[hd];dsimp only;split
 ·rename_i y q
  rw[q] at e;exact congrArg some e
 ·rename_i q
  rw[q] at e
  have a:es.toList.any (·.refKey)=false:=by
   rw[List.any_eq_false];intro y hy;obtain⟨z,t,hkey⟩:=hk y (Array.mem_toList_iff.mp hy);simp[DictEntry.refKey,hkey]
  have a':¬es.toList.any (·.refKey)=true:=by rw[a];exact lX
  rw[if_neg a'];exact congrArg some e
theorem ObjM.look {h:Heap}{x dx C:Addr}{mA:Str->Option Value}(I:ObjM h x dx C mA):∃od,W.InstAt h x (W.instObj C dx) C (some od)/\∀name,W.lookIn name od=some (mA name) :=
 let ⟨od,ho,hl⟩:=zJL I.ns
 ⟨od,⟨I.obj,rfl,rfl,ho⟩,hl⟩
section
variable {prog:Program}{w:World}{A:Around}{E:Value->Shared->Prop}{s:Shared}{K:W.Frag}{x dx C f:Addr}{mA:Str->Option Value}{name:Str}{v:Value}
end
theorem RelO.some_of {v:V}{o:Option Value}(r:RelO (some v) o):∃u,o=some u/\RelV v u:=by
 cases o with
 |none=>exact(show False from r).elim
 |some u=>exact⟨u,rfl,r⟩
section
variable {P:Program}{w:World}{H H':Hp}{h h':Heap}{a C dx:Addr}{fs fs':List (Str × V)}
theorem zLu (hok:HOk P w H h) (e:H a=some (.ins C dx fs)):∃mA,ObjM h a dx C mA/\(∀f,RelO (fs.lookup f) (mA f))/\PySem.Within mA (fs.map (·.1))/\fs.length<=1000/\H dx=some (.own a):=by
 obtain⟨d,z,ne,ob,mA,n,r,q⟩:=(show ObjOk P w H h a (.ins C dx fs) from hok a _ e);exact⟨mA,⟨ob,n,ne⟩,r,q,z,d⟩
end
structure Cls (K:W.Frag) (C:Addr):Prop where
 pg:W.plainGet K C Str.empty=true
 hd:W.hasDictIn K C=true
 po:W.plainOver K C=true
 sa:W.findIn K (.ref C) "__setattr__" = some (some (.builtin "object.__setattr__"))
theorem Cls.get {K:W.Frag}{C:Addr}(c:Cls K C) (f:Str):W.plainGet K C f=true:=c.pg
section
variable {X:Cx}{jP:List (Addr × Obj)}{σ:St}{H:Hp}{s:Shared}{a C dx:Addr}{fs:List (Str × V)}{f:Str}{v:V}{A:Around}{E:Value->Shared->Prop}
end
section
variable {X:Cx}{o e value:Expr}{f:Str}{pos pos' tpos:Pos}{ta tv:TE}
end
section
variable {X:Cx}{jP:List (Addr × Obj)}{σ:St}{H:Hp}{s:Shared}{A:Around}{E:Value->Shared->Prop}{Q:Value->Shared->Prop}{c:Value}{b:Bool}
inductive TyOf (K:W.Frag) (H:Hp):V->Value->Prop where
 |non:TyOf K H .non (.type "NoneType")
 |bl (x:Bool):TyOf K H (.bl x) (.type "bool")
 |int (i:Int):TyOf K H (.int i) (.type "int")
 |str (x:Str):TyOf K H (.str x) (.type "str")
 |flt (x:UInt64):TyOf K H (.flt x) (.type "float")
 |lst {a:Addr}{xs:List V}(e:H a=some (.lst xs)):TyOf K H (.ref a) (.type "list")
 |frz {a:Addr}{o:Obj}{xs:List V}(e:H a=some (.frz o (.lst xs))):TyOf K H (.ref a) (.type "list")
 |tup {a:Addr}{xs:List V}(e:H a=some (.tup xs)):TyOf K H (.ref a) (.type "tuple")
 |dK {a:Addr}{kvs:List (Key × V)}(e:H a=some (.dK kvs)):TyOf K H (.ref a) (.type "dict")
 |dT {a:Addr}{kvs:List (List Key × V)}(e:H a=some (.dT kvs)):TyOf K H (.ref a) (.type "dict")
 |ins {a C dx:Addr}{fs:List (Str × V)}(e:H a=some (.ins C dx fs)) (cl:Cls K C) (ha:W.findIn K (.ref C) "__class__" = some (some (.builtin "object.__class__")))
   (hn:W.specialIn K (.builtin "object.__class__") "__get__" = some (some (.builtin "getset_descriptor.__get__"))) (htk:W.takesIn K (.builtin "object.__class__")=some true)
   (hm:W.mroIn K C (.type "object")=some true):TyOf K H (.ref a) (.ref C)
theorem zJV {x:V}{u t:Value}(I:Inv X jP σ H s) (rx:RelV x u) (ty:TyOf X.K H x t) (e:W.kitOne X.K t c=some b) (h:∀tk,Q (.bool b) { s with toks:=tk }) :
  wpAny (model X.prog X.w) A (call (.builtin "isinstance") [u,c]) Q E s:=by
 cases ty with
 |non=>cases (show u=Value.none from rx);exact W.kia_one W.kitx_none I.kIn True.intro e (λ z=>nomatch z) h
 |bl y=>cases (show u=Value.bool y from rx);exact W.kia_one W.kitx_bool I.kIn True.intro e (λ z=>nomatch z) h
 |int i=>obtain⟨t,q⟩:=(show ∃t,u=Value.int i t from rx);cases q;exact W.kia_one W.kitx_int I.kIn True.intro e (λ z=>nomatch z) h
 |str y=>obtain⟨t,q⟩:=(show ∃t,u=Value.str y t from rx);cases q;exact W.kia_one W.kitx_str I.kIn True.intro e (λ z=>nomatch z) h
 |flt y=>obtain⟨t,q⟩:=(show ∃t,u=Value.float y t from rx);cases q;exact W.kia_one W.kitx_float I.kIn True.intro e (λ z=>nomatch z) h
 | @lst a xs ea =>
  cases (show u=Value.ref a from rx);obtain⟨_,_,n,_,h1⟩:=(show ObjOk X.prog X.w H s.heap a (.lst xs) from I.hok a _ ea);exact W.kia_one W.kitx_list I.kIn ⟨_,h1,rfl⟩ e (λ z=>nomatch z) h
 | @frz a ob xs ea =>
  cases (show u=Value.ref a from rx);obtain⟨_,_,_,n,_,h1⟩:=(show ObjOk X.prog X.w H s.heap a (.frz ob (.lst xs)) from I.hok a _ ea);exact W.kia_one W.kitx_list I.kIn ⟨_,h1,rfl⟩ e (λ z=>nomatch z) h
 | @tup a xs ea =>
  cases (show u=Value.ref a from rx);obtain⟨_,_,_,p⟩:=(show ObjOk X.prog X.w H s.heap a (.tup xs) from I.hok a _ ea);obtain⟨o,h1,h2,_⟩:=p;exact W.kia_one W.kitx_tuple I.kIn ⟨o,h1,h2⟩ e (λ z=>nomatch z) h
 | @dK a kvs ea =>
  cases (show u=Value.ref a from rx);obtain⟨_,_,vs,_,p⟩:=(show ObjOk X.prog X.w H s.heap a (.dK kvs) from I.hok a _ ea);obtain⟨o,es,ep,h1,h2,_⟩:=p;exact W.kia_one W.kitx_dict I.kIn ⟨o,h1,h2.1⟩ e (λ z=>nomatch z) h
 | @dT a kvs ea =>
  cases (show u=Value.ref a from rx);obtain⟨_,_,xs,_,o,es,ep,h1,h2,_⟩:=(show ObjOk X.prog X.w H s.heap a (.dT kvs) from I.hok a _ ea);exact W.kia_one W.kitx_dict I.kIn ⟨o,h1,h2.1⟩ e (λ z=>nomatch z) h
 | @ins a C dx fs ea cl ha hn htk hm =>
  cases (show u=Value.ref a from rx);obtain⟨mA,O,_⟩:=zLu I.hok ea;obtain⟨od,J,_⟩:=O.look;exact W.kia_one (W.kitx_own (cl.get _) cl.hd ha hn htk hm) I.kIn J e (λ z=>nomatch z) h
end
structure Room (k:Nat) (A:Around):Prop where
 hd:A.handled=none
 dp:A.depth+3 * k+5<recursionLimit
 un:A.units+16 * k+200<cLine
theorem Room.mono {j k:Nat}{A:Around}(r:Room k A) (h:j<=k):Room j A:=⟨r.hd,by have:=r.dp;omega,by have:=r.un;omega⟩
theorem Room.deeper {k:Nat}{A:Around}(r:Room (k+1) A) (env:Env):Room k (A.deeper env) :=
 ⟨r.hd,by have:=r.dp;show A.depth+1+3 * k+5<_;omega,by have:=r.un;show A.units+3+16 * k+200<_;omega⟩
theorem Room.depth {k:Nat}{A:Around}(r:Room k A):A.depth<recursionLimit:=by have:=r.dp;omega
theorem Room.units {k:Nat}{A:Around}(r:Room k A):A.units+64<cLine:=by have:=r.un;omega
noncomputable def tNil:TA:=λ Ω H Q=>Q [] H
noncomputable def tCons (ta:TE) (tr:TA):TA:=λ σ H Q=>ta σ H λ x H1=>tr σ H1 λ xs H2=>Q (x::xs) H2
section
variable {X:Cx}{e:Expr}{es:List Expr}{te:TE}{t:TA}{pos:Pos}
theorem zAC:PA X [] tNil:=λ Ω Ω Ω Ω H Q I h=>Calls.spliced_nil ⟨[],H,I,.nil,h⟩
theorem zAA (ha:PE X e te) (hr:PA X es t) (hs:starEach (e::es) X.env=(false,eval e X.env)::starEach es X.env:=by rfl):PA X (e::es) (tCons te t):=by
 intro pos jP s σ H Q I h;rw[hs];show wpAny _ _ (spliced ((false,eval e X.env)::backTo pos (starEach es X.env))) _ _ s;refine Calls.spliced_cons (thn (ha jP s σ H _ I h) λ u s1 ⟨x,H1,I1,r1,q1⟩=>?_);exact thn (hr pos jP s1 σ H1 _ I1 q1) λ us s2 ⟨xs,H2,I2,r2,q2⟩=>⟨x::xs,H2,I2,.cons r1 r2,q2⟩
noncomputable def tTup (t:TA):TE:=λ σ H Q=>t σ H λ xs H1=>xs.length<=sizeLine/\∀p,H1 p=none->Q (.ref p) (upd H1 p (.tup xs))
noncomputable def tLst (t:TA):TE:=λ σ H Q=>t σ H λ xs H1=>xs.length<=sizeLine/\∀p,H1 p=none->Q (.ref p) (upd H1 p (.lst xs))
theorem zA8 {x1} (h:PA X es t):PE X (.Tuple es x1 pos) (tTup t):=by
 intro jP s σ H Q I hq;refine wpAny_Tuple_spliced (thn (h pos jP s σ H _ I hq) λ us s1 ⟨xs,H1,I1,r,z,q⟩=>⟨by rw[←r.length];exact z,?_⟩);have hf:H1 s1.heap.objs.size=none:=I1.hok.fresh (lQ _);refine⟨.ref s1.heap.objs.size,upd H1 s1.heap.objs.size (.tup xs),I1.laid (t':=s1.toks) (λ b u e=>lE _ e) (lQ _) ?_,rfl,q _ hf⟩;exact⟨z,us,r,⟨_,lG _ rfl,rfl,_,rfl⟩⟩
theorem zA1 (h:PA X es t):PE X (.List es pos) (tLst t):=by
 intro jP s σ H Q I hq;refine wpAny_List_spliced (thn (h pos jP s σ H _ I hq) λ us s1 ⟨xs,H1,I1,r,z,q⟩=>⟨by rw[←r.length];exact z,?_⟩);have hf:H1 s1.heap.objs.size=none:=I1.hok.fresh (lQ _);refine⟨.ref s1.heap.objs.size,upd H1 s1.heap.objs.size (.lst xs),I1.laid (t':=s1.toks) (λ b u e=>lE _ e) (lQ _) ?_,rfl,q _ hf⟩;exact⟨z,us,0,r,lG _ rfl⟩
end
abbrev Sp:=List V->Hp->VK->XK->Prop
abbrev CXT:=List Env->Hp->Shared->XK->Value->Shared->Prop
structure Env0 (P:Program) (w:World) (K:W.Frag) (mg:Str->Option Value) (base:Heap) (A:Around) (outer:List Env) (s:Shared) (H:Hp):Prop where
 frames:A.frames=some outer
 mod:Mod K mg base
 bs:∀b o,base.get? b=some o->s.heap.get? b=some o/\H b=none
 bsz:base.objs.size<=s.heap.objs.size
 funs:s.heap.FunFrames base outer
 frf:∀b∈frs outer,H b=none
 hok:HOk P w H s.heap
 bare:AllBare s.gens
noncomputable def CE (outer:List Env) (P:Program) (w:World) (H:Hp) (s:Shared) (Q:VK) (u:Value) (s':Shared):Prop :=
 ∃v H',s'.os=s.os/\AllBare s'.gens/\Un (frs outer) [] H H' s.heap s'.heap/\HOk P w H' s'.heap/\RelV v u/\Q v H'
noncomputable def CR (CX:CXT) (outer:List Env) (P:Program) (w:World) (H:Hp) (s:Shared) (Q:VK) (E:XK) (r:Result) (s':Shared):Prop :=
 match r with
 |.ok (.ret u)=>CE outer P w H s Q u s'
 |.ok _=>False
 |.error e=>CX outer H s E e s'
structure FnOk (P:Program) (w:World) (K:W.Frag) (mg:Str->Option Value) (base:Heap) (CX:CXT) (k:Nat) (f:Addr) (fd:FuncData) (ps:List Str) (sp:Sp):Prop where
 len:∀vs H Q E,sp vs H Q E->vs.length=ps.length
 run:∀(A:Around) (outer:List Env) (s:Shared) (H:Hp) (args:Args) (us:List Value) (vs:List V) (Q:VK) (E:XK),Room k A->Env0 P w K mg base A outer s H->BindsTo s fd args (ps.zip us)->Vals vs us->sp vs H Q E ->
  codeAny (model P w) A (.call (.ref f) args) (CR CX outer P w H s Q E) s
theorem FnOk.mono {P:Program}{w:World}{K:W.Frag}{mg:Str->Option Value}{base:Heap}{CX:CXT}{j k:Nat}{f:Addr}{fd:FuncData}{ps:List Str}{sp:Sp}(F:FnOk P w K mg base CX j f fd ps sp) (h:j<=k) :
  FnOk P w K mg base CX k f fd ps sp:=⟨F.len,λ A outer s H args us vs Q E hr=>F.run A outer s H args us vs Q E (hr.mono h)⟩
section
variable {X:Cx}{jP:List (Addr × Obj)}{σ:St}{H:Hp}{s s':Shared}
theorem Inv.env0 (I:Inv X jP σ H s):Env0 X.prog X.w X.K X.mg X.base X.A X.stack s H :=
 ⟨I.ok.frames,I.ok.mod,I.bs,mG I.ok.bsz I.sz,I.stack,I.stkFree,I.hok,I.bare⟩
theorem Inv.after {Q:VK}{u:Value}(I:Inv X jP σ H s) (h:CE X.stack X.prog X.w H s Q u s'):EP X jP σ Q u s':=by
 obtain⟨v,H',os,bare,un,hok,r,q⟩:=h;obtain⟨hh,g,d,t,os'⟩:=s';obtain rfl:os'=s.os:=os;exact⟨v,H',I.call (h':=hh) (g':=g) (d':=d) (t':=t) (ch:=[]) un hok bare (λ b z=>absurd z (by simp)),r,q⟩
end
noncomputable def tCall (sp:Sp) (dvs:List V) (E:XK) (t:TA):TE:=λ σ H Q=>t σ H λ vs H1=>sp (vs++dvs) H1 Q E
noncomputable def Binds (K:W.Frag) (fd:FuncData) (ps:List Str) (ds:List Value):Prop :=
 ∀(s:Shared) (us:List Value),K.In s.heap->(us++ds).length=ps.length->BindsTo s fd ⟨us,[]⟩ (ps.zip (us++ds))
theorem Binds.all {K:W.Frag}{fd:FuncData}{ps:List Str}(h:∀us:List Value,us.length=ps.length->bindArgs fd ⟨us,[]⟩=pure (ps.zip us)):Binds K fd ps []:=λ s us Ω hl=>by
 rw[List.append_nil] at hl ⊢;exact .of_eq (h us hl)
noncomputable def zE7 (CX:CXT) (X:Cx) (E:XK):Prop:=∀(jP:List (Addr × Obj)) (σ:St) (H:Hp) (s:Shared) (e:Value) (s':Shared),Inv X jP σ H s->CX X.stack H s E e s'->X.xe e s'
section
variable {X:Cx}{CX:CXT}{k:Nat}{f C:Addr}{fd:FuncData}{ps:List Str}{sp:Sp}{dvs:List V}{ds:List Value}{E:XK}{x m:Str}{p pos apos:Pos}{e o:Expr}{es:List Expr}{ta:TE}{t:TA}
theorem zMF {jP:List (Addr × Obj)}{σ:St}{H:Hp}{s:Shared}{Q:VK}{us:List Value}{vs:List V}(F:FnOk X.prog X.w X.K X.mg X.base CX k f fd ps sp) (hr:Room k X.A) (hb:Binds X.K fd ps ds) (hd:Vals dvs ds) (hx:zE7 CX X E)
  (I:Inv X jP σ H s) (r:Vals vs us) (h:sp (vs++dvs) H Q E):wpAny (model X.prog X.w) X.A (call (.ref f) us) (EP X jP σ Q) X.xe s:=by
 have r2:Vals (vs++dvs) (us++ds):=r.append hd;have hl:(us++ds).length=ps.length:=by rw[←r2.length];exact F.len _ _ _ _ h
 refine wpAny_call (codeAny_mono (F.run X.A X.stack s H ⟨us,[]⟩ (us++ds) (vs++dvs) Q E hr I.env0 (hb s us I.kIn hl) r2 h) λ r s' hq=>?_);cases r with
 |error e=>exact hx jP σ H s e s' I hq
 |ok fl =>
  cases fl with
  |ret u=>exact I.after hq
  |next=>exact False.elim hq
  |brk=>exact False.elim hq
  |cont=>exact False.elim hq
theorem zCO (F:FnOk X.prog X.w X.K X.mg X.base CX k f fd ps sp) (hr:Room k X.A) (hg:Gl X x) (hm:X.mg x=some (.ref f)) (hk:W.keepIn X.K (.ref f)=true) (hb:Binds X.K fd ps ds) (hd:Vals dvs ds) (hx:zE7 CX X E)
  (ha:PA X (e::es) t) (hdb:(x == ("__debug__" : Str))=false:=by decide) (he:starEach (e::es) X.env=(false,eval e X.env)::starEach es X.env:=by rfl) (hpl:(backTo pos (starEach es X.env)).any (·.1)=false:=by rfl) :
  PE X (.Call (.Name x p) (e::es) [] pos) (tCall sp dvs E t):=by
 intro jP s σ H Q I h;refine wpAny_Call_Name_kw (zGz I hg hm ?_ hdb);refine W.callWith_K (h₀:=X.base) I.ok.mod.kin hk (thn (ha pos jP s σ H _ I h) λ us s1 ⟨vs,H1,I1,r,q⟩=>⟨I1.kIn,?_⟩) he hpl;exact zMF F hr hb hd hx I1 r q
end
section
variable {X:Cx}{CX:CXT}{k:Nat}{f C:Addr}{fd:FuncData}{ps ks:List Str}{sp:Sp}{E:XK}{x m:Str}{p pos apos kpos:Pos}{e o:Expr}{es:List Expr}{kws:List Keyword}{te ta:TE}{t tk:TA}{nm:Option Str}
variable {g:List Value->List Value->List Value}{gV:List V->List V->List V}
end
structure zAR (N P:List Str) (sc:Scope):Prop where
 kind:sc.kind = .function
 co:sc.isCoroutine=false
 gen:sc.isGenerator=false
 nd:N.Nodup
 pre:N.take P.length=P
 par:∀x∈P,sc.names.lookup x=some .local\/sc.names.lookup x=some .cell
 nofree:∀y∈sc.names,y.2 ≠ .free
theorem zGO {kindOf:Str->Option NameKind}{x:Str}:∀{binds:List (Str × Value)}{m:Str->Option Value},(∀v,(x,v)∉binds)->bindL kindOf binds m x=m x
 |[],_,_=>rfl
 | (n,v)::r,m,h=>by
  unfold bindL;rw[zGO λ w hw=>h w (List.mem_cons_of_mem _ hw)];split
  ·have:x≠n:=by rintro rfl;exact h v lO
   simp[this]
  ·rfl
theorem zGQ {kindOf:Str->Option NameKind}{x:Str}:∀{binds:List (Str × Value)}{m:Str->Option Value},(∀v,(x,v)∉binds)->bindC kindOf binds m x=m x
 |[],_,_=>rfl
 | (n,v)::r,m,h=>by
  unfold bindC;rw[zGQ λ w hw=>h w (List.mem_cons_of_mem _ hw)];split
  ·rfl
  ·have:x≠n:=by rintro rfl;exact h v lO
   simp[this]
theorem zGP {kindOf:Str->Option NameKind}{x:Str}{v:Value}:∀{P:List Str}{vs:List Value}{i:Nat}{m:Str->Option Value},P.Nodup->P[i]?=some x->vs[i]?=some v->kindOf x=some .local ->
  bindL kindOf (P.zip vs) m x=some v
 |[],_,_,_,_,h,_,_=>by simp at h
 |_::_,[],_,_,_,_,h,_=>by simp at h
 |p::P,w::vs,0,m,nd,h1,h2,hk=>by
  simp at h1 h2;subst h1;subst h2;show bindL kindOf ((p,w)::P.zip vs) m p=_;unfold bindL;rw[zGO λ v hv=>(List.nodup_cons.mp nd).1 (List.of_mem_zip hv).1,if_pos hk];simp
 |p::P,w::vs,i+1,m,nd,h1,h2,hk=>by
  show bindL kindOf ((p,w)::P.zip vs) m x=_;unfold bindL;exact zGP (i:=i) (List.nodup_cons.mp nd).2 (by simpa using h1) (by simpa using h2) hk
theorem zGR {kindOf:Str->Option NameKind}{x:Str}{v:Value}:∀{P:List Str}{vs:List Value}{i:Nat}{m:Str->Option Value},P.Nodup->P[i]?=some x->vs[i]?=some v->kindOf x≠some .local ->
  bindC kindOf (P.zip vs) m x=some v
 |[],_,_,_,_,h,_,_=>by simp at h
 |_::_,[],_,_,_,_,h,_=>by simp at h
 |p::P,w::vs,0,m,nd,h1,h2,hk=>by
  simp at h1 h2;subst h1;subst h2;show bindC kindOf ((p,w)::P.zip vs) m p=_;unfold bindC;rw[zGQ λ v hv=>(List.nodup_cons.mp nd).1 (List.of_mem_zip hv).1,if_neg hk];simp
 |p::P,w::vs,i+1,m,nd,h1,h2,hk=>by
  show bindC kindOf ((p,w)::P.zip vs) m x=_;unfold bindC;exact zGR (i:=i) (List.nodup_cons.mp nd).2 (by simpa using h1) (by simpa using h2) hk
noncomputable def start (N:List Str) (vs:List V):St:=vs.map some++List.replicate (N.length - vs.length) none
noncomputable def cxOf (CX:CXT) (P:Program) (w:World) (K:W.Frag) (mg:Str->Option Value) (base:Heap) (N:List Str) (qual:Str) (scope:Scope) (f:Addr) (cd:Value) (A:Around) (outer:List Env) (s:Shared) (H:Hp) (E:XK):Cx where
 prog:=P
 w:=w
 K:=K
 mg:=mg
 base:=base
 A:=A.deeper (envOfC qual scope s.heap.objs.size f cd)
 N:=N
 s₀:=s
 H₀:=H
 env:=envOfC qual scope s.heap.objs.size f cd
 outer:=outer
 stack:=envOfC qual scope s.heap.objs.size f cd::outer
 ex:=[]
 calm:=true
 fn:=λ Ω=>true
 pn:=[]
 xe:=λ e s'=>wpAny (model P w) (A.deeper (envOfC qual scope s.heap.objs.size f cd)) (leaving (envOfC qual scope s.heap.objs.size f cd) e) (λ Ω s''=>CX outer H s E e s'') (λ e' s''=>CX outer H s E e' s'') s'
theorem zHs {sc:Scope}{n:Nat}{x:Str}(h:sc.names.lookup x=some .cell):∃c,(cellsFrom n sc.names []).lookup x=some c:=by
 have q:=W.cellsFrom_some sc.names n [] (.inl h);exact Option.isSome_iff_exists.mp q
theorem zJW {CX:CXT}{P:Program}{w:World}{K:W.Frag}{mg:Str->Option Value}{base:Heap}{N ps:List Str}{qual:Str}{scope:Scope}{f:Addr}{cd:Value}{A:Around}{outer:List Env}{s s1:Shared}{H:Hp}{E:XK}{us:List Value}{vs:List V}
  (S:zAR N ps scope) (hd:A.handled=none) (e0:Env0 P w K mg base A outer s H) (hl:vs.length=ps.length) (r:Vals vs us)
  (x:InCallC s s.heap.objs.size (bindL (envOfC qual scope s.heap.objs.size f cd).kindOf (ps.zip us) λ Ω=>none) (cellsFrom (s.heap.objs.size+1) scope.names []) (bindC (envOfC qual scope s.heap.objs.size f cd).kindOf (ps.zip us) λ Ω=>none) s1) :
  Inv (cxOf CX P w K mg base N qual scope f cd A outer s H E) [] (start N vs) H s1:=by
 have hpl:ps.length<=N.length:=by have:=congrArg List.length S.pre;rw[List.length_take] at this;omega
 obtain⟨h1,tk,rfl,hk⟩:=x.done;have noA:∀b:Addr,b∉(cxOf CX P w K mg base N qual scope f cd A outer s H E).ex:=λ b z=>absurd (show b∈([]:List Addr) from z) (by simp)
 refine⟨⟨e0.mod,S.kind,rfl,rfl,lQ _,λ y z c h1 h2=>?_,λ y hy=>?_,λ y c Ω h=>?_,λ Ω=>hd,Around.frames_deeper e0.frames,.inr ⟨rfl,rfl⟩,λ b z=>absurd z (noA b),e0.bs,e0.bsz,λ b Ω Ω=>noA b,λ b z=>absurd z (noA b),e0.funs,e0.frf⟩,
  rfl,e0.bare,Un.kept hk,⟨_,x.toInCall.ns,λ i y v h1 h2 h3=>?_⟩,λ y c h=>⟨_,x.cell y c h⟩,e0.hok.fresh (lQ _),λ y c h=>?_,λ p hp=>absurd (show p∈([]:List (Addr × Obj)) from hp) (by simp),e0.hok.kept hk,?_⟩
 ·exact name_of_addr x.apart (PySem.mem_of_lookup h1) (PySem.mem_of_lookup h2)
 ·have hy:scope.names.lookup y=some .cell\/scope.names.lookup y=some .free:=hy
  rcases hy with hy|hy
  ·exact zHs hy
  ·exact absurd rfl (S.nofree _ (PySem.mem_of_lookup hy))
 ·exact Nat.le_of_lt (x.above y c (PySem.mem_of_lookup h))
 ·have hi:i<vs.length:=by
   unfold start at h2
   by_cases hi:i<vs.length
   ·exact hi
   ·rw[List.getElem?_append_right (by simpa using hi)] at h2
    rw[List.getElem?_replicate] at h2;split at h2<;>cases h2
  have ha:vs[i]?=some v:=by
   unfold start at h2;rw[List.getElem?_append_left (by simpa using hi),List.getElem?_map] at h2;cases e:vs[i]? with
   |none=>rw[e] at h2;cases h2
   |some a=>rw[e] at h2;cases h2;rfl
  obtain⟨u,hu,rv⟩:=r.get ha
  have hp:ps[i]?=some y:=by
   rw[←S.pre,List.getElem?_take_of_lt (by omega)];exact h1
  have ndP:ps.Nodup:=by rw[←S.pre];exact S.nd.sublist (List.take_sublist _ _)
  refine⟨u,rv,?_⟩;rcases S.par y (lM hp) with k|k
  ·exact .inl ⟨k,zGP ndP hp hu k⟩
  ·obtain⟨c,e⟩:=zHs (n:=s.heap.objs.size+1) k
   refine .inr ⟨.inl k,c,e,?_⟩;have q:=x.cell y c e;rw[zGR ndP hp hu (by show scope.names.lookup y≠_;rw[k];decide)] at q;exact q
 ·exact e0.hok.fresh (Nat.le_of_lt (x.above y c (PySem.mem_of_lookup h)))
 ·unfold start
  show _=N.length;rw[List.length_append,List.length_map,List.length_replicate];omega
theorem fn_of {CX:CXT}{P:Program}{w:World}{K:W.Frag}{mg:Str->Option Value}{base:Heap}{k:Nat}{f:Addr}{name qual:Str}{params:Arguments}{body:List Stmt}{scope:Scope}{dV kV doc pm cdv ct oc:Value}{an od:Option Addr}
  {osl:Array (Option Value)}{N ps:List Str}{sp:Sp}(lk:K.lookup f=some ⟨oc,od,.func (W.fnOf name qual params body scope dV kV doc pm an cdv ct),osl⟩) (hcd:W.codeIn K cdv qual=true) (S:zAR N ps scope)
  (len:∀vs H Q E,sp vs H Q E->vs.length=ps.length)
  (hbody:∀(A:Around) (outer:List Env) (s:Shared) (H:Hp) (vs:List V) (Q:VK) (E:XK),Room k (A.deeper (envOfC qual scope s.heap.objs.size f cdv))->sp vs H Q E ->
   ∃t,PSs (cxOf CX P w K mg base N qual scope f cdv A outer s H E) body t/\t { nx:=λ Ω H'=>Q .non H',rt:=Q } (start N vs) H) :
  FnOk P w K mg base CX (k+1) f (W.fnOf name qual params body scope dV kV doc pm an cdv ct) ps sp:=by
 refine⟨len,λ A outer s H args us vs Q E hr e0 hb r hsp=>?_⟩;have hl:=len _ _ _ _ hsp;have KX:K.In s.heap:=e0.mod.kin.keeps λ b o e=>(e0.bs b o e).1;have lim:s.heap.NoLimit:=e0.mod.nolimit.keeps λ b o e=>(e0.bs b o e).1
 have hkind:∀y∈ps.zip us,scope.names.lookup y.1=some .local\/(scope.names.lookup y.1=some .cell/\((cellsFrom (s.heap.objs.size+1) scope.names []).lookup y.1).isSome=true):=λ⟨n,v⟩ hy=>by
  rcases S.par n (List.of_mem_zip hy).1 with q|q
  ·exact .inl q
  ·exact .inr ⟨q,W.cellsFrom_some _ _ _ (.inl q)⟩
 refine codeAny_call_function hr.depth (KX _ _ lk) rfl S.co S.gen rfl (W.codeRec_of KX hcd) (hb _ _ _ _ ?_);refine wpAny_newFunctionEnv_cells S.kind hkind λ env he s1 x=>?_;subst he;refine⟨lim.keeps x.toInCall.keep,codeAny_func ?_⟩;obtain⟨t,ht,hq⟩:=hbody A outer s H vs Q E (hr.deeper _) hsp;have I:Inv (cxOf CX P w K mg base N qual scope f cdv A outer s H E) [] (start N vs) H s1:=zJW S hr.hd e0 hl r x;refine wpAny_mono (ht [] s1 (start N vs) H _ I hq) (λ fl s' hs=>?_) λ e s' hs=>hs
 have fin:∀{σ':St}{H':Hp}{v:V}{u:Value},Inv (cxOf CX P w K mg base N qual scope f cdv A outer s H E) [] σ' H' s'->RelV v u->Q v H'->CE outer P w H s Q u s' :=
  λ{σ' H' v u} J rv q=>⟨v,H',J.os,J.bare,J.base,J.hok,rv,q⟩
 cases fl with
 |ret u =>
  obtain⟨v,σ',H',J,rv,q⟩:=hs;exact fin J rv q
 |next =>
  obtain⟨σ',H',J,q⟩:=hs;exact fin (v:=V.non) (u:=Value.none) J rfl q
 |brk =>
  obtain⟨_,_,_,q⟩:=hs;exact False.elim q
 |cont =>
  obtain⟨_,_,_,q⟩:=hs;exact False.elim q
section
variable {X:Cx}{x:Str}{p pos:Pos}{e:Expr}{es:List Expr}{t:TA}{id T:String}{r:List V->Hp->VK->Prop}
noncomputable def tCB (r:List V->Hp->VK->Prop) (t:TA):TE:=λ σ H Q=>t σ H λ vs H1=>r vs H1 Q
theorem zAd (hc:CallR X (.builtin id) r) (hg:Gl X x) (hm:X.mg x=none) (hv:bootBuiltins x=some (.builtin id)) (ha:PA X (e::es) t) (hn:x ≠ "__name__" := by decide) (hdb:(x == ("__debug__" : Str))=false:=by decide)
  (he:starEach (e::es) X.env=(false,eval e X.env)::starEach es X.env:=by rfl) (hpl:(backTo pos (starEach es X.env)).any (·.1)=false:=by rfl):PE X (.Call (.Name x p) (e::es) [] pos) (tCB r t):=by
 intro jP s σ H Q I h;refine wpAny_Call_Name_kw (zBv I hg hm hv ?_ hn hdb);exact PyProof.Rows.callWith_builtin1 (thn (ha pos jP s σ H _ I h) λ us s1 ⟨vs,H1,I1,r1,q1⟩=>hc jP s1 σ H1 vs us Q I1 r1 q1) he hpl
theorem zBb (hc:CallR X (.type T) r) (hg:Gl X x) (hm:X.mg x=none) (hv:bootBuiltins x=some (.type T)) (ha:PA X (e::es) t) (hn:x ≠ "__name__" := by decide) (hdb:(x == ("__debug__" : Str))=false:=by decide)
  (he:starEach (e::es) X.env=(false,eval e X.env)::starEach es X.env:=by rfl) (hpl:(backTo pos (starEach es X.env)).any (·.1)=false:=by rfl):PE X (.Call (.Name x p) (e::es) [] pos) (tCB r t):=by
 intro jP s σ H Q I h;refine wpAny_Call_Name_kw (zBv I hg hm hv ?_ hn hdb);exact PyProof.Rows.callWith_type1 (thn (ha pos jP s σ H _ I h) λ us s1 ⟨vs,H1,I1,r1,q1⟩=>hc jP s1 σ H1 vs us Q I1 r1 q1) he hpl
end
end L2
namespace HT
open PySem PyProof.Rows
section
open PySem.SeqAt
open PySem.AutoSeq1 (wpAny_loadPart')
open PySem.MeetsSeq PySem.MeetsSeq2 PySem.MeetsSeq3
end
section
variable {prog:Program}{w:World}{A:Around}{E:Value->Shared->Prop}{s:Shared}
theorem cat_tup {t b:Addr}{vs ws:List Value}{Q:Value->Shared->Prop}(ht:IsTup s.heap t vs.toArray) (hb:IsTup s.heap b ws.toArray) (hv:vs≠[])
  (h1:ws=[]->Q (.ref t) s) (h2:ws≠[]->Q (.ref s.heap.objs.size) { s with heap:=s.heap.push { cls:=.type "tuple", data:=.seq (vs++ws).toArray } })
  (hsz:vs.length+ws.length<=sizeLine):wpAny (model prog w) A (binaryOp .Add (.ref t) (.ref b)) Q E s:=by
 obtain⟨⟨cls,dd,data,sl⟩,ho,hc,n,hd⟩:=id ht;obtain⟨⟨cls2,dd2,data2,sl2⟩,ho2,hc2,n2,hd2⟩:=id hb;simp only at hc hd hc2 hd2;subst hc hd hc2 hd2;have e:vs.toArray++ws.toArray=(vs++ws).toArray:=by simp
 by_cases hw:ws=[]
 ·exact concat_meets ⟨_,ho,rfl⟩ ⟨_,ho2,rfl⟩ noFill_tuple_add seq_tuple_add PySem.F.slot_tuple_add PySem.F.entry_tuple_add (PySem.F.args_tuple_add_2 _ _)
   (tuple_addW1 t b vs.toArray ws.toArray n n2 dd dd2 sl sl2 (by simpa using hv) (by simp[hw])) ⟨ho,ho2,h1 hw⟩
 ·refine concat_meets ⟨_,ho,rfl⟩ ⟨_,ho2,rfl⟩ noFill_tuple_add seq_tuple_add PySem.F.slot_tuple_add PySem.F.entry_tuple_add (PySem.F.args_tuple_add_2 _ _)
   (tuple_addW2 t b vs.toArray ws.toArray n n2 dd dd2 sl sl2 (by simpa using hv) (by simpa using hw) (by rw[List.size_toArray,List.size_toArray];exact hsz)) ⟨ho,ho2,?_⟩
  rw[e];exact h2 hw
noncomputable def sIx (n d:Nat):Option Int->Nat
 |none=>d
 |some v=>if v<0 then (v+(n:Int)).toNat else min v.toNat n
theorem sIx_none (n d:Nat):sIx n d none=d:=rfl
theorem sIx_nat (n d k:Nat):sIx n d (some (k:Int))=min k n:=by
 show (if (k:Int)<0 then ((k:Int)+(n:Int)).toNat else min (k:Int).toNat n)=min k n;rw[if_neg (by omega),Int.toNat_natCast]
theorem zME (n d:Nat) (hd:d<=n) (o:Option Int):sIx n d o<=n:=by
 cases o with
 |none=>exact hd
 |some v =>
  show (if v<0 then (v+(n:Int)).toNat else min v.toNat n)<=n
  by_cases hv:v<0
  ·rw[if_pos hv];omega
  ·rw[if_neg hv];exact Nat.min_le_right _ _
theorem zJr (v:Int) (n d:Nat):(if v<0 then max (v+(n:Int)) 0 else min v (n:Int))=((sIx n d (some v):Nat):Int):=by
 show (if v<0 then max (v+(n:Int)) 0 else min v (n:Int))=(((if v<0 then (v+(n:Int)).toNat else min v.toNat n):Nat):Int)
 by_cases hv:v<0
 ·simp only[if_pos hv];omega
 ·simp only[if_neg hv];omega
theorem zIV (lo hi:Option Int) (n:Nat):Builtin.Slice.sliceAdjust lo hi 1 (n:Int)=(((sIx n 0 lo:Nat):Int),((sIx n n hi:Nat):Int)):=by
 have h1:¬((1:Int)<0):=by omega
 unfold Builtin.Slice.sliceAdjust;simp only[h1,if_false];refine Prod.ext ?_ ?_
 ·cases lo with
  |none=>rfl
  |some v=>exact zJr v n 0
 ·cases hi with
  |none=>rfl
  |some v=>exact zJr v n n
theorem zH5 (i j:Nat):Builtin.Slice.slicePlaces (i:Int) (j:Int) 1=j - i:=by
 unfold Builtin.Slice.slicePlaces;have h1:(1:Int) > 0:=by omega
 simp only[h1,if_true,Int.ediv_one];split<;>omega
theorem zEp {v:Value}{o:Option Int}{Q:Option Int->Shared->Prop}(p:IsPart v o) (h:Q o s):wpAny (model prog w) A (Builtin.Slice.slicePartIndex v) Q E s:=by
 cases p with
 |none=>exact slicePart_none h
 |int i t=>exact slicePart_int h
theorem sliceApplied_gen {sl:Addr}{vl vu:Value}{lo hi:Option Int}{n:Nat}{Q:Int × Int × Nat->Shared->Prop}(hs:s.heap.IsSliceOf sl vl vu .none) (pl:IsPart vl lo) (pu:IsPart vu hi)
  (h:Q (((sIx n 0 lo:Nat):Int),1,sIx n n hi - sIx n 0 lo) s):wpAny (model prog w) A (Builtin.Slice.sliceApplied (.ref sl) (pure (n:Int))) Q E s:=by
 obtain⟨os,hos,hcs,hds⟩:=id hs;unfold Builtin.Slice.sliceApplied Builtin.Slice.sliceFields;refine lA (lA (wpAny_field hos hds (x:=vl) rfl (lA (wpAny_field hos hds (x:=vu) rfl (lA (wpAny_field hos hds (x:=.none) rfl (lB ?_)))))));refine lA (slicePart_none ?_);show wpAny _ _ (if ((1:Int) == 0)=true then _ else _) _ _ s;rw[if_neg (by decide)];refine lA (zEp pl (lA (zEp pu (lA (lB ?_)))));show wpAny _ _ (match Builtin.Slice.sliceAdjust lo hi 1 (n:Int) with|(lo,hi)=>pure (lo,(1:Int),Builtin.Slice.slicePlaces lo hi 1)) _ _ s;rw[zIV lo hi n];show wpAny _ _ (pure (((sIx n 0 lo:Nat):Int),(1:Int),Builtin.Slice.slicePlaces ((sIx n 0 lo:Nat):Int) ((sIx n n hi:Nat):Int) 1)) _ _ s;rw[zH5];exact lB h
theorem zKG (xs:Array Value) (i k:Nat):((List.range k).filterMap λ(m:Nat)=>xs[((i:Int)+(m:Int) * 1).toNat]?).toArray=((xs.toList.drop i).take k).toArray:=by
 have e:(λ(m:Nat)=>xs[((i:Int)+(m:Int) * 1).toNat]?)=λ m=>xs[i+m]?:=by
  funext m;have:((i:Int)+(m:Int) * 1).toNat=i+m:=by omega
  rw[this]
 rw[e];have:=pick_run xs i k;rw[List.filterMap_map] at this;have e2:((λ x=>xs[x]?) ∘ λ x=>i+x)=λ m=>xs[i+m]?:=rfl;rw[e2] at this;rw[this]
theorem getItem_tuple_cut {t sl:Addr}{items:Array Value}{vl vu:Value}{lo hi:Option Int}{Q:Value->Shared->Prop}(ht:IsTup s.heap t items) (hs:s.heap.IsSliceOf sl vl vu .none) (pl:IsPart vl lo) (pu:IsPart vu hi)
  (hw:¬(sIx items.size 0 lo=0/\sIx items.size items.size hi=items.size))
  (h:Q (.ref s.heap.objs.size) { s with heap:=s.heap.push { cls:=.type "tuple", data:=.seq ((items.toList.drop (sIx items.size 0 lo)).take (sIx items.size items.size hi - sIx items.size 0 lo)).toArray } })
  (hsz:items.size<=sizeLine):wpAny (model prog w) A (getItem (.ref t) (.ref sl)) Q E s:=by
 have htake:sizeOk (.seq ((items.toList.drop (sIx items.size 0 lo)).take (sIx items.size items.size hi - sIx items.size 0 lo)).toArray):=by
  show ((items.toList.drop (sIx items.size 0 lo)).take (sIx items.size items.size hi - sIx items.size 0 lo)).toArray.size<=sizeLine;rw[List.size_toArray,List.length_take,List.length_drop,Array.length_toList];omega
 have hj:sIx items.size items.size hi<=items.size:=zME _ _ (lQ _) hi;obtain⟨os,hos,hcs,hds⟩:=id hs;have hTs:s.TypeIs (.ref sl) "slice" := ⟨os,hos,hcs⟩;unfold getItem
 try with_reducible refine lD ?_
 first|refine lA (lB ?_)|skip
 refine lA (wpAny_sequenceKey ht.typeIs (by decide) ?_)
 refine lA (wpAny_callSpecial?_slot (name:=Str.ofString "__getitem__") ht.typeIs PyProof.Rows.slot_tuple_getitem
  (wpAny_call_entry PyProof.Rows.slot_tuple_getitem ht.typeIs entry_tuple_getitem ?_ (args_tuple_getitem _ _)))
 show wpAny _ _ (Builtin.Tuple.tupleItemsOf (.ref t) >>= _) _ _ s;refine lA (tupleItemsOf_ ht ?_);refine lA (wpAny_typeOf hTs ?_);rw[if_pos (by decide)];refine lA (sliceApplied_gen hs pl pu ?_)
 have hno:¬((((sIx items.size 0 lo:Nat):Int) == 0 && (1:Int) == 1 && (sIx items.size items.size hi - sIx items.size 0 lo) == items.size)=true):=by
  intro q;rw[Bool.and_eq_true,Bool.and_eq_true] at q;have q1:((sIx items.size 0 lo:Nat):Int)=0:=eq_of_beq q.1.1;have q2:sIx items.size items.size hi - sIx items.size 0 lo=items.size:=eq_of_beq q.2;exact hw ⟨by omega,by omega⟩
 show wpAny _ _ (if (((sIx items.size 0 lo:Nat):Int) == 0 && (1:Int) == 1 && (sIx items.size items.size hi - sIx items.size 0 lo) == items.size)=true then _ else _) _ _ s;rw[if_neg hno,zKG]
 first
  |exact lA (m:=Builtin.Tuple.tupleExact _) (wpAny_newObj_type (lB ⟨_,rfl,lB h⟩) htake)
  |exact lA (m:=Builtin.Tuple.tupleExact _) (wpAny_newObj_type (lA (lB (lB ⟨_,rfl,lB h⟩))) htake)
  |exact lA (lA (m:=Builtin.Tuple.tupleExact _) (wpAny_newObj_type (lB (lB ⟨_,rfl,lB h⟩)) htake))
  |exact lA (lA (m:=Builtin.Tuple.tupleExact _) (wpAny_newObj_type (lB ⟨_,rfl,lB h⟩) htake))
end
end HT
namespace L2
open PySem PySem.Spec PyProof.Rows
abbrev TO:=St->Hp->(Option Int->Hp->Prop)->Prop
noncomputable def PO (X:Cx) (e:Option Expr) (t:TO):Prop :=
 ∀(jP:List (Addr × Obj)) (s:Shared) (σ:St) (H:Hp) (Q:Option Int->Hp->Prop),Inv X jP σ H s->t σ H Q ->
  wpAny (model X.prog X.w) X.A (evalPart e X.env) (λ u s'=>∃o H',Inv X jP σ H' s'/\IsPart u o/\Q o H') X.xe s
noncomputable def zLP:TO:=λ Ω H Q=>Q none H
noncomputable def tPart (t:TE):TO:=λ σ H Q=>t σ H λ x H1=>∃i,x = .int i/\Q (some i) H1
section
variable {X:Cx}{e:Expr}{te:TE}{lo hi:Option Expr}{tl th:TO}{pos p2:Pos}
theorem zBc:PO X none zLP:=by
 intro jP s σ H Q I h;rw[evalPart_none];exact lB ⟨none,H,I,.none,h⟩
theorem zA6 (h:PE X e te):PO X (some e) (tPart te):=by
 intro jP s σ H Q I hw;rw[evalPart_some];refine thn (h jP s σ H _ I hw) λ u s1 ⟨x,H1,I1,r1,q1⟩=>?_;obtain⟨i,rfl,q⟩:=q1;obtain⟨t,rfl⟩:=r1;exact⟨some i,H1,I1,.int i t,q⟩
noncomputable def SlR (X:Cx) (r:V->Option Int->Option Int->Hp->VK->Prop):Prop :=
 ∀(jP:List (Addr × Obj)) (s:Shared) (σ:St) (H:Hp) (x:V) (v vl vu:Value) (lo hi:Option Int) (sl:Addr) (Q:VK),Inv X jP σ H s->RelV x v->s.heap.IsSliceOf sl vl vu .none->IsPart vl lo->IsPart vu hi->r x lo hi H Q ->
  ∃T id,typeLookup (.type T) "__getitem__" = pure (some (.builtin id))/\s.TypeIs v T/\wpAny (model X.prog X.w) X.A (getItem v (.ref sl)) (EP X jP σ Q) X.xe s
noncomputable def tSl (r:V->Option Int->Option Int->Hp->VK->Prop) (te:TE) (tl th:TO):TE:=λ σ H Q=>te σ H λ x H1=>tl σ H1 λ l H2=>th σ H2 λ u H3=>r x l u H3 Q
theorem zBB {r:V->Option Int->Option Int->Hp->VK->Prop}(hr:SlR X r) (he:PE X e te) (hl:PO X lo tl) (hu:PO X hi th):PE X (.Subscript e (.Slice lo hi none p2) pos) (tSl r te tl th):=by
 intro jP s σ H Q I h;refine Subscript_ (thn (he jP s σ H _ I h) λ v s1 ⟨x,H1,I1,r1,q1⟩=>?_);refine wpAny_Slice (thn (hl jP s1 σ H1 _ I1 q1) λ vl s2 ⟨l,H2,I2,pl,q2⟩=>thn (hu jP s2 σ H2 _ I2 q2) λ vu s3 ⟨u,H3,I3,pu,q3⟩=>?_);rw[evalPart_none];refine lB ?_;have I4:Inv X jP σ H3 { s3 with heap:=s3.heap.push { cls:=.type "slice", data:=.fields #[vl,vu,.none] } }:=I3.kept (t':=s3.toks) λ b ob q=>lE _ q;obtain⟨T,id,hT,ht,hg⟩:=hr jP { s3 with heap:=s3.heap.push { cls:=.type "slice", data:=.fields #[vl,vu,.none] } } σ H3 x v vl vu l u s3.heap.objs.size Q I4 r1 (Heap.IsSliceOf.new ..) pl pu q3;show wpAny (model X.prog X.w) X.A (subscriptTail e (.Slice lo hi none p2) v (.ref s3.heap.objs.size)) (EP X jP σ Q) X.xe { s3 with heap:=s3.heap.push { cls:=.type "slice", data:=.fields #[vl,vu,.none] } };exact tail_any (ops:=[.ref s3.heap.objs.size,v]) ht hT hg (by with_unfolding_all rfl)
noncomputable def cutV (xs:List V) (lo hi:Option Int):List V:=(xs.drop (HT.sIx xs.length 0 lo)).take (HT.sIx xs.length xs.length hi - HT.sIx xs.length 0 lo)
theorem zEX (xs:List V) (lo hi:Option Int):(cutV xs lo hi).length<=xs.length:=by
 unfold cutV;rw[List.length_take,List.length_drop];omega
noncomputable def rSlT (K:W.Frag):V->Option Int->Option Int->Hp->VK->Prop:=λ x lo hi H Q=>∃a xs,x = .ref a/\SqT K H a xs /\
 ¬(HT.sIx xs.length 0 lo=0/\HT.sIx xs.length xs.length hi=xs.length)/\∀p,H p=none->Q (.ref p) (upd H p (.tup (cutV xs lo hi)))
theorem zK1:SlR X (rSlT X.K):=by
 intro jP s σ H x v vl vu lo hi sl Q I rx hs pl pu h;obtain⟨a,xs,rfl,hx,hw,q⟩:=h;cases rx;obtain⟨its,r,ht,hz⟩:=I.tuple hx;have hlen:its.toArray.size=xs.length:=by rw[List.size_toArray];exact r.length.symm
 refine⟨"tuple", _,PyProof.Rows.slot_tuple_getitem.lookup,ht.typeIs,?_⟩;refine HT.getItem_tuple_cut ht hs pl pu (by rw[hlen];exact hw) ?_ (by rw[hlen];exact hz);rw[hlen];refine⟨.ref s.heap.objs.size,_,I.laid (t':=s.toks) (o:=.tup (cutV xs lo hi)) (λ b ob q=>lE _ q) (lQ _) ?_,rfl,q _ (I.hok.fresh (lQ _))⟩;exact⟨mG (zEX xs lo hi) hz,_,(r.drop (HT.sIx xs.length 0 lo)).take (HT.sIx xs.length xs.length hi - HT.sIx xs.length 0 lo),IsTup.new _ _⟩
noncomputable def rCatT (K:W.Frag):R2:=λ x y H Q=>∃a b xs ys,x = .ref a/\y = .ref b/\SqT K H a xs/\SqT K H b ys/\xs≠[]/\xs.length+ys.length<=sizeLine /\
 (ys=[]->Q (.ref a) H)/\(ys≠[]->∀p,H p=none->Q (.ref p) (upd H p (.tup (xs++ys))))
theorem Vals.nil_iff {xs:List V}{us:List Value}(r:Vals xs us):us=[]↔xs=[]:=by
 cases r with
 |nil=>simp
 |cons _ _=>simp
theorem zLg:OpR X (binaryOp .Add) (rCatT X.K):=by
 intro jP s σ H x y v u Q I rx ry h;obtain⟨a,b,xs,ys,rfl,rfl,ha,hb,hx,hz,q1,q2⟩:=h;cases rx;cases ry;obtain⟨its,r1,p1,_⟩:=I.tuple ha;obtain⟨its2,r2,p2,_⟩:=I.tuple hb;refine HT.cat_tup p1 p2 (λ z=>hx (r1.nil_iff.mp z)) (λ z=>⟨.ref a,H,I,rfl,q1 (r2.nil_iff.mp z)⟩) (λ z=>?_) (by rw[←r1.length,←r2.length];exact hz);refine⟨.ref s.heap.objs.size,_,I.laid (t':=s.toks) (o:=.tup (xs++ys)) (λ b ob q=>lE _ q) (lQ _) ?_,rfl,q2 (λ w=>z (r2.nil_iff.mpr w)) _ (I.hok.fresh (lQ _))⟩;exact⟨by rw[List.length_append];exact hz,_,r1.append r2,IsTup.new _ _⟩
end
noncomputable def ixN (n:Nat) (i:Int):Option Nat:=if 0<=i then (if i<n then some i.toNat else none) else if -(n:Int)<=i then some (i+n).toNat else none
noncomputable def atI {α:Type}(xs:List α) (i:Int):Option α:=(ixN xs.length i).bind λ j=>xs[j]?
theorem zJT {n:Nat}{i:Int}{j:Nat}(h:ixN n i=some j):seqIndex? i n=some j/\j<n /\ -(n:Int)<=i/\i<n:=by
 unfold ixN at h
 by_cases h0:0<=i
 ·rw[if_pos h0] at h
  by_cases h1:i<n
  ·rw[if_pos h1] at h
   have e:i.toNat=j:=mE h;exact⟨by rw[seqIndex_of h0 h1,e],by omega,by omega,h1⟩
  ·rw[if_neg h1] at h;cases h
 ·rw[if_neg h0] at h
  by_cases h1 : -(n:Int)<=i
  ·rw[if_pos h1] at h
   have e:(i+n).toNat=j:=mE h;exact⟨by rw[seqIndex_neg (by omega) h1,e],by omega,h1,by omega⟩
  ·rw[if_neg h1] at h;cases h
theorem zG4 {α:Type}{xs:List α}{i:Int}{v:α}(h:atI xs i=some v):∃j,seqIndex? i xs.length=some j/\xs[j]?=some v/\j<xs.length /\ -(xs.length:Int)<=i/\i<xs.length:=by
 unfold atI at h;cases e:ixN xs.length i with
 |none=>rw[e] at h;cases h
 |some j =>
  rw[e] at h;obtain⟨h1,h2,h3,h4⟩:=zJT e;exact⟨j,h1,h,h2,h3,h4⟩
theorem zAZ {α:Type}{xs:List α}{j:Nat}{v:α}(h:xs[j]?=some v):atI xs (j:Int)=some v:=by
 have hj:j<xs.length:=(lJ.mp h).1
 have e:ixN xs.length (j:Int)=some j:=by
  unfold ixN;rw[if_pos (by omega),if_pos (by omega)];simp
 unfold atI;rw[e];exact h
theorem zHw {α:Type}(xs:List α) (v:α):atI (xs++[v]) (-1)=some v:=by
 have hl:(xs++[v]).length=xs.length+1:=by simp
 have e:ixN (xs++[v]).length (-1)=some xs.length:=by
  unfold ixN;rw[hl,if_neg (by decide),if_pos (by omega)];congr 1;omega
 unfold atI;rw[e];show (xs++[v])[xs.length]?=some v;simp
noncomputable def zJv (b:Expr):Prop:=∀o i,subscripted b false o i=operate [o,i] (getItem o i)
noncomputable def IxR (X:Cx) (r:R2):Prop :=
 ∀(value slice:Expr) (jP:List (Addr × Obj)) (s:Shared) (σ:St) (H:Hp) (x y:V) (v u:Value) (Q:VK),Inv X jP σ H s->RelV x v->RelV y u->r x y H Q ->
  subscripted slice false v u=operate [v,u] (getItem v u)->wpAny (model X.prog X.w) X.A (subscriptTail value slice v u) (EP X jP σ Q) X.xe s
noncomputable def MtR (X:Cx) (id:String) (r:V->List V->Hp->VK->Prop):Prop :=
 ∀(jP:List (Addr × Obj)) (s:Shared) (σ:St) (H:Hp) (x:V) (xs:List V) (v:Value) (us:List Value) (Q:VK),Inv X jP σ H s->RelV x v->Vals xs us->r x xs H Q ->
  wpAny (model X.prog X.w) X.A (call (.builtin id) (v::us)) (EP X jP σ Q) X.xe s
section
variable {X:Cx}{a b:Expr}{ta tb:TE}{pos:Pos}
theorem pe_ix {r:R2}(hr:IxR X r) (ha:PE X a ta) (hb:PE X b tb) (hs:zJv b):PE X (.Subscript a b pos) (tOp r ta tb):=by
 intro jP s σ H Q I h;exact Subscript_ (binT ha hb I h λ v u s2 x y H2 I2 rx ry q=>hr a b jP s2 σ H2 x y v u Q I2 rx ry q (hs _ _))
noncomputable def rIxL (K:W.Frag):R2:=λ x y H Q=>∃p xs i v,x = .ref p/\y = .int i/\SqL K H p xs/\atI xs i=some v/\Q v H
noncomputable def rIxT (K:W.Frag):R2:=λ x y H Q=>∃p xs i v,x = .ref p/\y = .int i/\SqT K H p xs/\atI xs i=some v/\Q v H
noncomputable def rIxS:R2:=λ x y H Q=>∃z i c,x = .str z/\y = .int i/\z.length<=sizeLine/\atI z.cps.toList i=some c/\Q (.str ⟨#[c]⟩) H
theorem zAy:IxR X (rIxL X.K):=by
 intro value slice jP s σ H x y v u Q I rx ry h hs;obtain⟨p,xs,i,z,rfl,rfl,hq,he,q⟩:=h;cases rx;obtain⟨t,rfl⟩:=ry;obtain⟨its,r,pl,hz⟩:=I.list hq;obtain⟨j,h1,h2,h3,h4,h5⟩:=zG4 he;obtain⟨w,ew,rw'⟩:=r.get h2;have hl:=r.length;have hn:=zDs;have fin:EP X jP σ Q w s:=⟨z,H,I,rw',q⟩
 by_cases h0:0<=i
 ·have hj:i.toNat=j:=by
   rw[seqIndex_of h0 h5] at h1;exact mE h1
  exact item_listR pl.isList h0 (by omega) (by rw[hj];simpa using ew) fin hs
 ·have hj:(i+(its.toArray.size:Int)).toNat=j:=by
   rw[seqIndex_neg (by omega) h4] at h1;rw[List.size_toArray,←hl];exact mE h1
  exact subscriptTail_builtinR (x:=w) pl.isList.typeIs slot_list_getitem.lookup
   (wpAny_getItem_list_neg (Q:=λ r s'=>r=w/\EP X jP σ Q r s') pl.isList (by omega) (by rw[List.size_toArray]<;>omega) (by omega) (by rw[hj];simpa using ew) ⟨rfl,fin⟩) hs
theorem zAW:IxR X (rIxT X.K):=by
 intro value slice jP s σ H x y v u Q I rx ry h hs;obtain⟨p,xs,i,z,rfl,rfl,hq,he,q⟩:=h;cases rx;obtain⟨t,rfl⟩:=ry;obtain⟨its,r,pl,hz⟩:=I.tuple hq;obtain⟨j,h1,h2,h3,h4,h5⟩:=zG4 he;obtain⟨w,ew,rw'⟩:=r.get h2;have hl:=r.length;have hn:=zDs;have fin:EP X jP σ Q w s:=⟨z,H,I,rw',q⟩
 exact subscriptTail_builtinR (x:=w) pl.typeIs slot_tuple_getitem.lookup
  (getItem_tuple (j:=j) (Q:=λ r s'=>r=w/\EP X jP σ Q r s') pl (by omega) (by omega) (by rw[List.size_toArray,←hl];exact h1) (by simpa using ew) ⟨rfl,fin⟩) hs
theorem zMb:IxR X rIxS:=by
 intro value slice jP s σ H x y v u Q I rx ry h hs;obtain⟨z,i,c,rfl,rfl,hz,he,q⟩:=h;obtain⟨t,rfl⟩:=rx;obtain⟨t',rfl⟩:=ry;obtain⟨j,h1,h2,h3,h4,h5⟩:=zG4 he;have hl:z.cps.toList.length=z.length:=by simp[Str.length]
 rw[hl] at h1 h4 h5;have hn:=zDs
 exact tail_any (typeIs_str s z t) slot_str_getitem.lookup (getItem_str (c:=c) (by
  have e1:decide (i < -(2 ^ 63:Int))=false:=decide_eq_false (by omega);have e2:decide (i ≥ 2 ^ 63)=false:=decide_eq_false (by omega);rw[e1,e2,Bool.or_false]) (by rw[h1];simpa using h2) ⟨.str ⟨#[c]⟩,H,I.tok _,⟨_,rfl⟩,q⟩) hs
theorem zIP (its:List Value) (n j:Nat) (u:Value):Obj.mapSeq (·.setIfInBounds j u) { cls:=.type "list", data:=.seq its.toArray n }={ cls:=.type "list", data:=.seq (its.set j u).toArray n }:=by
 simp[Obj.mapSeq]
theorem Inv.lst {jP:List (Addr × Obj)}{σ:St}{H:Hp}{s:Shared}{p:Addr}{xs:List V}(I:Inv X jP σ H s) (h:H p=some (.lst xs)) :
  ∃(its:List Value) (n:Nat),Vals xs its/\s.heap.get? p=some { cls:=.type "list", data:=.seq its.toArray n }/\xs.length<=sizeLine:=by
 obtain⟨z,its,n,r,e⟩:=I.hok p _ h;exact⟨its,n,r,e,z⟩
theorem Inv.lstUpd {jP:List (Addr × Obj)}{σ:St}{H:Hp}{s:Shared}{p:Addr}{xs ys:List V}{its its':List Value}{n n':Nat}{f:Obj->Obj}(I:Inv X jP σ H s) (h:H p=some (.lst xs))
  (ho:s.heap.get? p=some { cls:=.type "list", data:=.seq its.toArray n }) (hf:f { cls:=.type "list", data:=.seq its.toArray n }={ cls:=.type "list", data:=.seq its'.toArray n' }) (r:Vals ys its') (hz:ys.length<=sizeLine) (t:Nat) :
  Inv X jP σ (upd H p (.lst ys)) { s with heap:=s.heap.update p f,toks:=t }:=by
 have e:(s.heap.update p f).get? p=some { cls:=.type "list", data:=.seq its'.toArray n' }:=by
  rw[Heap.get?_update_self f ho (by rw[hf]<;>rfl),hf]
 refine I.write (x:=p) (e:=p) (by rw[h];trivial) (.inl rfl) (λ b u hb q=>(Heap.get?_update_other _ _ (Ne.symm hb)).trans q) ⟨_,e⟩ ?_;exact⟨hz,its',n',r,e⟩
noncomputable def rSetL:V->V->V->Hp->(Hp->Prop)->Prop:=λ o i v H Q=>∃p xs k j,o = .ref p/\i = .int k/\H p=some (.lst xs)/\ixN xs.length k=some j/\Q (upd H p (.lst (xs.set j v)))
theorem zHP:PSet X rSetL:=by
 intro jP s σ H o i v ov iv u Q I ro ri rv h;obtain⟨p,xs,k,j,rfl,rfl,hp,hj,q⟩:=h;cases ro;obtain⟨t,rfl⟩:=ri;obtain⟨its,n,r,ho,hz⟩:=I.lst hp;obtain⟨h1,h2,h3,h4⟩:=zJT hj;have hl:=r.length;have hn:=zDs
 have I':Inv X jP σ (upd H p (.lst (xs.set j v))) { s with heap:=s.heap.update p (Obj.mapSeq (·.setIfInBounds j u)) } :=
  I.lstUpd hp ho (zIP its n j u) (r.set rv j) (by rw[List.length_set];exact hz) s.toks
 by_cases h0:0<=k
 ·have hk:k.toNat=j:=by
   rw[seqIndex_of h0 h4] at h1;exact mE h1
  exact W.ki_setAt ho h0 (by omega) (by rw[List.size_toArray,←hl];exact h4) (by rw[hk];exact⟨_,I',q⟩)
 ·have hk:(k+(its.toArray.size:Int)).toNat=j:=by
   rw[seqIndex_neg (by omega) h3] at h1;rw[List.size_toArray,←hl];exact mE h1
  exact W.ki_setBack ho (by omega) (by rw[List.size_toArray,←hl];exact h3) (by omega) (by rw[hk];exact⟨_,I',q⟩)
theorem zFr (lo hi:Option Int) (n:Nat):(sliceBounds lo hi none n).1=((HT.sIx n 0 lo:Nat):Int)/\(sliceBounds lo hi none n).2.1=((HT.sIx n n hi:Nat):Int)/\(sliceBounds lo hi none n).2.2=1:=by
 refine⟨?_,?_,rfl⟩
 ·cases lo with
  |none=>simp[sliceBounds,HT.sIx]
  |some i =>
   simp only[sliceBounds,HT.sIx,Option.getD_none,show (1:Int) > 0 by decide,if_true]
   by_cases h:i<0
   ·simp only[h,if_true]<;>omega
   ·simp only[h,if_false]<;>omega
 ·cases hi with
  |none=>simp[sliceBounds,HT.sIx]
  |some i =>
   simp only[sliceBounds,HT.sIx,Option.getD_none,show (1:Int) > 0 by decide,if_true]
   by_cases h:i<0
   ·simp only[h,if_true]<;>omega
   ·simp only[h,if_false]<;>omega
theorem zFB (its:List Value) (lo hi:Option Int):slicePick its.toArray lo hi none=((its.drop (HT.sIx its.length 0 lo)).take (HT.sIx its.length its.length hi - HT.sIx its.length 0 lo)).toArray:=by
 obtain⟨h1,h2,h3⟩:=zFr lo hi its.toArray.size;unfold slicePick;rw[h1,h2,h3];simp only[sliceRange_one,pick_run,List.size_toArray]<;>rfl
noncomputable def rSlL (K:W.Frag):V->Option Int->Option Int->Hp->VK->Prop:=λ x lo hi H Q=>∃a xs,x = .ref a/\SqL K H a xs/\∀p,H p=none->Q (.ref p) (upd H p (.lst (cutV xs lo hi)))
theorem zB1:SlR X (rSlL X.K):=by
 intro jP s σ H x v vl vu lo hi sl Q I rx hs pl pu h;obtain⟨a,xs,rfl,hx,q⟩:=h;cases rx;obtain⟨its,r,ht,hz⟩:=I.list hx;have hlen:=r.length;refine⟨"list", _,slot_list_getitem.lookup,ht.isList.typeIs,?_⟩;refine wpAny_getItem_list_slice ht.isList hs pl pu .none (by simp) ?_ (by rw[List.size_toArray]<;>omega);rw[zFB,←hlen];refine⟨.ref s.heap.objs.size,_,I.laid (t':=s.toks) (o:=.lst (cutV xs lo hi)) (λ b ob q=>lE _ q) (lQ _) ?_,rfl,q _ (I.hok.fresh (lQ _))⟩;exact⟨mG (zEX xs lo hi) hz,_,0,(r.drop (HT.sIx xs.length 0 lo)).take (HT.sIx xs.length xs.length hi - HT.sIx xs.length 0 lo),lG _ rfl⟩
noncomputable def flatV:V->Bool
 |.non=>true
 |.bl _=>true
 |.int _=>true
 |.str _=>true
 |_=>false
noncomputable def eqV:V->V->Bool
 |.non,.non=>true
 |.bl a,.bl b=>a == b
 |.bl a,.int b=>(if a then 1 else 0) == b
 |.int a,.bl b=>a == (if b then 1 else 0)
 |.int a,.int b=>a == b
 |.str a,.str b=>a == b
 |_,_=>false
theorem zMe {A:Around}{s:Shared}{y x:V}{u v:Value}(ry:RelV y u) (rx:RelV x v) (fy:flatV y=true) (fx:flatV x=true):SeqAt.EqAt A s u v (eqV y x):=by
 cases y with
 |non =>
  cases ry;cases x with
  |non=>cases rx;exact SeqAt.EqAt.same _
  |bl b=>cases rx;exact SeqAt.EqAt.none_bool b
  |int b=>obtain⟨t,rfl⟩:=rx;exact SeqAt.EqAt.none_int b t
  |str b=>obtain⟨t,rfl⟩:=rx;exact SeqAt.EqAt.none_str b t
  |_=>exact absurd (show false=true from fx) lX
 |bl a =>
  cases ry;cases x with
  |non=>cases rx;exact SeqAt.EqAt.bool_none a
  |bl b=>cases rx;exact SeqAt.EqAt.bool_bool a b
  |int b=>obtain⟨t,rfl⟩:=rx;exact SeqAt.EqAt.bool_int a b t
  |str b=>obtain⟨t,rfl⟩:=rx;exact SeqAt.EqAt.bool_str a b t
  |_=>exact absurd (show false=true from fx) lX
 |int a =>
  obtain⟨t',rfl⟩:=ry;cases x with
  |non=>cases rx;exact SeqAt.EqAt.int_none a t'
  |bl b=>cases rx;exact SeqAt.EqAt.int_bool a t' b
  |int b=>obtain⟨t,rfl⟩:=rx;exact SeqAt.EqAt.int_int a t' b t
  |str b=>obtain⟨t,rfl⟩:=rx;exact SeqAt.EqAt.int_str a t' b t
  |_=>exact absurd (show false=true from fx) lX
 |str a =>
  obtain⟨t',rfl⟩:=ry;cases x with
  |non=>cases rx;exact SeqAt.EqAt.str_none a t'
  |bl b=>cases rx;exact SeqAt.EqAt.str_bool a t' b
  |int b=>obtain⟨t,rfl⟩:=rx;exact SeqAt.EqAt.str_int a t' b t
  |str b=>obtain⟨t,rfl⟩:=rx;exact SeqAt.EqAt.str_str a t' b t
  |_=>exact absurd (show false=true from fx) lX
 |_=>exact absurd (show false=true from fy) lX
noncomputable def eqU (x:V) (u:Value):Bool:=match u with
 |.none=>eqV .non x
 |.bool b=>eqV (.bl b) x
 |.int i _=>eqV (.int i) x
 |.str z _=>eqV (.str z) x
 |_=>false
theorem zLH {x y:V}{u:Value}(r:RelV y u) (f:flatV y=true):eqU x u=eqV y x:=by
 cases y with
 |non=>cases r;rfl
 |bl b=>cases r;rfl
 |int i=>obtain⟨t,rfl⟩:=r;rfl
 |str z=>obtain⟨t,rfl⟩:=r;rfl
 |_=>exact absurd (show false=true from f) lX
theorem zEa {x:V}{xs:List V}{us:List Value}(h:Vals xs us):xs.all flatV=true->us.any (eqU x)=xs.any λ y=>eqV y x:=by
 induction h with
 |nil=>exact λ U=>rfl
 |cons r t ih=>intro f;rw[List.all_cons,Bool.and_eq_true] at f;rw[List.any_cons,List.any_cons,zLH r f.1,ih f.2]
theorem zDH {A:Around}{s:Shared}{x:V}{v:Value}(rx:RelV x v) (fx:flatV x=true){xs:List V}{us:List Value}(z:Vals xs us):xs.all flatV=true->∀u∈us,SeqAt.EqAt A s u v (eqU x u):=by
 induction z with
 |nil=>exact λ U u hu=>nomatch hu
 |cons r t ih =>
  intro f u' hu;rw[List.all_cons,Bool.and_eq_true] at f;rcases List.mem_cons.mp hu with rfl|hu
  ·rw[zLH r f.1];exact zMe r rx f.1 fx
  ·exact ih f.2 u' hu
noncomputable def inV (x:V) (xs:List V):Bool:=xs.any λ y=>eqV y x
noncomputable def rIn (K:W.Frag) (neg:Bool):R2:=λ x y H Q=>∃p xs,y = .ref p/\(SqL K H p xs\/SqT K H p xs)/\flatV x=true/\xs.all flatV=true/\Q (.bl (if neg then !inV x xs else inV x xs)) H
theorem zF7:OpR X (compareOp .In) (rIn X.K false):=by
 intro jP s σ H x y v u Q I rx ry h;obtain⟨p,xs,rfl,hq,fx,fs,q⟩:=h;cases ry;rcases hq with hq|hq
 ·obtain⟨its,r,pl,hz⟩:=I.list hq
  refine SeqAt.in_listAt (eqU x) pl.isList (λ w hw=>zDH rx fx r fs w (by simpa using hw)) ⟨.bl _,H,I,rfl,?_⟩;rw[show its.toArray.any (eqU x)=its.any (eqU x) by simp,zEa r fs];exact q
 ·obtain⟨its,r,pl,hz⟩:=I.tuple hq
  refine SeqAt.in_tupleAt (eqU x) pl (λ w hw=>zDH rx fx r fs w (by simpa using hw)) ⟨.bl _,H,I,rfl,?_⟩;rw[show its.toArray.any (eqU x)=its.any (eqU x) by simp,zEa r fs];exact q
theorem zDr:OpR X (compareOp .NotIn) (rIn X.K true):=by
 intro jP s σ H x y v u Q I rx ry h;obtain⟨p,xs,rfl,hq,fx,fs,q⟩:=h;cases ry;rcases hq with hq|hq
 ·obtain⟨its,r,pl,hz⟩:=I.list hq
  refine SeqAt.notIn_listAt (eqU x) pl.isList (λ w hw=>zDH rx fx r fs w (by simpa using hw)) ⟨.bl _,H,I,rfl,?_⟩;rw[show its.toArray.any (eqU x)=its.any (eqU x) by simp,zEa r fs];exact q
 ·obtain⟨its,r,pl,hz⟩:=I.tuple hq
  refine SeqAt.notIn_tupleAt (eqU x) pl (λ w hw=>zDH rx fx r fs w (by simpa using hw)) ⟨.bl _,H,I,rfl,?_⟩;rw[show its.toArray.any (eqU x)=its.any (eqU x) by simp,zEa r fs];exact q
theorem zAe:CallR X (.builtin "len") (λ xs H Q=>∃p ys,xs=[.ref p]/\(SqL X.K H p ys\/SqT X.K H p ys)/\Q (.int ys.length) H):=by
 intro jP s σ H xs us Q I r h;obtain⟨p,ys,rfl,hq,q⟩:=h;obtain⟨u,rfl,rx⟩:=vals1 r;cases rx;have hn:=zDs;rcases hq with hq|hq
 ·obtain⟨its,r',pl,hz⟩:=I.list hq
  have hlen:=r'.length;exact Calls.call_len_list pl.isList (by simp only[List.size_toArray]<;>omega) ⟨.int ys.length,H,I.tok _,⟨s.toks+1,by rw[List.size_toArray,hlen]⟩,q⟩
 ·obtain⟨its,r',pl,hz⟩:=I.tuple hq
  have hlen:=r'.length;exact len_tuple pl (by simp only[List.size_toArray]<;>omega) ⟨.int ys.length,H,I.tok _,⟨s.toks+1,by rw[List.size_toArray,hlen]⟩,q⟩
theorem zGM:CallR X (.type "list") (λ xs H Q=>∃p ys,xs=[.ref p]/\(SqL X.K H p ys\/SqT X.K H p ys)/\∀l,H l=none->Q (.ref l) (upd H l (.lst ys))):=by
 intro jP s σ H xs us Q I r h;obtain⟨p,ys,rfl,hq,q⟩:=h;obtain⟨u,rfl,rx⟩:=vals1 r;cases rx
 have fin:∀(its:List Value),Vals ys its->ys.length<=sizeLine->∀(h':Heap) (c':Nat),(∀b o',s.heap.get? b=some o'->h'.get? b=some o') ->
   h'.get? s.heap.objs.size=some { cls:=.type "list", dict:=none,data:=.seq its.toArray c',slots:=#[] }->EP X jP σ Q (.ref s.heap.objs.size) { s with heap:=h' }:=λ its r' hz h' c' kp e =>
  ⟨.ref s.heap.objs.size,_,I.laid (t':=s.toks) kp (lQ _) (show ObjOk X.prog X.w _ h' _ (.lst ys) from⟨hz,its,c',r',e⟩),rfl,q _ (I.hok.fresh (lQ _))⟩
 rcases hq with hq|hq
 ·obtain⟨its,r',pl,hz⟩:=I.list hq
  have hlen:=r'.length;obtain⟨o,ho,hc,n,hd⟩:=pl.isList;exact call_list_seq p (.inl rfl) ho hc hd (λ h' c' kp e=>fin its r' hz h' c' kp e) (by simp only[List.size_toArray]<;>omega)
 ·obtain⟨its,r',pl,hz⟩:=I.tuple hq
  have hlen:=r'.length;obtain⟨o,ho,hc,n,hd⟩:=pl;exact call_list_seq p (.inr rfl) ho hc hd (λ h' c' kp e=>fin its r' hz h' c' kp e) (by simp only[List.size_toArray]<;>omega)
theorem zBj:CallR X (.type "tuple") (λ xs H Q=>∃p ys,xs=[.ref p]/\((SqL X.K H p ys/\∀l,H l=none->Q (.ref l) (upd H l (.tup ys)))\/(SqT X.K H p ys/\Q (.ref p) H))):=by
 intro jP s σ H xs us Q I r h;obtain⟨p,ys,rfl,h⟩:=h;obtain⟨u,rfl,rx⟩:=vals1 r;cases rx;rcases h with ⟨hq,q⟩|⟨hq,q⟩
 ·obtain⟨its,r',pl,hz⟩:=I.list hq
  have hlen:=r'.length;refine call_tuple_list pl.isList (λ h' kp=>?_) (by simp only[List.size_toArray]<;>omega);have I1:Inv X jP σ H { s with heap:=h' }:=I.kept (t':=s.toks) kp
  have I2:Inv X jP σ (upd H h'.objs.size (.tup ys)) { s with heap:=h'.push { cls:=.type "tuple", data:=.seq its.toArray } } :=
   I1.laid (t':=s.toks) (λ b o e=>lE _ e) (lQ _) (show ObjOk X.prog X.w _ _ _ (.tup ys) from⟨hz,its,r',IsTup.new _ _⟩)
  exact⟨.ref h'.objs.size,_,I2,rfl,q _ (I1.hok.fresh (lQ _))⟩
 ·obtain⟨its,r',pl,hz⟩:=I.tuple hq
  exact call_tuple_same pl ⟨.ref p,H,I,rfl,q⟩
noncomputable def tyV (K:W.Frag) (T:String) (x:V) (H:Hp):Prop:=match x with
 |.str _=>T = "str"
 |.int _=>T = "int"
 |.ref p=>(T = "list" /\ ∃xs,SqL K H p xs)\/(T = "tuple" /\ ∃o,K.lookup p=some o/\o.cls = .type "tuple" /\ o.dict=none) \/
   (T = "dict" /\ ((∃kvs,H p=some (.dK kvs))\/∃kvs,H p=some (.dT kvs)))\/(T = "set" /\ ∃S n,H p=some (.set S n))
 |_=>False
theorem zKw {jP:List (Addr × Obj)}{σ:St}{H:Hp}{s:Shared}{T:String}{x:V}{v:Value}(I:Inv X jP σ H s) (r:RelV x v) (ty:tyV X.K T x H) :
  s.TypeIs v T/\∀a,v = .ref a->∃ob,s.heap.get? a=some ob/\ob.dict=none:=by
 cases x with
 |str z =>
  obtain⟨t,rfl⟩:=r;cases (show T = "str" from ty);exact⟨typeIs_str s z t,λ Ω e=>nomatch e⟩
 |int i =>
  obtain⟨t,rfl⟩:=r;cases (show T = "int" from ty);exact⟨typeIs_int s i t,λ Ω e=>nomatch e⟩
 |ref p =>
  cases r;rcases ty with ⟨rfl,xs,hq⟩|⟨rfl,o,hk,hc,hd⟩|⟨rfl,hk⟩|⟨rfl,S,n,hk⟩
  ·obtain⟨its,_,pl,_⟩:=I.list hq
   refine⟨pl.isList.typeIs,λ a e=>?_⟩;cases e;obtain⟨o,n,e,c,hd,_⟩:=pl;exact⟨o,e,hd⟩
  ·refine⟨⟨o,I.kIn p o hk,hc⟩,λ a e=>?_⟩
   cases e;exact⟨o,I.kIn _ o hk,hd⟩
  ·have z:∃o,s.heap.get? p=some o/\o.ExactDict:=by
    rcases hk with ⟨kvs,hk⟩|⟨kvs,hk⟩
    ·obtain⟨_,_,_,_,o,_,_,e,ex,_⟩:=I.hok p _ hk
     exact⟨o,e,ex⟩
    ·obtain⟨_,_,_,_,o,_,_,e,ex,_⟩:=I.hok p _ hk
     exact⟨o,e,ex⟩
   obtain⟨o,e,ex⟩:=z;refine⟨⟨o,e,ex.1⟩,λ a e2=>?_⟩;cases e2;exact⟨o,e,ex.2.1⟩
  ·obtain⟨o,_,_,_,e,ex,_⟩:=I.hok p _ hk
   refine⟨⟨o,e,ex.1⟩,λ a e2=>?_⟩;cases e2;exact⟨o,e,ex.2.1⟩
 |_=>exact False.elim ty
noncomputable def tBM0 (K:W.Frag) (T:String) (r:V->List V->Hp->VK->Prop) (to:TE):TE:=λ σ H Q=>to σ H λ x H1=>tyV K T x H1/\r x [] H1 Q
noncomputable def tBM (K:W.Frag) (T:String) (r:V->List V->Hp->VK->Prop) (to:TE) (t:TA):TE:=λ σ H Q=>to σ H λ x H1=>tyV K T x H1/\t σ H1 λ xs H2=>r x xs H2 Q
variable {o e:Expr}{es:List Expr}{to:TE}{t:TA}{name:Str}{apos cpos:Pos}{T id:String}{r:V->List V->Hp->VK->Prop}
theorem zK7 (pa:PlainAttrs T) (slot:Slot T name id) (hty:typeOf (.builtin id)=pure (.type "method_descriptor")) (hm:MtR X id r) (ho:PE X o to)
  (hbase:attributeBase o name X.env (eval o X.env)=eval o X.env:=by rfl) (hline:(apos.endLine == cpos.line)=true:=by rfl):PE X (.Call (.Attribute o name apos) [] [] cpos) (tBM0 X.K T r to):=by
 intro jP s σ H Q I h;refine wpAny_Call_method0_late hbase hline (thn (ho jP s σ H _ I h) λ v s1 ⟨x,H1,I1,r1,ty,q1⟩=>?_);obtain⟨h1,h2⟩:=zKw I1 r1 ty;exact⟨T,id,pa,slot,hty,h1,h2,Calls.callWith_builtin rfl (PySem.evalArgs_none (hm jP s1 σ H1 x [] v [] Q I1 r1 .nil q1))⟩
theorem pe_bm (pa:PlainAttrs T) (slot:Slot T name id) (hty:typeOf (.builtin id)=pure (.type "method_descriptor")) (hm:MtR X id r) (ho:PE X o to) (ha:PA X (e::es) t)
  (hbase:attributeBase o name X.env (eval o X.env)=eval o X.env:=by rfl)
  (hfew:((backTo cpos (starEach (e::es) X.env)).all (λ x=>!x.1) && (backToKw cpos (keywordEach [] X.env)).all (λ x=>x.1.isSome)
   && decide ((e::es).length+([]:List Keyword).length+(if ([]:List Keyword).isEmpty then 0 else 1)<30))=true:=by rfl)
  (hline:(apos.endLine == cpos.line)=true:=by rfl) (hs:starEach (e::es) X.env=(false,eval e X.env)::starEach es X.env:=by rfl) (hplain:(backTo cpos (starEach es X.env)).any (·.1)=false:=by rfl) :
  PE X (.Call (.Attribute o name apos) (e::es) [] cpos) (tBM X.K T r to t):=by
 intro jP s σ H Q I h;refine wpAny_Call_method_late hbase hfew hline rfl (thn (ho jP s σ H _ I h) λ v s1 ⟨x,H1,I1,r1,ty,q1⟩=>?_);obtain⟨h1,h2⟩:=zKw I1 r1 ty;refine⟨T,id,pa,slot,hty,h1,h2,?_⟩;have hA:=ha cpos jP s1 σ H1 _ I1 q1;rw[hs] at hA ⊢;refine Calls.callWith_builtin (by show (false || (backTo cpos (starEach es X.env)).any (·.1))=false;rw[hplain]<;>rfl) (Calls.evalArgs_plain ?_);exact thn hA λ us s2 ⟨vs,H2,I2,r2,q2⟩=>hm jP s2 σ H2 x vs v us Q I2 r1 r2 q2
end
noncomputable def MtM (X:Cx) (id:String) (r:V->List V->Hp->VK->Prop):Prop :=
 ∀(jP:List (Addr × Obj)) (s:Shared) (σ:St) (H:Hp) (x:V) (xs:List V) (v:Value) (us:List Value) (Q:VK),Inv X jP σ H s->RelV x v->Vals xs us->r x xs H Q ->
  wpAny (model X.prog X.w) X.A (call (.builtin id) (v::us)) (EP X jP σ Q) X.xe s
theorem Vals.one {x:V}{us:List Value}(h:Vals [x] us):∃u,us=[u]/\RelV x u:=by
 cases h with|cons r t=>cases t;exact⟨_,rfl,r⟩
theorem Vals.zero:∀{us:List Value},Vals [] us->us=[]
 |_,.nil=>rfl
section
variable {X:Cx}{jP:List (Addr × Obj)}{σ:St}{H:Hp}{s:Shared}{l b:Addr}{xs ys zs:List V}
theorem Inv.lset {its its':List Value}{n:Nat}{f:Array Value->Array Value}{t':Nat}(I:Inv X jP σ H s) (hH:H l=some (.lst xs))
  (e:s.heap.get? l=some { cls:=.type "list", data:=.seq its.toArray n }) (hf:f its.toArray=its'.toArray) (hv:Vals ys its') (hz:ys.length<=sizeLine) :
  Inv X jP σ (upd H l (.lst ys)) { s with heap:=s.heap.update l (Obj.mapSeq f),toks:=t' }:=by
 have q:=PySem.IsL.update e f;rw[hf] at q;refine I.write (x:=l) (e:=l) (by rw[hH];exact trivial) (.inl rfl) (λ b' u hb hu=>(Heap.get?_update_other s.heap (Obj.mapSeq f) (Ne.symm hb)).trans hu) ⟨_,q⟩ ?_;exact⟨hz,its',_,hv,q⟩
theorem Inv.lnew {its:List Value}{t':Nat}(I:Inv X jP σ H s) (hv:Vals ys its) (hz:ys.length<=sizeLine) :
  Inv X jP σ (upd H s.heap.objs.size (.lst ys)) { s with heap:=s.heap.push { cls:=.type "list", data:=.seq its.toArray },toks:=t' } :=
 I.laid (λ Ω Ω q=>lE _ q) (lQ _) ⟨hz,its,0,hv,lG _ rfl⟩
theorem Inv.fresh (I:Inv X jP σ H s):H s.heap.objs.size=none:=I.hok.fresh (lQ _)
theorem Inv.lstM (I:Inv X jP σ H s) (hH:H l=some (.lst xs)):xs.length<=sizeLine/\∃(its:List Value) (n:Nat),Vals xs its/\xs.length=its.length/\s.heap.get? l=some { cls:=.type "list", data:=.seq its.toArray n }:=by
 obtain⟨z,its,n,r,e⟩:=I.hok l _ hH;exact⟨z,its,n,r,r.length,e⟩
theorem zHa {n:Nat}(h:n<=sizeLine):Builtin.List.listTooLong n=false:=by
 unfold Builtin.List.listTooLong;exact decide_eq_false (by omega)
end
section
variable {X:Cx}
noncomputable def zLY:V->List V->Hp->VK->Prop:=λ x vs H Q=>∃l xs y,x = .ref l/\vs=[y]/\H l=some (.lst xs)/\xs.length<sizeLine/\Q .non (upd H l (.lst (xs++[y])))
theorem zAt:MtM X "list.append" zLY:=by
 intro jP s σ H x vs v us Q I rx rv h;obtain⟨l,xs,y,rfl,rfl,hH,hz,q⟩:=h;cases rx;obtain⟨u,rfl,ru⟩:=rv.one;obtain⟨z,its,n,r,hl,e⟩:=I.lstM hH;refine call_meets F.slot_list_append ⟨_,e,rfl⟩ F.entry_list_append (F.args_list_append_2 _ _) (PySem.list_append l its.toArray n u (by rw[List.size_toArray];omega)) ⟨e,?_⟩;refine⟨.non,_,I.lset (its':=its++[u]) hH e (by simp) (r.append (.cons ru .nil)) ?_,rfl,q⟩;rw[List.length_append,List.length_singleton];omega
noncomputable def zLW:V->List V->Hp->VK->Prop:=λ x vs H Q=>∃l b xs zs,x = .ref l/\vs=[.ref b]/\H l=some (.lst xs)/\H b=some (.lst zs)/\xs.length+zs.length<=sizeLine/\Q .non (upd H l (.lst (xs++zs)))
theorem zDG:MtM X "list.extend" zLW:=by
 intro jP s σ H x vs v us Q I rx rv h;obtain⟨l,b,xs,zs,rfl,rfl,hH,hB,hz,q⟩:=h;cases rx;obtain⟨u,rfl,ru⟩:=rv.one;cases ru;obtain⟨z,its,n,r,hl,e⟩:=I.lstM hH;obtain⟨z2,its2,n2,r2,hl2,e2⟩:=I.lstM hB;have hsz:its.toArray.size+its2.toArray.size<=sizeLine:=by rw[List.size_toArray,List.size_toArray];omega
 have hlong:¬(!its.toArray.isEmpty && Builtin.List.listTooLong (its.toArray.size+its2.toArray.size))=true:=by
  rw[zHa hsz,Bool.and_false];exact lX
 refine call_meets F.slot_list_extend ⟨_,e,rfl⟩ F.entry_list_extend (F.args_list_extend_2 _ _)
  (AutoSeq1.list_extend_list_list_0 l its.toArray n b its2.toArray n2 hlong (by rw[List.size_toArray];omega) (by omega)) ⟨e,e2,?_⟩
 refine⟨.non,_,I.lset (its':=its++its2) hH e (by simp) (r.append r2) ?_,rfl,q⟩;rw[List.length_append];omega
end
section
variable {prog:Program}{w:World}{A:Around}{E:Value->Shared->Prop}{s:Shared}
end
section
variable {X:Cx}
end
section
variable {κ:Type} [DecidableEq κ]
noncomputable def valV (kvs:List (κ × V)) (k:κ):Option V:=(kvs.find? λ kv=>decide (kv.1=k)).map (·.2)
noncomputable def putK (kvs:List (κ × V)) (k:κ) (v:V):List (κ × V) :=
 if (kvs.any λ kv=>decide (kv.1=k))=true then kvs.map (λ kv=>if kv.1=k then (kv.1,v) else kv) else kvs++[(k,v)]
theorem zBN {p:κ × V}{r:List (κ × V)}{k:κ}(e:p.1=k):valV (p::r) k=some p.2:=by simp[valV,List.find?_cons,e]
theorem zBO {p:κ × V}{r:List (κ × V)}{k:κ}(e:¬p.1=k):valV (p::r) k=valV r k:=by simp[valV,List.find?_cons,e]
theorem zDv (k:κ):∀kvs:List (κ × V),(kvs.any λ kv=>decide (kv.1=k))=(valV kvs k).isSome
 |[]=>rfl
 |p::r=>by
  rw[List.any_cons]
  by_cases e:p.1=k
  ·simp only[zBN e,decide_eq_true e,Bool.true_or,Option.isSome_some]
  ·rw[zBO e,decide_eq_false e,Bool.false_or];exact zDv k r
theorem zG9 (k j:κ) (y:V):∀kvs:List (κ × V),valV (kvs.map λ kv=>if kv.1=k then (kv.1,y) else kv) j=(valV kvs j).map λ x=>if j=k then y else x
 |[]=>rfl
 |p::r=>by
  have ih:=zG9 k j y r;rw[List.map_cons]
  by_cases h:p.1=k
  ·rw[if_pos h]
   by_cases e:p.1=j
   ·rw[zBN (p:=(p.1,y)) e,zBN e,Option.map_some,if_pos (e.symm.trans h)]
   ·rw[zBO (p:=(p.1,y)) e,zBO e,ih]
  ·rw[if_neg h]
   by_cases e:p.1=j
   ·rw[zBN (p:=p) e,zBN e,Option.map_some,if_neg (λ z=>h (e.trans z))]
   ·rw[zBO (p:=p) e,zBO e,ih]
theorem zFf (k j:κ) (y:V):∀kvs:List (κ × V),valV kvs k=none->valV (kvs++[(k,y)]) j=if j=k then some y else valV kvs j
 |[],_=>by
  by_cases e:k=j
  ·rw[if_pos e.symm];exact zBN (p:=(k,y)) e
  ·rw[if_neg (λ z=>e z.symm)];exact zBO (p:=(k,y)) e
 |p::r,hn=>by
  rw[List.cons_append];have hk:¬p.1=k:=λ z=>by rw[zBN z] at hn;cases hn
  rw[zBO hk] at hn;have ih:=zFf k j y r hn
  by_cases e:p.1=j
  ·rw[zBN e,zBN e,if_neg (λ z=>hk (e.trans z))]
  ·rw[zBO e,zBO e,ih]
theorem zCb (kvs:List (κ × V)) (k j:κ) (y:V):valV (putK kvs k y) j=if j=k then some y else valV kvs j:=by
 unfold putK
 by_cases a:(kvs.any λ kv=>decide (kv.1=k))=true
 ·rw[if_pos a,zG9]
  rw[zDv] at a
  by_cases e:j=k
  ·obtain⟨x,hx⟩:=Option.isSome_iff_exists.mp a
   rw[if_pos e,e,hx,Option.map_some,if_pos rfl]
  ·rw[if_neg e]
   cases valV kvs j with
   |none=>rfl
   |some x=>rw[Option.map_some,if_neg e]
 ·rw[if_neg a]
  refine zFf k j y kvs ?_;rw[zDv] at a;cases q:valV kvs k with
  |none=>rfl
  |some x=>rw[q] at a;exact(a rfl).elim
theorem zBL (kvs:List (κ × V)) (k:κ) (v:V):(putK kvs k v).length<=kvs.length+1:=by
 unfold putK;split
 ·rw[List.length_map];omega
 ·rw[List.length_append,List.length_cons,List.length_nil];omega
theorem RelO.isSome_eq {o:Option V}{u:Option Value}(r:RelO o u):o.isSome=u.isSome:=by
 cases o with
 |none=>cases u with
  |none=>rfl
  |some _=>exact(show False from r).elim
 |some _=>cases u with
  |none=>exact(show False from r).elim
  |some _=>rfl
theorem RelO.getD {o:Option V}{u:Option Value}{d:V}{d':Value}(r:RelO o u) (rd:RelV d d'):RelV (o.getD d) (u.getD d'):=by
 cases o with
 |none=>cases u with
  |none=>exact rd
  |some _=>exact(show False from r).elim
 |some _=>cases u with
  |none=>exact(show False from r).elim
  |some _=>exact r
theorem KV.val {kvs:List (κ × V)}{vs:List (κ × Value)}(r:KV kvs vs) (k:κ):RelO (valV kvs k) (valueAt vs k):=by
 unfold KV at r
 induction r with
 |nil=>exact True.intro
 | @cons p q ps qs h t ih =>
  obtain⟨h1,h2⟩:=h
  by_cases e:p.1=k
  ·have e':q.1=k:=h1.symm.trans e
   have b:valueAt (q::qs) k=some q.2:=by simp[valueAt,List.find?_cons,e']
   rw[zBN e,b];exact h2
  ·have e':¬q.1=k:=λ z=>e (h1.trans z)
   have b:valueAt (q::qs) k=valueAt qs k:=by simp[valueAt,List.find?_cons,e']
   rw[zBO e,b];exact ih
theorem KV.any {kvs:List (κ × V)}{vs:List (κ × Value)}(r:KV kvs vs) (k:κ):(kvs.any λ kv=>decide (kv.1=k))=vs.any λ kv=>decide (kv.1=k):=by
 unfold KV at r
 induction r with
 |nil=>rfl
 |cons h t ih=>rw[List.any_cons,List.any_cons,ih,h.1]
theorem KV.repl {kvs:List (κ × V)}{vs:List (κ × Value)}(r:KV kvs vs) (k:κ) {y:V}{u:Value}(ry:RelV y u) :
  KV (kvs.map λ kv=>if kv.1=k then (kv.1,y) else kv) (vs.map λ kv=>if kv.1=k then (kv.1,u) else kv):=by
 unfold KV at r ⊢
 induction r with
 |nil=>exact .nil
 | @cons p q ps qs h t ih =>
  rw[List.map_cons,List.map_cons];refine .cons ?_ ih;obtain⟨h1,h2⟩:=h
  by_cases e:p.1=k
  ·rw[if_pos e,if_pos (h1.symm.trans e)];exact⟨h1,ry⟩
  ·rw[if_neg e,if_neg (λ z=>e (h1.trans z))];exact⟨h1,h2⟩
theorem KV.put {kvs:List (κ × V)}{vs:List (κ × Value)}(r:KV kvs vs) (k:κ) {y:V}{u:Value}(ry:RelV y u):KV (putK kvs k y) (stored vs k u):=by
 unfold putK stored;rw[r.any k]
 by_cases e:(vs.any λ kv=>decide (kv.1=k))=true
 ·rw[if_pos e,if_pos e];exact r.repl k ry
 ·rw[if_neg e,if_neg e];exact Paired.snoc r ⟨rfl,ry⟩
theorem KV.length {kvs:List (κ × V)}{vs:List (κ × Value)}(r:KV kvs vs):kvs.length=vs.length:=Paired.length r
end
theorem kV_is {P:Program}{w:World}{k:Key}{u:Value}(r:RelV (kV k) u):(zAf P w).is k u=true:=by
 cases k with
 |inl i=>obtain⟨t,e⟩:=(show ∃t,u=Value.int i t from r);subst e;exact zGw P w i t
 |inr x=>obtain⟨t,e⟩:=(show ∃t,u=Value.str x t from r);subst e;exact zGv P w x t
theorem zGB {P:Program}{w:World}:∀{ks:List Key}{us:List Value},Vals (ks.map kV) us->ItemsAre (zAf P w) ks us
 |[],_,r=>by rw[List.map_nil] at r;cases r;exact .nil
 |k::ks,_,r=>by
  rw[List.map_cons] at r;cases r with
  |cons h t=>exact .cons (kV_is h) (zGB t)
abbrev KT (H:Hp):List (List Key × V)->List (List Key × Addr × Value)->Prop:=Paired λ p q=>p.1=q.1/\H q.2.1=some (.tup (p.1.map kV))/\RelV p.2 q.2.2
theorem KT.val {H:Hp}{kvs:List (List Key × V)}{xs:List (List Key × Addr × Value)}(r:KT H kvs xs) (k:List Key):RelO (valV kvs k) ((atKey xs k).map (·.2)):=by
 induction r with
 |nil=>exact True.intro
 | @cons p q ps qs h t ih =>
  obtain⟨h1,_,h2⟩:=h
  by_cases e:p.1=k
  ·have e':q.1=k:=h1.symm.trans e
   have b:atKey (q::qs) k=some q.2:=by simp[atKey,List.find?_cons,e']
   rw[zBN e,b];exact h2
  ·have e':¬q.1=k:=λ z=>e (h1.trans z)
   have b:atKey (q::qs) k=atKey qs k:=by simp[atKey,List.find?_cons,e']
   rw[zBO e,b];exact ih
theorem KT.repl {H:Hp}{kvs:List (List Key × V)}{xs:List (List Key × Addr × Value)}(r:KT H kvs xs) (k:List Key) {y:V}{u:Value}(ry:RelV y u) :
  KT H (kvs.map λ kv=>if kv.1=k then (kv.1,y) else kv) (xs.map (putAt k u)):=by
 induction r with
 |nil=>exact .nil
 | @cons p q ps qs h t ih =>
  rw[List.map_cons,List.map_cons];refine .cons ?_ ih;obtain⟨h1,h2,h3⟩:=h;unfold putAt
  by_cases e:p.1=k
  ·rw[if_pos e,if_pos (h1.symm.trans e)];exact⟨h1,h2,ry⟩
  ·rw[if_neg e,if_neg (λ z=>e (h1.trans z))];exact⟨h1,h2,h3⟩
theorem KT.put {H:Hp}{kvs:List (List Key × V)}{xs:List (List Key × Addr × Value)}(r:KT H kvs xs) (k:List Key) {b:Addr}{y:V}{u:Value}(hb:H b=some (.tup (k.map kV))) (ry:RelV y u) :
  KT H (putK kvs k y) (storedH xs k b u):=by
 have e:(kvs.any λ kv=>decide (kv.1=k))=(atKey xs k).isSome:=by
  rw[zDv,(r.val k).isSome_eq,Option.isSome_map]
 unfold putK storedH;rw[e]
 by_cases q:(atKey xs k).isSome=true
 ·rw[if_pos q,if_pos q];exact r.repl k ry
 ·rw[if_neg q,if_neg q];exact Paired.snoc r ⟨rfl,hb,ry⟩
theorem KT.keeps {H H':Hp}{kvs:List (List Key × V)}{xs:List (List Key × Addr × Value)}(r:KT H kvs xs) (ht:∀b ys,H b=some (.tup ys)->H' b=some (.tup ys)):KT H' kvs xs :=
 Paired.mapP r λ Ω Ω z=>⟨z.1,ht _ _ z.2.1,z.2.2⟩
section
variable {P:Program}{w:World}{H:Hp}{h:Heap}{a:Addr}
theorem rd_of {u:HO}(ok:HOk P w H h) (e:Rd H a u):ObjOk P w H h a u:=e.ok ok
theorem dk_rd {kvs:List (Key × V)}(ok:HOk P w H h) (e:Rd H a (.dK kvs)):kvs.length<=sizeLine/\(a == sysModules)=false/\∃vs,KV kvs vs/\h.DictOf (zAf P w) a vs :=
 show ObjOk P w H h a (.dK kvs) from rd_of ok e
theorem dk_of {kvs:List (Key × V)}(ok:HOk P w H h) (e:H a=some (.dK kvs)):kvs.length<=sizeLine/\(a == sysModules)=false/\∃vs,KV kvs vs/\h.DictOf (zAf P w) a vs:=dk_rd ok (.inl e)
theorem zEP {ks:List Key}(ok:HOk P w H h) (e:H a=some (.tup (ks.map kV))):(tupleKind (zAf P w)).is h ks a:=by
 obtain⟨_,its,r,o,h1,h2,n,h3⟩:=(show ObjOk P w H h a (.tup (ks.map kV)) from ok a _ e);exact⟨o,its.toArray,n,h1,h2,h3,by simpa using zGB r⟩
theorem dt_rd {kvs:List (List Key × V)}(ok:HOk P w H h) (e:Rd H a (.dT kvs)):kvs.length<=sizeLine/\(a == sysModules)=false /\
  ∃xs,KT H kvs xs/\h.DictOfH (tupleKind (zAf P w)) a xs:=by
 obtain⟨z,y,xs,r,o,es,ep,h1,h2,h3,h4,h5⟩:=(show ObjOk P w H h a (.dT kvs) from rd_of ok e);refine⟨z,y,xs,r,o,es,ep,h1,h2,h3,h4,λ x hx=>?_,h5⟩
 have all:∀{l:List (List Key × V)}{m:List (List Key × Addr × Value)},KT H l m->∀x∈m,(tupleKind (zAf P w)).is h x.1 x.2.1:=by
  intro l m q
  induction q with
  |nil=>intro x hx;exact nomatch hx
  | @cons p q ps qs hq t ih =>
   intro x hx;rcases lN.mp hx with e|hx
   ·subst e
    exact zEP ok (by rw[←hq.1];exact hq.2.1)
   ·exact ih x hx
 exact all r x hx
theorem dt_of {kvs:List (List Key × V)}(ok:HOk P w H h) (e:H a=some (.dT kvs)):kvs.length<=sizeLine/\(a == sysModules)=false /\
  ∃xs,KT H kvs xs/\h.DictOfH (tupleKind (zAf P w)) a xs:=dt_rd ok (.inl e)
end
noncomputable def DGet (H:Hp) (a:Addr) (y:V) (r:Option V):Prop :=
 (∃kvs k,Rd H a (.dK kvs)/\y=kV k/\r=valV kvs k)\/∃kvs k b,Rd H a (.dT kvs)/\y = .ref b/\H b=some (.tup (k.map kV))/\r=valV kvs k
noncomputable def DPut (H:Hp) (a:Addr) (y v:V) (H':Hp):Prop :=
 (∃kvs k,H a=some (.dK kvs)/\y=kV k/\kvs.length<sizeLine/\H'=upd H a (.dK (putK kvs k v))) \/
 ∃kvs k b,H a=some (.dT kvs)/\y = .ref b/\H b=some (.tup (k.map kV))/\kvs.length<sizeLine/\H'=upd H a (.dT (putK kvs k v))
theorem DGet.k {H:Hp}{a:Addr}{kvs:List (Key × V)}{k:Key}(e:H a=some (.dK kvs)):DGet H a (kV k) (valV kvs k):=.inl ⟨kvs,k,.inl e,rfl,rfl⟩
theorem DPut.k {H:Hp}{a:Addr}{kvs:List (Key × V)}{k:Key}{v:V}(e:H a=some (.dK kvs)) (hl:kvs.length<sizeLine):DPut H a (kV k) v (upd H a (.dK (putK kvs k v))):=.inl ⟨kvs,k,e,rfl,hl,rfl⟩
section
variable {X:Cx}{jP:List (Addr × Obj)}{σ:St}{H:Hp}{s:Shared}{a:Addr}{y v:V}{u r:Value}{o:Option V}{A:Around}{E:Value->Shared->Prop}
theorem Inv.big (I:Inv X jP σ H s):sysModules<s.heap.objs.size:=by
 have h:mainGlobals<s.heap.objs.size:=(I.mod.glob.keeps I.bk).lt;exact Nat.lt_trans (by decide) h
theorem zJm {Q:Value->Shared->Prop}(hu:A.units+1<cLine) (I:Inv X jP σ H s) (g:DGet H a y (some v)) (ry:RelV y u) (h:∀w' s',Inv X jP σ H s'->RelV v w'->Q w' s') :
  wpAny (model X.prog X.w) A (getItem (.ref a) u) Q E s:=by
 rcases g with ⟨kvs,k,e,ey,l⟩|⟨kvs,k,b,e,ey,eb,l⟩
 ·subst ey
  obtain⟨z,hd,vs,rel,dd⟩:=dk_rd I.hok e;obtain⟨w',hw,rw'⟩:=RelO.some_of (v:=v) (o:=valueAt vs k) (by rw[l];exact rel.val k);exact wpAny_getItem_of (kV_is ry) dd.mapOf hw (h w' _ (I.tok _) rw')
 ·subst ey
  cases (show u=Value.ref b from ry);obtain⟨z,hd,xs,rel,dd⟩:=dt_rd I.hok e;obtain⟨w',hw,rw'⟩:=RelO.some_of (v:=v) (o:=(atKey xs k).map (·.2)) (by rw[l];exact rel.val k);obtain⟨p,hp,hp2⟩:=lV.mp hw;refine wpAny_getItem_heap (tupleKind_room_in1 hu) (zEP I.hok eb) dd hp ?_;rw[hp2];exact h w' _ (I.tok _) rw'
theorem d_in {Q:Value->Shared->Prop}(hu:A.units+1<cLine) (I:Inv X jP σ H s) (g:DGet H a y o) (ry:RelV y u) (h:∀s',Inv X jP σ H s'->Q (.bool o.isSome) s') :
  wpAny (model X.prog X.w) A (compareOp .In u (.ref a)) Q E s:=by
 rcases g with ⟨kvs,k,e,ey,l⟩|⟨kvs,k,b,e,ey,eb,l⟩
 ·subst ey
  obtain⟨z,hd,vs,rel,dd⟩:=dk_rd I.hok e;refine wpAny_in_of (kV_is ry) hd dd.mapOf ?_;rw[←(rel.val k).isSome_eq,←l];exact h _ (I.tok _)
 ·subst ey
  cases (show u=Value.ref b from ry);obtain⟨z,hd,xs,rel,dd⟩:=dt_rd I.hok e;refine wpAny_in_heap (tupleKind_room_in1 hu) (zEP I.hok eb) hd dd ?_;have q:=(rel.val k).isSome_eq;rw[Option.isSome_map] at q;rw[←q,←l];exact h _ (I.tok _)
theorem zL1 {Q:Value->Shared->Prop}(hu:A.units+1<cLine) (I:Inv X jP σ H s) (g:DGet H a y o) (ry:RelV y u) (h:∀s',Inv X jP σ H s'->Q (.bool (!o.isSome)) s') :
  wpAny (model X.prog X.w) A (compareOp .NotIn u (.ref a)) Q E s:=by
 rcases g with ⟨kvs,k,e,ey,l⟩|⟨kvs,k,b,e,ey,eb,l⟩
 ·subst ey
  obtain⟨z,hd,vs,rel,dd⟩:=dk_rd I.hok e;refine wpAny_notIn_of (kV_is ry) hd dd.mapOf ?_;rw[←(rel.val k).isSome_eq,←l];exact h _ (I.tok _)
 ·subst ey
  cases (show u=Value.ref b from ry);obtain⟨z,hd,xs,rel,dd⟩:=dt_rd I.hok e;refine wpAny_notIn_heap (tupleKind_room_in1 hu) (zEP I.hok eb) hd dd ?_;have q:=(rel.val k).isSome_eq;rw[Option.isSome_map] at q;rw[←q,←l];exact h _ (I.tok _)
theorem zEW {h':Heap}{t':Nat}{ob:HO}(I:Inv X jP σ H s) (mu:Mut (H a)) (hs:Heap.SameBut a s.heap h') (he:∃q,h'.get? a=some q) (new:ObjOk X.prog X.w (upd H a ob) h' a ob) :
  Inv X jP σ (upd H a ob) { s with heap:=h',toks:=t' } :=
 I.write (x:=a) (e:=a) mu (.inl rfl) (λ b q hb z=>(hs.2 b hb).trans z) he new
theorem zE3 {P:Program}{w:World}{H':Hp}{h':Heap}{kvs:List (Key × V)}{vs:List (Key × Value)}(z:kvs.length<=sizeLine) (hd:(a == sysModules)=false) (rel:KV kvs vs) (dd:h'.DictOf (zAf P w) a vs) :
  ObjOk P w H' h' a (.dK kvs):=⟨z,hd,vs,rel,dd⟩
theorem zJl {H':Hp}{Q:Unit->Shared->Prop}(hu:A.units+1<cLine) (I:Inv X jP σ H s) (g:DPut H a y v H') (ry:RelV y u) (rv:RelV v r) (h:∀s',Inv X jP σ H' s'->Q () s') :
  wpAny (model X.prog X.w) A (setItem (.ref a) u r) Q E s:=by
 rcases g with ⟨kvs,k,e,ey,l,eH⟩|⟨kvs,k,b,e,ey,eb,l,eH⟩
 ·subst ey eH
  obtain⟨z,hd,vs,rel,dd⟩:=dk_of I.hok e;have hz:vs.length<=sizeLine:=by rw[←rel.length];exact z
  have hl:(putK kvs k v).length<=sizeLine:=by have:=zBL kvs k v;omega
  refine wpAny_setItem_pairs (hsz:=hz) (kV_is ry) dd λ h' dd' hs=>h _ ?_;have he:∃q,h'.get? a=some q:=let ⟨q,_,_,hq,_⟩:=dd';⟨q,hq⟩;exact zEW I (by rw[e];exact True.intro) hs he (zE3 hl hd (rel.put k rv) dd')
 ·subst ey eH
  cases (show u=Value.ref b from ry);obtain⟨z,hd,xs,rel,dd⟩:=dt_of I.hok e;have hz:xs.length<=sizeLine:=by rw[←Paired.length rel];exact z
  have hl:(putK kvs k v).length<=sizeLine:=by have:=zBL kvs k v;omega
  refine wpAny_setItem_heap (hsz:=hz) (tupleKind_room_in1 hu) (zEP I.hok eb) dd λ h' dd' hs=>h _ ?_;obtain⟨q,es,ep,hq,h2,h3,h4,_,h5⟩:=dd';refine zEW I (by rw[e];exact True.intro) hs ⟨q,hq⟩ ⟨hl,hd,_,(rel.put k eb rv).keeps λ c ys ec=>?_,q,es,ep,hq,h2,h3,h4,h5⟩;rw[zAL (ne_of ec e (λ z=>nomatch z))]
  exact ec
end
section
variable {X:Cx}{jP:List (Addr × Obj)}{σ:St}{H:Hp}{s:Shared}{a:Addr}{kvs:List (Key × V)}{k:Key}{u:Value}{A:Around}{E:Value->Shared->Prop}
theorem zL2 {Q:Value->Shared->Prop}(I:Inv X jP σ H s) (e:H a=some (.dK kvs)) (h:∀s',Inv X jP σ (upd H a (.dK [])) s'->Q .none s'):wpAny (model X.prog X.w) A (call (.builtin "dict.clear") [.ref a]) Q E s:=by
 obtain⟨z,hd,vs,rel,dd⟩:=dk_of I.hok e;refine call_meetsIn PySem.F.slot_dict_clear dd.typeIs PySem.F.entry_dict_clear (PySem.F.args_dict_clear_1 _) (meets_dict_clear (zAf X.prog X.w) a) ⟨vs,dd,by rw[←rel.length];exact z,λ h' dd' hs=>h _ ?_⟩;have he:∃q,h'.get? a=some q:=let ⟨q,_,_,hq,_⟩:=dd';⟨q,hq⟩;exact zEW (t':=s.toks) I (by rw[e];exact True.intro) hs he (zE3 (lY _) hd .nil dd')
theorem d_len {Q:Value->Shared->Prop}(I:Inv X jP σ H s) (e:Rd H a (.dK kvs)) (h:∀t s',Inv X jP σ H s'->Q (.int kvs.length t) s'):wpAny (model X.prog X.w) A (call (.builtin "len") [.ref a]) Q E s:=by
 obtain⟨z,hd,vs,rel,dd⟩:=dk_rd I.hok e;refine call_len_dict hd dd (by rw[←rel.length];rw[sizeLine_eq] at z;omega) ?_;rw[←rel.length];exact h _ _ (I.tok _)
end
noncomputable def NoSl (i:Expr):Prop:=∀ov iv,subscripted i false ov iv=operate [ov,iv] (getItem ov iv)
theorem zLR {prog:Program}{w:World}{A:Around}{E:Value->Shared->Prop}{s:Shared}{env:Env}{value slice:Expr}{pos:Pos}{T id:String}{Q:Value->Shared->Prop}
  (hl:typeLookup (.type T) "__getitem__" = pure (some (.builtin id))) (hs:NoSl slice)
  (h:wpAny (model prog w) A (eval value env) (λ o s₁=>wpAny (model prog w) A (eval slice env) (λ i s₂=>s₂.TypeIs o T/\wpAny (model prog w) A (getItem o i) Q E s₂) E s₁) E s) :
  wpAny (model prog w) A (eval (.Subscript value slice pos) env) Q E s:=by
 refine Subscript_ (wpAny_mono h (λ o s₁ h₁=>wpAny_mono h₁ (λ i s₂ h₂=>?_) λ Ω Ω x=>x) λ Ω Ω x=>x);obtain⟨hT,h₂⟩:=h₂;unfold subscriptTail;refine lA ?_;rw[getitemInPython_of_ne hT.not_modules];refine lA (wpAny_specialOf hT hl ?_)
 have fin:wpAny (model prog w) A (subscripted slice false o i) (λ r s₃=>wpAny (model prog w) A (letTemporaryGo value o r >>= λ Ω=>pure r) Q E s₃) E s₂:=by
  rw[hs o i];exact wpAny_operating (wpAny_mono h₂ (λ r s₃ h₃=>lA (wpAny_letTemporaryGo (lB h₃))) λ Ω Ω x=>x)
 first
  |exact lB (lA fin)
  |exact lA (lB (lA fin))
  |exact lA fin
theorem zG2 {X:Cx}{jP:List (Addr × Obj)}{σ:St}{H:Hp}{s:Shared}{a:Addr}{y:V}{o:Option V}(I:Inv X jP σ H s) (g:DGet H a y o):s.TypeIs (.ref a) "dict" := by
 rcases g with ⟨kvs,k,e,_,_⟩|⟨kvs,k,b,e,_,_,_⟩
 ·obtain⟨_,_,vs,_,dd⟩:=dk_rd I.hok e
  exact dd.typeIs
 ·obtain⟨_,_,xs,_,dd⟩:=dt_rd I.hok e
  exact dd.typeIs
noncomputable def tDGet (td ty:TE):TE:=λ σ H Q=>td σ H λ x H1=>ty σ H1 λ y H2=>∃a v,x = .ref a/\DGet H2 a y (some v)/\Q v H2
noncomputable def sDPut (td ty tv:TE):TS:=λ D σ H=>tv σ H λ v H1=>td σ H1 λ x H2=>ty σ H2 λ y H3=>∃a H4,x = .ref a/\DPut H3 a y v H4/\D.nx σ H4
section
variable {X:Cx}{o i e value:Expr}{pos pos' tpos:Pos}{td ty tv:TE}
theorem zC6 (hu:X.A.units+1<cLine) (ho:PE X o td) (hi:PE X i ty) (hs:NoSl i):PE X (.Subscript o i pos) (tDGet td ty):=by
 intro jP s σ H Q I h;refine zLR PySem.F.slot_dict_getitem.lookup hs (thn (ho jP s σ H _ I h) λ u s1 ⟨x,H1,I1,rx,q1⟩=>thn (hi jP s1 σ H1 _ I1 q1) λ iv s2 ⟨y,H2,I2,ry,a,v,ex,g,q2⟩=>?_);subst ex;obtain rfl:u=Value.ref a:=rx;exact⟨zG2 I2 g,zJm hu I2 g ry λ w' s3 I3 rw'=>⟨v,H2,I3,rw',q2⟩⟩
theorem zDZ (hu:X.A.units+1<cLine) (ho:PE X o td) (hi:PE X i ty) (hv:PE X value tv) (hs:swapsWith value (some (.Subscript o i pos')) pos.line X.env=pure false) :
  PS X (.Assign [.Subscript o i pos'] value pos) (sDPut td ty tv):=by
 intro jP s σ H D I h;refine wpAny_Assign_Subscript (thn (hv jP s σ H _ I h) λ r s1 ⟨v,H1,I1,rv,q1⟩=>thn (ho jP s1 σ H1 _ I1 q1) λ u s2 ⟨x,H2,I2,rx,q2⟩=>thn (hi jP s2 σ H2 _ I2 q2) λ iv s3 ⟨y,H3,I3,ry,a,H4,ex,g,q3⟩=>?_) hs;subst ex;obtain rfl:u=Value.ref a:=rx;exact zJl hu I3 g ry rv λ s4 I4=>⟨σ,H4,I4,q3⟩
end
theorem zKr {P:Program}{w:World}{H:Hp}(h:Heap) (hb:sysModules<h.objs.size):ObjOk P w H (h.push { cls:=.type "dict", data:=.dict #[] }) h.objs.size (.dK []) :=
 ⟨lY _,beq_eq_false_iff_ne.mpr (Ne.symm (lR hb)),[],.nil,Heap.DictOf.new h⟩
noncomputable def zL8:TE:=λ Ω H Q=>∀p,H p=none->Q (.ref p) (upd H p (.dK []))
section
variable {X:Cx}{pos:Pos}
theorem zCL:PE X (.Dict [] [] pos) zL8:=λ jP s σ H Q I h =>
 wpAny_Dict_empty ⟨.ref s.heap.objs.size,_,I.laid (a:=s.heap.objs.size) (o:=.dK []) (t':=s.toks) (λ Ω Ω q=>lE _ q) (lQ _) (zKr s.heap I.big),rfl,h _ (I.hok.fresh (lQ _))⟩
end
noncomputable def zAu (kvs more:List (Key × V)):List (Key × V):=more.foldl (λ acc kv=>putK acc kv.1 kv.2) kvs
theorem KV.merge:∀{more:List (Key × V)}{rs:List (Key × Value)}{kvs:List (Key × V)}{vs:List (Key × Value)},KV more rs->KV kvs vs->KV (zAu kvs more) (merged vs rs):=by
 intro more rs kvs vs r;unfold KV at r
 induction r generalizing kvs vs with
 |nil=>intro q;exact q
 | @cons p q ps qs h t ih =>
  intro r0
  have e:KV (putK kvs p.1 p.2) (stored vs q.1 q.2):=by
   have:=r0.put p.1 h.2;rw[←h.1];exact this
  exact ih e
theorem zBi:∀(more kvs:List (Key × V)),(zAu kvs more).length<=kvs.length+more.length
 |[],kvs=>by show kvs.length<=kvs.length+0;omega
 |p::r,kvs=>by
  have h1:=zBi r (putK kvs p.1 p.2);have h2:=zBL kvs p.1 p.2;show (zAu (putK kvs p.1 p.2) r).length<=_;rw[List.length_cons];omega
structure M1 (X:Cx) (o:Expr) (m:Str) (apos:Pos) (e:Expr) (cpos:Pos):Prop where
 base:attributeBase o m X.env (eval o X.env)=eval o X.env
 few:((backTo cpos (starEach [e] X.env)).all (λ x=>!x.1) && (backToKw cpos (keywordEach [] X.env)).all (λ x=>x.1.isSome)
  && decide (([e]:List Expr).length+([]:List Keyword).length+(if ([]:List Keyword).isEmpty then 0 else 1)<30))=true
 line:(apos.endLine == cpos.line)=true
 trees:backTo cpos (starEach [e] X.env)=[(false,eval e X.env)]
structure M2 (X:Cx) (o:Expr) (m:Str) (apos:Pos) (e f:Expr) (cpos:Pos):Prop where
 base:attributeBase o m X.env (eval o X.env)=eval o X.env
 few:((backTo cpos (starEach [e,f] X.env)).all (λ x=>!x.1) && (backToKw cpos (keywordEach [] X.env)).all (λ x=>x.1.isSome)
  && decide (([e,f]:List Expr).length+([]:List Keyword).length+(if ([]:List Keyword).isEmpty then 0 else 1)<30))=true
 line:(apos.endLine == cpos.line)=true
 trees:backTo cpos (starEach [e,f] X.env)=[(false,eval e X.env),(false,eval f X.env)]
noncomputable def IsD (H:Hp) (a:Addr):Prop:=(∃kvs,Rd H a (.dK kvs))\/∃kvs,Rd H a (.dT kvs)
theorem zLD {X:Cx}{jP:List (Addr × Obj)}{σ:St}{H:Hp}{s:Shared}{a:Addr}(I:Inv X jP σ H s) (d:IsD H a) :
  s.TypeIs (.ref a) "dict" /\ (∀b,Value.ref a = .ref b->∃ob,s.heap.get? b=some ob/\ob.dict=none)/\(a == sysModules)=false:=by
 rcases d with ⟨kvs,e⟩|⟨kvs,e⟩
 ·obtain⟨_,hd,vs,_,dd⟩:=dk_rd I.hok e
  refine⟨dd.typeIs,λ b q=>?_,hd⟩;cases q;obtain⟨ob,_,_,h1,h2,_⟩:=dd;exact⟨ob,h1,h2.2.1⟩
 ·obtain⟨_,hd,xs,_,dd⟩:=dt_rd I.hok e
  refine⟨dd.typeIs,λ b q=>?_,hd⟩;cases q;obtain⟨ob,_,_,h1,h2,_⟩:=dd;exact⟨ob,h1,h2.2.1⟩
section
variable {X:Cx}{jP:List (Addr × Obj)}{σ:St}{H:Hp}{s:Shared}{a:Addr}{y d:V}{u r:Value}{o:Option V}{A:Around}{E:Value->Shared->Prop}
theorem zMh {Q:Value->Shared->Prop}(hu:A.units+1<cLine) (I:Inv X jP σ H s) (g:DGet H a y o) (ry:RelV y u) (h:∀w' s',Inv X jP σ H s'->RelV (o.getD .non) w'->Q w' s') :
  wpAny (model X.prog X.w) A (call (.builtin "dict.get") [.ref a,u]) Q E s:=by
 rcases g with ⟨kvs,k,e,ey,l⟩|⟨kvs,k,b,e,ey,eb,l⟩
 ·subst ey
  obtain⟨z,hd,vs,rel,dd⟩:=dk_rd I.hok e;refine call_meetsIn PySem.F.slot_dict_get dd.typeIs PySem.F.entry_dict_get (PySem.F.args_dict_get_2 _ _) (meets_dict_get (zAf X.prog X.w) a (kV_is ry) hd) ⟨_,dd.mapOf,h _ _ (I.tok _) ?_⟩;rw[l];exact(rel.val k).getD rfl
 ·subst ey
  cases (show u=Value.ref b from ry);obtain⟨z,hd,xs,rel,dd⟩:=dt_rd I.hok e;refine call_meetsIn PySem.F.slot_dict_get dd.typeIs PySem.F.entry_dict_get (PySem.F.args_dict_get_2 _ _) (meetsH_dict_get (tupleKind (zAf X.prog X.w)) a b hd) ⟨tupleKind_room_in1 hu,k,xs,zEP I.hok eb,dd,h _ _ (I.tok _) ?_⟩;rw[l];exact(rel.val k).getD rfl
theorem zMg {Q:Value->Shared->Prop}(hu:A.units+1<cLine) (I:Inv X jP σ H s) (g:DGet H a y o) (ry:RelV y u) (rd:RelV d r) (h:∀w' s',Inv X jP σ H s'->RelV (o.getD d) w'->Q w' s') :
  wpAny (model X.prog X.w) A (call (.builtin "dict.get") [.ref a,u,r]) Q E s:=by
 rcases g with ⟨kvs,k,e,ey,l⟩|⟨kvs,k,b,e,ey,eb,l⟩
 ·subst ey
  obtain⟨z,hd,vs,rel,dd⟩:=dk_rd I.hok e;refine call_meetsIn PySem.F.slot_dict_get dd.typeIs PySem.F.entry_dict_get (PySem.F.args_dict_get_3 _ _ _) (meets_dict_get_default (zAf X.prog X.w) a (kV_is ry) hd r) ⟨_,dd.mapOf,h _ _ (I.tok _) ?_⟩;rw[l];exact(rel.val k).getD rd
 ·subst ey
  cases (show u=Value.ref b from ry);obtain⟨z,hd,xs,rel,dd⟩:=dt_rd I.hok e;refine call_meetsIn PySem.F.slot_dict_get dd.typeIs PySem.F.entry_dict_get (PySem.F.args_dict_get_3 _ _ _) (meetsH_dict_get_default (tupleKind (zAf X.prog X.w)) a b hd r) ⟨tupleKind_room_in1 hu,k,xs,zEP I.hok eb,dd,h _ _ (I.tok _) ?_⟩;rw[l];exact(rel.val k).getD rd
end
noncomputable def zMA (td ty:TE):TE:=λ σ H Q=>td σ H λ x H1=>∃a,x = .ref a/\IsD H1 a/\ty σ H1 λ y H2=>∃o,DGet H2 a y o/\Q (o.getD .non) H2
noncomputable def zL9 (td ty tx:TE):TE:=λ σ H Q=>td σ H λ x H1=>∃a,x = .ref a/\IsD H1 a/\ty σ H1 λ y H2=>tx σ H2 λ z H3=>∃o,DGet H3 a y o/\Q (o.getD z) H3
section
variable {X:Cx}{o e f:Expr}{apos cpos:Pos}{td ty tx:TE}
theorem zHY (hu:X.A.units+1<cLine) (ho:PE X o td) (he:PE X e ty) (m:M1 X o "get" apos e cpos):PE X (.Call (.Attribute o "get" apos) [e] [] cpos) (zMA td ty):=by
 intro jP s σ H Q I h;refine wpAny_Call_method m.base m.few m.line PySem.F.plainAttrs_dict PySem.F.slot_dict_get PySem.F.type_dict_get (thn (ho jP s σ H _ I h) λ u s1 ⟨x,H1,I1,rx,a,ex,d,q1⟩=>?_);subst ex;obtain rfl:u=Value.ref a:=rx;obtain⟨t1,t2,_⟩:=zLD I1 d;refine⟨t1,t2,?_⟩;rw[m.trees];refine Calls.callWith_builtin rfl (Calls.evalArgs_plain (Calls.spliced_cons (thn (he jP s1 σ H1 _ I1 q1) λ iv s2 ⟨y,H2,I2,ry,ov,g,q2⟩=>Calls.spliced_nil ?_)));exact zMh hu I2 g ry λ w' s3 I3 rw'=>⟨_,H2,I3,rw',q2⟩
theorem zKI (hu:X.A.units+1<cLine) (ho:PE X o td) (he:PE X e ty) (hf:PE X f tx) (m:M2 X o "get" apos e f cpos):PE X (.Call (.Attribute o "get" apos) [e,f] [] cpos) (zL9 td ty tx):=by
 intro jP s σ H Q I h;refine wpAny_Call_method m.base m.few m.line PySem.F.plainAttrs_dict PySem.F.slot_dict_get PySem.F.type_dict_get (thn (ho jP s σ H _ I h) λ u s1 ⟨x,H1,I1,rx,a,ex,d,q1⟩=>?_);subst ex;obtain rfl:u=Value.ref a:=rx;obtain⟨t1,t2,_⟩:=zLD I1 d;refine⟨t1,t2,?_⟩;rw[m.trees]
 refine Calls.callWith_builtin rfl (Calls.evalArgs_plain (Calls.spliced_cons (thn (he jP s1 σ H1 _ I1 q1) λ iv s2 ⟨y,H2,I2,ry,q2⟩ =>
  Calls.spliced_cons (thn (hf jP s2 σ H2 _ I2 q2) λ fv s3 ⟨z,H3,I3,rz,ov,g,q3⟩=>Calls.spliced_nil ?_))))
 exact zMg hu I3 g ry rz λ w' s4 I4 rw'=>⟨_,H3,I4,rw',q3⟩
end
section
variable {X:Cx}{jP:List (Addr × Obj)}{σ:St}{H:Hp}{s:Shared}{a:Addr}{kvs:List (Key × V)}{A:Around}{E:Value->Shared->Prop}
end
section
variable {X:Cx}{jP:List (Addr × Obj)}{σ:St}{H:Hp}{s:Shared}{a:Addr}{y:V}{u:Value}{A:Around}{E:Value->Shared->Prop}
end
end L2
namespace Att
open PySem PySem.W PySem.Calls PyProof.Rows
theorem zEQ {P:Params}{h:Heap}:∀(ns:List Int) (vs:List Value),WellAll P h vs (ns.map WData.int)->IntsAre vs ns:=by
 intro ns
 induction ns with
 |nil =>
  intro vs w;rw[List.map_nil] at w;cases w;exact .nil
 |cons n ns ih =>
  intro vs w;rw[List.map_cons] at w;cases w with
  |cons a b =>
   cases a;exact .cons _ _ (ih _ b)
theorem zIo {l:OpenLaw}{n:Nat}(hn:l.most=some n) {P:Params}{h:Heap}{args:List WData}{vals:List Value}
    (hpre:l.row.toRowW.claim.pre args=true) (hwl:WellAll P h vals args) :
    ∃a vs ns,vals=[Value.ref a]/\args=[WData.list (ns.map WData.int)]/\h.get? a=some { cls:=.type "list", data:=.seq vs.toArray }/\IntsAre vs ns/\ns.length<=n:=by
  have hsh:WShape.hasAll [] args [.list .int]=true:=(pre_splitW hpre).1;have hc:l.pre.holds [] { args:=args }=true:=(pre_splitW hpre).2;obtain⟨d,r,rfl,h1,h2⟩:=hasAllW_cons hsh;obtain rfl:=hasAllW_nil h2;obtain⟨xs,rfl,h3⟩:=hasW_list h1;obtain⟨ns,rfl⟩:=items_int h3
  have hlen:ns.length<=n:=by
    unfold OpenLaw.pre at hc
    have h4:(WTm.not (.lt (.lit (.int (n:Int))) (.len (.arg 0)))).holds [] { args:=[.list (ns.map .int)] }=true:=by
      have h4:=(holds_andW hc).1;rw[hn] at h4;exact h4
    have h5:=condW_of h4 (w_not (w_lt w_lit (w_len_list (w_arg rfl))));rw[List.length_map] at h5;refine Nat.le_of_not_lt λ q=>?_;have q':(n:Int)<((ns.length:Nat):Int):=by omega
    first
      | (rw[decide_eq_true q'] at h5;exact absurd h5 (by decide))
      | (simp at h5;omega)
  cases hwl with
  |cons w1 w2 =>
    cases w2;cases w1 with
    |list ho hall=>exact⟨_,_,ns,rfl,rfl,ho,zEQ ns _ hall,hlen⟩
theorem zIv (l:OpenLaw) (args:List WData):l.row.toRowW.claim.post args (.bool true) args=true :=
  postW_of (r:=l.row.toRowW) (X:=(true == true))
    (show WShape.has [] (.bool true) .bool=true by first|rfl|decide|simp[WShape.has,WShape.arms,WShape.armsAll])
    (show (WTm.eq .res (.lit (.bool true))).value [] { args:=args,res:=some (.bool true),after:=args }=some (.bool (true == true)) from w_eq_bool (w_res rfl) w_lit) rfl
theorem attach_call {l:OpenLaw}{n:Nat}{q:Program}{loose:List Str}{XP:(Str->Option Value)->Heap->Prop}{YP:World->Heap->Prop}{d:DefRec}
  (hn:l.most=some n) (hdf:d.params.defaults=[])
  (call:∀(w:World) (s₀ s₁:Shared) (mg mb:Str->Option Value) (fa:Addr) (o:Obj) (pm cd doc:Value) (a:Addr) (vs:List Value) (ns:List Int),
   Ground q loose [] XP w s₀ mg mb s₁.heap->YP w s₁.heap ->
   s₁.heap.get? fa=some o->o.data = .func (docDef d.name d.params d.body d.scope pm cd doc)->s₁.heap.CodeRec cd d.name->mg d.name=some (.ref fa) ->
   s₁.heap.get? a=some { cls:=.type "list", data:=.seq vs.toArray }->IntsAre vs ns->ns.length<=n->s₁.gens=#[] ->
   codeAny (model l.prog w) callerA (.call (.ref fa) ⟨[.ref a],[]⟩) (λ r s'=>r = .ok (.ret (.bool true))/\OldK s₁.heap s'.heap/\s'.os=s₁.os/\AllBare s'.gens) s₁) :
  WalkO q loose XP YP l.row.toRowW d [] (λ f vs=>PySem.call f vs):=by
 intro w s₀ s₁ mg mb G Y fa o pm cd doc dV kV ho hd hcd hD hmg hg args vals as hpre hlay hrd hwl hlo;obtain rfl:dV = .none:=Dflts.none hD hdf;obtain rfl:kV = .none:=Dflts.noKw hD;obtain⟨a,vs,ns,rfl,rfl,hobj,hints,hlen⟩:=zIo hn hpre hwl;refine enter_call (codeAny_mono (call w s₀ s₁ mg mb fa o pm cd doc a vs ns G Y ho (fd_plain hd) hcd hmg hobj hints hlen hg) λ r s' hq=>?_);obtain⟨rfl,h2,h3,h4⟩:=hq;exact⟨.inl ⟨.bool true,.bool true,[],rfl,λ Ω=>rfl,.bool true,zIv l _,λ Ω=>⟨List.Pairwise.nil,λ Ω hm=>(nomatch hm)⟩⟩,h2,h3,h4⟩
section
variable {prog:Program}{w:World}{A:Around}{E:Value->Shared->Prop}{s:Shared}{K:Frag}
end
end Att
namespace L2
open PySem PySem.Spec PyProof.Rows
theorem zFe {vs:List Value}{ns:List Int}(h:IntsAre vs ns):Vals (ns.map V.int) vs:=by
 induction h with
 |nil=>exact .nil
 |cons n t h ih=>exact .cons ⟨t,rfl⟩ ih
noncomputable def Only (H:Hp):Prop:=∀b,H b=none\/∃o xs,H b=some (.frz o (.lst xs))
theorem zKe {P:Program}{w:World}{K:W.Frag}{mg mb:Str->Option Value}{CX:CXT}{k:Nat}{fa a:Addr}{fd:FuncData}{x:Str}{sp:Sp}{s₁:Shared}{vs:List Value}{ns:List Int}
  (KX:K.In s₁.heap) (hns:s₁.heap.Ns mainGlobals mg) (hb:s₁.heap.Ns builtinsNs mb) (hbb:∀x:Str,x ≠ "__name__" -> mb x=bootBuiltins x) (hlim:s₁.heap.NoLimit) (hg:s₁.gens=#[])
  (ha:s₁.heap.get? a=some { cls:=.type "list", data:=.seq vs.toArray }) (hi:IntsAre vs ns) (hl:ns.length<=sizeLine) (hr:Room k callerA)
  (F:∀base:Heap,K.In base->base.Ns mainGlobals mg->FnOk P w K mg base CX k fa fd [x] sp) (hbind:∀(s:Shared) (u:Value),BindsTo s fd ⟨[u],[]⟩ [(x,u)])
  (hsp:∀H:Hp,Only H->SqL K H a (ns.map V.int)->sp [.ref a] H (λ v Ω=>v = .bl true) λ Ω Ω Ω=>False)
  (hCX:∀H e s',CX [] H s₁ (λ Ω Ω Ω=>False) e s'->False) :
  codeAny (model P w) callerA (.call (.ref fa) ⟨[.ref a],[]⟩) (λ r s'=>r = .ok (.ret (.bool true))/\OldK s₁.heap s'.heap/\s'.os=s₁.os/\AllBare s'.gens) s₁:=by
 have rv:=zFe hi;have lenV:=hi.length
 have core:∀H:Hp,Only H->SqL K H a (ns.map V.int)->HOk P w H s₁.heap->(∀b,H b≠none->b=a)->(H a≠none->K.lookup a=none) ->
   codeAny (model P w) callerA (.call (.ref fa) ⟨[.ref a],[]⟩) (λ r s'=>r = .ok (.ret (.bool true))/\OldK s₁.heap s'.heap/\s'.os=s₁.os/\AllBare s'.gens) s₁:=by
  intro H hO hS hok hA hK;have base_of:∀{b:Addr}{o:Obj},s₁.heap.get? b=some o->H b=none->(hidT s₁.heap H).get? b=some o:=λ e n=>zKh e n
  have noA:∀{b:Addr}{o:Obj}{es:Array DictEntry}{ep:Nat},s₁.heap.get? b=some o->o.data = .dict es ep->H b=none:=λ{b o es ep} e d=>by
   cases q:H b with
   |none=>rfl
   |some u =>
    have e':b=a:=hA b (by rw[q];simp);subst e';rw[ha] at e;cases e;have d':Data.seq vs.toArray _=Data.dict es ep:=d;cases d'
  have nsK:∀{b:Addr}{m:Str->Option Value},s₁.heap.Ns b m->(hidT s₁.heap H).Ns b m:=λ{b m} ⟨o,es,ep,e,d,r⟩=>⟨o,es,ep,base_of e (noA e d),d,r⟩
  have hKb:K.In (hidT s₁.heap H):=λ b o e=>base_of (KX b o e) (by
   cases q:H b with
   |none=>rfl
   |some u =>
    have e':b=a:=hA b (by rw[q];simp);subst e';rw[hK (by rw[q];simp)] at e;cases e)
  have hM:Mod K mg (hidT s₁.heap H):=⟨hKb,nsK hns,⟨mb,nsK hb,hbb⟩,let ⟨mc,h1,h2⟩:=hlim;⟨mc,nsK h1,h2⟩⟩;have e0:Env0 P w K mg (hidT s₁.heap H) callerA [] s₁ H:=⟨rfl,hM,λ b o e=>zLn e,Nat.le_of_eq (zJZ _ _),trivial,λ b hb=>absurd (show b∈([]:List Addr) from hb) (by simp),hok,.of_eq hg⟩;refine codeAny_mono ((F _ hKb (nsK hns)).run callerA [] s₁ H ⟨[.ref a],[]⟩ [.ref a] [.ref a] _ _ hr e0 (hbind s₁ (.ref a)) (.cons rfl .nil) (hsp H hO hS)) λ r s' h=>?_;cases r with
  |error e=>exact(hCX H e s' h).elim
  |ok fl =>
   cases fl with
   |next=>exact False.elim h
   |brk=>exact False.elim h
   |cont=>exact False.elim h
   |ret u =>
    obtain⟨v,H',os,bare,un,hok',r',q⟩:=h;have q':v = .bl true:=q;subst q';obtain rfl:u=Value.bool true:=r';refine⟨rfl,OldK.of_keep λ b o e=>?_,os,bare⟩;cases q:H b with
    |none=>exact un.keep b o e q (by intro z;exact absurd (show b∈([]:List Addr) from z) (by simp)) (by simp)
    |some u =>
     rcases hO b with z|⟨ob,xs,z⟩
     ·rw[q] at z;cases z
     ·have z2:=un.frzs b ob _ z
      obtain⟨e1,_⟩:=hok b _ z;obtain⟨e2,_⟩:=hok' b _ z2;rw[e] at e1;cases e1;exact e2
 cases hk:K.lookup a with
 |some o =>
  have e:=KX a o hk;rw[ha] at e;cases e;refine core (λ Ω=>none) (λ Ω=>.inl rfl) (.inr ⟨_,vs.toArray,_,hk,rfl,rfl,rfl,by rw[List.size_toArray,lenV];exact hl,by simpa using rv⟩) (λ b u z=>by have z':(none:Option HO)=some u:=z;cases z') (λ b z=>absurd rfl z) λ z=>absurd rfl z
 |none =>
  refine core (λ b=>if b=a then some (.frz { cls:=.type "list", data:=.seq vs.toArray } (.lst (ns.map V.int))) else none) (λ b=>?_) (.inl (.inr ⟨{ cls:=.type "list", data:=.seq vs.toArray },if_pos rfl⟩)) (λ b u z=>?_) (λ b z=>?_) λ Ω=>hk
  ·by_cases hb:b=a
   ·exact .inr ⟨_,_,if_pos hb⟩
   ·exact .inl (if_neg hb)
  ·by_cases hb:b=a
   ·have z':=(if_pos hb).symm.trans z
    cases z';subst hb;exact⟨ha,by rw[List.length_map];exact hl,vs,_,rv,ha⟩
   ·have z':=(if_neg hb).symm.trans z
    cases z'
  ·by_cases hb:b=a
   ·exact hb
   ·exact absurd (if_neg hb) z
theorem walk_of {l:W.OpenLaw}{n k:Nat}{q:Program}{loose:List Str}{XP:(Str->Option Value)->Heap->Prop}{YP:World->Heap->Prop}{d:DefRec}{K:Params->W.Frag}{CX:World->CXT}{sp:World->Sp}{x:Str}
  (hn:l.most=some n) (hn2:n<=sizeLine) (hdf:d.params.defaults=[]) (hr:Room k callerA)
  (hY:∀(w:World) (h:Heap),YP w h->(K w.params).In h)
  (F:∀(w:World) (mg:Str->Option Value) (fa:Addr) (h:Heap),(K w.params).In h->h.Ns mainGlobals mg->mg d.name=some (.ref fa) ->
   ∃fd:FuncData,(∀(s:Shared) (u:Value),BindsTo s fd ⟨[u],[]⟩ [(x,u)]) /\
    ∀base:Heap,(K w.params).In base->base.Ns mainGlobals mg->FnOk l.prog w (K w.params) mg base (CX w) k fa fd [x] (sp w))
  (hsp:∀(w:World) (H:Hp) (a:Addr) (ns:List Int),ns.length<=n->Only H->SqL (K w.params) H a (ns.map V.int)->sp w [.ref a] H (λ v Ω=>v = .bl true) λ Ω Ω Ω=>False)
  (hCX:∀(w:World) (H:Hp) (s:Shared) (e:Value) (s':Shared),CX w [] H s (λ Ω Ω Ω=>False) e s'->False) :
  W.WalkO q loose XP YP l.row.toRowW d [] (λ f vs=>PySem.call f vs):=by
 refine Att.attach_call hn hdf λ w s₀ s₁ mg mb fa o pm cd doc a vs ns G Y ho hd hcd hmg hobj hints hlen hg=>?_;have KX:=hY w _ Y;obtain⟨fd,hb,hF⟩:=F w mg fa _ KX G.T.g hmg;exact zKe KX G.T.g G.T.b G.T.builtins G.T.nolimit hg hobj hints (mG hlen hn2) hr hF hb (λ H hO hS=>hsp w H a ns hlen hO hS) λ H e s'=>hCX w H s₁ e s'
noncomputable def zBC (s:Stmt):Arguments:=match s with
 |.FunctionDef _ a _ _ _ _ _ _ _ _=>a
 |_=>{ posonlyargs:=[],args:=[],vararg:=none,kwonlyargs:=[],kw_defaults:=[],kwarg:=none,defaults:=[] }
noncomputable def zA0 (s:Stmt):List Stmt:=match s with
 |.FunctionDef _ _ b _ _ _ _ _ _ _=>b
 |_=>[]
noncomputable def zAG (s:Stmt):Scope:=match s with
 |.FunctionDef _ _ _ _ _ _ sc _ _ _=>sc
 |_=>{ kind:=.function,names:=[],isGenerator:=false,isCoroutine:=false }
abbrev CX0:CXT:=λ Ω Ω Ω Ω Ω Ω=>False
abbrev E0:XK:=λ Ω Ω Ω=>False
theorem pass0 {X:Cx}:zE7 CX0 X E0:=λ Ω Ω Ω Ω Ω Ω Ω h=>h.elim
structure Fun (K:W.Frag) (x qual:Str) (st:Stmt) (f:Addr) (fd:FuncData):Prop where
 ex:∃(oc:Value) (od:Option Addr) (kV doc pm:Value) (an:Option Addr) (cdv ct:Value) (osl:Array (Option Value)),
  fd=W.fnOf x qual (zBC st) (zA0 st) (zAG st) .none kV doc pm an cdv ct/\K.lookup f=some ⟨oc,od,.func fd,osl⟩/\W.codeIn K cdv qual=true
 kp:W.keepIn K (.ref f)=true
section
variable {P:Program}{w:World}{K:W.Frag}{mg:Str->Option Value}{base:Heap}
theorem Fun.ok {x qual:Str}{st:Stmt}{f:Addr}{fd:FuncData}{N ps:List Str}{k:Nat}{sp:Sp}(F:Fun K x qual st f fd) (S:zAR N ps (zAG st)) (len:∀vs H Q E,sp vs H Q E->vs.length=ps.length)
  (hbody:∀(cdv:Value) (A:Around) (outer:List Env) (s:Shared) (H:Hp) (vs:List V) (Q:VK) (E:XK),Room k (A.deeper (envOfC qual (zAG st) s.heap.objs.size f cdv))->sp vs H Q E ->
   ∃t,PSs (cxOf CX0 P w K mg base N qual (zAG st) f cdv A outer s H E).nox (zA0 st) t/\t { nx:=λ Ω H'=>Q .non H',rt:=Q } (start N vs) H):FnOk P w K mg base CX0 (k+1) f fd ps sp:=by
 obtain⟨oc,od,kV,doc,pm,an,cdv,ct,osl,rfl,lk,hcd⟩:=F.ex;refine fn_of lk hcd S len λ A outer s H vs Q E hr hsp=>?_;obtain⟨t,h,q⟩:=hbody cdv A outer s H vs Q E hr hsp;exact⟨t,h.nox,q⟩
theorem Fun.binds {x qual:Str}{st:Stmt}{f:Addr}{fd:FuncData}{ps:List Str}(F:Fun K x qual st f fd)
  (h:∀(kV doc pm:Value) (an:Option Addr) (cdv ct:Value) (us:List Value),us.length=ps.length->bindArgs (W.fnOf x qual (zBC st) (zA0 st) (zAG st) .none kV doc pm an cdv ct) ⟨us,[]⟩=pure (ps.zip us)):Binds K fd ps []:=by
 obtain⟨oc,od,kV,doc,pm,an,cdv,ct,osl,rfl,lk,hcd⟩:=F.ex;exact .all (h kV doc pm an cdv ct)
theorem zLE {x qual:Str}{st:Stmt}{f:Addr}{oc:Value}{od an:Option Addr}{osl:Array (Option Value)}{kV doc pm cdv ct:Value}(l:K.lookup f=some ⟨oc,od,.func (W.fnOf x qual (zBC st) (zA0 st) (zAG st) .none kV doc pm an cdv ct),osl⟩)
  (c:W.codeIn K cdv qual=true) (k:W.keepIn K (.ref f)=true):Fun K x qual st f (W.fnOf x qual (zBC st) (zA0 st) (zAG st) .none kV doc pm an cdv ct):=⟨⟨oc,od,kV,doc,pm,an,cdv,ct,osl,rfl,l,c⟩,k⟩
end
theorem hu_of {A:Around}{k:Nat}(hr:Room k A):A.units+1<cLine:=Nat.lt_of_le_of_lt (Nat.add_le_add_left (by decide:1<=64) _) hr.units
theorem zAS {n:Nat}(h:n<=1000):n<sizeLine:=Nat.lt_of_le_of_lt h (by decide)
section
variable {X:Cx}
theorem pv (i:Nat) {x:Str}{pos:Pos}(hN:X.N[i]?=some x:=by rfl) (hv:Vis X.env.scope x:=by first|exact Or.inl rfl|exact Or.inr (Or.inl rfl)|exact Or.inr (Or.inr rfl)) (hd:(x == ("__debug__" : Str))=false:=by decide)
  (hcd:(x == ("__classdict__" : Str))=false:=by decide):PE X (.Name x pos) (tVar i):=zMN hN hv hd hcd
end
theorem iteF {A B:Prop}(h:B):if false=true then A else B:=by
 rw[if_neg Bool.false_ne_true];exact h
theorem iteT {A B:Prop}(h:A):if true=true then A else B:=by
 rw[if_pos rfl];exact h
theorem ite2 {c A B:Prop} [Decidable c] (h1:c->A) (h2:¬c->B):if c then A else B:=by
 by_cases h:c
 ·rw[if_pos h]
  exact h1 h
 ·rw[if_neg h]
  exact h2 h
noncomputable def Same (H H':Hp):Prop:=∀b o,H b=some o->H' b=some o
theorem Same.refl (H:Hp):Same H H:=λ Ω Ω h=>h
theorem Same.trans {H H1 H2:Hp}(a:Same H H1) (b:Same H1 H2):Same H H2:=λ c o h=>b c o (a c o h)
theorem Same.free {H H':Hp}(e:Same H H') {l:Addr}(h:H' l=Option.none):H l=Option.none:=by
 cases q:H l with
 |none=>rfl
 |some o =>
  rw[e l o q] at h;cases h
theorem Same.seq {K:W.Frag}{H H':Hp}{a:Addr}{xs:List V}(e:Same H H') (h:SqL K H a xs):SqL K H' a xs:=by
 rcases h with (h|⟨o,h⟩)|h
 ·exact .inl (.inl (e _ _ h))
 ·exact .inl (.inr ⟨o,e _ _ h⟩)
 ·exact .inr h
section
variable {κ:Type} [DecidableEq κ]
end
end L2
set_option maxHeartbeats 4000000
namespace L2
open PySem PySem.Spec PyProof.Rows
abbrev NoX:Value->Shared->Prop:=λ Ω Ω=>False
theorem noX {al:Type}{t:Sem al}{Q:al->Shared->Prop}{M:Model}{A:Around}{E:Value->Shared->Prop}{s:Shared}(h:wpAny M A t Q NoX s):wpAny M A t Q E s :=
 wpAny_mono h (λ Ω Ω q=>q) λ Ω Ω z=>z.elim
noncomputable def capSt (cap:List (Option Nat)) (σ:St):St:=cap.map λ o=>match o with
 |none=>none
 |some j=>(σ[j]?).join
inductive Ext:St->St->Prop
 |nil:Ext [] []
 |skip {a b:St}{x:Option V}:Ext a b->Ext (none::a) (x::b)
 |keep {a b:St}{x:Option V}:Ext a b->Ext (x::a) (x::b)
theorem Ext.len {a b:St}(h:Ext a b):a.length=b.length:=by
 induction h with
 |nil=>rfl
 |skip _ ih=>simp[ih]
 |keep _ ih=>simp[ih]
theorem Ext.get {a b:St}(h:Ext a b):∀(i:Nat) v,a[i]?=some (some v)->b[i]?=some (some v):=by
 induction h with
 |nil=>intro i v e;simp at e
 |skip _ ih =>
  intro i v e;cases i with
  |zero=>simp at e
  |succ i=>simpa using ih i v (by simpa using e)
 |keep _ ih =>
  intro i v e;cases i with
  |zero=>simpa using e
  |succ i=>simpa using ih i v (by simpa using e)
noncomputable def Cx.block (X:Cx) (sc:Scope) (cl:List (Str × Addr)) (N:List Str) (s:Shared) (H:Hp) (C:Addr) (ex:List Addr):Cx where
 prog:=X.prog
 w:=X.w
 K:=X.K
 mg:=X.mg
 base:=X.base
 A:=X.A
 N:=N
 s₀:=s
 H₀:=H
 env:=compEnvC sc cl C X.env
 outer:=X.stack
 stack:=X.stack
 ex:=ex
 fn:=λ Ω=>false
 calm:=X.calm
 pn:=[]
 xe:=NoX
theorem zDh {env:Env}:∀(names:List (Str × NameKind)) (cs:List (Str × Addr)),(∀n,(n,NameKind.free)∈names->∃c,env.cells.lookup n=some c) ->
  (∀x c,cs.lookup x=some c->env.cells.lookup x=some c) ->
  ∃cl:List (Str × Addr),(forIn names cs λ(x:Str × NameKind) (r:List (Str × Addr))=>(if (x.2 == NameKind.free)=true then do let c ← cellOf env x.1;pure (ForInStep.yield ((x.1,c)::r)) else pure (ForInStep.yield r)):Sem (List (Str × Addr)))=pure cl /\
   (∀x c,cl.lookup x=some c->env.cells.lookup x=some c)/\(∀n,(n,NameKind.free)∈names->∃c,cl.lookup n=some c)/\(∀n c,cs.lookup n=some c->∃c,cl.lookup n=some c)
 |[],cs,_,hc=>⟨cs,rfl,hc,λ Ω h=>(nomatch h),λ n c e=>⟨c,e⟩⟩
 | (n,k)::r,cs,h,hc=>by
  by_cases hk:k = .free
  ·subst hk
   obtain⟨c,ec⟩:=h n lO
   have hc':∀x c',((n,c)::cs).lookup x=some c'->env.cells.lookup x=some c':=λ x c' e=>by
    rw[List.lookup_cons] at e;cases hx:x == n with
    |true=>rw[hx] at e;cases e;rw[eq_of_beq hx];exact ec
    |false=>rw[hx] at e;exact hc x c' e
   obtain⟨cl,e1,e2,e3,e4⟩:=zDh r ((n,c)::cs) (λ m hm=>h m (lP _ hm)) hc';refine⟨cl,?_,e2,λ m hm=>?_,λ m c' e=>?_⟩
   ·rw[List.forIn_cons,←e1]
    simp only[beq_self_eq_true,if_true,cellOf,ec];rfl
   ·rcases lN.mp hm with z|z
    ·cases z
     exact e4 n c (by simp)
    ·exact e3 m z
   ·by_cases hm:m=n
    ·subst hm;exact e4 m c (by simp)
    ·exact e4 m c' (by rw[List.lookup_cons,beq_eq_false_iff_ne.mpr hm];exact e)
  ·have hb:(k == NameKind.free)=false:=by simpa using hk
   obtain⟨cl,e1,e2,e3,e4⟩:=zDh r cs (λ m hm=>h m (lP _ hm)) hc;refine⟨cl,?_,e2,λ m hm=>?_,e4⟩
   ·rw[List.forIn_cons,←e1]
    simp only[hb,Bool.false_eq_true,if_false];rfl
   ·rcases lN.mp hm with z|z
    ·cases z;exact absurd rfl hk
    ·exact e3 m z
theorem zE4 {sc:Scope}{env:Env}(h:∀n,(n,NameKind.free)∈sc.names->∃c,env.cells.lookup n=some c) :
  ∃cl:List (Str × Addr),closureFor sc env=pure cl/\(∀x c,cl.lookup x=some c->env.cells.lookup x=some c)/\(∀n,(n,NameKind.free)∈sc.names->∃c,cl.lookup n=some c):=by
 obtain⟨cl,e1,e2,e3,_⟩:=zDh (env:=env) sc.names [] h (λ x c e=>by simp at e);refine⟨cl,?_,e2,e3⟩;unfold closureFor;rw[←bind_pure (pure cl),←e1]
theorem zDe {names:List (Str × NameKind)}{x:Str}{k:NameKind}(h:names.lookup x=some k):(x,k)∈names:=by
 induction names with
 |nil=>simp at h
 |cons p r ih =>
  obtain⟨n,j⟩:=p;rw[List.lookup_cons] at h;cases hx:x == n with
  |true=>rw[hx] at h;cases h;rw[eq_of_beq hx];exact lO
  |false=>rw[hx] at h;exact lP _ (ih h)
set_option tactic.hygienic true in
theorem zDp {sc:Scope}{env:Env}{x:Str}{k:NameKind}(hk:k = .cell\/k = .free) (nc:∀y∈sc.names,y.2 ≠ .cell) (h:(relabel sc env).names.lookup x=some k):(x,NameKind.free)∈sc.names:=by
 have m:=zDe h;obtain⟨⟨n,j⟩,hm,e⟩:=mC.mp m;have q:(if (j == NameKind.free && env.scope.kind == .function && env.kindOf n == some .cell)=true then (n,NameKind.cell) else (n,j))=(x,k):=e;split at q
 ·rename_i c
  rw[Bool.and_eq_true,Bool.and_eq_true] at c;have j':j = .free:=by simpa using c.1.1
  cases q;rw[j'] at hm;exact hm
 ·cases q
  rcases hk with z|z
  ·exact absurd z (nc _ hm)
  ·rw[z] at hm;exact hm
theorem zBK {sc:Scope}{env:Env}{x:Str}:∀{names:List (Str × NameKind)},names.lookup x=some .free ->
  (names.map λ(n,k)=>if (k == NameKind.free && env.scope.kind == .function && env.kindOf n == some .cell) then (n,NameKind.cell) else (n,k)).lookup x=some .cell \/
  (names.map λ(n,k)=>if (k == NameKind.free && env.scope.kind == .function && env.kindOf n == some .cell) then (n,NameKind.cell) else (n,k)).lookup x=some .free
 |[],h=>by simp at h
 | (n,k)::r,h=>by
  have ih:=@zBK sc env x r;rw[List.lookup_cons] at h
  by_cases c:(k == NameKind.free && env.scope.kind == .function && env.kindOf n == some .cell)=true
  ·rw[List.map_cons]
   simp only[c,if_true,List.lookup_cons];cases hx:x == n with
   |true=>exact .inl rfl
   |false=>rw[hx] at h;exact ih h
  ·rw[List.map_cons]
   have c':=Bool.eq_false_iff.mpr c;simp only[c',Bool.false_eq_true,if_false,List.lookup_cons];cases hx:x == n with
   |true=>rw[hx] at h;cases h;exact .inr rfl
   |false=>rw[hx] at h;exact ih h
theorem zGH {P:Program}{w:World}{A:Around}{R:Result->Shared->Prop}{s:Shared}{elt tg iter:Expr}{ifs:List Expr}{sc:Scope}{pos:Pos}{it acc:Value}{env:Env}(J:Nat->Shared->Prop)
  (turn:∀n s,J n s->wpAny (model P w) A (pyNext it) (λ r s1=>match r with
   |none=>R (.ok .next) s1
   |some v=>wpAny (model P w) A (letOwnedTupleGo tg it v) (λ Ω s2=>wpAny (model P w) A (assign tg env v) (λ Ω s3 =>
     wpAny (model P w) A (forIn ifs true λ c r=>if r=true then do let ok ← isTrue c env (eval c env);pure (ForInStep.yield ok) else pure (ForInStep.yield r)) (λ ok s4 =>
      if ok=true then wpAny (model P w) A (eval elt env) (λ x s5=>wpAny (model P w) A (call (.builtin "list.append") [acc,x]) (λ Ω s6=>∃m,m<n/\J m s6) NoX s5) NoX s4
      else ∃m,m<n/\J m s4) NoX s3) NoX s2) NoX s1) NoX s) (n:Nat) (h:J n s) :
  codeAny (model P w) A (.compLoop (.ListComp elt [⟨tg,iter,ifs,0⟩] sc pos) 0 it acc env) R s:=by
 refine codeAny_loop rfl J (λ n s hJ=>?_) n h;refine wpAny_noted ?_;rw[compTurn_list];refine lA (wpAny_standAt (lA (noX (thn (turn n s hJ) λ r s1 h1=>?_))));cases r with
 |none=>exact lB h1
 |some v =>
  refine lA (noX (thn h1 λ Ω s2 h2=>?_));refine lA (noX (thn h2 λ Ω s3 h3=>?_));refine lA (noX (thn h3 λ ok s4 h4=>?_));cases ok with
  |false=>exact lB ⟨rfl,h4⟩
  |true=>exact lA (lA (noX (thn h4 λ x s5 h5=>lA (noX (thn h5 λ Ω s6 h6=>lB (lB ⟨rfl,h6⟩))))))
noncomputable def PTs (X:Cx) (ifs:List Expr) (t:TT):Prop :=
 ∀(jP:List (Addr × Obj)) (s:Shared) (σ:St) (H:Hp) (Q:Bool->Hp->Prop),Inv X jP σ H s->t σ H Q ->
  wpAny (model X.prog X.w) X.A (forIn ifs true λ c r=>if r=true then do let ok ← isTrue c X.env (eval c X.env);pure (ForInStep.yield ok) else pure (ForInStep.yield r)) (TP X jP σ Q) X.xe s
noncomputable def tYes:TT:=λ Ω H Q=>Q true H
theorem zDY {X:Cx}:PTs X [] tYes:=λ Ω Ω Ω H Ω I h=>wpAny_tests_nil ⟨H,I,h⟩
theorem zGl {X:Cx}{c:Expr}{t:TT}(h:PT X c t):PTs X [c] t:=λ jP s σ H Q I hq=>wpAny_tests_one (h jP s σ H Q I hq)
noncomputable def tComp (cap:List (Option Nat)) (wi:TI) (g:TG) (tt:TT) (te:TE):TE:=λ σ H Q=>wi σ H λ J H1=>∀acc,H1 acc=none ->
 ∃W:Nat->Nat->Hp->Prop,(∃m,W 0 m (upd H1 acc (.lst [])))/\∀i m H2,W i m H2 ->
  (J.stop i H2/\Q (.ref acc) H2)\/(J.go i H2/\∃N:Hp->Prop,(∀H',N H'->∃m',m'<m/\W (i+1) m' H')/\∀x H3,J.yld i H2 x H3->g x (capSt cap σ) H3 λ σ2 H4=>Ext (capSt cap σ) σ2/\tt σ2 H4 λ b H5 =>
   if b=true then te σ2 H5 λ y H6=>∃zs,H6 acc=some (.lst zs)/\zs.length<sizeLine/\N (upd H6 acc (.lst (zs++[y])))
   else N H5)
theorem HOk.but {P:Program}{w:World}{H:Hp}{h h':Heap}{C:Addr}(x:HOk P w H h) (n:H C=none) (sb:Heap.SameBut C h h'):HOk P w H h':=λ a o e =>
 (x a o e).stay (λ b u hb q=>(sb.2 b (λ z=>by
  subst z;rcases hb with z|z
  ·subst z;rw[n] at e;cases e
  ·rw[n] at z;cases z)).trans q) (λ Ω q=>q) λ Ω Ω q=>q
theorem Un.but {fs ex:List Addr}{H H':Hp}{h h1 h2:Heap}{C:Addr}(u:Un fs ex H H' h h1) (lt:h.objs.size<=C) (sb:Heap.SameBut C h1 h2):Un fs ex H H' h h2:=by
 have ne:∀b o,h.get? b=some o->b≠C:=λ b o e=>lR (lZ (lH e) lt);refine⟨λ b o e n hb hx=>(sb.2 b (ne b o e)).trans (u.keep b o e n hb hx),λ b o e n hb hx=>?_,u.free,λ b o e hx=>?_,u.tups,u.frzs,u.tbls⟩
 ·obtain⟨sl,q⟩:=u.slot b o e n hb hx
  exact⟨sl,(sb.2 b (ne b o e)).trans q⟩
 ·obtain⟨o',q⟩:=u.there b o e hx
  exact⟨o',(sb.2 b (ne b o e)).trans q⟩
section
variable {X:Cx}
theorem zHt {jP:List (Addr × Obj)}{σ:St}{H:Hp}{s:Shared}{sc:Scope}{cl:List (Str × Addr)}{N:List Str}{C:Addr}{fp:List Addr}(I:Inv X jP σ H s) (hk:sc.kind = .function) (nc:∀y∈sc.names,y.2 ≠ .cell)
  (hC:s.heap.objs.size<=C) (hf:∀b∈fp,FpOk X jP H b) (hfo:∀b∈fp,∃o,s.heap.get? b=some o) (c1:∀x c,cl.lookup x=some c->X.env.cells.lookup x=some c) (c2:∀n,(n,NameKind.free)∈sc.names->∃c,cl.lookup n=some c) :
  (X.block sc cl N s H C fp).Ok where
 mod:=I.ok.mod
 kind:=hk
 glob:=I.ok.glob
 blt:=I.ok.blt
 above:=hC
 inj:=λ x y c e e'=>I.ok.inj x y c (c1 x c e) (c1 y c e')
 has:=λ x h=>c2 x (h.elim (zDp (.inl rfl) nc) (zDp (.inr rfl) nc))
 cab:=λ x c e=>(nomatch e)
 hd:=I.ok.hd
 frames:=I.ok.frames
 stk:=.inl rfl
 exf:=λ b hb=>⟨λ z=>by
  obtain⟨o,e⟩:=hfo b hb;have lt:=lH e;rw[z] at lt;exact absurd (lZ lt hC) (Nat.lt_irrefl _),λ x c e=>(hf b hb).2.2.2.2.1 x c (c1 x c e)⟩
 bs:=I.bs
 bsz:=mG I.ok.bsz I.sz
 noex:=λ b o e hb=>by
  rcases (hf b hb).2.2.2.1 with z|z
  ·exact I.ok.noex b o e z
  ·exact absurd (lZ (lH (I.ok.bs b o e).1) z) (Nat.lt_irrefl _)
 exfs:=λ b hb hs=>by
  rcases lN.mp (I.stkSub b hs) with z|z
  ·exact(hf b hb).2.1 z
  ·exact(hf b hb).2.2.1 z
 funs:=I.stack
 frf:=I.stkFree
theorem zLf {elt tg iter:Expr}{ifs:List Expr}{sc:Scope}{pos:Pos}{wi:TI}{g:TG}{tt:TT}{te:TE}(N:List Str) (cap:List (Option Nat)) (hc:X.calm=true) (hi:PI X tg iter wi)
  (hg:∀cl s H C ex,PG (X.block sc cl N s H C ex) tg g) (ht:∀cl s H C ex,PTs (X.block sc cl N s H C ex) ifs tt) (he:∀cl s H C ex,PE (X.block sc cl N s H C ex) elt te)
  (hk:sc.kind = .function) (nc:∀y∈sc.names,y.2 ≠ .cell) (hnames:∀y∈sc.names,y.2 = .local->sc.names.lookup y.1=some .local)
  (hfree:∀n,(n,NameKind.free)∈sc.names->X.env.kindOf n=some .cell)
  (hcap:∀(i j:Nat),cap[i]?=some (some j)->∃x,N[i]?=some x/\X.N[j]?=some x/\sc.names.lookup x=some .free) (hlen:cap.length=N.length)
  (hs:∀x,foldedSetIterable iter X.env x=pure x:=by intro _;rfl):PE X (.ListComp elt [⟨tg,iter,ifs,0⟩] sc pos) (tComp cap wi g tt te):=by
 intro jP s σ H Q I h;obtain⟨cl,hclos,c1,c2⟩:=zE4 (sc:=sc) (env:=X.env) λ n hn=>I.ok.has n (.inl (hfree n hn));rw[eval_ListComp];refine wpAny_comprehension_free (use:=none) rfl hs hclos hk hnames ?_;refine thn (hi jP s σ H _ I h) λ v s1 h1=>thn h1 λ itv s2 h2=>?_;obtain⟨it,fp,tn,J,H2,e,I2,T,st2,f2,q2⟩:=h2;subst e;have hfr:H2 s2.heap.objs.size=none:=I2.fresh;obtain⟨W,⟨m0,w0⟩,turn⟩:=q2 s2.heap.objs.size hfr;have I3:=I2.lnew (ys:=[]) (its:=[]) (t':=s2.toks) .nil (lY _);have hacc:H2 s2.heap.objs.size=none:=hfr;refine wpAny_newObj_type (wpAny_newFunctionEnv nc (by intro y hy;simp at hy) (λ h4 hns hsb=>?_) hk);generalize hs3:({ s2 with heap:=s2.heap.push { cls:=.type "list", data:=.seq ([]:List Value).toArray } }:Shared)=s3 at hns hsb I3 ⊢;have hheap:s3.heap=s2.heap.push { cls:=.type "list", data:=.seq ([]:List Value).toArray }:=by rw[←hs3]
 generalize hH3:upd H2 s2.heap.objs.size (.lst [])=H3 at I3 w0;have up2:∀b o,s2.heap.get? b=some o->s3.heap.get? b=some o:=λ b o q=>by rw[hheap];exact lE _ q
 have neA:∀b∈fp,b≠s2.heap.objs.size:=λ b hb=>by
  obtain⟨o,q,_⟩:=T.obj _ _ st2 b hb;exact lR (lH q)
 have f3:∀b∈fp,FpOk X jP H3 b:=λ b hb=>⟨by rw[←hH3,zAL (neA b hb)];exact(f2 b hb).1,(f2 b hb).2⟩
 have o3:∀b∈fp,∃o,s3.heap.get? b=some o:=λ b hb=>by
  obtain⟨o,q,_⟩:=T.obj _ _ st2 b hb;exact⟨o,up2 b o q⟩
 have ok':=zHt (N:=N) (C:=s3.heap.objs.size) I3 hk nc (lQ _) f3 o3 c1 c2;generalize hC:s3.heap.objs.size=C at hns hsb ok' ⊢;have ltC:∀b o,s3.heap.get? b=some o->b≠C:=λ b o q=>by rw[←hC];exact lR (lH q)
 have up4:∀b o,s3.heap.get? b=some o->h4.get? b=some o:=λ b o q=>hsb.extBut b o (ltC b o q) (lE _ q);have st4:tn 0 h4:=T.keep _ _ _ st2 λ b hb o q=>up4 b o (up2 b o q)
 have I4:Inv (X.block sc cl N s3 H3 C fp) [] (capSt cap σ) H3 { s3 with heap:=h4,toks:=s3.toks+([]:List (Str × Value)).length }:=by
  refine⟨ok',rfl,I3.bare,Un.kept up4,⟨_,hns,λ i x v e1 e2 e3=>?_⟩,λ x c q=>?_,?_,λ x c q=>I3.freeC x c (c1 x c q),λ p hp=>(nomatch hp),I3.hok.kept up4,?_⟩
  ·have ee:∃j,cap[i]?=some (some j)/\σ[j]?=some (some v):=by
    unfold capSt at e2;rw[List.getElem?_map] at e2;cases q:cap[i]? with
    |none=>rw[q] at e2;cases e2
    |some o =>
     rw[q] at e2;cases o with
     |none=>cases e2
     |some j =>
      refine⟨j,rfl,?_⟩;have e2':some ((σ[j]?).join)=some (some v):=e2;cases z:σ[j]? with
      |none=>rw[z] at e2';cases e2'
      |some o' =>
       rw[z] at e2';have e2'':o'=some v:=mE e2';rw[e2'']
   obtain⟨j,ej,es⟩:=ee;obtain⟨x',n1,n2,n3⟩:=hcap i j ej;have e1':N[i]?=some x:=e1;rw[n1] at e1';cases e1';have hfr':(x,NameKind.free)∈sc.names:=zDe n3;have kc:=hfree x hfr';obtain⟨m,_,hl⟩:=I3.loc;obtain⟨u,r,l⟩:=hl j x v n2 es (.inr (.inl kc));refine⟨u,r,?_⟩;rcases l with ⟨l,_⟩|⟨_,c,ec,z⟩
   ·rw[kc] at l;cases l
   ·obtain⟨c',ec'⟩:=c2 x hfr'
    have:=c1 x c' ec';rw[ec] at this;cases this;obtain⟨oc,q1,q2⟩:=z;exact .inr ⟨zBK (sc:=sc) n3,c,ec',oc,up4 _ _ q1,q2⟩
  ·obtain⟨v,oc,q1,q2⟩:=I3.cell x c (c1 x c q)
   exact⟨v,oc,up4 _ _ q1,q2⟩
  ·exact I3.hok.fresh (by rw[hC];exact lQ _)
  ·show (capSt cap σ).length=N.length
   unfold capSt;rw[List.length_map,hlen]
 have loop:codeAny (model X.prog X.w) X.A (.compLoop (.ListComp elt [⟨tg,iter,ifs,0⟩] sc pos) 0 (.ref it) (.ref s2.heap.objs.size) (compEnvC sc cl C X.env)) (compPost (model X.prog X.w) X.A X.xe none (EP X jP σ Q) (.ref s2.heap.objs.size) C)
   { s3 with heap:=h4,toks:=s3.toks+([]:List (Str × Value)).length }:=by
  have stat:∀{H':Hp},(∀b∈fp,H' b=none)->∀b∈fp,FpOk (X.block sc cl N s3 H3 C fp) [] H' b:=λ hn b hb =>
   ⟨hn b hb,(ok'.exf b hb).1,ok'.exfs b hb,.inl hb,(ok'.exf b hb).2,λ p hp=>(nomatch hp)⟩
  refine zGH (λ n s'=>∃i H',Inv (X.block sc cl N s3 H3 C fp) [] (capSt cap σ) H' s'/\tn i s'.heap/\(∀b∈fp,H' b=none)/\W i n H') ?_ m0 ⟨0,H3,I4,st4,λ b hb=>(f3 b hb).1,w0⟩;rintro n s5 ⟨i,H5,I5,st5,fr5,w5⟩;rcases turn i n H5 w5 with ⟨stop,qn⟩|⟨go,N',hN',step⟩
  ·refine thn (T.done (X.block sc cl N s3 H3 C fp) rfl rfl rfl hc i [] s5 _ H5 NoX I5 (stat fr5) st5 stop) λ r s6 ⟨hr,I6⟩=>?_
   subst hr;obtain⟨m,hm,_⟩:=I6.loc;refine⟨m,hm,λ h' sb=>⟨.ref s2.heap.objs.size,H5,?_,rfl,qn⟩⟩;refine I3.call' (s':={ s6 with heap:=h' }) (ch:=fp) I6.os (I6.base.but (by rw[←hC];exact lQ _) sb) (I6.hok.but I6.free sb) I6.bare λ b hb=>?_;obtain⟨g0,g1,g2,g3,g4,g5⟩:=f3 b hb;exact⟨g3,g1,g4,g5⟩
  ·refine thn (T.item (X.block sc cl N s3 H3 C fp) rfl rfl rfl hc i [] s5 _ H5 NoX I5 (stat fr5) st5 go) λ r s6 ⟨u,hr,h6⟩=>?_
   subst hr;refine thn h6 λ _ s7 ⟨x,H7,I7,r7,y7,st7,fr7⟩=>?_;have I7':=I7.pinned (stat fr7) (T.obj _ _ st7)
   have again:∀{σ8:St}{H8:Hp}{s8:Shared},Inv (X.block sc cl N s3 H3 C fp) ([]++zEs fp s7.heap) σ8 H8 s8->Ext (capSt cap σ) σ8->N' H8 ->
     ∃m,m<n/\∃i H',Inv (X.block sc cl N s3 H3 C fp) [] (capSt cap σ) H' s8/\tn i s8.heap/\(∀b∈fp,H' b=none)/\W i m H':=λ{σ8 H8 s8} I8 ex n8=>by
    obtain⟨m',hm,w8⟩:=hN' H8 n8;have I8':=I8.unpinned.weak ex.len ex.get;refine⟨m',hm,i+1,H8,I8',T.keep _ _ _ st7 λ b hb o q=>(I8.pin (b,o) (mB _ (mB _ (zBk hb q)))).1,λ b hb=>?_,w8⟩;obtain⟨o,q,d⟩:=T.obj _ _ st7 b hb;exact(I8.pin (b,o) (mB _ (mB _ (zBk hb q)))).2.1
   refine thn (hg cl s3 H3 C fp _ s7 _ H7 x u _ I7' r7 (step x H7 y7)) λ _ s8 ⟨σ8,H8,I8,ex8,q8⟩=>?_;refine thn (ht cl s3 H3 C fp _ s8 σ8 H8 _ I8 q8) λ b s9 ⟨H9,I9,q9⟩=>?_;cases b with
   |false=>exact again I9 ex8 q9
   |true =>
    rw[if_pos rfl] at q9 ⊢;refine thn (he cl s3 H3 C fp _ s9 σ8 H9 _ I9 q9) λ yv s10 ⟨y,H10,I10,r10,zs,e10,l10,q10⟩=>?_;refine thn (zAt (X:=X.block sc cl N s3 H3 C fp) _ s10 σ8 H10 (.ref s2.heap.objs.size) [y] (.ref s2.heap.objs.size) [yv] (λ Ω H'=>N' H') I10 rfl (.cons r10 .nil) ⟨_,zs,y,rfl,rfl,e10,l10,q10⟩) λ _ s11 ⟨_,H11,I11,_,q11⟩=>?_;exact again I11 ex8 q11
 exact codeAny_compStart_list loop (T.self X.A 0 _ _ _ st4 loop)
end
theorem zKt {K:W.Frag}{a acc:Addr}{xs:List V}{g:TG}{tt:TT}{te:TE}{σ:St}{H:Hp}{Q:VK}(Pv:Nat->Hp->Prop) (h0:Pv 0 (upd H acc (.lst []))) (hl:∀i H,i<=xs.length->Pv i H->SqT K H a xs)
  (hs:∀i x H,xs[i]?=some x->Pv i H->g x σ H λ σ2 H4=>Ext σ σ2/\tt σ2 H4 λ b H5 =>
   if b=true then te σ2 H5 λ y H6=>∃zs,H6 acc=some (.lst zs)/\zs.length<sizeLine/\Pv (i+1) (upd H6 acc (.lst (zs++[y]))) else Pv (i+1) H5) (hd:∀H,Pv xs.length H->Q (.ref acc) H) :
  ∃W:Nat->Nat->Hp->Prop,(∃m,W 0 m (upd H acc (.lst [])))/\∀i m H2,W i m H2 ->
   ((Itt K a).stop i H2/\Q (.ref acc) H2)\/((Itt K a).go i H2/\∃N:Hp->Prop,(∀H',N H'->∃m',m'<m/\W (i+1) m' H')/\∀x H3,(Itt K a).yld i H2 x H3->g x σ H3 λ σ2 H4=>Ext σ σ2/\tt σ2 H4 λ b H5 =>
    if b=true then te σ2 H5 λ y H6=>∃zs,H6 acc=some (.lst zs)/\zs.length<sizeLine/\N (upd H6 acc (.lst (zs++[y])))
    else N H5):=by
 refine⟨λ i m H=>m=xs.length - i/\i<=xs.length/\Pv i H,⟨xs.length,by simp,lY _,h0⟩,?_⟩;rintro i m H2 ⟨rfl,hi,p⟩;have q:=hl i H2 hi p
 by_cases hlt:i<xs.length
 ·refine .inr ⟨⟨xs,xs[i],q,by simp[hlt]⟩,Pv (i+1),λ H' p'=>⟨xs.length - (i+1),by omega,rfl,hlt,p'⟩,λ x H' y=>?_⟩
  obtain⟨e,y⟩:=y;subst e;exact hs i x _ (y xs q) p
 ·have e:i=xs.length:=by omega
  subst e;exact .inl ⟨⟨xs,q,lQ _⟩,hd H2 p⟩
noncomputable def zHq (sc:Scope) (env:Env) (XN N:List Str) (cap:List (Option Nat)):Bool :=
 (sc.kind == .function) && (sc.names.all λ y=>y.2 != .cell) && (sc.names.all λ y=>y.2 != .local || sc.names.lookup y.1 == some .local) &&
 (sc.names.all λ y=>y.2 != .free || env.kindOf y.1 == some .cell) &&
 ((List.range cap.length).all λ i=>match cap[i]? with
  |some (some j)=>(match N[i]? with|some x=>XN[j]? == some x && sc.names.lookup x == some .free|none=>false)
  |_=>true) && (cap.length == N.length)
theorem zCM {X:Cx}{elt tg iter:Expr}{ifs:List Expr}{sc:Scope}{pos:Pos}{wi:TI}{g:TG}{tt:TT}{te:TE}(N:List Str) (cap:List (Option Nat)) (hc:X.calm=true) (hi:PI X tg iter wi)
  (hg:∀cl s H C ex,PG (X.block sc cl N s H C ex) tg g) (ht:∀cl s H C ex,PTs (X.block sc cl N s H C ex) ifs tt) (he:∀cl s H C ex,PE (X.block sc cl N s H C ex) elt te)
  (ck:zHq sc X.env X.N N cap=true) (hs:∀x,foldedSetIterable iter X.env x=pure x:=by intro _;rfl):PE X (.ListComp elt [⟨tg,iter,ifs,0⟩] sc pos) (tComp cap wi g tt te):=by
 unfold zHq at ck;simp only[Bool.and_eq_true] at ck;obtain⟨⟨⟨⟨⟨k1,k2⟩,k3⟩,k4⟩,k5⟩,k6⟩:=ck;refine zLf N cap hc hi hg ht he (by simpa using k1) (λ y hy=>?_) (λ y hy z=>?_) (λ n hn=>?_) (λ i j e=>?_) (by simpa using k6) hs
 ·have:=List.all_eq_true.mp k2 y hy
  simpa using this
 ·have:=List.all_eq_true.mp k3 y hy
  rw[z] at this;simpa using this
 ·have:=List.all_eq_true.mp k4 _ hn
  simpa using this
 ·have hi:i<cap.length:=(lJ.mp e).1
  have:=List.all_eq_true.mp k5 i (List.mem_range.mpr hi);rw[e] at this;dsimp only at this;cases q:N[i]? with
  |none=>rw[q] at this;cases this
  |some x =>
   rw[q] at this;dsimp only at this;rw[Bool.and_eq_true] at this;exact⟨x,rfl,by simpa using this.1,by simpa using this.2⟩
section
variable {prog:Program}{w:World}{A:Around}{E:Value->Shared->Prop}{s:Shared}
theorem zAj {it t:Addr}{i:Nat}{items:Array Value}{x:Value}{Q:Value->Shared->Prop}(hit:s.heap.IsTupleIter it t i) (ht:s.heap.IsTuple t items) (hx:items[i]?=some x)
  (hQ:∀h',h'.IsTupleIter it t (i+1)->Heap.SameBut it s.heap h'->Q x { s with heap:=h' }):wpAny (model prog w) A (Builtin.SmallTypes.nextOf (.ref it)) Q E s:=by
 obtain⟨o,ho,hc,hd⟩:=id hit;obtain⟨ol,hol,_,nl,hdl⟩:=ht;unfold Builtin.SmallTypes.nextOf;refine lA (wpAny_callSpecial?_slot (name:=Str.ofString "__next__") hit.typeIs F.slot_tuple_iterator_next (wpAny_call_entry F.slot_tuple_iterator_next hit.typeIs F.entry_tuple_iterator_next ?_ (F.args_tuple_iterator_next_1 _)));show wpAny _ _ (field (.ref it) 0 >>= _) _ _ s;refine lA (wpAny_field ho hd (x:=.ref t) rfl ?_);show wpAny _ _ (if (Value.ref t == Value.none)=true then _ else _) _ _ s;rw[if_neg (show ¬((Value.ref t == Value.none)=true) from Bool.false_ne_true)];show wpAny _ _ (field (.ref it) 1 >>= _) _ _ s;refine lA (wpAny_field ho hd (x:=.int i 0) rfl ?_);show wpAny _ _ (seqItems? (.ref t) >>= _) _ _ s;refine lA (wpAny_seqItems hol hdl ?_);simp only[Int.toNat_natCast,hx];refine lA (wpAny_setField ho hd (by simp) (lB ⟨x,rfl,lB (hQ _ ?_ (Heap.SameBut.update ..))⟩));exact⟨_,mI _ ho (Obj.isFreed_of_fields (Obj.data_mapFields hd _)),(Obj.cls_mapFields ..).trans hc,by rw[Obj.data_mapFields hd];simp[rawInt]⟩
theorem zAz {it t:Addr}{i:Nat}{items:Array Value}{Q:Value->Shared->Prop}(hh:A.handled=none) (hit:s.heap.IsTupleIter it t i) (ht:s.heap.IsTuple t items) (hx:items[i]?=none)
  (hE:∀h' e,Heap.ExtBut it s.heap h'->(∃o,h'.get? e=some o/\o.cls = .type "StopIteration")->E (.ref e) { s with heap:=h' }):wpAny (model prog w) A (Builtin.SmallTypes.nextOf (.ref it)) Q E s:=by
 obtain⟨o,ho,hc,hd⟩:=id hit;obtain⟨ol,hol,_,nl,hdl⟩:=ht;unfold Builtin.SmallTypes.nextOf;refine lA (wpAny_callSpecial?_slot (name:=Str.ofString "__next__") hit.typeIs F.slot_tuple_iterator_next (wpAny_call_entry F.slot_tuple_iterator_next hit.typeIs F.entry_tuple_iterator_next ?_ (F.args_tuple_iterator_next_1 _)));show wpAny _ _ (field (.ref it) 0 >>= _) _ _ s;refine lA (wpAny_field ho hd (x:=.ref t) rfl ?_);show wpAny _ _ (if (Value.ref t == Value.none)=true then _ else _) _ _ s;rw[if_neg (show ¬((Value.ref t == Value.none)=true) from Bool.false_ne_true)];show wpAny _ _ (field (.ref it) 1 >>= _) _ _ s;refine lA (wpAny_field ho hd (x:=.int i 0) rfl ?_);show wpAny _ _ (seqItems? (.ref t) >>= _) _ _ s;refine lA (wpAny_seqItems hol hdl ?_);simp only[Int.toNat_natCast,hx];refine lA (wpAny_rule (lA (wpAny_setField ho hd (by simp) ?_)));show wpAny _ _ (newExc (.type "StopIteration") [] >>= _) _ _ _;refine lA ?_;simp only[newExc,newTuple];refine lA (wpAny_newObj_type ?_ (by size_fits));refine lA (m:=firstArgMember _ _) (wpAny_of_eq (a:=Value.none) (by first|rfl|(simp only[firstArgMember];rfl)) ?_);refine wpAny_newObj_type ?_ (by size_fits);simp only[raiseNew];refine lA (wpAny_handled ?_);first|rw[show A.in1.handled=none from hh]|rw[hh]
 refine lA (lB (wpAny_throw ?_));exact hE _ _ (((Heap.SameBut.update ..).extBut.push _).push _) ⟨_,lG _ rfl,rfl⟩
theorem zEV {prog:Program}{w:World}{A:Around}(hh:A.handled=none) (it t:Addr) (hne:t≠it) (items:Array Value) :
  Draws prog w A it [it,t] items.size (λ i v=>items[i]?=some v) (λ i h=>h.IsTupleIter it t i/\h.IsTuple t items) where
 live:=λ Ω Ω st=>let ⟨o,ho,_⟩:=st.1;⟨o,ho⟩
 frame:=λ Ω Ω Ω st hk=>⟨let ⟨o,ho,r⟩:=st.1;⟨o,hk it (by simp) o ho,r⟩,let ⟨o,ho,r⟩:=st.2;⟨o,hk t (by simp) o ho,r⟩⟩
 item:=λ i s Q E hi st hQ=>zAj st.1 st.2 (x:=items[i]) (by simp[hi]) λ h' hit' hs'=>hQ _ h' s.toks (by simp[hi]) ⟨hit',let ⟨o,ho,r⟩:=st.2;⟨o,hs'.extBut t o hne ho,r⟩⟩ hs'
 done:=λ s Q E st hE=>zAz hh st.1 st.2 (by simp) hE
set_option tactic.hygienic true in
theorem zEj (l:Addr) (items:Array Value) (n:Nat) (dct:Option Addr) (sl:Array (Option Value)) :
  Meets (Builtin.«enumerate.__new__» ⟨[.type "enumerate", .ref l],[]⟩) (λ Ω R s=>s.heap.get? l=some { cls:=.type "tuple", dict:=dct,data:=.seq items n,slots:=sl } /\
   R (.ok (.ret (.ref (s.heap.push { cls:=.type "tuple_iterator", data:=.fields #[.ref l,.int 0 0] }).objs.size)))
    { s with heap:=(s.heap.push { cls:=.type "tuple_iterator", data:=.fields #[.ref l,.int 0 0] }).push { cls:=.type "enumerate", data:=.fields #[.none,.bool false,.ref s.heap.objs.size,rawInt 0,.none,.none] } }) :=
 .of_wp λ prog w A R s h=>by
  obtain⟨hp,g,d,tk,os⟩:=s;obtain⟨hl,h⟩:=h;have hsub:=sub_enumerate;have hL:Heap.IsTuple (Shared.heap ⟨hp,g,d,tk,os⟩) l items:=⟨_,hl,rfl,n,rfl⟩
  wp_walk using AutoSeq1.wpAny_loadPart' hl
  refine wpAny_stack_any λ st=>lB ?_;split
  ·rename_i c _ _ _ _ _;cases (c == Value.type "enumerate")
   ·wp_walk using AutoSeq1.wpAny_loadPart' hl,wpAny_pyIter_tuple hL;exact⟨_,rfl,h⟩
   ·wp_walk using AutoSeq1.wpAny_loadPart' hl,wpAny_pyIter_tuple hL;exact⟨_,rfl,h⟩
  ·wp_walk using AutoSeq1.wpAny_loadPart' hl,wpAny_pyIter_tuple hL;exact⟨_,rfl,h⟩
theorem zFY {l:Addr}{items:Array Value}{Q:Value->Shared->Prop}(hL:s.heap.IsTuple l items)
  (h:∀h',IsEnum h' (s.heap.objs.size+1) s.heap.objs.size 0 .none->h'.IsTupleIter s.heap.objs.size l 0->h'.objs.size=s.heap.objs.size+2 ->
   (∀b o,s.heap.get? b=some o->h'.get? b=some o)->Q (.ref (s.heap.objs.size+1)) { s with heap:=h' }):wpAny (model prog w) A (call (.type "enumerate") [.ref l]) Q E s:=by
 obtain⟨⟨c,dct,dt,sl⟩,hl,hc,n,hd⟩:=hL;replace hc:c = .type "tuple" := hc;replace hd:dt = .seq items n:=hd;subst hc hd;refine callType_new F.called_enumerate (by decide) (F.typeCall_enumerate_1 _) (F.newCall_enumerate_1 _) (λ obj=>F.args_object_init_2 obj _) F.entry_enumerate_new (zEj l items n dct sl) ⟨hl,?_⟩;have hz:(s.heap.push { cls:=.type "tuple_iterator", data:=.fields #[.ref l,.int 0 0] }).objs.size=s.heap.objs.size+1:=Heap.size_push ..;show _/\_;rw[hz]
 have he:IsEnum ((s.heap.push { cls:=.type "tuple_iterator", data:=.fields #[.ref l,.int 0 0] }).push { cls:=.type "enumerate", data:=.fields #[.none,.bool false,.ref s.heap.objs.size,rawInt 0,.none,.none] }) (s.heap.objs.size+1) s.heap.objs.size 0 .none:=by
  have:=lG (s.heap.push { cls:=.type "tuple_iterator", data:=.fields #[.ref l,.int 0 0] }) (o:={ cls:=.type "enumerate", data:=.fields #[.none,.bool false,.ref s.heap.objs.size,rawInt 0,.none,.none] }) rfl;rw[hz] at this;exact this
 exact⟨⟨_,he,rfl⟩,h _ he ⟨_,lE _ (lG _ rfl),rfl,rfl⟩ (by rw[Heap.size_push,hz]) λ b o x=>lE _ (lE _ x)⟩
end
section
variable {X:Cx}{jP:List (Addr × Obj)}{σ:St}{H:Hp}{s:Shared}{h':Heap}
theorem Inv.turnedN {t':Nat}{ch:List Addr}(I:Inv X jP σ H s) (k:∀b o,b∉ch->s.heap.get? b=some o->h'.get? b=some o) (hf:∀b∈ch,FpOk X jP H b):Inv X jP σ H { s with heap:=h',toks:=t' }:=by
 refine I.step (g':=s.gens) (d':=s.drawn) (ch:=ch) (λ b hb=>?_) (λ b o Ω Ω hc e Ω=>k b o hc e) (λ b o Ω Ω hc e Ω=>⟨o.slots,k b o hc e⟩) (λ Ω Ω Ω Ω n=>n)
  (λ b o hc e=>⟨o,k b o hc e⟩) (λ Ω Ω e=>e) (λ Ω Ω Ω e=>e) (λ b ps e=>⟨#[],by rw[e];simp⟩) (λ m hm=>?_) (λ b u e=>?_) I.bare
 ·obtain⟨f0,f1,f2,f3,f4,f5⟩:=hf b hb
  exact⟨f3,f1,f4,f5⟩
 ·obtain⟨o,es,ep,ho,r⟩:=hm
  exact⟨o,es,ep,k _ o (λ z=>(hf _ z).2.1 rfl) ho,r⟩
 ·refine(I.hok b u e).stay (λ c v hc q=>k c v (λ z=>?_) q) (λ Ω q=>q) λ Ω Ω q=>q
  have n:=(hf c z).1;rcases hc with y|y
  ·rw[y,e] at n;cases n
  ·rw[y] at n;cases n
theorem Inv.turnedL {t':Nat}{ch:List Addr}{a:Addr}{o:HO}(I:Inv X jP σ H s) (k:∀b o,b∉ch->s.heap.get? b=some o->h'.get? b=some o) (hf:∀b∈ch,FpOk X jP H b) (hp:s.heap.objs.size<=a)
  (new:ObjOk X.prog X.w (upd H a o) h' a o):Inv X jP σ (upd H a o) { s with heap:=h',toks:=t' }:=by
 have hn:H a=none:=I.hok.fresh hp;have ne:∀b u,s.heap.get? b=some u->b≠a:=λ b u e=>lR (lZ (lH e) hp)
 refine I.step (g':=s.gens) (d':=s.drawn) (ch:=ch) (λ b hb=>?_) (λ b o Ω Ω hc e Ω=>k b o hc e) (λ b o Ω Ω hc e Ω=>⟨o.slots,k b o hc e⟩) (λ b u Ω e n=>by rw[zAL (ne b u e)];exact n)
  (λ b o hc e=>⟨o,k b o hc e⟩) (λ b xs q=>by rw[zAL (zAK q hn)];exact q) (λ b u xs q=>by rw[zAL (zAK q hn)];exact q) (λ b ps q=>⟨#[],by rw[zAL (zAK q hn),q];simp⟩) (λ m hm=>?_) (λ b u e=>?_) I.bare
 ·obtain⟨f0,f1,f2,f3,f4,f5⟩:=hf b hb
  exact⟨f3,f1,f4,f5⟩
 ·obtain⟨o,es,ep,ho,r⟩:=hm
  exact⟨o,es,ep,k _ o (λ z=>(hf _ z).2.1 rfl) ho,r⟩
 ·by_cases hb:b=a
  ·subst hb
   rw[zAB] at e;cases e;exact new
  ·rw[zAL hb] at e
   refine(I.hok b u e).stay (λ c v hc q=>k c v (λ z=>?_) q) (λ c q=>by rw[zAL (zAK q hn)];exact q) λ c xs q=>by rw[zAL (zAK q hn)];exact q
   have n:=(hf c z).1;rcases hc with y|y
   ·rw[y,e] at n;cases n
   ·rw[y] at n;cases n
end
noncomputable def Ite (K:W.Frag) (a:Addr):It :=
 ⟨λ i H=>∃xs x,SqT K H a xs/\xs[i]?=some x,λ i H x H'=>∃T y,H T=none/\x = .ref T/\H'=upd H T (.tup [.int i,y])/\∀xs,SqT K H a xs->xs[i]?=some y,λ i H=>∃xs,SqT K H a xs/\xs.length<=i⟩
theorem zId {P:Program}{w:World}{K:W.Frag}{es:List Expr}{k:Nat}{pos:Pos}(a e it:Addr) (hei:e≠it) :
  Turn P w K (.Tuple es k pos) (Ite K a) [e,it] e (λ i h=>(∃old,IsEnum h e it i old)/\h.IsTupleIter it a i) where
 mem:=by simp
 obj:=λ i h st b hb=>by
  obtain⟨⟨old,z⟩,o,e',c,d⟩:=st;rcases lN.mp hb with y|y
  ·subst y;exact⟨_,z,λ v q=>by have q':Data.fields _=Data.cell v:=q;cases q'⟩
  ·cases List.mem_singleton.mp y
   exact⟨o,e',λ v q=>by rw[d] at q;cases q⟩
 keep:=λ i h h' st k=>by
  obtain⟨⟨old,z⟩,o,e',r⟩:=st;exact⟨⟨old,k e (by simp) _ z⟩,o,k it (by simp) o e',r⟩
 item:=by
  intro X hP hw hK hc i jP s σ H E I hf st hg;subst hP hw hK;obtain⟨xs,x,hq,hx⟩:=hg;obtain⟨its,rv,p,hz⟩:=I.tuple hq;obtain⟨u,hu,ru⟩:=rv.get hx;obtain⟨⟨old,he⟩,hit⟩:=st;have p':s.heap.IsTuple a its.toArray:=p
  have hai:a≠it:=λ z=>by
   obtain⟨o1,q1,c1,_⟩:=p';obtain⟨o2,q2,c2,_⟩:=hit;rw[z,q2] at q1;cases q1;rw[c2] at c1;injection c1 with c3;exact absurd c3 (by decide)
  have hae:a≠e:=λ z=>by
   obtain⟨o1,q1,c1,_⟩:=p';rw[z] at q1;have he':s.heap.get? e=some _:=he;rw[he'] at q1;cases q1;injection c1 with c3;exact absurd c3 (by decide)
  have hilt:i<its.toArray.size:=by
   have:=(lJ.mp hu).1;simpa using this
  refine wpAny_pyNext_enum_itemD (zEV (A:=X.A.in1) (I.ok.hd hc) it a hai its.toArray) he ⟨hit,p'⟩ hilt hei (by simp[hei,Ne.symm hae]) λ y h1 tk hy ho hst hT hsz hk=>?_
  have hyu:y=u:=by
   have:(its.toArray)[i]?=some u:=by simpa using hu
   rw[hy] at this;exact mE this
  subst hyu;refine⟨_,rfl,?_⟩;have hn:H s.heap.objs.size=none:=I.fresh
  have I1:Inv X jP σ (upd H s.heap.objs.size (.tup [.int i,x])) { s with heap:=h1,toks:=tk+1 }:=I.turnedL (ch:=[e,it]) (λ b o hb q=>hk b o (λ z=>hb (by simp[z])) (λ z=>hb (by simp[z])) q) hf (lQ _)
   ⟨Nat.le_of_lt (zAS (show 2<=1000 by decide)),[.int i tk,y],.cons ⟨_,rfl⟩ (.cons ru .nil),_,hT,rfl,_,rfl⟩
  have neT:∀b∈[e,it],b≠s.heap.objs.size:=λ b hb=>by
   rcases lN.mp hb with z|z
   ·subst z;exact lR (lH (show s.heap.get? b=some _ from he))
   ·cases List.mem_singleton.mp z
    obtain⟨o2,q2,_⟩:=hit;exact lR (lH q2)
  refine wpAny_letOwnedTupleGo_enum (s:={ s with heap:=h1,toks:=tk+1 }) ho λ h2 he2 hs2=>⟨.ref s.heap.objs.size,_,?_,rfl,⟨_,x,hn,rfl,rfl,λ ys hy'=>by rw[I.tuple_inj hy' hq];exact hx⟩,⟨⟨_,he2⟩,?_⟩,λ b hb=>?_⟩
  ·refine I1.turnedN (t':=tk+1) (ch:=[e]) (λ b o hb q=>(hs2.2 b (λ z=>hb (by simp[z]))).trans q) λ b hb=>?_
   have eb:=List.mem_singleton.mp hb;subst eb;obtain⟨f0,f⟩:=hf b (by simp);exact⟨by rw[zAL (neT b (by simp))];exact f0,f⟩
  ·obtain⟨o2,q2,r2⟩:=hst.1
   exact⟨o2,(hs2.2 it hei.symm).trans q2,r2⟩
  ·rw[zAL (neT b hb)];exact(hf b hb).1
 done:=by
  intro X hP hw hK hc i jP s σ H E I hf st hg;subst hP hw hK;obtain⟨xs,hq,hx⟩:=hg;obtain⟨its,rv,p,hz⟩:=I.tuple hq;obtain⟨⟨old,he⟩,hit⟩:=st;have p':s.heap.IsTuple a its.toArray:=p
  have hai:a≠it:=λ z=>by
   obtain⟨o1,q1,c1,_⟩:=p';obtain⟨o2,q2,c2,_⟩:=hit;rw[z,q2] at q1;cases q1;rw[c2] at c1;injection c1 with c3;exact absurd c3 (by decide)
  have hl:=rv.length;have hT:s.TypeIs (.ref e) "enumerate" := ⟨_,he,rfl⟩;unfold pyNext;refine lA (wpAny_attempt (wpAny_callSpecial?_slot (name:=Str.ofString "__next__") hT F.slot_enumerate_next (wpAny_call_entry F.slot_enumerate_next hT F.entry_enumerate_next ?_ (F.args_enumerate_next_1 _))));show wpAny _ _ (field (.ref e) 2 >>= _) _ _ _;refine lA (wpAny_field he rfl (x:=.ref it) rfl ?_);refine lA (zAz (I.ok.hd hc) hit p' (by simp;omega) λ h1 x hx1 ⟨o,ho,hc'⟩=>?_);refine lA (wpAny_isInstance (T := "StopIteration") (b:=true) ⟨o,ho,hc'⟩ isSubtype_stop ?_);exact lB ⟨rfl,I.turnedN (t':=s.toks) (ch:=[it]) (λ b o hb q=>hx1 b o (λ z=>hb (by simp[z])) q) λ b hb=>hf b (by simp at hb ⊢;exact .inr hb)⟩
 self:=λ Ω Ω Ω Ω Ω st h=>let ⟨⟨_,he⟩,_⟩:=st;wpAny_pyIter_enum he h
noncomputable def iEnum (K:W.Frag) (ta:TA):TI:=λ σ H R=>ta σ H λ vs H1=>∃a,vs=[.ref a]/\(∃xs,SqT K H1 a xs)/\R (Ite K a) H1
theorem zIz {X:Cx}{es:List Expr}{k:Nat}{tpos:Pos}{a:Expr}{ta:TA}{p pos:Pos}(hg:Gl X "enumerate") (hm:X.mg "enumerate" = none) (ha:PA X [a] ta) (hs:starEach [a] X.env=[(false,eval a X.env)]:=by rfl) :
  PI X (.Tuple es k tpos) (.Call (.Name "enumerate" p) [a] [] pos) (iEnum X.K ta):=by
 intro jP s σ H R I h;refine Call_ (zBv I hg hm boot_enumerate (PyProof.Rows.callWith_type1 (thn (ha pos jP s σ H _ I h) λ us s1 ⟨vs,H1,I1,r1,q1⟩=>?_) hs rfl));obtain⟨b,e,⟨xs,hq⟩,q⟩:=q1;subst e;obtain⟨u,rfl,ru⟩:=vals1 r1;cases ru;obtain⟨its,rv,tp,hz⟩:=I1.tuple hq;refine zFY (show s1.heap.IsTuple b its.toArray from tp) λ h' he hit hsz hk=>?_;refine wpAny_pyIter_enum he ⟨_,[s1.heap.objs.size+1,s1.heap.objs.size],_,_,H1,rfl,I1.kept (t':=s1.toks) hk,zId b _ _ (Nat.succ_ne_self _),⟨⟨_,he⟩,hit⟩,λ c hc=>?_,q⟩
 have ge:s1.heap.objs.size<=c:=by
  rcases lN.mp hc with z|z
  ·rw[z];exact Nat.le_succ _
  ·rw[List.mem_singleton.mp z];exact lQ _
 exact I1.fpOk ge (I1.hok.fresh ge)
theorem zHk {K:W.Frag}{a:Addr}{xs:List V}{g:TG}{tb:TS}{D:Ends}{σ:St}{H:Hp}(Pv:Nat->St->Hp->Prop) (h0:Pv 0 σ H) (hl:∀i σ H,i<=xs.length->Pv i σ H->SqT K H a xs)
  (hs:∀i x T σ H,xs[i]?=some x->Pv i σ H->H T=none->g (.ref T) σ (upd H T (.tup [.int i,x])) λ σ2 H2=>tb { D with nx:=Pv (i+1),ct:=Pv (i+1),bk:=D.nx } σ2 H2) (hd:∀σ H,Pv xs.length σ H->D.nx σ H) :
  ∃W:Nat->Nat->St->Hp->Prop,(∃m,W 0 m σ H)/\∀i m σ H,W i m σ H ->
   ((Ite K a).stop i H/\D.nx σ H)\/((Ite K a).go i H/\∃N:St->Hp->Prop,(∀σ' H',N σ' H'->∃m',m'<m/\W (i+1) m' σ' H')/\∀x H',(Ite K a).yld i H x H'->g x σ H' λ σ2 H2=>tb { D with nx:=N,ct:=N,bk:=D.nx } σ2 H2):=by
 refine⟨λ i m σ H=>m=xs.length - i/\i<=xs.length/\Pv i σ H,⟨xs.length,by simp,lY _,h0⟩,?_⟩;rintro i m σ H ⟨rfl,hi,p⟩;have q:=hl i σ H hi p
 by_cases hlt:i<xs.length
 ·refine .inr ⟨⟨xs,xs[i],q,by simp[hlt]⟩,Pv (i+1),λ σ' H' p'=>⟨xs.length - (i+1),by omega,rfl,hlt,p'⟩,λ x H' y=>?_⟩
  obtain⟨T,z,hT,ex,eH,y⟩:=y;subst ex eH;exact hs i z T σ H (y xs q) p hT
 ·have e:i=xs.length:=by omega
  subst e;exact .inl ⟨⟨xs,q,lQ _⟩,hd σ H p⟩
section
variable {X:Cx}
theorem zAD {H:Hp}{p:Addr}{o:HO}(h:H p=none):Same H (upd H p o):=λ b u q=>by rw[zAL (zAK q h)];exact q
noncomputable def rIsi (K:W.Frag):List V->Hp->VK->Prop:=λ xs H Q=>∃x T t b,xs=[x,.ty T]/\TyOf K H x t/\W.kitOne K t (.type T)=some b/\Q (.bl b) H
theorem zBa:CallR X (.builtin "isinstance") (rIsi X.K):=by
 intro jP s σ H xs us Q I r h;obtain⟨x,T,t,b,rfl,ty,e,q⟩:=h;obtain⟨u,w',rfl,ru,rw'⟩:=vals2 r;cases rw';exact zJV I ru ty e λ tk=>⟨.bl b,H,I.tok tk,rfl,q⟩
noncomputable def zMI:List V->Hp->VK->Prop:=λ xs H Q=>∃(d:Addr) (kvs:List (Key × V)) (ks:List Str),xs=[.ref d]/\H d=some (.dK kvs)/\kvs.map (·.1)=ks.map Sum.inr/\ks.length<64 /\
 ∀(l:Addr) (ss:List Str),H l=none->ss.Perm ks->ss.Pairwise (λ a b=>ltCps b.cps.toList a.cps.toList=false)->Q (.ref l) (upd H l (.lst (ss.map V.str)))
theorem zIh {P:Program}{w:World}:∀{vs:List (Key × Value)}{ks:List Str}{us:List Value},vs.map (·.1)=ks.map Sum.inr->us.length=vs.length ->
  (∀(j:Nat) (v:Value),us[j]?=some v->∃k x,vs[j]?=some (k,x)/\(zAf P w).is k v=true)->StrsAre us ks
 |[],[],[],_,_,_=>.nil
 | (k,x)::vs,y::ks,u::us,e,hl,h=>by
  have e1:k=Sum.inr y:=(List.cons.inj e).1;have e2:vs.map (·.1)=ks.map Sum.inr:=(List.cons.inj e).2;obtain⟨k',x',q,m⟩:=h 0 u rfl;have q':(k,x)=(k',x'):=mE q;cases q';subst e1;rcases zAo (show keyIs (Sum.inr y) u=true from m) with ⟨i,t,z,_⟩|⟨z,t,z1,z2⟩
  ·cases z
  ·cases z1
   subst z2;exact .cons _ t (zIh e2 (by simpa using hl) λ j v hv=>h (j+1) v (by simpa using hv))
 |[],_::_,_,e,_,_=>nomatch e
 |_::_,[],_,e,_,_=>nomatch e
 |[],[],_::_,_,e,_=>nomatch e
 |_::_,_::_,[],_,e,_=>nomatch e
theorem zFb {us:List Value}{ks:List Str}(h:StrsAre us ks):Vals (ks.map V.str) us:=by
 induction h with
 |nil=>exact .nil
 |cons y t r ih=>exact .cons ⟨t,rfl⟩ ih
theorem zJq {a b c:Str}(h1:ltCps b.cps.toList a.cps.toList=false) (h2:ltCps c.cps.toList b.cps.toList=false):ltCps c.cps.toList a.cps.toList=false:=by
 rw[ltCps_eq,decide_eq_false_iff_not] at *;exact List.le_trans (l₁:=a.cps.toList) (l₂:=b.cps.toList) (l₃:=c.cps.toList) h1 h2
theorem zEr:∀(p:Str) (l:List Str),risingS p l=true->(p::l).Pairwise (λ a b=>ltCps b.cps.toList a.cps.toList=false)
 |p,[],_=>by simp
 |p,x::r,h=>by
  have h':(!ltCps x.cps.toList p.cps.toList && risingS x r)=true:=h;rw[Bool.and_eq_true] at h';have h1:ltCps x.cps.toList p.cps.toList=false:=by simpa using h'.1
  have ih:=zEr x r h'.2;refine List.pairwise_cons.mpr ⟨λ y hy=>?_,ih⟩;rcases lN.mp hy with z|z
  ·subst z;exact h1
  ·exact zJq h1 ((List.pairwise_cons.mp ih).1 y z)
theorem zEJ:∀{l:List Str},sortedS l=true->l.Pairwise (λ a b=>ltCps b.cps.toList a.cps.toList=false)
 |[],_=>.nil
 |x::r,h=>zEr x r h
theorem zLs {kvs:List (Key × V)}{vs:List (Key × Value)}(h:KV kvs vs):kvs.map (·.1)=vs.map (·.1):=by
 unfold KV at h
 induction h with
 |nil=>rfl
 |cons r _ ih=>simp[r.1,ih]
theorem zGL (hc:X.calm=true):CallR X (.builtin "sorted") zMI:=by
 intro jP s σ H xs us Q I r h;obtain⟨d,kvs,ks,rfl,hd,hk,h64,q⟩:=h;obtain⟨u,rfl,ru⟩:=vals1 r;cases ru;obtain⟨hz,hsm,vs,kv,hdo⟩:=(show ObjOk X.prog X.w H s.heap d (.dK kvs) from I.hok d _ hd);obtain⟨ep,hat⟩:=hdo.dictAt;have hks:vs.map (·.1)=ks.map Sum.inr:=by rw[←zLs kv];exact hk
 have hn:vs.length=ks.length:=by have:=congrArg List.length hks;simpa using this
 have line:vs.length<=sizeLine:=Nat.le_of_lt (zAS (by omega));refine Calls.call_function_entry kind_sorted plain_sorted entry_sorted (args_sorted1 _) ?_;unfold Builtin.«sorted»;refine lA (m:=checkCount "sorted" 1 1 _) (lB ?_);refine lA (W.kdu_collect (A:=X.A.in1) (W.kdl_dict (knd:=zAf X.prog X.w) (kvs:=vs) (ep:=ep) hsm) (I.ok.hd hc) hat line λ h1 tk acc hk1 hacc=>?_);have la:acc.toList.length=vs.length:=by rw[Array.length_toList];exact hacc.1
 have hS:StrsAre acc.toList ks:=zIh (P:=X.prog) (w:=X.w) hks la λ j v hv=>hacc.2 j v (by rw[←Array.getElem?_toList];exact hv);have I1:Inv X jP σ H { s with heap:=h1,toks:=tk }:=I.kept hk1;refine lA (wpAny_newList ?_ (by rw[la];exact line));have hoL:(h1.push { cls:=.type "list", data:=.seq acc.toList.toArray }).get? h1.objs.size=some (seqObj "list" acc.toList.toArray 0):=lG _ rfl;refine lA (lD (wpAny_call_entry slot_list_sort ⟨_,hoL,rfl⟩ entry_list_sort (list_sort_treeK strKind_oneLt hoL hS.keysOf (λ a b rest e=>keyKind_strs (ss:=ks) (by rw[←e];exact hS)) (by rw[la,hn];exact h64) λ st' a1 a2=>⟨_,rfl,?_⟩) (args_list_sort _)));obtain⟨ss,b1,b2,b3⟩:=sorted_out_str hS a1 a2;obtain⟨e,he⟩:∃e,(sortedHeap (h1.push { cls:=.type "list", data:=.seq acc.toList.toArray }) h1.objs.size acc.toList ((arrOf st').map (·.2))).get? h1.objs.size=some (seqObj "list" ((arrOf st').map (·.2)) e):=sortedHeap_at hoL;refine lB ⟨_,rfl,⟨.ref h1.objs.size,upd H h1.objs.size (.lst (ss.map V.str)),I1.laid (t':=tk) (a:=h1.objs.size) (o:=.lst (ss.map V.str)) (λ b o hb=>?_) (lQ _) ⟨?_,_,e,zFb b1,?_⟩,rfl,q _ ss (I1.hok.fresh (lQ _)) b2 (zEJ b3)⟩⟩
 ·rw[sortedHeap_old (Nat.ne_of_lt (Heap.lt_size hb)) (by rw[Heap.size_push];exact Nat.lt_succ_of_lt (lH hb))]
  exact lE _ hb
 ·rw[List.length_map,b2.length_eq]
  exact Nat.le_of_lt (zAS (by omega))
 ·rw[he]
end
structure FnB (P:Program) (w:World) (K:W.Frag) (mg:Str->Option Value) (base:Heap) (k:Nat) (x:Str) (f:Addr) (fd:FuncData) (ps:List Str) (sp:Sp):Prop where
 ok:FnOk P w K mg base CX0 k f fd ps sp
 bd:Binds K fd ps []
 kp:W.keepIn K (.ref f)=true
 gl:mg x=some (.ref f)
theorem pe_cl {X:Cx}{k:Nat}{x:Str}{f:Addr}{fd:FuncData}{ps:List Str}{sp:Sp}{e:Expr}{es:List Expr}{t:TA}{p pos:Pos}(G:FnB X.prog X.w X.K X.mg X.base k x f fd ps sp) (hr:Room k X.A) (ha:PA X (e::es) t) (hg:Gl X x:=by rfl) (hdb:(x==("__debug__":Str))=false:=by decide) (he:starEach (e::es) X.env=(false,eval e X.env)::starEach es X.env:=by rfl) (hpl:(backTo pos (starEach es X.env)).any (·.1)=false:=by rfl):PE X (.Call (.Name x p) (e::es) [] pos) (tCall sp [] E0 t):=zCO G.ok hr hg G.gl G.kp G.bd .nil pass0 ha hdb he hpl
theorem iC {X:Cx}{r:R2}{a:Expr}{ta:TE}{i j p2 pos} (hr:IxR X r) (ha:PE X a ta):PE X (.Subscript a (.Constant (.int i) j p2) pos) (tOp r ta (tC (.int i))):=pe_ix hr ha zAJ (λ Ω Ω=>rfl)
theorem FnB.up {P:Program}{w:World}{K:W.Frag}{mg:Str->Option Value}{base:Heap}{j k:Nat}{x:Str}{f:Addr}{fd:FuncData}{ps:List Str}{sp:Sp}(F:FnB P w K mg base j x f fd ps sp) (h:j<=k):FnB P w K mg base k x f fd ps sp :=
 ⟨F.ok.mono h,F.bd,F.kp,F.gl⟩
noncomputable def Tk (H H':Hp):Prop:=∀b xs,H b=some (.tup xs)->H' b=some (.tup xs)
theorem Tk.refl (H:Hp):Tk H H:=λ Ω Ω h=>h
theorem Tk.trans {H H1 H2:Hp}(a:Tk H H1) (b:Tk H1 H2):Tk H H2:=λ c xs h=>b c xs (a c xs h)
theorem Same.tk {H H':Hp}(h:Same H H'):Tk H H':=λ b xs e=>h b _ e
theorem Tk.lst {H:Hp}{p:Addr}{xs:List V}{o:HO}(h:H p=some (.lst xs)):Tk H (upd H p o):=λ b ys e=>by
 rw[zAL (λ z=>by subst z;rw[h] at e;cases e)];exact e
theorem Tk.dk {H:Hp}{p:Addr}{kvs:List (Key × V)}{o:HO}(h:H p=some (.dK kvs)):Tk H (upd H p o):=λ b ys e=>by
 rw[zAL (λ z=>by subst z;rw[h] at e;cases e)];exact e
section
variable {X:Cx}
noncomputable def rCatV:R2:=λ x y H Q=>∃a b xs ys,x = .ref a/\y = .ref b/\H a=some (.tup xs)/\H b=some (.tup ys)/\xs.length+ys.length<=sizeLine /\
 ∀p H',Same H H'->H' p=some (.tup (xs++ys))->Q (.ref p) H'
theorem zI5:OpR X (binaryOp .Add) rCatV:=by
 intro jP s σ H x y v u Q I rx ry h;obtain⟨a,b,xs,ys,rfl,rfl,ha,hb,hz,q⟩:=h
 by_cases hx:xs=[]
 ·subst hx
  cases rx;cases ry;obtain⟨its,r1,p1,_⟩:=I.tuple (SqT.of ha);obtain⟨its2,r2,p2,_⟩:=I.tuple (SqT.of hb);have e0:its=[]:=r1.nil_iff.mpr rfl;subst e0;obtain⟨⟨cls,dd,data,sl⟩,ho,hc,n,hd⟩:=id p1;obtain⟨⟨cls2,dd2,data2,sl2⟩,ho2,hc2,n2,hd2⟩:=id p2;simp only at hc hd hc2 hd2;subst hc hd hc2 hd2;exact concat_meets ⟨_,ho,rfl⟩ ⟨_,ho2,rfl⟩ noFill_tuple_add seq_tuple_add PySem.F.slot_tuple_add PySem.F.entry_tuple_add (PySem.F.args_tuple_add_2 _ _) (tuple_addW0 a b _ _ n n2 dd dd2 sl sl2 rfl) ⟨ho,ho2,⟨.ref b,H,I,rfl,q b H (.refl H) hb⟩⟩
 ·refine zLg jP s σ H (.ref a) (.ref b) v u Q I rx ry ⟨a,b,xs,ys,rfl,rfl,SqT.of ha,SqT.of hb,hx,hz,λ e=>?_,λ e p hp=>?_⟩
  ·subst e
   exact q a H (.refl H) (by rw[List.append_nil];exact ha)
  ·exact q p _ (zAD hp) zAB
noncomputable def rSlV:V->Option Int->Option Int->Hp->VK->Prop:=λ x lo hi H Q=>∃a xs,x = .ref a/\H a=some (.tup xs) /\
 ¬(HT.sIx xs.length 0 lo=0/\HT.sIx xs.length xs.length hi=xs.length)/\∀p H',Same H H'->H' p=some (.tup (cutV xs lo hi))->Q (.ref p) H'
theorem zIn:SlR X rSlV:=by
 intro jP s σ H x v vl vu lo hi sl Q I rx hs pl pu h;obtain⟨a,xs,rfl,ha,hw,q⟩:=h;exact zK1 jP s σ H (.ref a) v vl vu lo hi sl Q I rx hs pl pu ⟨a,xs,rfl,SqT.of ha,hw,λ p hp=>q p _ (zAD hp) zAB⟩
end
inductive Atom where
 |name (x:Str)|num (n:Int)|gap (g:Str)
inductive Bin where
 |add|sub|mul|thn
noncomputable def Bin.s:Bin->Str
 |.add => "add" |.sub => "sub" |.mul => "mul" |.thn => "then"
inductive Tr where
 |num (n:Int)|name (x:Str)|ask (x:Str)|stop (x:Str)|gap (g:Str) (as:List Atom)
 |say (a:Tr)|bin (o:Bin) (a b:Tr)|ite (a b c:Tr)|lett (x:Str) (a b:Tr)
noncomputable def AtRep (H:Hp):Atom->V->Prop
 |.name x,v=>∃a,v = .ref a/\H a=some (.tup [.str "name", .str x])
 |.num n,v=>∃a,v = .ref a/\H a=some (.tup [.str "num", .int n])
 |.gap g,v=>∃a b,v = .ref a/\H a=some (.tup [.str "gap", .str g,.ref b])/\H b=some (.tup [])
noncomputable def Rep (H:Hp):Tr->V->Prop
 |.num n,v=>∃a,v = .ref a/\H a=some (.tup [.str "num", .int n])
 |.name x,v=>∃a,v = .ref a/\H a=some (.tup [.str "name", .str x])
 |.ask x,v=>∃a,v = .ref a/\H a=some (.tup [.str "ask", .str x])
 |.stop x,v=>∃a,v = .ref a/\H a=some (.tup [.str "stop", .str x])
 |.gap g as,v=>∃a b us,v = .ref a/\H a=some (.tup [.str "gap", .str g,.ref b])/\H b=some (.tup us)/\us.length<=1000/\Paired (AtRep H) as us
 |.say t,v=>∃a u,v = .ref a/\H a=some (.tup [.str "say", u])/\Rep H t u
 |.bin o s t,v=>∃a u w,v = .ref a/\H a=some (.tup [.str o.s,u,w])/\Rep H s u/\Rep H t w
 |.ite r s t,v=>∃a u w z,v = .ref a/\H a=some (.tup [.str "if", u,w,z])/\Rep H r u/\Rep H s w/\Rep H t z
 |.lett x s t,v=>∃a u w,v = .ref a/\H a=some (.tup [.str "let", .str x,u,w])/\Rep H s u/\Rep H t w
theorem AtRep.mono {H H':Hp}(k:Tk H H'):∀{t:Atom}{v:V},AtRep H t v->AtRep H' t v
 |.name _,_,⟨a,e,h⟩=>⟨a,e,k _ _ h⟩
 |.num _,_,⟨a,e,h⟩=>⟨a,e,k _ _ h⟩
 |.gap _,_,⟨a,b,e,h,h'⟩=>⟨a,b,e,k _ _ h,k _ _ h'⟩
theorem Rep.mono {H H':Hp}(k:Tk H H'):∀{t:Tr}{v:V},Rep H t v->Rep H' t v
 |.num _,_,⟨a,e,h⟩=>⟨a,e,k _ _ h⟩
 |.name _,_,⟨a,e,h⟩=>⟨a,e,k _ _ h⟩
 |.ask _,_,⟨a,e,h⟩=>⟨a,e,k _ _ h⟩
 |.stop _,_,⟨a,e,h⟩=>⟨a,e,k _ _ h⟩
 |.gap _ _,_,⟨a,b,us,e,h,h',n,p⟩=>⟨a,b,us,e,k _ _ h,k _ _ h',n,Paired.mapP p λ Ω Ω z=>z.mono k⟩
 |.say _,_,⟨a,u,e,h,r⟩=>⟨a,u,e,k _ _ h,r.mono k⟩
 |.bin _ _ _,_,⟨a,u,w,e,h,r,s⟩=>⟨a,u,w,e,k _ _ h,r.mono k,s.mono k⟩
 |.ite _ _ _,_,⟨a,u,w,z,e,h,r,s,t⟩=>⟨a,u,w,z,e,k _ _ h,r.mono k,s.mono k,t.mono k⟩
 |.lett _ _ _,_,⟨a,u,w,e,h,r,s⟩=>⟨a,u,w,e,k _ _ h,r.mono k,s.mono k⟩
inductive Kd where
 |num|name|ask|stop|gap|say|add|sub|mul|thn|ite|lett
 deriving DecidableEq
noncomputable def Kd.s:Kd->Str
 |.num => "num" |.name => "name" |.ask => "ask" |.stop => "stop" |.gap => "gap"
 |.say => "say" |.add => "add" |.sub => "sub" |.mul => "mul" |.thn => "then" |.ite => "if" |.lett => "let"
noncomputable def Kd.leaf:Kd->Bool
 |.num=>true|.name=>true|.ask=>true|.stop=>true|.gap=>true
 |_=>false
theorem Kd.inj {a b:Kd}(h:a.s=b.s):a=b:=by
 revert h;cases a<;>cases b<;>first|(intro _;rfl)|(intro h;exact absurd h (by decide +kernel))
theorem Kd.eq_iff {a b:Kd}:(V.str a.s=V.str b.s)↔a=b:=⟨λ h=>Kd.inj (V.str.inj h),λ h=>by rw[h]⟩
noncomputable def Bin.kd:Bin->Kd
 |.add=>.add|.sub=>.sub|.mul=>.mul|.thn=>.thn
noncomputable def Tr.kd:Tr->Kd
 |.num _=>.num|.name _=>.name|.ask _=>.ask|.stop _=>.stop|.gap _ _=>.gap
 |.say _=>.say|.bin o _ _=>o.kd|.ite _ _ _=>.ite|.lett _ _ _=>.lett
noncomputable def Tr.sign (t:Tr):Str:=t.kd.s
theorem Bin.kd_s (o:Bin):o.kd.s=o.s:=by cases o<;>rfl
noncomputable def Tr.parts:Tr->List Tr
 |.say a=>[a]|.bin _ a b=>[a,b]|.ite a b c=>[a,b,c]|.lett _ a b=>[a,b]
 |_=>[]
noncomputable def Tr.head:Tr->Nat
 |.gap _ _=>3|.say _=>1|.bin _ _ _=>1|.ite _ _ _=>1
 |_=>2
theorem Rep.all {H:Hp}:∀{t:Tr}{v:V},Rep H t v->∃a hs us,v = .ref a/\H a=some (.tup (.str t.sign::hs++us))/\hs.length+1=t.head/\Paired (Rep H) t.parts us
 |.num n,_,⟨a,e,h⟩=>⟨a,[.int n],[],e,h,rfl,.nil⟩
 |.name x,_,⟨a,e,h⟩=>⟨a,[.str x],[],e,h,rfl,.nil⟩
 |.ask x,_,⟨a,e,h⟩=>⟨a,[.str x],[],e,h,rfl,.nil⟩
 |.stop x,_,⟨a,e,h⟩=>⟨a,[.str x],[],e,h,rfl,.nil⟩
 |.gap g _,_,⟨a,b,us,e,h,h',_,p⟩=>⟨a,[.str g,.ref b],[],e,h,rfl,.nil⟩
 |.say _,_,⟨a,u,e,h,r⟩=>⟨a,[],[u],e,h,rfl,.cons r .nil⟩
 |.bin o _ _,_,⟨a,u,w,e,h,r,s⟩=>⟨a,[],[u,w],e,(by show _=some (HO.tup [V.str o.kd.s,u,w]);rw[Bin.kd_s];exact h),rfl,.cons r (.cons s .nil)⟩
 |.ite _ _ _,_,⟨a,u,w,z,e,h,r,s,t⟩=>⟨a,[],[u,w,z],e,h,rfl,.cons r (.cons s (.cons t .nil))⟩
 |.lett x _ _,_,⟨a,u,w,e,h,r,s⟩=>⟨a,[.str x],[u,w],e,h,rfl,.cons r (.cons s .nil)⟩
noncomputable def Tr.size:Tr->Nat
 |.say a=>a.size+1|.bin _ a b=>a.size+b.size+1|.ite a b c=>a.size+b.size+c.size+1|.lett _ a b=>a.size+b.size+1
 |_=>1
theorem zAQ {α:Type}{F:α->V->Prop}{as:List α}{us:List V}{i:Nat}{u:V}(h:Paired F as us):us[i]?=some u->∃a,as[i]?=some a/\F a u:=by
 induction h generalizing i with
 |nil=>exact λ e=>nomatch e
 |cons h t ih=>cases i with
  |zero=>exact λ e=>⟨_,rfl,by cases e;exact h⟩
  |succ i=>exact λ e=>ih (i:=i) (by simpa using e)
theorem zAa {H H':Hp}{p:Addr}{o:HO}(g:Same H H') (h:H p=none):Same H (upd H' p o):=λ b u q=>by rw[zAL (zAK q h)];exact g b u q
theorem zAV {α:Type}{as:List α}{i:Nat}{a:α}(h:as[i]?=some a):as.take (i+1)=as.take i++[a]:=by
 rw[List.take_add_one,h];rfl
noncomputable def Atom.names:Atom->List Str
 |.name x=>[x]
 |_=>[]
noncomputable def Tr.names:Tr->List Str
 |.name x=>[x]
 |.gap _ as=>as.flatMap Atom.names
 |_=>[]
theorem iteY {c:Prop} [Decidable c] {A B:Prop}(hc:c) (h:A):if decide c=true then A else B:=by rw[if_pos (decide_eq_true hc)];exact h
theorem iteN {c:Prop} [Decidable c] {A B:Prop}(hc:¬c) (h:B):if decide c=true then A else B:=by rw[if_neg (by rw[decide_eq_false hc];exact lX)];exact h
theorem zA3 {n:Nat}(h:n<=1000):n<=sizeLine:=Nat.le_of_lt (zAS h)
noncomputable def zC9:List Expr->Option (List V)
 |[]=>some []
 |.Constant (.str x) _ _::r=>(zC9 r).map λ l=>V.str x::l
 |.Constant (.int i) _ _::r=>(zC9 r).map λ l=>V.int i::l
 |_=>none
noncomputable def tRow (vs:List V):TA:=λ Ω H Q=>Q vs H
theorem zK8 {X:Cx}{es:List Expr}:∀(vs:List V),zC9 es=some vs->PA X es (tRow vs):=by
 induction es with
 |nil=>intro vs h;cases h;exact zAC
 |cons e r ih =>
  intro vs h;cases e with
  |Constant c j p =>
   cases c with
   |str x =>
    obtain⟨l,hl,e⟩:=lV.mp (show (zC9 r).map (λ l=>V.str x::l)=some vs from h);subst e;exact zAA zAY (ih l hl)
   |int x =>
    obtain⟨l,hl,e⟩:=lV.mp (show (zC9 r).map (λ l=>V.int x::l)=some vs from h);subst e;exact zAA zAJ (ih l hl)
   |_=>cases h
  |_=>cases h
noncomputable def rowT:Expr->Option (List V)
 |.Tuple es _ _=>zC9 es
 |_=>none
noncomputable def rowL:Expr->Option (List V)
 |.List es _=>zC9 es
 |_=>none
theorem zLd {X:Cx}{e:Expr}(vs:List V) (h:rowT e=some vs):PE X e (tTup (tRow vs)):=by
 unfold rowT at h;split at h
 ·exact zA8 (zK8 vs h)
 ·cases h
theorem zGq {X:Cx}{e:Expr}(vs:List V) (h:rowL e=some vs):PE X e (tLst (tRow vs)):=by
 unfold rowL at h;split at h
 ·exact zA1 (zK8 vs h)
 ·cases h
end L2
namespace L2
open PySem
abbrev DRow:=Str × (Str ⊕ Int)
abbrev En:=Str->Int
abbrev Res:=List DRow × (Int ⊕ Str)
noncomputable def askR (x:Str):DRow:=("ask", .inl x)
noncomputable def sayR (n:Int):DRow:=("say", .inr n)
noncomputable def Bin.op:Bin->Int->Int->Int
 |.add,m,n=>(m+n) % 10 ^ 30
 |.sub,m,n=>(m - n) % 10 ^ 30
 |.mul,m,n=>(m * n) % 10 ^ 30
 |.thn,_,n=>n
noncomputable def En.set (e:En) (x:Str) (n:Int):En:=λ y=>if y=x then n else e y
noncomputable def pre (D:List DRow) (o:Option Res):Option Res:=o.map λ q=>(D++q.1,q.2)
noncomputable def seqR (r:Option Res) (k:Int->Option Res):Option Res:=r.bind λ r=>match r.2 with
 |.inr w=>some (r.1,.inr w)
 |.inl n=>pre r.1 (k n)
noncomputable def ev (a:En):Tr->En->Option Res
 |.num n,_=>some ([],.inl n)
 |.name x,e=>some ([],.inl (e x))
 |.ask x,_=>some ([askR x],.inl (a x))
 |.stop x,_=>some ([],.inr x)
 |.gap _ _,_=>none
 |.say t,e=>seqR (ev a t e) λ n=>some ([sayR n],.inl n)
 |.bin o s t,e=>seqR (ev a s e) λ m=>seqR (ev a t e) λ n=>some ([],.inl (o.op m n))
 |.ite c s t,e=>seqR (ev a c e) λ n=>if n=0 then ev a t e else ev a s e
 |.lett x s t,e=>seqR (ev a s e) λ n=>ev a t (e.set x n)
noncomputable def aft (a:En) (t:Tr) (e:En) (E:List Int):Option (Option Res × List Int) :=
 match t with
 |.say _=>match E with
  |n::E=>some (some ([sayR n],.inl n),E)
  |_=>none
 |.bin .thn _ t=>match E with
  |_::E=>some (ev a t e,E)
  |_=>none
 |.bin o _ _=>match E with
  |n::m::E=>some (some ([],.inl (o.op m n)),E)
  |_=>none
 |.ite _ s t=>match E with
  |n::E=>some (if n=0 then ev a t e else ev a s e,E)
  |_=>none
 |.lett x _ t=>match E with
  |n::E=>some (ev a t (e.set x n),E)
  |_=>none
 |_=>none
abbrev Item:=Tr × En × Bool
noncomputable def cont (a:En):List Item->List Int->Option Res
 |[],[]=>none
 |[],n::_=>some ([],.inl n)
 | (t,e,false)::W,E=>seqR (ev a t e) λ n=>cont a W (n::E)
 | (t,e,true)::W,E=>(aft a t e E).bind λ p=>seqR p.1 λ n=>cont a W (n::p.2)
section
variable {a e:En}{W:List Item}{E:List Int}
end
end L2
namespace L2
open PySem PySem.Spec PyProof.Rows
noncomputable def tOrT (K:W.Frag) (ta tb:TE):TE:=λ σ H Q=>ta σ H λ x H1=>∃k,TruV K x H1 k/\if k=true then Q x H1 else tb σ H1 Q
theorem zK5 {X:Cx}{a b:Expr}{rest:List Expr}{pos:Pos}{ta tb:TE}(ha:PE X a ta) (hb:PE X (.BoolOp .Or (b::rest) pos) tb):PE X (.BoolOp .Or (a::b::rest) pos) (tOrT X.K ta tb):=by
 intro jP s σ H Q I h;refine BoolOp_or (thn (ha jP s σ H _ I h) λ v s1 ⟨x,H1,I1,r1,k,e1,q1⟩=>?_);refine thn (zKx jP s1 σ H1 x v (λ c H2=>if c=true then Q x H2 else tb σ H2 Q) I1 r1 ⟨k,e1,q1⟩) λ c s2 ⟨H2,I2,q2⟩=>?_;cases c with
 |true=>exact⟨x,H2,I2,r1,q2⟩
 |false=>exact hb jP s2 σ H2 Q I2 q2
structure FunD (K:W.Frag) (x qual:Str) (st:Stmt) (f:Addr) (fd:FuncData) (dvs:List Value):Prop where
 ex:∃(oc:Value) (od:Option Addr) (kV doc pm:Value) (an:Option Addr) (cdv ct:Value) (osl:Array (Option Value)) (dt:Addr) (o:Obj) (n:Nat),
  fd=W.fnOf x qual (zBC st) (zA0 st) (zAG st) (.ref dt) kV doc pm an cdv ct/\K.lookup f=some ⟨oc,od,.func fd,osl⟩/\W.codeIn K cdv qual=true/\K.lookup dt=some o/\o.data = .seq dvs.toArray n
 kp:W.keepIn K (.ref f)=true
section
variable {P:Program}{w:World}{K:W.Frag}{mg:Str->Option Value}{base:Heap}
theorem FunD.ok {x qual:Str}{st:Stmt}{f:Addr}{fd:FuncData}{dvs:List Value}{N ps:List Str}{k:Nat}{sp:Sp}(F:FunD K x qual st f fd dvs) (S:zAR N ps (zAG st)) (len:∀vs H Q E,sp vs H Q E->vs.length=ps.length)
  (hbody:∀(cdv:Value) (A:Around) (outer:List Env) (s:Shared) (H:Hp) (vs:List V) (Q:VK) (E:XK),Room k (A.deeper (envOfC qual (zAG st) s.heap.objs.size f cdv))->sp vs H Q E ->
   ∃t,PSs (cxOf CX0 P w K mg base N qual (zAG st) f cdv A outer s H E).nox (zA0 st) t/\t { nx:=λ Ω H'=>Q .non H',rt:=Q } (start N vs) H):FnOk P w K mg base CX0 (k+1) f fd ps sp:=by
 obtain⟨oc,od,kV,doc,pm,an,cdv,ct,osl,dt,o,n,rfl,lk,hcd,_⟩:=F.ex;refine fn_of lk hcd S len λ A outer s H vs Q E hr hsp=>?_;obtain⟨t,h,q⟩:=hbody cdv A outer s H vs Q E hr hsp;exact⟨t,h.nox,q⟩
theorem zJc {x qual:Str}{st:Stmt}{f dt:Addr}{oc:Value}{od an:Option Addr}{osl:Array (Option Value)}{kV doc pm cdv ct:Value}{o:Obj}{dvs:List Value}{n:Nat}(l:K.lookup f=some ⟨oc,od,.func (W.fnOf x qual (zBC st) (zA0 st) (zAG st) (.ref dt) kV doc pm an cdv ct),osl⟩)
  (c:W.codeIn K cdv qual=true) (k:W.keepIn K (.ref f)=true) (ld:K.lookup dt=some o) (hd:o.data = .seq dvs.toArray n):FunD K x qual st f (W.fnOf x qual (zBC st) (zA0 st) (zAG st) (.ref dt) kV doc pm an cdv ct) dvs :=
 ⟨⟨oc,od,kV,doc,pm,an,cdv,ct,osl,dt,o,n,rfl,l,c,ld,hd⟩,k⟩
theorem zIZ:Vals [V.non] [Value.none]:=.cons rfl .nil
end
theorem zHQ:Manifest.owners.lookup (String.ofList ['d', 'e', 's', 'r', 'e', 'v', 'e', 'r'].reverse)=some Manifest.sig_reversed:=by kernel_rfl
theorem zED:Slot "reversed" "__next__" "reversed.__next__" := .of (owner := "reversed") (n := "__next__") (by rw[typeLookup_type,builtinLookup_eq_fast];kernel_rfl) (by decide +kernel) (by decide +kernel) (by decide +kernel) (by first|exact .inl (by decide +kernel)|exact .inr (by decide +kernel)) (by rw[isSubtype_type];kernel_rfl)
theorem zDC:entryFor table "reversed.__next__" = some Builtin.«reversed.__next__»:=entryFor_of_tree (by kernel_rfl)
theorem zDo (a:Value):argsOk "reversed.__next__" ⟨[a],[]⟩:=by unfold argsOk;rw[signature?_of (id := "reversed.__next__") (n:=['_', '_', 't', 'x', 'e', 'n', '_', '_']) (o:=['d', 'e', 's', 'r', 'e', 'v', 'e', 'r']) (by kernel_rfl) zHQ];kernel_rfl
theorem zIq:Slot "reversed" "__iter__" "reversed.__iter__" := .of (owner := "reversed") (n := "__iter__") (by rw[typeLookup_type,builtinLookup_eq_fast];kernel_rfl) (by decide +kernel) (by decide +kernel) (by decide +kernel) (by first|exact .inl (by decide +kernel)|exact .inr (by decide +kernel)) (by rw[isSubtype_type];kernel_rfl)
theorem zFw (a:Value):argsOk "reversed.__iter__" ⟨[a],[]⟩:=by unfold argsOk;rw[signature?_of (id := "reversed.__iter__") (n:=['_', '_', 'r', 'e', 't', 'i', '_', '_']) (o:=['d', 'e', 's', 'r', 'e', 'v', 'e', 'r']) (by kernel_rfl) zHQ];kernel_rfl
theorem zFH:entryFor table "reversed.__iter__" = some Builtin.«dict_keyiterator.__iter__»:=entryFor_alias (id' := "dict_keyiterator.__iter__") (by kernel_rfl) (by first|rfl|decide +kernel|(unfold String.splitOn;simp +decide [String.splitOnAux])) (by decide +kernel) (by kernel_rfl)
theorem zLT:Slot "reversed" "__init__" "object.__init__" := .of (owner := "object") (n := "__init__") (by rw[typeLookup_type,builtinLookup_eq_fast];kernel_rfl) (by decide +kernel) (by decide +kernel) (by decide +kernel) (by first|exact .inl (by decide +kernel)|exact .inr (by decide +kernel)) (by rw[isSubtype_type];kernel_rfl)
theorem zIr:TypeCalled "reversed" "reversed.__new__" "object.__init__" := ⟨by decide +kernel,F.create_reversed,⟨_,_,F.mro_reversed⟩,F.made_reversed,F.plain_reversed_new,F.sub_reversed_self,zLT⟩
theorem zH3:typeLookup (.type "tuple") "__reversed__" = pure none:=by rw[typeLookup_type,builtinLookup_eq_fast];kernel_rfl
noncomputable def rvObj (l:Addr) (i:Int):Obj:={ cls:=.type "reversed", data:=.fields #[.ref l,rawInt i] }
theorem zIN (l:Addr) (items:Array Value) (hz:(items.size:Int)<2 ^ 63) :
  Meets (Builtin.«reversed.__new__» ⟨[.type "reversed", .ref l],[]⟩) (λ Ω R s=>IsTup s.heap l items/\R (.ok (.ret (.ref s.heap.objs.size))) { s with heap:=s.heap.push (rvObj l ((items.size:Int) - 1)),toks:=s.toks+1+1 }) :=
 .of_wp λ prog w A R s h=>by
  obtain⟨ht,h⟩:=h;unfold Builtin.«reversed.__new__»;refine lA (wpAny_of_eq (newClass_reversed _) ?_);dsimp only;refine lA (wpAny_of_eq (a:=()) (by first|rfl|kernel_rfl) ?_);refine lA (wpAny_of_eq (a:=()) (by first|rfl|kernel_rfl) ?_);try dsimp only
  refine lA (wpAny_specialOf ht.typeIs zH3 ?_);dsimp only;refine lA ?_;show wpAny _ _ (isInstance (.ref l) (.type "dict") >>= _) _ _ s;refine lA (wpAny_isInstance ht.typeIs F.sub_tuple_dict ?_);show wpAny _ _ (specialOf (.ref l) "__getitem__" >>= _) _ _ s;refine lA (wpAny_specialOf ht.typeIs slot_tuple_getitem.lookup ?_);dsimp only;rw[if_pos (by decide)];refine lB ?_;show wpAny _ _ (call (.builtin "len") [.ref l] >>= _) _ _ s;refine lA (len_tuple ht hz ?_);refine lA (wpAny_of_eq (a:=some (items.size:Int)) rfl ?_);dsimp only;refine lA ?_;unfold Builtin.SmallTypes.newRecord;dsimp only;refine wpAny_newObj_type ?_ (by size_fits);exact lB ⟨_,rfl,h⟩
section
variable {prog:Program}{w:World}{A:Around}{E:Value->Shared->Prop}{s:Shared}
theorem zJs {l:Addr}{items:Array Value}{Q:Value->Shared->Prop}(ht:IsTup s.heap l items) (hz:(items.size:Int)<2 ^ 63) (h:Q (.ref s.heap.objs.size) { s with heap:=s.heap.push (rvObj l ((items.size:Int) - 1)),toks:=s.toks+1+1 }) :
  wpAny (model prog w) A (call (.type "reversed") [.ref l]) Q E s:=by
 refine callType_new zIr (by decide) (F.typeCall_reversed_1 _) (F.newCall_reversed_1 _) (λ obj=>F.args_object_init_2 obj _) F.entry_reversed_new (zIN l items hz) ⟨ht,?_⟩;exact⟨⟨_,lG _ rfl,rfl⟩,h⟩
theorem zJU {it t:Addr}{i:Int}{Q:Value->Shared->Prop}(hit:s.heap.get? it=some (rvObj t i)) (h:Q (.ref it) s):wpAny (model prog w) A (pyIter (.ref it)) Q E s:=by
 have hT:s.TypeIs (.ref it) "reversed" := ⟨_,hit,rfl⟩;refine wpAny_pyIter_slot hT zIq (wpAny_call_entry zIq hT zFH ?_ (zFw _));show wpAny _ _ (ret (.ref it)) _ _ s;exact lB ⟨_,rfl, "reversed", _,hT,zED.lookup,h⟩
theorem zLp {it t:Addr}{i:Nat}{items:Array Value}{x:Value}{Q:Option Value->Shared->Prop}(hit:s.heap.get? it=some (rvObj t (i:Int))) (ht:IsTup s.heap t items) (hne:t≠it) (hz:(items.size:Int)<2 ^ 63) (hx:items[i]?=some x)
  (hQ:∀h' tk,h'.get? it=some (rvObj t ((i:Int) - 1))->Heap.SameBut it s.heap h'->Q (some x) { s with heap:=h',toks:=tk }):wpAny (model prog w) A (pyNext (.ref it)) Q E s:=by
 have hT:s.TypeIs (.ref it) "reversed" := ⟨_,hit,rfl⟩
 have hi:i<items.size:=by
  rcases Nat.lt_or_ge i items.size with h|h
  ·exact h
  ·rw[Array.getElem?_eq_none h] at hx;cases hx
 unfold pyNext;refine lA (wpAny_attempt (wpAny_callSpecial?_slot (name:=Str.ofString "__next__") hT zED (wpAny_call_entry zED hT zDC ?_ (zDo _))));unfold Builtin.«reversed.__next__»;refine lA (wpAny_of_eq (a:=(Value.ref it,[])) rfl ?_);dsimp only;refine lA (wpAny_field hit rfl (x:=.ref t) rfl ?_);refine lA (wpAny_field hit rfl (x:=rawInt (i:Int)) rfl ?_);show wpAny _ _ (if (i:Int)<0 then _ else _) _ _ s;rw[if_neg (by omega)];show wpAny _ _ (specialOf (.ref t) "__getitem__" >>= _) _ _ s;refine lA (wpAny_specialOf ht.typeIs slot_tuple_getitem.lookup ?_);rw[if_neg (by decide)];show wpAny _ _ (mkInt (i:Int) >>= _) _ _ s;refine lA (wpAny_mkInt ?_);refine lA (wpAny_attempt (getItem_tuple (j:=i) (x:=x) ht (by omega) (by omega) (seqIndex_of (by omega) (by omega)) hx ?_));dsimp only;refine lA (wpAny_field hit rfl (x:=rawInt (i:Int)) rfl ?_);refine lA (wpAny_setField_rec hit (by simp) λ q1 h1 hs1=>?_);refine lB ⟨x,rfl,lB (hQ q1 _ ?_ hs1)⟩;exact h1
theorem zMf {it t:Addr}{i:Int}{Q:Option Value->Shared->Prop}(hh:A.handled=none) (hit:s.heap.get? it=some (rvObj t i)) (hi:i<0)
  (hQ:∀h' tk,Heap.ExtBut it s.heap h'->Q none { s with heap:=h',toks:=tk }):wpAny (model prog w) A (pyNext (.ref it)) Q E s:=by
 have hT:s.TypeIs (.ref it) "reversed" := ⟨_,hit,rfl⟩;unfold pyNext;refine lA (wpAny_attempt (wpAny_callSpecial?_slot (name:=Str.ofString "__next__") hT zED (wpAny_call_entry zED hT zDC ?_ (zDo _))));unfold Builtin.«reversed.__next__»;refine lA (wpAny_of_eq (a:=(Value.ref it,[])) rfl ?_);dsimp only;refine lA (wpAny_field hit rfl (x:=.ref t) rfl ?_);refine lA (wpAny_field hit rfl (x:=rawInt i) rfl ?_);show wpAny _ _ (if i<0 then _ else _) _ _ s;rw[if_pos hi];refine lA (wpAny_rule ?_);refine lA ?_;show wpAny _ _ (setField (.ref it) 1 (rawInt (-1)) >>= _) _ _ s;refine lA (wpAny_setField_rec hit (by simp) λ q1 h1 hs1=>?_);refine wpAny_setField_rec h1 (by simp) λ q2 h2 hs2=>?_;refine lA ?_;show wpAny _ _ (newExc (.type "StopIteration") [] >>= _) _ _ _;refine lA ?_;simp only[newExc,newTuple];refine lA (wpAny_newObj_type ?_ (by size_fits));refine lA (m:=firstArgMember _ _) (wpAny_of_eq (a:=Value.none) (by first|rfl|(simp only[firstArgMember];rfl)) ?_);refine wpAny_newObj_type ?_ (by size_fits);simp only[raiseNew];refine lA (wpAny_handled ?_);first|rw[show A.in1.handled=none from hh]|rw[hh]
 refine lA (lB (wpAny_throw ?_));refine lA (wpAny_isInstance (T := "StopIteration") (b:=true) ⟨_,lG _ rfl,rfl⟩ isSubtype_stop ?_);exact lB (hQ _ _ (((hs1.extBut.trans hs2.extBut).push _).push _))
end
noncomputable def Itv (K:W.Frag) (a:Addr) (n:Nat):It :=
 ⟨λ i H=>i<n/\∃xs x,SqT K H a xs/\xs.length=n/\xs[n - 1 - i]?=some x,λ i H x H'=>H'=H/\∀xs,SqT K H a xs->xs[n - 1 - i]?=some x,λ i Ω=>n<=i⟩
theorem zLN {P:Program}{w:World}{K:W.Frag}{tg:Expr}(a it:Addr) (n:Nat):Turn P w K tg (Itv K a n) [it] it (λ i h=>h.get? it=some (rvObj a ((n:Int) - 1 - (i:Nat)))) where
 mem:=by simp
 obj:=λ i h st b hb=>by
  have e:b=it:=by simpa using hb
  subst e;exact⟨_,st,λ v z=>by have z':Data.fields _=Data.cell v:=z;cases z'⟩
 keep:=λ i h h' st k=>k it (by simp) _ st
 item:=by
  intro X hP hw hK hc i jP s σ H E I hf st hg;subst hP hw hK;obtain⟨hin,xs,x,hq,hl,hx⟩:=hg;obtain⟨its,rv,p,hz⟩:=I.tuple hq;obtain⟨u,hu,ru⟩:=rv.get hx;obtain⟨f0,f1,f2,f3,f4,f5⟩:=hf it (by simp);have hn:=zDs;have hlv:=rv.length
  have hai:a≠it:=λ z=>by
   obtain⟨o1,q1,c1,_⟩:=p;rw[z,st] at q1;cases q1;injection c1 with c3;exact absurd c3 (by decide)
  have e:(n:Int) - 1 - (i:Nat)=((n - 1 - i:Nat):Int):=by omega
  rw[e] at st;refine zLp st p hai (by rw[List.size_toArray];omega) (x:=u) (by simpa using hu) λ h' tk st' sb=>?_;have I1:Inv X jP σ H { s with heap:=h',toks:=tk }:=I.turned (t':=tk) (λ b o hb e=>(sb.2 b hb).trans e) f0 f1 f3 f4 f5;refine⟨u,rfl,go_of (s:={ s with heap:=h',toks:=tk }) (n := "reversed") st' rfl rfl (by decide) ⟨x,H,I1,ru,⟨rfl,λ ys hy=>by rw[I.tuple_inj hy hq];exact hx⟩,?_,λ b hb=>(hf b hb).1⟩⟩;have e2:(n:Int) - 1 - ((i+1:Nat):Int)=((n - 1 - i:Nat):Int) - 1:=by omega
  show h'.get? it=some (rvObj a ((n:Int) - 1 - ((i+1:Nat):Int)));rw[e2];exact st'
 done:=by
  intro X hP hw hK hc i jP s σ H E I hf st hg;subst hP hw hK;obtain⟨f0,f1,f2,f3,f4,f5⟩:=hf it (by simp);have hg':n<=i:=hg;exact zMf (I.ok.hd hc) st (by omega) λ h' tk eb=>⟨rfl,I.turned (t':=tk) (λ b o hb e=>eb b o hb e) f0 f1 f3 f4 f5⟩
 self:=λ Ω Ω Ω Ω Ω st h=>zJU st h
noncomputable def iRev (K:W.Frag) (ta:TA):TI:=λ σ H R=>ta σ H λ vs H1=>∃a,vs=[.ref a]/\∃xs,SqT K H1 a xs/\R (Itv K a xs.length) H1
theorem zLc {X:Cx}{tg a:Expr}{ta:TA}{p pos:Pos}(hg:Gl X "reversed") (hm:X.mg "reversed" = none) (ha:PA X [a] ta) (hs:starEach [a] X.env=[(false,eval a X.env)]:=by rfl):PI X tg (.Call (.Name "reversed" p) [a] [] pos) (iRev X.K ta):=by
 intro jP s σ H R I h;refine Call_ (zBv I hg hm boot_reversed (PyProof.Rows.callWith_type1 (thn (ha pos jP s σ H _ I h) λ us s1 ⟨vs,H1,I1,r1,q1⟩=>?_) hs rfl));obtain⟨b,e,xs,hq,q⟩:=q1;subst e;obtain⟨u,rfl,ru⟩:=vals1 r1;cases ru;obtain⟨its,rv,tp,hz⟩:=I1.tuple hq;have hl:=rv.length;have hn:=zDs;refine zJs tp (by rw[List.size_toArray];omega) ?_;have hnew:(s1.heap.push (rvObj b ((its.toArray.size:Int) - 1))).get? s1.heap.objs.size=some (rvObj b ((its.toArray.size:Int) - 1)):=lG _ rfl;refine zJU hnew ⟨_,[s1.heap.objs.size],_,_,H1,rfl,I1.kept (t':=s1.toks+1+1) (λ c o e=>lE _ e),zLN b _ xs.length,?_,λ c hc=>?_,q⟩
 ·show _=some (rvObj b ((xs.length:Int) - 1 - ((0:Nat):Int)))
  rw[hnew,List.size_toArray,hl];simp
 ·have e:=List.mem_singleton.mp hc
  subst e;exact I1.fpOk (lQ _) (I1.hok.fresh (lQ _))
theorem zLx {K:W.Frag}{a:Addr}{xs:List V}{g:TG}{tb:TS}{D:Ends}{σ:St}{H:Hp}(Pv:Nat->St->Hp->Prop) (h0:Pv 0 σ H) (hl:∀i σ H,i<=xs.length->Pv i σ H->SqT K H a xs)
  (hs:∀i x σ H,i<xs.length->xs[xs.length - 1 - i]?=some x->Pv i σ H->g x σ H λ σ2 H2=>tb { D with nx:=Pv (i+1),ct:=Pv (i+1),bk:=D.nx } σ2 H2) (hd:∀σ H,Pv xs.length σ H->D.nx σ H) :
  ∃W:Nat->Nat->St->Hp->Prop,(∃m,W 0 m σ H)/\∀i m σ H,W i m σ H ->
   ((Itv K a xs.length).stop i H/\D.nx σ H)\/((Itv K a xs.length).go i H/\∃N:St->Hp->Prop,(∀σ' H',N σ' H'->∃m',m'<m/\W (i+1) m' σ' H')/\∀x H',(Itv K a xs.length).yld i H x H'->g x σ H' λ σ2 H2=>tb { D with nx:=N,ct:=N,bk:=D.nx } σ2 H2):=by
 refine⟨λ i m σ H=>m=xs.length - i/\i<=xs.length/\Pv i σ H,⟨xs.length,by simp,lY _,h0⟩,?_⟩;rintro i m σ H ⟨rfl,hi,p⟩;have q:=hl i σ H hi p
 by_cases hlt:i<xs.length
 ·have hk:xs.length - 1 - i<xs.length:=by omega
  refine .inr ⟨⟨hlt,xs,xs[xs.length - 1 - i],q,rfl,by simp[hk]⟩,Pv (i+1),λ σ' H' p'=>⟨xs.length - (i+1),by omega,rfl,hlt,p'⟩,λ x H' y=>?_⟩;obtain⟨eH,y⟩:=y;subst eH;exact hs i x σ _ hlt (y xs q) p
 ·have e:i=xs.length:=by omega
  subst e;exact .inl ⟨lQ _,hd σ H p⟩
section
variable {aA dl el wl:Addr}
end
section
variable {C:Addr}{H H':Hp}{p aA dl el wl:Addr}{ds es ws:List V}
end
theorem zAT {α:Type}{F:α->V->Prop}{as bs:List α}{us vs:List V}(h:Paired F as us) (k:Paired F bs vs):Paired F (as++bs) (us++vs):=by
 induction h with
 |nil=>exact k
 |cons r t ih=>exact .cons r ih
section
variable {C:Addr}{H H':Hp}{p aA dl el wl:Addr}{a:En}{W:List Item}{E:List Int}{D:List DRow}
end
theorem zAH {α:Type}{F:α->V->Prop}{as:List α}{us:List V}(h:Paired F as us):us.length=as.length:=h.length.symm
theorem zFi:∀{ys:List Str}{us:List Value},Vals (ys.map V.str) us->StrsAre us ys
 |[],_,h=>by cases h;exact .nil
 |y::ys,_,h=>by
  cases h with
  |cons r t =>
   obtain⟨tk,rfl⟩:=r;exact .cons y tk (zFi t)
noncomputable def rJoin:V->List V->Hp->VK->Prop:=λ x xs H Q=>∃(z:Str) (l:Addr) (ys:List Str),x = .str z/\xs=[.ref l]/\H l=some (.lst (ys.map V.str))/\z.length<=16/\(ys.map (·.length)).sum+ys.length<=1048576/\Q (.str (Txt.join z ys)) H
theorem zLq {X:Cx}:MtR X "str.join" rJoin:=by
 intro jP s σ H x xs v us Q I rx rs h;obtain⟨z,l,ys,rfl,rfl,hl,hz,hw,q⟩:=h;obtain⟨t,rfl⟩:=rx;obtain⟨u,rfl,ru⟩:=Vals.one rs;cases ru;obtain⟨_,its,n,r,le,e⟩:=I.lstM hl;have L1:s.heap.IsList l its.toArray:=⟨_,e,rfl,_,rfl⟩;exact join_listW L1 (zFi r) hz hw λ t' k=>⟨.str _,H,I.tok k,⟨t',rfl⟩,q⟩
noncomputable def Itw (K:W.Frag) (a:Addr) (n:Nat):It :=
 ⟨λ i H=>i<n/\∃xs x,SqL K H a xs/\xs.length=n/\xs[n - 1 - i]?=some x,λ i H x H'=>H'=H/\∀xs,SqL K H a xs->xs[n - 1 - i]?=some x,λ i Ω=>i=n⟩
theorem zJ3 {P:Program}{w:World}{K:W.Frag}{tg:Expr}(a it:Addr) (n:Nat):Turn P w K tg (Itw K a n) [it] it (λ i h=>h.IsRevIter it a ((n:Int) - 1 - (i:Nat))) where
 mem:=by simp
 obj:=λ i h st b hb=>by
  have e:b=it:=by simpa using hb
  subst e;obtain⟨o,e,c,d⟩:=st;exact⟨o,e,λ v z=>by rw[d] at z;cases z⟩
 keep:=λ i h h' st k=>st.at λ o e=>k it (by simp) o e
 item:=by
  intro X hP hw hK hc i jP s σ H E I hf st hg;subst hP hw hK;obtain⟨hin,xs,x,hq,hl,hx⟩:=hg;obtain⟨its,rv,p,hz⟩:=I.list hq;obtain⟨u,hu,ru⟩:=rv.get hx;obtain⟨f0,f1,f2,f3,f4,f5⟩:=hf it (by simp);have e:(n:Int) - 1 - (i:Nat)=((n - 1 - i:Nat):Int):=by omega
  rw[e] at st;refine wpAny_pyNext_rev_item st p.isList (x:=u) (by simpa using hu) λ h' st' sb=>?_;have I1:Inv X jP σ H { s with heap:=h' }:=I.turned (t':=s.toks) (λ b o hb e=>(sb.2 b hb).trans e) f0 f1 f3 f4 f5;obtain⟨o,eo,c,d⟩:=id st';refine⟨u,rfl,go_of (s:={ s with heap:=h' }) eo c d (by decide) ⟨x,H,I1,ru,⟨rfl,λ ys hy=>by rw[I.list_inj hy hq];exact hx⟩,?_,λ b hb=>(hf b hb).1⟩⟩;have e2:(n:Int) - 1 - ((i+1:Nat):Int)=((n - 1 - i:Nat):Int) - 1:=by omega
  show h'.IsRevIter it a ((n:Int) - 1 - ((i+1:Nat):Int));rw[e2];exact st'
 done:=by
  intro X hP hw hK hc i jP s σ H E I hf st hg;subst hP hw hK;obtain⟨f0,f1,f2,f3,f4,f5⟩:=hf it (by simp);have hg':i=n:=hg;subst hg';have e:(i:Int) - 1 - (i:Nat) = -1:=by omega
  rw[e] at st;exact wpAny_pyNext_rev_end (I.ok.hd hc) st λ h' eb=>⟨rfl,I.turned (t':=s.toks) (λ b o hb e=>eb b o hb e) f0 f1 f3 f4 f5⟩
 self:=λ Ω Ω Ω Ω Ω st h=>wpAny_pyIter_revIter st h
noncomputable def iRevL (K:W.Frag) (ta:TA):TI:=λ σ H R=>ta σ H λ vs H1=>∃a,vs=[.ref a]/\∃xs,SqL K H1 a xs/\R (Itw K a xs.length) H1
theorem zIy {X:Cx}{tg a:Expr}{ta:TA}{p pos:Pos}(hg:Gl X "reversed") (hm:X.mg "reversed" = none) (ha:PA X [a] ta) (hs:starEach [a] X.env=[(false,eval a X.env)]:=by rfl):PI X tg (.Call (.Name "reversed" p) [a] [] pos) (iRevL X.K ta):=by
 intro jP s σ H R I h;refine Call_ (zBv I hg hm boot_reversed (PyProof.Rows.callWith_type1 (thn (ha pos jP s σ H _ I h) λ us s1 ⟨vs,H1,I1,r1,q1⟩=>?_) hs rfl));obtain⟨b,e,xs,hq,q⟩:=q1;subst e;obtain⟨u,rfl,ru⟩:=vals1 r1;cases ru;obtain⟨its,rv,tp,hz⟩:=I1.list hq;have hl:=rv.length;refine call_reversed_list tp.isList ?_;have hnew:Heap.IsRevIter (s1.heap.push (revObj b ((its.toArray.size:Int) - 1))) s1.heap.objs.size b ((its.toArray.size:Int) - 1):=⟨_,lG _ rfl,rfl,rfl⟩;refine wpAny_pyIter_revIter hnew ⟨_,[s1.heap.objs.size],_,_,H1,rfl,I1.kept (t':=s1.toks) (λ c o e=>lE _ e),zJ3 b _ xs.length,?_,λ c hc=>?_,q⟩
 ·have e:(xs.length:Int) - 1 - ((0:Nat):Int)=(its.toArray.size:Int) - 1:=by rw[List.size_toArray];omega
  show Heap.IsRevIter _ _ _ ((xs.length:Int) - 1 - ((0:Nat):Int));rw[e];exact hnew
 ·have e:=List.mem_singleton.mp hc
  subst e;exact I1.fpOk (lQ _) (I1.hok.fresh (lQ _))
theorem zHj {K:W.Frag}{a:Addr}{xs:List V}{g:TG}{tb:TS}{D:Ends}{σ:L2.St}{H:Hp}(Pv:Nat->St->Hp->Prop) (h0:Pv 0 σ H) (hl:∀i σ H,i<=xs.length->Pv i σ H->SqL K H a xs)
  (hs:∀i x σ H,i<xs.length->xs[xs.length - 1 - i]?=some x->Pv i σ H->g x σ H λ σ2 H2=>tb { D with nx:=Pv (i+1),ct:=Pv (i+1),bk:=D.nx } σ2 H2) (hd:∀σ H,Pv xs.length σ H->D.nx σ H) :
  ∃W:Nat->Nat->St->Hp->Prop,(∃m,W 0 m σ H)/\∀i m σ H,W i m σ H ->
   ((Itw K a xs.length).stop i H/\D.nx σ H)\/((Itw K a xs.length).go i H/\∃N:St->Hp->Prop,(∀σ' H',N σ' H'->∃m',m'<m/\W (i+1) m' σ' H')/\∀x H',(Itw K a xs.length).yld i H x H'->g x σ H' λ σ2 H2=>tb { D with nx:=N,ct:=N,bk:=D.nx } σ2 H2):=by
 refine⟨λ i m σ H=>m=xs.length - i/\i<=xs.length/\Pv i σ H,⟨xs.length,by simp,lY _,h0⟩,?_⟩;rintro i m σ H ⟨rfl,hi,p⟩;have q:=hl i σ H hi p
 by_cases hlt:i<xs.length
 ·have hk:xs.length - 1 - i<xs.length:=by omega
  refine .inr ⟨⟨hlt,xs,xs[xs.length - 1 - i],q,rfl,by simp[hk]⟩,Pv (i+1),λ σ' H' p'=>⟨xs.length - (i+1),by omega,rfl,hlt,p'⟩,λ x H' y=>?_⟩;obtain⟨eH,y⟩:=y;subst eH;exact hs i x σ _ hlt (y xs q) p
 ·have e:i=xs.length:=by omega
  subst e;exact .inl ⟨rfl,hd σ H p⟩
theorem zDg {K:W.Frag}{a:Addr}{xs:List V}{acc:Addr}{g:TG}{tt:TT}{te:TE}{σ:L2.St}{H:Hp}{R:Hp->Prop}(Pv:Nat->Hp->Prop) (h0:Pv 0 (upd H acc (.lst []))) (hl:∀i H,i<=xs.length->Pv i H->SqL K H a xs)
  (hs:∀i x H,xs[i]?=some x->Pv i H->g x σ H λ σ2 H4=>Ext σ σ2/\tt σ2 H4 λ b H5 =>
   if b=true then te σ2 H5 λ y H6=>∃zs,H6 acc=some (.lst zs)/\zs.length<sizeLine/\Pv (i+1) (upd H6 acc (.lst (zs++[y]))) else Pv (i+1) H5) (hd:∀H,Pv xs.length H->R H) :
  ∃W:Nat->Nat->Hp->Prop,(∃m,W 0 m (upd H acc (.lst [])))/\∀i m H2,W i m H2 ->
   ((Itl K a).stop i H2/\R H2)\/((Itl K a).go i H2/\∃N:Hp->Prop,(∀H',N H'->∃m',m'<m/\W (i+1) m' H')/\∀x H3,(Itl K a).yld i H2 x H3->g x σ H3 λ σ2 H4=>Ext σ σ2/\tt σ2 H4 λ b H5 =>
    if b=true then te σ2 H5 λ y H6=>∃zs,H6 acc=some (.lst zs)/\zs.length<sizeLine/\N (upd H6 acc (.lst (zs++[y])))
    else N H5):=by
 refine⟨λ i m H=>m=xs.length - i/\i<=xs.length/\Pv i H,⟨xs.length,by simp,lY _,h0⟩,?_⟩;rintro i m H2 ⟨rfl,hi,p⟩;have q:=hl i H2 hi p
 by_cases hlt:i<xs.length
 ·refine .inr ⟨⟨xs,xs[i],q,by simp[hlt]⟩,Pv (i+1),λ H' p'=>⟨xs.length - (i+1),by omega,rfl,hlt,p'⟩,λ x H' y=>?_⟩
  obtain⟨e,y⟩:=y;subst e;exact hs i x _ (y xs q) p
 ·have e:i=xs.length:=by omega
  subst e;exact .inl ⟨⟨xs,q,lQ _⟩,hd H2 p⟩
section
variable {prog:Program}{w:World}
open AutoSeq1 (wpAny_loadPart')
open MeetsSeq MeetsSeq2 MeetsSeq3 SeqAt
end
end L2
set_option maxHeartbeats 1000000
namespace L2
open PySem PySem.Spec PyProof.Rows
section
variable {X:Cx}
theorem zLZ {elt tg iter:Expr}{y:Str}{py spos:Pos}{jj:Nat}{ifs:List Expr}{sc:Scope}{pos:Pos}{wi:TI}{g:TG}{tt:TT}{te:TE}(N:List Str) (cap:List (Option Nat)) (hc:X.calm=true) (hi:PI X tg iter wi)
    (hg:∀cl s H C ex,PG (X.block sc cl N s H C ex) tg g) (ht:∀cl s H C ex,PTs (X.block sc cl N s H C ex) ifs tt) (he:∀cl s H C ex,PE (X.block sc cl N s H C ex) elt te)
    (hk:sc.kind = .function) (nc:∀y∈sc.names,y.2 ≠ .cell) (hnames:∀y∈sc.names,y.2 = .local->sc.names.lookup y.1=some .local)
    (hfree:∀n,(n,NameKind.free)∈sc.names->X.env.kindOf n=some .cell)
    (hcap:∀(i j:Nat),cap[i]?=some (some j)->∃x,N[i]?=some x/\X.N[j]?=some x/\sc.names.lookup x=some .free) (hlen:cap.length=N.length)
    (hN:X.N.Nodup) (hjj:X.N[jj]?=some y) (hxx:Loc X.env.scope y) (hf:X.fn y=true\/X.env.scope.names.lookup y=some .local)
    (hsw:swapsWith (.ListComp elt [⟨tg,iter,ifs,0⟩] sc pos) (some (.Name y py)) spos.line X.env=pure true)
    (hs:∀x,foldedSetIterable iter X.env x=pure x:=by intro _;rfl):PS X (.Assign [.Name y py] (.ListComp elt [⟨tg,iter,ifs,0⟩] sc pos) spos) (tAsg (tComp cap wi g tt te) (gName jj)):=by
  intro jP s σ H D I h;obtain⟨cl,hclos,c1,c2⟩:=zE4 (sc:=sc) (env:=X.env) λ n hn=>I.ok.has n (.inl (hfree n hn));rw[exec_Assign_Name_used _ _ _ _ hsw];refine lA (wpAny_standAt (lA ?_));show wpAny _ X.A (do let _ ← comprehension (.ListComp elt [⟨tg,iter,ifs,0⟩] sc pos) sc X.env _ (newList []) false (eval iter X.env) (some (assign (.Name y py) X.env))) _ _ s;refine lA (wpAny_mono (wpAny_comprehension_free (use:=some (assign (.Name y py) X.env)) (Q:=λ Ω s'=>SP X jP D .next s') rfl hs hclos hk hnames ?_) (λ Ω s' hq=>lB (lB hq)) λ Ω Ω e=>e);refine thn (hi jP s σ H _ I h) λ v s1 h1=>thn h1 λ itv s2 h2=>?_;obtain⟨it,fp,tn,J,H2,e,I2,T,st2,f2,q2⟩:=h2;subst e;have hfr:H2 s2.heap.objs.size=none:=I2.fresh;obtain⟨W,⟨m0,w0⟩,turn⟩:=q2 s2.heap.objs.size hfr;have I3:=I2.lnew (ys:=[]) (its:=[]) (t':=s2.toks) .nil (lY _);have hacc:H2 s2.heap.objs.size=none:=hfr;refine wpAny_newObj_type (wpAny_newFunctionEnv nc (by intro y hy;simp at hy) (λ h4 hns hsb=>?_) hk);generalize hs3:({ s2 with heap:=s2.heap.push { cls:=.type "list", data:=.seq ([]:List Value).toArray } }:Shared)=s3 at hns hsb I3 ⊢;have hheap:s3.heap=s2.heap.push { cls:=.type "list", data:=.seq ([]:List Value).toArray }:=by rw[←hs3]
  generalize hH3:upd H2 s2.heap.objs.size (.lst [])=H3 at I3 w0;have up2:∀b o,s2.heap.get? b=some o->s3.heap.get? b=some o:=λ b o q=>by rw[hheap];exact lE _ q
  have neA:∀b∈fp,b≠s2.heap.objs.size:=λ b hb=>by
    obtain⟨o,q,_⟩:=T.obj _ _ st2 b hb;exact lR (lH q)
  have f3:∀b∈fp,FpOk X jP H3 b:=λ b hb=>⟨by rw[←hH3,zAL (neA b hb)];exact(f2 b hb).1,(f2 b hb).2⟩
  have o3:∀b∈fp,∃o,s3.heap.get? b=some o:=λ b hb=>by
    obtain⟨o,q,_⟩:=T.obj _ _ st2 b hb;exact⟨o,up2 b o q⟩
  have ok':=zHt (N:=N) (C:=s3.heap.objs.size) I3 hk nc (lQ _) f3 o3 c1 c2;generalize hC:s3.heap.objs.size=C at hns hsb ok' ⊢;have ltC:∀b o,s3.heap.get? b=some o->b≠C:=λ b o q=>by rw[←hC];exact lR (lH q)
  have up4:∀b o,s3.heap.get? b=some o->h4.get? b=some o:=λ b o q=>hsb.extBut b o (ltC b o q) (lE _ q);have st4:tn 0 h4:=T.keep _ _ _ st2 λ b hb o q=>up4 b o (up2 b o q)
  have I4:Inv (X.block sc cl N s3 H3 C fp) [] (capSt cap σ) H3 { s3 with heap:=h4,toks:=s3.toks+([]:List (Str × Value)).length }:=by
    refine⟨ok',rfl,I3.bare,Un.kept up4,⟨_,hns,λ i x v e1 e2 e3=>?_⟩,λ x c q=>?_,?_,λ x c q=>I3.freeC x c (c1 x c q),λ p hp=>(nomatch hp),I3.hok.kept up4,?_⟩
    · have ee:∃j,cap[i]?=some (some j)/\σ[j]?=some (some v):=by
        unfold capSt at e2;rw[List.getElem?_map] at e2;cases q:cap[i]? with
        |none=>rw[q] at e2;cases e2
        |some o =>
          rw[q] at e2;cases o with
          |none=>cases e2
          |some j =>
            refine⟨j,rfl,?_⟩;have e2':some ((σ[j]?).join)=some (some v):=e2;cases z:σ[j]? with
            |none=>rw[z] at e2';cases e2'
            |some o' =>
              rw[z] at e2';have e2'':o'=some v:=mE e2';rw[e2'']
      obtain⟨j,ej,es⟩:=ee;obtain⟨x',n1,n2,n3⟩:=hcap i j ej;have e1':N[i]?=some x:=e1;rw[n1] at e1';cases e1';have hfr':(x,NameKind.free)∈sc.names:=zDe n3;have kc:=hfree x hfr';obtain⟨m,_,hl⟩:=I3.loc;obtain⟨u,r,l⟩:=hl j x v n2 es (.inr (.inl kc));refine⟨u,r,?_⟩;rcases l with ⟨l,_⟩|⟨_,c,ec,z⟩
      · rw[kc] at l;cases l
      · obtain⟨c',ec'⟩:=c2 x hfr'
        have:=c1 x c' ec';rw[ec] at this;cases this;obtain⟨oc,q1,q2⟩:=z;exact .inr ⟨zBK (sc:=sc) n3,c,ec',oc,up4 _ _ q1,q2⟩
    · obtain⟨v,oc,q1,q2⟩:=I3.cell x c (c1 x c q)
      exact⟨v,oc,up4 _ _ q1,q2⟩
    · exact I3.hok.fresh (by rw[hC];exact lQ _)
    · show (capSt cap σ).length=N.length
      unfold capSt;rw[List.length_map,hlen]
  have loop:codeAny (model X.prog X.w) X.A (.compLoop (.ListComp elt [⟨tg,iter,ifs,0⟩] sc pos) 0 (.ref it) (.ref s2.heap.objs.size) (compEnvC sc cl C X.env)) (compPost (model X.prog X.w) X.A X.xe (some (assign (.Name y py) X.env)) (λ Ω s'=>SP X jP D .next s') (.ref s2.heap.objs.size) C)
      { s3 with heap:=h4,toks:=s3.toks+([]:List (Str × Value)).length }:=by
    have stat:∀{H':Hp},(∀b∈fp,H' b=none)->∀b∈fp,FpOk (X.block sc cl N s3 H3 C fp) [] H' b:=λ hn b hb =>
      ⟨hn b hb,(ok'.exf b hb).1,ok'.exfs b hb,.inl hb,(ok'.exf b hb).2,λ p hp=>(nomatch hp)⟩
    refine zGH (λ n s'=>∃i H',Inv (X.block sc cl N s3 H3 C fp) [] (capSt cap σ) H' s'/\tn i s'.heap/\(∀b∈fp,H' b=none)/\W i n H') ?_ m0 ⟨0,H3,I4,st4,λ b hb=>(f3 b hb).1,w0⟩;rintro n s5 ⟨i,H5,I5,st5,fr5,w5⟩;rcases turn i n H5 w5 with ⟨stop,qn⟩|⟨go,N',hN',step⟩
    · refine thn (T.done (X.block sc cl N s3 H3 C fp) rfl rfl rfl hc i [] s5 _ H5 NoX I5 (stat fr5) st5 stop) λ r s6 ⟨hr,I6⟩=>?_
      subst hr;obtain⟨m,hm,_⟩:=I6.loc
      have I7:Inv X jP σ H5 s6:=by
        refine I3.call' (s':=s6) (ch:=fp) I6.os I6.base I6.hok I6.bare λ b hb=>?_;obtain⟨g0,g1,g2,g3,g4,g5⟩:=f3 b hb;exact⟨g3,g1,g4,g5⟩
      have hCl:X.env.locals≠C:=by
        obtain⟨_,hn3,_⟩:=I3.loc;rw[←hC];exact lR hn3.lt
      have hCc:∀x c,X.env.cells.lookup x=some c->c≠C:=λ x c q=>by
        obtain⟨v,oc,q1,q2⟩:=I3.cell x c q;exact ltC _ _ q1
      refine wpAny_assign_Name (zFj I7 hN hjj hxx (v:=.ref s2.heap.objs.size) rfl (λ s9 I9 ⟨a9,sb9,ha9⟩=>?_) hf)
      have hCa:a9≠C:=by
        rcases ha9 with rfl|z
        · exact hCl
        · exact hCc _ _ z
      refine⟨m,hm.sameBut sb9 (Ne.symm hCa),λ h' sb=>⟨_,H5,?_,qn⟩⟩;refine I9.call' (s':={ s9 with heap:=h' }) (ch:=[C]) rfl ?_ (I9.hok.but I6.free sb) I9.bare λ b hb=>?_
      · have st:∀b o,s9.heap.get? b=some o->b∉[C]->h'.get? b=some o:=λ b o q hx=>(sb.2 b (λ z=>hx (by rw[z];exact List.mem_singleton.mpr rfl))).trans q
        exact⟨λ b o q Ω Ω hx=>st b o q hx,λ b o q Ω Ω hx=>⟨o.slots,st b o q hx⟩,λ b o q n Ω=>n,λ b o q hx=>⟨o,st b o q hx⟩,λ Ω Ω q=>q,λ Ω Ω Ω q=>q,λ b ps q=>⟨#[],by simpa using q⟩⟩
      · rw[List.mem_singleton.mp hb]
        exact⟨.inr (by rw[←hC];exact I3.sz),Ne.symm hCl,hCc,λ p hp=>ltC _ _ (I3.pin p hp).1⟩
    · refine thn (T.item (X.block sc cl N s3 H3 C fp) rfl rfl rfl hc i [] s5 _ H5 NoX I5 (stat fr5) st5 go) λ r s6 ⟨u,hr,h6⟩=>?_
      subst hr;refine thn h6 λ _ s7 ⟨x,H7,I7,r7,y7,st7,fr7⟩=>?_;have I7':=I7.pinned (stat fr7) (T.obj _ _ st7)
      have again:∀{σ8:St}{H8:Hp}{s8:Shared},Inv (X.block sc cl N s3 H3 C fp) ([]++zEs fp s7.heap) σ8 H8 s8->Ext (capSt cap σ) σ8->N' H8 ->
          ∃m,m<n/\∃i H',Inv (X.block sc cl N s3 H3 C fp) [] (capSt cap σ) H' s8/\tn i s8.heap/\(∀b∈fp,H' b=none)/\W i m H':=λ{σ8 H8 s8} I8 ex n8=>by
        obtain⟨m',hm,w8⟩:=hN' H8 n8;have I8':=I8.unpinned.weak ex.len ex.get;refine⟨m',hm,i+1,H8,I8',T.keep _ _ _ st7 λ b hb o q=>(I8.pin (b,o) (mB _ (mB _ (zBk hb q)))).1,λ b hb=>?_,w8⟩;obtain⟨o,q,d⟩:=T.obj _ _ st7 b hb;exact(I8.pin (b,o) (mB _ (mB _ (zBk hb q)))).2.1
      refine thn (hg cl s3 H3 C fp _ s7 _ H7 x u _ I7' r7 (step x H7 y7)) λ _ s8 ⟨σ8,H8,I8,ex8,q8⟩=>?_;refine thn (ht cl s3 H3 C fp _ s8 σ8 H8 _ I8 q8) λ b s9 ⟨H9,I9,q9⟩=>?_;cases b with
      |false=>exact again I9 ex8 q9
      |true =>
        rw[if_pos rfl] at q9 ⊢;refine thn (he cl s3 H3 C fp _ s9 σ8 H9 _ I9 q9) λ yv s10 ⟨y,H10,I10,r10,zs,e10,l10,q10⟩=>?_;refine thn (zAt (X:=X.block sc cl N s3 H3 C fp) _ s10 σ8 H10 (.ref s2.heap.objs.size) [y] (.ref s2.heap.objs.size) [yv] (λ Ω H'=>N' H') I10 rfl (.cons r10 .nil) ⟨_,zs,y,rfl,rfl,e10,l10,q10⟩) λ _ s11 ⟨_,H11,I11,_,q11⟩=>?_;exact again I11 ex8 q11
  exact codeAny_compStart_list loop (T.self X.A 0 _ _ _ st4 loop)
theorem zHU {elt tg iter:Expr}{y:Str}{py spos:Pos}{jj:Nat}{ifs:List Expr}{sc:Scope}{pos:Pos}{wi:TI}{g:TG}{tt:TT}{te:TE}(N:List Str) (cap:List (Option Nat)) (hc:X.calm=true) (hi:PI X tg iter wi)
  (hg:∀cl s H C ex,PG (X.block sc cl N s H C ex) tg g) (ht:∀cl s H C ex,PTs (X.block sc cl N s H C ex) ifs tt) (he:∀cl s H C ex,PE (X.block sc cl N s H C ex) elt te)
  (ck:zHq sc X.env X.N N cap=true) (hN:X.N.Nodup) (hjj:X.N[jj]?=some y) (hxx:Loc X.env.scope y) (hf:X.fn y=true\/X.env.scope.names.lookup y=some .local)
  (hsw:swapsWith (.ListComp elt [⟨tg,iter,ifs,0⟩] sc pos) (some (.Name y py)) spos.line X.env=pure true:=by rfl) (hs:∀x,foldedSetIterable iter X.env x=pure x:=by intro _;rfl):PS X (.Assign [.Name y py] (.ListComp elt [⟨tg,iter,ifs,0⟩] sc pos) spos) (tAsg (tComp cap wi g tt te) (gName jj)):=by
 unfold zHq at ck;simp only[Bool.and_eq_true] at ck;obtain⟨⟨⟨⟨⟨k1,k2⟩,k3⟩,k4⟩,k5⟩,k6⟩:=ck;refine zLZ N cap hc hi hg ht he (by simpa using k1) (λ y hy=>?_) (λ y hy z=>?_) (λ n hn=>?_) (λ i j e=>?_) (by simpa using k6) hN hjj hxx hf hsw hs
 ·have:=List.all_eq_true.mp k2 y hy
  simpa using this
 ·have:=List.all_eq_true.mp k3 y hy
  rw[z] at this;simpa using this
 ·have:=List.all_eq_true.mp k4 _ hn
  simpa using this
 ·have hi:i<cap.length:=(lJ.mp e).1
  have:=List.all_eq_true.mp k5 i (List.mem_range.mpr hi);rw[e] at this;dsimp only at this;cases q:N[i]? with
  |none=>rw[q] at this;cases this
  |some x =>
   rw[q] at this;dsimp only at this;rw[Bool.and_eq_true] at this;exact⟨x,rfl,by simpa using this.1,by simpa using this.2⟩
end
end L2
set_option maxHeartbeats 4000000
namespace L2
open PySem PySem.Spec PyProof.Rows
inductive Dt where
 |int (i:Int)|str (x:Str)|tup (ds:List Dt)
mutual
def Dt.beq:Dt->Dt->Bool
 |.int i,.int j=>decide (i=j)
 |.str x,.str y=>decide (x=y)
 |.tup ds,.tup es=>Dt.beqs ds es
 |_,_=>false
def Dt.beqs:List Dt->List Dt->Bool
 |[],[]=>true
 |d::ds,e::es=>Dt.beq d e && Dt.beqs ds es
 |_,_=>false
end
mutual
theorem Dt.beq_iff:∀{d e:Dt},Dt.beq d e=true↔d=e
 |.int i,.int j=>by simp[Dt.beq]
 |.str x,.str y=>by simp[Dt.beq]
 |.tup ds,.tup es=>by
  have:=Dt.beqs_iff (ds:=ds) (es:=es);simp[Dt.beq,this]
 |.int _,.str _=>by simp[Dt.beq]
 |.int _,.tup _=>by simp[Dt.beq]
 |.str _,.int _=>by simp[Dt.beq]
 |.str _,.tup _=>by simp[Dt.beq]
 |.tup _,.int _=>by simp[Dt.beq]
 |.tup _,.str _=>by simp[Dt.beq]
theorem Dt.beqs_iff:∀{ds es:List Dt},Dt.beqs ds es=true↔ds=es
 |[],[]=>by simp[Dt.beqs]
 |[],_::_=>by simp[Dt.beqs]
 |_::_,[]=>by simp[Dt.beqs]
 |d::ds,e::es=>by
  have h1:=Dt.beq_iff (d:=d) (e:=e);have h2:=Dt.beqs_iff (ds:=ds) (es:=es);simp[Dt.beqs,h1,h2]
end
mutual
noncomputable def Dt.deep:Dt->Nat
 |.tup ds=>Dt.deeps ds+1
 |_=>0
noncomputable def Dt.deeps:List Dt->Nat
 |[]=>0
 |d::ds=>max (Dt.deep d) (Dt.deeps ds)
end
mutual
inductive DR (H:Hp):Dt->V->Prop
 |int (i:Int):DR H (.int i) (.int i)
 |str (x:Str):DR H (.str x) (.str x)
 |tup {a:Addr}{xs:List V}{ds:List Dt}:H a=some (.tup xs)->DRs H ds xs->DR H (.tup ds) (.ref a)
inductive DRs (H:Hp):List Dt->List V->Prop
 |nil:DRs H [] []
 |cons {d:Dt}{v:V}{ds:List Dt}{vs:List V}:DR H d v->DRs H ds vs->DRs H (d::ds) (v::vs)
end
mutual
theorem DR.mono {H H':Hp}(k:Tk H H'):∀{d:Dt}{v:V},DR H d v->DR H' d v
 |_,_,.int i=>.int i
 |_,_,.str x=>.str x
 |_,_,.tup h r=>.tup (k _ _ h) (DRs.mono k r)
theorem DRs.mono {H H':Hp}(k:Tk H H'):∀{ds:List Dt}{vs:List V},DRs H ds vs->DRs H' ds vs
 |_,_,.nil=>.nil
 |_,_,.cons r t=>.cons (DR.mono k r) (DRs.mono k t)
end
theorem DRs.length {H:Hp}:∀{ds:List Dt}{vs:List V},DRs H ds vs->ds.length=vs.length
 |_,_,.nil=>rfl
 |_,_,.cons _ t=>congrArg (· + 1) t.length
mutual
theorem DR.inj {H:Hp}:∀{d e:Dt}{v:V},DR H d v->DR H e v->d=e
 |_,_,_,.int _,.int _=>rfl
 |_,_,_,.str _,.str _=>rfl
 |_,_,_,.tup h r,.tup h' r'=>by
  rw[h] at h';cases h';rw[DRs.inj r r']
theorem DRs.inj {H:Hp}:∀{ds es:List Dt}{vs:List V},DRs H ds vs->DRs H es vs->ds=es
 |_,_,_,.nil,.nil=>rfl
 |_,_,_,.cons r t,.cons r' t'=>by rw[DR.inj r r',DRs.inj t t']
end
theorem DRs.get {H:Hp}:∀{ds:List Dt}{vs:List V}{j:Nat}{v:V},DRs H ds vs->vs[j]?=some v->∃d,ds[j]?=some d/\DR H d v
 |_,_,_,_,.nil,e=>by simp at e
 |_,_,0,_,.cons r _,e=>by simp at e;subst e;exact⟨_,rfl,r⟩
 |_,_,j+1,v,.cons _ t,e=>by
  obtain⟨d,h1,h2⟩:=DRs.get (j:=j) (v:=v) t (by simpa using e);exact⟨d,by simpa using h1,h2⟩
theorem zDw:∀{ds:List Dt}{j:Nat}{d:Dt},ds[j]?=some d->d.deep<=Dt.deeps ds
 |[],_,_,h=>by simp at h
 |e::ds,0,d,h=>by simp at h;subst h;simp[Dt.deeps];omega
 |e::ds,j+1,d,h=>by
  have:=zDw (ds:=ds) (j:=j) (d:=d) (by simpa using h);simp[Dt.deeps];omega
theorem zHu:∀(ds es:List Dt),Dt.beqs ds es=((List.range (min ds.length es.length)).all (λ j=>match ds[j]?,es[j]? with|some d,some e=>Dt.beq d e|_,_=>false) && ds.length == es.length):=by
 intro ds es;rw[Bool.eq_iff_iff,Dt.beqs_iff,Bool.and_eq_true,List.all_eq_true];constructor
 ·rintro rfl
  refine⟨λ j hj=>?_,by simp⟩;have hj':j<ds.length:=by simpa using List.mem_range.mp hj
  simp[List.getElem?_eq_getElem hj',Dt.beq_iff]
 ·rintro⟨h,hl⟩
  have hl':ds.length=es.length:=by simpa using hl
  refine List.ext_getElem hl' λ j h1 h2=>?_;have:=h j (List.mem_range.mpr (by omega));simpa[List.getElem?_eq_getElem h1,List.getElem?_eq_getElem h2,Dt.beq_iff] using this
section
variable {X:Cx}{jP:List (Addr × Obj)}{σ:St}{H:Hp}{s:Shared}
theorem zLz (I:Inv X jP σ H s):∀(n:Nat) (A:Around) {d e:Dt}{v z:V}{u y:Value},d.deep<=n->DR H d v->DR H e z->RelV v u->RelV z y->A.units+n<cLine->SeqAt.EqAt A s u y (Dt.beq d e):=by
 intro n
 induction n with
 |zero =>
  intro A d e v z u y hn rd re ru ry hu;cases rd with
  |int i =>
   obtain⟨t,rfl⟩:=ru;cases re with
   |int j=>obtain⟨t',rfl⟩:=ry;rw[show Dt.beq (.int i) (.int j)=(i == j) by simp[Dt.beq,Bool.beq_eq_decide_eq]];exact SeqAt.EqAt.int_int i t j t'
   |str x=>obtain⟨t',rfl⟩:=ry;exact SeqAt.EqAt.int_str i t x t'
   |tup h r =>
    cases ry;obtain⟨its,rv,p,_⟩:=I.tuple (SqT.of h);exact SeqAt.EqAt.int_tuple i t (show s.heap.IsTuple _ its.toArray from p) (by omega)
  |str x =>
   obtain⟨t,rfl⟩:=ru;cases re with
   |int j=>obtain⟨t',rfl⟩:=ry;exact SeqAt.EqAt.str_int x t j t'
   |str w'=>obtain⟨t',rfl⟩:=ry;rw[show Dt.beq (.str x) (.str w')=(x == w') by simp[Dt.beq,Bool.beq_eq_decide_eq]];exact SeqAt.EqAt.str_str x t w' t'
   |tup h r =>
    cases ry;obtain⟨its,rv,p,_⟩:=I.tuple (SqT.of h);exact SeqAt.EqAt.str_tuple x t (show s.heap.IsTuple _ its.toArray from p) (by omega)
  |tup h r=>simp[Dt.deep] at hn
 |succ n ih =>
  intro A d e v z u y hn rd re ru ry hu;cases rd with
  |int i =>
   obtain⟨t,rfl⟩:=ru;cases re with
   |int j=>obtain⟨t',rfl⟩:=ry;rw[show Dt.beq (.int i) (.int j)=(i == j) by simp[Dt.beq,Bool.beq_eq_decide_eq]];exact SeqAt.EqAt.int_int i t j t'
   |str x=>obtain⟨t',rfl⟩:=ry;exact SeqAt.EqAt.int_str i t x t'
   |tup h r =>
    cases ry;obtain⟨its,rv,p,_⟩:=I.tuple (SqT.of h);exact SeqAt.EqAt.int_tuple i t (show s.heap.IsTuple _ its.toArray from p) (by omega)
  |str x =>
   obtain⟨t,rfl⟩:=ru;cases re with
   |int j=>obtain⟨t',rfl⟩:=ry;exact SeqAt.EqAt.str_int x t j t'
   |str w'=>obtain⟨t',rfl⟩:=ry;rw[show Dt.beq (.str x) (.str w')=(x == w') by simp[Dt.beq,Bool.beq_eq_decide_eq]];exact SeqAt.EqAt.str_str x t w' t'
   |tup h r =>
    cases ry;obtain⟨its,rv,p,_⟩:=I.tuple (SqT.of h);exact SeqAt.EqAt.str_tuple x t (show s.heap.IsTuple _ its.toArray from p) (by omega)
  | @tup a xs ds ha rs =>
   cases ru;obtain⟨its,rv,p,_⟩:=I.tuple (SqT.of ha);have hn':Dt.deeps ds<=n:=by simpa[Dt.deep] using hn
   cases re with
   |int j=>obtain⟨t',rfl⟩:=ry;exact SeqAt.EqAt.tuple_int j t' (show s.heap.IsTuple _ its.toArray from p) (by omega)
   |str w'=>obtain⟨t',rfl⟩:=ry;exact SeqAt.EqAt.tuple_str w' t' (show s.heap.IsTuple _ its.toArray from p) (by omega)
   | @tup b ys es hb rs' =>
    cases ry
    by_cases hab:a=b
    ·subst hab
     rw[ha] at hb;cases hb;have:ds=es:=DRs.inj rs rs';subst this;rw[show Dt.beq (.tup ds) (.tup ds)=true from Dt.beq_iff.mpr rfl];exact SeqAt.EqAt.same _
    ·obtain⟨its2,rv2,p2,_⟩:=I.tuple (SqT.of hb)
     refine SeqAt.EqAt.of_refs hab ?_;have l1:=rv.length;have l2:=rv2.length;have m1:=rs.length;have m2:=rs'.length
     have key:=SeqAt.RcAt.tuples (A:=A) (s:=s) (e:=λ j=>match ds[j]?,es[j]? with|some d,some e=>Dt.beq d e|_,_=>false) (show s.heap.IsTuple _ its.toArray from p) (show s.heap.IsTuple _ its2.toArray from p2) (by omega) λ j h1 h2=>by
      have g1:j<xs.length:=by rw[l1];simpa using h1
      have g2:j<ys.length:=by rw[l2];simpa using h2
      obtain⟨u1,eu,r1⟩:=rv.get (lW g1);obtain⟨u2,ev,r2⟩:=rv2.get (lW g2);obtain⟨d1,ed,rd1⟩:=rs.get (lW g1);obtain⟨d2,ed2,rd2⟩:=rs'.get (lW g2);have e1:its.toArray[j]=u1:=by obtain⟨_,q⟩:=lJ.mp eu;simpa using q
      have e2:its2.toArray[j]=u2:=by obtain⟨_,q⟩:=lJ.mp ev;simpa using q
      simp only[ed,ed2,e1,e2];exact ih A.in1 (mG (zDw ed) hn') rd1 rd2 r1 r2 (by rw[show A.in1.units=A.units+1 from rfl];omega)
     have ez:Dt.beq (.tup ds) (.tup es)=((List.range (min its.toArray.size its2.toArray.size)).all (λ j=>match ds[j]?,es[j]? with|some d,some e=>Dt.beq d e|_,_=>false) && its.toArray.size == its2.toArray.size):=by
      rw[show Dt.beq (.tup ds) (.tup es)=Dt.beqs ds es by simp[Dt.beq],zHu];have a1:its.toArray.size=ds.length:=by simp;omega
      have a2:its2.toArray.size=es.length:=by simp;omega
      rw[a1,a2]
     rw[ez];exact key
noncomputable def rEqD (neg:Bool):R2:=λ x y H Q=>∃(ds es:List Dt),DR H (.tup ds) x/\DR H (.tup es) y/\(Dt.tup ds).deep<=150/\Q (.bl (if neg then !Dt.beqs ds es else Dt.beqs ds es)) H
theorem zJg (I:Inv X jP σ H s) {a b:Addr}{ds es:List Dt}(hd:DR H (.tup ds) (.ref a)) (he:DR H (.tup es) (.ref b)) (hdeep:(Dt.tup ds).deep<=150) (hu:X.A.units+150<cLine) :
  ∃its its2:List Value,s.heap.IsTuple a its.toArray/\s.heap.IsTuple b its2.toArray/\its.toArray.size=ds.length/\its2.toArray.size=es.length /\
   ∀j (h1:j<its.toArray.size) (h2:j<its2.toArray.size),SeqAt.EqAt X.A.in1 s its.toArray[j] its2.toArray[j] ((λ j=>match ds[j]?,es[j]? with|some d,some e=>Dt.beq d e|_,_=>false) j):=by
 cases hd with
 | @tup _ xs _ ha rs =>
  cases he with
  | @tup _ ys _ hb rs' =>
   obtain⟨its,rv,p,_⟩:=I.tuple (SqT.of ha);obtain⟨its2,rv2,p2,_⟩:=I.tuple (SqT.of hb);have l1:=rv.length;have l2:=rv2.length;have m1:=rs.length;have m2:=rs'.length;refine⟨its,its2,p,p2,by simp;omega,by simp;omega,λ j h1 h2=>?_⟩;have g1:j<xs.length:=by rw[l1];simpa using h1
   have g2:j<ys.length:=by rw[l2];simpa using h2
   obtain⟨u1,eu,r1⟩:=rv.get (lW g1);obtain⟨u2,ev,r2⟩:=rv2.get (lW g2);obtain⟨d1,ed,rd1⟩:=rs.get (lW g1);obtain⟨d2,ed2,rd2⟩:=rs'.get (lW g2);have e1:its.toArray[j]=u1:=by obtain⟨_,q⟩:=lJ.mp eu;simpa using q
   have e2:its2.toArray[j]=u2:=by obtain⟨_,q⟩:=lJ.mp ev;simpa using q
   simp only[ed,ed2,e1,e2];have dd:Dt.deeps ds+1<=150:=by simpa[Dt.deep] using hdeep
   exact zLz I 149 X.A.in1 (mG (zDw ed) (by omega)) rd1 rd2 r1 r2 (by rw[show X.A.in1.units=X.A.units+1 from rfl];omega)
theorem zLA (hu:X.A.units+150<cLine):OpR X (compareOp .Eq) (rEqD false):=by
 intro jP s σ H x y v u Q I rx ry h;obtain⟨ds,es,hd,he,hdeep,q⟩:=h;obtain⟨a,rfl⟩:∃a,x = .ref a:=by cases hd;exact⟨_,rfl⟩
 obtain⟨b,rfl⟩:∃b,y = .ref b:=by cases he;exact⟨_,rfl⟩
 cases rx;cases ry;obtain⟨its,its2,p,p2,z1,z2,hall⟩:=zJg I hd he hdeep hu;refine SeqAt.eq_tupleAt p p2 (by omega) hall ?_;rw[z1,z2,←zHu];exact⟨.bl (Dt.beqs ds es),H,I,rfl,by simpa using q⟩
theorem hu150 {k:Nat}{A:Around}(hr:Room k A):A.units+150<cLine:=by have:=hr.un;omega
end
theorem itB {h h':Heap}{a b t:Addr}{i:Nat}(x:h.IsTupleIter a t i) (e:Heap.SameBut b h h') (n:a≠b):h'.IsTupleIter a t i:=x.extBut e.extBut n
theorem tpB {h h':Heap}{a b:Addr}{xs:Array Value}(x:h.IsTuple a xs) (e:Heap.SameBut b h h') (n:a≠b):h'.IsTuple a xs:=let ⟨o,ho,r⟩:=x;⟨o,e.extBut a o n ho,r⟩
section
variable {prog:Program}{w:World}{A:Around}{E:Value->Shared->Prop}{s:Shared}
theorem zIW {z TI TO i1 i2 l1 l2:Addr}{k:Nat}{xs ys:Array Value}{x y a b:Value}{Q:Option Value->Shared->Prop}(D:ZipApart z TI TO i1 i2 l1 l2)
  (hz:IsZip s.heap z TI TO .none) (hTI:IsPair s.heap TI (.ref i1) (.ref i2)) (hTO:IsPair s.heap TO a b) (h1:s.heap.IsTupleIter i1 l1 k) (h2:s.heap.IsTupleIter i2 l2 k)
  (hl1:s.heap.IsTuple l1 xs) (hl2:s.heap.IsTuple l2 ys) (hx:xs[k]?=some x) (hy:ys[k]?=some y)
  (hQ:∀h',IsZip h' z TI TO (rawInt s.heap.objs.size)->IsPair h' TO x y->h'.IsTupleIter i1 l1 (k+1)->h'.IsTupleIter i2 l2 (k+1)->IsPair h' s.heap.objs.size x y ->
   (∀c o,c≠z->c≠TO->c≠i1->c≠i2->s.heap.get? c=some o->h'.get? c=some o)->Q (some (.ref s.heap.objs.size)) { s with heap:=h' }):wpAny (model prog w) A (pyNext (.ref z)) Q E s:=by
 have hT:s.TypeIs (.ref z) "zip" := ⟨_,hz,rfl⟩;unfold pyNext;refine lA (wpAny_attempt (wpAny_callSpecial?_slot (name:=Str.ofString "__next__") hT F.slot_zip_next (wpAny_call_entry F.slot_zip_next hT F.entry_zip_next ?_ (F.args_zip_next_1 _))));show wpAny _ _ (field (.ref z) 2 >>= _) _ _ _;refine lA (wpAny_field hz rfl (x:=.bool false) rfl ?_);show wpAny _ _ (field (.ref z) 3 >>= _) _ _ _;refine lA (wpAny_field hz rfl (x:=.ref TI) rfl ?_);refine lA (wpAny_seqItems hTI rfl ?_);show wpAny _ _ (Builtin.SmallTypes.ownedTupleIsFree (.ref z) >>= _) _ _ _;refine lA ?_;unfold Builtin.SmallTypes.ownedTupleIsFree;refine lA (wpAny_field hz rfl (x:=.none) rfl (lB ?_));simp only[if_true];refine lA (wpAny_rule ?_);refine lA (wpAny_field hz rfl (x:=.ref TO) rfl ?_);refine lA (wpAny_setField_rec hz (by simp) λ q1 hz1 hs1=>?_);replace hz1:IsZip q1 z TI TO .ellipsis:=hz1;refine lA ?_;simp only[List.zipIdx_cons,List.zipIdx_nil,List.forIn_cons,List.forIn_nil];refine lA (lA (wpAny_onRaise ?_));show wpAny _ _ (Builtin.SmallTypes.nextOf (.ref i1) >>= _) _ _ _;refine lA (zAj (itB h1 hs1 D.i1z) (tpB hl1 hs1 D.l1z) hx λ q2 j1 hs2=>lB ?_);have hTO2:IsPair q2 TO a b:=hs2.extBut _ _ D.TOi1 (hs1.extBut _ _ D.TOz hTO);refine lA (wpAny_seqItems hTO2 rfl ?_);refine lA (wpAny_updateSeq_pair hTO2 λ q3 hTO3 hs3=>?_);replace hTO3:IsPair q3 TO x b:=hTO3;refine lA (wpAny_letGo (lB ?_));refine lA (lA (wpAny_onRaise ?_));show wpAny _ _ (Builtin.SmallTypes.nextOf (.ref i2) >>= _) _ _ _;refine lA (zAj (itB (itB (itB h2 hs1 D.i2z) hs2 D.i12.symm) hs3 D.TOi2.symm) (tpB (tpB (tpB hl2 hs1 D.l2z) hs2 D.l2i1) hs3 D.l2TO) hy λ q4 j2 hs4=>lB ?_);have hTO4:IsPair q4 TO x b:=hs4.extBut _ _ D.TOi2 hTO3;refine lA (wpAny_seqItems hTO4 rfl ?_);refine lA (wpAny_updateSeq_pair hTO4 λ q5 hTO5 hs5=>?_);replace hTO5:IsPair q5 TO x y:=hTO5;refine lA (wpAny_letGo (lB (lB ?_)));refine lA (wpAny_seqItems hTO5 rfl ?_);refine lA (wpAny_newTuple ?_);have hsz:q5.objs.size=s.heap.objs.size:=by rw[hs5.1,hs4.1,hs3.1,hs2.1,hs1.1]
 have hz5:IsZip q5 z TI TO .ellipsis:=hs5.extBut _ _ D.TOz.symm (hs4.extBut _ _ D.i2z.symm (hs3.extBut _ _ D.TOz.symm (hs2.extBut _ _ D.i1z.symm hz1)));have hk5:∀c o,c≠z->c≠TO->c≠i1->c≠i2->s.heap.get? c=some o->q5.get? c=some o:=λ c o c1 c2 c3 c4 e=>hs5.extBut _ _ c2 (hs4.extBut _ _ c4 (hs3.extBut _ _ c2 (hs2.extBut _ _ c3 (hs1.extBut _ _ c1 e))));have j15:q5.IsTupleIter i1 l1 (k+1):=itB (itB (itB j1 hs3 D.TOi1.symm) hs4 D.i12) hs5 D.TOi1.symm;have j25:q5.IsTupleIter i2 l2 (k+1):=itB j2 hs5 D.TOi2.symm;have hzlt:z<q5.objs.size:=lH hz5;show wpAny _ _ (Builtin.SmallTypes.ownedTupleHandOut (.ref z) (.ref q5.objs.size) >>= _) _ _ _;refine lA ?_;unfold Builtin.SmallTypes.ownedTupleHandOut;have hz6:IsZip (q5.push { cls:=.type "tuple", data:=.seq #[x,y] }) z TI TO .ellipsis:=lE _ hz5;refine lA (wpAny_setField_rec hz6 (by simp) λ q7 hz7 hs7=>?_);replace hz7:IsZip q7 z TI TO (rawInt q5.objs.size):=hz7;refine wpAny_setField_rec hz7 (by simp) λ q8 hz8 hs8=>?_;replace hz8:IsZip q8 z TI TO (rawInt q5.objs.size):=hz8;have up:∀c o,c≠z->q5.get? c=some o->q8.get? c=some o:=λ c o c1 e=>hs8.extBut _ _ c1 (hs7.extBut _ _ c1 (lE _ e));have hT8:IsPair q8 q5.objs.size x y:=hs8.extBut _ _ (Nat.ne_of_gt hzlt) (hs7.extBut _ _ (Nat.ne_of_gt hzlt) (lG _ rfl));rw[hsz] at hz8 hT8;refine lB ⟨_,rfl,lB ?_⟩;show Q (some (.ref q5.objs.size)) _;rw[hsz];exact hQ q8 hz8 (up _ _ D.TOz hTO5) (let ⟨o,e,r⟩:=j15;⟨o,up _ o D.i1z e,r⟩) (let ⟨o,e,r⟩:=j25;⟨o,up _ o D.i2z e,r⟩) hT8 λ c o c1 c2 c3 c4 e=>up c o c1 (hk5 c o c1 c2 c3 c4 e)
theorem zJy {z TI TO i1 i2 l1 l2:Addr}{k:Nat}{xs ys:Array Value}{a b:Value}{Q:Option Value->Shared->Prop}(hh:A.handled=none) (D:ZipApart z TI TO i1 i2 l1 l2)
    (hz:IsZip s.heap z TI TO .none) (hTI:IsPair s.heap TI (.ref i1) (.ref i2)) (hTO:IsPair s.heap TO a b) (h1:s.heap.IsTupleIter i1 l1 k) (h2:s.heap.IsTupleIter i2 l2 k)
    (hl1:s.heap.IsTuple l1 xs) (hl2:s.heap.IsTuple l2 ys) (hend:xs[k]?=none\/ys[k]?=none)
    (hQ:∀h',(∀c o,c≠z->c≠TO->c≠i1->c≠i2->s.heap.get? c=some o->h'.get? c=some o)->Q none { s with heap:=h' }):wpAny (model prog w) A (pyNext (.ref z)) Q E s:=by
  have hT:s.TypeIs (.ref z) "zip" := ⟨_,hz,rfl⟩;unfold pyNext
  have fin:∀(h':Heap) (e:Addr),(∀c o,c≠z->c≠TO->c≠i1->c≠i2->s.heap.get? c=some o->h'.get? c=some o)->(∃o,h'.get? e=some o/\o.cls = .type "StopIteration") ->
      wpAny (model prog w) A (do if ← isInstance (.ref e) (.type "StopIteration") then pure none else throw (.ref e)) Q E { s with heap:=h' }:=λ h' e hk ⟨o,ho,hc⟩ =>
    lA (wpAny_isInstance (T := "StopIteration") (b:=true) ⟨o,ho,hc⟩ isSubtype_stop (lB (hQ _ hk)))
  refine lA (wpAny_attempt (wpAny_callSpecial?_slot (name:=Str.ofString "__next__") hT F.slot_zip_next (wpAny_call_entry F.slot_zip_next hT F.entry_zip_next ?_ (F.args_zip_next_1 _))));show wpAny _ _ (field (.ref z) 2 >>= _) _ _ _;refine lA (wpAny_field hz rfl (x:=.bool false) rfl ?_);show wpAny _ _ (field (.ref z) 3 >>= _) _ _ _;refine lA (wpAny_field hz rfl (x:=.ref TI) rfl ?_);refine lA (wpAny_seqItems hTI rfl ?_);show wpAny _ _ (Builtin.SmallTypes.ownedTupleIsFree (.ref z) >>= _) _ _ _;refine lA ?_;unfold Builtin.SmallTypes.ownedTupleIsFree;refine lA (wpAny_field hz rfl (x:=.none) rfl (lB ?_));simp only[if_true];refine lA (wpAny_rule ?_);refine lA (wpAny_field hz rfl (x:=.ref TO) rfl ?_);refine lA (wpAny_setField_rec hz (by simp) λ q1 hz1 hs1=>?_);replace hz1:IsZip q1 z TI TO .ellipsis:=hz1;refine lA ?_;simp only[List.zipIdx_cons,List.zipIdx_nil,List.forIn_cons,List.forIn_nil];refine lA (lA (wpAny_onRaise ?_));show wpAny _ _ (Builtin.SmallTypes.nextOf (.ref i1) >>= _) _ _ _;cases hx:xs[k]? with
  |none =>
    refine lA (zAz hh (itB h1 hs1 D.i1z) (tpB hl1 hs1 D.l1z) hx λ q2 e hs2 he=>?_);obtain⟨oe,hoe,hce⟩:=he;have hz2:IsZip q2 z TI TO .ellipsis:=hs2 _ _ D.i1z.symm hz1;have hez:e≠z:=λ x=>by subst x;rw[hz2] at hoe;cases hoe;simp at hce
    exact wpAny_setField_rec hz2 (by simp) λ q3 Ω hs3=>fin q3 e (λ c o c1 Ω c3 Ω x=>hs3.extBut _ _ c1 (hs2 _ _ c3 (hs1.extBut _ _ c1 x))) ⟨oe,hs3.extBut _ _ hez hoe,hce⟩
  |some x =>
    have hy:ys[k]?=none:=by rcases hend with h|h;rw[hx] at h;cases h;exact h
    refine lA (zAj (itB h1 hs1 D.i1z) (tpB hl1 hs1 D.l1z) hx λ q2 j1 hs2=>lB ?_);have hTO2:IsPair q2 TO a b:=hs2.extBut _ _ D.TOi1 (hs1.extBut _ _ D.TOz hTO);refine lA (wpAny_seqItems hTO2 rfl ?_);refine lA (wpAny_updateSeq_pair hTO2 λ q3 hTO3 hs3=>?_);refine lA (wpAny_letGo (lB ?_));refine lA (lA (wpAny_onRaise ?_));show wpAny _ _ (Builtin.SmallTypes.nextOf (.ref i2) >>= _) _ _ _;refine lA (zAz hh (itB (itB (itB h2 hs1 D.i2z) hs2 D.i12.symm) hs3 D.TOi2.symm) (tpB (tpB (tpB hl2 hs1 D.l2z) hs2 D.l2i1) hs3 D.l2TO) hy λ q4 e hs4 he=>?_);obtain⟨oe,hoe,hce⟩:=he;have hz4:IsZip q4 z TI TO .ellipsis:=hs4 _ _ D.i2z.symm (hs3.extBut _ _ D.TOz.symm (hs2.extBut _ _ D.i1z.symm hz1));have hez:e≠z:=λ x=>by subst x;rw[hz4] at hoe;cases hoe;simp at hce
    exact wpAny_setField_rec hz4 (by simp) λ q5 Ω hs5=>fin q5 e (λ c o c1 c2 c3 c4 x=>hs5.extBut _ _ c1 (hs4 _ _ c4 (hs3.extBut _ _ c2 (hs2.extBut _ _ c3 (hs1.extBut _ _ c1 x))))) ⟨oe,hs5.extBut _ _ hez hoe,hce⟩
end
theorem zIM (l1 l2:Addr) (xs ys:Array Value) :
    Meets (Builtin.«zip.__new__» ⟨[.type "zip", .ref l1,.ref l2],[]⟩) (λ Ω R s=>s.heap.IsTuple l1 xs/\s.heap.IsTuple l2 ys /\
      ∀(h':Heap) (z TI TO i1 i2:Addr),(∀c o,s.heap.get? c=some o->h'.get? c=some o)->s.heap.objs.size<=z->s.heap.objs.size<=TI->s.heap.objs.size<=TO->s.heap.objs.size<=i1->s.heap.objs.size<=i2 ->
        (TI≠z/\TO≠z/\i1≠z/\i2≠z/\TI≠TO/\TI≠i1/\TI≠i2/\TO≠i1/\TO≠i2/\i1≠i2)->IsZip h' z TI TO .none->IsPair h' TI (.ref i1) (.ref i2)->IsPair h' TO .none .none->h'.IsTupleIter i1 l1 0->h'.IsTupleIter i2 l2 0 ->
        R (.ok (.ret (.ref z))) { s with heap:=h' }) :=
  .of_wp λ prog w A R s h=>by
    obtain⟨hp,g,d,tk,os⟩:=s;obtain⟨hl1,hl2,h⟩:=h;have hsub:=sub_zip;have hL1:Heap.IsTuple (Shared.heap ⟨hp,g,d,tk,os⟩) l1 xs:=hl1;have hL2:Heap.IsTuple (Shared.heap ⟨hp.push { cls:=.type "tuple_iterator", data:=.fields #[.ref l1,.int 0 0] },g,d,tk,os⟩) l2 ys:=let ⟨o,ho,r⟩:=hl2;⟨o,lE _ ho,r⟩
    wp_walk using wpAny_pyIter_tuple hL1,wpAny_pyIter_tuple hL2
    refine⟨_,rfl,h _ _ _ _ _ _ (λ c o e=>lE _ (lE _ (lE _ (lE _ (lE _ e))))) ?_ ?_ ?_ ?_ ?_ ?_ (lG _ rfl) (lE _ (lE _ (lG _ rfl))) (lE _ (lG _ rfl))
      ⟨_,lE _ (lE _ (lE _ (lE _ (lG _ rfl)))),rfl,rfl⟩ ⟨_,lE _ (lE _ (lE _ (lG _ rfl))),rfl,rfl⟩⟩
    all_goals simp only[Heap.size_push]
    all_goals first
      |omega
      | (refine⟨?_,?_,?_,?_,?_,?_,?_,?_,?_,?_⟩<;>(intro e;have e' : @Eq Nat _ _:=e;omega))
section
variable {prog:Program}{w:World}{A:Around}{E:Value->Shared->Prop}{s:Shared}
theorem zGJ {l1 l2:Addr}{xs ys:Array Value}{Q:Value->Shared->Prop}(hl1:s.heap.IsTuple l1 xs) (hl2:s.heap.IsTuple l2 ys)
  (h:∀(h':Heap) (z TI TO i1 i2:Addr),(∀c o,s.heap.get? c=some o->h'.get? c=some o)->s.heap.objs.size<=z->s.heap.objs.size<=TI->s.heap.objs.size<=TO->s.heap.objs.size<=i1->s.heap.objs.size<=i2 ->
    (TI≠z/\TO≠z/\i1≠z/\i2≠z/\TI≠TO/\TI≠i1/\TI≠i2/\TO≠i1/\TO≠i2/\i1≠i2)->IsZip h' z TI TO .none->IsPair h' TI (.ref i1) (.ref i2)->IsPair h' TO .none .none->h'.IsTupleIter i1 l1 0->h'.IsTupleIter i2 l2 0->Q (.ref z) { s with heap:=h' }) :
  wpAny (model prog w) A (call (.type "zip") [.ref l1,.ref l2]) Q E s:=by
 refine callType_new F.called_zip (by decide) (F.typeCall_zip_2 _ _) (F.newCall_zip_2 _ _) (λ obj=>F.args_object_init_3 obj _ _) F.entry_zip_new (zIM l1 l2 xs ys) ⟨hl1,hl2,λ h' z TI TO i1 i2 a0 a1 a2 a3 a4 a5 a6 a7 a8 a9 b1 b2=>?_⟩;exact⟨⟨_,a7,rfl⟩,h h' z TI TO i1 i2 a0 a1 a2 a3 a4 a5 a6 a7 a8 a9 b1 b2⟩
end
noncomputable def Itz (a b:Addr):It :=
 ⟨λ i H=>∃xs ys x y,H a=some (.tup xs)/\H b=some (.tup ys)/\xs[i]?=some x/\ys[i]?=some y,
 λ i H v H'=>∃T x y,H T=none/\v = .ref T/\H'=upd H T (.tup [x,y])/\(∀xs,H a=some (.tup xs)->xs[i]?=some x)/\∀ys,H b=some (.tup ys)->ys[i]?=some y,
 λ i H=>∃xs ys,H a=some (.tup xs)/\H b=some (.tup ys)/\(xs.length<=i\/ys.length<=i)⟩
theorem zJ2 {P:Program}{w:World}{K:W.Frag}{es:List Expr}{kk:Nat}{pos:Pos}(a b z TI TO i1 i2:Addr)
  (ap:TI≠z/\TO≠z/\i1≠z/\i2≠z/\TI≠TO/\TI≠i1/\TI≠i2/\TO≠i1/\TO≠i2/\i1≠i2) :
  Turn P w K (.Tuple es kk pos) (Itz a b) [z,TI,TO,i1,i2] z (λ i h=>IsZip h z TI TO .none/\IsPair h TI (.ref i1) (.ref i2)/\(∃p q,IsPair h TO p q)/\h.IsTupleIter i1 a i/\h.IsTupleIter i2 b i) where
 mem:=by simp
 obj:=λ i h st c hc=>by
  obtain⟨hz,hTI,⟨p,q,hTO⟩,⟨o1,e1,c1,d1⟩,o2,e2,c2,d2⟩:=st;simp only[List.mem_cons,List.not_mem_nil,or_false] at hc;rcases hc with rfl|rfl|rfl|rfl|rfl
  ·exact⟨_,hz,λ v z=>by have z':Data.fields _=Data.cell v:=z;cases z'⟩
  ·exact⟨_,hTI,λ v z=>by have z':Data.seq _ _=Data.cell v:=z;cases z'⟩
  ·exact⟨_,hTO,λ v z=>by have z':Data.seq _ _=Data.cell v:=z;cases z'⟩
  ·exact⟨o1,e1,λ v z=>by rw[d1] at z;cases z⟩
  ·exact⟨o2,e2,λ v z=>by rw[d2] at z;cases z⟩
 keep:=λ i h h' st k=>by
  obtain⟨hz,hTI,⟨p,q,hTO⟩,⟨o1,e1,r1⟩,o2,e2,r2⟩:=st;exact⟨k z (by simp) _ hz,k TI (by simp) _ hTI,⟨p,q,k TO (by simp) _ hTO⟩,⟨o1,k i1 (by simp) _ e1,r1⟩,o2,k i2 (by simp) _ e2,r2⟩
 item:=by
  intro X hP hw hK hc i jP s σ H E I hf st hg;subst hP hw hK;obtain⟨xs,ys,x,y,ha,hb,hx,hy⟩:=hg;obtain⟨hz,hTI,⟨p,q,hTO⟩,h1,h2⟩:=st;obtain⟨its,rv,t1,_⟩:=I.tuple (SqT.of ha);obtain⟨its2,rv2,t2,_⟩:=I.tuple (SqT.of hb);obtain⟨u,hu,ru⟩:=rv.get hx;obtain⟨u2,hu2,ru2⟩:=rv2.get hy;obtain⟨n1,n2,n3,n4,n5,n6,n7,n8,n9,n10⟩:=ap;have ne:∀{c d:Addr}{o:HO},H c=some o->d∈[z,TI,TO,i1,i2]->c≠d:=λ e hd=>zAK e (hf _ hd).1;have D:ZipApart z TI TO i1 i2 a b:=⟨n1,n2,n3,n4,n5,n6,n7,n8,n9,n10,ne ha (by simp),ne ha (by simp),ne ha (by simp),ne ha (by simp),ne hb (by simp),ne hb (by simp),ne hb (by simp),ne hb (by simp)⟩;refine zIW D hz hTI hTO h1 h2 (show s.heap.IsTuple a its.toArray from t1) (show s.heap.IsTuple b its2.toArray from t2) (by simpa using hu) (by simpa using hu2) λ q1 hz1 hTO1 j1 j2 hT hk=>⟨_,rfl,?_⟩;have hn:H s.heap.objs.size=none:=I.fresh;have hT1:IsPair q1 TI (.ref i1) (.ref i2):=hk _ _ n1 n5 n6 n7 hTI
  have neT:∀c∈[z,TI,TO,i1,i2],c≠s.heap.objs.size:=λ c hc=>by
   simp only[List.mem_cons,List.not_mem_nil,or_false] at hc;rcases hc with rfl|rfl|rfl|rfl|rfl
   ·exact lR (lH (show s.heap.get? _=some _ from hz))
   ·exact lR (lH (show s.heap.get? _=some _ from hTI))
   ·exact lR (lH (show s.heap.get? _=some _ from hTO))
   ·obtain⟨_,e,_⟩:=h1;exact lR (lH e)
   ·obtain⟨_,e,_⟩:=h2;exact lR (lH e)
  have I1:Inv X jP σ (upd H s.heap.objs.size (.tup [x,y])) { s with heap:=q1,toks:=s.toks }:=I.turnedL (ch:=[z,TO,i1,i2]) (λ c o hc e=>hk c o (λ q=>hc (by simp[q])) (λ q=>hc (by simp[q])) (λ q=>hc (by simp[q])) (λ q=>hc (by simp[q])) e)
   (λ c hc=>hf c (by simp at hc ⊢;rcases hc with r|r|r|r<;>simp[r])) (lQ _) ⟨Nat.le_of_lt (zAS (show 2<=1000 by decide)),[u,u2],.cons ru (.cons ru2 .nil),_,hT,rfl,_,rfl⟩
  refine wpAny_letOwnedTupleGo_zip (s:={ s with heap:=q1 }) hz1 λ q2 hz2 hs2=>⟨.ref s.heap.objs.size,_,?_,rfl,⟨_,x,y,hn,rfl,rfl,λ ws e=>by rw[ha] at e;cases e;exact hx,λ ws e=>by rw[hb] at e;cases e;exact hy⟩,⟨hz2,hs2.extBut _ _ n1 hT1,⟨_,_,hs2.extBut _ _ n2 hTO1⟩,itB j1 hs2 n3,itB j2 hs2 n4⟩,λ c hc=>?_⟩
  ·refine I1.turnedN (t':=s.toks) (ch:=[z]) (λ c o hc e=>(hs2.2 c (λ q=>hc (by simp[q]))).trans e) λ c hc=>?_
   have ec:=List.mem_singleton.mp hc;subst ec;obtain⟨f0,f⟩:=hf c (by simp);exact⟨by rw[zAL (neT c (by simp))];exact f0,f⟩
  ·rw[zAL (neT c hc)];exact(hf c hc).1
 done:=by
  intro X hP hw hK hc i jP s σ H E I hf st hg;subst hP hw hK;obtain⟨xs,ys,ha,hb,hend⟩:=hg;obtain⟨hz,hTI,⟨p,q,hTO⟩,h1,h2⟩:=st;obtain⟨its,rv,t1,_⟩:=I.tuple (SqT.of ha);obtain⟨its2,rv2,t2,_⟩:=I.tuple (SqT.of hb);have l1:=rv.length;have l2:=rv2.length;obtain⟨n1,n2,n3,n4,n5,n6,n7,n8,n9,n10⟩:=ap;have ne:∀{c d:Addr}{o:HO},H c=some o->d∈[z,TI,TO,i1,i2]->c≠d:=λ e hd=>zAK e (hf _ hd).1;have D:ZipApart z TI TO i1 i2 a b:=⟨n1,n2,n3,n4,n5,n6,n7,n8,n9,n10,ne ha (by simp),ne ha (by simp),ne ha (by simp),ne ha (by simp),ne hb (by simp),ne hb (by simp),ne hb (by simp),ne hb (by simp)⟩;refine zJy (I.ok.hd hc) D hz hTI hTO h1 h2 (show s.heap.IsTuple a its.toArray from t1) (show s.heap.IsTuple b its2.toArray from t2) ?_ λ q1 hk=>⟨rfl,?_⟩
  ·rcases hend with h|h
   ·exact .inl (by simp;omega)
   ·exact .inr (by simp;omega)
  ·exact I.turnedN (t':=s.toks) (ch:=[z,TO,i1,i2]) (λ c o hc e=>hk c o (λ q=>hc (by simp[q])) (λ q=>hc (by simp[q])) (λ q=>hc (by simp[q])) (λ q=>hc (by simp[q])) e) (λ c hc=>hf c (by simp at hc ⊢;rcases hc with r|r|r|r<;>simp[r]))
 self:=λ Ω Ω Ω Ω Ω st h=>wpAny_pyIter_zip st.1 h
theorem zDK:bootBuiltins "zip" = some (.type "zip"):=by decide +kernel
noncomputable def iZip (ta:TA):TI:=λ σ H R=>ta σ H λ vs H1=>∃a b xs ys,vs=[.ref a,.ref b]/\H1 a=some (.tup xs)/\H1 b=some (.tup ys)/\R (Itz a b) H1
theorem zMM {X:Cx}{es:List Expr}{k:Nat}{tpos:Pos}{a b:Expr}{ta:TA}{p pos:Pos}(hg:Gl X "zip") (hm:X.mg "zip" = none) (ha:PA X [a,b] ta) (hs:starEach [a,b] X.env=[(false,eval a X.env),(false,eval b X.env)]:=by rfl) (hs2:starEach [b] X.env=[(false,eval b X.env)]:=by rfl) :
  PI X (.Tuple es k tpos) (.Call (.Name "zip" p) [a,b] [] pos) (iZip ta):=by
 intro jP s σ H R I h;refine Call_ (zBv I hg hm zDK (PyProof.Rows.callWith_type1 (thn (ha pos jP s σ H _ I h) λ us s1 ⟨vs,H1,I1,r1,q1⟩=>?_) (by rw[hs,hs2]) (by rw[hs2];rfl)));obtain⟨l1,l2,xs,ys,e,h1,h2,q⟩:=q1;subst e;obtain⟨u,w',rfl,ru,rw'⟩:=vals2 r1;cases ru;cases rw';obtain⟨its,rv,t1,_⟩:=I1.tuple (SqT.of h1);obtain⟨its2,rv2,t2,_⟩:=I1.tuple (SqT.of h2);refine zGJ (show s1.heap.IsTuple l1 its.toArray from t1) (show s1.heap.IsTuple l2 its2.toArray from t2) λ h' z TI TO i1 i2 a0 a1 a2 a3 a4 a5 a6 a7 a8 a9 b1 b2=>?_;refine wpAny_pyIter_zip a7 ⟨_,[z,TI,TO,i1,i2],_,_,H1,rfl,I1.kept (t':=s1.toks) a0,zJ2 l1 l2 z TI TO i1 i2 a6,⟨a7,a8,⟨_,_,a9⟩,b1,b2⟩,λ c hc=>?_,q⟩
 have ge:s1.heap.objs.size<=c:=by
  simp only[List.mem_cons,List.not_mem_nil,or_false] at hc;rcases hc with rfl|rfl|rfl|rfl|rfl<;>assumption
 exact I1.fpOk ge (I1.hok.fresh ge)
theorem zLw {a b:Addr}{xs ys:List V}{g:TG}{tb:TS}{D:Ends}{σ:St}{H:Hp}(Pv:Nat->St->Hp->Prop) (h0:Pv 0 σ H) (hl:∀i σ H,i<=min xs.length ys.length->Pv i σ H->H a=some (.tup xs)/\H b=some (.tup ys))
  (hs:∀i x y T σ H,xs[i]?=some x->ys[i]?=some y->Pv i σ H->H T=none->g (.ref T) σ (upd H T (.tup [x,y])) λ σ2 H2=>tb { D with nx:=Pv (i+1),ct:=Pv (i+1),bk:=D.nx } σ2 H2) (hd:∀σ H,Pv (min xs.length ys.length) σ H->D.nx σ H) :
  ∃W:Nat->Nat->St->Hp->Prop,(∃m,W 0 m σ H)/\∀i m σ H,W i m σ H ->
   ((Itz a b).stop i H/\D.nx σ H)\/((Itz a b).go i H/\∃N:St->Hp->Prop,(∀σ' H',N σ' H'->∃m',m'<m/\W (i+1) m' σ' H')/\∀x H',(Itz a b).yld i H x H'->g x σ H' λ σ2 H2=>tb { D with nx:=N,ct:=N,bk:=D.nx } σ2 H2):=by
 refine⟨λ i m σ H=>m=min xs.length ys.length - i/\i<=min xs.length ys.length/\Pv i σ H,⟨min xs.length ys.length,by simp,lY _,h0⟩,?_⟩;rintro i m σ H ⟨rfl,hi,p⟩;obtain⟨ha,hb⟩:=hl i σ H hi p
 by_cases hlt:i<min xs.length ys.length
 ·have hx:i<xs.length:=by omega
  have hy:i<ys.length:=by omega
  refine .inr ⟨⟨xs,ys,xs[i],ys[i],ha,hb,by simp[hx],by simp[hy]⟩,Pv (i+1),λ σ' H' p'=>⟨min xs.length ys.length - (i+1),by omega,rfl,hlt,p'⟩,λ x H' y=>?_⟩;obtain⟨T,u,v,hT,ex,eH,e1,e2⟩:=y;subst ex eH;exact hs i u v T σ H (e1 xs ha) (e2 ys hb) p hT
 ·have e:i=min xs.length ys.length:=by omega
  subst e;exact .inl ⟨⟨xs,ys,ha,hb,by omega⟩,hd σ H p⟩
theorem zMG {k:Key}{u:Value}(h:keyIs k u=true):RelV (kV k) u:=by
 rcases zAo h with ⟨i,t,rfl,rfl⟩|⟨x,t,rfl,rfl⟩
 ·exact⟨t,rfl⟩
 ·exact⟨t,rfl⟩
theorem zLB {kvs:List (Key × V)}{vs:List (Key × Value)}{i:Nat}{p:Key × V}(h:KV kvs vs):kvs[i]?=some p->∃v,vs[i]?=some (p.1,v):=by
 induction h generalizing i with
 |nil=>exact λ e=>nomatch e
 | @cons a b _ _ r t ih=>cases i with
  |zero=>intro e;have e':a=p:=by simpa using e
         subst e';exact⟨b.2,by rw[r.1];rfl⟩
  |succ i=>exact λ e=>ih (i:=i) (by simpa using e)
noncomputable def Itd (o:Obj) (a:Addr) (kvs:List (Key × V)):It :=
 ⟨λ i H=>H a=some (.frz o (.dK kvs))/\i<kvs.length,λ i H x H'=>H'=H/\∃p,kvs[i]?=some p/\x=kV p.1,λ i H=>H a=some (.frz o (.dK kvs))/\kvs.length<=i⟩
theorem zHi {X:Cx}{jP:List (Addr × Obj)}{σ:L2.St}{H:Hp}{s:Shared}{a:Addr}{o:Obj}{kvs:List (Key × V)}{es:Array DictEntry}{ep:Nat}(I:Inv X jP σ H s) (ha:H a=some (.frz o (.dK kvs))) (hd:o.data = .dict es ep) :
  ∃vs,KV kvs vs/\kvs.length=vs.length/\s.heap.DictAt (zAf X.prog X.w) a vs ep:=by
 obtain⟨e,z,sy,vs,r,o',es',ep',h1,c1,d1,rest⟩:=(show ObjOk X.prog X.w H s.heap a (.frz o (.dK kvs)) from I.hok a _ ha);rw[e] at h1;cases h1;rw[hd] at d1;cases d1;exact⟨vs,r,Paired.length r,o,es,e,c1,hd,rest⟩
theorem zFg {P:Program}{w:World}{K:W.Frag}{tg:Expr}(a it:Addr) (o:Obj) (kvs:List (Key × V)):Turn P w K tg (Itd o a kvs) [it] it (λ i h=>∃es ep,o.data = .dict es ep/\h.IsKeyIter it a i kvs.length ep) where
 mem:=by simp
 obj:=λ i h st b hb=>by
  have e:b=it:=by simpa using hb
  subst e;obtain⟨_,_,_,ob,e,c,d⟩:=st;exact⟨ob,e,λ v z=>by rw[d] at z;cases z⟩
 keep:=λ i h h' st k=>by
  obtain⟨es,ep,hd,ob,e,r⟩:=st;exact⟨es,ep,hd,ob,k it (by simp) ob e,r⟩
 item:=by
  intro X hP hw hK hc i jP s σ H E I hf st hg;subst hP hw hK;obtain⟨ha,hi⟩:=hg;obtain⟨es,ep,hd,hit⟩:=st;obtain⟨vs,r,hl,hm⟩:=zHi I ha hd;obtain⟨v,hv⟩:=zLB r (lW hi);obtain⟨f0,f1,f2,f3,f4,f5⟩:=hf it (by simp);rw[hl] at hit;refine wpAny_pyNext_dict_item hit hm hv λ key h' hk hit' sb=>?_;have I1:Inv X jP σ H { s with heap:=h' }:=I.turned (t':=s.toks) (λ b o hb e=>(sb.2 b hb).trans e) f0 f1 f3 f4 f5;obtain⟨ob,e,c,d⟩:=id hit';rw[←hl] at hit';exact⟨key,rfl,go_of (s:={ s with heap:=h' }) e c d (by decide) ⟨_,H,I1,zMG hk,⟨rfl,_,lW hi,rfl⟩,⟨es,ep,hd,hit'⟩,λ b hb=>(hf b hb).1⟩⟩
 done:=by
  intro X hP hw hK hc i jP s σ H E I hf st hg;subst hP hw hK;obtain⟨ha,hi⟩:=hg;obtain⟨es,ep,hd,hit⟩:=st;obtain⟨vs,r,hl,hm⟩:=zHi I ha hd;obtain⟨f0,f1,f2,f3,f4,f5⟩:=hf it (by simp);rw[hl] at hit;exact wpAny_pyNext_dict_end (I.ok.hd hc) hit hm (List.getElem?_eq_none (by omega)) λ h' eb=>⟨rfl,I.turned (t':=s.toks) (λ b o hb e=>eb b o hb e) f0 f1 f3 f4 f5⟩
 self:=λ A i s Q E st h=>by
  obtain⟨es,ep,hd,hit⟩:=st;refine wpAny_pyIter_slot hit.typeIs F.slot_dict_keyiterator_iter (wpAny_call_entry F.slot_dict_keyiterator_iter hit.typeIs F.entry_dict_keyiterator_iter ?_ (F.args_dict_keyiterator_iter_1 _));show wpAny _ _ (ret (.ref it)) _ _ s;exact lB ⟨_,rfl, "dict_keyiterator", _,hit.typeIs,F.slot_dict_keyiterator_next.lookup,h⟩
noncomputable def iDict (tl:TE):TI:=λ σ H R=>tl σ H λ x H1=>∃a kvs,x = .ref a/\((∃o,H1 a=some (.frz o (.dK kvs))/\R (Itd o a kvs) H1)\/(H1 a=some (.dK kvs)/\∀o,R (Itd o a kvs) (upd H1 a (.frz o (.dK kvs)))))
theorem zGo {X:Cx}{tg l:Expr}{tl:TE}(hl:PE X l tl):PI X tg l (iDict tl):=by
 intro jP s σ H R I h;refine thn (hl jP s σ H _ I h) λ v s1 ⟨x,H1,I1,r1,q1⟩=>?_;obtain⟨a,kvs,e,q⟩:=q1;subst e;cases r1;rcases q with ⟨o,ha,q⟩|⟨ha,q⟩
 ·obtain⟨e,z,sy,vs,r,o',es',ep',h1,c1,d1,rest⟩:=(show ObjOk X.prog X.w H1 s1.heap a (.frz o (.dK kvs)) from I1.hok a _ ha)
  rw[e] at h1;cases h1;refine wpAny_pyIter_dict (knd:=zAf X.prog X.w) (kvs:=vs) (ep:=ep') sy ⟨o,es',e,c1,d1,rest⟩ ?_;refine⟨s1.heap.objs.size,[s1.heap.objs.size],_,_,H1,rfl,I1.kept (t':=s1.toks) λ b o e=>lE _ e,zFg a _ o kvs,⟨es',ep',d1,_,lG _ rfl,rfl,by rw[Paired.length r];rfl⟩,λ b hb=>?_,q⟩;have e:b=s1.heap.objs.size:=by simpa using hb
  subst e;exact I1.fpOk (lQ _) (I1.hok.fresh (lQ _))
 ·obtain⟨z,sy,vs,r,o,es',ep',e,c1,d1,rest⟩:=(show ObjOk X.prog X.w H1 s1.heap a (.dK kvs) from I1.hok a _ ha)
  refine wpAny_pyIter_dict (knd:=zAf X.prog X.w) (kvs:=vs) (ep:=ep') sy ⟨o,es',e,c1,d1,rest⟩ ?_;have lt:=lH e;refine⟨s1.heap.objs.size,[s1.heap.objs.size],_,_,upd H1 a (.frz o (.dK kvs)),rfl,I1.write (t':=s1.toks) (x:=a) (e:=a) (by rw[ha];exact True.intro) (.inl rfl) (λ b o Ω e=>lE _ e) ⟨o,lE _ e⟩ ?_,zFg a _ o kvs,⟨es',ep',d1,_,lG _ rfl,rfl,by rw[Paired.length r];rfl⟩,λ b hb=>?_,q o⟩
  ·exact⟨lE _ e,z,sy,vs,r,o,es',ep',lE _ e,c1,d1,rest⟩
  ·have e:b=s1.heap.objs.size:=by simpa using hb
   subst e;exact I1.fpOk (lQ _) (by rw[zAL (Nat.ne_of_gt lt)];exact I1.hok.fresh (lQ _))
theorem zFS {o:Obj}{a:Addr}{kvs:List (Key × V)}{g:TG}{tb:TS}{D:Ends}{σ:L2.St}{H:Hp}(Pv:Nat->L2.St->Hp->Prop) (h0:Pv 0 σ H) (hl:∀i σ H,i<=kvs.length->Pv i σ H->H a=some (.frz o (.dK kvs)))
  (hs:∀i p σ H,kvs[i]?=some p->Pv i σ H->g (kV p.1) σ H λ σ2 H2=>tb { D with nx:=Pv (i+1),ct:=Pv (i+1),bk:=D.nx } σ2 H2) (hd:∀σ H,Pv kvs.length σ H->D.nx σ H) :
  ∃W:Nat->Nat->L2.St->Hp->Prop,(∃m,W 0 m σ H)/\∀i m σ H,W i m σ H ->
   ((Itd o a kvs).stop i H/\D.nx σ H)\/((Itd o a kvs).go i H/\∃N:L2.St->Hp->Prop,(∀σ' H',N σ' H'->∃m',m'<m/\W (i+1) m' σ' H')/\∀x H',(Itd o a kvs).yld i H x H'->g x σ H' λ σ2 H2=>tb { D with nx:=N,ct:=N,bk:=D.nx } σ2 H2):=by
 refine⟨λ i m σ H=>m=kvs.length - i/\i<=kvs.length/\Pv i σ H,⟨kvs.length,by simp,lY _,h0⟩,?_⟩;rintro i m σ H ⟨rfl,hi,p⟩;have q:=hl i σ H hi p
 by_cases hlt:i<kvs.length
 ·refine .inr ⟨⟨q,hlt⟩,Pv (i+1),λ σ' H' p'=>⟨kvs.length - (i+1),by omega,rfl,hlt,p'⟩,λ x H' y=>?_⟩
  obtain⟨e,p',hp',ex⟩:=y;subst e ex;exact hs i p' σ _ hp' p
 ·have e:i=kvs.length:=by omega
  subst e;exact .inl ⟨⟨q,lQ _⟩,hd σ H p⟩
theorem zCY {K:W.Frag}{a:Addr}{xs:List V}{acc:Addr}{g:TG}{tt:TT}{te:TE}{σ:L2.St}{H:Hp}{R:Hp->Prop}(Pv:Nat->Hp->Prop) (h0:Pv 0 (upd H acc (.lst []))) (hl:∀i H,i<=xs.length->Pv i H->SqT K H a xs)
  (hs:∀i x H,xs[i]?=some x->Pv i H->g x σ H λ σ2 H4=>Ext σ σ2/\tt σ2 H4 λ b H5 =>
   if b=true then te σ2 H5 λ y H6=>∃zs,H6 acc=some (.lst zs)/\zs.length<sizeLine/\Pv (i+1) (upd H6 acc (.lst (zs++[y]))) else Pv (i+1) H5) (hd:∀H,Pv xs.length H->R H) :
  ∃W:Nat->Nat->Hp->Prop,(∃m,W 0 m (upd H acc (.lst [])))/\∀i m H2,W i m H2 ->
   ((Itt K a).stop i H2/\R H2)\/((Itt K a).go i H2/\∃N:Hp->Prop,(∀H',N H'->∃m',m'<m/\W (i+1) m' H')/\∀x H3,(Itt K a).yld i H2 x H3->g x σ H3 λ σ2 H4=>Ext σ σ2/\tt σ2 H4 λ b H5 =>
    if b=true then te σ2 H5 λ y H6=>∃zs,H6 acc=some (.lst zs)/\zs.length<sizeLine/\N (upd H6 acc (.lst (zs++[y])))
    else N H5):=by
 refine⟨λ i m H=>m=xs.length - i/\i<=xs.length/\Pv i H,⟨xs.length,by simp,lY _,h0⟩,?_⟩;rintro i m H2 ⟨rfl,hi,p⟩;have q:=hl i H2 hi p
 by_cases hlt:i<xs.length
 ·refine .inr ⟨⟨xs,xs[i],q,by simp[hlt]⟩,Pv (i+1),λ H' p'=>⟨xs.length - (i+1),by omega,rfl,hlt,p'⟩,λ x H' y=>?_⟩
  obtain⟨e,y⟩:=y;subst e;exact hs i x _ (y xs q) p
 ·have e:i=xs.length:=by omega
  subst e;exact .inl ⟨⟨xs,q,lQ _⟩,hd H2 p⟩
theorem zHc {α:Type}:∀{l:List α},l.Nodup->∀{i j:Nat}{a:α},l[i]?=some a->l[j]?=some a->i=j
 |[],_,i,j,a,h,_=>by simp at h
 |x::l,nd,0,0,a,_,_=>rfl
 |x::l,nd,0,j+1,a,h1,h2=>by
  rw[List.nodup_cons] at nd;have e:x=a:=by simpa using h1
  exact absurd (e▸lM (show l[j]?=some a by simpa using h2)) nd.1
 |x::l,nd,i+1,0,a,h1,h2=>by
  rw[List.nodup_cons] at nd;have e:x=a:=by simpa using h2
  exact absurd (e▸lM (show l[i]?=some a by simpa using h1)) nd.1
 |x::l,nd,i+1,j+1,a,h1,h2=>by
  rw[List.nodup_cons] at nd;rw[zHc nd.2 (i:=i) (j:=j) (a:=a) (by simpa using h1) (by simpa using h2)]
theorem zI0 {X:Cx}{K:W.Frag}{es:List Expr}{k:Nat}{t:TGs}{n:Nat}{pos:Pos}(hK:X.K=K) (hc:X.calm=true) (h:PGs X es t)
  (hn:(assignEach es X.env).length=n:=by rfl) (hst:(assignEach es X.env).findIdx? (·.1)=none:=by rfl):PG X (.Tuple es k pos) (gTup K n t):=hK▸zBz hc h hn hst
section
variable {X:Cx}
theorem zMQ (hu:X.A.units+1<cLine):OpR X (compareOp .In) (λ x y H Q=>∃(a:Addr) (o:Option V),y = .ref a/\DGet H a x o/\Q (.bl o.isSome) H):=by
 intro jP s σ H x y v u Q I rx ry h;obtain⟨a,o,rfl,g,q⟩:=h;cases ry;exact d_in hu I g rx λ s' I'=>⟨.bl o.isSome,H,I',rfl,q⟩
theorem zJt:CallR X (.builtin "isinstance") (λ xs H Q=>∃(a:Addr) (kvs:List (Key × V)) (T:String) (b:Bool),xs=[.ref a,.ty T]/\Rd H a (.dK kvs)/\W.kitOne X.K (.type "dict") (.type T)=some b/\Q (.bl b) H):=by
 intro jP s σ H xs us Q I r h;obtain⟨a,kvs,T,b,rfl,e,hk,q⟩:=h;obtain⟨u,w',rfl,ru,rw'⟩:=vals2 r;cases ru;cases rw';obtain⟨_,_,vs,_,o,es,ep,h1,h2,_⟩:=dk_rd I.hok e;exact W.kia_one W.kitx_dict I.kIn ⟨o,h1,h2.1⟩ hk (λ z=>nomatch z) λ tk=>⟨.bl b,H,I.tok tk,rfl,q⟩
theorem zC7 {prog:Program}{w:World}{A:Around}{E:Value->Shared->Prop}{s:Shared}{t sl:Addr}{items:Array Value}{vl vu:Value}{lo hi:Option Int}{Q:Value->Shared->Prop}(ht:IsTup s.heap t items) (hs:s.heap.IsSliceOf sl vl vu .none) (pl:IsPart vl lo) (pu:IsPart vu hi)
  (hw:HT.sIx items.size 0 lo=0/\HT.sIx items.size items.size hi=items.size) (h:Q (.ref t) s):wpAny (model prog w) A (getItem (.ref t) (.ref sl)) Q E s:=by
 obtain⟨os,hos,hcs,hds⟩:=id hs;have hTs:s.TypeIs (.ref sl) "slice" := ⟨os,hos,hcs⟩;unfold getItem
 try with_reducible refine lD ?_
 first|refine lA (lB ?_)|skip
 refine lA (wpAny_sequenceKey ht.typeIs (by decide) ?_)
 refine lA (wpAny_callSpecial?_slot (name:=Str.ofString "__getitem__") ht.typeIs PyProof.Rows.slot_tuple_getitem
  (wpAny_call_entry PyProof.Rows.slot_tuple_getitem ht.typeIs entry_tuple_getitem ?_ (args_tuple_getitem _ _)))
 show wpAny _ _ (Builtin.Tuple.tupleItemsOf (.ref t) >>= _) _ _ s;refine lA (tupleItemsOf_ ht ?_);refine lA (wpAny_typeOf hTs ?_);rw[if_pos (by decide)];refine lA (HT.sliceApplied_gen hs pl pu ?_)
 have hyes:(((HT.sIx items.size 0 lo:Nat):Int) == 0 && (1:Int) == 1 && (HT.sIx items.size items.size hi - HT.sIx items.size 0 lo) == items.size)=true:=by
  rw[hw.1,hw.2];simp
 show wpAny _ _ (if (((HT.sIx items.size 0 lo:Nat):Int) == 0 && (1:Int) == 1 && (HT.sIx items.size items.size hi - HT.sIx items.size 0 lo) == items.size)=true then _ else _) _ _ s;rw[if_pos hyes];refine lA ?_;unfold Builtin.Tuple.tupleIsExact;refine lA (wpAny_typeOf ht.typeIs (lB ?_));rw[if_pos (by decide)]
 first
  |exact lA (wpAny_rule (lA (lB (lB ⟨_,rfl,lB h⟩))))
  |exact lA (wpAny_rule (lB ⟨_,rfl,lB h⟩))
  |exact lA (wpAny_rule (lA (lB ⟨_,rfl,lB h⟩)))
noncomputable def rSlW:V->Option Int->Option Int->Hp->VK->Prop:=λ x lo hi H Q=>∃a xs,x = .ref a/\H a=some (.tup xs)/\∀p H',Same H H'->H' p=some (.tup (cutV xs lo hi))->Q (.ref p) H'
theorem zLS:SlR X rSlW:=by
 intro jP s σ H x v vl vu lo hi sl Q I rx hs pl pu h;obtain⟨a,xs,rfl,ha,q⟩:=h
 by_cases hw:HT.sIx xs.length 0 lo=0/\HT.sIx xs.length xs.length hi=xs.length
 ·cases rx
  obtain⟨its,r,ht,hz⟩:=I.tuple (SqT.of ha);have hlen:its.toArray.size=xs.length:=by rw[List.size_toArray];exact r.length.symm
  refine⟨"tuple", _,PyProof.Rows.slot_tuple_getitem.lookup,ht.typeIs,?_⟩;refine zC7 ht hs pl pu (by rw[hlen];exact hw) ⟨.ref a,H,I,rfl,q a H (.refl H) ?_⟩;rw[ha];unfold cutV;rw[hw.1,hw.2];simp
 ·exact zK1 jP s σ H (.ref a) v vl vu lo hi sl Q I rx hs pl pu ⟨a,xs,rfl,SqT.of ha,hw,λ p hp=>q p _ (zAD hp) zAB⟩
end
structure Sd (p:Prop):Prop where
 un:p
section
variable {X:Cx}{st:Stmt}{rest:List Stmt}{t u:TS}{e a b:Expr}{es:List Expr}{te ta tb:TE}{tA:TA}{pos:Pos}
theorem zAM (h1:Sd (PS X st t)) (h2:Sd (PSs X rest u)):Sd (PSs X (st::rest) (tSeq t u)):=⟨zAE h1.un h2.un⟩
theorem zAh (h1:Sd (PS X st t)):Sd (PSs X [st] t):=⟨zAF h1.un⟩
theorem zBd {c:Expr}{x y:List Stmt}{tc:TT}(hc:Sd (PT X c tc)) (ha:Sd (PSs X x t)) (hb:Sd (PSs X y u)):Sd (PS X (.If c x y pos) (tIfS tc t u)):=⟨ps_if hc.un ha.un hb.un⟩
theorem zAv (he:Sd (PE X e te)):Sd (PS X (.Return (some e) pos) (tRet te)):=⟨zAU he.un⟩
theorem zAl {i:Nat}{x:Str}{pos':Pos}(hN:X.N.Nodup) (hi:X.N[i]?=some x) (hx:Loc X.env.scope x) (he:Sd (PE X e te)) (hs:swapsWith e (some (.Name x pos')) pos.line X.env=pure false:=by rfl) (hf:X.fn x=true\/X.env.scope.names.lookup x=some .local:=by first|exact .inl rfl|exact .inr rfl|assumption) :
  Sd (PS X (.Assign [.Name x pos'] e pos) (tAsg te (gName i))):=⟨zAX hN hi hx he.un hs hf⟩
theorem zAm {k:Nat}(h:Sd (PA X es tA)):Sd (PE X (.Tuple es k pos) (tTup tA)):=⟨zA8 h.un⟩
theorem zEI (h:Sd (PA X es tA)):Sd (PE X (.List es pos) (tLst tA)):=⟨zA1 h.un⟩
theorem zAI (ha:Sd (PE X e te)) (hr:Sd (PA X es tA)) (hs:starEach (e::es) X.env=(false,eval e X.env)::starEach es X.env:=by rfl):Sd (PA X (e::es) (tCons te tA)):=⟨zAA ha.un hr.un hs⟩
theorem zBs {r:R2}(hr:IxR X r) (ha:Sd (PE X a ta)) (hb:Sd (PE X b tb)) (hs:zJv b):Sd (PE X (.Subscript a b pos) (tOp r ta tb)):=⟨pe_ix hr ha.un hb.un hs⟩
end
section
variable {prog:Program}{w:World}{A:Around}{E:Value->Shared->Prop}{s:Shared}
abbrev ZipF (h:Heap) (z TI TO:Addr) (f0:Value) (f1:Bool):Prop:=h.get? z=some { cls:=.type "zip", data:=.fields #[f0,.bool f1,.bool false,.ref TI,.ref TO] }
noncomputable def ZipS (h:Heap) (z TI TO:Addr):Prop:=∃f0 f1,ZipF h z TI TO f0 f1/\(f0 = .none\/∃n:Nat,f0=rawInt n)
theorem zGY {M:Model}{a:Addr}{Q:Option Obj->Shared->Prop}(h:Q (s.heap.get? a) s):wpAny M A (loadIfAlive a) Q E s:=by
 intro Γ p hΓ;show Sem.wp M Γ (Sem.loadIfAlive a pure) _ _ p s;rw[Sem.wp_loadIfAlive];exact h
theorem zDu {z TI TO:Addr}{f0:Value}{f1:Bool}{Q:Bool->Shared->Prop}(hz:ZipF s.heap z TI TO f0 f1) (hf:f0 = .none\/∃n:Nat,f0=rawInt n) (h1:Q true s)
  (h2:∀h',ZipF h' z TI TO f0 true->Heap.SameBut z s.heap h'->Q false { s with heap:=h' }):wpAny (model prog w) A (Builtin.SmallTypes.ownedTupleIsFree (.ref z)) Q E s:=by
 unfold Builtin.SmallTypes.ownedTupleIsFree;refine lA (wpAny_field hz rfl (x:=f0) rfl ?_);rcases hf with rfl|⟨n,rfl⟩
 ·exact lB h1
 ·show wpAny _ _ (loadIfAlive ((n:Int)).toNat >>= _) _ _ _
  refine lA (zGY ?_);cases hg:s.heap.get? ((n:Int)).toNat with
  |none=>exact lB h1
  |some o =>
   show wpAny _ _ (field (.ref z) 1 >>= _) _ _ _;refine lA (wpAny_field hz rfl (x:=.bool f1) rfl ?_);cases f1 with
   |true=>exact lB (h2 s.heap hz ⟨rfl,λ Ω Ω=>rfl⟩)
   |false =>
    show wpAny _ _ (setField (.ref z) 1 (.bool true) >>= _) _ _ _;exact lA (wpAny_setField_rec hz (by simp) λ q hz1 hs1=>lB (h2 q hz1 hs1))
theorem zIX {z TI TO i1 i2 l1 l2:Addr}{k:Nat}{xs ys:Array Value}{x y a b:Value}{Q:Value->Shared->Prop}(D:ZipApart z TI TO i1 i2 l1 l2)
  (hz:ZipS s.heap z TI TO) (hTI:IsPair s.heap TI (.ref i1) (.ref i2)) (hTO:IsPair s.heap TO a b) (h1:s.heap.IsTupleIter i1 l1 k) (h2:s.heap.IsTupleIter i2 l2 k)
  (hl1:s.heap.IsTuple l1 xs) (hl2:s.heap.IsTuple l2 ys) (hx:xs[k]?=some x) (hy:ys[k]?=some y)
  (hQ:∀h',ZipS h' z TI TO->(∃p q,IsPair h' TO p q)->h'.IsTupleIter i1 l1 (k+1)->h'.IsTupleIter i2 l2 (k+1)->IsPair h' s.heap.objs.size x y->h'.objs.size=s.heap.objs.size+1 ->
   (∀c o,c≠z->c≠TO->c≠i1->c≠i2->s.heap.get? c=some o->h'.get? c=some o)->Q (.ref s.heap.objs.size) { s with heap:=h' }):wpAny (model prog w) A (Builtin.SmallTypes.nextOf (.ref z)) Q E s:=by
 obtain⟨f0,f1,hz,hf⟩:=hz;have hT:s.TypeIs (.ref z) "zip" := ⟨_,hz,rfl⟩;unfold Builtin.SmallTypes.nextOf;refine lA (wpAny_callSpecial?_slot (name:=Str.ofString "__next__") hT F.slot_zip_next (wpAny_call_entry F.slot_zip_next hT F.entry_zip_next ?_ (F.args_zip_next_1 _)));show wpAny _ _ (field (.ref z) 2 >>= _) _ _ _;refine lA (wpAny_field hz rfl (x:=.bool false) rfl ?_);show wpAny _ _ (field (.ref z) 3 >>= _) _ _ _;refine lA (wpAny_field hz rfl (x:=.ref TI) rfl ?_);refine lA (wpAny_seqItems hTI rfl ?_);show wpAny _ _ (Builtin.SmallTypes.ownedTupleIsFree (.ref z) >>= _) _ _ _;refine lA (zDu hz hf ?_ λ q1 hz1 hs1=>?_)
 ·simp only[if_true];refine lA (wpAny_rule ?_);refine lA (wpAny_field hz rfl (x:=.ref TO) rfl ?_)
  refine lA (wpAny_setField_rec hz (by simp) λ q1 hz1 hs1=>?_);replace hz1:ZipF q1 z TI TO .ellipsis f1:=hz1;refine lA ?_;simp only[List.zipIdx_cons,List.zipIdx_nil,List.forIn_cons,List.forIn_nil];refine lA (lA (wpAny_onRaise ?_));show wpAny _ _ (Builtin.SmallTypes.nextOf (.ref i1) >>= _) _ _ _;refine lA (zAj (itB h1 hs1 D.i1z) (tpB hl1 hs1 D.l1z) hx λ q2 j1 hs2=>lB ?_);have hTO2:IsPair q2 TO a b:=hs2.extBut _ _ D.TOi1 (hs1.extBut _ _ D.TOz hTO);refine lA (wpAny_seqItems hTO2 rfl ?_);refine lA (wpAny_updateSeq_pair hTO2 λ q3 hTO3 hs3=>?_);replace hTO3:IsPair q3 TO x b:=hTO3;refine lA (wpAny_letGo (lB ?_));refine lA (lA (wpAny_onRaise ?_));show wpAny _ _ (Builtin.SmallTypes.nextOf (.ref i2) >>= _) _ _ _;refine lA (zAj (itB (itB (itB h2 hs1 D.i2z) hs2 D.i12.symm) hs3 D.TOi2.symm) (tpB (tpB (tpB hl2 hs1 D.l2z) hs2 D.l2i1) hs3 D.l2TO) hy λ q4 j2 hs4=>lB ?_);have hTO4:IsPair q4 TO x b:=hs4.extBut _ _ D.TOi2 hTO3;refine lA (wpAny_seqItems hTO4 rfl ?_);refine lA (wpAny_updateSeq_pair hTO4 λ q5 hTO5 hs5=>?_);replace hTO5:IsPair q5 TO x y:=hTO5;refine lA (wpAny_letGo (lB (lB ?_)));refine lA (wpAny_seqItems hTO5 rfl ?_);refine lA (wpAny_newTuple ?_);have hsz:q5.objs.size=s.heap.objs.size:=by rw[hs5.1,hs4.1,hs3.1,hs2.1,hs1.1]
  have hz5:ZipF q5 z TI TO .ellipsis f1:=hs5.extBut _ _ D.TOz.symm (hs4.extBut _ _ D.i2z.symm (hs3.extBut _ _ D.TOz.symm (hs2.extBut _ _ D.i1z.symm hz1)));have hk5:∀c o,c≠z->c≠TO->c≠i1->c≠i2->s.heap.get? c=some o->q5.get? c=some o:=λ c o c1 c2 c3 c4 e=>hs5.extBut _ _ c2 (hs4.extBut _ _ c4 (hs3.extBut _ _ c2 (hs2.extBut _ _ c3 (hs1.extBut _ _ c1 e))));have j15:q5.IsTupleIter i1 l1 (k+1):=itB (itB (itB j1 hs3 D.TOi1.symm) hs4 D.i12) hs5 D.TOi1.symm;have j25:q5.IsTupleIter i2 l2 (k+1):=itB j2 hs5 D.TOi2.symm;have hzlt:z<q5.objs.size:=lH hz5;show wpAny _ _ (Builtin.SmallTypes.ownedTupleHandOut (.ref z) (.ref q5.objs.size) >>= _) _ _ _;refine lA ?_;unfold Builtin.SmallTypes.ownedTupleHandOut;have hz6:ZipF (q5.push { cls:=.type "tuple", data:=.seq #[x,y] }) z TI TO .ellipsis f1:=lE _ hz5;refine lA (wpAny_setField_rec hz6 (by simp) λ q7 hz7 hs7=>?_);replace hz7:ZipF q7 z TI TO (rawInt q5.objs.size) f1:=hz7;refine wpAny_setField_rec hz7 (by simp) λ q8 hz8 hs8=>?_;replace hz8:ZipF q8 z TI TO (rawInt q5.objs.size) false:=hz8;have up:∀c o,c≠z->q5.get? c=some o->q8.get? c=some o:=λ c o c1 e=>hs8.extBut _ _ c1 (hs7.extBut _ _ c1 (lE _ e));have hT8:IsPair q8 q5.objs.size x y:=hs8.extBut _ _ (Nat.ne_of_gt hzlt) (hs7.extBut _ _ (Nat.ne_of_gt hzlt) (lG _ rfl));have hsz8:q8.objs.size=s.heap.objs.size+1:=by rw[hs8.1,hs7.1,Heap.size_push,hsz]
  rw[hsz] at hz8 hT8;refine lB ⟨_,rfl,lB ?_⟩;show Q (.ref q5.objs.size) _;rw[hsz];exact hQ q8 ⟨_,_,hz8,.inr ⟨_,rfl⟩⟩ ⟨_,_,up _ _ D.TOz hTO5⟩ (let ⟨o,e,r⟩:=j15;⟨o,up _ o D.i1z e,r⟩) (let ⟨o,e,r⟩:=j25;⟨o,up _ o D.i2z e,r⟩) hT8 hsz8 λ c o c1 c2 c3 c4 e=>up c o c1 (hk5 c o c1 c2 c3 c4 e)
 ·rw[if_neg Bool.false_ne_true]
  refine lA ?_;rw[←Array.forIn_toList];simp only[List.forIn_cons,List.forIn_nil];refine lA (lA (lD ?_));show wpAny _ _ (Builtin.SmallTypes.nextOf (.ref i1) >>= _) _ _ _;refine lA (zAj (itB h1 hs1 D.i1z) (tpB hl1 hs1 D.l1z) hx λ q2 j1 hs2=>lB (lB ?_));refine lA (lA (lD ?_));show wpAny _ _ (Builtin.SmallTypes.nextOf (.ref i2) >>= _) _ _ _;refine lA (zAj (itB (itB h2 hs1 D.i2z) hs2 D.i12.symm) (tpB (tpB hl2 hs1 D.l2z) hs2 D.l2i1) hy λ q4 j2 hs4=>lB (lB (lB ?_)));refine lA (wpAny_newTuple ?_ (by show 2<=sizeLine;decide));have hsz:q4.objs.size=s.heap.objs.size:=by rw[hs4.1,hs2.1,hs1.1]
  have hz4:ZipF q4 z TI TO f0 true:=hs4.extBut _ _ D.i2z.symm (hs2.extBut _ _ D.i1z.symm hz1);have up:∀c o,q4.get? c=some o->(q4.push { cls:=.type "tuple", data:=.seq #[x,y] }).get? c=some o:=λ c o e=>lE _ e;have hk4:∀c o,c≠z->c≠TO->c≠i1->c≠i2->s.heap.get? c=some o->q4.get? c=some o:=λ c o c1 c2 c3 c4 e=>hs4.extBut _ _ c4 (hs2.extBut _ _ c3 (hs1.extBut _ _ c1 e));have hT8:IsPair (q4.push { cls:=.type "tuple", data:=.seq #[x,y] }) q4.objs.size x y:=lG _ rfl;have hTO4:IsPair q4 TO a b:=hs4.extBut _ _ D.TOi2 (hs2.extBut _ _ D.TOi1 (hs1.extBut _ _ D.TOz hTO));have hsz8:(q4.push { cls:=.type "tuple", data:=.seq #[x,y] }).objs.size=s.heap.objs.size+1:=by rw[Heap.size_push,hsz]
  refine lB ⟨_,rfl,lB ?_⟩;show Q (.ref q4.objs.size) { s with heap:=q4.push { cls:=.type "tuple", data:=.seq #[x,y] } };rw[hsz] at hT8 ⊢;exact hQ _ ⟨_,_,up _ _ hz4,hf⟩ ⟨_,_,up _ _ hTO4⟩ (let ⟨o,e,r⟩:=itB j1 hs4 D.i12;⟨o,up _ o e,r⟩) (let ⟨o,e,r⟩:=j2;⟨o,up _ o e,r⟩) hT8 hsz8 λ c o c1 c2 c3 c4 e=>up c o (hk4 c o c1 c2 c3 c4 e)
theorem zJz {z TI TO i1 i2 l1 l2:Addr}{k:Nat}{xs ys:Array Value}{a b:Value}{Q:Value->Shared->Prop}(hh:A.handled=none) (D:ZipApart z TI TO i1 i2 l1 l2)
  (hz:ZipS s.heap z TI TO) (hTI:IsPair s.heap TI (.ref i1) (.ref i2)) (hTO:IsPair s.heap TO a b) (h1:s.heap.IsTupleIter i1 l1 k) (h2:s.heap.IsTupleIter i2 l2 k)
  (hl1:s.heap.IsTuple l1 xs) (hl2:s.heap.IsTuple l2 ys) (hend:xs[k]?=none\/ys[k]?=none)
  (hE:∀h' e,(∀c o,c≠z->c≠TO->c≠i1->c≠i2->s.heap.get? c=some o->h'.get? c=some o)->(∃o,h'.get? e=some o/\o.cls = .type "StopIteration")->E (.ref e) { s with heap:=h' }):wpAny (model prog w) A (Builtin.SmallTypes.nextOf (.ref z)) Q E s:=by
 obtain⟨f0,f1,hz,hf⟩:=hz;have hT:s.TypeIs (.ref z) "zip" := ⟨_,hz,rfl⟩;unfold Builtin.SmallTypes.nextOf;refine lA (wpAny_callSpecial?_slot (name:=Str.ofString "__next__") hT F.slot_zip_next (wpAny_call_entry F.slot_zip_next hT F.entry_zip_next ?_ (F.args_zip_next_1 _)));show wpAny _ _ (field (.ref z) 2 >>= _) _ _ _;refine lA (wpAny_field hz rfl (x:=.bool false) rfl ?_);show wpAny _ _ (field (.ref z) 3 >>= _) _ _ _;refine lA (wpAny_field hz rfl (x:=.ref TI) rfl ?_);refine lA (wpAny_seqItems hTI rfl ?_);show wpAny _ _ (Builtin.SmallTypes.ownedTupleIsFree (.ref z) >>= _) _ _ _;refine lA (zDu hz hf ?_ λ q1 hz1 hs1=>?_)
 ·simp only[if_true];refine lA (wpAny_rule ?_);refine lA (wpAny_field hz rfl (x:=.ref TO) rfl ?_)
  refine lA (wpAny_setField_rec hz (by simp) λ q1 hz1 hs1=>?_);replace hz1:ZipF q1 z TI TO .ellipsis f1:=hz1;refine lA ?_;simp only[List.zipIdx_cons,List.zipIdx_nil,List.forIn_cons,List.forIn_nil];refine lA (lA (wpAny_onRaise ?_));show wpAny _ _ (Builtin.SmallTypes.nextOf (.ref i1) >>= _) _ _ _;cases hx:xs[k]? with
  |none =>
   refine lA (zAz hh (itB h1 hs1 D.i1z) (tpB hl1 hs1 D.l1z) hx λ q2 e hs2 he=>?_);obtain⟨oe,hoe,hce⟩:=he;have hz2:ZipF q2 z TI TO .ellipsis f1:=hs2 _ _ D.i1z.symm hz1;have hez:e≠z:=λ x=>by subst x;rw[hz2] at hoe;cases hoe;simp at hce
   exact wpAny_setField_rec hz2 (by simp) λ q3 Ω hs3=>hE q3 e (λ c o c1 Ω c3 Ω x=>hs3.extBut _ _ c1 (hs2 _ _ c3 (hs1.extBut _ _ c1 x))) ⟨oe,hs3.extBut _ _ hez hoe,hce⟩
  |some x =>
   have hy:ys[k]?=none:=by rcases hend with h|h;rw[hx] at h;cases h;exact h
   refine lA (zAj (itB h1 hs1 D.i1z) (tpB hl1 hs1 D.l1z) hx λ q2 j1 hs2=>lB ?_);have hTO2:IsPair q2 TO a b:=hs2.extBut _ _ D.TOi1 (hs1.extBut _ _ D.TOz hTO);refine lA (wpAny_seqItems hTO2 rfl ?_);refine lA (wpAny_updateSeq_pair hTO2 λ q3 hTO3 hs3=>?_);refine lA (wpAny_letGo (lB ?_));refine lA (lA (wpAny_onRaise ?_));show wpAny _ _ (Builtin.SmallTypes.nextOf (.ref i2) >>= _) _ _ _;refine lA (zAz hh (itB (itB (itB h2 hs1 D.i2z) hs2 D.i12.symm) hs3 D.TOi2.symm) (tpB (tpB (tpB hl2 hs1 D.l2z) hs2 D.l2i1) hs3 D.l2TO) hy λ q4 e hs4 he=>?_);obtain⟨oe,hoe,hce⟩:=he;have hz4:ZipF q4 z TI TO .ellipsis f1:=hs4 _ _ D.i2z.symm (hs3.extBut _ _ D.TOz.symm (hs2.extBut _ _ D.i1z.symm hz1));have hez:e≠z:=λ x=>by subst x;rw[hz4] at hoe;cases hoe;simp at hce
   exact wpAny_setField_rec hz4 (by simp) λ q5 Ω hs5=>hE q5 e (λ c o c1 c2 c3 c4 x=>hs5.extBut _ _ c1 (hs4 _ _ c4 (hs3.extBut _ _ c2 (hs2.extBut _ _ c3 (hs1.extBut _ _ c1 x))))) ⟨oe,hs5.extBut _ _ hez hoe,hce⟩
 ·rw[if_neg Bool.false_ne_true]
  refine lA ?_;rw[←Array.forIn_toList];simp only[List.forIn_cons,List.forIn_nil];refine lA (lA (lD ?_));show wpAny _ _ (Builtin.SmallTypes.nextOf (.ref i1) >>= _) _ _ _;cases hx:xs[k]? with
  |none =>
   refine lA (zAz hh (itB h1 hs1 D.i1z) (tpB hl1 hs1 D.l1z) hx λ q2 e hs2 he=>?_);exact hE q2 e (λ c o c1 Ω c3 Ω x=>hs2 _ _ c3 (hs1.extBut _ _ c1 x)) he
  |some x =>
   have hy:ys[k]?=none:=by rcases hend with h|h;rw[hx] at h;cases h;exact h
   refine lA (zAj (itB h1 hs1 D.i1z) (tpB hl1 hs1 D.l1z) hx λ q2 j1 hs2=>lB (lB ?_));refine lA (lA (lD ?_));show wpAny _ _ (Builtin.SmallTypes.nextOf (.ref i2) >>= _) _ _ _;refine lA (zAz hh (itB (itB h2 hs1 D.i2z) hs2 D.i12.symm) (tpB (tpB hl2 hs1 D.l2z) hs2 D.l2i1) hy λ q4 e hs4 he=>?_);exact hE q4 e (λ c o c1 Ω c3 c4 x=>hs4 _ _ c4 (hs2.extBut _ _ c3 (hs1.extBut _ _ c1 x))) he
end
noncomputable def Itez (a b:Addr):It :=
 ⟨λ i H=>∃xs ys x y,H a=some (.tup xs)/\H b=some (.tup ys)/\xs[i]?=some x/\ys[i]?=some y,
 λ i H v H'=>∃T U x y,H U=none/\(upd H U (.tup [x,y])) T=none/\v = .ref T/\H'=upd (upd H U (.tup [x,y])) T (.tup [.int i,.ref U])/\(∀xs,H a=some (.tup xs)->xs[i]?=some x)/\∀ys,H b=some (.tup ys)->ys[i]?=some y,
 λ i H=>∃xs ys,H a=some (.tup xs)/\H b=some (.tup ys)/\(xs.length<=i\/ys.length<=i)⟩
abbrev EnZ (a b e z TI TO i1 i2:Addr) (i:Nat) (h:Heap):Prop:=(∃old,IsEnum h e z i old)/\ZipS h z TI TO/\IsPair h TI (.ref i1) (.ref i2)/\(∃p q,IsPair h TO p q)/\h.IsTupleIter i1 a i/\h.IsTupleIter i2 b i
theorem zLO {P:Program}{w:World}{K:W.Frag}{es:List Expr}{kk:Nat}{pos:Pos}(a b e z TI TO i1 i2:Addr)
  (ap:TI≠z/\TO≠z/\i1≠z/\i2≠z/\TI≠TO/\TI≠i1/\TI≠i2/\TO≠i1/\TO≠i2/\i1≠i2) (ae:e≠z/\e≠TI/\e≠TO/\e≠i1/\e≠i2) :
  Turn P w K (.Tuple es kk pos) (Itez a b) [e,z,TI,TO,i1,i2] e (EnZ a b e z TI TO i1 i2) where
 mem:=by simp
 obj:=λ i h st c hc=>by
  obtain⟨⟨old,he⟩,⟨f0,f1,hz,_⟩,hTI,⟨p,q,hTO⟩,⟨o1,e1,c1,d1⟩,o2,e2,c2,d2⟩:=st;simp only[List.mem_cons,List.not_mem_nil,or_false] at hc;rcases hc with rfl|rfl|rfl|rfl|rfl|rfl
  ·exact⟨_,he,λ v z=>by have z':Data.fields _=Data.cell v:=z;cases z'⟩
  ·exact⟨_,hz,λ v z=>by have z':Data.fields _=Data.cell v:=z;cases z'⟩
  ·exact⟨_,hTI,λ v z=>by have z':Data.seq _ _=Data.cell v:=z;cases z'⟩
  ·exact⟨_,hTO,λ v z=>by have z':Data.seq _ _=Data.cell v:=z;cases z'⟩
  ·exact⟨o1,e1,λ v z=>by rw[d1] at z;cases z⟩
  ·exact⟨o2,e2,λ v z=>by rw[d2] at z;cases z⟩
 keep:=λ i h h' st k=>by
  obtain⟨⟨old,he⟩,⟨f0,f1,hz,hf⟩,hTI,⟨p,q,hTO⟩,⟨o1,e1,r1⟩,o2,e2,r2⟩:=st;exact⟨⟨old,k e (by simp) _ he⟩,⟨f0,f1,k z (by simp) _ hz,hf⟩,k TI (by simp) _ hTI,⟨p,q,k TO (by simp) _ hTO⟩,⟨o1,k i1 (by simp) _ e1,r1⟩,o2,k i2 (by simp) _ e2,r2⟩
 item:=by
  intro X hP hw hK hc i jP s σ H E I hf st hg;subst hP hw hK;obtain⟨xs,ys,x,y,ha,hb,hx,hy⟩:=hg;obtain⟨⟨old,he⟩,hz,hTI,⟨p,q,hTO⟩,h1,h2⟩:=st;obtain⟨its,rv,t1,_⟩:=I.tuple (SqT.of ha);obtain⟨its2,rv2,t2,_⟩:=I.tuple (SqT.of hb);obtain⟨u,hu,ru⟩:=rv.get hx;obtain⟨u2,hu2,ru2⟩:=rv2.get hy;obtain⟨n1,n2,n3,n4,n5,n6,n7,n8,n9,n10⟩:=ap;obtain⟨m1,m2,m3,m4,m5⟩:=ae;have ne:∀{c d:Addr}{o:HO},H c=some o->d∈[e,z,TI,TO,i1,i2]->c≠d:=λ e hd=>zAK e (hf _ hd).1;have D:ZipApart z TI TO i1 i2 a b:=⟨n1,n2,n3,n4,n5,n6,n7,n8,n9,n10,ne ha (by simp),ne ha (by simp),ne ha (by simp),ne ha (by simp),ne hb (by simp),ne hb (by simp),ne hb (by simp),ne hb (by simp)⟩;have hT:s.TypeIs (.ref e) "enumerate" := ⟨_,he,rfl⟩
  have lts:∀c∈[e,z,TI,TO,i1,i2],c<s.heap.objs.size:=λ c hc=>by
   simp only[List.mem_cons,List.not_mem_nil,or_false] at hc;rcases hc with rfl|rfl|rfl|rfl|rfl|rfl
   ·exact lH (show s.heap.get? _=some _ from he)
   ·obtain⟨_,_,hz,_⟩:=hz;exact lH (show s.heap.get? _=some _ from hz)
   ·exact lH (show s.heap.get? _=some _ from hTI)
   ·exact lH (show s.heap.get? _=some _ from hTO)
   ·obtain⟨_,e,_⟩:=h1;exact lH e
   ·obtain⟨_,e,_⟩:=h2;exact lH e
  unfold pyNext;refine lA (wpAny_attempt (wpAny_callSpecial?_slot (name:=Str.ofString "__next__") hT F.slot_enumerate_next (wpAny_call_entry F.slot_enumerate_next hT F.entry_enumerate_next ?_ (F.args_enumerate_next_1 _))));show wpAny _ _ (field (.ref e) 2 >>= _) _ _ _;refine lA (wpAny_field he rfl (x:=.ref z) rfl ?_);refine lA (zIX D hz hTI hTO h1 h2 (show s.heap.IsTuple a its.toArray from t1) (show s.heap.IsTuple b its2.toArray from t2) (by simpa using hu) (by simpa using hu2) λ q1 hz1 hTO1 j1 j2 hU hsz1 hk1=>?_);have he1:IsEnum q1 e z i old:=hk1 _ _ m1 m3 m4 m5 he;show wpAny _ _ (field (.ref e) 3 >>= _) _ _ _;refine lA (wpAny_field he1 rfl (x:=rawInt i) rfl ?_);show wpAny _ _ (field (.ref e) 4 >>= _) _ _ _;refine lA (wpAny_field he1 rfl (x:=.none) rfl ?_);show wpAny _ _ (mkInt (i:Int) >>= _) _ _ _;refine lA (wpAny_mkInt ?_);refine lA (wpAny_setField_rec he1 (by simp) λ q2 he2 hs2=>?_);refine lA (wpAny_setField_rec he2 (by simp) λ q3 he3 hs3=>?_);refine lA (wpAny_newTuple ?_ (by show 2<=sizeLine;decide));have hsz3:q3.objs.size=s.heap.objs.size+1:=by rw[hs3.1,hs2.1,hsz1]
  have he4:IsEnum (q3.push { cls:=.type "tuple", data:=.seq #[.int i s.toks,.ref s.heap.objs.size] }) e z ((i:Int)+1) old:=lE _ he3;show wpAny _ _ (Builtin.SmallTypes.ownedTupleIsFree (.ref e) >>= _) _ _ _;refine lA ?_;unfold Builtin.SmallTypes.ownedTupleIsFree;refine lA (wpAny_field he4 rfl (x:=.none) rfl (lB ?_));simp only[if_true];refine lA (wpAny_rule ?_);refine lA (wpAny_field he4 rfl (x:=old) rfl ?_);refine lA (wpAny_setField_rec he4 (by simp) λ q5 he5 hs5=>?_);show wpAny _ _ (Builtin.SmallTypes.ownedTupleHandOut (.ref e) (.ref q3.objs.size) >>= _) _ _ _;refine lA ?_;unfold Builtin.SmallTypes.ownedTupleHandOut;refine lA (wpAny_setField_rec he5 (by simp) λ q6 he6 hs6=>?_);refine wpAny_setField_rec he6 (by simp) λ q7 he7 hs7=>?_;refine lA (wpAny_letGo ?_);refine lB ⟨_,rfl,lB ⟨_,rfl,?_⟩⟩;have hU7:∀c o,c≠e->q3.get? c=some o->q7.get? c=some o:=λ c o c1 h=>hs7.extBut _ _ c1 (hs6.extBut _ _ c1 (hs5.extBut _ _ c1 (lE _ h)));have h17:∀c o,c≠e->q1.get? c=some o->q7.get? c=some o:=λ c o c1 h=>hU7 c o c1 (hs3.extBut _ _ c1 (hs2.extBut _ _ c1 h));have eLt:=lts e (by simp)
  have hT7:IsPair q7 q3.objs.size (.int i s.toks) (.ref s.heap.objs.size):=by
   have nE:q3.objs.size≠e:=by rw[hsz3];exact Nat.ne_of_gt (Nat.lt_succ_of_lt eLt)
   exact hs7.extBut _ _ nE (hs6.extBut _ _ nE (hs5.extBut _ _ nE (lG _ rfl)))
  have hout:IsEnumOut q7 e z ((i:Int)+1) (.ref s.heap.objs.size) q3.objs.size:=he7;have hn:H s.heap.objs.size=none:=I.fresh;have kAll:∀c o,c∉[e,z,TO,i1,i2]->s.heap.get? c=some o->q3.get? c=some o:=λ c o hc h=>hs3.extBut _ _ (λ q=>hc (by simp[q])) (hs2.extBut _ _ (λ q=>hc (by simp[q])) (hk1 c o (λ q=>hc (by simp[q])) (λ q=>hc (by simp[q])) (λ q=>hc (by simp[q])) (λ q=>hc (by simp[q])) h));have hfE:∀c∈[e,z,TO,i1,i2],FpOk X jP H c:=λ c hc=>hf c (by simp at hc ⊢;rcases hc with r|r|r|r|r<;>simp[r]);have hU3:IsPair q3 s.heap.objs.size u u2:=hs3.extBut _ _ (Nat.ne_of_gt eLt) (hs2.extBut _ _ (Nat.ne_of_gt eLt) hU);have neT:∀c∈[e,z,TI,TO,i1,i2],c≠s.heap.objs.size:=λ c hc=>lR (lts c hc);have neT2:∀c∈[e,z,TI,TO,i1,i2],c≠q3.objs.size:=λ c hc=>by rw[hsz3];exact lR (Nat.lt_succ_of_lt (lts c hc))
  have I1:Inv X jP σ (upd H s.heap.objs.size (.tup [x,y])) { s with heap:=q3,toks:=s.toks+1 }:=I.turnedL (ch:=[e,z,TO,i1,i2]) kAll hfE (lQ _) ⟨Nat.le_of_lt (zAS (show 2<=1000 by decide)),[u,u2],.cons ru (.cons ru2 .nil),_,hU3,rfl,_,rfl⟩;have hn2:(upd H s.heap.objs.size (.tup [x,y])) q3.objs.size=none:=I1.fresh
  have fpE:FpOk X jP (upd H s.heap.objs.size (.tup [x,y])) e:=by
   obtain⟨f0,f⟩:=hf e (by simp);exact⟨by rw[zAL (neT e (by simp))];exact f0,f⟩
  have I2:Inv X jP σ (upd (upd H s.heap.objs.size (.tup [x,y])) q3.objs.size (.tup [.int i,.ref s.heap.objs.size])) { s with heap:=q7,toks:=s.toks+1 }:=I1.turnedL (t':=s.toks+1) (ch:=[e]) (λ c o hc h=>hU7 c o (λ q=>hc (by simp[q])) h) (λ c hc=>by rw[List.mem_singleton.mp hc];exact fpE) (lQ _)
   ⟨Nat.le_of_lt (zAS (show 2<=1000 by decide)),[.int i s.toks,.ref s.heap.objs.size],.cons ⟨_,rfl⟩ (.cons rfl .nil),_,hT7,rfl,_,rfl⟩
  refine wpAny_letOwnedTupleGo_enum (s:={ s with heap:=q7,toks:=s.toks+1 }) hout λ h2 he2 hs2'=>⟨.ref q3.objs.size,_,?_,rfl,⟨_,_,x,y,hn,hn2,rfl,rfl,λ ws e=>by rw[ha] at e;cases e;exact hx,λ ws e=>by rw[hb] at e;cases e;exact hy⟩,⟨⟨_,he2⟩,?_,?_,?_,?_,?_⟩,λ c hc=>?_⟩
  ·refine I2.turnedN (t':=s.toks+1) (ch:=[e]) (λ c o hc q=>(hs2'.2 c (λ z=>hc (by simp[z]))).trans q) λ c hc=>?_
   rw[List.mem_singleton.mp hc];obtain⟨f0,f⟩:=fpE;exact⟨by rw[zAL (neT2 e (by simp))];exact f0,f⟩
  ·obtain⟨f0,f1,hz1,hff⟩:=hz1
   exact⟨f0,f1,hs2'.extBut _ _ m1.symm (h17 _ _ m1.symm hz1),hff⟩
  ·exact hs2'.extBut _ _ m2.symm (h17 _ _ m2.symm (hk1 _ _ n1 n5 n6 n7 hTI))
  ·obtain⟨p',q',hTO1⟩:=hTO1
   exact⟨p',q',hs2'.extBut _ _ m3.symm (h17 _ _ m3.symm hTO1)⟩
  ·obtain⟨o,q,r⟩:=j1
   exact⟨o,hs2'.extBut _ _ m4.symm (h17 _ _ m4.symm q),r⟩
  ·obtain⟨o,q,r⟩:=j2
   exact⟨o,hs2'.extBut _ _ m5.symm (h17 _ _ m5.symm q),r⟩
  ·rw[zAL (neT2 c hc),zAL (neT c hc)];exact(hf c hc).1
 done:=by
  intro X hP hw hK hc i jP s σ H E I hf st hg;subst hP hw hK;obtain⟨xs,ys,ha,hb,hend⟩:=hg;obtain⟨⟨old,he⟩,hz,hTI,⟨p,q,hTO⟩,h1,h2⟩:=st;obtain⟨its,rv,t1,_⟩:=I.tuple (SqT.of ha);obtain⟨its2,rv2,t2,_⟩:=I.tuple (SqT.of hb);have l1:=rv.length;have l2:=rv2.length;obtain⟨n1,n2,n3,n4,n5,n6,n7,n8,n9,n10⟩:=ap;have ne:∀{c d:Addr}{o:HO},H c=some o->d∈[e,z,TI,TO,i1,i2]->c≠d:=λ e hd=>zAK e (hf _ hd).1;have D:ZipApart z TI TO i1 i2 a b:=⟨n1,n2,n3,n4,n5,n6,n7,n8,n9,n10,ne ha (by simp),ne ha (by simp),ne ha (by simp),ne ha (by simp),ne hb (by simp),ne hb (by simp),ne hb (by simp),ne hb (by simp)⟩;have hT:s.TypeIs (.ref e) "enumerate" := ⟨_,he,rfl⟩;unfold pyNext;refine lA (wpAny_attempt (wpAny_callSpecial?_slot (name:=Str.ofString "__next__") hT F.slot_enumerate_next (wpAny_call_entry F.slot_enumerate_next hT F.entry_enumerate_next ?_ (F.args_enumerate_next_1 _))));show wpAny _ _ (field (.ref e) 2 >>= _) _ _ _;refine lA (wpAny_field he rfl (x:=.ref z) rfl ?_);refine lA (zJz (I.ok.hd hc) D hz hTI hTO h1 h2 (show s.heap.IsTuple a its.toArray from t1) (show s.heap.IsTuple b its2.toArray from t2) ?_ λ h1 x hx1 ⟨o,ho,hc'⟩=>?_)
  ·rcases hend with h|h
   ·exact .inl (by simp;omega)
   ·exact .inr (by simp;omega)
  refine lA (wpAny_isInstance (T := "StopIteration") (b:=true) ⟨o,ho,hc'⟩ isSubtype_stop ?_);exact lB ⟨rfl,I.turnedN (t':=s.toks) (ch:=[z,TO,i1,i2]) (λ c o hc q=>hx1 c o (λ z=>hc (by simp[z])) (λ z=>hc (by simp[z])) (λ z=>hc (by simp[z])) (λ z=>hc (by simp[z])) q) λ c hc=>hf c (by simp at hc ⊢;rcases hc with r|r|r|r<;>simp[r])⟩
 self:=λ Ω Ω Ω Ω Ω st h=>let ⟨⟨_,he⟩,_⟩:=st;wpAny_pyIter_enum he h
set_option tactic.hygienic true in
theorem zEi (z TI TO:Addr) :
  Meets (Builtin.«enumerate.__new__» ⟨[.type "enumerate", .ref z],[]⟩) (λ Ω R s=>IsZip s.heap z TI TO .none /\
   R (.ok (.ret (.ref s.heap.objs.size))) { s with heap:=s.heap.push { cls:=.type "enumerate", data:=.fields #[.none,.bool false,.ref z,rawInt 0,.none,.none] } }) :=
 .of_wp λ prog w A R s h=>by
  obtain⟨hp,g,d,tk,os⟩:=s;obtain⟨hl,h⟩:=h;have hsub:=sub_enumerate;have hL:IsZip (Shared.heap ⟨hp,g,d,tk,os⟩) z TI TO .none:=hl
  wp_walk using AutoSeq1.wpAny_loadPart' hl
  refine wpAny_stack_any λ st=>lB ?_;split
  ·rename_i c _ _ _ _ _;cases (c == Value.type "enumerate")
   ·wp_walk using AutoSeq1.wpAny_loadPart' hl,wpAny_pyIter_zip hL;exact⟨_,rfl,h⟩
   ·wp_walk using AutoSeq1.wpAny_loadPart' hl,wpAny_pyIter_zip hL;exact⟨_,rfl,h⟩
  ·wp_walk using AutoSeq1.wpAny_loadPart' hl,wpAny_pyIter_zip hL;exact⟨_,rfl,h⟩
theorem zFX {prog:Program}{w:World}{A:Around}{E:Value->Shared->Prop}{s:Shared}{z TI TO:Addr}{Q:Value->Shared->Prop}(hz:IsZip s.heap z TI TO .none)
  (h:∀h',IsEnum h' s.heap.objs.size z 0 .none->(∀b o,s.heap.get? b=some o->h'.get? b=some o)->Q (.ref s.heap.objs.size) { s with heap:=h' }):wpAny (model prog w) A (call (.type "enumerate") [.ref z]) Q E s:=by
 refine callType_new F.called_enumerate (by decide) (F.typeCall_enumerate_1 _) (F.newCall_enumerate_1 _) (λ obj=>F.args_object_init_2 obj _) F.entry_enumerate_new (zEi z TI TO) ⟨hz,?_⟩;exact⟨⟨_,lG _ rfl,rfl⟩,h _ (lG _ rfl) λ b o x=>lE _ x⟩
noncomputable def zKg (ta:TA):TI:=λ σ H R=>ta σ H λ vs H1=>∃a b xs ys,vs=[.ref a,.ref b]/\H1 a=some (.tup xs)/\H1 b=some (.tup ys)/\R (Itez a b) H1
theorem zEt {X:Cx}{es:List Expr}{k:Nat}{tpos:Pos}{a b:Expr}{ta:TA}{p p2 pos pos2:Pos}(hg:Gl X "enumerate") (hm:X.mg "enumerate" = none) (hg2:Gl X "zip") (hm2:X.mg "zip" = none) (ha:PA X [a,b] ta) (hs:starEach [a,b] X.env=[(false,eval a X.env),(false,eval b X.env)]:=by rfl) (hs2:starEach [b] X.env=[(false,eval b X.env)]:=by rfl)
  (hs3:starEach [Expr.Call (.Name "zip" p2) [a,b] [] pos2] X.env=[(false,eval (Expr.Call (.Name "zip" p2) [a,b] [] pos2) X.env)]:=by rfl) :
  PI X (.Tuple es k tpos) (.Call (.Name "enumerate" p) [.Call (.Name "zip" p2) [a,b] [] pos2] [] pos) (zKg ta):=by
 intro jP s σ H R I h;refine Call_ (zBv I hg hm boot_enumerate (PyProof.Rows.callWith_type1 ?_ hs3 rfl));rw[hs3];show wpAny _ _ (spliced [(false,eval (Expr.Call (.Name "zip" p2) [a,b] [] pos2) X.env)]) _ _ s;refine Calls.spliced_cons ?_;refine Call_ (zBv I hg2 hm2 zDK (PyProof.Rows.callWith_type1 (thn (ha pos2 jP s σ H _ I h) λ us s1 ⟨vs,H1,I1,r1,q1⟩=>?_) (by rw[hs,hs2]) (by rw[hs2];rfl)));obtain⟨l1,l2,xs,ys,e,h1,h2,q⟩:=q1;subst e;obtain⟨u,w',rfl,ru,rw'⟩:=vals2 r1;cases ru;cases rw';obtain⟨its,rv,t1,_⟩:=I1.tuple (SqT.of h1);obtain⟨its2,rv2,t2,_⟩:=I1.tuple (SqT.of h2);refine zGJ (show s1.heap.IsTuple l1 its.toArray from t1) (show s1.heap.IsTuple l2 its2.toArray from t2) λ h' z TI TO i1 i2 a0 a1 a2 a3 a4 a5 a6 a7 a8 a9 b1 b2=>?_;refine Calls.spliced_nil ?_;refine zFX (s:={ s1 with heap:=h' }) a7 λ h2 he hk=>?_;have up:∀{c:Addr}{o:Obj},h'.get? c=some o->h2.get? c=some o:=λ e=>hk _ _ e;have lt:∀{c:Addr}{o:Obj},h'.get? c=some o->h'.objs.size≠c:=λ e=>Nat.ne_of_gt (lH e);obtain⟨o1,e1,r1'⟩:=b1;obtain⟨o2,e2,r2'⟩:=b2
 refine wpAny_pyIter_enum he ⟨_,[h'.objs.size,z,TI,TO,i1,i2],_,_,H1,rfl,I1.kept (t':=s1.toks) (λ c o e=>hk c o (a0 c o e)),zLO l1 l2 h'.objs.size z TI TO i1 i2 a6 ⟨lt a7,lt a8,lt a9,lt e1,lt e2⟩,
  ⟨⟨_,he⟩,⟨_,_,up a7,.inl rfl⟩,up a8,⟨_,_,up a9⟩,⟨o1,up e1,r1'⟩,⟨o2,up e2,r2'⟩⟩,λ c hc=>?_,q⟩
 have ge:s1.heap.objs.size<=c:=by
  have l0:s1.heap.objs.size<=h'.objs.size:=Nat.le_of_lt (Nat.lt_of_le_of_lt a1 (lH (show h'.get? z=some _ from a7)));simp only[List.mem_cons,List.not_mem_nil,or_false] at hc;rcases hc with rfl|rfl|rfl|rfl|rfl|rfl<;>assumption
 exact I1.fpOk ge (I1.hok.fresh ge)
theorem zLF {a b:Addr}{xs ys:List V}{g:TG}{tb:TS}{D:Ends}{σ:L2.St}{H:Hp}(Pv:Nat->L2.St->Hp->Prop) (h0:Pv 0 σ H) (hl:∀i σ H,i<=min xs.length ys.length->Pv i σ H->H a=some (.tup xs)/\H b=some (.tup ys))
  (hs:∀i x y T U σ H,xs[i]?=some x->ys[i]?=some y->Pv i σ H->H U=none->(upd H U (.tup [x,y])) T=none->g (.ref T) σ (upd (upd H U (.tup [x,y])) T (.tup [.int i,.ref U])) λ σ2 H2=>tb { D with nx:=Pv (i+1),ct:=Pv (i+1),bk:=D.nx } σ2 H2) (hd:∀σ H,Pv (min xs.length ys.length) σ H->D.nx σ H) :
  ∃W:Nat->Nat->L2.St->Hp->Prop,(∃m,W 0 m σ H)/\∀i m σ H,W i m σ H ->
   ((Itez a b).stop i H/\D.nx σ H)\/((Itez a b).go i H/\∃N:L2.St->Hp->Prop,(∀σ' H',N σ' H'->∃m',m'<m/\W (i+1) m' σ' H')/\∀x H',(Itez a b).yld i H x H'->g x σ H' λ σ2 H2=>tb { D with nx:=N,ct:=N,bk:=D.nx } σ2 H2):=by
 refine⟨λ i m σ H=>m=min xs.length ys.length - i/\i<=min xs.length ys.length/\Pv i σ H,⟨min xs.length ys.length,by simp,lY _,h0⟩,?_⟩;rintro i m σ H ⟨rfl,hi,p⟩;obtain⟨ha,hb⟩:=hl i σ H hi p
 by_cases hlt:i<min xs.length ys.length
 ·have hx:i<xs.length:=by omega
  have hy:i<ys.length:=by omega
  refine .inr ⟨⟨xs,ys,xs[i],ys[i],ha,hb,by simp[hx],by simp[hy]⟩,Pv (i+1),λ σ' H' p'=>⟨min xs.length ys.length - (i+1),by omega,rfl,hlt,p'⟩,λ x H' y=>?_⟩;obtain⟨T,U,u,v,hU,hT,ex,eH,e1,e2⟩:=y;subst ex eH;exact hs i u v T U σ H (e1 xs ha) (e2 ys hb) p hU hT
 ·have e:i=min xs.length ys.length:=by omega
  subst e;exact .inl ⟨⟨xs,ys,ha,hb,by omega⟩,hd σ H p⟩
section
variable {X:Cx}
end
section
variable {prog:Program}{w:World}{A:Around}{E:Value->Shared->Prop}{s:Shared}
end
section
variable {X:Cx}
end
section
variable {X:Cx}
open Classical in
noncomputable def eqW (H:Hp) (dx:Dt) (w:Value):Bool:=decide (∃x d,RelV x w/\DR H d x/\Dt.beq d dx=true)
end
end L2
namespace PySem
open Sem (wp)
namespace F
theorem dul_entry:entryFor table "dict.update.loop" = some Builtin.«dict.update.loop»:=entryFor_of_tree (by kernel_rfl)
theorem dul_plain:plainId "dict.update.loop" = true:=by decide +kernel
theorem tuple_no_keys:typeLookup (.type "tuple") "keys" = pure none:=am_miss_of_fast (by decide +kernel)
end F
theorem zDM {prog:Program}{w:World}{A:Around}{E:Value->Shared->Prop}{s:Shared}{a:Addr}{o:Obj}{xs:Array Value}{k:Nat}{name:Str}{Q:Option Value->Shared->Prop}
  (hx:s.heap.get? a=some o) (hc:o.cls = .type "tuple") (hdat:o.data = .seq xs k) (hd:o.dict=none) (hmiss:typeLookup (.type "tuple") name=pure none)
  (hname:(["__module__", "__name__", "__qualname__", "__doc__", "__annotations__"]:List Str).contains name=false) (hA:A.handled=none) (hsz:name.length+100<=sizeLine)
  (h:∀h' tk,(∀b ob,s.heap.get? b=some ob->h'.get? b=some ob)->Q none { s with heap:=h',toks:=tk }):wpAny (model prog w) A (getAttr? (.ref a) name) Q E s:=by
 obtain⟨c,dct,dat,sl⟩:=o;simp only at hc hdat hd;subst hc hdat hd;obtain⟨hp,g,d,tk,os⟩:=s;have hT:∀tk',(⟨hp,g,d,tk',os⟩:Shared).TypeIs (.ref a) "tuple" := λ Ω=>⟨_,hx,rfl⟩;have f1:=sub_AttributeError;have f3:=F.slot_tuple_getattribute.lookup;have f4:=F.slot_tuple_getattribute.bind (.ref a);have f5:=am_tuple_getattr_none;unfold getAttr? getAttrBy? getAttrBy
 repeat (any_goals (first|assumption|exact hT _|((with_reducible show wpAny _ _ (call (Value.builtin "tuple.__getattribute__") _ _) _ _ _);refine call_meets F.slot_tuple_getattribute (hT _) am_entry_tuple_getattribute (F.args_tuple_getattribute_2 _ _) (meets_getattribute_miss_tuple a xs k sl name _ hmiss hname hsz) ⟨hx,hA,λ h' tk' e hx'=>?_⟩)|wp_step))
 obtain⟨t',u',he⟩:=hx'.there;show wpAny _ _ (getattributeRaised _ _ _ _ _ _ _) _ _ _;unfold getattributeRaised
 repeat (any_goals (first|assumption|wp_step))
 all_goals first
  |exact h _ _ hx'.keeps
  |skip
section
variable {prog:Program}{w:World}{K:Type} [DecidableEq K] {knd:KeyKind prog w K}{A:Around}{R:Result->Shared->Prop}{E:Value->Shared->Prop}
noncomputable def zG5 (knd:KeyKind prog w K) (h:Heap) (its:List Value) (prs:List (K × Value)):Prop :=
 its.length=prs.length/\∀(i:Nat) (x:Value),its[i]?=some x->∃(pa:Addr) (key:Value) (kv:K × Value),x=Value.ref pa/\prs[i]?=some kv/\h.IsTuple pa #[key,kv.2]/\knd.is kv.1 key=true
theorem Heap.IsTuple.kept {h h':Heap}{a:Addr}{xs:Array Value}(x:h.IsTuple a xs) (k:∀b o,h.get? b=some o->h'.get? b=some o):h'.IsTuple a xs :=
 let ⟨o,ho,r⟩:=x;⟨o,k a o ho,r⟩
theorem zKq {h0:Heap}{d it t:Addr}{items:Array Value}{prs:List (K × Value)}(hA:A.handled=none) (hld:h0.objs.size<=d) (hli:h0.objs.size<=it) (hne:d≠it)
  (ht:h0.IsTuple t items) (hp:zG5 knd h0 items.toList prs) (hsz:prs.length<=sizeLine) :
  ∀(n i:Nat) (s:Shared),items.size - i=n->i<=items.size->(∀b o,h0.get? b=some o->s.heap.get? b=some o)->s.heap.IsTupleIter it t i->s.heap.DictOf knd d (merged [] (prs.take i)) ->
   (∀h' tk,(∀b o,h0.get? b=some o->h'.get? b=some o)->h'.DictOf knd d (merged [] prs)->R (.ok (.ret .none)) { s with heap:=h',toks:=tk }) ->
   codeAny (model prog w) A (.builtin "dict.update.loop" ⟨[.ref d,.ref it,.int (i:Int) 0,.none],[]⟩) R s:=by
 have hlen:items.size=prs.length:=by rw[←hp.1];simp
 intro n
 induction n with
 |zero =>
  intro i s hn hi kp hit hd hR;have e:i=items.size:=by omega
  subst e;refine codeAny_builtin F.dul_entry ?_;rw[Around.under_plainId F.dul_plain _];refine lA (wpAny_pyNext_tuple_end (show A.in1.handled=none from hA) hit (ht.kept kp) (by simp) λ h' he=>?_);show wpAny _ _ (Builtin.Dict.addKeywords d [] >>= _) _ _ _;refine lA (lB (lB (hR h' s.toks (λ b o hb=>he b o (lR (lZ (lH hb) hli)) (kp b o hb)) ?_)));rw[hlen,List.take_length] at hd;obtain⟨o,es,ep,ho,rest⟩:=hd;exact⟨o,es,ep,he d o hne ho,rest⟩
 |succ n ih =>
  intro i s hn hi kp hit hd hR;have hlt:i<items.size:=by omega
  obtain⟨pa,key,kv,ex,ekv,htp,hkey⟩:=hp.2 i items[i] (by simp[hlt]);refine codeAny_builtin F.dul_entry ?_;rw[Around.under_plainId F.dul_plain _];refine lA (wpAny_pyNext_tuple_item hit (ht.kept kp) (x:=items[i]) (by simp[hlt]) λ h1 hit1 hs1=>?_);have kp1:∀b o,h0.get? b=some o->h1.get? b=some o:=λ b o hb=>hs1.extBut b o (lR (lZ (lH hb) hli)) (kp b o hb);rw[ex];have htp1:=htp.kept kp1;refine lA (lD (lA (wpAny_tryCatch ?_)));unfold Builtin.Dict.pairItems;refine lA (wpAny_typeOf (s:={ s with heap:=h1 }) (v:=.ref pa) (T := "tuple") htp1.typeIs ?_);rw[if_pos (by decide)];obtain⟨o2,ho2,hc2,n2,hd2⟩:=htp1;refine lA (wpAny_seqItems ho2 hd2 (lB ?_))
  have hd1:h1.DictOf knd d (merged [] (prs.take i)):=by
   obtain⟨o,es,ep,ho,rest⟩:=hd;exact⟨o,es,ep,hs1.extBut d o hne ho,rest⟩
  have hml:(merged [] (prs.take i)).length<=sizeLine:=by
   have e1:=merged_length_le ([]:List (K × Value)) (prs.take i);rw[List.length_nil,List.length_take] at e1;omega
  show wpAny _ _ (holding [key,kv.2] (dictSet d key kv.2)) _ _ _;refine lD (wpAny_dictSet_pairs (hsz:=hml) hkey hd1 λ h2 hd2 hs2=>?_);refine lB ⟨plainId_quiet F.dul_plain _,?_⟩;refine ih (i+1) _ (by omega) hlt (λ b o hb=>hs2.extBut b o (lR (lZ (lH hb) hld)) (kp1 b o hb)) (hit1.extBut hs2.extBut (Ne.symm hne)) ?_ λ h' tk k' d'=>hR h' tk k' d';rw[merged_take_succ [] prs i kv ekv];exact hd2
theorem zEY {s:Shared}{t:Addr}{o:Obj}{items:Array Value}{n:Nat}{prs:List (K × Value)}{Q:Value->Shared->Prop}(hA:A.handled=none) (hx:s.heap.get? t=some o) (hc:o.cls = .type "tuple") (hdat:o.data = .seq items n) (hdn:o.dict=none)
  (hp:zG5 knd s.heap items.toList prs) (hsz:prs.length<=sizeLine)
  (h:∀h' tk,(∀b o,s.heap.get? b=some o->h'.get? b=some o)->h'.DictOf knd s.heap.objs.size (merged [] prs)->Q (.ref s.heap.objs.size) { s with heap:=h',toks:=tk }) :
  wpAny (model prog w) A (call (.type "dict") [.ref t]) Q E s:=by
 refine callType_codes (Q₁:=λ obj s₁=>obj = .ref s.heap.objs.size/\s₁={ s with heap:=s.heap.push { cls:=.type "dict", data:=.dict #[] } }) F.kt_called_dict (F.kt_typeCall_dict_1 _) F.entry_dict_init (kt_code_dict_new _ ⟨rfl,rfl⟩) ?_;rintro obj s₁ ⟨rfl,rfl⟩;have hnew:(s.heap.push { cls:=.type "dict", data:=.dict #[] }).DictOf knd s.heap.objs.size []:=Heap.DictOf.new s.heap;have kp0:∀b o,s.heap.get? b=some o->(s.heap.push { cls:=.type "dict", data:=.dict #[] }).get? b=some o:=λ b o hb=>lE _ hb;have ht0:s.heap.IsTuple t items:=⟨o,hx,hc,n,hdat⟩;refine⟨hnew.typeIs,F.args_dict_init_2 _ _,?_⟩;unfold Builtin.«dict.__init__»;refine lA ?_;unfold Builtin.Dict.selfAndRest;refine lA (wpAny_notOrdered_dict hnew.typeIs ?_);show wpAny _ _ (pure (s.heap.objs.size,[Value.ref t])) _ _ _;refine lB ?_;show wpAny _ _ (Builtin.Dict.updateFrom "dict.__init__" s.heap.objs.size (.ref t) [] .none) _ _ _;unfold Builtin.Dict.updateFrom;refine lA (wpAny_typeOf (v:=.ref t) (T := "tuple") (ht0.kept kp0).typeIs ?_);rw[if_pos (by decide)];refine lA (zDM (kp0 _ _ hx) hc hdat hdn F.tuple_no_keys (by decide +kernel) hA (by size_fits) λ h1 tk kp1=>?_);rw[if_pos (show (Option.none:Option Value).isNone=true from rfl)];have kp01:∀b o,s.heap.get? b=some o->h1.get? b=some o:=λ b o hb=>kp1 b o (kp0 b o hb);refine lA (wpAny_rule ?_);refine lA (wpAny_pyIter_tuple (ht0.kept kp01) ?_)
 have hd1:h1.DictOf knd s.heap.objs.size []:=by
  obtain⟨o,es,ep,ho,rest⟩:=hnew;exact⟨o,es,ep,kp1 _ _ ho,rest⟩
 have hsd:s.heap.objs.size<h1.objs.size:=let ⟨_,_,_,ho,_⟩:=hd1;lH ho;refine lB ⟨plainId_quiet F.dul_plain _,?_⟩;refine zKq (h0:=s.heap) (knd:=knd) (A:=A.in1) hA (lQ _) (Nat.le_of_lt hsd) (lR hsd) ht0 hp hsz items.size 0 _ (by omega) (lY _) (λ b o hb=>lE _ (kp01 b o hb)) ⟨_,lG _ rfl,rfl,rfl⟩ (hd1.push _) λ h' tk' k' d'=>?_;exact⟨rfl,h h' tk' k' d'⟩
end
end PySem
namespace L2
open PySem PySem.Spec PyProof.Rows
section
variable {X:Cx}
noncomputable def rDUpd:V->List V->Hp->VK->Prop:=λ x vs H Q=>∃(a b:Addr) (ka kb:List (Key × V)),x = .ref a/\vs=[.ref b]/\a≠b/\H a=some (.dK ka)/\H b=some (.dK kb)/\ka.length+kb.length<=sizeLine/\Q .non (upd H a (.dK (zAu ka kb)))
theorem zIK:MtM X "dict.update" rDUpd:=by
 intro jP s σ H x vs v us Q I rx rv h;obtain⟨a,b,ka,kb,rfl,rfl,hne,ha,hb,hz,q⟩:=h;cases rx;obtain⟨u,rfl,ru⟩:=rv.one;cases ru;obtain⟨z1,sa,va,ra,da⟩:=dk_of I.hok ha;obtain⟨z2,sb,vb,rb,db⟩:=dk_of I.hok hb;have hl:va.length+vb.length<=sizeLine:=by rw[←ra.length,←rb.length];exact hz
 refine call_meetsIn PySem.F.slot_dict_update da.typeIs PySem.F.entry_dict_update (PySem.F.args_dict_update_2 _ _) (meets_dict_update (zAf X.prog X.w) a b hne sb) ⟨va,vb,da,db,hl,λ h' d1 d2 hs=>?_⟩;have he:∃q,h'.get? a=some q:=let ⟨q,_,_,hq,_⟩:=d1;⟨q,hq⟩;have hm:(zAu ka kb).length<=sizeLine:=by have:=zBi kb ka;omega
 exact⟨.non,_,zEW (t':=s.toks) I (by rw[ha];exact True.intro) hs he (zE3 hm sa (rb.merge ra) d1),rfl,q⟩
theorem zG3:CallR X (.type "tuple") (λ xs H Q=>∃p ys,xs=[.ref p]/\SqL X.K H p ys/\∀(l:Addr) (o:Obj),H l=none->o.dict=none->Q (.ref l) (upd H l (.frz o (.tup ys)))):=by
 intro jP s σ H xs us Q I r h;obtain⟨p,ys,rfl,hq,q⟩:=h;obtain⟨u,rfl,rx⟩:=vals1 r;cases rx;obtain⟨its,r',pl,hz⟩:=I.list hq;have hlen:=r'.length;refine call_tuple_list pl.isList (λ h' kp=>?_) (by simp only[List.size_toArray]<;>omega);have I1:Inv X jP σ H { s with heap:=h' }:=I.kept (t':=s.toks) kp;have I2:=I1.laid (o:=.frz { cls:=.type "tuple", data:=.seq its.toArray } (.tup ys)) (t':=s.toks) (h':=h'.push { cls:=.type "tuple", data:=.seq its.toArray }) (λ b o e=>lE _ e) (lQ h'.objs.size) ⟨lG _ rfl,hz,its,r',IsTup.new _ _⟩;exact⟨.ref h'.objs.size,_,I2,rfl,q _ _ (I1.hok.fresh (lQ _)) rfl⟩
noncomputable def PrV (H:Hp) (y:V) (kv:Key × V):Prop:=∃b,y = .ref b/\H b=some (.tup [kV kv.1,kv.2])
set_option tactic.hygienic true in
theorem zK3 {P:Program}{w:World}{H:Hp}{h:Heap}(ok:HOk P w H h):∀{ys:List V}{kvs:List (Key × V)},Paired (PrV H) ys kvs->∀{its:List Value},Vals ys its->∃prs,zG5 (zAf P w) h its prs/\KV kvs prs
 |_,_,.nil,its,r=>by
  cases r;exact⟨[],⟨rfl,λ i x hx=>by simp at hx⟩,.nil⟩
 |_,_,.cons (b:=kv) hy hr,its,r=>by
  cases r with
  |cons r1 r2 =>
   obtain⟨prs,⟨pl,pp⟩,k⟩:=zK3 ok hr r2;obtain⟨b,rfl,hb⟩:=hy;cases r1;obtain⟨_,its2,rv,tp⟩:=(show ObjOk P w H h b (.tup [kV kv.1,kv.2]) from ok b _ hb);cases rv with
   |cons q1 rv=>cases rv with
    |cons q2 rv =>
     cases rv;rename_i key val;refine⟨(kv.1,val)::prs,⟨by simp[pl],λ i x hx=>?_⟩,.cons ⟨rfl,q2⟩ k⟩;cases i with
     |zero =>
      simp at hx;exact⟨b,key,(kv.1,val),hx.symm,rfl,tp,kV_is q1⟩
     |succ i =>
      simp at hx;obtain⟨pa,key',kv',h1,h2,h3,h4⟩:=pp i x hx;exact⟨pa,key',kv',h1,by simpa using h2,h3,h4⟩
noncomputable def zMJ:List V->Hp->VK->Prop:=λ xs H Q=>∃(a:Addr) (o:Obj) (ys:List V) (kvs:List (Key × V)),xs=[.ref a]/\H a=some (.frz o (.tup ys))/\o.dict=none/\Paired (PrV H) ys kvs/\kvs.length<=1000/\∀p,H p=none->Q (.ref p) (upd H p (.dK (zAu [] kvs)))
theorem zDk (hc:X.calm=true):CallR X (.type "dict") zMJ:=by
 intro jP s σ H xs us Q I r h;obtain⟨a,o,ys,kvs,rfl,ha,hdn,hp,hl,q⟩:=h;obtain⟨u,rfl,ru⟩:=vals1 r;cases ru;obtain⟨hx,hz,its,rv,o',ho',hcl,n,hdat⟩:=(show ObjOk X.prog X.w H s.heap a (.frz o (.tup ys)) from I.hok a _ ha);rw[hx] at ho';cases ho';obtain⟨prs,hpi,k⟩:=zK3 I.hok hp rv;have hkl:prs.length<=sizeLine:=by rw[←k.length];exact zA3 hl
 have hm:(zAu [] kvs).length<=sizeLine:=by
  have:=zBi kvs [];rw[List.length_nil] at this;exact zA3 (by omega)
 refine zEY (knd:=zAf X.prog X.w) (I.ok.hd hc) hx hcl hdat hdn (by simpa using hpi) hkl λ h' tk kp d'=>?_;have hn:=I.hok.fresh (lQ s.heap.objs.size);refine⟨.ref s.heap.objs.size,_,I.laid (a:=s.heap.objs.size) (o:=.dK (zAu [] kvs)) (t':=tk) kp (lQ _) (zE3 hm (beq_eq_false_iff_ne.mpr (Ne.symm (lR I.big))) (k.merge .nil) d'),rfl,q _ hn⟩
end
end L2
namespace L2
open PySem PySem.W PyProof.Rows
noncomputable def Ev (r:Nat->Nat->Bool) (n:Nat) {α:Type}:KasT α->(α->Prop)->Prop
 |.ret a,Q=>Q a
 |.ask i j k,Q=>i<n/\j<n/\i≠j/\Ev r n (k (r i j)) Q
theorem Ev.bind {r:Nat->Nat->Bool}{n:Nat}{α β:Type}{f:α->KasT β}{Q:β->Prop}:∀{t:KasT α},Ev r n t (λ a=>Ev r n (f a) Q)->Ev r n (t.bind f) Q
 |.ret _,h=>h
 |.ask i j k,h=>⟨h.1,h.2.1,h.2.2.1,Ev.bind (t:=k (r i j)) h.2.2.2⟩
theorem Ev.mono {r:Nat->Nat->Bool}{n:Nat}{α:Type}{Q R:α->Prop}(hq:∀a,Q a->R a):∀{t:KasT α},Ev r n t Q->Ev r n t R
 |.ret a,h=>hq a h
 |.ask i j k,h=>⟨h.1,h.2.1,h.2.2.1,Ev.mono hq (t:=k (r i j)) h.2.2.2⟩
theorem Ev.wp {r:Nat->Nat->Bool}{n:Nat}{cmp:Nat->Nat->(Bool->Shared->Prop)->Shared->Prop}{St:Shared->Prop}(hc:∀i j C s,i<n->j<n->i≠j->St s->(∀s',St s'->C (r i j) s')->cmp i j C s) {α:Type}{Q:α->Prop}{G:α->Shared->Prop}(hG:∀a s,Q a->St s->G a s) :
  ∀{t:KasT α}{s:Shared},Ev r n t Q->St s->t.kasWp cmp G s
 |.ret a,s,h,hs=>hG a s h hs
 |.ask i j k,s,h,hs=>hc i j _ s h.1 h.2.1 h.2.2.1 hs λ s' hs'=>Ev.wp hc hG (t:=k (r i j)) h.2.2.2 hs'
structure Ord (n:Nat) (r:Nat->Nat->Bool):Prop where
 tot:∀i j,i<n->j<n->i≠j->r i j=false->r j i=true
 asym:∀i j,i<n->j<n->r i j=true->r j i=false
 trans:∀i j k,i<n->j<n->k<n->r i j=true->r j k=true->r i k=true
section
variable {n:Nat}{r:Nat->Nat->Bool}
abbrev lt (r:Nat->Nat->Bool) (p:Array Nat) (i j:Nat):Bool:=r (p.getD i 0) (p.getD j 0)
noncomputable def PermN (n:Nat) (p:Array Nat):Prop:=p.toList.Perm (List.range n)
theorem PermN.size {p:Array Nat}(h:PermN n p):p.size=n:=by have:=h.length_eq;simpa using this
theorem PermN.lt {p:Array Nat}(h:PermN n p) {i:Nat}(hi:i<n):p.getD i 0<n:=by
 have hs:=h.size;have e:p.getD i 0=p[i]'(by omega):=by simp[Array.getD,hs,hi]
 rw[e];have:p[i]'(by omega)∈p.toList:=by simp
 exact List.mem_range.mp (h.mem_iff.mp this)
theorem PermN.ne {p:Array Nat}(h:PermN n p) {i j:Nat}(hi:i<n) (hj:j<n) (ne:i≠j):p.getD i 0≠p.getD j 0:=by
 have hs:=h.size;have e1:p.getD i 0=p.toList[i]'(by simp;omega):=by simp[Array.getD,hs,hi]
 have e2:p.getD j 0=p.toList[j]'(by simp;omega):=by simp[Array.getD,hs,hj]
 have nd:p.toList.Nodup:=h.nodup_iff.mpr List.nodup_range;rw[e1,e2];intro z;exact ne ((List.getElem_inj nd).mp z)
noncomputable def Asc (r:Nat->Nat->Bool) (p:Array Nat) (k:Nat):Prop:=∀i j,i<j->j<k->lt r p i j=true
noncomputable def Dsc (r:Nat->Nat->Bool) (p:Array Nat) (k:Nat):Prop:=∀i j,i<j->j<k->lt r p j i=true
theorem Asc.more (o:Ord n r) {p:Array Nat}(hp:PermN n p) {k:Nat}(h1:1<=k) (hk:k<n) (h:Asc r p k) (hl:lt r p (k - 1) k=true):Asc r p (k+1):=λ i j hij hj=>by
 by_cases e:j=k
 ·subst e
  by_cases e2:i=j - 1
  ·rw[e2];exact hl
  ·exact o.trans _ _ _ (hp.lt (by omega)) (hp.lt (by omega)) (hp.lt hk) (h i (j - 1) (by omega) (by omega)) hl
 ·exact h i j hij (by omega)
theorem Dsc.more (o:Ord n r) {p:Array Nat}(hp:PermN n p) {k:Nat}(h1:1<=k) (hk:k<n) (h:Dsc r p k) (hl:lt r p k (k - 1)=true):Dsc r p (k+1):=λ i j hij hj=>by
 by_cases e:j=k
 ·subst e
  by_cases e2:i=j - 1
  ·rw[e2];exact hl
  ·exact o.trans _ _ _ (hp.lt hk) (hp.lt (by omega)) (hp.lt (by omega)) hl (h i (j - 1) (by omega) (by omega))
 ·exact h i j hij (by omega)
theorem zJf (o:Ord n r) {p:Array Nat}(hp:PermN n p):∀(f k:Nat),1<=k->k+f<=n->Asc r p k->Ev r n (kas_asc p f k) (λ m=>k<=m/\m<=k+f/\Asc r p m/\(m<k+f->lt r p m (m - 1)=true))
 |0,k,h1,hk,h=>⟨lQ _,lQ _,h,λ z=>by omega⟩
 |f+1,k,h1,hk,h=>by
  refine⟨hp.lt (by omega),hp.lt (by omega),hp.ne (by omega) (by omega) (by omega),?_⟩;cases e:r (p.getD k 0) (p.getD (k - 1) 0) with
  |true=>exact⟨lQ _,by omega,h,λ Ω=>e⟩
  |false =>
   have hl:=o.tot _ _ (hp.lt (i:=k) (by omega)) (hp.lt (i:=k - 1) (by omega)) (hp.ne (by omega) (by omega) (by omega)) e;exact Ev.mono (λ m hm=>⟨by omega,by omega,hm.2.2.1,λ z=>hm.2.2.2 (by omega)⟩) (zJf o hp f (k+1) (by omega) (by omega) (h.more o hp h1 (by omega) hl))
theorem zJe (o:Ord n r) {p:Array Nat}(hp:PermN n p):∀(f k:Nat),1<=k->k+f<=n->Dsc r p k->Ev r n (kas_desc f p k 0) (λ z=>z.1=p/\k<=z.2.1/\z.2.1<=k+f/\z.2.2=0/\Dsc r p z.2.1)
 |0,k,h1,hk,h=>⟨rfl,lQ _,lQ _,rfl,h⟩
 |f+1,k,h1,hk,h=>by
  refine⟨hp.lt (by omega),hp.lt (by omega),hp.ne (by omega) (by omega) (by omega),?_⟩;cases e:r (p.getD k 0) (p.getD (k - 1) 0) with
  |true =>
   exact Ev.mono (λ z hz=>⟨hz.1,by omega,by omega,hz.2.2.2.1,hz.2.2.2.2⟩) (zJe o hp f (k+1) (by omega) (by omega) (h.more o hp h1 (by omega) e))
  |false =>
   have hl:=o.tot _ _ (hp.lt (i:=k) (by omega)) (hp.lt (i:=k - 1) (by omega)) (hp.ne (by omega) (by omega) (by omega)) e;refine⟨hp.lt (by omega),hp.lt (by omega),hp.ne (by omega) (by omega) (by omega),?_⟩;rw[hl];exact⟨rfl,lQ _,(by show k<=k+(f+1);omega),rfl,h⟩
theorem zFQ {p q:Array Nat}{i j:Nat}(h:p[i]?=q[j]?):p.getD i 0=q.getD j 0:=by
 rw[Array.getD_eq_getD_getElem?,Array.getD_eq_getD_getElem?,h]
theorem PermN.of {p q:Array Nat}(h:q.Perm p) (hp:PermN n p):PermN n q:=(Array.perm_iff_toList_perm.mp h).trans hp
theorem zLU {p:Array Nat}(hp:PermN n p) {k:Nat}(hk:k<=n) (h:Dsc r p k):PermN n (kas_rev p 0 k)/\Asc r (kas_rev p 0 k) k:=by
 refine⟨hp.of (mirror_perm _ _ _ _),λ i j hij hj=>?_⟩
 have e:∀i,i<k->(kas_rev p 0 k).getD i 0=p.getD (k - 1 - i) 0:=λ i hi=>by
  refine zFQ ?_;have:=getElem?_mirror_all (xs:=p) (i:=0) (j:=k) (by rw[hp.size];exact hk) i;unfold kas_rev;rw[this,if_pos ⟨Nat.zero_le _,hi⟩,Nat.zero_add]
 unfold lt;rw[e i (by omega),e j hj];exact h (k - 1 - j) (k - 1 - i) (by omega) (by omega)
theorem zKn (o:Ord n r) {p:Array Nat}(hp:PermN n p) {k:Nat}(h1:1<=k) (hk:k<=n) (h:Dsc r p k):Ev r n (kas_tail3 k n p) (λ z=>PermN n z.2/\1<=z.1/\z.1<=n/\Asc r z.2 z.1):=by
 obtain⟨q1,q2⟩:=zLU hp hk h;exact Ev.bind (Ev.mono (λ m hm=>⟨q1,by omega,by omega,hm.2.2.1⟩) (zJf o q1 (n - k) k h1 (by omega) q2))
theorem zG1 (o:Ord n r) {p:Array Nat}(hp:PermN n p) (h2:2<=n) (h:lt r p 1 0=true):Ev r n (kas_descPart 1 n p) (λ z=>PermN n z.2/\1<=z.1/\z.1<=n/\Asc r z.2 z.1):=by
 have d2:Dsc r p 2:=λ i j hij hj=>by
  have:i=0:=by omega
  have:j=1:=by omega
  subst i j;exact h
 refine Ev.bind (Ev.mono (λ z hz=>?_) (zJe o hp (n - 2) 2 (by omega) (by omega) d2));obtain⟨p',m,q⟩:=z;obtain⟨e1,e2,e3,e4,e5⟩:=hz;dsimp only at e1 e2 e3 e4 e5;subst e1 e4;have e3':m<=2+(n - 2):=e3;have e2':2<=m:=e2;exact zKn o hp (k:=m) (by omega) (by omega) e5
theorem zKo (o:Ord n r) {p:Array Nat}(hp:PermN n p) (h2:2<=n):Ev r n (kas_count n p) (λ z=>PermN n z.2/\1<=z.1/\z.1<=n/\Asc r z.2 z.1):=by
 refine Ev.bind (Ev.mono (λ m hm=>?_) (zJf o hp (n - 1) 1 (lQ _) (by omega) (λ i j hij hj=>by omega)));obtain⟨h1,hmn,ha,hl⟩:=hm
 by_cases e:m=n
 ·subst e
  rw[if_pos (by simp)];exact⟨hp,h1,lQ _,ha⟩
 ·rw[if_neg (by simpa using e)]
  by_cases e1:m > 1
  ·rw[if_pos e1]
   refine⟨hp.lt (by omega),hp.lt (by omega),hp.ne (by omega) (by omega) (by omega),?_⟩;have:r (p.getD 0 0) (p.getD (m - 1) 0)=true:=ha 0 (m - 1) (by omega) (by omega);rw[this];exact⟨hp,h1,by dsimp only;omega,ha⟩
  ·rw[if_neg e1]
   have:m=1:=by omega
   subst this;exact zG1 o hp h2 (hl (by omega))
theorem zFU (o:Ord n r) {p:Array Nat}(hp:PermN n p) {k:Nat}(hk:k<n) (ha:Asc r p k):∀(f l u:Nat),l<=u->u<=k->u - l<=f->(∀i,i<l->lt r p i k=true)->(∀i,u<=i->i<k->lt r p k i=true) ->
  Ev r n (kas_place p k f l u) (λ m=>m<=k/\(∀i,i<m->lt r p i k=true)/\(∀i,m<=i->i<k->lt r p k i=true))
 |0,l,u,hl,hu,hf,h1,h2=>⟨by omega,h1,λ i hi hik=>h2 i (by omega) hik⟩
 |f+1,l,u,hl,hu,hf,h1,h2=>by
  unfold kas_place
  by_cases e:l ≥ u
  ·rw[if_pos e]
   exact⟨by omega,h1,λ i hi hik=>h2 i (by omega) hik⟩
  ·rw[if_neg e]
   refine⟨hp.lt hk,hp.lt (by omega),hp.ne (by omega) (by omega) (by omega),?_⟩;cases c:r (p.getD k 0) (p.getD ((l+u) / 2) 0) with
   |true =>
    refine zFU o hp hk ha f l ((l+u) / 2) (by omega) (by omega) (by omega) h1 λ i hi hik=>?_
    by_cases z:i=(l+u) / 2
    ·rw[z];exact c
    ·exact o.trans _ _ _ (hp.lt hk) (hp.lt (by omega)) (hp.lt (by omega)) c (ha _ i (by omega) hik)
   |false =>
    have hl':=o.tot _ _ (hp.lt hk) (hp.lt (i:=(l+u) / 2) (by omega)) (hp.ne hk (by omega) (by omega)) c;refine zFU o hp hk ha f ((l+u) / 2+1) u (by omega) hu (by omega) (λ i hi=>?_) h2
    by_cases z:i=(l+u) / 2
    ·rw[z];exact hl'
    ·exact o.trans _ _ _ (hp.lt (by omega)) (hp.lt (by omega)) (hp.lt hk) (ha i _ (by omega) (by omega)) hl'
theorem zIU {p:Array Nat}(hp:PermN n p) {k m:Nat}(hk:k<n) (hm:m<=k) (ha:Asc r p k) (h1:∀i,i<m->lt r p i k=true) (h2:∀i,m<=i->i<k->lt r p k i=true):PermN n (bubble p k (k - m))/\Asc r (bubble p k (k - m)) (k+1):=by
 refine⟨hp.of (bubble_perm _ _ _),λ i j hij hj=>?_⟩
 have e:∀i,(bubble p k (k - m)).getD i 0=if i=m then p.getD k 0 else if m<i/\i<=k then p.getD (i - 1) 0 else p.getD i 0:=λ i=>by
  have:=getElem?_bubble (xs:=p) (src:=k) (by rw[hp.size];exact hk) (k - m) (by omega) i;rw[show k - (k - m)=m by omega] at this
  by_cases c1:i=m
  ·rw[if_pos c1] at this ⊢;exact zFQ this
  ·rw[if_neg c1] at this ⊢
   by_cases c2:m<i/\i<=k
   ·rw[if_pos c2] at this ⊢;exact zFQ this
   ·rw[if_neg c2] at this ⊢;exact zFQ this
 unfold lt;rw[e i,e j]
 by_cases i1:i=m
 ·rw[if_pos i1,if_neg (by omega),if_pos ⟨by omega,by omega⟩]
  exact h2 (j - 1) (by omega) (by omega)
 ·rw[if_neg i1]
  by_cases j1:j=m
  ·rw[if_pos j1,if_neg (by omega)]
   exact h1 i (by omega)
  ·rw[if_neg j1]
   by_cases i2:m<i/\i<=k
   ·rw[if_pos i2,if_pos ⟨by omega,by omega⟩]
    exact ha (i - 1) (j - 1) (by omega) (by omega)
   ·rw[if_neg i2]
    by_cases j2:m<j/\j<=k
    ·rw[if_pos j2]
     exact ha i (j - 1) (by omega) (by omega)
    ·rw[if_neg j2]
     exact ha i j hij (by omega)
theorem zLG (o:Ord n r):∀(f:Nat) {p:Array Nat}(k:Nat),PermN n p->k+f=n->Asc r p k->Ev r n (kas_bin f p k) (λ q=>PermN n q/\Asc r q n)
 |0,p,k,hp,hk,ha=>⟨hp,by have:k=n:=hk;rw[←this];exact ha⟩
 |f+1,p,k,hp,hk,ha=>by
  refine Ev.bind (Ev.mono (λ m hm=>?_) (zFU o hp (by omega) ha k 0 k (lY _) (lQ _) (by omega) (λ i hi=>by omega) (λ i hi hik=>by omega)));obtain⟨q1,q2⟩:=zIU hp (by omega) hm.1 ha hm.2.1 hm.2.2;exact zLG o f (k+1) q1 (by omega) q2
theorem zLy (o:Ord n r) (h2:2<=n):Ev r n (kas_sort n) (λ q=>PermN n q/\Asc r q n):=by
 have hp:PermN n (List.toArray (List.range n)):=by unfold PermN;simp
 refine Ev.bind (Ev.mono (λ z hz=>?_) (zKo o hp h2));obtain⟨m,q⟩:=z;obtain⟨q1,q2,q3,q4⟩:=hz;dsimp only at q1 q2 q3 q4 ⊢
 by_cases e:m<n
 ·rw[if_pos e,show max m 1=m by omega]
  exact zLG o (n - m) m q1 (by omega) q4
 ·rw[if_neg e]
  have:m=n:=by omega
  rw[this] at q4;exact⟨q1,q4⟩
end
end L2
namespace L2
noncomputable def lexB:List Int->List Int->Bool
 |_,[]=>false
 |[],_::_=>true
 |a::as,b::bs=>if a=b then lexB as bs else decide (a<b)
theorem zEN:∀as:List Int,lexB as as=false
 |[]=>rfl
 |a::as=>by rw[lexB,if_pos rfl];exact zEN as
theorem zHf:∀{as bs:List Int},as≠bs->lexB as bs=false->lexB bs as=true
 |[],[],h,_=>absurd rfl h
 |[],_::_,_,h=>by cases h
 |_::_,[],_,_=>rfl
 |a::as,b::bs,h,k=>by
  rw[lexB] at k ⊢
  by_cases e:a=b
  ·subst e
   rw[if_pos rfl] at k ⊢;exact zHf (λ z=>h (by rw[z])) k
  ·rw[if_neg e] at k
   rw[if_neg (Ne.symm e)];have:=of_decide_eq_false k;exact lU (by omega)
theorem zEO:∀{as bs:List Int},lexB as bs=true->lexB bs as=false
 |[],[],h=>by cases h
 |[],_::_,_=>rfl
 |_::_,[],h=>by cases h
 |a::as,b::bs,k=>by
  rw[lexB] at k ⊢
  by_cases e:a=b
  ·subst e
   rw[if_pos rfl] at k ⊢;exact zEO k
  ·rw[if_neg e] at k
   rw[if_neg (Ne.symm e)];have:=lS k;exact decide_eq_false (by omega)
theorem zEz:∀{as bs cs:List Int},lexB as bs=true->lexB bs cs=true->lexB as cs=true
 |_,_,[],_,h=>by cases ‹List Int›<;>cases h
 |[],_,_::_,_,_=>rfl
 |_::_,[],_::_,h,_=>by cases h
 |a::as,b::bs,c::cs,h,k=>by
  rw[lexB] at h k ⊢
  by_cases e1:a=b
  ·subst e1
   rw[if_pos rfl] at h
   by_cases e2:a=c
   ·subst e2
    rw[if_pos rfl] at k ⊢;exact zEz h k
   ·rw[if_neg e2] at k ⊢
    exact k
  ·rw[if_neg e1] at h
   have h':=lS h
   by_cases e2:b=c
   ·subst e2
    rw[if_neg e1];exact h
   ·rw[if_neg e2] at k
    have k':=lS k;rw[if_neg (by omega)];exact lU (by omega)
end L2
namespace PySem
open PySem.Calls PyProof.Rows PySem.W L2
open AutoSeq1 (wpAny_loadPart')
theorem zFP {vs:List Value}{ns:List Int}(h:IntsAre vs ns):vs.length=ns.length:=by
 induction h with
 |nil=>rfl
 |cons n t _ ih=>simp[ih]
theorem zKd {ns ms:List Int}{i:Nat}(h:i=min ns.length ms.length):lexB (ns.drop i) (ms.drop i)=decide (ns.length<ms.length):=by
 by_cases c:ns.length<ms.length
 ·have e1:ns.drop i=[]:=List.drop_of_length_le (by omega)
  have e2:i<ms.length:=by omega
  rw[e1,List.drop_eq_getElem_cons e2,decide_eq_true c];rfl
 ·have e1:ms.drop i=[]:=List.drop_of_length_le (by omega)
  rw[e1,decide_eq_false c];cases ns.drop i<;>rfl
theorem zH2 (l b:Addr) (items items2:Array Value) (n n2:Nat) (dd dd2:Option Addr) (sl sl2:Array (Option Value)) (ns ms:List Int) (hi1:IntsAre items.toList ns) (hi2:IntsAre items2.toList ms) :
  Meets (Builtin.«tuple.__lt__» ⟨[.ref l,.ref b],[]⟩)
   (λ A R s=>s.heap.get? l=some { cls:=.type "tuple", dict:=dd,data:=.seq items n,slots:=sl }/\s.heap.get? b=some { cls:=.type "tuple", dict:=dd2,data:=.seq items2 n2,slots:=sl2 } /\
    R (.ok (.ret (.bool (lexB ns ms)))) s) :=
 .of_wp λ prog w A R s h=>by
  obtain⟨hp,g,d,tk,os⟩:=s;obtain⟨hl,hb,h⟩:=h;have f2:=AutoSeq1.sub_tuple_tuple;have l1:items.size=ns.length:=by have:=zFP hi1;simpa using this
  have l2:items2.size=ms.length:=by have:=zFP hi2;simpa using this
  have hZ:(items.toList.zip items2.toList).length=min items.size items2.size:=by simp
  wp_walk using wpAny_loadPart' hl,wpAny_loadPart' hb,wpAny_forIn_list _ (λ rest b s'=>b.1=none/\s'=⟨hp,g,d,tk,os⟩/\∃i,rest=(items.toList.zip items2.toList).drop i/\i<=min items.size items2.size /\
   R (.ok (.ret (.bool (lexB (ns.drop i) (ms.drop i))))) ⟨hp,g,d,tk,os⟩) _
  case turn =>
   rintro⟨y,x⟩ rest b s' ⟨hb',rfl,i,hz,him,hR⟩
   have hlt:i<(items.toList.zip items2.toList).length:=by
    rcases Nat.lt_or_ge i (items.toList.zip items2.toList).length with h'|h'
    ·exact h'
    ·rw[List.drop_of_length_le h'] at hz;cases hz
   have hm:i<min items.size items2.size:=hZ▸hlt;have h1:i<items.size:=lZ hm (Nat.min_le_left _ _);have h2:i<items2.size:=lZ hm (Nat.min_le_right _ _);rw[List.drop_eq_getElem_cons hlt] at hz;injection hz with hyx hrest
   have hy:y=items[i]:=by have:=congrArg Prod.fst hyx;simpa using this
   have hx:x=items2[i]:=by have:=congrArg Prod.snd hyx;simpa using this
   subst hy hx;obtain⟨t1,e1⟩:=hi1.int_at i items[i] (by simp[h1]);obtain⟨t2,e2⟩:=hi2.int_at i items2[i] (by simp[h2]);rw[e1,e2]
   have d1:ns.drop i=ns.getD i 0::ns.drop (i+1):=by
    rw[List.drop_eq_getElem_cons (by omega)];congr 1;simp[show i<ns.length by omega]
   have d2:ms.drop i=ms.getD i 0::ms.drop (i+1):=by
    rw[List.drop_eq_getElem_cons (by omega)];congr 1;simp[show i<ms.length by omega]
   rw[d1,d2,lexB] at hR;refine lA (SeqAt.EqAt.int_int _ t1 _ t2 prog w _ _ ?_);cases hy:(ns.getD i 0 == ms.getD i 0) with
   |true =>
    rw[if_pos (by simpa using hy)] at hR
    wp_walk
    exact⟨rfl,rfl,i+1,hrest,by omega,hR⟩
   |false =>
    rw[if_neg (by simpa using hy)] at hR;rw[if_pos (by rfl)];refine lA (wpAny_rule (lA (PyProof.Rows.lt_int ?_)))
    wp_walk
    exact⟨_,rfl,hR⟩
  case fin =>
   rintro⟨b1,b2⟩ s' ⟨hb',rfl,i,hz,him,hR⟩;simp only at hb';subst hb'
   have hge:min items.size items2.size<=i:=by
    rcases Nat.lt_or_ge i (items.toList.zip items2.toList).length with h'|h'
    ·rw[List.drop_eq_getElem_cons h'] at hz;cases hz
    ·exact hZ▸h'
   rw[zKd (by omega)] at hR
   wp_walk
   exact⟨_,rfl,by simpa[Builtin.Tuple.tupleCompareSizes,l1,l2] using hR⟩
  case h =>
   exact⟨rfl,rfl,0,rfl,lY _,by simpa using h⟩
section
variable {prog:Program}{w:World}{A:Around}{E:Value->Shared->Prop}{s:Shared}
theorem zKF {l b:Addr}{items items2:Array Value}{ns ms:List Int}{Q:Value->Shared->Prop}(hl:s.heap.IsTuple l items) (hb:s.heap.IsTuple b items2) (h1:IntsAre items.toList ns) (h2:IntsAre items2.toList ms) (hu:A.units<cLine)
  (h:Q (.bool (lexB ns ms)) s):wpAny (model prog w) A (compareOp .Lt (.ref l) (.ref b)) Q E s:=by
 obtain⟨⟨cls,dd,data,sl⟩,ho,hc,n,hd⟩:=id hl;obtain⟨⟨cls2,dd2,data2,sl2⟩,ho2,hc2,n2,hd2⟩:=id hb;simp only at hc hd hc2 hd2;subst hc hd hc2 hd2
 exact richCompare_meets_room (op:=.Lt) ⟨_,ho,rfl⟩ ⟨_,ho2,rfl⟩ F.slot_tuple_lt F.entry_tuple_lt (F.args_tuple_lt_2 _ _) (zH2 l b items items2 n n2 dd dd2 sl sl2 ns ms h1 h2)
  ⟨ho,ho2,show Value.bool (lexB ns ms)≠Value.notImplemented/\Q (.bool (lexB ns ms)) s from⟨(λ x=>nomatch x),h⟩⟩ hu
theorem all_same:∀{ns ms:List Int},((List.range (min ns.length ms.length)).all (λ j=>ns.getD j 0 == ms.getD j 0) && ns.length == ms.length)=true->ns=ms:=by
 intro ns ms h;rw[Bool.and_eq_true,List.all_eq_true] at h;have hl:ns.length=ms.length:=by simpa using h.2
 refine List.ext_getElem hl λ i h1 h2=>?_;have:=h.1 i (List.mem_range.mpr (by omega));simpa[h1,h2] using this
theorem zKE {l b:Addr}{items items2:Array Value}{ns ms:List Int}(hl:s.heap.IsTuple l items) (hb:s.heap.IsTuple b items2) (h1:IntsAre items.toList ns) (h2:IntsAre items2.toList ms) (hu:A.units<cLine) (hne:ns≠ms):SeqAt.EqAt A s (.ref l) (.ref b) false:=by
 have e1:items.size=ns.length:=by have:=zFP h1;simpa using this
 have e2:items2.size=ms.length:=by have:=zFP h2;simpa using this
 have hne':l≠b:=λ z=>by
  subst z;obtain⟨o,ho,hc,n,hd⟩:=hl;obtain⟨o',ho',hc',n',hd'⟩:=hb;rw[ho] at ho';cases ho';rw[hd] at hd';cases hd';refine hne ?_;have:=h1.nums;rw[h2.nums] at this;exact this.symm
 have key:=SeqAt.RcAt.tuples (A:=A) (e:=λ j=>ns.getD j 0 == ms.getD j 0) hl hb hu λ j j1 j2=>by
  obtain⟨t1,q1⟩:=h1.int_at j items[j] (by simp[j1]);obtain⟨t2,q2⟩:=h2.int_at j items2[j] (by simp[j2]);rw[q1,q2];exact SeqAt.EqAt.int_int _ _ _ _
 rw[e1,e2] at key
 have:((List.range (min ns.length ms.length)).all (λ j=>ns.getD j 0 == ms.getD j 0) && ns.length == ms.length)=false:=by
  cases h:((List.range (min ns.length ms.length)).all (λ j=>ns.getD j 0 == ms.getD j 0) && ns.length == ms.length) with
  |false=>rfl
  |true=>exact absurd (all_same h) hne
 rw[this] at key;exact SeqAt.EqAt.of_refs hne' key
noncomputable def PlcAt (h:Heap) (v:Value) (ns:List Int):Prop:=∃(a c:Addr) (u:Value) (its:Array Value),v = .ref a/\h.IsTuple a #[.ref c,u]/\h.IsTuple c its/\IntsAre its.toList ns
theorem PlcAt.kept {h h':Heap}{v:Value}{ns:List Int}(k:∀b o,o.cls = .type "tuple" -> h.get? b=some o->h'.get? b=some o):PlcAt h v ns->PlcAt h' v ns
 |⟨a,c,u,its,e,⟨o,ho,hc,r⟩,⟨o',ho',hc',r'⟩,i⟩=>⟨a,c,u,its,e,⟨o,k _ _ hc ho,hc,r⟩,⟨o',k _ _ hc' ho',hc',r'⟩,i⟩
theorem zEH {h h':Heap}(k:∀b o,o.cls = .type "tuple" -> h.get? b=some o->h'.get? b=some o){vs:List Value}{ps:List (List Int)}(z:Paired (PlcAt h) vs ps):Paired (PlcAt h') vs ps:=by
 induction z with
 |nil=>exact .nil
 |cons r q ih=>exact .cons (r.kept k) ih
theorem zIx {h:Heap}{vs:List Value}{ps:List (List Int)}(z:Paired (PlcAt h) vs ps):∀{i:Nat},i<vs.length->PlcAt h (vs.getD i Value.none) (ps.getD i []):=by
 induction z with
 |nil=>exact λ h=>absurd h (Nat.not_lt_zero _)
 |cons r q ih =>
  intro i hi;cases i with
  |zero=>exact r
  |succ i=>have:=ih (i:=i) (by simpa using hi);simpa using this
theorem zML {x y:Value}{ns ms:List Int}{Q:Bool->Shared->Prop}(hx:PlcAt s.heap x ns) (hy:PlcAt s.heap y ms) (hne:ns≠ms) (hu:A.units<cLine) (h:Q (lexB ns ms) s):wpAny (model prog w) A (keyLt' (tuples' false) x y) Q E s:=by
 obtain⟨a,c,u,its,rfl,⟨o,ho,hc,n,hd⟩,hp,hi⟩:=hx;obtain⟨a',c',u',its',rfl,⟨o',ho',hc',n',hd'⟩,hp',hi'⟩:=hy;refine kat_lt ho hd ho' hd' ?_;show KatLex prog w A false _ Q [(.ref c,.ref c'),(u,u')] 0 s;refine kat_cons (zKE hp hp' hi hi' hu hne prog w _ _ (kat_no ?_));refine kat_one _ _ (zKF hp hp' hi hi' hu ?_);exact h
theorem zHW:∀{vs:List Value}{ps:List (List Int)}{h:Heap},Paired (PlcAt h) vs ps->∃fs,KatTups h vs fs/\fs.length=vs.length/\∀v∈fs,Looks (model prog w) h (typeOf v) (.type "tuple")
 |_,_,_,.nil=>⟨[],trivial,rfl,λ v hv=>nomatch hv⟩
 |_,_,h,.cons r q=>by
  obtain⟨fs,h1,h2,h3⟩:=zHW q;obtain⟨a,c,u,its,rfl,⟨o,ho,hc,n,hd⟩,⟨o',ho',hc',r'⟩,hi⟩:=r;refine⟨.ref c::fs,KatTups.cons ho hc hd rfl h1,by simp[h2],λ v hv=>?_⟩;rcases lN.mp hv with rfl|hv
  ·have:=(show Looks (model prog w) h (typeOf (.ref c)) o'.cls from(Looks.ld ho').andThen .now)
   rw[hc'] at this;exact this
  ·exact h3 v hv
theorem zJ6:∀{vs:List Value},vs.length<2->(vs.toArray.zip vs.toArray).map (·.2)=List.toArray ((List.toArray (List.range vs.length)).toList.map λ i=>vs.getD i Value.none)
 |[],_=>by simp
 |[x],_=>by simp[List.range_succ]
 |_::_::_,h=>by simp at h;omega
theorem zFM {a:Addr}{vs:List Value}{ps:List (List Int)}{n:Nat}{P:PySem.Fin->Shared->Prop}(ho:s.heap.get? a=some (seqObj "list" vs.toArray n)) (hp:Paired (PlcAt s.heap) vs ps) (nd:ps.Nodup) (h64:vs.length<64) (hu:A.units<cLine)
  (h:∀p:Array Nat,PermN vs.length p->Asc (λ i j=>lexB (ps.getD i []) (ps.getD j [])) p vs.length->P (.done (.ret .none)) { s with heap:=sortedHeap s.heap a vs (List.toArray (p.toList.map λ i=>vs.getD i Value.none)) }) :
  wpAny (model prog w) A (Builtin.«list.sort» ⟨[.ref a],[]⟩) P E s:=by
 rw[list_sort_plain];have hlp:vs.length=ps.length:=hp.length;have ha:a<s.heap.objs.size:=lH ho;refine lA (listItems_at ho rfl ?_);refine lA (listUpdate_at ho rfl ?_ (by rw[List.size_toArray,sizeLine_eq];omega) (lY _));obtain⟨e1,ho1⟩:∃e1,(s.heap.update a (Obj.mapSeq λ Ω=>#[])).get? a=some (seqObj "list" #[] e1):=⟨_,get?_update_seq ho (λ Ω=>#[])⟩;refine lA (seqEpoch_at ho1 rfl ?_);refine lA (wpAny_newTuple ?_ (by show vs.length<=_;rw[sizeLine_eq];omega));refine lA (wpAny_newList ?_ (lY _));refine lD ?_
 have ho6:(((s.heap.update a (Obj.mapSeq λ Ω=>#[])).push (seqObj "tuple" vs.toArray 0)).push (seqObj "list" #[] 0)).get? a=some (seqObj "list" #[] e1):=by
  rw[Heap.get?_push_ne _ _ _ (by rw[size_push',Heap.size_update];exact lR (Nat.lt_succ_of_lt ha)),Heap.get?_push_ne _ _ _ (by rw[Heap.size_update];exact lR ha)];exact ho1
 have keep:∀b o,o.cls = .type "tuple" -> s.heap.get? b=some o->(((s.heap.update a (Obj.mapSeq λ Ω=>#[])).push (seqObj "tuple" vs.toArray 0)).push (seqObj "list" #[] 0)).get? b=some o:=λ b o hc hb=>by
  have hne:b≠a:=λ z=>by
   rw[z,ho] at hb;cases hb;injection hc with hh
   exact absurd hh (by decide)
  exact lE _ (lE _ (by rw[Heap.get?_update_ne _ _ _ _ hne];exact hb))
 have hp6:=zEH keep hp;show wpAny (model prog w) A _ P E { s with heap:=((s.heap.update a (Obj.mapSeq λ Ω=>#[])).push (seqObj "tuple" vs.toArray 0)).push (seqObj "list" #[] 0) };dsimp only
 by_cases h2:vs.toArray.size<2
 ·rw[if_pos h2,if_pos h2]
  refine lA (lB ?_);rw[StateT.run_pure];refine lA (lB ?_);dsimp only;have h2':vs.length<2:=by simpa using h2
  have hid:(arrOf (SortSt.mk' general' (vs.toArray.zip vs.toArray) #[] 7 none)).map (·.2)=List.toArray ((List.toArray (List.range vs.length)).toList.map λ i=>vs.getD i Value.none):=by
   show (vs.toArray.zip vs.toArray).map (·.2)=_;exact zJ6 h2'
  refine lA (seqEpoch_at ho6 rfl ?_);refine lA (listUpdate_at ho6 rfl ?_ (lY _) (by rw[Array.size_map];show (vs.toArray.zip vs.toArray).size<=_;rw[sizeLine_eq];simp;omega));simp only[bne_self_eq_false,Bool.false_eq_true,if_false];refine lB ?_;have fin:=h (List.toArray (List.range vs.length)) (by unfold PermN;simp) (λ i j hij hj=>by omega);rw[←hid] at fin;exact fin
 ·rw[if_neg h2,if_neg h2]
  have h2':2<=vs.length:=by simpa using h2
  obtain⟨fs,t1,t2,t3⟩:=zHW (prog:=prog) (w:=w) hp6;refine lA (kat_kind (T:=.type "tuple") t1 (by omega) t3 (by decide) ?_);show wpAny (model prog w) A ((sortRuns').run (SortSt.mk' (tuples' false) (vs.toArray.zip vs.toArray) #[] 7 none) >>= _) P E _
  have o:Ord vs.length (λ i j=>lexB (ps.getD i []) (ps.getD j [])):=by
   have inj:∀i j,i<vs.length->j<vs.length->i≠j->ps.getD i []≠ps.getD j []:=λ i j hi hj ne e=>by
    have e1:ps.getD i []=ps[i]'(by omega):=by simp[show i<ps.length by omega]
    have e2:ps.getD j []=ps[j]'(by omega):=by simp[show j<ps.length by omega]
    rw[e1,e2] at e;exact ne ((List.getElem_inj nd).mp e)
   exact⟨λ i j hi hj ne k=>zHf (inj i j hi hj ne) k,λ i j Ω Ω k=>zEO k,λ i j k Ω Ω Ω a b=>zEz a b⟩
  refine lA (wpAny_mono (kat_run (Q:=λ st' s'=>∃p:Array Nat,PermN vs.length p/\Asc (λ i j=>lexB (ps.getD i []) (ps.getD j [])) p vs.length/\s'={ s with heap:=((s.heap.update a (Obj.mapSeq λ Ω=>#[])).push (seqObj "tuple" vs.toArray 0)).push (seqObj "list" #[] 0) }/\arrOf st'=p.map (kas_item (vs.toArray.zip vs.toArray))/\failedOf st'=none)
   (G:=λ p s'=>(PermN vs.length p/\Asc (λ i j=>lexB (ps.getD i []) (ps.getD j [])) p vs.length)/\s'={ s with heap:=((s.heap.update a (Obj.mapSeq λ Ω=>#[])).push (seqObj "tuple" vs.toArray 0)).push (seqObj "list" #[] 0) })
   rfl h2' h64 (λ p' st' s' a1 a2 a3 a4=>⟨p',a4.1.1,a4.1.2,a4.2,a2,a3⟩) ?_) ?_ λ Ω Ω e=>e)
  ·refine Ev.wp (St:=λ s'=>s'={ s with heap:=((s.heap.update a (Obj.mapSeq λ Ω=>#[])).push (seqObj "tuple" vs.toArray 0)).push (seqObj "list" #[] 0) }) (λ i j C s' hi hj hij hs hC=>?_) (λ p s' q hs=>⟨q,hs⟩) (zLy o h2') rfl
   subst hs;unfold kas_ask;refine zML (zIx hp6 hi) (zIx hp6 hj) ?_ hu (hC _ rfl);intro e;have:=o.tot i j hi hj hij (by rw[e];exact zEN _);rw[e,zEN] at this;cases this
  ·rintro⟨⟨⟩,st'⟩ s' ⟨p,pm,asc,rfl,har,hf⟩
   dsimp only;have hout:=kat_snds rfl har;rw[hout];have hsz:(List.toArray (p.toList.map λ i=>vs.getD i Value.none)).size=vs.length:=by rw[List.size_toArray,List.length_map,Array.length_toList,pm.size]
   refine lA (seqEpoch_at ho6 rfl ?_);refine lA (listUpdate_at ho6 rfl ?_ (lY _) (mG (Nat.le_of_eq hsz) (by rw[sizeLine_eq];omega)));rw[hf];simp only[bne_self_eq_false,Bool.false_eq_true,if_false];exact lB (h p pm asc)
end
end PySem
namespace L2
open PySem PySem.Spec PyProof.Rows PySem.W
noncomputable def PlV (H:Hp) (p:List Int × V) (v:V):Prop:=∃(b c:Addr),v = .ref b/\H b=some (.tup [.ref c,p.2])/\H c=some (.tup (p.1.map V.int))
theorem PlV.mono {H H':Hp}(k:Tk H H') {p:List Int × V}{v:V}:PlV H p v->PlV H' p v
 |⟨b,c,e,h1,h2⟩=>⟨b,c,e,k _ _ h1,k _ _ h2⟩
theorem zJX:∀{ns:List Int}{us:List Value},Vals (ns.map V.int) us->IntsAre us ns
 |[],_,h=>by
  cases h;exact .nil
 |n::ns,_,h=>by
  rw[List.map_cons] at h;cases h with
  |cons r q =>
   obtain⟨t,rfl⟩:=r;exact .cons n t (zJX q)
theorem zMK {P:Program}{w:World}{H:Hp}{h:Heap}(ok:HOk P w H h) {p:List Int × V}{v:V}{u:Value}(hp:PlV H p v) (r:RelV v u):PlcAt h u p.1:=by
 obtain⟨b,c,rfl,h1,h2⟩:=hp;cases r;obtain⟨_,its,rv,tp⟩:=(show ObjOk P w H h b (.tup [.ref c,p.2]) from ok b _ h1);obtain⟨_,its2,rv2,tp2⟩:=(show ObjOk P w H h c (.tup (p.1.map V.int)) from ok c _ h2);cases rv with
 |cons q1 rv=>cases rv with
  |cons q2 rv =>
   cases rv;cases q1;exact⟨b,c,_,its2.toArray,rfl,tp,tp2,by simpa using zJX rv2⟩
theorem zIw {P:Program}{w:World}{H:Hp}{h:Heap}(ok:HOk P w H h){ps:List (List Int × V)}{vs:List V}{us:List Value}(z:Paired (PlV H) ps vs):Vals vs us->Paired (PlcAt h) us (ps.map (·.1)):=by
 induction z generalizing us with
 |nil=>intro r;cases r;exact .nil
 |cons hp q ih =>
  intro r;cases r with
  |cons r1 r2=>exact .cons (zMK ok hp r1) (ih r2)
theorem zFd {vs:List V}{us:List Value}(r:Vals vs us):∀(ix:List Nat),(∀i∈ix,i<vs.length)->Vals (ix.map λ i=>vs.getD i .non) (ix.map λ i=>us.getD i Value.none)
 |[],_=>.nil
 |i::ix,h=>by
  refine .cons ?_ (zFd r ix λ j hj=>h j (lP _ hj));have hi:=h i lO
  have key:∀{vs:List V}{us:List Value},Vals vs us->∀{i:Nat},i<vs.length->RelV (vs.getD i .non) (us.getD i Value.none):=by
   intro vs us r
   induction r with
   |nil=>intro i hi;simp at hi
   |cons q _ ih =>
    intro i hi;cases i with
    |zero=>exact q
    |succ i=>exact ih (by simpa using hi)
  exact key r hi
theorem zEK {ps:List (List Int × V)}{vs:List V}{H:Hp}(h:Paired (PlV H) ps vs):∀(ix:List Nat),(∀i∈ix,i<vs.length)->Paired (PlV H) (ix.map λ i=>ps.getD i ([],.non)) (ix.map λ i=>vs.getD i .non)
 |[],_=>.nil
 |i::ix,hx=>by
  refine .cons ?_ (zEK h ix λ j hj=>hx j (lP _ hj));have hi:=hx i lO;obtain⟨p,hp,q⟩:=zAQ h (lW hi);have e1:ps.getD i ([],.non)=p:=by rw[List.getD_eq_getElem?_getD,hp];rfl
  have e2:vs.getD i .non=vs[i]:=by simp[hi]
  dsimp only;rw[e1,e2];exact q
theorem zI1 {α:Type}(d:α) (ps:List α) {ix:List Nat}(h:ix.Perm (List.range ps.length)):(ix.map λ i=>ps.getD i d).Perm ps:=by
 refine(h.map _).trans ?_
 have:(List.range ps.length).map (λ i=>ps.getD i d)=ps:=by
  apply List.ext_getElem
  ·simp
  ·intro i h1 h2
   simp[h2]
 rw[this]
section
variable {X:Cx}
noncomputable def zMH:List V->Hp->VK->Prop:=λ xs H Q=>∃(l:Addr) (vs:List V) (ps:List (List Int × V)),xs=[.ref l]/\H l=some (.lst vs)/\Paired (PlV H) ps vs/\(ps.map (·.1)).Nodup/\ps.length<64 /\
 ∀(l':Addr) (ws:List V) (qs:List (List Int × V)),H l'=none->Paired (PlV H) qs ws->qs.Perm ps->qs.Pairwise (λ a b=>lexB a.1 b.1=true)->Q (.ref l') (upd H l' (.lst ws))
theorem zGK (hu:X.A.units+150<cLine):CallR X (.builtin "sorted") zMH:=by
 intro jP s σ H xs us Q I r h;obtain⟨l,vs,ps,rfl,hl,hp,nd,h64,q⟩:=h;obtain⟨u,rfl,ru⟩:=vals1 r;cases ru;obtain⟨_,its,n0,rv,hlen,el⟩:=I.lstM hl;have hlv:its.length=vs.length:=rv.length.symm;have hlp:ps.length=vs.length:=Paired.length hp;have line:its.length<=sizeLine:=Nat.le_of_lt (zAS (by omega));refine Calls.call_function_entry kind_sorted plain_sorted entry_sorted (args_sorted1 _) ?_;unfold Builtin.«sorted»;refine lA (m:=checkCount "sorted" 1 1 _) (lB ?_);have hL:s.heap.IsList l its.toArray:=⟨_,el,rfl,_,rfl⟩;refine lA (collect_list hL ?_ (by simpa using line));refine lA (wpAny_newList ?_ (by simpa using line))
 have keep1:∀b o,s.heap.get? b=some o->((s.heap.push (seqObj "list" #[] 0)).update s.heap.objs.size (Obj.mapSeq (·++its.toArray))).get? b=some o:=λ b o q=>by
  have hlt:b<s.heap.objs.size:=lH q;rw[Heap.get?_update_ne _ _ _ _ (Nat.ne_of_lt hlt)];exact lE _ q
 show wpAny _ _ _ _ _ { s with heap:=((s.heap.push (seqObj "list" #[] 0)).update s.heap.objs.size (Obj.mapSeq (·++its.toArray))).push { cls:=.type "list", data:=.seq its.toArray } };generalize (s.heap.push (seqObj "list" #[] 0)).update s.heap.objs.size (Obj.mapSeq (·++its.toArray))=h1 at keep1 ⊢;have I1:Inv X jP σ H { s with heap:=h1 }:=I.kept (t':=s.toks) keep1;have hoL:(h1.push { cls:=.type "list", data:=.seq its.toArray }).get? h1.objs.size=some (seqObj "list" its.toArray 0):=lG _ rfl;have hplc:Paired (PlcAt (h1.push { cls:=.type "list", data:=.seq its.toArray })) its (ps.map (·.1)):=zEH (λ b o Ω e=>lE _ e) (zIw I1.hok hp rv);refine lA (lD (wpAny_call_entry slot_list_sort ⟨_,hoL,rfl⟩ entry_list_sort (zFM hoL hplc nd (by omega) (by show X.A.units+1+1<cLine;omega) λ p pm asc=>⟨_,rfl,?_⟩) (args_list_sort _)));have pm':p.toList.Perm (List.range ps.length):=by have:=pm;unfold PermN at this;rw[hlv,←hlp] at this;exact this
 have hix:∀i∈p.toList,i<vs.length:=λ i hi=>by
  have:=List.mem_range.mp (pm'.mem_iff.mp hi);omega
 obtain⟨e,he⟩:∃e,(sortedHeap (h1.push { cls:=.type "list", data:=.seq its.toArray }) h1.objs.size its (List.toArray (p.toList.map λ i=>its.getD i Value.none))).get? h1.objs.size=some (seqObj "list" (List.toArray (p.toList.map λ i=>its.getD i Value.none)) e):=sortedHeap_at hoL;have hn1:=I1.hok.fresh (lQ h1.objs.size);refine lB ⟨_,rfl,⟨.ref h1.objs.size,upd H h1.objs.size (.lst (p.toList.map λ i=>vs.getD i .non)),I1.laid (t':=s.toks) (a:=h1.objs.size) (o:=.lst (p.toList.map λ i=>vs.getD i .non)) (λ b o hb=>?_) (lQ _) ⟨?_,_,e,zFd rv p.toList hix,?_⟩,rfl,q _ _ (p.toList.map λ i=>ps.getD i ([],.non)) hn1 (zEK hp p.toList hix) (zI1 _ ps pm') ?_⟩⟩
 ·rw[sortedHeap_old (Nat.ne_of_lt (Heap.lt_size hb)) (by rw[Heap.size_push];exact Nat.lt_succ_of_lt (lH hb))]
  exact lE _ hb
 ·rw[List.length_map,pm'.length_eq,List.length_range]
  exact Nat.le_of_lt (zAS (by omega))
 ·rw[he]
 ·rw[List.pairwise_map]
  rw[List.pairwise_iff_getElem];intro i j hi hj hij;have hs:p.toList.length=ps.length:=by rw[pm'.length_eq,List.length_range]
  have ea:=asc i j hij (by omega)
  have g:∀k,(hk:k<p.toList.length)->p.getD k 0=p.toList[k]:=λ k hk=>by
   have:k<p.size:=by simpa using hk
   simp[Array.getD,this]
  have m:∀k,k<ps.length->(ps.map (·.1)).getD k []=(ps.getD k ([],.non)).1:=λ k hk=>by simp[hk]
  unfold lt at ea;rw[g i hi,g j hj] at ea;have hi':p.toList[i]<ps.length:=by have:=hix _ (List.getElem_mem hi);omega
  have hj':p.toList[j]<ps.length:=by have:=hix _ (List.getElem_mem hj);omega
  have ea':lexB ((ps.map (·.1)).getD p.toList[i] []) ((ps.map (·.1)).getD p.toList[j] [])=true:=ea;rw[m _ hi',m _ hj'] at ea';exact ea'
end
end L2
namespace PySem
open AutoSeq1
set_option maxRecDepth 8000 in
theorem zFT (l:Addr) (items:Array Value) (n:Nat) (b:Addr) (items2:Array Value) (n2:Nat) (dd:Option Addr) (sl:Array (Option Value)) (hs0:¬(!items.isEmpty && Builtin.List.listTooLong (items.size+items2.size))=true) (hs1:items.size<=sizeLine) (hs2:items.size+items2.size<=sizeLine+1) :
  Meets (Builtin.«list.extend» ⟨[.ref l,.ref b],[]⟩) (λ Ω R s=>s.heap.get? l=some { cls:=.type "list", dict:=none,data:=.seq items n,slots:=#[] }/\s.heap.get? b=some { cls:=.type "tuple", dict:=dd,data:=.seq items2 n2,slots:=sl }/\R (.ok (.ret Value.none)) { s with heap:=s.heap.update l (Obj.mapSeq λ x=>x++items2),toks:=s.toks }) :=
 .of_wp λ prog w A R s h=>by
  obtain⟨hp,g,d,tk,os⟩:=s;obtain⟨hl,hb,h⟩:=h;have f1:=idx_int;have f2:=sub_tuple_tuple;have f3:=sub_list_list;have f4:=sub_tuple_list;have f5:=sub_list_tuple;have hz':(items++items2).size<=sizeLine+1:=by rw[Array.size_append];exact hs2
  wp_walk using (wpAny_updateSeq hl rfl (hz:=hs1) (_hz':=hz')),wpAny_loadPart' hl,wpAny_loadPart' hb
  exact⟨_,rfl,h⟩
end PySem
namespace L2
open PySem PySem.Spec PyProof.Rows
section
variable {X:Cx}
noncomputable def zJ9 (K:W.Frag):V->List V->Hp->VK->Prop:=λ x vs H Q=>∃l b xs zs,x = .ref l/\vs=[.ref b]/\H l=some (.lst xs)/\SqT K H b zs/\xs.length+zs.length<=sizeLine/\Q .non (upd H l (.lst (xs++zs)))
theorem zIJ:MtM X "list.extend" (zJ9 X.K):=by
 intro jP s σ H x vs v us Q I rx rv h;obtain⟨l,b,xs,zs,rfl,rfl,hH,hB,hz,q⟩:=h;cases rx;obtain⟨u,rfl,ru⟩:=rv.one;cases ru;obtain⟨z,its,n,r,hl,e⟩:=I.lstM hH;obtain⟨its2,r2,p2,z2⟩:=I.tuple hB;obtain⟨⟨cls,dd,data,sl⟩,e2,hc,n2,hd⟩:=id p2;simp only at hc hd;subst hc hd;have hl2:=r2.length;have hsz:its.toArray.size+its2.toArray.size<=sizeLine:=by rw[List.size_toArray,List.size_toArray];omega
 have hlong:¬(!its.toArray.isEmpty && Builtin.List.listTooLong (its.toArray.size+its2.toArray.size))=true:=by
  rw[zHa hsz,Bool.and_false];exact lX
 refine call_meets F.slot_list_extend ⟨_,e,rfl⟩ F.entry_list_extend (F.args_list_extend_2 _ _)
  (zFT l its.toArray n b its2.toArray n2 dd sl hlong (by rw[List.size_toArray];omega) (by omega)) ⟨e,e2,?_⟩
 refine⟨.non,_,I.lset (its':=its++its2) hH e (by simp) (r.append r2) ?_,rfl,q⟩;rw[List.length_append];omega
noncomputable def zLV:V->List V->Hp->VK->Prop:=λ x vs H Q=>∃(a:Addr) (kvs:List (Key × V)) (k:Key) (y:V),x = .ref a/\vs=[kV k,y]/\H a=some (.dK kvs)/\kvs.length<1000/\(∀z,valV kvs k=some z->Q z H)/\(valV kvs k=none->Q y (upd H a (.dK (putK kvs k y))))
theorem zFL:MtM X "dict.setdefault" zLV:=by
 intro jP s σ H x vs v us Q I rx rv h;obtain⟨a,kvs,k,y,rfl,rfl,ha,hl,q1,q2⟩:=h;cases rx;obtain⟨u1,u2,rfl,r1,r2⟩:=vals2 rv;obtain⟨z,hs,vs,rel,dd⟩:=dk_of I.hok ha;have hz:vs.length<=sizeLine:=by rw[←rel.length];exact z
 have hm:(putK kvs k y).length<=sizeLine:=by have:=zBL kvs k y;exact zA3 (by omega)
 refine call_meetsIn PySem.F.slot_dict_setdefault dd.typeIs PySem.F.entry_dict_setdefault (PySem.F.args_dict_setdefault_3 _ _ _) (kt_meets_setdefault (zAf X.prog X.w) a (kV_is r1) hs u2) ⟨vs,dd,hz,λ w' e=>?_,λ e h' d1 hs1=>?_⟩
 ·have ro:=rel.val k
  rw[e] at ro;cases e2:valV kvs k with
  |none=>rw[e2] at ro;exact(show False from ro).elim
  |some y' =>
   rw[e2] at ro;exact⟨y',H,I.tok _,ro,q1 y' e2⟩
 ·have ro:=rel.val k
  rw[e] at ro
  have e2:valV kvs k=none:=by
   cases e2:valV kvs k with
   |none=>rfl
   |some y'=>rw[e2] at ro;exact(show False from ro).elim
  have he:∃q,h'.get? a=some q:=let ⟨q,_,_,hq,_⟩:=d1;⟨q,hq⟩;exact⟨y,_,zEW (t':=s.toks+1) I (by rw[ha];exact True.intro) hs1 he (zE3 hm hs (rel.put k r2) d1),r2,q2 e2⟩
theorem zDj:CallR X (.builtin "len") (λ xs H Q=>∃a kvs,xs=[V.ref a]/\Rd H a (.dK kvs)/\Q (.int kvs.length) H):=by
 intro jP s σ H xs us Q I r h;obtain⟨a,kvs,rfl,ha,q⟩:=h;obtain⟨u,rfl,ru⟩:=vals1 r;cases ru;exact d_len I ha λ t s' I'=>⟨.int kvs.length,H,I',⟨t,rfl⟩,q⟩
noncomputable def tTupF (t:TA):TE:=λ σ H Q=>t σ H λ xs H1=>xs.length<=sizeLine/\∀(p:Addr) (o:Obj),H1 p=none->o.dict=none->Q (.ref p) (upd H1 p (.frz o (.tup xs)))
theorem zGp {es:List Expr}{t:TA}{x1} {pos:Pos}(h:PA X es t):PE X (.Tuple es x1 pos) (tTupF t):=by
 intro jP s σ H Q I hq;refine wpAny_Tuple_spliced (thn (h pos jP s σ H _ I hq) λ us s1 ⟨xs,H1,I1,r,z,q⟩=>⟨by rw[←r.length];exact z,?_⟩);have hf:H1 s1.heap.objs.size=none:=I1.hok.fresh (lQ _);refine⟨.ref s1.heap.objs.size,_,I1.laid (o:=.frz { cls:=.type "tuple", data:=.seq us.toArray } (.tup xs)) (t':=s1.toks) (λ b u e=>lE _ e) (lQ _) ?_,rfl,q _ _ hf rfl⟩;exact⟨lG _ rfl,z,us,r,⟨_,lG _ rfl,rfl,_,rfl⟩⟩
theorem zF6 (hu:X.A.units+1<cLine):OpR X (compareOp .NotIn) (λ x y H Q=>∃(a:Addr) (o:Option V),y = .ref a/\DGet H a x o/\Q (.bl (!o.isSome)) H):=by
 intro jP s σ H x y v u Q I rx ry h;obtain⟨a,o,rfl,g,q⟩:=h;cases ry;exact zL1 hu I g rx λ s' I'=>⟨.bl (!o.isSome),H,I',rfl,q⟩
end
end L2
namespace L2
open PySem
noncomputable def zEq:List V:=[.str "num", .str "name", .str "ask", .str "stop", .str "gap"]
noncomputable def zEb (K:W.Frag) (lv:Addr):Prop:=∃(o:Obj) (its:Array Value) (n:Nat),K.lookup lv=some o/\o.cls = .type "tuple" /\ o.data = .seq its n/\its.size<=sizeLine/\Vals zEq its.toList
theorem zHh (k:Kd):inV (.str k.s) zEq=k.leaf:=by cases k<;>decide +kernel
theorem zKi (t:Tr):1<=t.head:=by cases t<;>simp[Tr.head]
theorem zHd:∀{ts:List Tr}{t:Tr},t∈ts->t.size<=(ts.map Tr.size).sum
 |a::ts,t,h=>by
  rw[List.map_cons,List.sum_cons];rcases lN.mp h with rfl|h
  ·omega
  ·have:=zHd h
   omega
theorem zDb (t:Tr):(t.parts.map Tr.size).sum+1=t.size:=by
 cases t<;>simp[Tr.parts,Tr.size]<;>omega
theorem zBu {t p:Tr}(h:p∈t.parts):p.size+1<=t.size:=by
 have:=zHd h;have:=zDb t;omega
theorem zDO (t:Tr):1<=t.size:=by cases t<;>simp[Tr.size]
noncomputable def szT (ts:List Tr):Nat:=(ts.map Tr.size).sum
theorem zIf (a b:List Tr):szT (a++b)=szT a+szT b:=by simp[szT]
theorem zE8 (a:Tr) (b:List Tr):szT (a::b)=a.size+szT b:=by simp[szT]
theorem zGa:∀ts:List Tr,ts.length<=szT ts
 |[]=>lQ _
 |t::ts=>by
  rw[zE8,List.length_cons];have:=zGa ts;have:=zDO t;omega
theorem zHA (L:List Tr) (i:Nat):szT (L.take i)<=szT L:=by
 have e:szT L=szT (L.take i)+szT (L.drop i):=by rw[←zIf,List.take_append_drop]
 omega
theorem zIe (t:Tr):szT t.parts+1=t.size:=zDb t
noncomputable def Tr.subs:Tr->List Tr
 |.say a=>.say a::a.subs
 |.bin o a b=>.bin o a b::(a.subs++b.subs)
 |.ite a b c=>.ite a b c::(a.subs++(b.subs++c.subs))
 |.lett x a b=>.lett x a b::(a.subs++b.subs)
 |t=>[t]
theorem zCu (t:Tr):t.subs=t::t.parts.flatMap Tr.subs:=by
 cases t<;>simp[Tr.subs,Tr.parts]
theorem zDA:∀L:List Tr,szT (L.flatMap Tr.parts)+L.length=szT L
 |[]=>rfl
 |t::L=>by
  have ih:=zDA L;have:=zIe t;rw[List.flatMap_cons,zIf,zE8,List.length_cons];omega
theorem zEu:∀L:List Tr,(L.flatMap Tr.subs).Perm (L++(L.flatMap Tr.parts).flatMap Tr.subs)
 |[]=>.refl _
 |t::L=>by
  rw[List.flatMap_cons,zCu t,List.cons_append,List.cons_append,List.flatMap_cons,List.flatMap_append];refine .cons _ ?_;refine((zEu L).append_left _).trans ?_;rw[←List.append_assoc,←List.append_assoc];exact List.perm_append_comm.append_right _
abbrev PlT:=List Int × Tr
noncomputable def kidsP (x:PlT):List PlT:=x.2.parts.zipIdx.map λ q=>(x.1++[(q.2:Int)],q.1)
noncomputable def psub:List Int->Tr->List PlT
 |pl,.say a=>(pl,.say a)::psub (pl++[0]) a
 |pl,.bin o a b=>(pl,.bin o a b)::(psub (pl++[0]) a++psub (pl++[1]) b)
 |pl,.ite a b c=>(pl,.ite a b c)::(psub (pl++[0]) a++(psub (pl++[1]) b++psub (pl++[2]) c))
 |pl,.lett x a b=>(pl,.lett x a b)::(psub (pl++[0]) a++psub (pl++[1]) b)
 |pl,.num n=>[(pl,.num n)]
 |pl,.name n=>[(pl,.name n)]
 |pl,.ask n=>[(pl,.ask n)]
 |pl,.stop n=>[(pl,.stop n)]
 |pl,.gap n as=>[(pl,.gap n as)]
theorem zGm (pl:List Int) (t:Tr):psub pl t=(pl,t)::(kidsP (pl,t)).flatMap λ x=>psub x.1 x.2:=by
 cases t<;>simp[psub,kidsP,Tr.parts,List.zipIdx]
theorem zBQ:∀(t:Tr) (pl:List Int),(psub pl t).map (·.2)=t.subs
 |.say a,pl=>by simp[psub,Tr.subs,zBQ a]
 |.bin o a b,pl=>by simp[psub,Tr.subs,zBQ a,zBQ b]
 |.ite a b c,pl=>by simp[psub,Tr.subs,zBQ a,zBQ b,zBQ c]
 |.lett x a b,pl=>by simp[psub,Tr.subs,zBQ a,zBQ b]
 |.num _,_=>rfl
 |.name _,_=>rfl
 |.ask _,_=>rfl
 |.stop _,_=>rfl
 |.gap _ _,_=>rfl
theorem zBR:∀(t:Tr) (pl:List Int),(psub pl t).length=t.size
 |.say a,pl=>by simp[psub,Tr.size,zBR a]
 |.bin o a b,pl=>by simp[psub,Tr.size,zBR a,zBR b]
 |.ite a b c,pl=>by simp[psub,Tr.size,zBR a,zBR b,zBR c];omega
 |.lett x a b,pl=>by simp[psub,Tr.size,zBR a,zBR b]
 |.num _,_=>rfl
 |.name _,_=>rfl
 |.ask _,_=>rfl
 |.stop _,_=>rfl
 |.gap _ _,_=>rfl
theorem zCo:∀(t:Tr) (pl:List Int),∀p∈(psub pl t).map (·.1),∃r,p=pl++r:=by
 have one:∀{pl p:List Int}{i:Int},(∃r,p=pl++[i]++r)->∃r,p=pl++r:=λ{pl p i} h=>by
  obtain⟨r,e⟩:=h;exact⟨[i]++r,by rw[e,List.append_assoc]⟩
 intro t
 induction t with
 |say a ih =>
  intro pl p hp;simp only[psub,List.map_cons] at hp;rcases lN.mp hp with rfl|hp
  ·exact⟨[],by simp⟩
  ·exact one (ih _ p hp)
 |bin o a b iha ihb =>
  intro pl p hp;simp only[psub,List.map_cons,List.map_append] at hp;rcases lN.mp hp with rfl|hp
  ·exact⟨[],by simp⟩
  ·rcases lK.mp hp with hp|hp
   ·exact one (iha _ p hp)
   ·exact one (ihb _ p hp)
 |ite a b c iha ihb ihc =>
  intro pl p hp;simp only[psub,List.map_cons,List.map_append] at hp;rcases lN.mp hp with rfl|hp
  ·exact⟨[],by simp⟩
  ·rcases lK.mp hp with hp|hp
   ·exact one (iha _ p hp)
   ·rcases lK.mp hp with hp|hp
    ·exact one (ihb _ p hp)
    ·exact one (ihc _ p hp)
 |lett x a b iha ihb =>
  intro pl p hp;simp only[psub,List.map_cons,List.map_append] at hp;rcases lN.mp hp with rfl|hp
  ·exact⟨[],by simp⟩
  ·rcases lK.mp hp with hp|hp
   ·exact one (iha _ p hp)
   ·exact one (ihb _ p hp)
 |_ =>
  intro pl p hp;simp[psub] at hp;exact⟨[],by simp[hp]⟩
theorem zDD {t u:Tr}{pl:List Int}{i j:Int}(ne:i≠j):∀p∈(psub (pl++[i]) t).map (·.1),∀q∈(psub (pl++[j]) u).map (·.1),p≠q:=λ p hp q hq e=>by
 obtain⟨r,rfl⟩:=zCo t _ p hp;obtain⟨r',e'⟩:=zCo u _ q hq;rw[e'] at e;rw[List.append_assoc,List.append_assoc] at e;have:=List.append_cancel_left e;simp at this;exact ne this.1
theorem zBx {t:Tr}{pl:List Int}{i:Int}:pl∉(psub (pl++[i]) t).map (·.1):=λ h=>by
 obtain⟨r,e⟩:=zCo t _ _ h;have:=congrArg List.length e;simp at this
theorem zCK:∀(t:Tr) (pl:List Int),((psub pl t).map (·.1)).Nodup
 |.say a,pl=>by
  simp only[psub,List.map_cons,List.nodup_cons];exact⟨zBx,zCK a _⟩
 |.bin o a b,pl=>by
  simp only[psub,List.map_cons,List.nodup_cons,List.map_append,List.nodup_append,List.mem_append,not_or];exact⟨⟨zBx,zBx⟩,zCK a _,zCK b _,zDD (by decide)⟩
 |.lett x a b,pl=>by
  simp only[psub,List.map_cons,List.nodup_cons,List.map_append,List.nodup_append,List.mem_append,not_or];exact⟨⟨zBx,zBx⟩,zCK a _,zCK b _,zDD (by decide)⟩
 |.ite a b c,pl=>by
  simp only[psub,List.map_cons,List.nodup_cons,List.map_append,List.nodup_append,List.mem_append,not_or];refine⟨⟨zBx,zBx,zBx⟩,zCK a _,⟨zCK b _,zCK c _,zDD (by decide)⟩,λ p hp q hq=>?_⟩;rcases hq with hq|hq
  ·exact zDD (by decide) p hp q hq
  ·exact zDD (by decide) p hp q hq
 |.num _,_=>by simp[psub]
 |.name _,_=>by simp[psub]
 |.ask _,_=>by simp[psub]
 |.stop _,_=>by simp[psub]
 |.gap _ _,_=>by simp[psub]
noncomputable def allP (L:List PlT):List PlT:=L.flatMap λ x=>psub x.1 x.2
theorem zE6:∀L:List PlT,(allP L).Perm (L++allP (L.flatMap kidsP))
 |[]=>.nil
 |x::L=>by
  have ih:=zE6 L;unfold allP at ih ⊢;rw[List.flatMap_cons,zGm,List.flatMap_cons,List.flatMap_append,List.cons_append,List.cons_append];refine List.Perm.cons _ ?_;refine(ih.append_left _).trans ?_;rw[←List.append_assoc,←List.append_assoc];exact List.Perm.append_right _ List.perm_append_comm
theorem zJQ {pl:List Int}{t:Tr}{j:Nat}{c:Tr}(h:t.parts[j]?=some c):(kidsP (pl,t))[j]?=some (pl++[(j:Int)],c):=by
 unfold kidsP;rw[List.getElem?_map,List.getElem?_zipIdx];simp[h]
theorem zJP (pl:List Int) (t:Tr):(kidsP (pl,t)).length=t.parts.length:=by simp[kidsP]
noncomputable def szP (L:List PlT):Nat:=szT (L.map (·.2))
theorem zJO (x:PlT):(kidsP x).map (·.2)=x.2.parts:=by
 unfold kidsP;rw[List.map_map];have:((λ x:PlT=>x.2) ∘ λ q:Tr × Nat=>(x.1++[(q.2:Int)],q.1))=Prod.fst:=rfl;rw[this,List.zipIdx_map_fst]
theorem zFh (L:List PlT):szP (L.flatMap kidsP)+L.length=szP L:=by
 have:=zDA (L.map (·.2));unfold szP;rw[List.map_flatMap]
 have e:(L.flatMap λ x=>(kidsP x).map (·.2))=(L.map (·.2)).flatMap Tr.parts:=by
  rw[List.flatMap_map];congr 1;funext x;exact zJO x
 rw[e];rw[List.length_map] at this;exact this
theorem zLQ (L:List PlT):L.length<=szP L:=by have:=zGa (L.map (·.2));rw[List.length_map] at this;exact this
theorem zF4 (t:Tr):t.parts.length<=3:=by cases t<;>simp[Tr.parts]
theorem zKu (L:List PlT):(allP L).length=szP L:=by
 induction L with
 |nil=>rfl
 |cons x L ih =>
  unfold allP at ih ⊢;unfold szP at ih ⊢;rw[List.flatMap_cons,List.length_append,ih,List.map_cons,zE8,zBR]
theorem zHg:∀(pl:List Int) (i:Int) (r:List Int),lexB pl (pl++i::r)=true
 |[],_,_=>rfl
 |a::pl,i,r=>by rw[List.cons_append,lexB,if_pos rfl];exact zHg pl i r
theorem zF9:∀(pl:List Int) {i j:Int}(r r':List Int),i<j->lexB (pl++i::r) (pl++j::r')=true
 |[],i,j,r,r',h=>by
  rw[List.nil_append,List.nil_append,lexB,if_neg (by omega)];exact lU h
 |a::pl,i,j,r,r',h=>by rw[List.cons_append,List.cons_append,lexB,if_pos rfl];exact zF9 pl r r' h
theorem zCZ {t:Tr}{pl:List Int}{i:Int}:∀p∈(psub (pl++[i]) t).map (·.1),lexB pl p=true:=λ p hp=>by
 obtain⟨r,rfl⟩:=zCo t _ p hp;rw[List.append_assoc];exact zHg pl i r
theorem zEZ {t u:Tr}{pl:List Int}{i j:Int}(h:i<j):∀p∈(psub (pl++[i]) t).map (·.1),∀q∈(psub (pl++[j]) u).map (·.1),lexB p q=true:=λ p hp q hq=>by
 obtain⟨r,rfl⟩:=zCo t _ p hp;obtain⟨r',rfl⟩:=zCo u _ q hq;rw[List.append_assoc,List.append_assoc];exact zF9 pl r r' h
theorem zBh:∀(t:Tr) (pl:List Int),((psub pl t).map (·.1)).Pairwise λ a b=>lexB a b=true
 |.say a,pl=>by
  simp only[psub,List.map_cons,List.pairwise_cons];exact⟨zCZ,zBh a _⟩
 |.bin o a b,pl=>by
  simp only[psub,List.map_cons,List.pairwise_cons,List.map_append,List.pairwise_append];exact⟨λ p hp=>(lK.mp hp).elim (zCZ p) (zCZ p),zBh a _,zBh b _,zEZ (by decide)⟩
 |.lett x a b,pl=>by
  simp only[psub,List.map_cons,List.pairwise_cons,List.map_append,List.pairwise_append];exact⟨λ p hp=>(lK.mp hp).elim (zCZ p) (zCZ p),zBh a _,zBh b _,zEZ (by decide)⟩
 |.ite a b c,pl=>by
  simp only[psub,List.map_cons,List.pairwise_cons,List.map_append,List.pairwise_append];refine⟨λ p hp=>(lK.mp hp).elim (zCZ p) λ hp=>(lK.mp hp).elim (zCZ p) (zCZ p),zBh a _,⟨zBh b _,zBh c _,zEZ (by decide)⟩,λ p hp q hq=>?_⟩;exact(lK.mp hq).elim (zEZ (by decide) p hp q) (zEZ (by decide) p hp q)
 |.num _,_=>by simp[psub]
 |.name _,_=>by simp[psub]
 |.ask _,_=>by simp[psub]
 |.stop _,_=>by simp[psub]
 |.gap _ _,_=>by simp[psub]
end L2
namespace PySem.W
open PySem PySem.Spec PySem.Calls PyProof.Rows
section
variable {prog:Program}{w:World}{A:Around}{E:Value->Shared->Prop}{K:Frag}{x D:Addr}{h:Heap}{g:Array GenState}{d:Drawn}{t:Nat}{os:OsState}
end
end PySem.W
namespace L2
open PySem PySem.Spec PyProof.Rows
section
variable {P:Program}{w:World}{H H':Hp}{h h' g:Heap}{a:Addr}{o:HO}
theorem ObjOk.there (x:ObjOk P w H h a o):∃ob,h.get? a=some ob:=by
 cases o with
 |lst xs=>obtain⟨_,_,_,_,e⟩:=x;exact⟨_,e⟩
 |tup xs=>obtain⟨_,_,_,ob,e,_⟩:=x;exact⟨_,e⟩
 |dK kvs=>obtain⟨_,_,_,_,o,_,_,e,_⟩:=x;exact⟨_,e⟩
 |dT kvs=>obtain⟨_,_,_,_,o,_,_,e,_⟩:=x;exact⟨_,e⟩
 |set S n=>obtain⟨o,_,_,_,e,_⟩:=x;exact⟨_,e⟩
 |ins C dx fs=>obtain⟨_,_,_,e,_⟩:=x;exact⟨_,e⟩
 |own y=>exact x
 |xd fs=>obtain⟨_,⟨_,_,_,e,_⟩,_⟩:=x;exact⟨_,e⟩
 |rng lo hi=>obtain⟨_,_,_,e⟩:=x;exact⟨_,e⟩
 |frz ob u=>obtain⟨e,_⟩:=x;exact⟨_,e⟩
 |tbl ps=>exact⟨_,(show h.get? a=some _ from x)⟩
 |met f y=>exact⟨_,(show h.get? a=some _ from x)⟩
 |ext φ=>obtain⟨_,e,_⟩:=x;exact e
noncomputable def Cov (fs:List Addr) (H':Hp) (h g B:Heap):Prop:=∀b o,g.get? b=some o->b∉fs->((∃o0,h.get? b=some o0)\/H' b≠none)->B.get? b=some o
theorem moved {fs:List Addr}{B:Heap}(un:Un fs [] H H' h g) (hok:HOk P w H' g) (cov:Cov fs H' h g B) (hfd:∀b∈fs,H' b=none/\∃o,g.get? b=some o/\∀vs,o.data ≠ .fields vs)
  (st:B.StaysIn h') (sm:g.UpToSlots h'):Un fs [] H H' h h'/\HOk P w H' h'/\Cov fs H' h h' B:=by
 refine⟨⟨λ b o q n nb Ω=>?_,λ b o q n hb Ω=>?_,un.free,λ b o q Ω=>?_,un.tups,un.frzs,un.tbls⟩,λ b u e=>?_,λ b o e nb hz=>?_⟩
 ·exact st b o (cov b o (un.keep b o q n nb (by simp)) nb (.inl ⟨o,q⟩))
 ·obtain⟨sl,e⟩:=un.slot b o q n hb (by simp)
  obtain⟨_,o',e',d⟩:=hfd b hb;rw[e] at e';cases e';obtain⟨sl',e2⟩:=sm b _ e d;exact⟨sl',e2⟩
 ·by_cases hb:b∈fs
  ·obtain⟨_,o',e',d⟩:=hfd b hb
   obtain⟨sl',e2⟩:=sm b _ e' d;exact⟨_,e2⟩
  ·obtain⟨o',e⟩:=un.there b o q (by simp)
   exact⟨o',st b o' (cov b o' e hb (.inl ⟨o,q⟩))⟩
 ·refine(hok b u e).stay (λ c v hc q=>?_) (λ Ω q=>q) λ Ω Ω q=>q
  have hn:H' c≠none:=by
   rcases hc with z|z
   ·rw[z,e];intro y;cases y
   ·rw[z];intro y;cases y
  exact st c v (cov c v q (λ z=>hn (hfd c z).1) (.inr hn))
 ·have:∃o',g.get? b=some o':=by
   rcases hz with ⟨o0,z⟩|z
   ·exact un.there b o0 z (by simp)
   ·cases q:H' b with
    |none=>exact absurd q z
    |some u=>exact(hok b u q).there
  obtain⟨o',e'⟩:=this;have c:=cov b o' e' nb hz;have:=st b o' c;rw[e] at this;cases this;exact c
end
structure Flew (P:Program) (w:World) (stk:List Env) (H:Hp) (s:Shared) (H':Hp) (ea C:Addr) (s':Shared):Prop where
 os:s'.os=s.os
 bare:AllBare s'.gens
 un:Un (frs stk) [] H H' s.heap s'.heap
 hok:HOk P w H' s'.heap
 new:s.heap.get? ea=none
 hn:H' ea=none
 fly:∃(B:Heap) (a0:Value),Heap.FlyingW B stk ea (.ref C) a0 s'.heap/\Cov (frs stk) H' s.heap s'.heap B
noncomputable def CXF (P:Program) (w:World):CXT:=λ outer H s E e s'=>∃ea C H',e = .ref ea/\Flew P w outer H s H' ea C s'/\E (.ref C) none H'
section
variable {X:Cx}{jP:List (Addr × Obj)}{σ:St}{H H':Hp}{s s':Shared}{ea C:Addr}
theorem Flew.frd (F:Flew X.prog X.w X.stack H s H' ea C s') (I:Inv X jP σ H s) {B:Heap}{a0:Value}(hfl:Heap.FlyingW B X.stack ea (.ref C) a0 s'.heap):∀b∈frs X.stack,H' b=none/\∃o,s'.heap.get? b=some o/\∀vs,o.data ≠ .fields vs:=λ b hb=>by
 obtain⟨_,o,e,d⟩:=I.stack.mem hb;exact⟨F.un.free b o e (I.stkFree b hb) (by simp),(hfl.2.2.1.mem hb).2⟩
end
section
variable {P:Program}{w:World}{K:W.Frag}{mg:Str->Option Value}{base:Heap}{N:List Str}{qual:Str}{scope:Scope}{f:Addr}{cd:Value}{A:Around}{outer:List Env}{s:Shared}{H:Hp}{E:XK}
theorem zGC {jP:List (Addr × Obj)}{σ:St}{H1 H':Hp}{s1:Shared}{h' B:Heap}(I:Inv (cxOf (CXF P w) P w K mg base N qual scope f cd A outer s H E) jP σ H1 s1)
  (U:Un (frs (cxOf (CXF P w) P w K mg base N qual scope f cd A outer s H E).stack) [] H1 H' s1.heap h') (c:Cov (frs (cxOf (CXF P w) P w K mg base N qual scope f cd A outer s H E).stack) H' s1.heap h' B):Un (frs outer) [] H H' s.heap h'/\Cov (frs outer) H' s.heap h' B:=by
 have ba:Un (frs outer) [] H H1 s.heap s1.heap:=I.base;have ab:s.heap.objs.size<=(cxOf (CXF P w) P w K mg base N qual scope f cd A outer s H E).env.locals:=I.ok.above;have lt:∀b o,s.heap.get? b=some o->b≠(cxOf (CXF P w) P w K mg base N qual scope f cd A outer s H E).env.locals:=λ b o e=>lR (lZ (lH e) ab)
 have no:∀b,b≠(cxOf (CXF P w) P w K mg base N qual scope f cd A outer s H E).env.locals->b∉frs outer->b∉frs (cxOf (CXF P w) P w K mg base N qual scope f cd A outer s H E).stack:=λ b n1 n2 z=>by
  rcases lN.mp (I.stkSub b z) with q|q
  ·exact n1 q
  ·exact n2 q
 have hL:H' (cxOf (CXF P w) P w K mg base N qual scope f cd A outer s H E).env.locals=none:=by
  obtain⟨m,⟨o,_,_,e,_⟩,_⟩:=I.loc;exact U.free _ o e I.free (by simp)
 refine⟨⟨λ b o q n nb hx=>U.keep b o (ba.keep b o q n nb hx) (ba.free b o q n hx) (no b (lt b o q) nb) hx,λ b o q n hb hx=>?_,λ b o q n hx=>?_,λ b o q hx=>?_,λ b xs q=>U.tups b xs (ba.tups b xs q),λ b o u q=>U.frzs b o u (ba.frzs b o u q),λ b ps q=>?_⟩,λ b o e nb hz=>?_⟩
 ·obtain⟨sl,e⟩:=ba.slot b o q n hb hx
  obtain⟨sl',e'⟩:=U.any e (ba.free b o q n hx) hx;exact⟨sl',e'⟩
 ·obtain⟨o',e⟩:=ba.there b o q hx
  exact U.free b o' e (ba.free b o q n hx) hx
 ·obtain⟨o',e⟩:=ba.there b o q hx
  exact U.there b o' e hx
 ·obtain⟨m1,e1⟩:=ba.tbls b ps q
  obtain⟨m2,e2⟩:=U.tbls b _ e1;exact⟨m1++m2,by rw[e2,Array.append_assoc]⟩
 ·rcases hz with ⟨o0,z⟩|z
  ·obtain⟨o1,z1⟩:=ba.there b o0 z (by simp)
   exact c b o e (no b (lt b o0 z) nb) (.inl ⟨o1,z1⟩)
  ·exact c b o e (no b (λ y=>z (by rw[y];exact hL)) nb) (.inr z)
theorem zDI:zE7 (CXF P w) (cxOf (CXF P w) P w K mg base N qual scope f cd A outer s H E) E:=by
 rintro jP σ H1 s1 e s' I ⟨ea,C,H',rfl,F,q⟩;obtain⟨B,a0,hfl,cov⟩:=F.fly;refine wpAny_leaves_onW I.ok.frames rfl hfl λ h' x1 x2=>?_;obtain⟨u,k,c⟩:=moved F.un F.hok cov (Flew.frd (X:=cxOf (CXF P w) P w K mg base N qual scope f cd A outer s H E) F I hfl) x1.1 x2;obtain⟨u2,c2⟩:=zGC I u c;refine⟨ea,C,H',rfl,⟨F.os.trans I.os,F.bare,u2,k,?_,F.hn,B,a0,x1,c2⟩,q⟩;cases z:s.heap.get? ea with
 |none=>rfl
 |some o =>
  obtain⟨o',z'⟩:=(show Un (frs outer) [] H H1 s.heap s1.heap from I.base).there ea o z (by simp);rw[F.new] at z';cases z'
theorem zJn {jP:List (Addr × Obj)}{σ:St}{H1:Hp}{s1:Shared}{h1:Heap}{ea C:Addr}{vs:List Value}(I:Inv (cxOf (CXF P w) P w K mg base N qual scope f cd A outer s H E) jP σ H1 s1) (hx:Heap.MadeExcOf s1.heap h1 ea (.ref C) vs) (q:E (.ref C) none H1) :
  (cxOf (CXF P w) P w K mg base N qual scope f cd A outer s H E).xe (.ref ea) { s1 with heap:=h1 }:=by
 refine wpAny_leaves_madeW (base:=W.hideAll s1.heap (frs (cxOf (CXF P w) P w K mg base N qual scope f cd A outer s H E).stack)) I.ok.frames rfl (λ b o e=>W.of_hideAll _ e) (W.funFrames_hide I.stack λ env he b hb=>List.mem_filterMap.mpr ⟨env,he,hb⟩) hx λ h' t x1 x2 x3 x4=>?_
 have cov:Cov (frs (cxOf (CXF P w) P w K mg base N qual scope f cd A outer s H E).stack) H1 s1.heap h1 (W.hideAll s1.heap (frs (cxOf (CXF P w) P w K mg base N qual scope f cd A outer s H E).stack)):=λ b o e nb hz=>by
  have:∃o0,s1.heap.get? b=some o0:=by
   rcases hz with z|z
   ·exact z
   ·cases y:H1 b with
    |none=>exact absurd y z
    |some u=>exact(I.hok b u y).there
  obtain⟨o0,z⟩:=this;have:=hx.keeps b o0 z;rw[e] at this;cases this;exact W.hideAll_get _ z nb
 obtain⟨u,k,c⟩:=moved (Un.kept (fs:=frs (cxOf (CXF P w) P w K mg base N qual scope f cd A outer s H E).stack) (ex:=[]) (H:=H1) hx.keeps) (I.hok.kept hx.keeps) cov (λ b hb=>by
  obtain⟨_,o,e,d⟩:=I.stack.mem hb;exact⟨I.stkFree b hb,o,hx.keeps b o e,d⟩) x1.1 x4
 obtain⟨u2,c2⟩:=zGC I u c;refine⟨ea,C,H1,rfl,⟨I.os,I.bare,u2,k,?_,?_,_,_,x1,c2⟩,q⟩
 ·cases z:s.heap.get? ea with
  |none=>rfl
  |some o =>
   obtain⟨o',z'⟩:=(show Un (frs outer) [] H H1 s.heap s1.heap from I.base).there ea o z (by simp);rw[hx.new] at z';cases z'
 ·cases y:H1 ea with
  |none=>rfl
  |some u =>
   obtain⟨o,z⟩:=(I.hok ea u y).there;rw[hx.new] at z;cases z
end
end L2
namespace PySem.W
open PySem PySem.Spec PySem.Calls PyProof.Rows
section
variable {M:Model}{A:Around}{E:Value->Shared->Prop}{K:Frag}{x C D:Addr}{b:Bool}{h:Heap}{g:Array GenState}{d:Drawn}{t:Nat}{os:OsState}
end
set_option tactic.hygienic true in
theorem exc_obj {K:Frag}{h:Heap}{C:Addr}{bB:List Value}{nid:String}(Z:K.In h) (e:excIn K C bB nid=true):∃tl NN n1 n2 b1 b2 b3 b4 b5 b6 b7 z0 z1 z2 z3 z5 mm,
  h.get? C=some (excClassObj n1 n2 C NN b1 tl b2 b3 b4 b5 b6 b7 z0 z1 z2 z3 z5 nid)/\h.Ns NN mm/\mm "__init__" = none/\OwnTail h bB tl:=by
 unfold excIn at e;split at e
 next b7 cc ss hK =>
  split at e
  next C2 tl z0 z1 z2 z3 nn z5 hmro hsl =>
   simp only[Bool.and_eq_true,beq_iff_eq,Bool.not_eq_true'] at e;obtain⟨⟨⟨⟨⟨r1,r2⟩,hdl⟩,htl⟩,hnk⟩,hin⟩:=e;subst r1 r2;obtain⟨n1,b1,mro,NN,n2,b2,b3,b4,b5,b6,del⟩:=cc;dsimp only at hmro hdl hnk hin;subst hmro hdl
   have es:ss=#[z0,z1,z2,z3,some (.builtin nn),z5]:=by
    obtain⟨l⟩:=ss;simp only at hsl;rw[hsl]
   subst es;exact⟨tl,NN,n1,n2,b1,b2,b3,b4,b5,b6,b7,z0,z1,z2,z3,z5,_,Z _ _ hK,.of_isNs (isNs_of_in Z hnk),nsMap_none_of_in Z hnk hin,tail_of_in Z htl⟩
  next=>cases e
 next=>cases e
end PySem.W
namespace L2
open PySem PySem.Spec PyProof.Rows
abbrev bmVE:List Value:=[.type "ValueError", .type "Exception", .type "BaseException", .type "object"]
noncomputable def zL6 (C:Addr) (E:XK) (t:TA):TS:=λ _ σ H=>t σ H λ vs H1=>vs.length<=sizeLine/\E (.ref C) none H1
section
variable {P:Program}{w:World}{K:W.Frag}{mg:Str->Option Value}{base:Heap}{N:List Str}{qual:Str}{scope:Scope}{f:Addr}{cd:Value}{A:Around}{outer:List Env}{s:Shared}{H:Hp}{E:XK}
theorem zHS {x:Str}{np cpos pos:Pos}{e0:Expr}{es:List Expr}{t:TA}{C:Addr}(hg:Gl (cxOf (CXF P w) P w K mg base N qual scope f cd A outer s H E) x) (hm:mg x=some (.ref C)) (hC:W.excIn K C bmVE "ValueError.__new__" = true)
  (ha:PA (cxOf (CXF P w) P w K mg base N qual scope f cd A outer s H E) (e0::es) t) (hdb:(x == ("__debug__" : Str))=false:=by decide)
  (he:starEach (e0::es) (cxOf (CXF P w) P w K mg base N qual scope f cd A outer s H E).env=(false,eval e0 (cxOf (CXF P w) P w K mg base N qual scope f cd A outer s H E).env)::starEach es (cxOf (CXF P w) P w K mg base N qual scope f cd A outer s H E).env:=by rfl)
  (hpl:(backTo cpos (starEach es (cxOf (CXF P w) P w K mg base N qual scope f cd A outer s H E).env)).any (·.1)=false:=by rfl) :
  PS (cxOf (CXF P w) P w K mg base N qual scope f cd A outer s H E) (.Raise (some (.Call (.Name x np) (e0::es) [] cpos)) none pos) (zL6 C E t):=by
 intro jP s1 σ H1 D I h;obtain⟨tl,NN,n1,n2,b1,b2,b3,b4,b5,b6,b7,z0,z1,z2,z3,z5,mm,hobj,hns,hni,T⟩:=W.exc_obj I.ok.mod.kin hC;refine wpAny_Raise_call_subT (C:=C) (nm:=n1) (q:=n2) (N:=NN) (bs:=b1) (bm:=tl) (hdct:=b2) (sn:=b3) (sub:=b4) (ab:=b5) (col:=b6) (dd:=b7) (k0:=z0) (k1:=z1) (k2:=z2) (k3:=z3) (k5:=z5) PySem.F.excBase_ValueError (mN:=mm) (T.hasType PySem.F.excBase_ValueError.hasBase) (I.ok.hd rfl) ?_ hni (zGz I hg hm ⟨rfl,?_⟩ hdb)
 ·rw[he]
  show (false || (backTo cpos (starEach es _)).any (·.1))=false;rw[hpl];rfl
 ·have z:=ha cpos jP s1 σ H1 _ I h
  rw[he] at z ⊢;refine Calls.evalArgs_plain (wpAny_mono z (λ us s2 ⟨vs,H2,I2,r,hl,q⟩=>⟨rfl,by rw[←r.length];exact hl,I2.bk _ _ hobj,hns.keeps I2.bk,T.keeps I2.bk,λ h' e hx=>zJn I2 hx q⟩) λ Ω Ω y=>y)
end
abbrev HR:=Ends->Addr->St->Hp->Prop
section
variable {X:Cx}{jP:List (Addr × Obj)}{σ:St}{H H':Hp}{s s':Shared}{ea C:Addr}
end
section
variable {X:Cx}{x n:Str}{np pos:Pos}{i:Nat}{b0:Stmt}{suite:List Stmt}{rest:List ExceptHandler}{ts:TS}{r:HR}{Da:Addr}
end
theorem Fun.okF {P:Program}{w:World}{K:W.Frag}{mg:Str->Option Value}{base:Heap}{x qual:Str}{st:Stmt}{f:Addr}{fd:FuncData}{N ps:List Str}{k:Nat}{sp:Sp}(F:Fun K x qual st f fd) (S:zAR N ps (zAG st)) (len:∀vs H Q E,sp vs H Q E->vs.length=ps.length)
  (hbody:∀(cdv:Value) (A:Around) (outer:List Env) (s:Shared) (H:Hp) (vs:List V) (Q:VK) (E:XK),Room k (A.deeper (envOfC qual (zAG st) s.heap.objs.size f cdv))->sp vs H Q E ->
   ∃t,PSs (cxOf (CXF P w) P w K mg base N qual (zAG st) f cdv A outer s H E) (zA0 st) t/\t { nx:=λ Ω H'=>Q .non H',rt:=Q } (start N vs) H):FnOk P w K mg base (CXF P w) (k+1) f fd ps sp:=by
 obtain⟨oc,od,kV,doc,pm,an,cdv,ct,osl,rfl,lk,hcd⟩:=F.ex;exact fn_of lk hcd S len λ A outer s H vs Q E hr hsp=>hbody cdv A outer s H vs Q E hr hsp
section
variable {prog:Program}{w:World}{A:Around}{E:Value->Shared->Prop}{s:Shared}
abbrev Drs (prog:Program) (w:World) (it l:Addr) (n:Nat) (P:Nat->Value->Prop) (S:Nat->Heap->Prop):Prop:=∀A:Around,A.handled=none->Draws prog w A it [it,l] n P S
theorem zHo (it l:Addr) (hne:l≠it) (items:Array Value):Drs prog w it l items.size (λ i v=>items[i]?=some v) (λ i h=>h.IsListIter it l i/\h.IsList l items):=λ A hh=>Draws.list hh it l hne items
theorem zJh (it l:Addr) (hne:l≠it) (items:Array Value):Drs prog w it l items.size (λ i v=>items[i]?=some v) (λ i h=>h.IsTupleIter it l i/\h.IsTuple l items):=λ A hh=>zEV hh it l hne items
theorem zFa {z TI TO i1 i2 l1 l2:Addr}{k n1 n2:Nat}{P1 P2:Nat->Value->Prop}{S1 S2:Nat->Heap->Prop}{a b:Value}{Q:Option Value->Shared->Prop}(hh:A.handled=none) (D:ZipApart z TI TO i1 i2 l1 l2) (W1:Drs prog w i1 l1 n1 P1 S1) (W2:Drs prog w i2 l2 n2 P2 S2)
  (hz:ZipS s.heap z TI TO) (hTI:IsPair s.heap TI (.ref i1) (.ref i2)) (hTO:IsPair s.heap TO a b) (h1:S1 k s.heap) (h2:S2 k s.heap) (hk1:k<n1) (hk2:k<n2)
  (hQ:∀h' tk x y,P1 k x->P2 k y->ZipS h' z TI TO->(∃p q,IsPair h' TO p q)->S1 (k+1) h'->S2 (k+1) h'->IsPair h' s.heap.objs.size x y ->
   (∀c o,c≠z->c≠TO->c≠i1->c≠i2->s.heap.get? c=some o->h'.get? c=some o)->Q (some (.ref s.heap.objs.size)) { s with heap:=h',toks:=tk }):wpAny (model prog w) A (pyNext (.ref z)) Q E s:=by
 obtain⟨f0,f1,hz,hf⟩:=hz;have hT:s.TypeIs (.ref z) "zip" := ⟨_,hz,rfl⟩;have fr1:∀{i:Nat}{h h':Heap},S1 i h->(∀b∈[i1,l1],∀o,h.get? b=some o->h'.get? b=some o)->S1 i h':=λ st k=>(W1 A hh).frame _ _ _ st k;have fr2:∀{i:Nat}{h h':Heap},S2 i h->(∀b∈[i2,l2],∀o,h.get? b=some o->h'.get? b=some o)->S2 i h':=λ st k=>(W2 A hh).frame _ _ _ st k
 have sb1:∀{i:Nat}{h h':Heap}{c:Addr},S1 i h->Heap.SameBut c h h'->i1≠c->l1≠c->S1 i h':=λ st e n1 n2=>fr1 st λ b hb o q=>by
  rcases lN.mp hb with r|hb
  ·exact e.extBut _ _ (r▸n1) q
  ·exact e.extBut _ _ (List.mem_singleton.mp hb▸n2) q
 have sb2:∀{i:Nat}{h h':Heap}{c:Addr},S2 i h->Heap.SameBut c h h'->i2≠c->l2≠c->S2 i h':=λ st e n1 n2=>fr2 st λ b hb o q=>by
  rcases lN.mp hb with r|hb
  ·exact e.extBut _ _ (r▸n1) q
  ·exact e.extBut _ _ (List.mem_singleton.mp hb▸n2) q
 unfold pyNext;refine lA (wpAny_attempt (wpAny_callSpecial?_slot (name:=Str.ofString "__next__") hT F.slot_zip_next (wpAny_call_entry F.slot_zip_next hT F.entry_zip_next ?_ (F.args_zip_next_1 _))));show wpAny _ _ (field (.ref z) 2 >>= _) _ _ _;refine lA (wpAny_field hz rfl (x:=.bool false) rfl ?_);show wpAny _ _ (field (.ref z) 3 >>= _) _ _ _;refine lA (wpAny_field hz rfl (x:=.ref TI) rfl ?_);refine lA (wpAny_seqItems hTI rfl ?_);show wpAny _ _ (Builtin.SmallTypes.ownedTupleIsFree (.ref z) >>= _) _ _ _;refine lA (zDu hz hf ?_ λ q1 hz1 hs1=>?_)
 ·simp only[if_true];refine lA (wpAny_rule ?_);refine lA (wpAny_field hz rfl (x:=.ref TO) rfl ?_)
  refine lA (wpAny_setField_rec hz (by simp) λ q1 hz1 hs1=>?_);replace hz1:ZipF q1 z TI TO .ellipsis f1:=hz1;refine lA ?_;simp only[List.zipIdx_cons,List.zipIdx_nil,List.forIn_cons,List.forIn_nil];refine lA (lA (wpAny_onRaise ?_));show wpAny _ _ (Builtin.SmallTypes.nextOf (.ref i1) >>= _) _ _ _;refine lA ((W1 A.in1 hh).item k _ _ _ hk1 (sb1 h1 hs1 D.i1z D.l1z) λ x q2 t2 p1 j1 hs2=>lB ?_);have hTO2:IsPair q2 TO a b:=hs2.extBut _ _ D.TOi1 (hs1.extBut _ _ D.TOz hTO);refine lA (wpAny_seqItems hTO2 rfl ?_);refine lA (wpAny_updateSeq_pair hTO2 λ q3 hTO3 hs3=>?_);replace hTO3:IsPair q3 TO x b:=hTO3;refine lA (wpAny_letGo (lB ?_));refine lA (lA (wpAny_onRaise ?_));show wpAny _ _ (Builtin.SmallTypes.nextOf (.ref i2) >>= _) _ _ _;refine lA ((W2 A.in1 hh).item k _ _ _ hk2 (sb2 (sb2 (sb2 h2 hs1 D.i2z D.l2z) hs2 D.i12.symm D.l2i1) hs3 D.TOi2.symm D.l2TO) λ y q4 t4 p2 j2 hs4=>lB ?_);have hTO4:IsPair q4 TO x b:=hs4.extBut _ _ D.TOi2 hTO3;refine lA (wpAny_seqItems hTO4 rfl ?_);refine lA (wpAny_updateSeq_pair hTO4 λ q5 hTO5 hs5=>?_);replace hTO5:IsPair q5 TO x y:=hTO5;refine lA (wpAny_letGo (lB (lB ?_)));refine lA (wpAny_seqItems hTO5 rfl ?_);refine lA (wpAny_newTuple ?_);have hsz:q5.objs.size=s.heap.objs.size:=by rw[hs5.1,hs4.1,hs3.1,hs2.1,hs1.1]
  have hz5:ZipF q5 z TI TO .ellipsis f1:=hs5.extBut _ _ D.TOz.symm (hs4.extBut _ _ D.i2z.symm (hs3.extBut _ _ D.TOz.symm (hs2.extBut _ _ D.i1z.symm hz1)));have hk5:∀c o,c≠z->c≠TO->c≠i1->c≠i2->s.heap.get? c=some o->q5.get? c=some o:=λ c o c1 c2 c3 c4 e=>hs5.extBut _ _ c2 (hs4.extBut _ _ c4 (hs3.extBut _ _ c2 (hs2.extBut _ _ c3 (hs1.extBut _ _ c1 e))));have j15:S1 (k+1) q5:=sb1 (sb1 (sb1 j1 hs3 D.TOi1.symm D.l1TO) hs4 D.i12 D.l1i2) hs5 D.TOi1.symm D.l1TO;have j25:S2 (k+1) q5:=sb2 j2 hs5 D.TOi2.symm D.l2TO;have hzlt:z<q5.objs.size:=lH hz5;show wpAny _ _ (Builtin.SmallTypes.ownedTupleHandOut (.ref z) (.ref q5.objs.size) >>= _) _ _ _;refine lA ?_;unfold Builtin.SmallTypes.ownedTupleHandOut;have hz6:ZipF (q5.push { cls:=.type "tuple", data:=.seq #[x,y] }) z TI TO .ellipsis f1:=lE _ hz5;refine lA (wpAny_setField_rec hz6 (by simp) λ q7 hz7 hs7=>?_);replace hz7:ZipF q7 z TI TO (rawInt q5.objs.size) f1:=hz7;refine wpAny_setField_rec hz7 (by simp) λ q8 hz8 hs8=>?_;replace hz8:ZipF q8 z TI TO (rawInt q5.objs.size) false:=hz8;have up:∀c o,c≠z->q5.get? c=some o->q8.get? c=some o:=λ c o c1 e=>hs8.extBut _ _ c1 (hs7.extBut _ _ c1 (lE _ e));have hT8:IsPair q8 q5.objs.size x y:=hs8.extBut _ _ (Nat.ne_of_gt hzlt) (hs7.extBut _ _ (Nat.ne_of_gt hzlt) (lG _ rfl));rw[hsz] at hz8 hT8;refine lB ⟨_,rfl,lB ?_⟩;show Q (some (.ref q5.objs.size)) _;rw[hsz];refine hQ q8 _ x y p1 p2 ⟨_,_,hz8,.inr ⟨_,rfl⟩⟩ ⟨_,_,up _ _ D.TOz hTO5⟩ (fr1 j15 λ b hb o e=>up b o ?_ e) (fr2 j25 λ b hb o e=>up b o ?_ e) hT8 λ c o c1 c2 c3 c4 e=>up c o c1 (hk5 c o c1 c2 c3 c4 e)
  ·rcases lN.mp hb with r|hb
   ·exact r▸D.i1z
   ·exact List.mem_singleton.mp hb▸D.l1z
  ·rcases lN.mp hb with r|hb
   ·exact r▸D.i2z
   ·exact List.mem_singleton.mp hb▸D.l2z
 ·rw[if_neg Bool.false_ne_true]
  refine lA ?_;rw[←Array.forIn_toList];simp only[List.forIn_cons,List.forIn_nil];refine lA (lA (lD ?_));show wpAny _ _ (Builtin.SmallTypes.nextOf (.ref i1) >>= _) _ _ _;refine lA ((W1 A.in1 hh).item k _ _ _ hk1 (sb1 h1 hs1 D.i1z D.l1z) λ x q2 t2 p1 j1 hs2=>lB (lB ?_));refine lA (lA (lD ?_));show wpAny _ _ (Builtin.SmallTypes.nextOf (.ref i2) >>= _) _ _ _;refine lA ((W2 A.in1 hh).item k _ _ _ hk2 (sb2 (sb2 h2 hs1 D.i2z D.l2z) hs2 D.i12.symm D.l2i1) λ y q4 t4 p2 j2 hs4=>lB (lB (lB ?_)));refine lA (wpAny_newTuple ?_ (by show 2<=sizeLine;decide));have hsz:q4.objs.size=s.heap.objs.size:=by rw[hs4.1,hs2.1,hs1.1]
  have hz4:ZipF q4 z TI TO f0 true:=hs4.extBut _ _ D.i2z.symm (hs2.extBut _ _ D.i1z.symm hz1);have up:∀c o,q4.get? c=some o->(q4.push { cls:=.type "tuple", data:=.seq #[x,y] }).get? c=some o:=λ c o e=>lE _ e;have hk4:∀c o,c≠z->c≠TO->c≠i1->c≠i2->s.heap.get? c=some o->q4.get? c=some o:=λ c o c1 c2 c3 c4 e=>hs4.extBut _ _ c4 (hs2.extBut _ _ c3 (hs1.extBut _ _ c1 e));have hT8:IsPair (q4.push { cls:=.type "tuple", data:=.seq #[x,y] }) q4.objs.size x y:=lG _ rfl;have hTO4:IsPair q4 TO a b:=hs4.extBut _ _ D.TOi2 (hs2.extBut _ _ D.TOi1 (hs1.extBut _ _ D.TOz hTO));refine lB ⟨_,rfl,lB ?_⟩;show Q (some (.ref q4.objs.size)) { s with heap:=q4.push { cls:=.type "tuple", data:=.seq #[x,y] },toks:=t4 };rw[hsz] at hT8 ⊢;exact hQ _ _ x y p1 p2 ⟨_,_,up _ _ hz4,hf⟩ ⟨_,_,up _ _ hTO4⟩ (fr1 (sb1 j1 hs4 D.i12 D.l1i2) λ b Ω o e=>up b o e) (fr2 j2 λ b Ω o e=>up b o e) hT8 λ c o c1 c2 c3 c4 e=>up c o (hk4 c o c1 c2 c3 c4 e)
theorem zG8 {z TI TO i1 i2 l1 l2:Addr}{k n1 n2:Nat}{P1 P2:Nat->Value->Prop}{S1 S2:Nat->Heap->Prop}{a b:Value}{Q:Option Value->Shared->Prop}(hh:A.handled=none) (D:ZipApart z TI TO i1 i2 l1 l2) (W1:Drs prog w i1 l1 n1 P1 S1) (W2:Drs prog w i2 l2 n2 P2 S2)
    (hz:ZipS s.heap z TI TO) (hTI:IsPair s.heap TI (.ref i1) (.ref i2)) (hTO:IsPair s.heap TO a b) (h1:S1 k s.heap) (h2:S2 k s.heap) (hend:k=n1\/(k<n1/\k=n2))
    (hQ:∀h' tk,(∀c o,c≠z->c≠TO->c≠i1->c≠i2->s.heap.get? c=some o->h'.get? c=some o)->Q none { s with heap:=h',toks:=tk }):wpAny (model prog w) A (pyNext (.ref z)) Q E s:=by
  obtain⟨f0,f1,hz,hf⟩:=hz;have hT:s.TypeIs (.ref z) "zip" := ⟨_,hz,rfl⟩;have fr1:∀{i:Nat}{h h':Heap},S1 i h->(∀b∈[i1,l1],∀o,h.get? b=some o->h'.get? b=some o)->S1 i h':=λ st k=>(W1 A hh).frame _ _ _ st k;have fr2:∀{i:Nat}{h h':Heap},S2 i h->(∀b∈[i2,l2],∀o,h.get? b=some o->h'.get? b=some o)->S2 i h':=λ st k=>(W2 A hh).frame _ _ _ st k
  have sb1:∀{i:Nat}{h h':Heap}{c:Addr},S1 i h->Heap.SameBut c h h'->i1≠c->l1≠c->S1 i h':=λ st e n1 n2=>fr1 st λ b hb o q=>by
    rcases lN.mp hb with r|hb
    · exact e.extBut _ _ (r▸n1) q
    · exact e.extBut _ _ (List.mem_singleton.mp hb▸n2) q
  have sb2:∀{i:Nat}{h h':Heap}{c:Addr},S2 i h->Heap.SameBut c h h'->i2≠c->l2≠c->S2 i h':=λ st e n1 n2=>fr2 st λ b hb o q=>by
    rcases lN.mp hb with r|hb
    · exact e.extBut _ _ (r▸n1) q
    · exact e.extBut _ _ (List.mem_singleton.mp hb▸n2) q
  have fin:∀(h':Heap) (tk:Nat) (e:Addr),(∀c o,c≠z->c≠TO->c≠i1->c≠i2->s.heap.get? c=some o->h'.get? c=some o)->(∃o,h'.get? e=some o/\o.cls = .type "StopIteration") ->
      wpAny (model prog w) A (do if ← isInstance (.ref e) (.type "StopIteration") then pure none else throw (.ref e)) Q E { s with heap:=h',toks:=tk }:=λ h' tk e hk ⟨o,ho,hc⟩ =>
    lA (wpAny_isInstance (T := "StopIteration") (b:=true) ⟨o,ho,hc⟩ isSubtype_stop (lB (hQ _ _ hk)))
  unfold pyNext;refine lA (wpAny_attempt (wpAny_callSpecial?_slot (name:=Str.ofString "__next__") hT F.slot_zip_next (wpAny_call_entry F.slot_zip_next hT F.entry_zip_next ?_ (F.args_zip_next_1 _))));show wpAny _ _ (field (.ref z) 2 >>= _) _ _ _;refine lA (wpAny_field hz rfl (x:=.bool false) rfl ?_);show wpAny _ _ (field (.ref z) 3 >>= _) _ _ _;refine lA (wpAny_field hz rfl (x:=.ref TI) rfl ?_);refine lA (wpAny_seqItems hTI rfl ?_);show wpAny _ _ (Builtin.SmallTypes.ownedTupleIsFree (.ref z) >>= _) _ _ _;refine lA (zDu hz hf ?_ λ q1 hz1 hs1=>?_)
  · simp only[if_true];refine lA (wpAny_rule ?_);refine lA (wpAny_field hz rfl (x:=.ref TO) rfl ?_)
    refine lA (wpAny_setField_rec hz (by simp) λ q1 hz1 hs1=>?_);replace hz1:ZipF q1 z TI TO .ellipsis f1:=hz1;refine lA ?_;simp only[List.zipIdx_cons,List.zipIdx_nil,List.forIn_cons,List.forIn_nil];refine lA (lA (wpAny_onRaise ?_));show wpAny _ _ (Builtin.SmallTypes.nextOf (.ref i1) >>= _) _ _ _;rcases hend with he|⟨hk1,he⟩
    · subst he
      refine lA ((W1 A.in1 hh).done _ _ _ (sb1 h1 hs1 D.i1z D.l1z) λ q2 e hs2 hx=>?_);obtain⟨oe,hoe,hce⟩:=hx;have hz2:ZipF q2 z TI TO .ellipsis f1:=hs2 _ _ D.i1z.symm hz1;have hez:e≠z:=λ x=>by subst x;rw[hz2] at hoe;cases hoe;simp at hce
      exact wpAny_setField_rec hz2 (by simp) λ q3 Ω hs3=>fin q3 _ e (λ c o c1 Ω c3 Ω x=>hs3.extBut _ _ c1 (hs2 _ _ c3 (hs1.extBut _ _ c1 x))) ⟨oe,hs3.extBut _ _ hez hoe,hce⟩
    · subst he
      refine lA ((W1 A.in1 hh).item k _ _ _ hk1 (sb1 h1 hs1 D.i1z D.l1z) λ x q2 t2 p1 j1 hs2=>lB ?_);have hTO2:IsPair q2 TO a b:=hs2.extBut _ _ D.TOi1 (hs1.extBut _ _ D.TOz hTO);refine lA (wpAny_seqItems hTO2 rfl ?_);refine lA (wpAny_updateSeq_pair hTO2 λ q3 hTO3 hs3=>?_);refine lA (wpAny_letGo (lB ?_));refine lA (lA (wpAny_onRaise ?_));show wpAny _ _ (Builtin.SmallTypes.nextOf (.ref i2) >>= _) _ _ _;refine lA ((W2 A.in1 hh).done _ _ _ (sb2 (sb2 (sb2 h2 hs1 D.i2z D.l2z) hs2 D.i12.symm D.l2i1) hs3 D.TOi2.symm D.l2TO) λ q4 e hs4 hx=>?_);obtain⟨oe,hoe,hce⟩:=hx;have hz4:ZipF q4 z TI TO .ellipsis f1:=hs4 _ _ D.i2z.symm (hs3.extBut _ _ D.TOz.symm (hs2.extBut _ _ D.i1z.symm hz1));have hez:e≠z:=λ x=>by subst x;rw[hz4] at hoe;cases hoe;simp at hce
      exact wpAny_setField_rec hz4 (by simp) λ q5 Ω hs5=>fin q5 _ e (λ c o c1 c2 c3 c4 x=>hs5.extBut _ _ c1 (hs4 _ _ c4 (hs3.extBut _ _ c2 (hs2.extBut _ _ c3 (hs1.extBut _ _ c1 x))))) ⟨oe,hs5.extBut _ _ hez hoe,hce⟩
  · rw[if_neg Bool.false_ne_true]
    refine lA ?_;rw[←Array.forIn_toList];simp only[List.forIn_cons,List.forIn_nil];refine lA (lA (lD ?_));show wpAny _ _ (Builtin.SmallTypes.nextOf (.ref i1) >>= _) _ _ _;rcases hend with he|⟨hk1,he⟩
    · subst he
      refine lA ((W1 A.in1 hh).done _ _ _ (sb1 h1 hs1 D.i1z D.l1z) λ q2 e hs2 hx=>?_);exact fin q2 _ e (λ c o c1 Ω c3 Ω x=>hs2 _ _ c3 (hs1.extBut _ _ c1 x)) hx
    · subst he
      refine lA ((W1 A.in1 hh).item k _ _ _ hk1 (sb1 h1 hs1 D.i1z D.l1z) λ x q2 t2 p1 j1 hs2=>lB (lB ?_));refine lA (lA (lD ?_));show wpAny _ _ (Builtin.SmallTypes.nextOf (.ref i2) >>= _) _ _ _;refine lA ((W2 A.in1 hh).done _ _ _ (sb2 (sb2 h2 hs1 D.i2z D.l2z) hs2 D.i12.symm D.l2i1) λ q4 e hs4 hx=>?_);exact fin q4 _ e (λ c o c1 Ω c3 c4 x=>hs4 _ _ c4 (hs2.extBut _ _ c3 (hs1.extBut _ _ c1 x))) hx
end
noncomputable def zDm (P1 P2:Nat->Value->Prop) (b0:Nat) (h:Heap) (acc:Array Value):Prop:=∀(j:Nat) v,acc[j]?=some v->∃a x y,v = .ref a/\b0<=a/\IsPair h a x y/\P1 j x/\P2 j y
section
variable {prog:Program}{w:World}{A:Around}{E:Value->Shared->Prop}{s:Shared}{R:Result->Shared->Prop}
set_option tactic.hygienic true in
theorem zJw {z TI TO i1 i2 l1 l2 S:Addr}{n1 n2:Nat}{P1 P2:Nat->Value->Prop}{S1 S2:Nat->Heap->Prop}(hh:A.handled=none) (D:ZipApart z TI TO i1 i2 l1 l2) (W1:Drs prog w i1 l1 n1 P1 S1) (W2:Drs prog w i2 l2 n2 P2 S2)
  (hS:S≠z/\S≠TI/\S≠TO/\S≠i1/\S≠i2/\S≠l1/\S≠l2) (res:Value) (hn:n1<=1000) (b0:Nat) :
  ∀(k i:Nat) (s:Shared) (acc:Array Value) (c:Nat),min n1 n2 - i=k->i<=min n1 n2->ZipS s.heap z TI TO->IsPair s.heap TI (.ref i1) (.ref i2)->(∃p q,IsPair s.heap TO p q)->S1 i s.heap->S2 i s.heap->b0<=s.heap.objs.size->(∀x∈[z,TI,TO,i1,i2,l1,l2,S],x<b0) ->
   s.heap.get? S=some { cls:=.type "list", dict:=none,data:=.seq acc c,slots:=#[] }->acc.size=i->zDm P1 P2 b0 s.heap acc ->
   (∀h' tk acc' c',(∀b o,b≠z->b≠TO->b≠i1->b≠i2->b≠S->s.heap.get? b=some o->h'.get? b=some o)->h'.get? S=some { cls:=.type "list", dict:=none,data:=.seq acc' c',slots:=#[] }->acc'.size=min n1 n2->zDm P1 P2 b0 h' acc'->R (.ok (.ret res)) { s with heap:=h',toks:=tk }) ->
   codeAny (model prog w) A (.builtin "list.extend.loop" ⟨[.ref S,.ref z,res],[]⟩) R s:=by
 obtain⟨s1,s2,s3,s4,s5,s6,s7⟩:=hS;intro k
 induction k with
 |zero =>
  intro i s acc c hk hi hz hTI hTO h1 h2 hb hlt hS hacc hP hR;obtain⟨p,q,hTO⟩:=hTO;refine codeAny_builtin F.entry_extend_loop ?_;rw[Around.under_plainId F.plain_extend_loop _];show wpAny _ A.in1 (pyNext (.ref z) >>= _) _ _ s;refine lA (zG8 (k:=i) hh D W1 W2 hz hTI hTO h1 h2 (by omega) λ h' tk hkp=>?_);refine lB (hR h' tk acc c (λ b o n1 n2 n3 n4 Ω e=>hkp b o n1 n2 n3 n4 e) (hkp S _ s1 s3 s4 s5 hS) (by omega) λ j v e=>?_);obtain⟨a,x,y,ev,hba,hpr,r⟩:=hP j v e;have ne:∀c∈[z,TI,TO,i1,i2,l1,l2,S],a≠c:=λ c hc z=>absurd (hlt c hc) (by rw[←z];exact Nat.not_lt.mpr hba);exact⟨a,x,y,ev,hba,hkp a _ (ne z (by simp)) (ne TO (by simp)) (ne i1 (by simp)) (ne i2 (by simp)) hpr,r⟩
 |succ k ih =>
  intro i s acc c hk hi hz hTI hTO h1 h2 hb hlt hS hacc hP hR;obtain⟨p,q,hTO⟩:=hTO;refine codeAny_builtin F.entry_extend_loop ?_;rw[Around.under_plainId F.plain_extend_loop _];show wpAny _ A.in1 (pyNext (.ref z) >>= _) _ _ s;refine lA (zFa (k:=i) hh D W1 W2 hz hTI hTO h1 h2 (by omega) (by omega) λ h' tk x y p1 p2 hz' hTO' j1 j2 hpr hkp=>?_);have hS':=hkp S _ s1 s3 s4 s5 hS;show wpAny _ A.in1 (updateSeq S (·.push (.ref s.heap.objs.size)) >>= _) _ _ _;refine lA ?_;have fin:sizeLine=sizeLine:=rfl;have h1000:(1000:Nat)<=sizeLine:=by decide
  have oth:∀b o,b≠S->h'.get? b=some o->(h'.update S (Obj.mapSeq (·.push (.ref s.heap.objs.size)))).get? b=some o:=λ b o hb e=>(Heap.get?_update_other _ _ (Ne.symm hb)).trans e;have fr1:∀{i:Nat}{h h':Heap},S1 i h->(∀b∈[i1,l1],∀o,h.get? b=some o->h'.get? b=some o)->S1 i h':=λ st k=>(W1 A hh).frame _ _ _ st k;have fr2:∀{i:Nat}{h h':Heap},S2 i h->(∀b∈[i2,l2],∀o,h.get? b=some o->h'.get? b=some o)->S2 i h':=λ st k=>(W2 A hh).frame _ _ _ st k;obtain⟨f0,f1,hz',hf⟩:=hz';obtain⟨p',q',hTO'⟩:=hTO';have hTI':IsPair h' TI (.ref i1) (.ref i2):=hkp TI _ D.TIz D.TITO D.TIi1 D.TIi2 hTI;have hsz:s.heap.objs.size<h'.objs.size:=lH hpr;have nS:s.heap.objs.size≠S:=Nat.ne_of_gt (lH hS)
  refine wpAny_updateSeq hS' rfl (lB ⟨plainId_quiet F.plain_extend_loop _,ih (i+1) _ (acc.push (.ref s.heap.objs.size)) _ (by omega) (by omega) ⟨f0,f1,oth z _ s1.symm hz',hf⟩ (oth TI _ s2.symm hTI') ⟨p',q',oth TO _ s3.symm hTO'⟩
   (fr1 j1 λ b hb o e=>oth b o ?_ e) (fr2 j2 λ b hb o e=>oth b o ?_ e) (by show b0<=(h'.update S _).objs.size;rw[Heap.size_after_update];omega) hlt (mI _ hS' rfl) (by rw[Array.size_push,hacc]) ?_ λ h'' tk'' acc'' c'' hk'' hS'' hz'' hp''=>?_⟩)
   (by rw[hacc];omega) (by show (acc.push _).size<=sizeLine+1;rw[Array.size_push,hacc];omega)
  ·rcases lN.mp hb with r|hb
   ·exact r▸s4.symm
   ·exact List.mem_singleton.mp hb▸s6.symm
  ·rcases lN.mp hb with r|hb
   ·exact r▸s5.symm
   ·exact List.mem_singleton.mp hb▸s7.symm
  ·intro j v e
   rw[Array.getElem?_push] at e;split at e
   ·rename_i ej
    cases e;refine⟨_,x,y,rfl,hb,oth _ _ nS hpr,?_,?_⟩
    ·rw[ej,hacc];exact p1
    ·rw[ej,hacc];exact p2
   ·obtain⟨a,x',y',ev,hba,hpr',r⟩:=hP j v e
    have ne:∀c∈[z,TI,TO,i1,i2,l1,l2,S],a≠c:=λ c hc z=>absurd (hlt c hc) (by rw[←z];exact Nat.not_lt.mpr hba);exact⟨a,x',y',ev,hba,oth _ _ (ne S (by simp)) (hkp a _ (ne z (by simp)) (ne TO (by simp)) (ne i1 (by simp)) (ne i2 (by simp)) hpr'),r⟩
  ·exact hR h'' tk'' acc'' c'' (λ b o n1 n2 n3 n4 n5 e=>hk'' b o n1 n2 n3 n4 n5 (oth b o n5 (hkp b o n1 n2 n3 n4 e))) hS'' hz'' hp''
end
theorem zHx:typeLookup (.type "zip") (Str.ofString "__len__")=pure none:=by rw[typeLookup_type,builtinLookup_eq_fast];kernel_rfl
theorem zGX:typeLookup (.type "zip") (Str.ofString "__length_hint__")=pure none:=by rw[typeLookup_type,builtinLookup_eq_fast];kernel_rfl
section
variable {prog:Program}{w:World}{A:Around}{E:Value->Shared->Prop}{s:Shared}
theorem zG6 {z TI TO:Addr}{Q:Value->Shared->Prop}(hz:ZipS s.heap z TI TO) (h:Q (.ref z) s):wpAny (model prog w) A (pyIter (.ref z)) Q E s:=by
 obtain⟨f0,f1,hz,_⟩:=hz;have hT:s.TypeIs (.ref z) "zip" := ⟨_,hz,rfl⟩;refine wpAny_pyIter_slot hT F.slot_zip_iter (wpAny_call_entry F.slot_zip_iter hT F.entry_zip_iter ?_ (F.args_zip_iter_1 _));show wpAny _ _ (ret (.ref z)) _ _ s;exact lB ⟨_,rfl, "zip", _,hT,F.slot_zip_next.lookup,h⟩
theorem zJx {z:Addr}{Q:Bool->Shared->Prop}(hT:s.TypeIs (.ref z) "zip") (h:Q true s):wpAny (model prog w) A (Builtin.List.listLengthHint (.ref z)) Q E s:=by
 unfold Builtin.List.listLengthHint;refine lA (wpAny_specialOf hT zHx ?_);show wpAny _ _ (specialOf (Value.ref z) (Str.ofString "__length_hint__") >>= _) _ _ _;refine lA (wpAny_specialOf hT zGX ?_);exact lB h
theorem zHy {z TI TO i1 i2 l1 l2 S:Addr}{n1 n2:Nat}{P1 P2:Nat->Value->Prop}{S1 S2:Nat->Heap->Prop}{R:Result->Shared->Prop}(hh:A.handled=none) (D:ZipApart z TI TO i1 i2 l1 l2) (W1:Drs prog w i1 l1 n1 P1 S1) (W2:Drs prog w i2 l2 n2 P2 S2)
  (hS:S≠z/\S≠TI/\S≠TO/\S≠i1/\S≠i2/\S≠l1/\S≠l2) (res:Value) (hn:n1<=1000) (c0:Nat) (hz:ZipS s.heap z TI TO) (hTI:IsPair s.heap TI (.ref i1) (.ref i2)) (hTO:∃p q,IsPair s.heap TO p q) (h1:S1 0 s.heap) (h2:S2 0 s.heap)
  (hlt:∀x∈[z,TI,TO,i1,i2,l1,l2,S],x<s.heap.objs.size) (hL:s.heap.get? S=some { cls:=.type "list", data:=.seq #[] c0 })
  (hR:∀h' tk acc' c',(∀b o,b≠z->b≠TO->b≠i1->b≠i2->b≠S->s.heap.get? b=some o->h'.get? b=some o)->h'.get? S=some { cls:=.type "list", dict:=none,data:=.seq acc' c',slots:=#[] }->acc'.size=min n1 n2->zDm P1 P2 s.heap.objs.size h' acc'->R (.ok (.ret res)) { s with heap:=h',toks:=tk }) :
  wpAny (model prog w) A.in1 (Builtin.List.listExtendWith (.ref S) (.ref z) res)
   (λ fin s'=>match fin with|.done f=>R (.ok f) s'|.again c'=>c'.quiet=true/\codeAny (model prog w) A c' R s') (λ e s'=>R (.error e) s') s:=by
 obtain⟨f0,f1,hz0,hf⟩:=hz;have hT:s.TypeIs (.ref z) "zip" := ⟨_,hz0,rfl⟩;obtain⟨s1,s2,s3,s4,s5,s6,s7⟩:=id hS;unfold Builtin.List.listExtendWith;refine lA (wpAny_typeOf (T := "zip") hT ?_);have e1:Builtin.List.listSameRef (.ref S) (.ref z)=false:=by simp[Builtin.List.listSameRef,s1]
 have e2:(Value.type "zip" == Value.type "list")=false:=by decide
 have e3:(Value.type "zip" == Value.type "tuple")=false:=by decide
 simp only[e1,e2,e3,Bool.or_false,Bool.false_eq_true,if_false];refine lA (zG6 ⟨f0,f1,hz0,hf⟩ ?_);refine lA (lD (zJx hT ?_));have fr1:∀{i:Nat}{h h':Heap},S1 i h->(∀b∈[i1,l1],∀o,h.get? b=some o->h'.get? b=some o)->S1 i h':=λ st k=>(W1 A hh).frame _ _ _ st k;have fr2:∀{i:Nat}{h h':Heap},S2 i h->(∀b∈[i2,l2],∀o,h.get? b=some o->h'.get? b=some o)->S2 i h':=λ st k=>(W2 A hh).frame _ _ _ st k
 have key:∀(h:Heap) (c1 tk:Nat),h.objs.size=s.heap.objs.size->(∀b o,b≠S->s.heap.get? b=some o->h.get? b=some o)->h.get? S=some { cls:=.type "list", data:=.seq #[] c1 } ->
   codeAny (model prog w) A (.builtin "list.extend.loop" ⟨[.ref S,.ref z,res],[]⟩) R { s with heap:=h,toks:=tk }:=by
  intro h c1 tk hsz hk hS1;obtain⟨p,q,hTO⟩:=hTO;refine zJw hh D W1 W2 hS res hn s.heap.objs.size (min n1 n2) 0 _ #[] c1 (by omega) (by omega) ⟨f0,f1,hk z _ s1.symm hz0,hf⟩ (hk TI _ s2.symm hTI) ⟨p,q,hk TO _ s3.symm hTO⟩ (fr1 h1 λ b hb o e=>hk b o ?_ e) (fr2 h2 λ b hb o e=>hk b o ?_ e) (by show _<=h.objs.size;omega) hlt hS1 rfl (λ j v e=>by simp at e) λ h' tk' acc' c' k' a b d=>?_
  ·rcases lN.mp hb with r|hb
   ·exact r▸s4.symm
   ·exact List.mem_singleton.mp hb▸s6.symm
  ·rcases lN.mp hb with r|hb
   ·exact r▸s5.symm
   ·exact List.mem_singleton.mp hb▸s7.symm
  ·exact hR h' tk' acc' c' (λ b o n1 n2 n3 n4 n5 e=>k' b o n1 n2 n3 n4 n5 (hk b o n5 e)) a b d
 refine wpAny_ite_split (λ Ω=>?_) (λ Ω=>lB ⟨plainId_quiet PySem.F.plain_extend_loop _,key _ c0 _ rfl (λ b o Ω e=>e) hL⟩);refine lA (wpAny_rule ?_);refine lA ?_;show wpAny _ _ (updateSeq S (·.push .none) >>= λ Ω=>updateSeq S (·.pop)) _ _ _;refine lA (wpAny_updateSeq hL rfl ?_);have hL2:=mI (Obj.mapSeq (·.push Value.none)) hL rfl;refine wpAny_updateSeq (hz:=by seq_fits) hL2 rfl ?_;have hL3:=mI (Obj.mapSeq (·.pop)) hL2 rfl;refine lB ⟨plainId_quiet PySem.F.plain_extend_loop _,key _ _ _ (by rw[Heap.size_after_update,Heap.size_after_update]) (λ b o hb e=>?_) hL3⟩;exact(Heap.get?_update_other _ _ (Ne.symm hb)).trans ((Heap.get?_update_other _ _ (Ne.symm hb)).trans e)
theorem zGN {z TI TO i1 i2 l1 l2:Addr}{n1 n2:Nat}{P1 P2:Nat->Value->Prop}{S1 S2:Nat->Heap->Prop}{Q:Value->Shared->Prop}(hh:A.handled=none) (D:ZipApart z TI TO i1 i2 l1 l2) (W1:Drs prog w i1 l1 n1 P1 S1) (W2:Drs prog w i2 l2 n2 P2 S2) (hn:n1<=1000)
    (hz:ZipS s.heap z TI TO) (hTI:IsPair s.heap TI (.ref i1) (.ref i2)) (hTO:∃p q,IsPair s.heap TO p q) (h1:S1 0 s.heap) (h2:S2 0 s.heap) (hlt:∀x∈[z,TI,TO,i1,i2,l1,l2],x<s.heap.objs.size)
    (hQ:∀h' tk acc' c',(∀b o,b≠z->b≠TO->b≠i1->b≠i2->s.heap.get? b=some o->h'.get? b=some o)->h'.get? s.heap.objs.size=some { cls:=.type "list", dict:=none,data:=.seq acc' c',slots:=#[] }->acc'.size=min n1 n2->zDm P1 P2 (s.heap.objs.size+1) h' acc'->Q (.ref s.heap.objs.size) { s with heap:=h',toks:=tk }) :
    wpAny (model prog w) A (call (.type "list") [.ref z]) Q E s:=by
  refine callType_codes (Q₁:=λ obj s₁=>obj = .ref s.heap.objs.size/\s₁={ s with heap:=s.heap.push { cls:=.type "list", data:=.seq #[] } }) PySem.F.called_list (PySem.F.typeCall_list_1 _) PySem.F.entry_list_init
    (code_list_new _ ⟨rfl,rfl⟩) λ obj s₁ h₁=>?_
  obtain⟨rfl,rfl⟩:=h₁;have hS:(s.heap.push { cls:=.type "list", data:=.seq #[] }).get? s.heap.objs.size=some { cls:=.type "list", data:=.seq #[] }:=lG _ rfl;have ne:∀x∈[z,TI,TO,i1,i2,l1,l2],s.heap.objs.size≠x:=λ x hx=>Nat.ne_of_gt (hlt x hx);refine⟨⟨_,hS,rfl⟩,PySem.F.args_list_init_2 _ _,?_⟩;show wpAny _ _ (do let old ← Builtin.List.listItems (.ref s.heap.objs.size);Builtin.List.listUpdate (.ref s.heap.objs.size) (λ Ω=>#[]);letGo old.toList.reverse;Builtin.List.listExtendWith (.ref s.heap.objs.size) (.ref z) .none) _ _ _;refine lA ?_;unfold Builtin.List.listItems;refine lA (wpAny_seqItems hS rfl (lB ?_));show wpAny _ _ (updateSeq s.heap.objs.size (λ Ω=>#[]) >>= λ Ω=>letGo (#[]:Array Value).toList.reverse >>= λ Ω=>Builtin.List.listExtendWith (.ref s.heap.objs.size) (.ref z) .none) _ _ _;refine lA (wpAny_updateSeq hS rfl ?_);have hS₂:=mI (Obj.mapSeq (λ Ω=>(#[]:Array Value))) hS rfl
  have oth:∀b o,b≠s.heap.objs.size->s.heap.get? b=some o->((s.heap.push { cls:=.type "list", data:=.seq #[] }).update s.heap.objs.size (Obj.mapSeq (λ Ω=>(#[]:Array Value)))).get? b=some o :=
    λ b o hb e=>(Heap.get?_update_other _ _ (Ne.symm hb)).trans (lE _ e)
  have up:∀b o,s.heap.get? b=some o->((s.heap.push { cls:=.type "list", data:=.seq #[] }).update s.heap.objs.size (Obj.mapSeq (λ Ω=>(#[]:Array Value)))).get? b=some o:=λ b o e=>oth b o (lR (lH e)) e;refine lA (wpAny_letGo ?_);obtain⟨f0,f1,hz0,hf⟩:=hz;obtain⟨p,q,hTO⟩:=hTO;have fr1:∀{i:Nat}{h h':Heap},S1 i h->(∀b∈[i1,l1],∀o,h.get? b=some o->h'.get? b=some o)->S1 i h':=λ st k=>(W1 A hh).frame _ _ _ st k;have fr2:∀{i:Nat}{h h':Heap},S2 i h->(∀b∈[i2,l2],∀o,h.get? b=some o->h'.get? b=some o)->S2 i h':=λ st k=>(W2 A hh).frame _ _ _ st k;have hsz:((s.heap.push { cls:=.type "list", data:=.seq #[] }).update s.heap.objs.size (Obj.mapSeq (λ Ω=>(#[]:Array Value)))).objs.size=s.heap.objs.size+1:=by rw[Heap.size_after_update,Heap.size_push]
  refine zHy (A:=A.in1) hh D W1 W2 ⟨ne z (by simp),ne TI (by simp),ne TO (by simp),ne i1 (by simp),ne i2 (by simp),ne l1 (by simp),ne l2 (by simp)⟩ .none hn _ ⟨f0,f1,up _ _ hz0,hf⟩ (up _ _ hTI) ⟨p,q,up _ _ hTO⟩ (fr1 h1 λ b Ω o e=>up b o e) (fr2 h2 λ b Ω o e=>up b o e) (λ x hx=>?_) hS₂ λ h' tk acc' c' hk hS' ha hp=>?_
  · show x<_
    rw[hsz]
    by_cases hx':x∈[z,TI,TO,i1,i2,l1,l2]
    · exact Nat.lt_succ_of_lt (hlt x hx')
    · have:x=s.heap.objs.size:=by
        simp only[List.mem_cons,List.not_mem_nil,or_false] at hx hx';simp only[not_or] at hx';obtain⟨a1,a2,a3,a4,a5,a6,a7⟩:=hx';rcases hx with r|r|r|r|r|r|r|r
        · exact absurd r a1
        · exact absurd r a2
        · exact absurd r a3
        · exact absurd r a4
        · exact absurd r a5
        · exact absurd r a6
        · exact absurd r a7
        · exact r
      rw[this];exact Nat.lt_succ_self _
  · refine⟨rfl,hQ h' tk acc' c' (λ b o n1 n2 n3 n4 e=>hk b o n1 n2 n3 n4 (lR (lH e)) (up b o e)) hS' ha ?_⟩
    have hp':zDm P1 P2 ((s.heap.push { cls:=.type "list", data:=.seq #[] }).update s.heap.objs.size (Obj.mapSeq (λ Ω=>(#[]:Array Value)))).objs.size h' acc':=hp;rw[hsz] at hp';exact hp'
end
theorem zGy (l1 l2:Addr) (xs ys:Array Value) :
    Meets (Builtin.«zip.__new__» ⟨[.type "zip", .ref l1,.ref l2],[]⟩) (λ Ω R s=>s.heap.IsList l1 xs/\s.heap.IsTuple l2 ys /\
      ∀(h':Heap) (z TI TO i1 i2:Addr),(∀c o,s.heap.get? c=some o->h'.get? c=some o)->s.heap.objs.size<=z->s.heap.objs.size<=TI->s.heap.objs.size<=TO->s.heap.objs.size<=i1->s.heap.objs.size<=i2 ->
        (TI≠z/\TO≠z/\i1≠z/\i2≠z/\TI≠TO/\TI≠i1/\TI≠i2/\TO≠i1/\TO≠i2/\i1≠i2)->IsZip h' z TI TO .none->IsPair h' TI (.ref i1) (.ref i2)->IsPair h' TO .none .none->h'.IsListIter i1 l1 0->h'.IsTupleIter i2 l2 0 ->
        R (.ok (.ret (.ref z))) { s with heap:=h' }) :=
  .of_wp λ prog w A R s h=>by
    obtain⟨hp,g,d,tk,os⟩:=s;obtain⟨hl1,hl2,h⟩:=h;have hsub:=sub_zip;have hL1:Heap.IsList (Shared.heap ⟨hp,g,d,tk,os⟩) l1 xs:=hl1;have hL2:Heap.IsTuple (Shared.heap ⟨hp.push { cls:=.type "list_iterator", data:=.fields #[.ref l1,.int 0 0] },g,d,tk,os⟩) l2 ys:=let ⟨o,ho,r⟩:=hl2;⟨o,lE _ ho,r⟩
    wp_walk using wpAny_pyIter_list hL1,wpAny_pyIter_tuple hL2
    refine⟨_,rfl,h _ _ _ _ _ _ (λ c o e=>lE _ (lE _ (lE _ (lE _ (lE _ e))))) ?_ ?_ ?_ ?_ ?_ ?_ (lG _ rfl) (lE _ (lE _ (lG _ rfl))) (lE _ (lG _ rfl))
      ⟨_,lE _ (lE _ (lE _ (lE _ (lG _ rfl)))),rfl,rfl⟩ ⟨_,lE _ (lE _ (lE _ (lG _ rfl))),rfl,rfl⟩⟩
    all_goals simp only[Heap.size_push]
    all_goals first
      |omega
      | (refine⟨?_,?_,?_,?_,?_,?_,?_,?_,?_,?_⟩<;>(intro e;have e' : @Eq Nat _ _:=e;omega))
section
variable {prog:Program}{w:World}{A:Around}{E:Value->Shared->Prop}{s:Shared}
theorem zIT {l1 l2:Addr}{xs ys:Array Value}{Q:Value->Shared->Prop}(hl1:s.heap.IsList l1 xs) (hl2:s.heap.IsTuple l2 ys)
  (h:∀(h':Heap) (z TI TO i1 i2:Addr),(∀c o,s.heap.get? c=some o->h'.get? c=some o)->s.heap.objs.size<=z->s.heap.objs.size<=TI->s.heap.objs.size<=TO->s.heap.objs.size<=i1->s.heap.objs.size<=i2 ->
    (TI≠z/\TO≠z/\i1≠z/\i2≠z/\TI≠TO/\TI≠i1/\TI≠i2/\TO≠i1/\TO≠i2/\i1≠i2)->IsZip h' z TI TO .none->IsPair h' TI (.ref i1) (.ref i2)->IsPair h' TO .none .none->h'.IsListIter i1 l1 0->h'.IsTupleIter i2 l2 0->Q (.ref z) { s with heap:=h' }) :
  wpAny (model prog w) A (call (.type "zip") [.ref l1,.ref l2]) Q E s:=by
 refine callType_new F.called_zip (by decide) (F.typeCall_zip_2 _ _) (F.newCall_zip_2 _ _) (λ obj=>F.args_object_init_3 obj _ _) F.entry_zip_new (zGy l1 l2 xs ys) ⟨hl1,hl2,λ h' z TI TO i1 i2 a0 a1 a2 a3 a4 a5 a6 a7 a8 a9 b1 b2=>?_⟩;exact⟨⟨_,a7,rfl⟩,h h' z TI TO i1 i2 a0 a1 a2 a3 a4 a5 a6 a7 a8 a9 b1 b2⟩
end
noncomputable def ov (H N:Hp):Hp:=λ a=>(N a).or (H a)
theorem zI4 {H N:Hp}{a:Addr}{o:HO}(h:N a=some o):ov H N a=some o:=by unfold ov;rw[h];rfl
theorem zHZ {H N:Hp}{a:Addr}(h:N a=none):ov H N a=H a:=by unfold ov;rw[h];rfl
theorem Inv.more {X:Cx}{jP:List (Addr × Obj)}{σ:St}{H N:Hp}{s:Shared}{h':Heap}{t':Nat}(I:Inv X jP σ H s) (k:∀b u,s.heap.get? b=some u->h'.get? b=some u) (hN:∀a o,N a=some o->s.heap.objs.size<=a)
  (new:∀a o,N a=some o->ObjOk X.prog X.w (ov H N) h' a o):Inv X jP σ (ov H N) { s with heap:=h',toks:=t' }:=by
 have old:∀b,b<s.heap.objs.size->N b=none:=λ b hb=>by
  cases e:N b with
  |none=>rfl
  |some o=>exact absurd (hN b o e) (Nat.not_le.mpr hb)
 have tr:∀b u,H b=some u->ov H N b=some u:=λ b u e=>by rw[zHZ (old b (I.hok.lt e))];exact e
 refine I.un ⟨λ b o q Ω Ω Ω=>k b o q,λ b o q Ω Ω Ω=>⟨o.slots,k b o q⟩,λ b o q n Ω=>by rw[zHZ (old b (Heap.lt_size q))];exact n,λ b o q Ω=>⟨o,k b o q⟩,λ b xs q=>tr b _ q,λ b o u q=>tr b _ q,λ b ps q=>⟨#[],by rw[tr b _ q];simp⟩⟩ λ b u e=>?_;cases en:N b with
 |some o =>
  rw[zI4 en] at e;cases e;exact new b _ en
 |none =>
  rw[zHZ en] at e;exact(I.hok b u e).stay (λ c v Ω q=>k c v q) (λ c q=>tr c _ q) λ c xs q=>tr c _ q
theorem zFc:∀ps:List Addr,Vals (ps.map V.ref) (ps.map Value.ref)
 |[]=>.nil
 |_::ps=>.cons rfl (zFc ps)
noncomputable def zJ4 (ta:TA):TE:=λ σ H Q=>ta σ H λ vs H1=>∃(a b:Addr) (xs ys:List V),vs=[.ref a,.ref b]/\H1 a=some (.lst xs)/\H1 b=some (.tup ys)/\xs.length<=1000 /\
 ∀(l:Addr) (ps:List Addr) (H':Hp),Same H1 H'->H1 l=none->ps.length=min xs.length ys.length->H' l=some (.lst (ps.map V.ref))->(∀(j:Nat) p,ps[j]?=some p->p≠l/\H1 p=none/\∃x y,xs[j]?=some x/\ys[j]?=some y/\H' p=some (.tup [x,y]))->Q (.ref l) H'
theorem zH7 {X:Cx}{a b:Expr}{ta:TA}{p p2 pos pos2:Pos}(hc:X.calm=true) (hg:Gl X "list") (hm:X.mg "list" = none) (hg2:Gl X "zip") (hm2:X.mg "zip" = none) (ha:PA X [a,b] ta) (hs:starEach [a,b] X.env=[(false,eval a X.env),(false,eval b X.env)]:=by rfl) (hs2:starEach [b] X.env=[(false,eval b X.env)]:=by rfl)
  (hs3:starEach [Expr.Call (.Name "zip" p2) [a,b] [] pos2] X.env=[(false,eval (Expr.Call (.Name "zip" p2) [a,b] [] pos2) X.env)]:=by rfl) :
  PE X (.Call (.Name "list" p) [.Call (.Name "zip" p2) [a,b] [] pos2] [] pos) (zJ4 ta):=by
 intro jP s σ H Q I h;refine Call_ (zBv I hg hm PyProof.Rows.boot_list (PyProof.Rows.callWith_type1 ?_ hs3 rfl));rw[hs3];show wpAny _ _ (spliced [(false,eval (Expr.Call (.Name "zip" p2) [a,b] [] pos2) X.env)]) _ _ s;refine Calls.spliced_cons ?_;refine Call_ (zBv I hg2 hm2 zDK (PyProof.Rows.callWith_type1 (thn (ha pos2 jP s σ H _ I h) λ us s1 ⟨vs,H1,I1,r1,q1⟩=>?_) (by rw[hs,hs2]) (by rw[hs2];rfl)));obtain⟨la,lb,xs,ys,e,h1,h2,hx,q⟩:=q1;subst e;obtain⟨u1,u2,rfl,ru1,ru2⟩:=vals2 r1;cases ru1;cases ru2;obtain⟨its,rv,t1,_⟩:=I1.list (SqL.of h1);obtain⟨its2,rv2,t2,_⟩:=I1.tuple (SqT.of h2);have e1:=rv.length;have e2:=rv2.length;refine zIT t1.isList (show s1.heap.IsTuple lb its2.toArray from t2) λ h' z TI TO i1 i2 a0 a1 a2 a3 a4 a5 a6 a7 a8 a9 b1 b2=>?_;refine Calls.spliced_nil ?_
 have zlt:∀x∈[z,TI,TO,i1,i2,la,lb],x<h'.objs.size:=λ x hx=>by
  simp only[List.mem_cons,List.not_mem_nil,or_false] at hx;rcases hx with rfl|rfl|rfl|rfl|rfl|rfl|rfl
  ·exact lH a7
  ·exact lH a8
  ·exact lH a9
  ·obtain⟨_,e,_⟩:=b1;exact lH e
  ·obtain⟨_,e,_⟩:=b2;exact lH e
  ·obtain⟨o,_,e,_⟩:=t1;exact lH (a0 _ _ e)
  ·obtain⟨o,e,_⟩:=t2;exact lH (a0 _ _ e)
 have lla:la<s1.heap.objs.size:=let ⟨o,_,e,_⟩:=t1;lH e;have llb:lb<s1.heap.objs.size:=let ⟨o,e,_⟩:=t2;lH e;obtain⟨n1,n2,n3,n4,n5,n6,n7,n8,n9,n10⟩:=a6
 have D:ZipApart z TI TO i1 i2 la lb:=⟨n1,n2,n3,n4,n5,n6,n7,n8,n9,n10,lR (lZ lla a1),lR (lZ lla a3),lR (lZ lla a4),lR (lZ lla a5),
  lR (lZ llb a1),lR (lZ llb a3),lR (lZ llb a4),lR (lZ llb a5)⟩
 have L1:h'.IsList la its.toArray:=let ⟨o,n,e,r⟩:=t1;PlainL.isList ⟨o,n,a0 _ _ e,r⟩;have L2:h'.IsTuple lb its2.toArray:=let ⟨o,e,r⟩:=t2;⟨o,a0 _ _ e,r⟩;refine zGN (s:={ s1 with heap:=h' }) (I1.ok.hd hc) D (zHo i1 la D.l1i1 its.toArray) (zJh i2 lb D.l2i2 its2.toArray) (by simp;omega) ⟨_,_,a7,.inl rfl⟩ a8 ⟨_,_,a9⟩ ⟨b1,L1⟩ ⟨b2,L2⟩ zlt λ h2 tk acc c' k2 hS hsz hp=>?_;have k1:∀b o,s1.heap.get? b=some o->h2.get? b=some o:=λ b o e=>k2 b o (lR (lZ (lH e) a1)) (lR (lZ (lH e) a3)) (lR (lZ (lH e) a4)) (lR (lZ (lH e) a5)) (a0 b o e);have hge:s1.heap.objs.size<=h'.objs.size:=mG a1 (Nat.le_of_lt (lH a7));generalize hSS:h'.objs.size=S at hS hp hge zlt ⊢
 have hS2:h2.get? S=some { cls:=.type "list", dict:=none,data:=.seq acc c',slots:=#[] }:=by
  have:=hS;exact this
 have hp2:zDm (λ i v=>its.toArray[i]?=some v) (λ i v=>its2.toArray[i]?=some v) (S+1) h2 acc:=by
  have:=hp;simpa[hSS] using this
 obtain⟨ps,hps⟩:∃ps:List Addr,acc.toList=ps.map Value.ref:=by
  have:∀l:List Value,(∀v∈l,∃a,v=Value.ref a)->∃ps:List Addr,l=ps.map Value.ref:=by
   intro l
   induction l with
   |nil=>intro _;exact⟨[],rfl⟩
   |cons v l ih =>
    intro hv;obtain⟨a,rfl⟩:=hv v (by simp);obtain⟨ps,rfl⟩:=ih λ u hu=>hv u (by simp[hu]);exact⟨a::ps,rfl⟩
  refine this _ λ v hv=>?_;obtain⟨j,hj,e⟩:=List.mem_iff_getElem.mp hv;obtain⟨a,_,_,ev,_⟩:=hp2 j v (by rw[←Array.getElem?_toList,List.getElem?_eq_getElem hj,e]);exact⟨a,ev⟩
 have at_:∀(j:Nat) p,ps[j]?=some p->∃x y u v,h2.get? p=some { cls:=.type "tuple", data:=.seq #[u,v] }/\xs[j]?=some x/\ys[j]?=some y/\RelV x u/\RelV y v/\S+1<=p:=λ j p e=>by
  obtain⟨a,u,v,ev,hb,hpr,p1,p2⟩:=hp2 j (.ref p) (by rw[←Array.getElem?_toList,hps,List.getElem?_map,e];rfl);cases ev;have g1:its[j]?=some u:=by simpa using p1
  have g2:its2[j]?=some v:=by simpa using p2
  have l1:j<xs.length:=by rw[e1];exact(lJ.mp g1).1
  have l2:j<ys.length:=by rw[e2];exact(lJ.mp g2).1
  obtain⟨u',hu',ru'⟩:=rv.get (lW l1);obtain⟨v',hv',rv'⟩:=rv2.get (lW l2);rw[g1] at hu';cases hu';rw[g2] at hv';cases hv';exact⟨_,_,u,v,hpr,lW l1,lW l2,ru',rv',hb⟩
 have hln:ps.length=min xs.length ys.length:=by
  have h0:=congrArg List.length hps;rw[Array.length_toList,List.length_map] at h0;have:acc.size=min its.toArray.size its2.toArray.size:=hsz;simp at this;omega
 let N:Hp:=λ c=>if c=S then some (.lst (ps.map V.ref)) else if c∈ps then (h2.get? c).bind (λ o=>match o.data with|.seq a _=>some (.tup (a.toList.map λ u=>(absV u).getD .non))|_=>none) else none
 have nS:N S=some (.lst (ps.map V.ref)):=if_pos rfl
 have nP:∀(j:Nat) p,ps[j]?=some p->∃x y,p≠S/\xs[j]?=some x/\ys[j]?=some y/\N p=some (.tup [x,y]):=λ j p e=>by
  obtain⟨x,y,u,v,hg,hx1,hy1,rx,ry,hb⟩:=at_ j p e;have ne:p≠S:=λ z=>by rw[z] at hb;exact absurd hb (Nat.not_succ_le_self _)
  refine⟨x,y,ne,hx1,hy1,?_⟩;show (if p=S then _ else _)=_;rw[if_neg ne,if_pos (List.mem_of_getElem? e),hg];show some (HO.tup [(absV u).getD .non,(absV v).getD .non])=_;rw[rx.abs,ry.abs];rfl
 have nA:∀c o,N c=some o->c=S\/∃j,ps[j]?=some c:=λ c o e=>by
  by_cases hcS:c=S
  ·exact .inl hcS
  ·right
   have e':(if c=S then _ else if c∈ps then _ else none)=some o:=e;rw[if_neg hcS] at e'
   by_cases hcp:c∈ps
   ·obtain⟨j,hj,ej⟩:=List.mem_iff_getElem.mp hcp
    exact⟨j,by rw[List.getElem?_eq_getElem hj,ej]⟩
   ·rw[if_neg hcp] at e';cases e'
 have hN:∀c o,N c=some o->s1.heap.objs.size<=c:=λ c o e=>by
  rcases nA c o e with rfl|⟨j,ej⟩
  ·exact hge
  ·obtain⟨_,_,_,_,_,_,_,_,_,hb⟩:=at_ j c ej
   omega
 have I2:=I1.more (N:=N) (h':=h2) (t':=tk) k1 hN λ c o e=>by
  rcases nA c o e with rfl|⟨j,ej⟩
  ·rw[nS] at e;cases e
   refine⟨by rw[List.length_map,hln];exact zA3 (by omega),ps.map Value.ref,c',?_,?_⟩
   ·exact zFc ps
   ·rw[hS2,←hps]
  ·obtain⟨x,y,ne,hx1,hy1,en⟩:=nP j c ej
   rw[en] at e;cases e;obtain⟨x',y',u,v,hg,hx2,hy2,rx,ry,hb⟩:=at_ j c ej;rw[hx1] at hx2;cases hx2;rw[hy1] at hy2;cases hy2;exact⟨by show 2<=sizeLine;decide,[u,v],.cons rx (.cons ry .nil),_,hg,rfl,_,rfl⟩
 refine⟨.ref S,ov H1 N,I2,rfl,q S ps (ov H1 N) (λ b u e=>?_) (I1.hok.fresh hge) hln (zI4 nS) λ j p ej=>?_⟩
 ·rw[zHZ]
  ·exact e
  ·cases en:N b with
   |none=>rfl
   |some o=>exact absurd (hN b o en) (Nat.not_le.mpr (I1.hok.lt e))
 ·obtain⟨x,y,ne,hx1,hy1,en⟩:=nP j p ej
  exact⟨ne,I1.hok.fresh (hN p _ en),x,y,hx1,hy1,zI4 en⟩
structure FnF (P:Program) (w:World) (K:W.Frag) (mg:Str->Option Value) (base:Heap) (k:Nat) (x:Str) (f:Addr) (fd:FuncData) (ps:List Str) (sp:Sp):Prop where
 ok:FnOk P w K mg base (CXF P w) k f fd ps sp
 bd:Binds K fd ps []
 kp:W.keepIn K (.ref f)=true
 gl:mg x=some (.ref f)
theorem FnF.up {P:Program}{w:World}{K:W.Frag}{mg:Str->Option Value}{base:Heap}{j k:Nat}{x:Str}{f:Addr}{fd:FuncData}{ps:List Str}{sp:Sp}(F:FnF P w K mg base j x f fd ps sp) (h:j<=k):FnF P w K mg base k x f fd ps sp :=
 ⟨F.ok.mono h,F.bd,F.kp,F.gl⟩
theorem zF5 {P:Program}{w:World}{K:W.Frag}{mg:Str->Option Value}{base:Heap}{N:List Str}{qual:Str}{scope:Scope}{f:Addr}{cd:Value}{A:Around}{outer:List Env}{s:Shared}{H:Hp}{E:XK}{CX:CXT} :
  PassesOwn (model (cxOf CX P w K mg base N qual scope f cd A outer s H E).prog (cxOf CX P w K mg base N qual scope f cd A outer s H E).w) (cxOf CX P w K mg base N qual scope f cd A outer s H E).A (cxOf CX P w K mg base N qual scope f cd A outer s H E).env (cxOf CX P w K mg base N qual scope f cd A outer s H E).xe:=PassesOwn.leaving
theorem Inv.thaw {X:Cx}{jP:List (Addr × Obj)}{σ:L2.St}{H:Hp}{s:Shared}{a:Addr}{o:Obj}{kvs:List (Key × V)}(I:Inv X jP σ H s) (ha:H a=some (.frz o (.dK kvs))) (h0:∀o u,X.H₀ a≠some (.frz o u)):Inv X jP σ (upd H a (.dK kvs)) s:=by
 refine⟨I.ok,I.os,I.bare,⟨I.base.keep,I.base.slot,λ b ob e n hx=>?_,I.base.there,λ b xs e=>?_,λ b ob u e=>?_,λ b ps e=>?_⟩,I.loc,I.cell,?_,λ x c e=>?_,λ p hp=>?_,λ b u e=>?_,I.len⟩
 ·have:=I.base.free b ob e n hx
  rw[zAL (λ z=>by subst z;rw[this] at ha;cases ha)];exact this
 ·have:=I.base.tups b xs e
  rw[zAL (λ z=>by subst z;rw[this] at ha;cases ha)];exact this
 ·have:=I.base.frzs b ob u e
  rw[zAL (λ z=>by subst z;exact h0 _ _ e)];exact this
 ·obtain⟨m,e1⟩:=I.base.tbls b ps e
  refine⟨m,?_⟩;rw[zAL (λ z=>by subst z;rw[e1] at ha;cases ha)];exact e1
 ·have:=I.free
  rw[zAL (λ z=>by rw[z,ha] at this;cases this)];exact this
 ·have:=I.freeC x c e
  rw[zAL (λ z=>by rw[z,ha] at this;cases this)];exact this
 ·obtain⟨p1,p2,p3⟩:=I.pin p hp
  refine⟨p1,?_,p3⟩;rw[zAL (λ z=>by rw[z,ha] at p2;cases p2)];exact p2
 ·by_cases hb:b=a
  ·subst hb
   rw[zAB] at e;cases e;obtain⟨_,q⟩:=(show ObjOk X.prog X.w H s.heap b (.frz o (.dK kvs)) from I.hok b _ ha);exact q
  ·rw[zAL hb] at e
   refine(I.hok b u e).stay (λ c v Ω r=>r) (λ c r=>?_) λ c xs r=>?_
   ·rw[zAL (λ z=>by subst z;rw[r] at ha;cases ha)];exact r
   ·rw[zAL (λ z=>by subst z;rw[r] at ha;cases ha)];exact r
noncomputable def tThaw (H0:Hp) (te:TE):TE:=λ σ H Q=>te σ H λ v H1=>∃a o kvs,H1 a=some (.frz o (.dK kvs))/\(∀o u,H0 a≠some (.frz o u))/\Q v (upd H1 a (.dK kvs))
theorem zI2 {X:Cx}{e:Expr}{te:TE}(he:PE X e te):PE X e (tThaw X.H₀ te):=by
 intro jP s σ H Q I h;refine thn (he jP s σ H _ I h) λ v s1 ⟨x,H1,I1,r1,q1⟩=>?_;obtain⟨a,o,kvs,ha,h0,q⟩:=q1;exact⟨x,_,I1.thaw ha h0,r1,q⟩
noncomputable def viewO (p d:Addr):HO:=.ext λ h=>h.IsValuesView p d
theorem zJH {X:Cx}:MtR X "dict.values" (λ v vs H Q=>∃(d:Addr) (kvs:List (Key × V)),v = .ref d/\vs=[]/\H d=some (.dK kvs)/\∀p,H p=none->Q (.ref p) (upd H p (viewO p d))):=by
 intro jP s σ H x xs v us Q I rx r h;obtain⟨d,kvs,rfl,rfl,hd,q⟩:=h;cases rx;cases r;obtain⟨z,sy,vs,rv,D⟩:=dk_of I.hok hd;refine call_meetsIn PySem.F.slot_dict_values D.typeIs PySem.F.entry_dict_values (PySem.F.args_dict_values_1 _) (meets_dict_values (zAf X.prog X.w) d sy) ⟨⟨vs,D⟩,?_⟩;refine⟨.ref s.heap.objs.size,_,I.laid (t':=s.toks) (o:=viewO s.heap.objs.size d) (λ b u e=>lE _ e) (lQ _) ?_,rfl,q _ (I.hok.fresh (lQ _))⟩;refine⟨⟨_,lG _ rfl,rfl,rfl⟩,⟨_,lG _ rfl⟩,λ h1 h2 ⟨o,e,r⟩ k=>⟨o,k o e,r⟩⟩
theorem zJN:∀{kvs:List (Key × V)}{vs:List (Key × Value)}{i:Nat}{p:Key × V},KV kvs vs->kvs[i]?=some p->∃v,vs[i]?=some (p.1,v)/\RelV p.2 v
 |_,_,_,_,.nil,e=>by simp at e
 |_,_,0,p,@Paired.cons _ _ _ a b _ _ r _,e=>by
  have e':a=p:=by simpa using e
  subst e';exact⟨b.2,by rw[r.1];rfl,r.2⟩
 |_,_,i+1,p,.cons _ t,e=>by
  obtain⟨v,h,r⟩:=zJN (i:=i) (p:=p) t (by simpa using e);exact⟨v,by simpa using h,r⟩
noncomputable def Itva (o:Obj) (a:Addr) (kvs:List (Key × V)):It :=
 ⟨λ i H=>H a=some (.frz o (.dK kvs))/\i<kvs.length,λ i H x H'=>H'=H/\∃p,kvs[i]?=some p/\x=p.2,λ i H=>H a=some (.frz o (.dK kvs))/\kvs.length<=i⟩
theorem zIb {P:Program}{w:World}{K:W.Frag}{tg:Expr}(a it:Addr) (o:Obj) (kvs:List (Key × V)):Turn P w K tg (Itva o a kvs) [it] it (λ i h=>∃es ep,o.data = .dict es ep/\h.IsValIter it a i kvs.length ep) where
 mem:=by simp
 obj:=λ i h st b hb=>by
  have e:b=it:=by simpa using hb
  subst e;obtain⟨_,_,_,ob,e,c,d⟩:=st;exact⟨ob,e,λ v z=>by rw[d] at z;cases z⟩
 keep:=λ i h h' st k=>by
  obtain⟨es,ep,hd,ob,e,r⟩:=st;exact⟨es,ep,hd,ob,k it (by simp) ob e,r⟩
 item:=by
  intro X hP hw hK hc i jP s σ H E I hf st hg;subst hP hw hK;obtain⟨ha,hi⟩:=hg;obtain⟨es,ep,hd,hit⟩:=st;obtain⟨vs,r,hl,hm⟩:=zHi I ha hd;obtain⟨u,hv,ru⟩:=zJN r (lW hi);obtain⟨f0,f1,f2,f3,f4,f5⟩:=hf it (by simp);rw[hl] at hit;refine wpAny_pyNext_values_item hit hm hv λ h' hit' sb=>?_;have I1:Inv X jP σ H { s with heap:=h' }:=I.turned (t':=s.toks) (λ b o hb e=>(sb.2 b hb).trans e) f0 f1 f3 f4 f5;obtain⟨ob,e,c,d⟩:=id hit';rw[←hl] at hit';exact⟨_,rfl,go_of (s:={ s with heap:=h' }) e c d (by decide) ⟨_,H,I1,ru,⟨rfl,_,lW hi,rfl⟩,⟨es,ep,hd,hit'⟩,λ b hb=>(hf b hb).1⟩⟩
 done:=by
  intro X hP hw hK hc i jP s σ H E I hf st hg;subst hP hw hK;obtain⟨ha,hi⟩:=hg;obtain⟨es,ep,hd,hit⟩:=st;obtain⟨vs,r,hl,hm⟩:=zHi I ha hd;obtain⟨f0,f1,f2,f3,f4,f5⟩:=hf it (by simp);rw[hl] at hit;exact wpAny_pyNext_values_end (I.ok.hd hc) hit hm (List.getElem?_eq_none (by omega)) λ h' eb=>⟨rfl,I.turned (t':=s.toks) (λ b o hb e=>eb b o hb e) f0 f1 f3 f4 f5⟩
 self:=λ A i s Q E st h=>by
  obtain⟨es,ep,hd,hit⟩:=st;exact wpAny_pyIter_valiter hit h
noncomputable def iVals (tl:TE):TI:=λ σ H R=>tl σ H λ x H1=>∃p a kvs,x = .ref p/\H1 p=some (viewO p a)/\H1 a=some (.dK kvs)/\∀o,R (Itva o a kvs) (upd H1 a (.frz o (.dK kvs)))
theorem zLb {X:Cx}{tg l:Expr}{tl:TE}(hl:PE X l tl):PI X tg l (iVals tl):=by
 intro jP s σ H R I h;refine thn (hl jP s σ H _ I h) λ v s1 ⟨x,H1,I1,r1,q1⟩=>?_;obtain⟨p,a,kvs,e,hp,ha,q⟩:=q1;subst e;cases r1;obtain⟨vw,_⟩:=(show ObjOk X.prog X.w H1 s1.heap p (viewO p a) from I1.hok p _ hp);obtain⟨z,sy,vs,r,o,es',ep',e,c1,d1,rest⟩:=(show ObjOk X.prog X.w H1 s1.heap a (.dK kvs) from I1.hok a _ ha);refine wpAny_pyIter_values (knd:=zAf X.prog X.w) (kvs:=vs) (ep:=ep') vw ⟨o,es',e,c1,d1,rest⟩ ?_;have lt:=lH e;refine⟨s1.heap.objs.size,[s1.heap.objs.size],_,_,upd H1 a (.frz o (.dK kvs)),rfl,I1.write (t':=s1.toks) (x:=a) (e:=a) (by rw[ha];exact True.intro) (.inl rfl) (λ b o Ω e=>lE _ e) ⟨o,lE _ e⟩ ?_,zIb a _ o kvs,⟨es',ep',d1,_,lG _ rfl,rfl,by rw[Paired.length r];rfl⟩,λ b hb=>?_,q o⟩
 ·exact⟨lE _ e,z,sy,vs,r,o,es',ep',lE _ e,c1,d1,rest⟩
 ·have e:b=s1.heap.objs.size:=by simpa using hb
  subst e;exact I1.fpOk (lQ _) (by rw[zAL (Nat.ne_of_gt lt)];exact I1.hok.fresh (lQ _))
theorem zKm {o:Obj}{a:Addr}{kvs:List (Key × V)}{g:TG}{tb:TS}{D:Ends}{σ:L2.St}{H:Hp}(Pv:Nat->L2.St->Hp->Prop) (h0:Pv 0 σ H) (hl:∀i σ H,i<=kvs.length->Pv i σ H->H a=some (.frz o (.dK kvs)))
  (hs:∀i p σ H,kvs[i]?=some p->Pv i σ H->g p.2 σ H λ σ2 H2=>tb { D with nx:=Pv (i+1),ct:=Pv (i+1),bk:=D.nx } σ2 H2) (hd:∀σ H,Pv kvs.length σ H->D.nx σ H) :
  ∃W:Nat->Nat->L2.St->Hp->Prop,(∃m,W 0 m σ H)/\∀i m σ H,W i m σ H ->
   ((Itva o a kvs).stop i H/\D.nx σ H)\/((Itva o a kvs).go i H/\∃N:L2.St->Hp->Prop,(∀σ' H',N σ' H'->∃m',m'<m/\W (i+1) m' σ' H')/\∀x H',(Itva o a kvs).yld i H x H'->g x σ H' λ σ2 H2=>tb { D with nx:=N,ct:=N,bk:=D.nx } σ2 H2):=by
 refine⟨λ i m σ H=>m=kvs.length - i/\i<=kvs.length/\Pv i σ H,⟨kvs.length,by simp,lY _,h0⟩,?_⟩;rintro i m σ H ⟨rfl,hi,p⟩;have q:=hl i σ H hi p
 by_cases hlt:i<kvs.length
 ·refine .inr ⟨⟨q,hlt⟩,Pv (i+1),λ σ' H' p'=>⟨kvs.length - (i+1),by omega,rfl,hlt,p'⟩,λ x H' y=>?_⟩
  obtain⟨e,p',hp',ex⟩:=y;subst e ex;exact hs i p' σ _ hp' p
 ·have e:i=kvs.length:=by omega
  subst e;exact .inl ⟨⟨q,lQ _⟩,hd σ H p⟩
section
variable {X:Cx}{o e:Expr}{es:List Expr}{te to:TE}{t:TA}{name x:Str}{apos cpos pos p:Pos}{T id:String}
theorem zHT (he:Sd (PE X e te)) (hs:swapsWith e none pos.line X.env=pure false:=by rfl):Sd (PS X (.Expr e pos) (tDrop te)):=⟨zAw he.un hs⟩
theorem zEv {r:List V->Hp->VK->Prop}(hc:CallR X (.type T) r) (hg:Gl X x) (hm:X.mg x=none) (hv:bootBuiltins x=some (.type T)) (ha:Sd (PA X (e::es) t)) (hn:x ≠ "__name__" := by decide) (hdb:(x == ("__debug__" : Str))=false:=by decide)
  (he:starEach (e::es) X.env=(false,eval e X.env)::starEach es X.env:=by rfl) (hpl:(backTo pos (starEach es X.env)).any (·.1)=false:=by rfl):Sd (PE X (.Call (.Name x p) (e::es) [] pos) (tCB r t)):=⟨zBb hc hg hm hv ha.un hn hdb he hpl⟩
end
instance instDecDt:DecidableEq Dt:=λ a b=>decidable_of_iff (Dt.beq a b=true) Dt.beq_iff
noncomputable def lookB (x:Str):List Str->Option Nat
 |[]=>none
 |y::r=>if y=x then some 0 else (lookB x r).map (· + 1)
noncomputable def keyB (x:Str) (rs:List Str):Nat ⊕ Str:=match lookB x rs with
 |some k=>.inl k
 |none=>.inr x
noncomputable def keyD:Nat ⊕ Str->Dt
 |.inl k=>.tup [.str "bound", .int k]
 |.inr z=>.tup [.str "free", .str z]
noncomputable def bareN (x:Str) (bs:List Str):Dt:=keyD (keyB x bs.reverse)
noncomputable def sn (x y:Str):List (Str × Str)->Bool
 |[]=>decide (x=y)
 |p::r=>if p.1=x\/p.2=y then decide (p.1=x/\p.2=y) else sn x y r
inductive Lf where
 |name (x:Str)|num (n:Int)|gap (g:Str)|ask (x:Str)|stop (x:Str)
noncomputable def dtL:Lf->List Dt
 |.name x=>[.str "name", .str x]|.num n=>[.str "num", .int n]|.gap g=>[.str "gap", .str g,.tup []]|.ask x=>[.str "ask", .str x]|.stop x=>[.str "stop", .str x]
noncomputable def bareL (l:Lf) (bs:List Str):Dt:=match l with
 |.name x=>bareN x bs
 |l=>.tup (dtL l)
noncomputable def Atom.lf:Atom->Lf
 |.name x=>.name x|.num n=>.num n|.gap g=>.gap g
noncomputable def bareA (bs:List Str) (a:Atom):Dt:=bareL a.lf bs
noncomputable def bare:Tr->List Str->Dt
 |.num n,_=>.tup [.str "num", .int n]
 |.name x,bs=>bareN x bs
 |.ask x,_=>.tup [.str "ask", .str x]
 |.stop x,_=>.tup [.str "stop", .str x]
 |.gap g as,bs=>.tup [.str "gap", .str g,.tup (as.map (bareA bs))]
 |.say a,bs=>.tup [.str "say", bare a bs]
 |.bin o a b,bs=>.tup [.str o.s,bare a bs,bare b bs]
 |.ite a b c,bs=>.tup [.str "if", bare a bs,bare b bs,bare c bs]
 |.lett x a b,bs=>.tup [.str "let", bare a bs,bare b (bs++[x])]
noncomputable def Tr.fv:Tr->List Str->List Str
 |.say a,bs=>a.fv bs
 |.bin _ a b,bs=>a.fv bs++b.fv bs
 |.ite a b c,bs=>a.fv bs++(b.fv bs++c.fv bs)
 |.lett x a b,bs=>a.fv bs++b.fv (bs++[x])
 |t,bs=>t.names.filter λ x=>decide (x∉bs)
theorem zCh (t:Tr):1<=t.size:=by cases t<;>simp[Tr.size]
noncomputable def kvOf (ks:List Str):List (Key × V):=ks.map λ x=>(Sum.inr x,V.bl true)
noncomputable def addK (ks:List Str) (x:Str):List Str:=if x∈ks then ks else ks++[x]
theorem zFI (ks:List Str) (x:Str):putK (kvOf ks) (Sum.inr x) (.bl true)=kvOf (addK ks x):=by
 unfold putK addK
 have e:((kvOf ks).any λ kv=>decide (kv.1=Sum.inr x))=decide (x∈ks):=by
  rw[Bool.eq_iff_iff,List.any_eq_true,decide_eq_true_iff];constructor
  ·rintro⟨p,hp,h⟩
   obtain⟨y,hy,rfl⟩:=mC.mp hp;have:(Sum.inr y:Key)=Sum.inr x:=lS h;cases this;exact hy
  ·intro h
   exact⟨_,mC.mpr ⟨x,h,rfl⟩,lU rfl⟩
 rw[e]
 by_cases h:x∈ks
 ·rw[if_pos (decide_eq_true h),if_pos h]
  unfold kvOf;rw[List.map_map];refine List.map_congr_left λ y Ω=>?_;show (if (Sum.inr y:Key)=Sum.inr x then ((Sum.inr y:Key),V.bl true) else (Sum.inr y,V.bl true))=(Sum.inr y,V.bl true);split<;>rfl
 ·rw[if_neg (by simpa using h),if_neg h]
  simp[kvOf]
set_option tactic.hygienic true in
theorem zDl {ks:List Str}{x:Str}(h:ks.Nodup):(addK ks x).Nodup:=by
 unfold addK;split
 ·exact h
 ·rename_i n
  rw[List.nodup_append];refine⟨h,by simp,λ a ha b hb e=>?_⟩;rw[List.mem_singleton.mp hb] at e;exact n (e▸ha)
set_option tactic.hygienic true in
theorem zBT {ks:List Str}{x y:Str}:y∈addK ks x↔y∈ks\/y=x:=by
 unfold addK;split
 ·rename_i h
  constructor
  ·exact .inl
  ·rintro (z|z)
   ·exact z
   ·rw[z];exact h
 ·simp
theorem zDF:∀{ks ws:List Str},ks.Nodup->(∀x∈ks,x∈ws)->ks.length<=ws.length
 |[],_,_,_=>lY _
 |k::ks,ws,hn,h=>by
  have hk:=h k lO
  have h':∀x∈ks,x∈ws.erase k:=λ x hx=>by
   have ne:x≠k:=λ e=>(List.nodup_cons.mp hn).1 (e▸hx);exact(List.mem_erase_of_ne ne).mpr (h x (lP _ hx))
  have ih:=zDF (List.nodup_cons.mp hn).2 h';rw[List.length_erase_of_mem hk] at ih;have:0<ws.length:=List.length_pos_of_mem hk;rw[List.length_cons];omega
abbrev Told:=Str->Option Atom
noncomputable def tOf (τ:Told) (x:Str):Atom:=(τ x).getD (.name x)
noncomputable def putA (τ:Told):Atom->Atom
 |.name x=>tOf τ x
 |a=>a
noncomputable def Atom.tr:Atom->Tr
 |.name x=>.name x|.num n=>.num n|.gap g=>.gap g []
theorem AtRep.tr {H:Hp}:∀{a:Atom}{v:V},AtRep H a v->Rep H a.tr v
 |.name _,_,h=>h
 |.num _,_,h=>h
 |.gap _,_,⟨a,b,e,h,h'⟩=>⟨a,b,[],e,h,h',by simp,.nil⟩
noncomputable def headT (τ:Told):Tr->Tr
 |.name x=>(tOf τ x).tr
 |.gap g as=>.gap g (as.map (putA τ))
 |t=>t
noncomputable def noT:Told:=λ Ω=>none
noncomputable def Tr.wrds:Tr->List Str
 |.say a=>a.wrds
 |.bin _ a b=>a.wrds++b.wrds
 |.ite a b c=>a.wrds++(b.wrds++c.wrds)
 |.lett x a b=>x::(a.wrds++b.wrds)
 |t=>t.names
structure Itm where
 t:Tr
 τ:Told
 bs:List Str
 cs:List Str
noncomputable def setT (τ:Told) (n:Str) (a:Atom):Told:=λ x=>if x=n then some a else τ x
section
variable (G:Str->Prop)
noncomputable def Atom.good:Atom->Prop
 |.name x=>G x|.num _=>True|.gap g=>G g
noncomputable def Tr.good:Tr->Prop
 |.num _=>True|.name x=>G x|.ask x=>G x|.stop x=>G x
 |.gap g as=>G g/\as.length<=1000/\∀a∈as,a.good G
 |.say a=>a.good
 |.bin _ a b=>a.good/\b.good
 |.ite a b c=>a.good/\b.good/\c.good
 |.lett x a b=>G x/\a.good/\b.good
end
noncomputable def Tr.withP:Tr->List Tr->Tr
 |.say _,[a]=>.say a
 |.bin o _ _,[a,b]=>.bin o a b
 |.ite _ _ _,[a,b,c]=>.ite a b c
 |.lett x _ _,[a,b]=>.lett x a b
 |t,_=>t
noncomputable def Tr.dp:Tr->Nat
 |.say a=>a.dp+1|.bin _ a b=>max a.dp b.dp+1|.ite a b c=>max a.dp (max b.dp c.dp)+1|.lett _ a b=>max a.dp b.dp+1
 |_=>2
noncomputable def growL:List Tr->List Tr->List Tr
 |[],_=>[]
 |h::hs,R=>h.withP (R.take h.parts.length)::growL hs (R.drop h.parts.length)
noncomputable def zAi (hs:List Tr):Nat:=(hs.map λ h=>h.parts.length).sum
theorem zET:∀(hs R:List Tr),(growL hs R).length=hs.length
 |[],_=>rfl
 |h::hs,R=>by simp[growL,zET hs]
theorem zDf:∀(hs:List Tr) {R:List Tr}{h:Tr}{rs:List Tr},R.length=zAi hs->rs.length=h.parts.length->growL (hs++[h]) (R++rs)=growL hs R++[h.withP rs]
 |[],R,h,rs,e,e'=>by
  have:R=[]:=List.length_eq_zero_iff.mp (by simpa[zAi] using e);subst this;simp[growL,←e']
 |a::hs,R,h,rs,e,e'=>by
  have e1:R.length=a.parts.length+zAi hs:=by simpa[zAi] using e
  show _::growL (hs++[h]) _=_;rw[List.take_append_of_le_length (by omega),List.drop_append_of_le_length (by omega),zDf hs (by rw[List.length_drop];omega) e'];rfl
noncomputable def zEU:List (List Tr)->List Tr->List Tr
 |[],R=>R
 |hs::Lr,R=>zEU Lr (growL hs R)
noncomputable def Fit:List (List Tr)->Nat->Prop
 |[],n=>n=1
 |hs::Lr,n=>zAi hs=n/\Fit Lr hs.length
noncomputable def tot (l:List Itm):Nat:=(l.map λ q=>q.t.size).sum
end L2
namespace L2
open PySem
noncomputable def Tr.kid (t:Tr) (i:Int):Option Tr:=if 0<=i then t.parts[i.toNat]? else none
noncomputable def Tr.at_:Tr->List Int->Option Tr
 |t,[]=>some t
 |t,i::is=>(t.kid i).bind λ u=>u.at_ is
noncomputable def chain:Tr->List Int->Option (List Tr)
 |t,[]=>some [t]
 |t,i::is=>(t.kid i).bind λ u=>(chain u is).map λ l=>t::l
noncomputable def putT:Tr->List Int->Tr->Tr
 |_,[],u=>u
 |t,i::is,u=>match t.kid i with
  |some k=>t.withP (t.parts.set i.toNat (putT k is u))
  |none=>t
theorem zJu (t:Tr) (p q:List Int):t.at_ (p++q)=(t.at_ p).bind λ u=>u.at_ q:=by
 induction p generalizing t with
 |nil=>rfl
 |cons i p ih =>
  show (t.kid i).bind _=((t.kid i).bind _).bind _;cases t.kid i with
  |none=>rfl
  |some u=>exact ih u
theorem zDJ:∀{ns:List Int}{t:Tr}{ts:List Tr},chain t ns=some ts->ts.length=ns.length+1
 |[],t,ts,h=>by cases h;rfl
 |i::is,t,ts,h=>by
  obtain⟨u,hu,h⟩:=Option.bind_eq_some_iff.mp (show (t.kid i).bind _=some ts from h);obtain⟨l,hl,rfl⟩:=lV.mp h;have:=zDJ hl;simp[this]
theorem zFW:∀{ns:List Int}{t:Tr}{ts:List Tr},chain t ns=some ts->∀(j:Nat) u,ts[j]?=some u->t.at_ (ns.take j)=some u
 |[],t,ts,h,j,u,e=>by
  cases h;cases j with
  |zero=>simpa[Tr.at_] using e
  |succ j=>simp at e
 |i::is,t,ts,h,j,u,e=>by
  obtain⟨k,hk,h⟩:=Option.bind_eq_some_iff.mp (show (t.kid i).bind _=some ts from h);obtain⟨l,hl,rfl⟩:=lV.mp h;cases j with
  |zero=>simpa[Tr.at_] using e
  |succ j =>
   have:=zFW hl j u (by simpa using e);show (t.kid i).bind _=_;rw[hk];exact this
theorem zDi {ns:List Int}{t:Tr}{ts:List Tr}(h:chain t ns=some ts):∃ts' u,ts=ts'++[u]/\t.at_ ns=some u:=by
 have hl:=zDJ h;have:ts≠[]:=by intro z;rw[z] at hl;simp at hl
 obtain⟨ts',u,rfl⟩:∃ts' u,ts=ts'++[u]:=⟨ts.dropLast,ts.getLast this,(List.dropLast_concat_getLast this).symm⟩;refine⟨ts',u,rfl,?_⟩;have hl':ts'.length=ns.length:=by simpa using hl
 have:=zFW h ns.length u (by rw[←hl'];simp)
 rwa [List.take_length] at this
theorem zCr {t:Tr}:∀{ns:List Int},chain t ns=none↔t.at_ ns=none:=by
 intro ns
 induction ns generalizing t with
 |nil=>simp[chain,Tr.at_]
 |cons i is ih =>
  show (t.kid i).bind _=none↔(t.kid i).bind _=none;cases t.kid i with
  |none=>simp
  |some u=>simp[ih]
theorem zE5:∀{ns:List Int}{t:Tr}{ts:List Tr}{u k:Tr}{i:Int},chain t ns=some ts->t.at_ ns=some u->u.kid i=some k->chain t (ns++[i])=some (ts++[k])
 |[],t,ts,u,k,i,h,hu,hk=>by
  cases h;cases hu;show (t.kid i).bind _=_;rw[hk];rfl
 |j::is,t,ts,u,k,i,h,hu,hk=>by
  obtain⟨v,hv,h⟩:=Option.bind_eq_some_iff.mp (show (t.kid j).bind _=some ts from h);obtain⟨l,hl,rfl⟩:=lV.mp h
  have hu':v.at_ is=some u:=by
   have:(t.kid j).bind (λ u=>u.at_ is)=some u:=hu;rw[hv] at this;exact this
  show (t.kid j).bind _=_;rw[hv];show (chain v (is++[i])).map _=_;rw[zE5 hl hu' hk];rfl
theorem zGI:∀{ns:List Int}{t:Tr}{ts:List Tr},chain t ns=some ts->∀(j:Nat) (i:Int),ns[j]?=some i->∃u k,ts[j]?=some u/\ts[j+1]?=some k/\u.kid i=some k
 |[],t,ts,h,j,i,e=>by simp at e
 |i0::is,t,ts,h,j,i,e=>by
  obtain⟨v,hv,h⟩:=Option.bind_eq_some_iff.mp (show (t.kid i0).bind _=some ts from h);obtain⟨l,hl,rfl⟩:=lV.mp h;cases j with
  |zero =>
   have e':i0=i:=by simpa using e
   subst e';refine⟨t,v,rfl,?_,hv⟩;cases is with
   |nil=>cases hl;rfl
   |cons a b =>
    obtain⟨w,_,h⟩:=Option.bind_eq_some_iff.mp (show (v.kid a).bind _=some l from hl);obtain⟨l',_,rfl⟩:=lV.mp h;rfl
  |succ j=>exact zGI hl j i (by simpa using e)
set_option tactic.hygienic true in
theorem zGA {t k:Tr}{i:Int}(h:t.kid i=some k):0<=i/\i<t.parts.length/\t.parts[i.toNat]?=some k:=by
 unfold Tr.kid at h;split at h
 ·rename_i h0
  have:=(lJ.mp h).1;exact⟨h0,by omega,h⟩
 ·cases h
theorem zLC {t:Tr}{i:Int}(h:¬(0<=i/\i<t.parts.length)):t.kid i=none:=by
 unfold Tr.kid;split
 ·exact List.getElem?_eq_none (by omega)
 ·rfl
theorem zLt {t:Tr}{i:Int}(h0:0<=i) (h1:i<t.parts.length):∃k,t.kid i=some k/\t.parts[i.toNat]?=some k:=by
 have hl:i.toNat<t.parts.length:=by omega
 exact⟨t.parts[i.toNat],by unfold Tr.kid;rw[if_pos h0];exact lW hl,lW hl⟩
theorem Rep.build {H:Hp}{t:Tr}{v:V}{ps:List Tr}(h:Rep H t v) (hl:ps.length=t.parts.length):∃a hs us,v = .ref a/\H a=some (.tup (.str t.sign::hs++us))/\hs.length+1=t.head/\us.length=t.parts.length /\
  ∀{H':Hp}{p:Addr}{ws:List V},Tk H H'->H' p=some (.tup (.str t.sign::hs++ws))->Paired (Rep H') ps ws->Rep H' (t.withP ps) (.ref p):=by
 cases t with
 |num n=>obtain⟨a,e,ha⟩:=h;exact⟨a,[.int n],[],e,ha,rfl,rfl,λ k e p=>by cases ps with|nil=>cases p;exact⟨_,rfl,e⟩|cons _ _=>cases hl⟩
 |name x=>obtain⟨a,e,ha⟩:=h;exact⟨a,[.str x],[],e,ha,rfl,rfl,λ k e p=>by cases ps with|nil=>cases p;exact⟨_,rfl,e⟩|cons _ _=>cases hl⟩
 |ask x=>obtain⟨a,e,ha⟩:=h;exact⟨a,[.str x],[],e,ha,rfl,rfl,λ k e p=>by cases ps with|nil=>cases p;exact⟨_,rfl,e⟩|cons _ _=>cases hl⟩
 |stop x=>obtain⟨a,e,ha⟩:=h;exact⟨a,[.str x],[],e,ha,rfl,rfl,λ k e p=>by cases ps with|nil=>cases p;exact⟨_,rfl,e⟩|cons _ _=>cases hl⟩
 |gap g as =>
  obtain⟨a,b,us,e,ha,hb,n,q⟩:=h;exact⟨a,[.str g,.ref b],[],e,ha,rfl,rfl,λ k e p=>by cases ps with|nil=>cases p;exact⟨_,b,us,rfl,e,k _ _ hb,n,Paired.mapP q λ Ω Ω z=>z.mono k⟩|cons _ _=>cases hl⟩
 |say s =>
  obtain⟨a,u,e,ha,r⟩:=h
  exact⟨a,[],[u],e,ha,rfl,rfl,λ k e p=>by
   match ps,hl with
   |[c],_ =>
    cases p with|cons r1 p=>cases p;exact⟨_,_,rfl,e,r1⟩⟩
 |bin o s t =>
  obtain⟨a,u,w,e,ha,r,r'⟩:=h
  exact⟨a,[],[u,w],e,(by show _=some (HO.tup [V.str o.kd.s,u,w]);rw[Bin.kd_s];exact ha),rfl,rfl,λ{H' p ws} k e q=>by
   match ps,hl with
   |[c,d],_ =>
    cases q with|cons r1 q=>cases q with|cons r2 q =>
     cases q;have e':H' p=some (.tup [.str o.kd.s,_,_]):=e;rw[Bin.kd_s] at e';exact⟨_,_,_,rfl,e',r1,r2⟩⟩
 |ite r s t =>
  obtain⟨a,u,w,z,e,ha,_,_,_⟩:=h
  exact⟨a,[],[u,w,z],e,ha,rfl,rfl,λ k e q=>by
   match ps,hl with
   |[c,d,f],_ =>
    cases q with|cons r1 q=>cases q with|cons r2 q=>cases q with|cons r3 q =>
     cases q;exact⟨_,_,_,_,rfl,e,r1,r2,r3⟩⟩
 |lett x s t =>
  obtain⟨a,u,w,e,ha,_,_⟩:=h
  exact⟨a,[.str x],[u,w],e,ha,rfl,rfl,λ k e q=>by
   match ps,hl with
   |[c,d],_ =>
    cases q with|cons r1 q=>cases q with|cons r2 q =>
     cases q;exact⟨_,_,_,rfl,e,r1,r2⟩⟩
theorem zEw {α:Type}{F:α->V->Prop}{x:α}{u:V}(r:F x u):∀{as:List α}{us:List V}(i:Nat),Paired F as us->Paired F (as.set i x) (us.set i u)
 |_,_,_,.nil=>.nil
 |_,_,0,.cons _ t=>.cons r t
 |_,_,i+1,.cons q t=>.cons q (zEw r i t)
theorem zCP {α:Type}{F:α->V->Prop}:∀{as:List α}{a:α}{us:List V},Paired F (as++[a]) us->∃us' u,us=us'++[u]/\Paired F as us'/\F a u
 |[],_,_,.cons r .nil=>⟨[],_,rfl,.nil,r⟩
 |_::as,_,_,.cons r t=>by
  obtain⟨us',u,rfl,h1,h2⟩:=zCP t;exact⟨_::us',u,rfl,.cons r h1,h2⟩
noncomputable def agap:Atom->List Str
 |.gap h=>[h]
 |_=>[]
noncomputable def cnt1:Tr->List (Str × Nat)
 |.gap g as=>(g,as.length)::as.flatMap λ a=>(agap a).map λ h=>(h,0)
 |_=>[]
theorem zHr {t:Tr}(h:¬t.kd = .gap):cnt1 t=[]:=by
 cases t with
 |gap x as=>exact absurd rfl h
 |_=>rfl
noncomputable def gcnt (t:Tr):List (Str × Nat):=t.subs.flatMap cnt1
noncomputable def isGap (t:Tr):Bool:=decide (t.kd = .gap)
theorem zJb (t:Tr):(t.subs.filter isGap).flatMap cnt1=gcnt t:=by
 unfold gcnt
 induction t.subs with
 |nil=>rfl
 |cons a L ih =>
  by_cases h:a.kd = .gap
  ·rw[List.filter_cons_of_pos (by exact decide_eq_true h),List.flatMap_cons,List.flatMap_cons,ih]
  ·rw[List.filter_cons_of_neg (by exact λ z=>h (of_decide_eq_true z)),List.flatMap_cons,zHr h,ih,List.nil_append]
noncomputable def zBU (L:List (Str × Nat)) (g:Str):Option Nat:=(L.find? λ x=>decide (x.1=g)).map (·.2)
theorem zE2 (L M:List (Str × Nat)) (g:Str):zBU (L++M) g=(zBU L g).or (zBU M g):=by
 unfold zBU;rw[List.find?_append];cases L.find? λ x=>decide (x.1=g)<;>rfl
structure Fd1 (L:List (Str × Nat)) (kvs:List (Key × V)):Prop where
 vl:∀g,valV kvs (Sum.inr g:Key)=(zBU L g).map λ n=>V.int ((n:Nat):Int)
 ky:∀p∈kvs,∃g∈L.map (·.1),p.1=(Sum.inr g:Key)
 nd:(kvs.map (·.1)).Nodup
theorem zER {kvs:List (Key × V)}{k:Key}{v:V}{p:Key × V}(h:p∈putK kvs k v):p=(k,v)\/p∈kvs:=by
 unfold putK at h;split at h
 ·obtain⟨q,hq,e⟩:=mC.mp h
  by_cases z:q.1=k
  ·rw[if_pos z,z] at e
   exact .inl e.symm
  ·rw[if_neg z] at e
   exact .inr (e▸hq)
 ·rcases lK.mp h with h|h
  ·exact .inr h
  ·exact .inl (List.mem_singleton.mp h)
set_option tactic.hygienic true in
theorem zJG {kvs:List (Key × V)}(k:Key) (v:V) (nd:(kvs.map (·.1)).Nodup):((putK kvs k v).map (·.1)).Nodup:=by
 unfold putK;split
 ·have e:(kvs.map λ kv=>if kv.1=k then (kv.1,v) else kv).map (·.1)=kvs.map (·.1):=by
   rw[List.map_map];refine List.map_congr_left λ q Ω=>?_;show (if q.1=k then (q.1,v) else q).1=q.1;split<;>rfl
  rw[e];exact nd
 ·rename_i h
  rw[List.map_append,List.nodup_append];refine⟨nd,by simp,λ a ha b hb e=>h ?_⟩;obtain⟨q,hq,rfl⟩:=mC.mp ha;simp at hb;rw[List.any_eq_true];exact⟨q,hq,lU (e.trans hb)⟩
theorem Fd1.nil:Fd1 [] []:=⟨λ g=>rfl,(λ p h=>nomatch h),List.nodup_nil⟩
theorem Fd1.put {L:List (Str × Nat)}{kvs:List (Key × V)}(h:Fd1 L kvs) {x:Str}{n:Nat}(e:valV kvs (Sum.inr x:Key)=none):Fd1 (L++[(x,n)]) (putK kvs (Sum.inr x:Key) (.int ((n:Nat):Int))):=by
 have e0:zBU L x=none:=by
  have:=h.vl x;rw[e] at this;cases h2:zBU L x with
  |none=>rfl
  |some m=>rw[h2] at this;cases this
 refine⟨λ g=>?_,λ p hp=>?_,zJG _ _ h.nd⟩
 ·rw[zCb,zE2]
  by_cases z:g=x
  ·subst z
   rw[if_pos rfl,e0];simp[zBU]
  ·have z':¬(Sum.inr g:Key)=Sum.inr x:=λ w=>z (Sum.inr.inj w)
   rw[if_neg z',h.vl g];have:zBU [(x,n)] g=none:=by simp[zBU];exact λ w=>z (Eq.symm w)
   rw[this];cases zBU L g<;>rfl
 ·rcases zER hp with z|z
  ·exact⟨x,by simp,by rw[z]⟩
  ·obtain⟨g,hg,e⟩:=h.ky p z
   exact⟨g,by rw[List.map_append];exact mF _ hg,e⟩
theorem Fd1.same {L:List (Str × Nat)}{kvs:List (Key × V)}(h:Fd1 L kvs) {x:Str}{n:Nat}{z:V}(e:valV kvs (Sum.inr x:Key)=some z):Fd1 (L++[(x,n)]) kvs:=by
 obtain⟨m,e0⟩:∃m,zBU L x=some m:=by
  have:=h.vl x;rw[e] at this;cases h2:zBU L x with
  |none=>rw[h2] at this;cases this
  |some m=>exact⟨m,rfl⟩
 refine⟨λ g=>?_,λ p hp=>?_,h.nd⟩
 ·rw[h.vl g,zE2]
  by_cases z:g=x
  ·subst z
   rw[e0];rfl
  ·have:zBU [(x,n)] g=none:=by simp[zBU];exact λ w=>z (Eq.symm w)
   rw[this];cases zBU L g<;>rfl
 ·obtain⟨g,hg,e⟩:=h.ky p hp
  exact⟨g,by rw[List.map_append];exact mF _ hg,e⟩
noncomputable def WN (H:Hp) (x:Str × Nat) (v:V):Prop:=∃b,v = .ref b/\H b=some (.tup [.str x.1,.int ((x.2:Nat):Int)])
theorem WN.mono {H H':Hp}(k:Tk H H') {x:Str × Nat}{v:V}:WN H x v->WN H' x v
 |⟨b,e,h⟩=>⟨b,e,k _ _ h⟩
theorem AtRep.all {H:Hp}:∀{a:Atom}{v:V},AtRep H a v->∃(b:Addr) (r:List V),v = .ref b/\((∃h,a = .gap h/\H b=some (.tup (.str "gap" :: .str h::r)))\/(agap a=[]/\∃k:Str,k ≠ "gap" /\ H b=some (.tup (.str k::r))))
 |.name x,_,⟨b,e,h⟩=>⟨b,_,e,.inr ⟨rfl, "name", by decide +kernel,h⟩⟩
 |.num x,_,⟨b,e,h⟩=>⟨b,_,e,.inr ⟨rfl, "num", by decide +kernel,h⟩⟩
 |.gap x,_,⟨b,c,e,h,_⟩=>⟨b,_,e,.inl ⟨x,rfl,h⟩⟩
noncomputable def RelA (H:Hp):Option Atom->Option V->Prop
 |some a,some v=>AtRep H a v
 |none,none=>True
 |_,_=>False
structure Lv (H:Hp) (τ:Told) (kvs:List (Key × V)):Prop where
 ks:∀p∈kvs,∃x a,p.1=(Sum.inr x:Key)/\AtRep H a p.2
 vl:∀x,RelA H (τ x) (valV kvs (Sum.inr x:Key))
theorem RelA.mono {H H':Hp}(k:Tk H H') {o:Option Atom}{v:Option V}(h:RelA H o v):RelA H' o v:=by
 cases o<;>cases v<;>first|exact h|exact AtRep.mono k h
theorem Lv.mono {H H':Hp}(k:Tk H H') {τ:Told}{kvs:List (Key × V)}(h:Lv H τ kvs):Lv H' τ kvs :=
 ⟨λ p hp=>let ⟨x,a,e,r⟩:=h.ks p hp;⟨x,a,e,r.mono k⟩,λ x=>(h.vl x).mono k⟩
theorem Lv.some {H:Hp}{τ:Told}{kvs:List (Key × V)}(h:Lv H τ kvs) {x:Str}{a:Atom}(e:τ x=some a):∃v,valV kvs (Sum.inr x:Key) = .some v/\AtRep H a v:=by
 have:=h.vl x;rw[e] at this;cases hv:valV kvs (Sum.inr x:Key) with
 |none=>rw[hv] at this;exact this.elim
 |some v=>rw[hv] at this;exact⟨v,rfl,this⟩
theorem Lv.get {H:Hp}{τ:Told}{kvs:List (Key × V)}(h:Lv H τ kvs) {x:Str}{v:V}(e:valV kvs (Sum.inr x:Key) = .some v):∃a,τ x = .some a/\AtRep H a v:=by
 have:=h.vl x;rw[e] at this;cases ht:τ x with
 |none=>rw[ht] at this;exact this.elim
 |some a=>rw[ht] at this;exact⟨a,rfl,this⟩
theorem Lv.none_ {H:Hp}{τ:Told}{kvs:List (Key × V)}(h:Lv H τ kvs) {x:Str}(e:valV kvs (Sum.inr x:Key) = .none):τ x = .none:=by
 have:=h.vl x;rw[e] at this;cases ht:τ x with
 |none=>rfl
 |some a=>rw[ht] at this;exact this.elim
theorem zGZ {kvs:List (Key × V)}{k:Key}{v:V}(e:valV kvs k=some v):∃p∈kvs,p.1=k/\p.2=v:=by
 obtain⟨p,hp,ep⟩:=lV.mp (show (kvs.find? λ kv=>decide (kv.1=k)).map (·.2)=some v from e);have h1:=List.find?_some hp;exact⟨p,List.mem_of_find?_eq_some hp,by simpa using h1,ep⟩
noncomputable def wr1:Tr->List Str
 |.lett x _ _=>[x]
 |t=>t.names
theorem zIY {t:Tr}(h:¬t.kd = .lett):wr1 t=t.names:=by
 cases t with
 |lett x a b=>exact absurd rfl h
 |_=>rfl
theorem zBD:∀(t:Tr) (x:Str),x∈t.wrds↔∃p∈t.subs,x∈wr1 p
 |.say a,x=>by
  have:=zBD a x;simp[Tr.wrds,Tr.subs,wr1,Tr.names,this]
 |.bin o a b,x=>by
  have h1:=zBD a x;have h2:=zBD b x;simp only[Tr.wrds,Tr.subs,List.mem_append,List.mem_cons,h1,h2];constructor
  ·rintro (⟨p,hp,h⟩|⟨p,hp,h⟩)
   ·exact⟨p,.inr (.inl hp),h⟩
   ·exact⟨p,.inr (.inr hp),h⟩
  ·rintro⟨p,rfl|hp|hp,h⟩
   ·simp[wr1,Tr.names] at h
   ·exact .inl ⟨p,hp,h⟩
   ·exact .inr ⟨p,hp,h⟩
 |.ite a b c,x=>by
  have h1:=zBD a x;have h2:=zBD b x;have h3:=zBD c x;simp only[Tr.wrds,Tr.subs,List.mem_append,List.mem_cons,h1,h2,h3];constructor
  ·rintro (⟨p,hp,h⟩|⟨p,hp,h⟩|⟨p,hp,h⟩)
   ·exact⟨p,.inr (.inl hp),h⟩
   ·exact⟨p,.inr (.inr (.inl hp)),h⟩
   ·exact⟨p,.inr (.inr (.inr hp)),h⟩
  ·rintro⟨p,rfl|hp|hp|hp,h⟩
   ·simp[wr1,Tr.names] at h
   ·exact .inl ⟨p,hp,h⟩
   ·exact .inr (.inl ⟨p,hp,h⟩)
   ·exact .inr (.inr ⟨p,hp,h⟩)
 |.lett n a b,x=>by
  have h1:=zBD a x;have h2:=zBD b x;simp only[Tr.wrds,Tr.subs,List.mem_append,List.mem_cons,h1,h2];constructor
  ·rintro (h|⟨p,hp,h⟩|⟨p,hp,h⟩)
   ·exact⟨_,.inl rfl,by simp[wr1,h]⟩
   ·exact⟨p,.inr (.inl hp),h⟩
   ·exact⟨p,.inr (.inr hp),h⟩
  ·rintro⟨p,rfl|hp|hp,h⟩
   ·exact .inl (by simpa[wr1] using h)
   ·exact .inr (.inl ⟨p,hp,h⟩)
   ·exact .inr (.inr ⟨p,hp,h⟩)
 |.num _,x=>by simp[Tr.wrds,Tr.subs,wr1]
 |.name _,x=>by simp[Tr.wrds,Tr.subs,wr1]
 |.ask _,x=>by simp[Tr.wrds,Tr.subs,wr1]
 |.stop _,x=>by simp[Tr.wrds,Tr.subs,wr1]
 |.gap _ _,x=>by simp[Tr.wrds,Tr.subs,wr1]
instance instDecAtom:DecidableEq Atom
 |.name x,.name y=>if h:x=y then isTrue (by rw[h]) else isFalse λ e=>h (by injection e)
 |.num x,.num y=>if h:x=y then isTrue (by rw[h]) else isFalse λ e=>h (by injection e)
 |.gap x,.gap y=>if h:x=y then isTrue (by rw[h]) else isFalse λ e=>h (by injection e)
 |.name _,.num _=>isFalse nofun
 |.name _,.gap _=>isFalse nofun
 |.num _,.name _=>isFalse nofun
 |.num _,.gap _=>isFalse nofun
 |.gap _,.name _=>isFalse nofun
 |.gap _,.num _=>isFalse nofun
noncomputable def Sx (d:Addr) (H H':Hp):Prop:=∀b u,b≠d->H b=some u->H' b=some u
theorem Sx.tk {d:Addr}{H H':Hp}(g:Sx d H H') (hd:∀xs,H d≠some (.tup xs)):Tk H H':=λ b xs e=>g b _ (λ z=>hd xs (z▸e)) e
theorem Sx.same {d:Addr}{H H1 H':Hp}(g:Sx d H H1) (k:Same H1 H'):Sx d H H':=λ b u n e=>k b u (g b u n e)
theorem Sx.set {d p:Addr}{H H':Hp}{o:HO}(g:Sx d H H') (h:H p=none):Sx d H (upd H' p o):=λ b u n e=>by rw[zAL (zAK e h)];exact g b u n e
theorem Sx.back {d:Addr}{H H':Hp}{o:HO}(g:Sx d H H') (h:H d=some o):Same H (upd H' d o):=λ b u e=>by
 by_cases z:b=d
 ·subst z;rw[zAB,←h];exact e
 ·rw[zAL z];exact g b u z e
theorem viaS {G:Prop}{E:L2.St->Hp->Prop}(A:L2.St->Hp->Prop) (h:(∀σ H2,A σ H2->E σ H2)->G) (r:∀σ H2,A σ H2->E σ H2):G:=h r
theorem zDd (a b:List Tr):zAi (a++b)=zAi a+zAi b:=by simp[zAi]
theorem zEy (h:Tr):zAi [h]=h.parts.length:=by simp[zAi]
theorem zEM (hs:List Tr) (i:Nat):zAi (hs.take i)<=zAi hs:=by
 have e:zAi hs=zAi (hs.take i)+zAi (hs.drop i):=by rw[←zDd,List.take_append_drop]
 omega
theorem zDc {α:Type}{F:α->V->Prop}:∀{as:List α}{us:List V}(i n:Nat),Paired F as us->Paired F ((as.drop i).take n) ((us.drop i).take n)
 |_,_,i,n,.nil=>by simp;exact .nil
 |_,_,0,0,.cons r t=>by simp;exact .nil
 |_,_,0,n+1,.cons r t=>by simpa using Paired.cons r (by simpa using zDc 0 n t)
 |_,_,i+1,n,.cons r t=>by simpa using zDc i n t
noncomputable def zMj (H:Hp) (hs:List Tr) (v:V):Prop:=∃l us,v = .ref l/\H l=some (.lst us)/\Paired (Rep H) hs us
theorem zEg {α:Type}{F:α->V->Prop}{L:List α}{us:List V}(h:Paired F L.reverse us) {i:Nat}{x:V}(hi:i<us.length) (e:us[us.length - 1 - i]?=some x):∃a,L[i]?=some a/\F a x:=by
 obtain⟨a,ea,r⟩:=zAQ h e;have hl:us.length=L.length:=by rw[zAH h,List.length_reverse]
 rw[List.getElem?_reverse (by omega)] at ea;refine⟨a,?_,r⟩;rw[←ea];congr 1;omega
noncomputable def NoLet (t:Tr):Prop:=∀x∈t.subs,¬x.kd = .lett
theorem NoLet.part {t p:Tr}(h:NoLet t) (hp:p∈t.parts):NoLet p:=λ x hx=>h x (by
 rw[zCu];exact lP _ (List.mem_flatMap.mpr ⟨p,hp,hx⟩))
theorem NoLet.own {t:Tr}(h:NoLet t):¬t.kd = .lett:=h t (by rw[zCu];exact lO)
noncomputable def sbT (τ:Told):Tr->Tr
 |.say a=>.say (sbT τ a)
 |.bin o a b=>.bin o (sbT τ a) (sbT τ b)
 |.ite a b c=>.ite (sbT τ a) (sbT τ b) (sbT τ c)
 |t=>headT τ t
theorem zMD {τ:Told}{t:Tr}(h:NoLet t):sbT τ t=(headT τ t).withP (t.parts.map (sbT τ)):=by
 cases t with
 |lett x a b=>exact absurd rfl h.own
 |name x=>show (tOf τ x).tr=_;cases e:tOf τ x<;>simp[headT,e,Atom.tr,Tr.withP,Tr.parts]
 |_=>rfl
theorem zES {τ:Told}{t:Tr}:(headT τ t).parts.length=t.parts.length:=by
 cases t with
 |name x=>show ((tOf τ x).tr).parts.length=0;cases tOf τ x<;>rfl
 |_=>rfl
noncomputable def sumS (l:List Tr):Nat:=(l.map Tr.size).sum
theorem zCA (a b:List Tr):sumS (a++b)=sumS a+sumS b:=by simp[sumS]
theorem zCR (a:Tr) (b:List Tr):sumS (a::b)=a.size+sumS b:=by simp[sumS]
theorem zCc (l:List Tr):l.length<=sumS l:=by
 induction l with
 |nil=>exact lQ _
 |cons a l ih=>rw[zCR,List.length_cons];have:=zCh a;omega
theorem zB8 (t:Tr):sumS t.parts+1=t.size:=zDb t
noncomputable def ItT (d:Addr) (H:Hp) (q:Tr) (v:V):Prop:=∃a u,v = .ref a/\H a=some (.tup [u,.ref d])/\Rep H q u
theorem ItT.mono {d:Addr}{H H':Hp}(k:Tk H H') {q:Tr}{v:V}:ItT d H q v->ItT d H' q v
 |⟨a,u,e,h,r⟩=>⟨a,u,e,k _ _ h,r.mono k⟩
noncomputable def LevN (A:Addr) (H:Hp) (hs:List Tr) (v:V):Prop:=∃l us,v = .ref l/\l≠A/\H l=some (.lst us)/\Paired (Rep H) hs us
theorem LevN.mono {A:Addr}{H H':Hp}(k:Tk H H') (g:∀b us,b≠A->H b=some (.lst us)->H' b=some (.lst us)) {hs:List Tr}{v:V}:LevN A H hs v->LevN A H' hs v
 |⟨l,us,e,n,h,p⟩=>⟨l,us,e,n,g l us n h,Paired.mapP p λ Ω Ω z=>z.mono k⟩
structure LvT (τ:Told) (items:List Tr) (i:Nat) (hs ds:List Tr):Prop where
 hl:hs.length=i
 np:zAi hs=ds.length
 nl:∀q∈ds,NoLet q
 sz:sumS ds+i=sumS (items.take i)
 dn:growL hs (ds.map (sbT τ))=(items.take i).map (sbT τ)
theorem LvT.next {τ:Told}{items:List Tr}{i:Nat}{hs ds:List Tr}{q:Tr}(h:LvT τ items i hs ds) (hq:items[i]?=some q) (nq:NoLet q):LvT τ items (i+1) (hs++[headT τ q]) (ds++q.parts):=by
 have et:=zAV hq;refine⟨by rw[List.length_append,h.hl];rfl,by rw[zDd,zEy,List.length_append,h.np,zES],λ k hk=>?_,?_,?_⟩
 ·rcases lK.mp hk with hk|hk
  ·exact h.nl k hk
  ·exact nq.part hk
 ·have:=h.sz
  have:=zB8 q;rw[et,zCA,zCA,zCR];simp only[sumS,List.map_nil,List.sum_nil] at *;omega
 ·rw[List.map_append,zDf hs (by rw[List.length_map,h.np]) (by rw[List.length_map,zES]),h.dn,et,List.map_append,List.map_singleton,zMD nq]
abbrev Pce:=List Str × Tr
noncomputable def RelP (H:Hp):Option Pce->Option V->Prop
 |some q,some v=>∃p nt u,v = .ref p/\H p=some (.tup [.ref nt,u])/\H nt=some (.tup (q.1.map V.str))/\Rep H q.2 u
 |none,none=>True
 |_,_=>False
theorem RelP.mono {H H':Hp}(k:Tk H H') {o:Option Pce}{v:Option V}(h:RelP H o v):RelP H' o v:=by
 cases o<;>cases v<;>first|exact h|(obtain⟨p,nt,u,e,h1,h2,r⟩:=h;exact⟨p,nt,u,e,k _ _ h1,k _ _ h2,r.mono k⟩)
noncomputable def FlD (H:Hp) (φ:Str->Option Pce) (kvs:List (Key × V)):Prop:=∀g,RelP H (φ g) (valV kvs (Sum.inr g:Key))
theorem FlD.mono {H H':Hp}(k:Tk H H') {φ:Str->Option Pce}{kvs:List (Key × V)}(h:FlD H φ kvs):FlD H' φ kvs:=λ g=>(h g).mono k
theorem FlD.get {H:Hp}{φ:Str->Option Pce}{kvs:List (Key × V)}(h:FlD H φ kvs) {g:Str}{q:Pce}(e:φ g=some q):∃p nt u,valV kvs (Sum.inr g:Key)=some (.ref p)/\H p=some (.tup [.ref nt,u])/\H nt=some (.tup (q.1.map V.str))/\Rep H q.2 u:=by
 have:=h g;rw[e] at this;cases hv:valV kvs (Sum.inr g:Key) with
 |none=>rw[hv] at this;exact this.elim
 |some v =>
  rw[hv] at this;obtain⟨p,nt,u,rfl,h1,h2,r⟩:=this;exact⟨p,nt,u,rfl,h1,h2,r⟩
theorem FlD.no {H:Hp}{φ:Str->Option Pce}{kvs:List (Key × V)}(h:FlD H φ kvs) {g:Str}(e:φ g=none):valV kvs (Sum.inr g:Key)=none:=by
 have:=h g;rw[e] at this;cases hv:valV kvs (Sum.inr g:Key) with
 |none=>rfl
 |some v=>rw[hv] at this;exact this.elim
theorem zF8:∀(more kvs:List (Key × V)),(zAu kvs more).length<=kvs.length+more.length
 |[],kvs=>lQ _
 |p::more,kvs=>by
  have:=zF8 more (putK kvs p.1 p.2);have:=zBL kvs p.1 p.2;show (zAu (putK kvs p.1 p.2) more).length<=_;rw[List.length_cons];omega
theorem zKf {t k:Tr}{i:Nat}(h:t.parts[i]?=some k):t.kid (i:Int)=some k:=by
 unfold Tr.kid;rw[if_pos (by omega)];exact h
theorem zGn:∀(n:Nat) (t:Tr) (pl:List Int),t.size<=n->∀x∈psub pl t,∃r,x.1=pl++r/\t.at_ r=some x.2/\r.length+1<=t.size
 |0,t,_,h=>absurd h (by have:=zCh t;omega)
 |n+1,t,pl,h=>λ x hx=>by
  rw[zGm] at hx;rcases lN.mp hx with rfl|hx
  ·exact⟨[],by simp,rfl,by have:=zCh t;simpa using this⟩
  ·obtain⟨⟨pl',k⟩,hk,hx⟩:=List.mem_flatMap.mp hx
   obtain⟨⟨k',i⟩,hi,e⟩:=mC.mp hk;cases e;have hki:=List.mem_zipIdx' hi
   have hg:t.parts[i]?=some k':=by
    rw[List.getElem?_eq_getElem hki.1,←hki.2]
   have hsz:=zBu (lM hg);obtain⟨r,e1,e2,e3⟩:=zGn n k' (pl++[(i:Int)]) (by omega) x hx;refine⟨(i:Int)::r,by rw[e1];simp,?_,by rw[List.length_cons];omega⟩;show (t.kid (i:Int)).bind (λ u=>u.at_ r)=_;rw[zKf hg];exact e2
theorem zJK {H:Hp}:Lv H noT []:=⟨(λ p h=>nomatch h),λ x=>trivial⟩
theorem zKA {X:Cx}{e:Expr}:PT X e (λ Ω Ω Ω=>False):=λ Ω Ω Ω Ω Ω Ω h=>h.elim
structure FlOk (φ:Str->Option Pce) (W:List Str) (t:Tr):Prop where
 sz:t.size<=60
 nl:NoLet t
 ct:∀p∈t.subs,(cnt1 p).length<=10
 wl:W.length<=100
 tw:∀x∈t.wrds,x∈W
 pz:∀g q,φ g=some q->q.2.size<=60/\NoLet q.2/\∀x∈q.2.wrds,x∈W
end L2
namespace PySem
open Sem (wp)
section
variable {prog:Program}{w:World}{A:Around}{E:Value->Shared->Prop}{s:Shared}{d it:Addr}{e:Int × Value}{ep i:Nat}{t:SetTable}
end
end PySem
namespace PySem.W
open PySem
end PySem.W
namespace PySem
open PySem.Spec PyProof.Rows Builtin
namespace DZ
theorem no_keys:typeLookup (.type "zip") "keys" = pure none:=am_miss_of_fast (by decide +kernel)
theorem zII:typeLookup (.type "zip") "__getattr__" = pure none:=by rw[typeLookup_type,builtinLookup_eq_fast];kernel_rfl
theorem zKp:entryFor table "zip.__getattribute__" = some Builtin.«object.__getattribute__»:=entryFor_alias (id' := "object.__getattribute__") (by kernel_rfl) (by decide +kernel) (by decide +kernel) (by kernel_rfl)
theorem zIO (a:Addr) (fs:Array Value) (sl:Array (Option Value)) (name:Str) (u:Tok) (hmiss:typeLookup (.type "zip") name=pure none) (hname:(["__module__", "__name__", "__qualname__", "__doc__", "__annotations__"]:List Str).contains name=false) (hsz:name.length+100<=sizeLine:=by size_fits) :
  Meets (Builtin.«object.__getattribute__» ⟨[.ref a,.str name u],[]⟩) (λ A R s=>s.heap.get? a=some { cls:=.type "zip", dict:=none,data:=.fields fs,slots:=sl }/\raisesAttr (.ref a) name A R s) :=
 Meets.of_wp λ prog w A R s hs=>by
  obtain⟨hp,g,d,tk,os⟩:=s;obtain⟨hx,hs⟩:=hs;have hT:(⟨hp,g,d,tk,os⟩:Shared).TypeIs (.ref a) "zip" := ⟨_,hx,rfl⟩;unfold Builtin.«object.__getattribute__»
  repeat (any_goals (first|assumption|wp_step))
  simp only[hname,Bool.false_eq_true,if_false]
  repeat (any_goals (first|assumption|wp_step))
  exact wpAny_raiseAttrError hs.1 hs.2 (attrMsg_fits (by decide +kernel) hsz)
theorem ask_miss {prog:Program}{w:World}{A:Around}{E:Value->Shared->Prop}{s:Shared}{a:Addr}{fs:Array Value}{sl:Array (Option Value)}{name:Str}{Q:Option Value->Shared->Prop}
  (hx:s.heap.get? a=some { cls:=.type "zip", dict:=none,data:=.fields fs,slots:=sl }) (hmiss:typeLookup (.type "zip") name=pure none)
  (hname:(["__module__", "__name__", "__qualname__", "__doc__", "__annotations__"]:List Str).contains name=false) (hA:A.handled=none) (hsz:name.length+100<=sizeLine)
  (h:∀h' tk,(∀b ob,s.heap.get? b=some ob->h'.get? b=some ob)->Q none { s with heap:=h',toks:=tk }):wpAny (model prog w) A (getAttr? (.ref a) name) Q E s:=by
 obtain⟨hp,g,d,tk,os⟩:=s;have hT:∀tk',(⟨hp,g,d,tk',os⟩:Shared).TypeIs (.ref a) "zip" := λ Ω=>⟨_,hx,rfl⟩;have f1:=sub_AttributeError;have f3:=F.slot_zip_getattribute.lookup;have f4:=F.slot_zip_getattribute.bind (.ref a);have f5:=zII;unfold getAttr? getAttrBy? getAttrBy
 repeat (any_goals (first|assumption|exact hT _|((with_reducible show wpAny _ _ (call (Value.builtin "zip.__getattribute__") _ _) _ _ _);refine call_meets F.slot_zip_getattribute (hT _) zKp (F.args_zip_getattribute_2 _ _) (zIO a fs sl name _ hmiss hname hsz) ⟨hx,hA,λ h' tk' e hx'=>?_⟩)|wp_step))
 obtain⟨t',u',he⟩:=hx'.there;show wpAny _ _ (getattributeRaised _ _ _ _ _ _ _) _ _ _;unfold getattributeRaised
 repeat (any_goals (first|assumption|wp_step))
 all_goals first
  |exact h _ _ hx'.keeps
  |skip
end DZ
end PySem
namespace L2
open PySem PySem.Spec PyProof.Rows
theorem zGx (l1 l2:Addr) (xs ys:Array Value) :
    Meets (Builtin.«zip.__new__» ⟨[.type "zip", .ref l1,.ref l2],[]⟩) (λ Ω R s=>s.heap.IsTuple l1 xs/\s.heap.IsList l2 ys /\
      ∀(h':Heap) (z TI TO i1 i2:Addr),(∀c o,s.heap.get? c=some o->h'.get? c=some o)->s.heap.objs.size<=z->s.heap.objs.size<=TI->s.heap.objs.size<=TO->s.heap.objs.size<=i1->s.heap.objs.size<=i2 ->
        (TI≠z/\TO≠z/\i1≠z/\i2≠z/\TI≠TO/\TI≠i1/\TI≠i2/\TO≠i1/\TO≠i2/\i1≠i2)->IsZip h' z TI TO .none->IsPair h' TI (.ref i1) (.ref i2)->IsPair h' TO .none .none->h'.IsTupleIter i1 l1 0->h'.IsListIter i2 l2 0 ->
        R (.ok (.ret (.ref z))) { s with heap:=h' }) :=
  .of_wp λ prog w A R s h=>by
    obtain⟨hp,g,d,tk,os⟩:=s;obtain⟨hl1,hl2,h⟩:=h;have hsub:=sub_zip;have hL1:Heap.IsTuple (Shared.heap ⟨hp,g,d,tk,os⟩) l1 xs:=hl1;have hL2:Heap.IsList (Shared.heap ⟨hp.push { cls:=.type "tuple_iterator", data:=.fields #[.ref l1,.int 0 0] },g,d,tk,os⟩) l2 ys:=let ⟨o,ho,r⟩:=hl2;⟨o,lE _ ho,r⟩
    wp_walk using wpAny_pyIter_tuple hL1,wpAny_pyIter_list hL2
    refine⟨_,rfl,h _ _ _ _ _ _ (λ c o e=>lE _ (lE _ (lE _ (lE _ (lE _ e))))) ?_ ?_ ?_ ?_ ?_ ?_ (lG _ rfl) (lE _ (lE _ (lG _ rfl))) (lE _ (lG _ rfl))
      ⟨_,lE _ (lE _ (lE _ (lE _ (lG _ rfl)))),rfl,rfl⟩ ⟨_,lE _ (lE _ (lE _ (lG _ rfl))),rfl,rfl⟩⟩
    all_goals simp only[Heap.size_push]
    all_goals first
      |omega
      | (refine⟨?_,?_,?_,?_,?_,?_,?_,?_,?_,?_⟩<;>(intro e;have e' : @Eq Nat _ _:=e;omega))
section
variable {prog:Program}{w:World}{A:Around}{E:Value->Shared->Prop}{s:Shared}
theorem zIS {l1 l2:Addr}{xs ys:Array Value}{Q:Value->Shared->Prop}(hl1:s.heap.IsTuple l1 xs) (hl2:s.heap.IsList l2 ys)
  (h:∀(h':Heap) (z TI TO i1 i2:Addr),(∀c o,s.heap.get? c=some o->h'.get? c=some o)->s.heap.objs.size<=z->s.heap.objs.size<=TI->s.heap.objs.size<=TO->s.heap.objs.size<=i1->s.heap.objs.size<=i2 ->
    (TI≠z/\TO≠z/\i1≠z/\i2≠z/\TI≠TO/\TI≠i1/\TI≠i2/\TO≠i1/\TO≠i2/\i1≠i2)->IsZip h' z TI TO .none->IsPair h' TI (.ref i1) (.ref i2)->IsPair h' TO .none .none->h'.IsTupleIter i1 l1 0->h'.IsListIter i2 l2 0->Q (.ref z) { s with heap:=h' }) :
  wpAny (model prog w) A (call (.type "zip") [.ref l1,.ref l2]) Q E s:=by
 refine callType_new F.called_zip (by decide) (F.typeCall_zip_2 _ _) (F.newCall_zip_2 _ _) (λ obj=>F.args_object_init_3 obj _ _) F.entry_zip_new (zGx l1 l2 xs ys) ⟨hl1,hl2,λ h' z TI TO i1 i2 a0 a1 a2 a3 a4 a5 a6 a7 a8 a9 b1 b2=>?_⟩;exact⟨⟨_,a7,rfl⟩,h h' z TI TO i1 i2 a0 a1 a2 a3 a4 a5 a6 a7 a8 a9 b1 b2⟩
end
section
variable {prog:Program}{w:World}{K:Type} [DecidableEq K] {knd:KeyKind prog w K}{A:Around}{R:Result->Shared->Prop}{E:Value->Shared->Prop}
theorem zL0 {h0:Heap}{d z TI TO i1 i2 l1 l2:Addr}{n1 n2:Nat}{P1 P2:Nat->Value->Prop}{S1 S2:Nat->Heap->Prop}{prs:List (K × Value)}(hh:A.handled=none) (D:ZipApart z TI TO i1 i2 l1 l2) (W1:Drs prog w i1 l1 n1 P1 S1) (W2:Drs prog w i2 l2 n2 P2 S2)
  (hd0:∀x∈[z,TI,TO,i1,i2,d],h0.objs.size<=x) (hdn:d≠z/\d≠TI/\d≠TO/\d≠i1/\d≠i2/\d≠l1/\d≠l2) (hl:prs.length=min n1 n2) (hk:∀j x kv,P1 j x->prs[j]?=some kv->knd.is kv.1 x=true) (hv:∀j y kv,P2 j y->prs[j]?=some kv->y=kv.2) (hsz:prs.length<=sizeLine) :
  ∀(n i:Nat) (s:Shared),min n1 n2 - i=n->i<=min n1 n2->(∀b o,h0.get? b=some o->s.heap.get? b=some o)->ZipS s.heap z TI TO->IsPair s.heap TI (.ref i1) (.ref i2)->(∃p q,IsPair s.heap TO p q)->S1 i s.heap->S2 i s.heap->s.heap.DictOf knd d (merged [] (prs.take i)) ->
   (∀h' tk,(∀b o,h0.get? b=some o->h'.get? b=some o)->h'.DictOf knd d (merged [] prs)->R (.ok (.ret .none)) { s with heap:=h',toks:=tk }) ->
   codeAny (model prog w) A (.builtin "dict.update.loop" ⟨[.ref d,.ref z,.int (i:Int) 0,.none],[]⟩) R s:=by
 obtain⟨dz,dTI,dTO,di1,di2,dl1,dl2⟩:=hdn;have kz:∀{b:Addr}{o:Obj},h0.get? b=some o->∀x∈[z,TI,TO,i1,i2,d],b≠x:=λ e x hx y=>absurd (lH e) (by rw[y];exact Nat.not_lt.mpr (hd0 x hx));intro n
 induction n with
 |zero =>
  intro i s hn hi kp hz hTI hTO h1 h2 hd hR;obtain⟨p,q,hTO⟩:=hTO;have e:i=min n1 n2:=by omega
  refine codeAny_builtin F.dul_entry ?_;rw[Around.under_plainId F.dul_plain _];refine lA (zG8 (k:=i) (show A.in1.handled=none from hh) D W1 W2 hz hTI hTO h1 h2 (by omega) λ h' tk hkp=>?_);show wpAny _ _ (Builtin.Dict.addKeywords d [] >>= _) _ _ _;refine lA (lB (lB (hR h' tk (λ b o hb=>hkp b o (kz hb z (by simp)) (kz hb TO (by simp)) (kz hb i1 (by simp)) (kz hb i2 (by simp)) (kp b o hb)) ?_)));rw[e,←hl,List.take_length] at hd;obtain⟨o,es,ep,ho,rest⟩:=hd;exact⟨o,es,ep,hkp d o dz dTO di1 di2 ho,rest⟩
 |succ n ih =>
  intro i s hn hi kp hz hTI hTO h1 h2 hd hR;obtain⟨p,q,hTO⟩:=hTO;have hlt:i<prs.length:=by omega
  obtain⟨kv,ekv⟩:∃kv,prs[i]?=some kv:=⟨_,lW hlt⟩;refine codeAny_builtin F.dul_entry ?_;rw[Around.under_plainId F.dul_plain _];refine lA (zFa (k:=i) (show A.in1.handled=none from hh) D W1 W2 hz hTI hTO h1 h2 (by omega) (by omega) λ h' tk x y p1 p2 hz' hTO' s1 s2 hpr hkp=>?_);have ey:y=kv.2:=hv i y kv p2 ekv;subst ey;have hkey:=hk i x kv p1 ekv;have lt:∀{b:Addr}{o:Obj},s.heap.get? b=some o->b≠s.heap.objs.size:=λ e=>lR (lH e);refine lA (lD (lA (wpAny_tryCatch ?_)));unfold Builtin.Dict.pairItems;have htp:h'.IsTuple s.heap.objs.size #[x,kv.2]:=⟨_,hpr,rfl,_,rfl⟩;refine lA (wpAny_typeOf (s:={ s with heap:=h',toks:=tk }) (v:=.ref s.heap.objs.size) (T := "tuple") htp.typeIs ?_);rw[if_pos (by decide)];obtain⟨o2,ho2,hc2,n2',hd2⟩:=htp;refine lA (wpAny_seqItems ho2 hd2 (lB ?_))
  have hd1:h'.DictOf knd d (merged [] (prs.take i)):=by
   obtain⟨o,es,ep,ho,rest⟩:=hd;exact⟨o,es,ep,hkp d o dz dTO di1 di2 ho,rest⟩
  have hml:(merged [] (prs.take i)).length<=sizeLine:=by
   have e1:=merged_length_le ([]:List (K × Value)) (prs.take i);rw[List.length_nil,List.length_take] at e1;omega
  show wpAny _ _ (holding [x,kv.2] (dictSet d x kv.2)) _ _ _;refine lD (wpAny_dictSet_pairs (hsz:=hml) hkey hd1 λ h2' hd2' hs2=>?_);refine lB ⟨plainId_quiet F.dul_plain _,?_⟩;have kb:∀{b:Addr}{o:Obj},b≠d->h'.get? b=some o->h2'.get? b=some o:=λ n e=>hs2.extBut _ _ n e;have hz2:ZipS h2' z TI TO:=by obtain⟨f0,f1,a,b⟩:=hz';exact⟨f0,f1,kb (Ne.symm dz) a,b⟩
  have hTI2:IsPair h2' TI (.ref i1) (.ref i2):=kb (Ne.symm dTI) (hkp TI _ D.1 D.TITO D.TIi1 D.TIi2 hTI);have hTO2:∃p q,IsPair h2' TO p q:=by obtain⟨p,q,e⟩:=hTO';exact⟨p,q,kb (Ne.symm dTO) e⟩
  have s12:S1 (i+1) h2':=(W1 A hh).frame _ _ _ s1 λ b hb o e=>by
   rcases lN.mp hb with r|hb
   ·exact kb (r▸Ne.symm di1) e
   ·exact kb (List.mem_singleton.mp hb▸Ne.symm dl1) e
  have s22:S2 (i+1) h2':=(W2 A hh).frame _ _ _ s2 λ b hb o e=>by
   rcases lN.mp hb with r|hb
   ·exact kb (r▸Ne.symm di2) e
   ·exact kb (List.mem_singleton.mp hb▸Ne.symm dl2) e
  refine ih (i+1) _ (by omega) (by omega) (λ b o hb=>kb (kz hb d (by simp)) (hkp b o (kz hb z (by simp)) (kz hb TO (by simp)) (kz hb i1 (by simp)) (kz hb i2 (by simp)) (kp b o hb))) hz2 hTI2 hTO2 s12 s22 ?_ λ h' tk k' d'=>hR h' tk k' d';rw[merged_take_succ [] prs i kv ekv];exact hd2'
end
section
variable {prog:Program}{w:World}{K:Type} [DecidableEq K] {knd:KeyKind prog w K}{A:Around}{E:Value->Shared->Prop}
theorem zFZ {s:Shared}{h0:Heap}{z TI TO i1 i2 l1 l2:Addr}{n1 n2:Nat}{P1 P2:Nat->Value->Prop}{S1 S2:Nat->Heap->Prop}{prs:List (K × Value)}{Q:Value->Shared->Prop}(hA:A.handled=none) (D:ZipApart z TI TO i1 i2 l1 l2) (W1:Drs prog w i1 l1 n1 P1 S1) (W2:Drs prog w i2 l2 n2 P2 S2)
  (hz:ZipS s.heap z TI TO) (hTI:IsPair s.heap TI (.ref i1) (.ref i2)) (hTO:∃p q,IsPair s.heap TO p q) (h1:S1 0 s.heap) (h2:S2 0 s.heap) (k0:∀b o,h0.get? b=some o->s.heap.get? b=some o) (hle:h0.objs.size<=s.heap.objs.size) (hd0:∀x∈[z,TI,TO,i1,i2],h0.objs.size<=x/\x<s.heap.objs.size) (hll:l1<s.heap.objs.size/\l2<s.heap.objs.size)
  (hl:prs.length=min n1 n2) (hk:∀j x kv,P1 j x->prs[j]?=some kv->knd.is kv.1 x=true) (hv:∀j y kv,P2 j y->prs[j]?=some kv->y=kv.2) (hsz:prs.length<=sizeLine)
  (h:∀h' tk,(∀b o,h0.get? b=some o->h'.get? b=some o)->h'.DictOf knd s.heap.objs.size (merged [] prs)->Q (.ref s.heap.objs.size) { s with heap:=h',toks:=tk }) :
  wpAny (model prog w) A (call (.type "dict") [.ref z]) Q E s:=by
 refine callType_codes (Q₁:=λ obj s₁=>obj = .ref s.heap.objs.size/\s₁={ s with heap:=s.heap.push { cls:=.type "dict", data:=.dict #[] } }) F.kt_called_dict (F.kt_typeCall_dict_1 _) F.entry_dict_init (kt_code_dict_new _ ⟨rfl,rfl⟩) ?_;rintro obj s₁ ⟨rfl,rfl⟩;have hnew:(s.heap.push { cls:=.type "dict", data:=.dict #[] }).DictOf knd s.heap.objs.size []:=Heap.DictOf.new s.heap;have kp0:∀b o,s.heap.get? b=some o->(s.heap.push { cls:=.type "dict", data:=.dict #[] }).get? b=some o:=λ b o hb=>lE _ hb;obtain⟨f0,f1,hzf,hf⟩:=hz;have hz0:=kp0 _ _ hzf;refine⟨hnew.typeIs,F.args_dict_init_2 _ _,?_⟩;unfold Builtin.«dict.__init__»;refine lA ?_;unfold Builtin.Dict.selfAndRest;refine lA (wpAny_notOrdered_dict hnew.typeIs ?_);show wpAny _ _ (pure (s.heap.objs.size,[Value.ref z])) _ _ _;refine lB ?_;show wpAny _ _ (Builtin.Dict.updateFrom "dict.__init__" s.heap.objs.size (.ref z) [] .none) _ _ _;unfold Builtin.Dict.updateFrom;refine lA (wpAny_typeOf (v:=.ref z) (T := "zip") ⟨_,hz0,rfl⟩ ?_);rw[if_pos (by decide)];refine lA (DZ.ask_miss hz0 DZ.no_keys (by decide +kernel) hA (by size_fits) λ h1' tk kp1=>?_);rw[if_pos (show (Option.none:Option Value).isNone=true from rfl)];have kp01:∀b o,s.heap.get? b=some o->h1'.get? b=some o:=λ b o hb=>kp1 b o (kp0 b o hb);refine lA (wpAny_rule ?_);have hz1:ZipS h1' z TI TO:=⟨f0,f1,kp01 _ _ hzf,hf⟩;refine lA (zG6 hz1 ?_)
 have hd1:h1'.DictOf knd s.heap.objs.size []:=by
  obtain⟨o,es,ep,ho,rest⟩:=hnew;exact⟨o,es,ep,kp1 _ _ ho,rest⟩
 have ne:∀x∈[z,TI,TO,i1,i2],s.heap.objs.size≠x:=λ x hx=>Ne.symm (lR (hd0 x hx).2);refine lB ⟨plainId_quiet F.dul_plain _,?_⟩;refine zL0 (h0:=h0) (knd:=knd) (A:=A.in1) (n1:=n1) (n2:=n2) (P1:=P1) (P2:=P2) (S1:=S1) (S2:=S2) hA D W1 W2 (λ x hx=>?_) ⟨ne z (by simp),ne TI (by simp),ne TO (by simp),ne i1 (by simp),ne i2 (by simp),Ne.symm (lR hll.1),Ne.symm (lR hll.2)⟩ hl hk hv hsz (min n1 n2) 0 _ (by omega) (lY _) (λ b o hb=>kp01 b o (k0 b o hb)) hz1 (kp01 _ _ hTI) ?_ ((W1 A hA).frame _ _ _ h1 λ b Ω o e=>kp01 b o e) ((W2 A hA).frame _ _ _ h2 λ b Ω o e=>kp01 b o e) hd1 λ h' tk' k' d'=>?_
 ·simp only[List.mem_cons,List.not_mem_nil,or_false] at hx
  rcases hx with r|r|r|r|r|r
  ·exact(hd0 x (by simp[r])).1
  ·exact(hd0 x (by simp[r])).1
  ·exact(hd0 x (by simp[r])).1
  ·exact(hd0 x (by simp[r])).1
  ·exact(hd0 x (by simp[r])).1
  ·rw[r];exact hle
 ·obtain⟨p,q,e⟩:=hTO
  exact⟨p,q,kp01 _ _ e⟩
 ·exact⟨rfl,h h' tk' k' d'⟩
end
noncomputable def zipK (xs:List Str) (ys:List V):List (Key × V):=(xs.zip ys).map λ p=>((Sum.inr p.1:Key),p.2)
noncomputable def zJ5 (ta:TA):TE:=λ σ H Q=>ta σ H λ vs H1=>∃(a b:Addr) (xs:List Str) (ys:List V),vs=[.ref a,.ref b]/\H1 a=some (.tup (xs.map V.str))/\H1 b=some (.lst ys)/\xs.length<=1000/\∀d,H1 d=none->Q (.ref d) (upd H1 d (.dK (zAu [] (zipK xs ys))))
theorem zH8 {X:Cx}{a b:Expr}{ta:TA}{p p2 pos pos2:Pos}(hc:X.calm=true) (hg:Gl X "dict") (hm:X.mg "dict" = none) (hg2:Gl X "zip") (hm2:X.mg "zip" = none) (ha:PA X [a,b] ta) (hs:starEach [a,b] X.env=[(false,eval a X.env),(false,eval b X.env)]:=by rfl) (hs2:starEach [b] X.env=[(false,eval b X.env)]:=by rfl)
  (hs3:starEach [Expr.Call (.Name "zip" p2) [a,b] [] pos2] X.env=[(false,eval (Expr.Call (.Name "zip" p2) [a,b] [] pos2) X.env)]:=by rfl) :
  PE X (.Call (.Name "dict" p) [.Call (.Name "zip" p2) [a,b] [] pos2] [] pos) (zJ5 ta):=by
 intro jP s σ H Q I h;refine Call_ (zBv I hg hm PyProof.Rows.boot_dict (PyProof.Rows.callWith_type1 ?_ hs3 rfl));rw[hs3];show wpAny _ _ (spliced [(false,eval (Expr.Call (.Name "zip" p2) [a,b] [] pos2) X.env)]) _ _ s;refine Calls.spliced_cons ?_;refine Call_ (zBv I hg2 hm2 zDK (PyProof.Rows.callWith_type1 (thn (ha pos2 jP s σ H _ I h) λ us s1 ⟨vs,H1,I1,r1,q1⟩=>?_) (by rw[hs,hs2]) (by rw[hs2];rfl)));obtain⟨la,lb,xs,ys,e,h1,h2,hx,q⟩:=q1;subst e;obtain⟨u1,u2,rfl,ru1,ru2⟩:=vals2 r1;cases ru1;cases ru2;obtain⟨its,rv,t1,_⟩:=I1.tuple (SqT.of h1);obtain⟨its2,rv2,t2,_⟩:=I1.list (SqL.of h2);have e1:=rv.length;have e2:=rv2.length;rw[List.length_map] at e1;refine zIS (show s1.heap.IsTuple la its.toArray from t1) t2.isList λ h' z TI TO i1 i2 a0 a1 a2 a3 a4 a5 a6 a7 a8 a9 b1 b2=>?_;refine Calls.spliced_nil ?_;have lla:la<s1.heap.objs.size:=let ⟨o,e,_⟩:=t1;lH e;have llb:lb<s1.heap.objs.size:=let ⟨o,_,e,_⟩:=t2;lH e;obtain⟨n1,n2,n3,n4,n5,n6,n7,n8,n9,n10⟩:=a6
 have D:ZipApart z TI TO i1 i2 la lb:=⟨n1,n2,n3,n4,n5,n6,n7,n8,n9,n10,lR (lZ lla a1),lR (lZ lla a3),lR (lZ lla a4),lR (lZ lla a5),
  lR (lZ llb a1),lR (lZ llb a3),lR (lZ llb a4),lR (lZ llb a5)⟩
 have L1:h'.IsTuple la its.toArray:=let ⟨o,e,r⟩:=t1;⟨o,a0 _ _ e,r⟩;have L2:h'.IsList lb its2.toArray:=let ⟨o,n,e,r⟩:=t2;PlainL.isList ⟨o,n,a0 _ _ e,r⟩;have hge:s1.heap.objs.size<=h'.objs.size:=mG a1 (Nat.le_of_lt (lH a7))
 have lz:∀x∈[z,TI,TO,i1,i2],s1.heap.objs.size<=x/\x<h'.objs.size:=λ x hx=>by
  simp only[List.mem_cons,List.not_mem_nil,or_false] at hx;rcases hx with rfl|rfl|rfl|rfl|rfl
  ·exact⟨a1,lH a7⟩
  ·exact⟨a2,lH a8⟩
  ·exact⟨a3,lH a9⟩
  ·obtain⟨_,e,_⟩:=b1;exact⟨a4,lH e⟩
  ·obtain⟨_,e,_⟩:=b2;exact⟨a5,lH e⟩
 let prs:List (Key × Value):=(xs.zip its2).map λ p=>((Sum.inr p.1:Key),p.2)
 have lp:prs.length=min its.toArray.size its2.toArray.size:=by simp[prs];omega
 have get:∀(j:Nat) (kv:Key × Value),prs[j]?=some kv->∃x y,xs[j]?=some x/\its2[j]?=some y/\kv=(Sum.inr x,y):=λ j kv e=>by
  have e':((xs.zip its2).map λ p=>((Sum.inr p.1:Key),p.2))[j]?=some kv:=e;rw[List.getElem?_map] at e';obtain⟨pq,e1,e2⟩:=lV.mp e';obtain⟨g1,g2⟩:=List.getElem?_zip_eq_some.mp e1;exact⟨pq.1,pq.2,g1,g2,e2.symm⟩
 have kvr:KV (zipK xs ys) prs:=by
  have key:∀(xs:List Str) {ys:List V}{us:List Value},Vals ys us->KV (zipK xs ys) ((xs.zip us).map λ p=>((Sum.inr p.1:Key),p.2)):=by
   intro xs
   induction xs with
   |nil=>intro ys us _;exact .nil
   |cons x xs ih =>
    intro ys us r;cases r with
    |nil=>exact .nil
    |cons r t=>exact .cons ⟨rfl,r⟩ (ih t)
  exact key xs rv2
 have hm2':(zAu [] (zipK xs ys)).length<=sizeLine:=by
  have:=zBi (zipK xs ys) [];have l2:(zipK xs ys).length<=xs.length:=by unfold zipK;rw[List.length_map,List.length_zip];omega
  rw[List.length_nil] at this;exact zA3 (by omega)
 refine zFZ (s:={ s1 with heap:=h' }) (h0:=s1.heap) (knd:=zAf X.prog X.w) (prs:=prs) (I1.ok.hd hc) D (zJh i1 la D.l1i1 its.toArray) (zHo i2 lb D.l2i2 its2.toArray) ⟨_,_,a7,.inl rfl⟩ a8 ⟨_,_,a9⟩ ⟨b1,L1⟩ ⟨b2,L2⟩ a0 hge lz ⟨lZ lla hge,lZ llb hge⟩ lp (λ j x kv hx ekv=>?_) (λ j y kv hy ekv=>?_) ?_ λ h2 tk k2 d2=>?_
 ·obtain⟨x0,y0,g1,g2,rfl⟩:=get j kv ekv
  have g1':(xs.map V.str)[j]?=some (.str x0):=by rw[List.getElem?_map,g1];rfl
  obtain⟨u,eu,ru⟩:=rv.get g1'
  have:u=x:=by
   have:its[j]?=some x:=by simpa using hx
   rw[eu] at this;exact mE this
  subst this;exact kV_is (k:=(Sum.inr x0:Key)) ru
 ·obtain⟨x0,y0,g1,g2,rfl⟩:=get j kv ekv
  have:its2[j]?=some y:=by simpa using hy
  rw[g2] at this;exact(mE this).symm
 ·rw[lp]
  exact zA3 (by simp;omega)
 ·have hn:H1 h'.objs.size=none:=I1.hok.fresh hge
  have hb:s1.heap.objs.size<=h'.objs.size:=hge;refine⟨.ref h'.objs.size,_,I1.laid (a:=h'.objs.size) (o:=.dK (zAu [] (zipK xs ys))) (t':=tk) k2 hge (zE3 hm2' (beq_eq_false_iff_ne.mpr (Ne.symm (lR (lZ I1.big hge)))) (kvr.merge .nil) d2),rfl,q _ hn⟩
end L2
namespace PySem
open Sem (wp)
end PySem
namespace PySem.W
open PySem PySem.Spec PySem.Calls PyProof.Rows Builtin Builtin.ObjectAttr
section
variable {prog:Program}{w:World}{A:Around}{E:Value->Shared->Prop}{K:Frag}{x D dx:Addr}{h:Heap}{g:Array GenState}{d:Drawn}{t:Nat}{os:OsState}{mA:Str->Option Value}{name:Str}{v:Value}
end
section
variable {prog:Program}{w:World}{A:Around}{E:Value->Shared->Prop}{K:Frag}{x D R:Addr}{h:Heap}{g:Array GenState}{d:Drawn}{t:Nat}{os:OsState}{name:Str}{v:Value}{o:Obj}{vs:Array Value}
end
section
variable {prog:Program}{w:World}{A:Around}{E:Value->Shared->Prop}{K:Frag}{x D R:Addr}{h:Heap}{g:Array GenState}{d:Drawn}{t:Nat}{os:OsState}{tv:Value}{t0:Addr}{o:Obj}
end
section
variable {prog:Program}{w:World}{A:Around}{E:Value->Shared->Prop}{K:Frag}{x D R f:Addr}{h:Heap}{g:Array GenState}{d:Drawn}{t:Nat}{os:OsState}
end
end PySem.W
namespace L2
open PySem PySem.W PyProof.Rows
section
variable {n:Nat}{r:Nat->Nat->Bool}
end
end L2
namespace L2
open PySem PySem.Spec PyProof.Rows PySem.W
instance:DecidableEq Dt:=λ d e=>decidable_of_iff (Dt.beq d e=true) Dt.beq_iff
mutual
inductive DA (h:Heap):Dt->Value->Prop
 |int (i:Int) (t:Tok):DA h (.int i) (.int i t)
 |str (x:Str) (t:Tok):DA h (.str x) (.str x t)
 |tup {a:Addr}{items:Array Value}{ds:List Dt}:h.IsTuple a items->DAs h ds items.toList->DA h (.tup ds) (.ref a)
inductive DAs (h:Heap):List Dt->List Value->Prop
 |nil:DAs h [] []
 |cons {d:Dt}{u:Value}{ds:List Dt}{us:List Value}:DA h d u->DAs h ds us->DAs h (d::ds) (u::us)
end
section
variable {P:Program}{w:World}{H:Hp}{h:Heap}
end
section
variable {s:Shared}
end
mutual
noncomputable def Dt.hsh (w:World):Dt->Int
 |.int i=>hashInt i
 |.str x=>hashStr w x
 |.tup ds=>reduceHash (Builtin.Tuple.tupleHashOf (Dt.hshs w ds))
noncomputable def Dt.hshs (w:World):List Dt->List Int
 |[]=>[]
 |d::ds=>Dt.hsh w d::Dt.hshs w ds
end
mutual
noncomputable def Dt.draws:Dt->Nat
 |.int _=>1
 |.str _=>1
 |.tup ds=>Dt.drawss ds+1
noncomputable def Dt.drawss:List Dt->Nat
 |[]=>0
 |d::ds=>Dt.draws d+Dt.drawss ds
end
section
variable {prog:Program}{w:World}{E:Value->Shared->Prop}
end
noncomputable def strLt (x y:Str):Bool:=decide (x.cps.toList<y.cps.toList)
mutual
noncomputable def Dt.lt:Dt->Dt->Bool
 |.int i,.int j=>decide (i<j)
 |.str x,.str y=>strLt x y
 |.tup ds,.tup es=>Dt.lts ds es
 |.int _,.str _=>true
 |.int _,.tup _=>true
 |.str _,.tup _=>true
 |.str _,.int _=>false
 |.tup _,.int _=>false
 |.tup _,.str _=>false
noncomputable def Dt.lts:List Dt->List Dt->Bool
 |[],[]=>false
 |[],_::_=>true
 |_::_,[]=>false
 |d::ds,e::es=>if Dt.beq d e=true then Dt.lts ds es else Dt.lt d e
end
inductive Ty where
 |int|str|many (t:Ty)|two (a b:Ty)
mutual
noncomputable def Dt.has:Ty->Dt->Bool
 |.int,.int _=>true
 |.str,.str _=>true
 |.many t,.tup ds=>Dt.hass t ds
 |.two a b,.tup ds=>Dt.hasp a b ds
 |_,_=>false
noncomputable def Dt.hass:Ty->List Dt->Bool
 |_,[]=>true
 |t,d::ds=>Dt.has t d && Dt.hass t ds
noncomputable def Dt.hasp:Ty->Ty->List Dt->Bool
 |a,b,d::es=>Dt.has a d && Dt.hasq b es
 |_,_,_=>false
noncomputable def Dt.hasq:Ty->List Dt->Bool
 |b,e::es=>Dt.has b e && (es.length == 0)
 |_,_=>false
end
mutual
noncomputable def Dt.cmp:Dt->Dt->Bool
 |.int _,.int _=>true
 |.str _,.str _=>true
 |.tup ds,.tup es=>Dt.cmps ds es
 |_,_=>false
noncomputable def Dt.cmps:List Dt->List Dt->Bool
 |[],_=>true
 |_::_,[]=>true
 |d::ds,e::es=>if Dt.beq d e=true then Dt.cmps ds es else Dt.cmp d e
end
end L2
namespace L2
open PySem PySem.Calls PySem.Spec PyProof.Rows PySem.W
open AutoSeq1 (wpAny_loadPart')
section
variable {prog:Program}{w:World}{A:Around}{E:Value->Shared->Prop}{s:Shared}
end
section
variable {prog:Program}{w:World}{A:Around}{E:Value->Shared->Prop}{s:Shared}
end
end L2
namespace L2
open PySem PySem.W PyProof.Rows
structure LtE (M:Model) (A:Around) (E:Value->Shared->Prop) (s:Shared) (κ:SortKind) (G:Keyed->Prop) (R:Keyed->Keyed->Bool):Prop where
 lt:∀x y,G x->G y->∀(st:SortSt) (Q:Option Bool->SortSt->Prop),kindOf st=κ->Q (some (R x y)) st->wpS M A E s (lt' x y) Q st
 asym:∀x y,G x->G y->R x y=true->R y x=false
 tr:∀x y z,G x->G y->G z->R x y=false->R y z=false->R x z=false
section
variable {M:Model}{A:Around}{E:Value->Shared->Prop}{s:Shared}{κ:SortKind}{G:Keyed->Prop}{R:Keyed->Keyed->Bool}
end
section
variable {R:Keyed->Keyed->Bool}{A B o as bs p:List Keyed}
end
section
variable {M:Model}{A:Around}{E:Value->Shared->Prop}{s:Shared}{κ:SortKind}{G:Keyed->Prop}{R:Keyed->Keyed->Bool}
abbrev d0:Keyed:=(.none,.none)
section
variable {a b o:Array Keyed}{ia ib k:Nat}
end
end
section
variable {M:Model}{A:Around}{E:Value->Shared->Prop}{s:Shared}{κ:SortKind}{G:Keyed->Prop}{R:Keyed->Keyed->Bool}
end
section
variable {M:Model}{A:Around}{E:Value->Shared->Prop}{s:Shared}{κ:SortKind}{G:Keyed->Prop}{R:Keyed->Keyed->Bool}
section
variable {a b o:Array Keyed}{na nb k:Nat}
end
end
section
variable {M:Model}{A:Around}{E:Value->Shared->Prop}{s:Shared}{κ:SortKind}{G:Keyed->Prop}{R:Keyed->Keyed->Bool}
end
section
variable {M:Model}{A:Around}{E:Value->Shared->Prop}{s:Shared}{κ:SortKind}{G:Keyed->Prop}{R:Keyed->Keyed->Bool}
end
section
variable {M:Model}{A:Around}{E:Value->Shared->Prop}{s:Shared}{κ:SortKind}{G:Keyed->Prop}{R:Keyed->Keyed->Bool}{a₀:Array Keyed}
end
end L2
namespace L2
open PySem PySem.Calls PySem.W PyProof.Rows
section
variable {prog:Program}{w:World}{A:Around}{E:Value->Shared->Prop}{s:Shared}{κ:SortKind}{G:Keyed->Prop}{R:Keyed->Keyed->Bool}
end
end L2
namespace L2
open PySem PySem.Calls PySem.Spec PySem.W PyProof.Rows
open Classical in
noncomputable def dtOf (h:Heap) (v:Value):Dt:=if e:∃d,DA h d v then e.choose else .tup []
section
variable {prog:Program}{w:World}{A:Around}{E:Value->Shared->Prop}{s:Shared}
end
end L2
namespace L2
open PySem PySem.Calls PySem.Spec PyProof.Rows PySem.W
section
variable {X:Cx}
end
abbrev XN:=List (Dt × Addr × V)
noncomputable def prs (xs:XN):List (Dt × V):=xs.map λ x=>(x.1,x.2.2)
section
variable {P:Program}{w:World}{H H':Hp}{h:Heap}{a:Addr}{kvs:List (Dt × V)}
end
section
variable {X:Cx}{jP:List (Addr × Obj)}{σ:L2.St}{H:Hp}{s:Shared}{a b:Addr}{k:Dt}{kvs:List (Dt × V)}{v:V}{A:Around}{E:Value->Shared->Prop}
end
end L2
namespace PySem
open Sem (wp)
section
variable {prog:Program}{w:World}{A:Around}{E:Value->Shared->Prop}{s:Shared}{d it:Addr}{es:Array DictEntry}{ep i:Nat}
end
end PySem
namespace PySem.W
open PySem
section
variable {prog:Program}{w:World}{d r:Addr}{es:Array DictEntry}{ep:Nat}
end
end PySem.W
namespace L2
open PySem PySem.Calls PySem.Spec PyProof.Rows PySem.W
section
variable {X:Cx}{o i e f value:Expr}{pos pos' tpos apos cpos:Pos}{td ty tv tx:TE}
end
end L2
namespace L2
open PySem PySem.Spec PyProof.Rows
end L2
namespace PyProof.Rows
open PySem PySem.Calls
end PyProof.Rows
namespace L2
open PySem PySem.Calls PySem.Spec PyProof.Rows PySem.W
section
variable {X:Cx}
end
section
variable {prog:Program}{w:World}{A:Around}{E:Value->Shared->Prop}{s:Shared}
end
theorem zDt (x:Str):Str.empty++x=x:=by
 show (⟨#[]++x.cps⟩:Str)=x;simp
end L2
namespace L2
open PySem PySem.Spec PyProof.Rows
section
variable {P:Program}{w:World}{H H':Hp}{h h':Heap}{ea C dx:Addr}
end
section
variable {X:Cx}{jP:List (Addr × Obj)}{σ:St}{H H':Hp}{s s':Shared}{h':Heap}{ea dx C:Addr}{φ:Heap->Prop}{o1 o2:HO}{t':Nat}
end
noncomputable def tFStr (te:TE) (y:Str):TE:=λ σ H Q=>te σ H λ v H1=>∃x:Str,v = .str x/\y.length+x.length<=sizeLine/\Q (.str (y++x)) H1
theorem zLe {X:Cx}{e:Expr}{te:TE}{y:Str}{j} {p1 p2 pos:Pos}(he:PE X e te) (hy:y.length<=1000:=by decide +kernel):PE X (.JoinedStr [.Constant (.str y) j p2,.FormattedValue e (-1) none p1] pos) (tFStr te y):=by
 intro jP s σ H Q I h;refine wpAny_JoinedStr ?_;show wpAny _ _ (eval (.Constant (.str y) j p2) X.env) _ _ s;have e0:Str.empty++y=y:=zDt _;refine Calls.Constant_str ⟨y,_,rfl,?_,?_⟩
 ·rw[e0];exact mG hy (by decide)
 ·show wpAny _ _ (eval (.FormattedValue e (-1) none p1) X.env) _ _ _
  refine wpAny_FormattedValue_plain (thn (he jP _ σ H _ (I.tok _) h) λ v s1 ⟨u,H1,I1,r1,x,ex,hx,q⟩=>?_);subst ex;obtain⟨t,rfl⟩:=r1
  have fin:∀(t':Tok) (tk:Nat),∃z u',(Value.str x t':Value) = .str z u'/\(Str.empty++y++z).length<=sizeLine/\Joins (model X.prog X.w) X.A X.xe (evalEach [] X.env) (Str.empty++y++z) (λ out s₁=>out.length<=sizeLine/\EP X jP σ Q (.str out s₁.toks) { s₁ with toks:=s₁.toks+1 }) { s1 with toks:=tk }:=λ t' tk=>by
   refine⟨_,t',rfl,by rw[e0,strLen_append];exact hx,?_⟩;rw[e0];exact⟨by rw[strLen_append];exact hx,.str (y++x),H1,I1.tok _,⟨_,rfl⟩,q⟩
  exact wpAny_formatField_str (fin _ _) (fin _ _) (by omega)
end L2
namespace L2
open PySem
inductive LfA (φ:Str->Option Pce):Atom->Atom->Prop
 |gap {h:Str}{ns:List Str}{n:Int}:φ h=some (ns,.num n)->LfA φ (.gap h) (.num n)
 |name (x:Str):LfA φ (.name x) (.name x)
 |num (n:Int):LfA φ (.num n) (.num n)
noncomputable def tzF (τ:Told):List (Str × Atom)->Told
 |[]=>τ
 |p::r=>tzF (setT τ p.1 p.2) r
theorem zLr {H:Hp}{τ:Told}{kvs:List (Key × V)}{n:Str}{a:Atom}{v:V}(h:Lv H τ kvs) (r:AtRep H a v):Lv H (setT τ n a) (putK kvs (Sum.inr n:Key) v):=by
 refine⟨λ p hp=>?_,λ x=>?_⟩
 ·rcases zER hp with rfl|hp
  ·exact⟨n,a,rfl,r⟩
  ·exact h.ks p hp
 ·rw[zCb]
  unfold setT
  by_cases e:x=n
  ·rw[if_pos e,if_pos (by rw[e])]
   exact r
  ·rw[if_neg e,if_neg (λ z=>e (Sum.inr.inj z))]
   exact h.vl x
theorem zHe {H:Hp}:∀{ns:List Str}{las:List Atom}{vs:List V}{τ:Told}{kvs:List (Key × V)},Lv H τ kvs->Paired (AtRep H) las vs->Lv H (tzF τ (ns.zip las)) (zAu kvs (zipK ns vs))
 |[],_,_,_,_,h,_=>h
 |_::_,_,_,_,_,h,.nil=>h
 |n::ns,_,_,_,_,h,.cons r t=>zHe (ns:=ns) (zLr h r) t
theorem zJJ {more:List (Key × V)}:∀{kvs:List (Key × V)}{p:Key × V},p∈zAu kvs more->p∈kvs\/p∈more:=by
 induction more with
 |nil=>exact λ h=>.inl h
 |cons q more ih =>
  intro kvs p h;rcases ih (show p∈zAu (putK kvs q.1 q.2) more from h) with h|h
  ·rcases zER h with h|h
   ·exact .inr (by rw[h];exact lO)
   ·exact .inl h
  ·exact .inr (lP _ h)
theorem zMi {H:Hp}{a b:Atom}{v:V}(h:AtRep H a v) (k:AtRep H b v):a=b:=by
 cases a<;>cases b
 ·obtain⟨p,rfl,h⟩:=h;obtain⟨p',e,k⟩:=k;cases e;rw[h] at k;simp at k;rw[k]
 ·obtain⟨p,rfl,h⟩:=h;obtain⟨p',e,k⟩:=k;cases e;rw[h] at k;simp at k
 ·obtain⟨p,rfl,h⟩:=h;obtain⟨p',b',e,k,_⟩:=k;cases e;rw[h] at k;simp at k
 ·obtain⟨p,rfl,h⟩:=h;obtain⟨p',e,k⟩:=k;cases e;rw[h] at k;simp at k
 ·obtain⟨p,rfl,h⟩:=h;obtain⟨p',e,k⟩:=k;cases e;rw[h] at k;simp at k;rw[k]
 ·obtain⟨p,rfl,h⟩:=h;obtain⟨p',b',e,k,_⟩:=k;cases e;rw[h] at k;simp at k
 ·obtain⟨p,b',rfl,h,_⟩:=h;obtain⟨p',e,k⟩:=k;cases e;rw[h] at k;simp at k
 ·obtain⟨p,b',rfl,h,_⟩:=h;obtain⟨p',e,k⟩:=k;cases e;rw[h] at k;simp at k
 ·obtain⟨p,b',rfl,h,_⟩:=h;obtain⟨p',b2,e,k,_⟩:=k;cases e;rw[h] at k;simp at k;rw[k.1]
theorem zG7:∀{ns:List Str}{vs:List V}{p:Key × V},p∈zipK ns vs->p.2∈vs
 |[],_,_,h=>by simp[zipK] at h
 |_::_,[],_,h=>by simp[zipK] at h
 |n::ns,v::vs,p,h=>by
  rcases lN.mp (show p∈(Sum.inr n,v)::zipK ns vs from h) with rfl|h
  ·exact lO
  ·exact lP _ (zG7 h)
theorem zHV {α:Type}{F:α->V->Prop}:∀{as:List α}{us:List V}{v:V},Paired F as us->v∈us->∃a∈as,F a v
 |_,_,_,.nil,h=>nomatch h
 |_,_,_,.cons r t,h=>by
  rcases lN.mp h with rfl|h
  ·exact⟨_,lO,r⟩
  ·obtain⟨a,ha,f⟩:=zHV t h
   exact⟨a,lP _ ha,f⟩
theorem zA5 {t:Tr}{qs:List Tr}(h:qs.length=t.parts.length):(t.withP qs).parts=qs:=by
 cases t with
 |say a=>match qs,h with | [_],_=>rfl
 |bin o a b=>match qs,h with | [_,_],_=>rfl
 |ite a b c=>match qs,h with | [_,_,_],_=>rfl
 |lett x a b=>match qs,h with | [_,_],_=>rfl
 |_=>rw[List.length_eq_zero_iff.mp h];rfl
theorem zDx {t:Tr}{qs rs:List Tr}(h:qs.length=t.parts.length) (k:rs.length=t.parts.length):(t.withP qs).withP rs=t.withP rs:=by
 cases t with
 |say a=>match qs,h,rs,k with | [_],_,[_],_=>rfl
 |bin o a b=>match qs,h,rs,k with | [_,_],_,[_,_],_=>rfl
 |ite a b c=>match qs,h,rs,k with | [_,_,_],_,[_,_,_],_=>rfl
 |lett x a b=>match qs,h,rs,k with | [_,_],_,[_,_],_=>rfl
 |_=>rw[List.length_eq_zero_iff.mp h,List.length_eq_zero_iff.mp k];rfl
theorem zCa (t:Tr):t.withP t.parts=t:=by cases t<;>rfl
noncomputable def fillT (c:Tr->Tr):Tr->Tr
 |.gap g as=>c (.gap g as)
 |.say a=>.say (fillT c a)
 |.bin o a b=>.bin o (fillT c a) (fillT c b)
 |.ite a b d=>.ite (fillT c a) (fillT c b) (fillT c d)
 |.lett x a b=>.lett x (fillT c a) (fillT c b)
 |t=>t
noncomputable def fillS (c:Tr->Tr) (w:Tr) (x:PlT):Tr:=if x.2.sign = "gap" then putT w x.1 (c x.2) else w
noncomputable def PcOk (φ:Str->Option Pce) (W:List Str) (c:Tr->Tr) (t:Tr):Prop:=∀(g:Str) (as:List Atom),Tr.gap g as∈t.subs->∃(ns:List Str) (u:Tr) (las:List Atom),φ g=some (ns,u)/\ns.length<=1000/\as.length=las.length/\(∀(j:Nat) (a b:Atom),as[j]?=some a->las[j]?=some b->LfA φ a b)/\(∀y,Atom.name y∈las->y∈W)/\c (.gap g as)=sbT (tzF noT (ns.zip las)) u
theorem zG0 {t:Tr}(hs:t.sign = "gap"):∃g as,t = .gap g as:=by
 cases t with
 |gap g as=>exact⟨g,as,rfl⟩
 |bin o a b=>cases o<;>exact absurd (show (Str.ofString _:Str)=Str.ofString "gap" from hs) (by decide +kernel)
 |_=>exact absurd (show (Str.ofString _:Str)=Str.ofString "gap" from hs) (by decide +kernel)
noncomputable def numV (cs:List Nat):List V:=cs.map λ(n:Nat)=>V.int (n:Int)
theorem zCp:∀{ks T:List Str},ks.Nodup->(∀g∈ks,g∈T)->ks.length<=T.length
 |[],_,_,_=>lY _
 |k::ks,T,nd,h=>by
  obtain⟨n1,n2⟩:=List.nodup_cons.mp nd;have hk:=h k lO;have ih:=zCp (ks:=ks) (T:=T.erase k) n2 λ g hg=>(List.mem_erase_of_ne (λ e=>n1 (by rw[←e];exact hg))).mpr (h g (lP _ hg));rw[List.length_erase_of_mem hk] at ih;have:=List.length_pos_of_mem hk;rw[List.length_cons];omega
theorem zJY (x:Str) (ws:List Str):inV (V.str x) (ws.map V.str)=true↔x∈ws:=by
 unfold inV;rw[List.any_eq_true];constructor
 ·rintro⟨v,hv,e⟩
  obtain⟨y,hy,rfl⟩:=mC.mp hv;have:y=x\/x=y:=by first|exact .inl (by simpa using e)|exact .inr (by simpa using e)|(simp[eqV] at e;first|exact .inl e|exact .inr e)
  rcases this with rfl|rfl<;>exact hy
 ·intro h
  exact⟨_,mC.mpr ⟨x,h,rfl⟩,by first|simp|simp[eqV]⟩
theorem zGE {z:Array Nat}(hz:z=#[]):∀(r:List Nat) (acc:Array Nat),List.foldl (λ acc (p:Str)=>acc++z++p.cps) acc (r.map λ c=>(⟨#[c]⟩:Str))=acc++r.toArray
 |[],acc=>by simp
 |c::r,acc=>by
  rw[List.map_cons,List.foldl_cons,zGE hz r];subst hz;simp
theorem zIQ {z:Str}(hz:z.cps=#[]) (cs:List Nat):(Txt.join z (cs.map λ c=>(⟨#[c]⟩:Str))).cps=cs.toArray:=by
 unfold Txt.join Builtin.Str.glued;cases cs with
 |nil=>rfl
 |cons c r =>
  show List.foldl (λ acc (p:Str)=>acc++z.cps++p.cps) #[c] (r.map λ c=>(⟨#[c]⟩:Str))=_;rw[zGE hz];simp
noncomputable def ltD (L:Str) (n:Nat):Nat:=L.cps.toList.getD n 0
theorem zDy {α:Type}(p:α->Bool):∀l:List α,(l.filter p).length+(l.filter λ x=>!p x).length=l.length
 |[]=>rfl
 |a::l=>by
  have ih:=zDy p l;cases h:p a<;>simp[h]<;>omega
noncomputable def zB7 (L:Str) (ns:List Nat) (p s k:Nat):Str:=⟨((ns.set p ((s+k+1) % 26)).map (ltD L)).toArray⟩
theorem zJ0 {L:Str}(hL:L.cps.toList.length=26) (nd:L.cps.toList.Nodup) {ns:List Nat}{p s i j:Nat}(hp:p<ns.length) (hi:i<26) (hj:j<26) (e:zB7 L ns p s i=zB7 L ns p s j):i=j:=by
 unfold zB7 at e
 have e1:(ns.set p ((s+i+1) % 26)).map (ltD L)=(ns.set p ((s+j+1) % 26)).map (ltD L):=by
  have:=congrArg (λ x:Str=>x.cps.toList) e;simpa using this
 have e2:=congrArg (λ l=>l[p]?) e1;simp[hp] at e2;unfold ltD at e2;have h1:(s+i+1) % 26<L.cps.toList.length:=by omega
 have h2:(s+j+1) % 26<L.cps.toList.length:=by omega
 rw[List.getD_eq_getElem?_getD,List.getD_eq_getElem?_getD,List.getElem?_eq_getElem h1,List.getElem?_eq_getElem h2] at e2;simp only[Option.getD_some] at e2;have:=(List.getElem_inj nd).mp e2;omega
noncomputable def kept11:List Str:=["let", "in", "if", "then", "else", "say", "ask", "stop", "where", "quiet", "number"]
theorem zKc (ns:List Nat) (p n:Nat):(numV ns).set p (.int (n:Int))=numV (ns.set p n):=by unfold numV;rw[List.map_set]
theorem Same.seqT {K:W.Frag}{H H':Hp}{a:Addr}{xs:List V}(e:Same H H') (h:SqT K H a xs):SqT K H' a xs:=by
 rcases h with (h|⟨o,h⟩)|h
 ·exact .inl (.inl (e _ _ h))
 ·exact .inl (.inr ⟨o,e _ _ h⟩)
 ·exact .inr h
noncomputable def PcT (ws:List Str):Tr->Prop
 |.name x=>x∈ws
 |.say a=>PcT ws a
 |.bin _ a b=>PcT ws a/\PcT ws b
 |.ite a b c=>PcT ws a/\PcT ws b/\PcT ws c
 |.gap _ _=>False
 |.lett _ _ _=>False
 |_=>True
theorem PcT.part {ws:List Str}{t p:Tr}(h:PcT ws t) (hp:p∈t.parts):PcT ws p:=by
 cases t with
 |say a=>rw[List.mem_singleton.mp hp];exact h
 |bin o a b =>
  rcases lN.mp hp with rfl|hp
  ·exact h.1
  ·rw[List.mem_singleton.mp hp];exact h.2
 |ite a b c =>
  rcases lN.mp hp with rfl|hp
  ·exact h.1
  ·rcases lN.mp hp with rfl|hp
   ·exact h.2.1
   ·rw[List.mem_singleton.mp hp];exact h.2.2
 |lett x a b=>exact h.elim
 |gap g as=>exact h.elim
 |_=>cases hp
theorem PcT.ng {ws:List Str}{t:Tr}(h:PcT ws t):¬t.kd = .gap:=by
 cases t with
 |gap g as=>exact h.elim
 |bin o a b=>cases o<;>exact λ z=>nomatch z
 |_=>exact λ z=>nomatch z
theorem PcT.nlt {ws:List Str}{t:Tr}(h:PcT ws t):¬t.kd = .lett:=by
 cases t with
 |lett x a b=>exact h.elim
 |bin o a b=>cases o<;>exact λ z=>nomatch z
 |_=>exact λ z=>nomatch z
theorem zJ1 {t:Tr}{qs:List Tr}(h:qs.length=t.parts.length):(t.withP qs).kd=t.kd:=by
 cases t with
 |say a=>match qs,h with | [_],_=>rfl
 |bin o a b=>match qs,h with | [_,_],_=>rfl
 |ite a b c=>match qs,h with | [_,_,_],_=>rfl
 |lett x a b=>match qs,h with | [_,_],_=>rfl
 |_=>rw[List.length_eq_zero_iff.mp h];rfl
theorem zE0 {t:Tr}(h:t.kd.leaf=true):t.parts=[]:=by
 cases t with
 |bin o a b=>cases o<;>cases h
 |say a=>cases h
 |ite a b c=>cases h
 |lett x a b=>cases h
 |_=>rfl
theorem Rep.drl {H:Hp}{t:Tr}{v:V}(h:Rep H t v) (l:t.kd.leaf=true) (n:¬t.kd = .gap):∃a ds,v = .ref a/\DR H (.tup ds) (.ref a)/\(Dt.tup ds).deep<=150/\∀w,Rep H t w->∃b,w = .ref b/\DR H (.tup ds) (.ref b):=by
 cases t with
 |num n=>obtain⟨a,rfl,h⟩:=h;exact⟨a,_,rfl,.tup h (.cons (.str _) (.cons (.int _) .nil)),(by show 1<=150;decide),λ w ⟨b,e,h⟩=>⟨b,e,.tup h (.cons (.str _) (.cons (.int _) .nil))⟩⟩
 |name n=>obtain⟨a,rfl,h⟩:=h;exact⟨a,_,rfl,.tup h (.cons (.str _) (.cons (.str _) .nil)),(by show 1<=150;decide),λ w ⟨b,e,h⟩=>⟨b,e,.tup h (.cons (.str _) (.cons (.str _) .nil))⟩⟩
 |ask n=>obtain⟨a,rfl,h⟩:=h;exact⟨a,_,rfl,.tup h (.cons (.str _) (.cons (.str _) .nil)),(by show 1<=150;decide),λ w ⟨b,e,h⟩=>⟨b,e,.tup h (.cons (.str _) (.cons (.str _) .nil))⟩⟩
 |stop n=>obtain⟨a,rfl,h⟩:=h;exact⟨a,_,rfl,.tup h (.cons (.str _) (.cons (.str _) .nil)),(by show 1<=150;decide),λ w ⟨b,e,h⟩=>⟨b,e,.tup h (.cons (.str _) (.cons (.str _) .nil))⟩⟩
 |gap g as=>exact absurd rfl n
 |bin o a b=>cases o<;>cases l
 |say a=>cases l
 |ite a b c=>cases l
 |lett x a b=>cases l
noncomputable def Two (b:Addr) (H:Hp) (q:Tr) (v:V):Prop:=∃a u w,v = .ref a/\H a=some (.tup [u,w,.ref b])/\Rep H q u/\Rep H q w
theorem Two.mono {b:Addr}{H H':Hp}(k:Tk H H') {q:Tr}{v:V}:Two b H q v->Two b H' q v
 |⟨a,u,w,e,h,r,s⟩=>⟨a,u,w,e,k _ _ h,r.mono k,s.mono k⟩
theorem zDz (l:List Tr):sumS (l.flatMap Tr.parts)+l.length=sumS l:=by
 induction l with
 |nil=>rfl
 |cons a l ih =>
  rw[List.flatMap_cons,zCA,zCR,List.length_cons];have:=zB8 a;omega
theorem zIg (l:List Tr) (i:Nat):sumS (l.take i)<=sumS l:=by
 conv=>rhs;rw[←List.take_append_drop i l]
 rw[zCA];omega
noncomputable def SbD (d:Addr) (H H':Hp):Prop:=∀b o,b≠d->H b=some o->H' b=some o
theorem SbD.refl (d:Addr) (H:Hp):SbD d H H:=λ Ω Ω Ω h=>h
theorem SbD.trans {d:Addr}{H H1 H2:Hp}(a:SbD d H H1) (b:SbD d H1 H2):SbD d H H2:=λ c o n h=>b c o n (a c o n h)
theorem Same.sd {d:Addr}{H H':Hp}(h:Same H H'):SbD d H H':=λ b o Ω e=>h b o e
theorem SbD.set {d:Addr}{H:Hp}(o:HO):SbD d H (upd H d o):=λ b u n e=>by rw[zAL n];exact e
theorem SbD.tk {d:Addr}{H H':Hp}(h:SbD d H H') {kvs:List (Key × V)}(e:H d=some (.dK kvs)):Tk H H':=λ b xs hb=>h b _ (λ z=>by rw[z,e] at hb;cases hb) hb
noncomputable def setP (φ:Str->Option Pce) (g:Str) (o:Option Pce):Str->Option Pce:=λ z=>if z=g then o else φ z
theorem FlD.put {H:Hp}{φ:Str->Option Pce}{kvs:List (Key × V)}(h:FlD H φ kvs) (g:Str) {q:Pce}{v:V}(r:RelP H (some q) (some v)):FlD H (setP φ g (some q)) (putK kvs (Sum.inr g:Key) v):=λ z=>by
 rw[zCb];unfold setP
 by_cases e:z=g
 ·rw[if_pos e,if_pos (by rw[e])];exact r
 ·rw[if_neg e,if_neg (λ y=>e (Sum.inr.inj y))];exact h z
noncomputable def loudV:List V:=[.str "say", .str "ask", .str "stop"]
noncomputable def Kd.loud:Kd->Bool
 |.say=>true|.ask=>true|.stop=>true|_=>false
theorem zLv (k:Kd):inV (.str k.s) loudV=k.loud:=by cases k<;>decide +kernel
noncomputable def zGW (K:W.Frag) (lv:Addr):Prop:=∃(o:Obj) (its:Array Value) (n:Nat),K.lookup lv=some o/\o.cls = .type "tuple" /\ o.data = .seq its n/\its.size<=sizeLine/\Vals loudV its.toList
noncomputable def QuT (t:Tr):Prop:=∀p∈t.subs,p.kd.loud=false/\¬p.kd = .gap
noncomputable def OfK (kd:V) (t:Tr):Prop:=kd = .non\/(kd = .str "quiet" /\ QuT t)\/(kd = .str "number" /\ ∃n,t = .num n)
noncomputable def Nul (H:Hp) (b:Addr):Prop:=∃o:Obj,H b=some (.frz o (.tup []))/\o.dict=none
theorem Nul.same {H H':Hp}{b:Addr}(g:Same H H'):Nul H b->Nul H' b
 |⟨o,h,d⟩=>⟨o,g _ _ h,d⟩
theorem Nul.sq {K:W.Frag}{H:Hp}{b:Addr}:Nul H b->SqT K H b []
 |⟨o,h,_⟩=>.inl (.inr ⟨o,h⟩)
structure FnD1 (P:Program) (w:World) (K:W.Frag) (mg:Str->Option Value) (base:Heap) (k:Nat) (x:Str) (f:Addr) (fd:FuncData) (ps:List Str) (sp:Sp):Prop where
 ok:FnOk P w K mg base CX0 k f fd ps sp
 bd0:Binds K fd ps []
 bd1:Binds K fd ps [.none]
 kp:W.keepIn K (.ref f)=true
 gl:mg x=some (.ref f)
theorem FnD1.up {P:Program}{w:World}{K:W.Frag}{mg:Str->Option Value}{base:Heap}{j k:Nat}{x:Str}{f:Addr}{fd:FuncData}{ps:List Str}{sp:Sp}(F:FnD1 P w K mg base j x f fd ps sp) (h:j<=k):FnD1 P w K mg base k x f fd ps sp:=⟨F.ok.mono h,F.bd0,F.bd1,F.kp,F.gl⟩
noncomputable def gset (t:Tr):List Str:=(gcnt t).map (·.1)
theorem zJa (t:Tr):gset t=(cnt1 t).map (·.1)++t.parts.flatMap gset:=by
 unfold gset gcnt;rw[zCu,List.flatMap_cons,List.map_append,List.flatMap_assoc,List.map_flatMap]
theorem zCq (g:Str) (as:List Atom):gset (.gap g as)=g::as.flatMap agap:=by
 rw[zJa];show ((cnt1 (.gap g as)).map (·.1))++[]=_;rw[List.append_nil];show g::((as.flatMap λ a=>(agap a).map λ h=>(h,0)).map (·.1))=_;rw[List.map_flatMap];congr 1;congr 1;funext a;rw[List.map_map];exact List.map_id _
theorem zBY {t:Tr}(h:¬t.kd = .gap):gset t=t.parts.flatMap gset:=by rw[zJa,zHr h];rfl
theorem zHn {c:Tr->Tr}{t:Tr}(n:¬t.kd = .gap):fillT c t=t.withP (t.parts.map (fillT c)):=by
 cases t with
 |gap g as=>exact absurd rfl n
 |_=>rfl
noncomputable def kdV (kds:List (Str × Str)):List (Key × V):=kds.map λ p=>((Sum.inr p.1:Key),V.str p.2)
theorem zBy {H H':Hp}(k:Tk H H') {y:V}{kv:Key × V}:PrV H y kv->PrV H' y kv
 |⟨b,e,h⟩=>⟨b,e,k _ _ h⟩
noncomputable def KdsAt (H:Hp) (ka:Addr) (kds:List (Str × Str)):Prop:=∃(o:Obj) (ys:List V),H ka=some (.frz o (.tup ys))/\o.dict=none/\Paired (PrV H) ys (kdV kds)
theorem KdsAt.mono {H H':Hp}(g:Same H H') {ka:Addr}{kds:List (Str × Str)}:KdsAt H ka kds->KdsAt H' ka kds
 |⟨o,ys,h1,h2,h3⟩=>⟨o,ys,g _ _ h1,h2,Paired.mapP h3 λ Ω Ω z=>zBy g.tk z⟩
noncomputable def LfG:Tr->Prop
 |.gap _ as=>as=[]
 |.say a=>LfG a
 |.bin _ a b=>LfG a/\LfG b
 |.ite a b c=>LfG a/\LfG b/\LfG c
 |.lett _ _ _=>False
 |.name _=>False
 |_=>True
theorem LfG.part {t p:Tr}(h:LfG t) (hp:p∈t.parts):LfG p:=by
 cases t with
 |say a=>rw[List.mem_singleton.mp hp];exact h
 |bin o a b =>
  rcases lN.mp hp with rfl|hp
  ·exact h.1
  ·rw[List.mem_singleton.mp hp];exact h.2
 |ite a b c =>
  rcases lN.mp hp with rfl|hp
  ·exact h.1
  ·rcases lN.mp hp with rfl|hp
   ·exact h.2.1
   ·rw[List.mem_singleton.mp hp];exact h.2.2
 |lett x a b=>exact h.elim
 |_=>cases hp
theorem LfG.nlt {t:Tr}(h:LfG t):¬t.kd = .lett:=by
 cases t with
 |lett x a b=>exact h.elim
 |bin o a b=>cases o<;>exact λ z=>nomatch z
 |_=>exact λ z=>nomatch z
noncomputable def cPi (π:Str->Tr):Tr->Tr
 |.gap g _=>π g
 |t=>t
noncomputable def Fil (π:Str->Tr) (b:Addr) (H:Hp) (q:Tr) (v:V):Prop:=∃a u w,v = .ref a/\H a=some (.tup [u,w,.ref b])/\Rep H q u/\Rep H (fillT (cPi π) q) w
theorem Fil.mono {π:Str->Tr}{b:Addr}{H H':Hp}(k:Tk H H') {q:Tr}{v:V}:Fil π b H q v->Fil π b H' q v
 |⟨a,u,w,e,h,r,s⟩=>⟨a,u,w,e,k _ _ h,r.mono k,s.mono k⟩
noncomputable def psS (π:Str->Tr) (S:List Str):Str->Option Pce:=λ g=>if g∈S then some ([],π g) else none
theorem zCX {π:Str->Tr}{S:List Str}{g:Str}(h:g∈S):psS π S g=some ([],π g):=if_pos h
theorem zDa {π:Str->Tr}{S:List Str}{g:Str}(h:g∉S):psS π S g=none:=if_neg h
theorem zLa {π:Str->Tr}{S:List Str}{g:Str}:setP (psS π S) g (some ([],π g))=psS π (S++[g]):=by
 funext z;unfold setP
 by_cases e:z=g
 ·rw[if_pos e,zCX (by rw[e];simp),e]
 ·rw[if_neg e]
  by_cases h:z∈S
  ·rw[zCX h,zCX (List.mem_append_left _ h)]
  ·rw[zDa h,zDa (by simp[h,e])]
theorem zKC {π:Str->Tr}{S:List Str}{g:Str}(h:g∈S):psS π (S++[g])=psS π S:=by
 funext z
 by_cases e:z∈S
 ·rw[zCX e,zCX (List.mem_append_left _ e)]
 ·rw[zDa e,zDa (λ k=>by
   rcases List.mem_append.mp k with k|k
   ·exact e k
   ·rw[List.mem_singleton.mp k] at e;exact e h)]
structure FD (H:Hp) (π:Str->Tr) (S:List Str) (kvs:List (Key × V)):Prop where
 fl:FlD H (psS π S) kvs
 ks:∀p∈kvs,∃g∈S,p.1=(Sum.inr g:Key)
 nd:(kvs.map (·.1)).Nodup
theorem FD.mono {H H':Hp}(k:Tk H H') {π:Str->Tr}{S:List Str}{kvs:List (Key × V)}(h:FD H π S kvs):FD H' π S kvs:=⟨h.fl.mono k,h.ks,h.nd⟩
theorem FD.len {H:Hp}{π:Str->Tr}{S:List Str}{kvs:List (Key × V)}(h:FD H π S kvs):kvs.length<=S.length:=by
 have:∀(l:List (Key × V)) (T:List Str),(l.map (·.1)).Nodup->(∀p∈l,∃g∈T,p.1=(Sum.inr g:Key))->l.length<=T.length:=by
  intro l
  induction l with
  |nil=>exact λ Ω Ω Ω=>lY _
  |cons p r ih =>
   intro T nd hk;obtain⟨n1,n2⟩:=List.nodup_cons.mp (show (p.1::r.map (·.1)).Nodup from nd);obtain⟨g,hg,eg⟩:=hk p lO
   have:=ih (T.erase g) n2 λ q hq=>by
    obtain⟨x,hx,ex⟩:=hk q (lP _ hq);refine⟨x,(List.mem_erase_of_ne λ z=>n1 ?_).mpr hx,ex⟩;rw[eg,←z,←ex];exact mC.mpr ⟨q,hq,rfl⟩
   rw[List.length_erase_of_mem hg] at this;have:=List.length_pos_of_mem hg;rw[List.length_cons];omega
 exact this kvs S h.nd h.ks
theorem SbD.put {d x:Addr}{H H':Hp}(h:SbD d H H') (hx:H x=none) (o:HO):SbD d H (upd H' x o):=λ b u n e=>by rw[zAL (zAK e hx)];exact h b u n e
theorem pickS {L:List Str}{i:Int}(h0:0<=i) (h1:i<L.length):∃x,x∈L/\atI (L.map V.str) i=some (.str x):=by
 have hl:i.toNat<L.length:=by omega
 refine⟨L[i.toNat],List.getElem_mem hl,?_⟩;have:=zAZ (xs:=L.map V.str) (j:=i.toNat) (v:=.str L[i.toNat]) (by rw[List.getElem?_map,List.getElem?_eq_getElem hl];rfl)
 rwa [show ((i.toNat:Nat):Int)=i by omega] at this
theorem viaN {D:Ends}{t1 t2:TS}{σ:L2.St}{H:Hp}(h:∀N:L2.St->Hp->Prop,(∀σ' H',t2 D σ' H'->N σ' H')->t1 { D with nx:=N } σ H):tSeq t1 t2 D σ H:=h _ λ Ω Ω z=>z
theorem QuT.node {t:Tr}(h1:t.kd.loud=false) (h2:¬t.kd = .gap) (h:∀p∈t.parts,QuT p):QuT t:=λ x hx=>by
 rw[zCu] at hx;rcases lN.mp hx with rfl|hx
 ·exact⟨h1,h2⟩
 ·obtain⟨p,hp,hx⟩:=List.mem_flatMap.mp hx
  exact h p hp x hx
theorem Rep.heads {H:Hp}:∀{t:Tr}{v:V},Rep H t v->¬t.kd = .gap->∃a hs us,v = .ref a/\H a=some (.tup (.str t.kd.s::(hs++us)))/\(∀x∈hs,(∃z,x=V.str z)\/∃i,x=V.int i)/\Paired (Rep H) t.parts us
 |.num n,_,⟨a,e,h⟩,_=>⟨a,[.int n],[],e,h,λ x hx=>.inr ⟨n,by simpa using hx⟩,.nil⟩
 |.name n,_,⟨a,e,h⟩,_=>⟨a,[.str n],[],e,h,λ x hx=>.inl ⟨n,by simpa using hx⟩,.nil⟩
 |.ask n,_,⟨a,e,h⟩,_=>⟨a,[.str n],[],e,h,λ x hx=>.inl ⟨n,by simpa using hx⟩,.nil⟩
 |.stop n,_,⟨a,e,h⟩,_=>⟨a,[.str n],[],e,h,λ x hx=>.inl ⟨n,by simpa using hx⟩,.nil⟩
 |.gap _ _,_,_,z=>absurd rfl z
 |.say t,_,⟨a,u,e,h,r⟩,_=>⟨a,[],[u],e,h,(λ x hx=>nomatch hx),.cons r .nil⟩
 |.bin o s t,_,⟨a,u,w,e,h,r1,r2⟩,_=>⟨a,[],[u,w],e,by cases o<;>exact h,(λ x hx=>nomatch hx),.cons r1 (.cons r2 .nil)⟩
 |.ite r s t,_,⟨a,u,w,z,e,h,r1,r2,r3⟩,_=>⟨a,[],[u,w,z],e,h,(λ x hx=>nomatch hx),.cons r1 (.cons r2 (.cons r3 .nil))⟩
 |.lett x s t,_,⟨a,u,w,e,h,r1,r2⟩,_=>⟨a,[.str x],[u,w],e,h,λ y hy=>.inl ⟨x,by simpa using hy⟩,.cons r1 (.cons r2 .nil)⟩
theorem zFN {α β:Type}(g:α->List β) (L:List α) (i:Nat):((L.take i).flatMap g).length<=(L.flatMap g).length:=by
 have:(L.flatMap g).length=((L.take i).flatMap g).length+((L.drop i).flatMap g).length:=by rw[←List.length_append,←List.flatMap_append,List.take_append_drop]
 omega
theorem zJo (x:V) (xs:List V):cutV (x::xs) (some 1) none=xs:=by
 have e1:HT.sIx (x::xs).length 0 (some 1)=1:=by
  have:=HT.sIx_nat (x::xs).length 0 1;rw[show ((1:Nat):Int)=1 from rfl] at this;rw[this];simp
 unfold cutV;rw[e1,HT.sIx_none];simp
theorem zFV (x:V) (xs:List V):¬(HT.sIx (x::xs).length 0 (some 1)=0/\HT.sIx (x::xs).length (x::xs).length none=(x::xs).length):=λ h=>by
 have:=HT.sIx_nat (x::xs).length 0 1;rw[show ((1:Nat):Int)=1 from rfl,h.1] at this;simp at this
noncomputable def Gk (S:List Str) (kvs:List (Key × V)):Prop:=(∀p∈kvs,∃g∈S,p.1=(Sum.inr g:Key))/\(∀g∈S,(valV kvs (Sum.inr g:Key)).isSome=true)/\(kvs.map (·.1)).Nodup
theorem Gk.put {S:List Str}{kvs:List (Key × V)}(h:Gk S kvs) (g:Str) (v:V):Gk (S++[g]) (putK kvs (Sum.inr g:Key) v):=by
 refine⟨λ p hp=>?_,λ x hx=>?_,zJG _ _ h.2.2⟩
 ·rcases zER hp with rfl|hp
  ·exact⟨g,by simp,rfl⟩
  ·obtain⟨y,hy,e⟩:=h.1 p hp
   exact⟨y,mF _ hy,e⟩
 ·rw[zCb]
  by_cases e:(Sum.inr x:Key)=Sum.inr g
  ·rw[if_pos e];rfl
  ·rw[if_neg e]
   rcases lK.mp hx with h1|h1
   ·exact h.2.1 x h1
   ·exact absurd (by rw[List.mem_singleton.mp h1]) e
theorem Gk.keys {S:List Str}{kvs:List (Key × V)}(h:Gk S kvs):∃ks:List Str,kvs.map (·.1)=ks.map Sum.inr/\ks.Nodup/\ks.length=kvs.length/\∀g,g∈ks↔g∈S:=by
 obtain⟨h1,h2,h3⟩:=h
 obtain⟨ks,e⟩:∃ks:List Str,kvs.map (·.1)=ks.map Sum.inr:=by
  clear h2 h3
  induction kvs with
  |nil=>exact⟨[],rfl⟩
  |cons p r ih =>
   obtain⟨ks,e⟩:=ih λ q hq=>h1 q (lP _ hq);obtain⟨g,_,eg⟩:=h1 p lO;exact⟨g::ks,by rw[List.map_cons,List.map_cons,e,eg]⟩
 refine⟨ks,e,?_,by have:=congrArg List.length e;simpa using this.symm,λ g=>⟨λ hg=>?_,λ hg=>?_⟩⟩
 ·rw[e] at h3
  exact List.Pairwise.of_map _ (λ a b h z=>h (by rw[z])) h3
 ·have:(Sum.inr g:Key)∈kvs.map (·.1):=by rw[e];exact mC.mpr ⟨g,hg,rfl⟩
  obtain⟨p,hp,ep⟩:=mC.mp this;obtain⟨x,hx,ex⟩:=h1 p hp;rw[ep] at ex;cases ex;exact hx
 ·obtain⟨v,hv⟩:=Option.isSome_iff_exists.mp (h2 g hg)
  obtain⟨p,hp,ep,_⟩:=zGZ hv;have:(Sum.inr g:Key)∈kvs.map (·.1):=mC.mpr ⟨p,hp,ep⟩;rw[e] at this;obtain⟨x,hx,ex⟩:=mC.mp this;cases ex;exact hx
theorem Rep.anew {H:Hp}:∀{t:Tr}{v:V},Rep H t v->¬t.kd = .gap->∃a hs us,v = .ref a/\H a=some (.tup (.str t.kd.s::hs++us))/\hs.length<=1/\(∀x∈hs,(∃z,x=V.str z)\/∃i,x=V.int i)/\Paired (Rep H) t.parts us /\
  ∀(qs:List Tr) (vs:List V) (p:Addr) (H':Hp),qs.length=t.parts.length->Paired (Rep H') qs vs->H' p=some (.tup (.str t.kd.s::hs++vs))->Rep H' (t.withP qs) (.ref p)
 |.num n,_,⟨a,e,h⟩,_=>⟨a,[.int n],[],e,h,lQ _,λ x hx=>.inr ⟨n,by simpa using hx⟩,.nil,λ qs vs p H' hl pv hp=>by
  cases pv with
  |nil=>exact⟨p,rfl,hp⟩
  |cons _ _=>cases hl⟩
 |.name n,_,⟨a,e,h⟩,_=>⟨a,[.str n],[],e,h,lQ _,λ x hx=>.inl ⟨n,by simpa using hx⟩,.nil,λ qs vs p H' hl pv hp=>by
  cases pv with
  |nil=>exact⟨p,rfl,hp⟩
  |cons _ _=>cases hl⟩
 |.ask n,_,⟨a,e,h⟩,_=>⟨a,[.str n],[],e,h,lQ _,λ x hx=>.inl ⟨n,by simpa using hx⟩,.nil,λ qs vs p H' hl pv hp=>by
  cases pv with
  |nil=>exact⟨p,rfl,hp⟩
  |cons _ _=>cases hl⟩
 |.stop n,_,⟨a,e,h⟩,_=>⟨a,[.str n],[],e,h,lQ _,λ x hx=>.inl ⟨n,by simpa using hx⟩,.nil,λ qs vs p H' hl pv hp=>by
  cases pv with
  |nil=>exact⟨p,rfl,hp⟩
  |cons _ _=>cases hl⟩
 |.gap _ _,_,_,z=>absurd rfl z
 |.say t,_,⟨a,u,e,h,r⟩,_=>⟨a,[],[u],e,h,lY _,(λ x hx=>nomatch hx),.cons r .nil,λ qs vs p H' hl pv hp=>by
  cases pv with
  |nil=>cases hl
  |cons r1 t1 =>
   cases t1 with
   |nil=>exact⟨p,_,rfl,hp,r1⟩
   |cons _ _=>simp[Tr.parts] at hl⟩
 |.bin o s t,_,⟨a,u,w,e,h,r1,r2⟩,_=>⟨a,[],[u,w],e,by cases o<;>exact h,lY _,(λ x hx=>nomatch hx),.cons r1 (.cons r2 .nil),λ qs vs p H' hl pv hp=>by
  cases pv with
  |nil=>cases hl
  |cons r1 t1 =>
   cases t1 with
   |nil=>simp[Tr.parts] at hl
   |cons r2 t2 =>
    cases t2 with
    |nil=>exact⟨p,_,_,rfl,by cases o<;>exact hp,r1,r2⟩
    |cons _ _=>simp[Tr.parts] at hl⟩
 |.ite r s t,_,⟨a,u,w,z,e,h,r1,r2,r3⟩,_=>⟨a,[],[u,w,z],e,h,lY _,(λ x hx=>nomatch hx),.cons r1 (.cons r2 (.cons r3 .nil)),λ qs vs p H' hl pv hp=>by
  cases pv with
  |nil=>cases hl
  |cons r1 t1 =>
   cases t1 with
   |nil=>simp[Tr.parts] at hl
   |cons r2 t2 =>
    cases t2 with
    |nil=>simp[Tr.parts] at hl
    |cons r3 t3 =>
     cases t3 with
     |nil=>exact⟨p,_,_,_,rfl,hp,r1,r2,r3⟩
     |cons _ _=>simp[Tr.parts] at hl⟩
 |.lett x s t,_,⟨a,u,w,e,h,r1,r2⟩,_=>⟨a,[.str x],[u,w],e,h,lQ _,λ y hy=>.inl ⟨x,by simpa using hy⟩,.cons r1 (.cons r2 .nil),λ qs vs p H' hl pv hp=>by
  cases pv with
  |nil=>cases hl
  |cons r1 t1 =>
   cases t1 with
   |nil=>simp[Tr.parts] at hl
   |cons r2 t2 =>
    cases t2 with
    |nil=>exact⟨p,_,_,rfl,hp,r1,r2⟩
    |cons _ _=>simp[Tr.parts] at hl⟩
theorem zI3 (t:Tr):t.parts.length<=3:=by cases t<;>simp[Tr.parts]
noncomputable def dtA:Atom->Dt
 |.name x=>.tup [.str "name", .str x]
 |.num n=>.tup [.str "num", .int n]
 |.gap g=>.tup [.str "gap", .str g,.tup []]
noncomputable def dtT:Tr->Dt
 |.num n=>.tup [.str "num", .int n]
 |.name x=>.tup [.str "name", .str x]
 |.ask x=>.tup [.str "ask", .str x]
 |.stop x=>.tup [.str "stop", .str x]
 |.gap g as=>.tup [.str "gap", .str g,.tup (as.map dtA)]
 |.say a=>.tup [.str "say", dtT a]
 |.bin o a b=>.tup [.str o.s,dtT a,dtT b]
 |.ite a b c=>.tup [.str "if", dtT a,dtT b,dtT c]
 |.lett x a b=>.tup [.str "let", .str x,dtT a,dtT b]
theorem AtRep.dr {H:Hp}:∀{a:Atom}{v:V},AtRep H a v->DR H (dtA a) v
 |.name x,_,⟨a,e,h⟩=>e ▸ .tup h (.cons (.str _) (.cons (.str _) .nil))
 |.num n,_,⟨a,e,h⟩=>e ▸ .tup h (.cons (.str _) (.cons (.int _) .nil))
 |.gap g,_,⟨a,b,e,h,h'⟩=>e ▸ .tup h (.cons (.str _) (.cons (.str _) (.cons (.tup h' .nil) .nil)))
theorem zHv {H:Hp}:∀{as:List Atom}{us:List V},Paired (AtRep H) as us->DRs H (as.map dtA) us
 |_,_,.nil=>.nil
 |_,_,.cons r t=>.cons r.dr (zHv t)
theorem Rep.dr {H:Hp}:∀{t:Tr}{v:V},Rep H t v->DR H (dtT t) v
 |.num n,_,⟨a,e,h⟩=>e ▸ .tup h (.cons (.str _) (.cons (.int _) .nil))
 |.name n,_,⟨a,e,h⟩=>e ▸ .tup h (.cons (.str _) (.cons (.str _) .nil))
 |.ask n,_,⟨a,e,h⟩=>e ▸ .tup h (.cons (.str _) (.cons (.str _) .nil))
 |.stop n,_,⟨a,e,h⟩=>e ▸ .tup h (.cons (.str _) (.cons (.str _) .nil))
 |.gap g as,_,⟨a,b,us,e,h,h',_,p⟩=>e ▸ .tup h (.cons (.str _) (.cons (.str _) (.cons (.tup h' (zHv p)) .nil)))
 |.say _,_,⟨a,u,e,h,r⟩=>e ▸ .tup h (.cons (.str _) (.cons r.dr .nil))
 |.bin o _ _,_,⟨a,u,w,e,h,r,s⟩=>e ▸ .tup h (.cons (.str _) (.cons r.dr (.cons s.dr .nil)))
 |.ite _ _ _,_,⟨a,u,w,z,e,h,r,s,t⟩=>e ▸ .tup h (.cons (.str _) (.cons r.dr (.cons s.dr (.cons t.dr .nil))))
 |.lett x _ _,_,⟨a,u,w,e,h,r,s⟩=>e ▸ .tup h (.cons (.str _) (.cons (.str _) (.cons r.dr (.cons s.dr .nil))))
noncomputable def dpT:Tr->Nat
 |.say a=>dpT a+1
 |.bin _ a b=>max (dpT a) (dpT b)+1
 |.ite a b c=>max (dpT a) (max (dpT b) (dpT c))+1
 |.lett _ a b=>max (dpT a) (dpT b)+1
 |_=>0
theorem zB6:∀t:Tr,dpT t<=t.size
 |.num _=>lY _
 |.name _=>lY _
 |.ask _=>lY _
 |.stop _=>lY _
 |.gap _ _=>lY _
 |.say a=>by have:=zB6 a;simp[dpT,Tr.size];omega
 |.bin _ a b=>by have:=zB6 a;have:=zB6 b;simp[dpT,Tr.size];omega
 |.ite a b c=>by have:=zB6 a;have:=zB6 b;have:=zB6 c;simp[dpT,Tr.size];omega
 |.lett _ a b=>by have:=zB6 a;have:=zB6 b;simp[dpT,Tr.size];omega
theorem zC8 {π:Str->Tr}{M:Nat}:∀{t:Tr},LfG t->(∀g∈gset t,dpT (π g)<=M)->dpT (fillT (cPi π) t)<=t.size+M
 |.num _,_,_=>lY _
 |.name x,h,_=>h.elim
 |.ask _,_,_=>lY _
 |.stop _,_,_=>lY _
 |.gap g as,h,k=>mG (k g (by rw[zCq];exact lO)) (Nat.le_add_left _ _)
 |.say a,h,k=>by
  have ng:¬(Tr.say a).kd = .gap:=λ z=>nomatch z
  have:=zC8 (t:=a) h λ g hg=>k g (by rw[zBY ng];exact List.mem_flatMap.mpr ⟨a,by simp[Tr.parts],hg⟩);simp[fillT,dpT,Tr.size];omega
 |.bin o a b,h,k=>by
  have ng:¬(Tr.bin o a b).kd = .gap:=by cases o<;>exact λ z=>nomatch z
  have:=zC8 (t:=a) h.1 λ g hg=>k g (by rw[zBY ng];exact List.mem_flatMap.mpr ⟨a,by simp[Tr.parts],hg⟩);have:=zC8 (t:=b) h.2 λ g hg=>k g (by rw[zBY ng];exact List.mem_flatMap.mpr ⟨b,by simp[Tr.parts],hg⟩);simp[fillT,dpT,Tr.size];omega
 |.ite a b c,h,k=>by
  have ng:¬(Tr.ite a b c).kd = .gap:=λ z=>nomatch z
  have:=zC8 (t:=a) h.1 λ g hg=>k g (by rw[zBY ng];exact List.mem_flatMap.mpr ⟨a,by simp[Tr.parts],hg⟩);have:=zC8 (t:=b) h.2.1 λ g hg=>k g (by rw[zBY ng];exact List.mem_flatMap.mpr ⟨b,by simp[Tr.parts],hg⟩);have:=zC8 (t:=c) h.2.2 λ g hg=>k g (by rw[zBY ng];exact List.mem_flatMap.mpr ⟨c,by simp[Tr.parts],hg⟩);simp[fillT,dpT,Tr.size];omega
 |.lett _ _ _,h,_=>h.elim
theorem zGG:∀as:List Atom,Dt.deeps (as.map dtA)<=2
 |[]=>by simp[Dt.deeps]
 |a::as=>by
  have:=zGG as;cases a<;>simp[Dt.deeps,dtA,Dt.deep]<;>omega
theorem zBZ:∀t:Tr,(dtT t).deep<=dpT t+4
 |.num _=>by simp[dtT,Dt.deep,Dt.deeps]
 |.name _=>by simp[dtT,Dt.deep,Dt.deeps]
 |.ask _=>by simp[dtT,Dt.deep,Dt.deeps]
 |.stop _=>by simp[dtT,Dt.deep,Dt.deeps]
 |.gap _ as=>by have:=zGG as;simp[dtT,Dt.deep,Dt.deeps];omega
 |.say a=>by have:=zBZ a;simp[dtT,Dt.deep,Dt.deeps,dpT];omega
 |.bin _ a b=>by have:=zBZ a;have:=zBZ b;simp[dtT,Dt.deep,Dt.deeps,dpT];omega
 |.ite a b c=>by have:=zBZ a;have:=zBZ b;have:=zBZ c;simp[dtT,Dt.deep,Dt.deeps,dpT];omega
 |.lett _ a b=>by have:=zBZ a;have:=zBZ b;simp[dtT,Dt.deep,Dt.deeps,dpT];omega
theorem FD.gk {H:Hp}{π:Str->Tr}{S:List Str}{kvs:List (Key × V)}(h:FD H π S kvs):Gk S kvs:=⟨h.ks,λ g hg=>by
 obtain⟨_,_,_,hv,_⟩:=h.fl.get (zCX hg);rw[hv];rfl,h.nd⟩
theorem zMd {S T:List Str}{k1 k2:List (Key × V)}(h1:Gk S k1) (h2:Gk T k2) (e:∀g,g∈S↔g∈T):k1.length=k2.length:=by
 obtain⟨a,_,na,la,ma⟩:=h1.keys;obtain⟨b,_,nb,lb,mb⟩:=h2.keys;have x1:=zCp (T:=b) na λ g hg=>(mb g).mpr ((e g).mp ((ma g).mp hg));have x2:=zCp (T:=a) nb λ g hg=>(ma g).mpr ((e g).mpr ((mb g).mp hg));omega
end L2
namespace PySem
open Sem (wp)
section
variable {prog:Program}{w:World}{A:Around}{E:Value->Shared->Prop}{s:Shared}
end
section
variable {prog:Program}{w:World}{A:Around}{E:Value->Shared->Prop}{s:Shared}
noncomputable def ddS (ks:List Str) (x:Str):List Str:=if x∈ks then ks else ks++[x]
noncomputable def dd (xs:List Str):List Str:=xs.foldl ddS []
end
section
variable {prog:Program}{w:World}{A:Around}{E:Value->Shared->Prop}{s:Shared}{d it:Addr}{es:Array (Int × Value)}{ep i:Nat}{t:SetTable}
end
end PySem
namespace L2
open PySem PySem.Spec PyProof.Rows
section
variable {X:Cx}
end
noncomputable def Itel (K:W.Frag) (a:Addr):It :=
 ⟨λ i H=>∃xs x,SqL K H a xs/\xs[i]?=some x,λ i H x H'=>∃T y,H T=none/\x = .ref T/\H'=upd H T (.tup [.int i,y])/\∀xs,SqL K H a xs->xs[i]?=some y,λ i H=>∃xs,SqL K H a xs/\xs.length<=i⟩
theorem zH1 {P:Program}{w:World}{K:W.Frag}{es:List Expr}{k:Nat}{pos:Pos}(a e it:Addr) (hei:e≠it) :
  Turn P w K (.Tuple es k pos) (Itel K a) [e,it] e (λ i h=>(∃old,IsEnum h e it i old)/\h.IsListIter it a i) where
 mem:=by simp
 obj:=λ i h st b hb=>by
  obtain⟨⟨old,z⟩,o,e',c,d⟩:=st;rcases lN.mp hb with y|y
  ·subst y;exact⟨_,z,λ v q=>by have q':Data.fields _=Data.cell v:=q;cases q'⟩
  ·cases List.mem_singleton.mp y
   exact⟨o,e',λ v q=>by rw[d] at q;cases q⟩
 keep:=λ i h h' st k=>by
  obtain⟨⟨old,z⟩,o,e',r⟩:=st;exact⟨⟨old,k e (by simp) _ z⟩,o,k it (by simp) o e',r⟩
 item:=by
  intro X hP hw hK hc i jP s σ H E I hf st hg;subst hP hw hK;obtain⟨xs,x,hq,hx⟩:=hg;obtain⟨its,rv,p,hz⟩:=I.list hq;obtain⟨u,hu,ru⟩:=rv.get hx;obtain⟨⟨old,he⟩,hit⟩:=st;have p':s.heap.IsList a its.toArray:=p.isList
  have hai:a≠it:=λ z=>by
   obtain⟨o1,q1,c1,_⟩:=p';obtain⟨o2,q2,c2,_⟩:=hit;rw[z,q2] at q1;cases q1;rw[c2] at c1;injection c1 with c3;exact absurd c3 (by decide)
  have hae:a≠e:=λ z=>by
   obtain⟨o1,q1,c1,_⟩:=p';rw[z] at q1;have he':s.heap.get? e=some _:=he;rw[he'] at q1;cases q1;injection c1 with c3;exact absurd c3 (by decide)
  have hilt:i<its.toArray.size:=by
   have:=(lJ.mp hu).1;simpa using this
  refine wpAny_pyNext_enum_itemD (Draws.list (A:=X.A.in1) (I.ok.hd hc) it a hai its.toArray) he ⟨hit,p'⟩ hilt hei (by simp[hei,Ne.symm hae]) λ y h1 tk hy ho hst hT hsz hk=>?_
  have hyu:y=u:=by
   have:(its.toArray)[i]?=some u:=by simpa using hu
   rw[hy] at this;exact mE this
  subst hyu;refine⟨_,rfl,?_⟩;have hn:H s.heap.objs.size=none:=I.fresh
  have I1:Inv X jP σ (upd H s.heap.objs.size (.tup [.int i,x])) { s with heap:=h1,toks:=tk+1 }:=I.turnedL (ch:=[e,it]) (λ b o hb q=>hk b o (λ z=>hb (by simp[z])) (λ z=>hb (by simp[z])) q) hf (lQ _)
   ⟨Nat.le_of_lt (zAS (show 2<=1000 by decide)),[.int i tk,y],.cons ⟨_,rfl⟩ (.cons ru .nil),_,hT,rfl,_,rfl⟩
  have neT:∀b∈[e,it],b≠s.heap.objs.size:=λ b hb=>by
   rcases lN.mp hb with z|z
   ·subst z;exact lR (lH (show s.heap.get? b=some _ from he))
   ·cases List.mem_singleton.mp z
    obtain⟨o2,q2,_⟩:=hit;exact lR (lH q2)
  refine wpAny_letOwnedTupleGo_enum (s:={ s with heap:=h1,toks:=tk+1 }) ho λ h2 he2 hs2=>⟨.ref s.heap.objs.size,_,?_,rfl,⟨_,x,hn,rfl,rfl,λ ys hy'=>by rw[I.list_inj hy' hq];exact hx⟩,⟨⟨_,he2⟩,?_⟩,λ b hb=>?_⟩
  ·refine I1.turnedN (t':=tk+1) (ch:=[e]) (λ b o hb q=>(hs2.2 b (λ z=>hb (by simp[z]))).trans q) λ b hb=>?_
   have eb:=List.mem_singleton.mp hb;subst eb;obtain⟨f0,f⟩:=hf b (by simp);exact⟨by rw[zAL (neT b (by simp))];exact f0,f⟩
  ·obtain⟨o2,q2,r2⟩:=hst.1
   exact⟨o2,(hs2.2 it hei.symm).trans q2,r2⟩
  ·rw[zAL (neT b hb)];exact(hf b hb).1
 done:=by
  intro X hP hw hK hc i jP s σ H E I hf st hg;subst hP hw hK;obtain⟨xs,hq,hx⟩:=hg;obtain⟨its,rv,p,hz⟩:=I.list hq;obtain⟨⟨old,he⟩,hit⟩:=st;have p':s.heap.IsList a its.toArray:=p.isList
  have hai:a≠it:=λ z=>by
   obtain⟨o1,q1,c1,_⟩:=p';obtain⟨o2,q2,c2,_⟩:=hit;rw[z,q2] at q1;cases q1;rw[c2] at c1;injection c1 with c3;exact absurd c3 (by decide)
  have hl:=rv.length;have hT:s.TypeIs (.ref e) "enumerate" := ⟨_,he,rfl⟩;unfold pyNext;refine lA (wpAny_attempt (wpAny_callSpecial?_slot (name:=Str.ofString "__next__") hT F.slot_enumerate_next (wpAny_call_entry F.slot_enumerate_next hT F.entry_enumerate_next ?_ (F.args_enumerate_next_1 _))));show wpAny _ _ (field (.ref e) 2 >>= _) _ _ _;refine lA (wpAny_field he rfl (x:=.ref it) rfl ?_);refine lA (wpAny_nextOf_list_end (I.ok.hd hc) hit p' (by simp;omega) λ h1 x hx1 ⟨o,ho,hc'⟩=>?_);refine lA (wpAny_isInstance (T := "StopIteration") (b:=true) ⟨o,ho,hc'⟩ isSubtype_stop ?_);exact lB ⟨rfl,I.turnedN (t':=s.toks) (ch:=[it]) (λ b o hb q=>hx1 b o (λ z=>hb (by simp[z])) q) λ b hb=>hf b (by simp at hb ⊢;exact .inr hb)⟩
 self:=λ Ω Ω Ω Ω Ω st h=>let ⟨⟨_,he⟩,_⟩:=st;wpAny_pyIter_enum he h
noncomputable def zMc (K:W.Frag) (ta:TA):TI:=λ σ H R=>ta σ H λ vs H1=>∃a,vs=[.ref a]/\(∃xs,SqL K H1 a xs)/\R (Itel K a) H1
theorem zKH {X:Cx}{es:List Expr}{k:Nat}{tpos:Pos}{a:Expr}{ta:TA}{p pos:Pos}(hg:Gl X "enumerate") (hm:X.mg "enumerate" = none) (ha:PA X [a] ta) (hs:starEach [a] X.env=[(false,eval a X.env)]:=by rfl) :
  PI X (.Tuple es k tpos) (.Call (.Name "enumerate" p) [a] [] pos) (zMc X.K ta):=by
 intro jP s σ H R I h;refine Call_ (zBv I hg hm boot_enumerate (PyProof.Rows.callWith_type1 (thn (ha pos jP s σ H _ I h) λ us s1 ⟨vs,H1,I1,r1,q1⟩=>?_) hs rfl));obtain⟨b,e,⟨xs,hq⟩,q⟩:=q1;subst e;obtain⟨u,rfl,ru⟩:=vals1 r1;cases ru;obtain⟨its,rv,tp,hz⟩:=I1.list hq;refine call_enumerate_list tp.isList λ h' he hit hsz hk=>?_;refine wpAny_pyIter_enum he ⟨_,[s1.heap.objs.size+1,s1.heap.objs.size],_,_,H1,rfl,I1.kept (t':=s1.toks) hk,zH1 b _ _ (Nat.succ_ne_self _),⟨⟨_,he⟩,hit⟩,λ c hc=>?_,q⟩
 have ge:s1.heap.objs.size<=c:=by
  rcases lN.mp hc with z|z
  ·rw[z];exact Nat.le_succ _
  ·rw[List.mem_singleton.mp z];exact lQ _
 exact I1.fpOk ge (I1.hok.fresh ge)
theorem zJd {K:W.Frag}{a:Addr}{xs:List V}{g:TG}{tb:TS}{D:Ends}{σ:St}{H:Hp}(Pv:Nat->St->Hp->Prop) (h0:Pv 0 σ H) (hl:∀i σ H,i<=xs.length->Pv i σ H->SqL K H a xs)
  (hs:∀i x T σ H,xs[i]?=some x->Pv i σ H->H T=none->g (.ref T) σ (upd H T (.tup [.int i,x])) λ σ2 H2=>tb { D with nx:=Pv (i+1),ct:=Pv (i+1),bk:=D.nx } σ2 H2) (hd:∀σ H,Pv xs.length σ H->D.nx σ H) :
  ∃W:Nat->Nat->St->Hp->Prop,(∃m,W 0 m σ H)/\∀i m σ H,W i m σ H ->
   ((Itel K a).stop i H/\D.nx σ H)\/((Itel K a).go i H/\∃N:St->Hp->Prop,(∀σ' H',N σ' H'->∃m',m'<m/\W (i+1) m' σ' H')/\∀x H',(Itel K a).yld i H x H'->g x σ H' λ σ2 H2=>tb { D with nx:=N,ct:=N,bk:=D.nx } σ2 H2):=by
 refine⟨λ i m σ H=>m=xs.length - i/\i<=xs.length/\Pv i σ H,⟨xs.length,by simp,lY _,h0⟩,?_⟩;rintro i m σ H ⟨rfl,hi,p⟩;have q:=hl i σ H hi p
 by_cases hlt:i<xs.length
 ·refine .inr ⟨⟨xs,xs[i],q,by simp[hlt]⟩,Pv (i+1),λ σ' H' p'=>⟨xs.length - (i+1),by omega,rfl,hlt,p'⟩,λ x H' y=>?_⟩
  obtain⟨T,z,hT,ex,eH,y⟩:=y;subst ex eH;exact hs i z T σ H (y xs q) p hT
 ·have e:i=xs.length:=by omega
  subst e;exact .inl ⟨⟨xs,q,lQ _⟩,hd σ H p⟩
end L2
namespace L2
open PySem PySem.Calls PySem.Spec PyProof.Rows PySem.W
noncomputable def zB9 {α:Type}(xs:List α) (lo hi st:Option Int):List α:=(sliceRange (sliceBounds lo hi st xs.length).1 (sliceBounds lo hi st xs.length).2.1 (sliceBounds lo hi st xs.length).2.2).filterMap (xs[·]?)
theorem zFJ {α:Type}(xs:List α) (lo hi st:Option Int) (f:α->Value):(zB9 xs lo hi st).length<=xs.length:=by
 have h:=slicePick_size_le (xs.map f).toArray lo hi st;unfold slicePick at h;rw[List.size_toArray] at h;simp only[List.size_toArray,List.length_map] at h;refine mG (Nat.le_of_eq ?_) h;unfold zB9;generalize sliceRange (sliceBounds lo hi st xs.length).1 (sliceBounds lo hi st xs.length).2.1 (sliceBounds lo hi st xs.length).2.2=is
 induction is with
 |nil=>rfl
 |cons i is ih =>
  rw[List.filterMap_cons,List.filterMap_cons];have e:(xs.map f).toArray[i]?=(xs[i]?).map f:=by simp
  rw[e];cases xs[i]? with
  |none=>exact ih
  |some x=>simp only[Option.map_some,List.length_cons];rw[ih]
theorem zIa:∀{xs:List V}{us:List Value},Vals xs us->∀i:Nat,(xs[i]?=none/\us[i]?=none)\/∃x u,xs[i]?=some x/\us[i]?=some u/\RelV x u
 |_,_,.nil,i=>.inl ⟨by simp,by simp⟩
 |_,_,.cons h t,0=>.inr ⟨_,_,rfl,rfl,h⟩
 |_,_,.cons h t,i+1=>by simpa using zIa t i
theorem zDN {xs:List V}{us:List Value}(r:Vals xs us):∀is:List Nat,Vals (is.filterMap (xs[·]?)) (is.filterMap (us.toArray[·]?))
 |[]=>.nil
 |i::is=>by
  rw[List.filterMap_cons,List.filterMap_cons];have e:us.toArray[i]?=us[i]?:=by simp
  rw[e];rcases zIa r i with ⟨e1,e2⟩|⟨x,u,e1,e2,h⟩
  ·rw[e1,e2];exact zDN r is
  ·rw[e1,e2];exact .cons h (zDN r is)
noncomputable def tSl3 (K:W.Frag) (te:TE) (tl th ts:TO):TE:=λ σ H Q=>te σ H λ x H1=>tl σ H1 λ l H2=>th σ H2 λ u H3=>ts σ H3 λ c H4=>∃a xs,x = .ref a/\c≠some 0/\SqL K H4 a xs/\∀p,H4 p=none->Q (.ref p) (upd H4 p (.lst (zB9 xs l u c)))
theorem zMO {X:Cx}{e:Expr}{te:TE}{lo hi:Option Expr}{es:Expr}{tl th ts:TO}{pos p2:Pos}(he:PE X e te) (hl:PO X lo tl) (hu:PO X hi th) (hst:PO X (some es) ts):PE X (.Subscript e (.Slice lo hi (some es) p2) pos) (tSl3 X.K te tl th ts):=by
 intro jP s σ H Q I h;refine Subscript_ (thn (he jP s σ H _ I h) λ v s1 ⟨x,H1,I1,r1,q1⟩=>?_);refine wpAny_Slice (thn (hl jP s1 σ H1 _ I1 q1) λ vl s2 ⟨l,H2,I2,pl,q2⟩=>thn (hu jP s2 σ H2 _ I2 q2) λ vu s3 ⟨u,H3,I3,pu,q3⟩=>thn (hst jP s3 σ H3 _ I3 q3) λ vc s4 ⟨c,H4,I4,pc,a,xs,ex,hc,hx,q⟩=>?_);subst ex;cases r1;have I5:Inv X jP σ H4 { s4 with heap:=s4.heap.push { cls:=.type "slice", data:=.fields #[vl,vu,vc] } }:=I4.kept (t':=s4.toks) λ b ob q=>lE _ q;obtain⟨its,r,ht,hz⟩:=I5.list hx;have hlen:=r.length
 have hg:wpAny (model X.prog X.w) X.A (getItem (.ref a) (.ref s4.heap.objs.size)) (EP X jP σ Q) X.xe { s4 with heap:=s4.heap.push { cls:=.type "slice", data:=.fields #[vl,vu,vc] } }:=by
  refine wpAny_getItem_list_slice ht.isList (Heap.IsSliceOf.new ..) pl pu pc hc ?_ (by rw[List.size_toArray]<;>omega);refine⟨.ref _,_,I5.laid (t':=s4.toks) (o:=.lst (zB9 xs l u c)) (λ b ob q=>lE _ q) (lQ _) ?_,rfl,q _ (I5.hok.fresh (lQ _))⟩;refine⟨mG (zFJ xs l u c (λ Ω=>.none)) hz,(zB9 its l u c),0,?_,?_⟩
  ·have:=zDN r (sliceRange (sliceBounds l u c xs.length).1 (sliceBounds l u c xs.length).2.1 (sliceBounds l u c xs.length).2.2)
   unfold zB9;rw[←hlen];simpa using this
  ·refine(lG _ rfl).trans ?_
   unfold slicePick zB9;simp
 show wpAny (model X.prog X.w) X.A (subscriptTail e (.Slice lo hi (some es) p2) (.ref a) (.ref s4.heap.objs.size)) (EP X jP σ Q) X.xe { s4 with heap:=s4.heap.push { cls:=.type "slice", data:=.fields #[vl,vu,vc] } };exact tail_any (ops:=[.ref a,.ref s4.heap.objs.size]) ht.isList.typeIs slot_list_getitem.lookup hg (by with_unfolding_all rfl)
theorem zH6 {α β:Type}(f:α->β) (xs:List α) (lo hi st:Option Int):zB9 (xs.map f) lo hi st=(zB9 xs lo hi st).map f:=by
 unfold zB9;rw[List.length_map];generalize sliceRange (sliceBounds lo hi st xs.length).1 (sliceBounds lo hi st xs.length).2.1 (sliceBounds lo hi st xs.length).2.2=is
 induction is with
 |nil=>rfl
 |cons i is ih =>
  rw[List.filterMap_cons,List.filterMap_cons,List.getElem?_map];cases xs[i]? with
  |none=>exact ih
  |some x=>simp only[Option.map_some,List.map_cons];rw[ih]
end L2
namespace L2
open PySem
theorem PcT.sub {ws:List Str}:∀(n:Nat) (t:Tr),t.size<=n->PcT ws t->∀s∈t.subs,PcT ws s
 |0,t,h=>absurd h (by have:=zCh t;omega)
 |n+1,t,h=>λ ht s hs=>by
  rw[zCu] at hs;rcases lN.mp hs with rfl|hs
  ·exact ht
  ·obtain⟨p,hp,hs⟩:=List.mem_flatMap.mp hs
   exact PcT.sub n p (by have:=zBu hp;omega) (ht.part hp) s hs
theorem PcT.nl {ws:List Str}{t:Tr}(h:PcT ws t):NoLet t:=λ s hs z=>by
 have k:=PcT.sub _ t (lQ _) h s hs;cases s with
 |lett a b c=>exact k.elim
 |bin o a b=>cases o<;>cases z
 |_=>cases z
theorem PcT.wr {ws:List Str}:∀{t:Tr},PcT ws t->∀z,z∈t.wrds->z∈ws
 |.num _,_,z,hz=>by simp[Tr.wrds,Tr.names] at hz
 |.name x,h,z,hz=>by
  have:z=x:=by simpa[Tr.wrds,Tr.names] using hz
  rw[this];exact h
 |.ask _,_,z,hz=>by simp[Tr.wrds,Tr.names] at hz
 |.stop _,_,z,hz=>by simp[Tr.wrds,Tr.names] at hz
 |.gap g as,h,z,hz=>h.elim
 |.say a,h,z,hz=>PcT.wr (t:=a) h z hz
 |.bin _ a b,h,z,hz=>by
  rcases lK.mp (show z∈a.wrds++b.wrds from hz) with k|k
  ·exact PcT.wr h.1 z k
  ·exact PcT.wr h.2 z k
 |.ite a b c,h,z,hz=>by
  rcases lK.mp (show z∈a.wrds++(b.wrds++c.wrds) from hz) with k|k
  ·exact PcT.wr h.1 z k
  ·rcases lK.mp k with k|k
   ·exact PcT.wr h.2.1 z k
   ·exact PcT.wr h.2.2 z k
 |.lett _ _ _,h,_,_=>h.elim
theorem zKk {t s:Tr}(hs:s∈t.subs) {z:Str}(hz:z∈(cnt1 s).map (·.1)):z∈gset t:=by
 obtain⟨q,hq,rfl⟩:=mC.mp hz;exact mC.mpr ⟨q,List.mem_flatMap.mpr ⟨s,hs,hq⟩,rfl⟩
theorem zHl {α β:Type}{f:α->List β}{m:Nat}:∀{l:List α},(∀x∈l,(f x).length<=m)->(l.flatMap f).length<=m * l.length
 |[],_=>by simp
 |a::l,h=>by
  rw[List.flatMap_cons,List.length_append,List.length_cons,Nat.mul_succ];have:=zHl (l:=l) λ x hx=>h x (lP _ hx);have:=h a lO;omega
theorem zHp (ns:List Int) (a b:Option Int):∃cs:List Int,cutV (ns.map V.int) a b=cs.map V.int:=by
 unfold cutV;exact⟨_,by rw[←List.map_drop,←List.map_take]⟩
theorem zL3 (xs:List V) (a b:Nat):(cutV xs (some (a:Int)) (some (b:Int))).length<=b - a:=by
 unfold cutV;rw[HT.sIx_nat,HT.sIx_nat,List.length_take];omega
theorem zKs (xs:List V) (b:Nat):(cutV xs none (some (b:Int))).length<=b:=by
 unfold cutV;rw[HT.sIx_nat,List.length_take];omega
noncomputable def zLX:V->List V->Hp->VK->Prop:=λ x vs H Q=>∃(a:Addr) (kvs:List (Key × V)),x = .ref a/\vs=[]/\H a=some (.dK kvs)/\Q .non (upd H a (.dK []))
theorem zJI {X:Cx}:MtM X "dict.clear" zLX:=by
 intro jP s σ H x vs v us Q I rx rv h;obtain⟨a,kvs,rfl,rfl,ha,q⟩:=h;cases rx;have hus:=rv.zero;subst hus;exact zL2 I ha λ s' I'=>⟨.non,_,I',rfl,q⟩
theorem zHX {X:Cx}{a b:Expr}{ta tb:TE}{pos:Pos}{op:Operator}{r:R2}(ho:OpR X (binaryOp op) r) (ha:Sd (PE X a ta)) (hb:Sd (PE X b tb)):Sd (PE X (.BinOp a op b pos) (tOp r ta tb)):=⟨pe_op ho ha.un hb.un⟩
theorem pa_cS {X:Cx}{es:List Expr}{te:TE}{tA:TA}{c:Const}{k:Nat}{p:Pos}(ha:Sd (PE X (.Constant c k p) te)) (hr:Sd (PA X es tA)):Sd (PA X (.Constant c k p::es) (tCons te tA)):=⟨zAA ha.un hr.un rfl⟩
theorem pa_bS {X:Cx}{es:List Expr}{te:TE}{tA:TA}{a b:Expr}{op:Operator}{p:Pos}(ha:Sd (PE X (.BinOp a op b p) te)) (hr:Sd (PA X es tA)):Sd (PA X (.BinOp a op b p::es) (tCons te tA)):=⟨zAA ha.un hr.un rfl⟩
theorem zMC {X:Cx}{st:List Stmt}{G:TS->Prop}(h:∃t,Sd (PSs X st t)/\G t):∃t,PSs X st t/\G t:=h.elim λ t ht=>⟨t,ht.1.un,ht.2⟩
theorem pa_tS {X:Cx}{es xs:List Expr}{te:TE}{tA:TA}{k:Nat}{p:Pos}(ha:Sd (PE X (.Tuple xs k p) te)) (hr:Sd (PA X es tA)):Sd (PA X (.Tuple xs k p::es) (tCons te tA)):=⟨zAA ha.un hr.un rfl⟩
theorem pa_nS {X:Cx}{es:List Expr}{te:TE}{tA:TA}{x:Str}{p:Pos}(ha:Sd (PE X (.Name x p) te)) (hr:Sd (PA X es tA)):Sd (PA X (.Name x p::es) (tCons te tA)):=⟨zAA ha.un hr.un rfl⟩
theorem pa_kS {X:Cx}{es xs:List Expr}{ks:List Keyword}{te:TE}{tA:TA}{f:Expr}{p:Pos}(ha:Sd (PE X (.Call f xs ks p) te)) (hr:Sd (PA X es tA)):Sd (PA X (.Call f xs ks p::es) (tCons te tA)):=⟨zAA ha.un hr.un rfl⟩
theorem zBS {X:Cx}{CX:CXT}{k:Nat}{f:Addr}{fd:FuncData}{ps:List Str}{sp:Sp}{ds:List Value}{dvs:List V}{E:XK}{x:Str}{p pos:Pos}{e:Expr}{es:List Expr}{t:TA}(F:FnOk X.prog X.w X.K X.mg X.base CX k f fd ps sp) (hr:Room k X.A) (hg:Gl X x) (hm:X.mg x=some (.ref f)) (hk:W.keepIn X.K (.ref f)=true) (hb:Binds X.K fd ps ds) (hd:Vals dvs ds) (hx:zE7 CX X E)
  (ha:Sd (PA X (e::es) t)) (hdb:(x == ("__debug__" : Str))=false:=by decide) (he:starEach (e::es) X.env=(false,eval e X.env)::starEach es X.env:=by rfl) (hpl:(backTo pos (starEach es X.env)).any (·.1)=false:=by rfl) :
  Sd (PE X (.Call (.Name x p) (e::es) [] pos) (tCall sp dvs E t)):=⟨zCO F hr hg hm hk hb hd hx ha.un hdb he hpl⟩
theorem LfG.sub:∀(n:Nat) (t:Tr),t.size<=n->LfG t->∀s∈t.subs,LfG s
 |0,t,h=>absurd h (by have:=zCh t;omega)
 |n+1,t,h=>λ ht s hs=>by
  rw[zCu] at hs;rcases lN.mp hs with rfl|hs
  ·exact ht
  ·obtain⟨p,hp,hs⟩:=List.mem_flatMap.mp hs
   exact LfG.sub n p (by have:=zBu hp;omega) (ht.part hp) s hs
theorem LfG.nl {t:Tr}(h:LfG t):NoLet t:=λ s hs z=>by
 have k:=LfG.sub _ t (lQ _) h s hs;cases s with
 |lett a b c=>exact k.elim
 |bin o a b=>cases o<;>cases z
 |_=>cases z
theorem LfG.wr:∀{t:Tr},LfG t->∀z,z∈t.wrds->False
 |.num _,_,z,hz=>by simp[Tr.wrds,Tr.names] at hz
 |.name _,h,_,_=>h
 |.ask _,_,z,hz=>by simp[Tr.wrds,Tr.names] at hz
 |.stop _,_,z,hz=>by simp[Tr.wrds,Tr.names] at hz
 |.gap g as,h,z,hz=>by
  have h:as=[]:=h;subst h;simp[Tr.wrds,Tr.names] at hz
 |.say a,h,z,hz=>LfG.wr (t:=a) h z hz
 |.bin _ a b,h,z,hz=>by
  rcases lK.mp (show z∈a.wrds++b.wrds from hz) with k|k
  ·exact LfG.wr h.1 z k
  ·exact LfG.wr h.2 z k
 |.ite a b c,h,z,hz=>by
  rcases lK.mp (show z∈a.wrds++(b.wrds++c.wrds) from hz) with k|k
  ·exact LfG.wr h.1 z k
  ·rcases lK.mp k with k|k
   ·exact LfG.wr h.2.1 z k
   ·exact LfG.wr h.2.2 z k
 |.lett _ _ _,h,_,_=>h
theorem LfG.ct {t:Tr}(h:LfG t):∀p∈t.subs,(cnt1 p).length<=10:=λ s hs=>by
 have k:=LfG.sub _ t (lQ _) h s hs;cases s with
 |gap g as =>
  have k:as=[]:=k;subst k;exact(show 1<=10 by decide)
 |_=>exact lY _
theorem zD9 {ws:List Str}:∀{t:Tr},PcT ws t->sbT noT t=t
 |.num _,_=>rfl
 |.name _,_=>rfl
 |.ask _,_=>rfl
 |.stop _,_=>rfl
 |.gap _ _,h=>h.elim
 |.say a,h=>congrArg Tr.say (zD9 (t:=a) h)
 |.bin o a b,h=>by
  show Tr.bin o (sbT noT a) (sbT noT b)=_;rw[zD9 h.1,zD9 h.2]
 |.ite a b c,h=>by
  show Tr.ite (sbT noT a) (sbT noT b) (sbT noT c)=_;rw[zD9 h.1,zD9 h.2.1,zD9 h.2.2]
 |.lett _ _ _,h=>h.elim
theorem pc_ok {π:Str->Tr}{S ws:List Str}{t:Tr}(hG:LfG t) (hS:∀g,g∈S↔g∈gset t) (hp:∀g∈gset t,PcT ws (π g)) (W:List Str):PcOk (psS π S) W (cPi π) t:=λ g as hg=>by
 have k:as=[]:=LfG.sub _ t (lQ _) hG _ hg;subst k;have hg1:g∈gset t:=zKk hg lO;exact⟨[],π g,[],zCX ((hS g).mpr hg1),by simp,rfl,(λ j a b ha=>nomatch ha),(λ y hy=>nomatch hy),(zD9 (hp g hg1)).symm⟩
theorem zIL (kvs more:List (Key × V)) (p:Key × V):zAu kvs (more++[p])=putK (zAu kvs more) p.1 p.2:=by
 unfold zAu;rw[List.foldl_append];rfl
theorem zIu {α β:Type}{F:α->β->Prop}:∀{as bs:List α}{us vs:List β},Paired F as us->Paired F bs vs->Paired F (as++bs) (us++vs)
 |_,_,_,_,.nil,h=>h
 |_,_,_,_,.cons r t,h=>.cons r (zIu t h)
end L2
namespace K12
open PySem PySem.Spec L2 PyProof.Rows
section
variable {P:Program}{w:World}{K:W.Frag}{mg:Str->Option Value}{base:Heap}
def top (i:Nat):Stmt:=PySem.Challenge.pw_recastle_k12_pieces_of_a_plain_side.main.body.getD i (.Pass ⟨0,0,0,0⟩)
abbrev zCF:Stmt:=top 7
theorem zEd:zAR ["tree"] ["tree"] (zAG zCF):=⟨rfl,rfl,rfl,by decide +kernel,rfl,by decide +kernel,by decide +kernel⟩
abbrev zGj:Stmt:=top 8
theorem zJ7:zAR ["tree"] ["tree"] (zAG zGj):=⟨rfl,rfl,rfl,by decide +kernel,rfl,by decide +kernel,by decide +kernel⟩
abbrev zC5:Stmt:=top 10
theorem zBM:zAR ["tree", "found", "level", "deeper", "part"] ["tree"] (zAG zC5):=⟨rfl,rfl,rfl,by decide +kernel,rfl,by decide +kernel,by decide +kernel⟩
abbrev zB3:Stmt:=top 11
theorem zAg:zAR ["tree", "found", "level", "deeper", "place", "part", "number", "inner"] ["tree"] (zAG zB3):=⟨rfl,rfl,rfl,by decide +kernel,rfl,by decide +kernel,by decide +kernel⟩
noncomputable def zDL (t:Tr):Int:=t.head
noncomputable def zB0:Sp:=λ vs H Q Ω=>∃t v,vs=[v]/\Rep H t v/\Q (.int (zDL t)) H
theorem zEh {k:Nat}{f:Addr}{fd:FuncData}{lv:Addr}(F:Fun K "parts_begin" "parts_begin" zCF f fd) (z_len:mg "len" = none) (zMk:mg "LEAF_SIGNS" = some (.ref lv)) (hL:zEb K lv) :
  FnOk P w K mg base CX0 (k+1) f fd ["tree"] zB0:=by
 refine F.ok zEd (λ vs H Q E h=>?_) (λ cdv A outer s H vs Q E hr h=>?_)
 ·obtain⟨t,v,rfl,_⟩:=h
  rfl
 obtain⟨t,v,rfl,hR,q⟩:=h
 refine⟨_,(zAE (ps_if (zAP (r:=rIn K false) zF7 (iC (r:=rIxT K) zAW (pv 0)) (zGr (v:=.ref _) (by rfl) zMk (by rfl)) rfl) (zAF (zAU (zAd zAe (by rfl) z_len PySem.boot_len (zAA (pv 0) zAC)))) zAO)
  (zAE (ps_if (zAP op_eq (iC (r:=rIxT K) zAW (pv 0)) zAY (zAb _)) (zAF (zAU zAJ)) zAO)
  (zAF (zAU zAJ)))),?_⟩
 obtain⟨a,hs,us,rfl,ha,hl,hp⟩:=hR.all;have h0:atI (V.str t.kd.s::hs++us) 0=some (.str t.kd.s):=zAZ (j:=0) rfl;refine⟨_,rfl,a,_,0,_,rfl,rfl,SqT.of ha,h0,lv,zEq,rfl,.inr (.inr hL),rfl,rfl,_,rfl,?_⟩;show if inV (.str t.kd.s) zEq=true then _ else _
 rw[zHh];refine ite2 (λ c=>?_) (λ c=>?_)
 ·refine⟨_,rfl,a,_,rfl,.inr (SqT.of ha),?_⟩
  have e:((V.str t.sign::hs++us).length:Int)=zDL t:=by
   have hu:us.length=0:=by
    rw[←hp.length];cases t with
    |bin o a b=>cases o<;>cases c
    |_=>first|rfl|cases c
   rw[List.length_append,List.length_cons,hu];unfold zDL;omega
  rw[e];exact q
 ·refine⟨_,rfl,a,_,0,_,rfl,rfl,SqT.of ha,h0,rfl,_,rfl,?_⟩
  refine ite2 (λ d=>?_) (λ d=>?_)
  ·have z:t.kd = .lett:=Kd.eq_iff.mp (lS d)
   have e:zDL t=2:=by
    cases t with
    |lett x a b=>rfl
    |bin o a b=>cases o<;>cases z
    |_=>cases z
   rw[e] at q;exact q
  ·have e:zDL t=1:=by
    cases t with
    |lett x a b=>exact absurd rfl d
    |bin o a b=>rfl
    |ite a b c=>rfl
    |say a=>rfl
    |_=>exact absurd rfl c
   rw[e] at q;exact q
noncomputable def zBe:Sp:=λ vs H Q Ω=>∃t v,vs=[v]/\Rep H t v/\∀p H' us,Same H H'->H' p=some (.tup us)->Paired (Rep H') t.parts us->Q (.ref p) H'
theorem zKP {k:Nat}{f g:Addr}{fd gd:FuncData}(F:Fun K "parts" "parts" zGj f fd) (zMl:FnB P w K mg base k "parts_begin" g gd ["tree"] zB0) :
  FnOk P w K mg base CX0 (k+1) f fd ["tree"] zBe:=by
 refine F.ok zJ7 (λ vs H Q E h=>?_) (λ cdv A outer s H vs Q E hr h=>?_)
 ·obtain⟨t,v,rfl,_⟩:=h
  rfl
 obtain⟨t,v,rfl,hR,q⟩:=h;refine⟨_,(zAF (zAU (zBB zIn (pv 0) (zA6 (pe_cl zMl hr (zAA (pv 0) zAC))) zBc))),?_⟩;obtain⟨a,hs,us,rfl,ha,hl,hp⟩:=hR.all;have hn:(V.str t.sign::hs++us).length=t.head+us.length:=by rw[List.length_append,List.length_cons];omega
 have h1:=zKi t
 have e1:HT.sIx (V.str t.sign::hs++us).length 0 (some (zDL t))=t.head:=by
  show HT.sIx _ 0 (some ((t.head:Nat):Int))=_;rw[HT.sIx_nat,hn];omega
 have e2:cutV (V.str t.sign::hs++us) (some (zDL t)) none=us:=by
  unfold cutV;rw[e1,HT.sIx_none,hn]
  have:(V.str t.sign::hs++us).drop t.head=us:=by
   rw[←hl];exact List.drop_left' rfl
  rw[this,List.take_of_length_le (by omega)]
 refine⟨_,rfl,_,rfl,t,_,rfl,hR,_,rfl,a,_,rfl,ha,λ z=>?_,λ p H' g e=>?_⟩
 ·rw[e1] at z
  omega
 ·rw[e2] at e
  exact q p H' us g e (Paired.mapP hp λ Ω Ω r=>r.mono g.tk)
noncomputable def zIm:Sp:=λ vs H Q Ω=>∃(t:Tr) (v:V),vs=[v]/\Rep H t v/\t.size<=60/\∀(l:Addr) (us:List V) (F:List Tr) (H':Hp),Same H H'->H' l=some (.lst us)->Paired (Rep H') F us->F.Perm t.subs->Q (.ref l) H'
theorem zMW {k:Nat}{f g1:Addr}{fd gd1:FuncData}(F:Fun K "all_parts" "all_parts" zC5 f fd) (zMm:FnB P w K mg base k "parts" g1 gd1 ["tree"] zBe):FnOk P w K mg base CX0 (k+1) f fd ["tree"] zIm:=by
 refine F.ok zBM (λ vs H Q E h=>?_) (λ cdv A outer s H vs Q E hr h=>?_)
 ·obtain⟨t,v,rfl,_⟩:=h
  rfl
 obtain⟨t,v,rfl,hR,hsz,q⟩:=h
 refine⟨_,(zAE (zAX (i:=1) zBM.nd rfl (Or.inl rfl) (zA1 zAC:PE _ _ _))
  (zAE (zAX (i:=2) zBM.nd rfl (Or.inl rfl) (zA1 (zAA (pv 0) zAC):PE _ _ _))
  (zAE (zDE PassesOwn.never (zBw (pv 2) (λ Ω=>rfl)) (zAE (zAw (pe_bm PySem.F.plainAttrs_list PySem.F.slot_list_extend PySem.F.type_list_extend zDG (pv 1) (zAA (pv 2) zAC)))
  (zAE (zAX (i:=3) zBM.nd rfl (Or.inl rfl) (zA1 zAC:PE _ _ _))
  (zAE (zAn PassesOwn.never rfl (zA7 (pv 2)) (zAN (i:=4) zBM.nd rfl (Or.inl rfl)) (zAF (zAw (pe_bm PySem.F.plainAttrs_list PySem.F.slot_list_extend PySem.F.type_list_extend zIJ (pv 3) (zAA (pe_cl zMm hr (zAA (pv 4) zAC)) zAC)))))
  (zAF (zAX (i:=2) zBM.nd rfl (Or.inl rfl) (pv 3)))))))
  (zAF (zAU (pv 1)))))),?_⟩
 refine⟨(by show 0<=sizeLine;decide),λ fo hfo=>⟨_,rfl,(by show 1<=sizeLine;decide),λ l hl=>?_⟩⟩;have g1:=zAD (o:=.lst []) hfo;have g2:=zAD (o:=.lst [v]) hl
 refine⟨λ m σ' H'=>∃(l:Addr) (ls fs:List V) (L Fd:List Tr) (s3 s4:Option V),σ'=[some v,some (.ref fo),some (.ref l),s3,s4]/\Same H H'/\H l=none/\l≠fo/\H' fo=some (.lst fs)/\H' l=some (.lst ls) /\
   Paired (Rep H') Fd fs/\Paired (Rep H') L ls/\m=szT L/\(Fd++L.flatMap Tr.subs).Perm t.subs/\Fd.length+szT L<=t.size,
  ⟨t.size,l,[v],[],[t],[],none,none,rfl,g1.trans g2,g1.free hl,Ne.symm (zAK (zAB (H:=H) (a:=fo) (o:=.lst [])) hl),g2 _ _ zAB,zAB,.nil,.cons (hR.mono (g1.trans g2).tk) .nil,by simp[szT],by simp,by simp[szT]⟩,?_⟩
 rintro m σ' Hw ⟨l,ls,fs,L,Fd,s3,s4,rfl,gw,hl,hlf,ef,el,pF,pL,rfl,hmem,hcnt⟩;have lL:ls.length=L.length:=zAH pL;have lF:fs.length=Fd.length:=zAH pF;have hZ:=zDA L;refine⟨_,rfl,_,.inl ⟨ls,SqL.of el,rfl⟩,?_⟩;refine ite2 (λ c=>?_) (λ c=>?_)
 ·refine⟨_,λ Ω Ω h=>h,?_⟩
  refine⟨_,rfl,.inl ⟨rfl,_,SqL.of ef⟩,_,rfl,fo,l,fs,ls,rfl,rfl,ef,el,zA3 (by omega),?_⟩;have ef1:(upd Hw fo (.lst (fs++ls))) fo=some (.lst (fs++ls)):=zAB;have el1:(upd Hw fo (.lst (fs++ls))) l=some (.lst ls):=by rw[zAL hlf];exact el
  have gw1:Same H (upd Hw fo (.lst (fs++ls))):=zAa gw hfo;have tk1:Tk Hw (upd Hw fo (.lst (fs++ls))):=Tk.lst ef;show tSeq _ _ _ _ (upd Hw fo (.lst (fs++ls)));generalize upd Hw fo (.lst (fs++ls))=H1 at ef1 el1 gw1 tk1 ⊢;refine⟨(by show 0<=sizeLine;decide),λ dp hdp=>?_⟩;have g4:=zAD (o:=.lst []) hdp;have hdpH:H dp=none:=gw1.free hdp;have ndf:dp≠fo:=Ne.symm (zAK ef1 hdp);have ndl:dp≠l:=Ne.symm (zAK el1 hdp);refine⟨_,rfl,l,rfl,⟨ls,SqL.of (g4 _ _ el1)⟩,?_⟩;refine zA4 (xs:=ls) (λ i σ' H'=>∃(dps:List V) (s4:Option V),σ'=[some v,some (.ref fo),some (.ref l),some (.ref dp),s4]/\Same H H'/\Tk H1 H'/\H' fo=some (.lst (fs++ls))/\H' l=some (.lst ls)/\H' dp=some (.lst dps)/\Paired (Rep H') ((L.take i).flatMap Tr.parts) dps) ?_ ?_ ?_ ?_
  ·exact⟨[],s4,rfl,gw1.trans g4,g4.tk,g4 _ _ ef1,g4 _ _ el1,zAB,.nil⟩
  ·rintro i σ1 H2 _ ⟨dps,s4,rfl,g5,k5,ef5,el5,ed5,p5⟩
   exact SqL.of el5
  ·rintro i x σ1 H2 hx ⟨dps,s4,rfl,g5,k5,ef5,el5,ed5,p5⟩
   obtain⟨tq,eq,rq⟩:=zAQ pL hx;refine⟨_,rfl,.inl ⟨rfl,_,SqL.of ed5⟩,_,rfl,tq,x,rfl,rq.mono (tk1.trans k5),λ pp H3 us g6 ep hus=>?_⟩
   have hflat:((L.take (i+1)).flatMap Tr.parts)=((L.take i).flatMap Tr.parts)++tq.parts:=by
    rw[zAV eq,List.flatMap_append];simp
   have hlen:dps.length+us.length<=1000:=by
    have z0:=zAH p5;have z1:=zAH hus;have z2:=zGa ((L.take (i+1)).flatMap Tr.parts);have z3:=zDA (L.take (i+1));have z4:=zHA L (i+1);rw[hflat,List.length_append] at z2;rw[hflat] at z3;omega
   have ed6:=g6 _ _ ed5;refine⟨dp,pp,dps,us,rfl,rfl,ed6,SqT.of ep,zA3 hlen,?_⟩;have tkz:Tk H3 (upd H3 dp (.lst (dps++us))):=Tk.lst ed6;refine⟨dps++us,_,rfl,zAa (g5.trans g6) hdpH,k5.trans (g6.tk.trans tkz),by rw[zAL (Ne.symm ndf)];exact g6 _ _ ef5,by rw[zAL (Ne.symm ndl)];exact g6 _ _ el5,zAB,?_⟩;rw[hflat];exact zAT (Paired.mapP p5 λ Ω Ω z=>z.mono (g6.tk.trans tkz)) (Paired.mapP hus λ Ω Ω z=>z.mono tkz)
  ·rintro σ1 H2 ⟨dps,s4,rfl,g5,k5,ef5,el5,ed5,p5⟩
   rw[List.take_of_length_le (by omega)] at p5
   have hpos:0<L.length:=by
    rw[←lL];cases ls with
    |nil=>simp at c
    |cons _ _=>simp
   refine⟨_,rfl,szT (L.flatMap Tr.parts),by omega,dp,dps,fs++ls,L.flatMap Tr.parts,Fd++L,some (.ref dp),s4,rfl,g5,hdpH,ndf,ef5,ed5,zAT (Paired.mapP pF λ Ω Ω z=>z.mono (tk1.trans k5)) (Paired.mapP pL λ Ω Ω z=>z.mono (tk1.trans k5)),p5,rfl,?_,?_⟩
   ·rw[List.append_assoc];exact((zEu L).symm.append_left Fd).trans hmem
   ·rw[List.length_append]
    omega
 ·have e0:ls=[]:=by
   cases ls with
   |nil=>rfl
   |cons _ _=>simp at c
  have eL:L=[]:=by
   subst e0;cases L with
   |nil=>rfl
   |cons _ _=>simp at lL
  subst eL;refine⟨_,rfl,q fo fs Fd Hw gw ef pF ?_⟩;simpa using hmem
noncomputable def PPl (H:Hp) (x:PlT) (v:V):Prop:=∃u,PlV H (x.1,u) v/\Rep H x.2 u
theorem PPl.mono {H H':Hp}(k:Tk H H') {x:PlT}{v:V}:PPl H x v->PPl H' x v
 |⟨u,h,r⟩=>⟨u,h.mono k,r.mono k⟩
theorem zJM {α β:Type}(g:α->β):∀{qs l:List β},qs.Perm l->∀{Z:List α},Z.map g=l->∃Z':List α,Z'.Perm Z/\Z'.map g=qs:=by
 intro qs l h
 induction h with
 |nil =>
  intro Z e;have:Z=[]:=List.map_eq_nil_iff.mp e;subst this;exact⟨[],.nil,rfl⟩
 |cons x _ ih =>
  intro Z e;obtain⟨z,Z2,rfl,e1,e2⟩:=List.map_eq_cons_iff.mp e;obtain⟨Z',h1,h2⟩:=ih e2;exact⟨z::Z',h1.cons z,by simp[e1,h2]⟩
 |swap x y l =>
  intro Z e;obtain⟨z,Z2,rfl,e1,e2⟩:=List.map_eq_cons_iff.mp e;obtain⟨z2,Z3,rfl,e3,e4⟩:=List.map_eq_cons_iff.mp e2;exact⟨z2::z::Z3,.swap _ _ _,by simp[e1,e3,e4]⟩
 |trans _ _ ih1 ih2 =>
  intro Z e;obtain⟨Z1,h1,h2⟩:=ih2 e;obtain⟨Z2,h3,h4⟩:=ih1 h2;exact⟨Z2,h3.trans h1,h4⟩
theorem zFz {H:Hp}{F:List PlT}{us:List V}(h:Paired (PPl H) F us):∃Z:List (PlT × V),Z.map (·.1)=F/\Paired (PlV H) (Z.map λ z=>(z.1.1,z.2)) us/\∀z∈Z,Rep H z.1.2 z.2:=by
 induction h with
 |nil=>exact⟨[],rfl,.nil,λ z h=>nomatch h⟩
 |cons r q ih =>
  obtain⟨Z,h1,h2,h3⟩:=ih;obtain⟨u,hu,ru⟩:=r;refine⟨(_,u)::Z,by simp[h1],.cons hu h2,λ z hz=>?_⟩;rcases List.mem_cons.mp hz with rfl|hz
  ·exact ru
  ·exact h3 z hz
theorem zF0 {H:Hp}:∀{Z:List (PlT × V)}{us:List V},Paired (PlV H) (Z.map λ z=>(z.1.1,z.2)) us->(∀z∈Z,Rep H z.1.2 z.2)->Paired (PPl H) (Z.map (·.1)) us
 |[],_,h,_=>by
  cases h;exact .nil
 |z::Z,_,h,k=>by
  rw[List.map_cons] at h ⊢;cases h with
  |cons r q=>exact .cons ⟨z.2,r,k z lO⟩ (zF0 q λ y hy=>k y (lP _ hy))
noncomputable def zDB:Sp:=λ vs H Q Ω=>∃(t:Tr) (v:V),vs=[v]/\Rep H t v/\t.size<=60/\∀(l:Addr) (us:List V) (H':Hp),Same H H'->H' l=some (.lst us)->Paired (PPl H') (psub [] t) us->Q (.ref l) H'
theorem zI9 {k:Nat}{f g1:Addr}{fd gd1:FuncData}(F:Fun K "placed_parts" "placed_parts" zB3 f fd) (z_enumerate:mg "enumerate" = none) (z_sorted:mg "sorted" = none) (zMm:FnB P w K mg base k "parts" g1 gd1 ["tree"] zBe):FnOk P w K mg base CX0 (k+1) f fd ["tree"] zDB:=by
 refine F.ok zAg (λ vs H Q E h=>?_) (λ cdv A outer s H vs Q E hr h=>?_)
 ·obtain⟨t,v,rfl,_⟩:=h
  rfl
 obtain⟨t,v,rfl,hR,hsz,q⟩:=h;have hu5:=hu150 hr
 refine⟨_,(zAE (zAX (i:=1) zAg.nd rfl (Or.inl rfl) (zA1 zAC:PE _ _ _))
  (zAE (zAX (i:=2) zAg.nd rfl (Or.inl rfl) (zA1 (zAA (zA8 (zAA (zA8 zAC:PE _ _ _) (zAA (pv 0) zAC)):PE _ _ _) zAC):PE _ _ _))
  (zAE (zDE PassesOwn.never (zBw (pv 2) (λ Ω=>rfl)) (zAE (zAw (pe_bm PySem.F.plainAttrs_list PySem.F.slot_list_extend PySem.F.type_list_extend zDG (pv 1) (zAA (pv 2) zAC)))
  (zAE (zAX (i:=3) zAg.nd rfl (Or.inl rfl) (zA1 zAC:PE _ _ _))
  (zAE (zAn PassesOwn.never rfl (zA7 (pv 2)) (zBz rfl (zAc (zAN (i:=4) zAg.nd rfl (Or.inl rfl)) (zAc (zAN (i:=5) zAg.nd rfl (Or.inl rfl)) zBJ))) (zAF (zAn PassesOwn.never rfl (zIz (by rfl) z_enumerate (zAA (pe_cl zMm hr (zAA (pv 5) zAC)) zAC)) (zBz rfl (zAc (zAN (i:=6) zAg.nd rfl (Or.inl rfl)) (zAc (zAN (i:=7) zAg.nd rfl (Or.inl rfl)) zBJ))) (zAF (zAw (pe_bm PySem.F.plainAttrs_list PySem.F.slot_list_append PySem.F.type_list_append zAt (pv 3) (zAA (zA8 (zAA (pe_op zI5 (pv 4) (zA8 (zAA (pv 6) zAC):PE _ _ _)) (zAA (pv 7) zAC)):PE _ _ _) zAC)))))))
  (zAF (zAX (i:=2) zAg.nd rfl (Or.inl rfl) (pv 3)))))))
  (zAF (zAU (zAd (zGK hu5) (by rfl) z_sorted PyProof.Rows.boot_sorted (zAA (pv 1) zAC))))))),?_⟩
 have d2:2<=sizeLine:=by decide
 refine⟨(by show 0<=sizeLine;decide),λ fo hfo=>⟨(by show 0<=sizeLine;decide),λ pe hpe=>⟨_,rfl,d2,λ pr hpr=>⟨(by show 1<=sizeLine;decide),λ l hl=>?_⟩⟩⟩⟩;have g1:=zAD (o:=.lst []) hfo;have g2:=zAD (o:=.tup []) hpe;have g3:=zAD (o:=.tup [.ref pe,v]) hpr;have g4:=zAD (o:=.lst [.ref pr]) hl;have g23:=g2.trans g3;have gA:=g1.trans (g23.trans g4)
 refine⟨λ m σ' H'=>∃(l:Addr) (ls fs:List V) (L Fd:List PlT) (s3 s4 s5 s6 s7:Option V),σ'=[some v,some (.ref fo),some (.ref l),s3,s4,s5,s6,s7]/\Same H H'/\H l=none/\l≠fo/\H' fo=some (.lst fs)/\H' l=some (.lst ls) /\
   Paired (PPl H') Fd fs/\Paired (PPl H') L ls/\m=szP L/\(Fd++allP L).Perm (psub [] t)/\(∀x∈L,x.1.length+x.2.size<=60),
  ⟨szP [([],t)],l,[.ref pr],[],[([],t)],[],none,none,none,none,none,rfl,gA,(g1.trans g23).free hl,?_,g4 _ _ (g23 _ _ zAB),zAB,.nil,.cons ⟨v,⟨pr,pe,rfl,g4 _ _ zAB,g4 _ _ (g3 _ _ zAB)⟩,hR.mono gA.tk⟩ .nil,rfl,by simp[allP],by simpa using hsz⟩,?_⟩
 ·exact Ne.symm (zAK (g23 _ _ (zAB (H:=H) (a:=fo) (o:=.lst []))) hl)
 rintro m σ' Hw ⟨l,ls,fs,L,Fd,s3,s4,s5,s6,s7,rfl,gw,hl,hlf,ef,el,pF,pL,rfl,hperm,hdp0⟩;have lL:ls.length=L.length:=zAH pL;have lF:fs.length=Fd.length:=zAH pF;have hZ:=zFh L
 have hcnt:Fd.length+szP L<=60:=by
  have:=hperm.length_eq;rw[List.length_append,zKu,zBR] at this;omega
 refine⟨_,rfl,_,.inl ⟨ls,SqL.of el,rfl⟩,?_⟩;refine ite2 (λ c=>?_) (λ c=>?_)
 ·refine⟨_,λ Ω Ω h=>h,?_⟩
  refine⟨_,rfl,.inl ⟨rfl,_,SqL.of ef⟩,_,rfl,fo,l,fs,ls,rfl,rfl,ef,el,zA3 (by omega),?_⟩;have ef1:(upd Hw fo (.lst (fs++ls))) fo=some (.lst (fs++ls)):=zAB;have el1:(upd Hw fo (.lst (fs++ls))) l=some (.lst ls):=by rw[zAL hlf];exact el
  have gw1:Same H (upd Hw fo (.lst (fs++ls))):=zAa gw hfo;have tk1:Tk Hw (upd Hw fo (.lst (fs++ls))):=Tk.lst ef;show tSeq _ _ _ _ (upd Hw fo (.lst (fs++ls)));generalize upd Hw fo (.lst (fs++ls))=H1 at ef1 el1 gw1 tk1 ⊢;refine⟨(by show 0<=sizeLine;decide),λ dp hdp=>?_⟩;have g4:=zAD (o:=.lst []) hdp;have hdpH:H dp=none:=gw1.free hdp;have ndf:dp≠fo:=Ne.symm (zAK ef1 hdp);have ndl:dp≠l:=Ne.symm (zAK el1 hdp);refine⟨_,rfl,l,rfl,⟨ls,SqL.of (g4 _ _ el1)⟩,?_⟩;refine zA4 (xs:=ls) (λ i σ' H'=>∃(dps:List V) (s4 s5 s6 s7:Option V),σ'=[some v,some (.ref fo),some (.ref l),some (.ref dp),s4,s5,s6,s7]/\Same H H'/\Tk H1 H'/\H' fo=some (.lst (fs++ls))/\H' l=some (.lst ls)/\H' dp=some (.lst dps)/\Paired (PPl H') ((L.take i).flatMap kidsP) dps) ?_ ?_ ?_ ?_
  ·exact⟨[],s4,s5,s6,s7,rfl,gw1.trans g4,g4.tk,g4 _ _ ef1,g4 _ _ el1,zAB,.nil⟩
  ·rintro i σ1 H2 _ ⟨dps,s4,s5,s6,s7,rfl,g5,k5,ef5,el5,ed5,p5⟩
   exact SqL.of el5
  ·rintro i x σ1 H2 hx ⟨dps,s4,s5,s6,s7,rfl,g5,k5,ef5,el5,ed5,p5⟩
   obtain⟨⟨pl,tq⟩,eq,rq⟩:=zAQ pL hx;obtain⟨u,⟨b,c',rfl,hb,hc'⟩,ru⟩:=rq.mono (tk1.trans k5);dsimp only at hb hc' ru;refine⟨b,_,rfl,SqT.of hb,rfl,_,_,rfl,_,_,rfl,rfl,?_⟩
   have hflat:((L.take (i+1)).flatMap kidsP)=((L.take i).flatMap kidsP)++kidsP (pl,tq):=by
    rw[zAV eq,List.flatMap_append];simp
   have hlen:((L.take i).flatMap kidsP).length+(kidsP (pl,tq)).length<=60:=by
    have z2:=zLQ ((L.take (i+1)).flatMap kidsP);have z3:=zFh (L.take (i+1));have z4:szP (L.take (i+1))<=szP L:=by unfold szP;rw[List.map_take];exact zHA _ _
    rw[hflat,List.length_append] at z2;rw[hflat] at z3;omega
   refine⟨_,rfl,tq,u,rfl,ru,λ pp H3 us g6 ep hus=>⟨pp,rfl,⟨us,SqT.of ep⟩,?_⟩⟩;have lus:us.length=tq.parts.length:=zAH hus;refine zHk (xs:=us) (λ j σ' H'=>∃(dps':List V) (s6 s7:Option V),σ'=[some v,some (.ref fo),some (.ref l),some (.ref dp),some (.ref c'),some u,s6,s7]/\Same H H'/\Tk H3 H'/\H' fo=some (.lst (fs++ls))/\H' l=some (.lst ls)/\H' dp=some (.lst dps')/\Paired (PPl H') (((L.take i).flatMap kidsP)++(kidsP (pl,tq)).take j) dps') ?_ ?_ ?_ ?_
   ·refine⟨dps,s6,s7,rfl,g5.trans g6,.refl _,g6 _ _ ef5,g6 _ _ el5,g6 _ _ ed5,?_⟩
    rw[List.take_zero,List.append_nil];exact Paired.mapP p5 λ Ω Ω z=>z.mono g6.tk
   ·rintro j σ3 H5 _ ⟨dps5,s6,s7,rfl,g7,k7,ef7,el7,ed7,p7⟩
    exact SqT.of (k7 _ _ ep)
   ·rintro j x T σ3 H5 hx ⟨dps5,s6,s7,rfl,g7,k7,ef7,el7,ed7,p7⟩ hT
    have gT:=zAD (o:=.tup [.int j,x]) hT;obtain⟨cc,ec,rc⟩:=zAQ hus hx;have kk:=zJQ (pl:=pl) ec
    have ld:dps5.length<=60:=by
     rw[zAH p7,List.length_append,List.length_take];omega
    refine⟨T,_,rfl,SqT.of zAB,rfl,_,_,rfl,_,_,rfl,rfl,?_⟩;have ed8:=gT _ _ ed7;have hc8:(upd H5 T (.tup [.int j,x])) c'=some (.tup (pl.map V.int)):=gT.tk _ _ (k7 _ _ (g6.tk _ _ hc'));refine⟨_,rfl,.inl ⟨rfl,_,SqL.of ed8⟩,_,rfl,_,rfl,(by show 1<=sizeLine;decide),λ pj hpj=>?_⟩;have gj:=zAD (o:=.tup [.int j]) hpj
    have hpl:pl.length<=60:=by
     have h9:=hdp0 _ (lM eq);dsimp only at h9;omega
    refine⟨c',pj,_,_,rfl,rfl,gj.tk _ _ hc8,zAB,zA3 (by simp;omega),λ pn H6 g9 e9=>?_⟩;refine⟨_,rfl,d2,λ pt hpt=>?_⟩;have g10:=zAD (o:=.tup [.ref pn,x]) hpt;have gB:=gT.trans (gj.trans (g9.trans g10));have ed9:=gB _ _ ed7;refine⟨dp,dps5,_,rfl,rfl,ed9,zAS (by omega),?_⟩;have tkz:Tk _ _:=Tk.lst (o:=.lst (dps5++[.ref pt])) ed9;have e9':H6 pn=some (.tup ((pl++[(j:Int)]).map V.int)):=by rw[e9,List.map_append];rfl
    refine⟨dps5++[.ref pt],_,_,rfl,zAa (g7.trans gB) hdpH,k7.trans (gB.tk.trans tkz),by rw[zAL (Ne.symm ndf)];exact gB _ _ ef7,by rw[zAL (Ne.symm ndl)];exact gB _ _ el7,zAB,?_⟩;rw[zAV kk,←List.append_assoc];exact zAT (Paired.mapP p7 λ Ω Ω z=>z.mono (gB.tk.trans tkz)) (.cons ⟨x,⟨pt,pn,rfl,tkz _ _ zAB,tkz _ _ (g10.tk _ _ e9')⟩,rc.mono (k7.trans (gB.tk.trans tkz))⟩ .nil)
   ·rintro σ3 H5 ⟨dps5,s6,s7,rfl,g7,k7,ef7,el7,ed7,p7⟩
    have ek:(kidsP (pl,tq)).take us.length=kidsP (pl,tq):=List.take_of_length_le (by rw[zJP];omega);rw[ek,←hflat] at p7;exact⟨dps5,_,_,_,_,rfl,g7,k5.trans (g6.tk.trans k7),ef7,el7,ed7,p7⟩
  ·rintro σ1 H2 ⟨dps,s4,s5,s6,s7,rfl,g5,k5,ef5,el5,ed5,p5⟩
   rw[List.take_of_length_le (by omega)] at p5
   have hpos:0<L.length:=by
    rw[←lL];cases ls with
    |nil=>simp at c
    |cons _ _=>simp
   refine⟨_,rfl,szP (L.flatMap kidsP),by omega,dp,dps,fs++ls,L.flatMap kidsP,Fd++L,some (.ref dp),s4,s5,s6,s7,rfl,g5,hdpH,ndf,ef5,ed5,zAT (Paired.mapP pF λ Ω Ω z=>z.mono (tk1.trans k5)) (Paired.mapP pL λ Ω Ω z=>z.mono (tk1.trans k5)),p5,rfl,?_,?_⟩
   ·rw[List.append_assoc]
    exact((zE6 L).symm.append_left Fd).trans hperm
   ·intro x hx
    obtain⟨y,hy,hx⟩:=List.mem_flatMap.mp hx;have h9:=hdp0 y hy;unfold kidsP at hx;obtain⟨z,hz,rfl⟩:=mC.mp hx;have h8:z.1∈y.2.parts:=List.fst_mem_of_mem_zipIdx hz;have h7:=zBu h8;simp;omega
 ·have e0:ls=[]:=by
   cases ls with
   |nil=>rfl
   |cons _ _=>simp at c
  have eL:L=[]:=by
   subst e0;cases L with
   |nil=>rfl
   |cons _ _=>simp at lL
  subst eL;have hperm':Fd.Perm (psub [] t):=by simpa[allP] using hperm
  obtain⟨Z,w1,w2,w3⟩:=zFz pF;have hfst:((Z.map λ z=>(z.1.1,z.2)).map (·.1))=Fd.map (·.1):=by rw[←w1,List.map_map,List.map_map];rfl
  have hlz:Z.length=Fd.length:=by rw[←w1,List.length_map]
  refine⟨_,rfl,fo,fs,Z.map λ z=>(z.1.1,z.2),rfl,ef,w2,?_,by rw[List.length_map];omega,λ l' zs qs hl' pq hq hasc=>?_⟩
  ·rw[hfst]
   exact(hperm'.map _).nodup_iff.mpr (zCK t [])
  ·obtain⟨Z',z1,rfl⟩:=zJM _ hq rfl
   have gl:=zAD (o:=.lst zs) hl'
   have e1:(Z'.map (·.1)).Perm (psub [] t):=by
    refine(z1.map _).trans ?_;rw[w1];exact hperm'
   have e2:(Z'.map (·.1)).Pairwise λ a b=>lexB a.1 b.1=true:=by
    rw[List.pairwise_map] at hasc ⊢;exact hasc
   have e3:(psub [] t).Pairwise λ a b=>lexB a.1 b.1=true:=by
    have:=zBh t []
    rwa [List.pairwise_map] at this
   have e4:Z'.map (·.1)=psub [] t:=List.Perm.eq_of_pairwise (λ a b Ω Ω h1 h2=>by rw[zEO h1] at h2;cases h2) e2 e3 e1;have hj:=Paired.mapP (zF0 pq λ z hz=>w3 z (z1.mem_iff.mp hz)) λ Ω Ω h=>h.mono gl.tk;rw[e4] at hj;exact q l' zs _ (gw.trans gl) zAB hj
abbrev zDX:Stmt:=top 6
theorem zGi:zAR ["value"] ["value"] (zAG zDX):=⟨rfl,rfl,rfl,by decide +kernel,rfl,by decide +kernel,by decide +kernel⟩
abbrev zCU:Stmt:=top 9
theorem zFC:zAR ["tree", "parts"] ["tree", "parts"] (zAG zCU):=⟨rfl,rfl,rfl,by decide +kernel,rfl,by decide +kernel,by decide +kernel⟩
abbrev zBp:Stmt:=top 13
theorem zBF:zAR ["tree", "place", "met", "number", "inner"] ["tree", "place"] (zAG zBp):=⟨rfl,rfl,rfl,by decide +kernel,rfl,by decide +kernel,by decide +kernel⟩
abbrev zEB:Stmt:=top 14
theorem zH4:zAR ["tree", "place"] ["tree", "place"] (zAG zEB):=⟨rfl,rfl,rfl,by decide +kernel,rfl,by decide +kernel,by decide +kernel⟩
abbrev zFE:Stmt:=top 15
theorem zBm:zAR ["tree", "place", "part", "met", "changed", "outer", "number", "inner"] ["tree", "place", "part"] (zAG zFE):=⟨rfl,rfl,rfl,by decide +kernel,rfl,by decide +kernel,by decide +kernel⟩
noncomputable def zHD:Sp:=λ vs H Q Ω=>∃i:Int,vs=[.int i]/\Q (.bl true) H
theorem zKK {k:Nat}{f:Addr}{fd:FuncData}(F:Fun K "is_whole" "is_whole" zDX f fd) (z_isinstance:mg "isinstance" = none) (z_int:mg "int" = none) (z_bool:mg "bool" = none):FnOk P w K mg base CX0 (k+1) f fd ["value"] zHD:=by
 refine F.ok zGi (λ vs H Q E h=>?_) (λ cdv A outer s H vs Q E hr h=>?_)
 ·obtain⟨i,rfl,_⟩:=h
  rfl
 obtain⟨i,rfl,q⟩:=h;refine⟨_,(zAF (zAU (zF3 (zAd zBa (by rfl) z_isinstance PyProof.Rows.boot_isinstance (zAA (pv 0) (zAA (zBt (v:=.ty _) (by rfl) z_int PyProof.Rows.boot_int (by rfl)) zAC))) (zDq (zK6 (zAd zBa (by rfl) z_isinstance PyProof.Rows.boot_isinstance (zAA (pv 0) (zAA (zBt (v:=.ty _) (by rfl) z_bool PyProof.Rows.boot_bool (by rfl)) zAC)))))))),?_⟩;refine⟨_,rfl,.int i, "int", _,true,rfl,.int i,rfl,_,rfl,?_⟩;refine iteT ⟨_,rfl,.int i, "bool", _,false,rfl,.int i,rfl,_,rfl,q⟩
noncomputable def zGb:Sp:=λ vs H Q Ω=>∃(t:Tr) (v:V) (l:Addr) (us:List V) (ps:List Tr),vs=[v,.ref l]/\Rep H t v/\H l=some (.lst us)/\Paired (Rep H) ps us/\ps.length=t.parts.length/\∀v' H',Same H H'->Rep H' (t.withP ps) v'->Q v' H'
theorem zKj (t:Tr):t.head<=3:=by cases t<;>simp[Tr.head]
theorem zLh {k:Nat}{f g:Addr}{fd gd:FuncData}(F:Fun K "with_parts" "with_parts" zCU f fd) (z_tuple:mg "tuple" = none) (zMl:FnB P w K mg base k "parts_begin" g gd ["tree"] zB0) :
  FnOk P w K mg base CX0 (k+1) f fd ["tree", "parts"] zGb:=by
 refine F.ok zFC (λ vs H Q E h=>?_) (λ cdv A outer s H vs Q E hr h=>?_)
 ·obtain⟨t,v,l,us,ps,rfl,_⟩:=h
  rfl
 obtain⟨t,v,l,ws,ps,rfl,hR,hl0,hp,hpl,q⟩:=h;refine⟨_,(zAF (zAU (pe_op zI5 (zBB zLS (pv 0) zBc (zA6 (pe_cl zMl hr (zAA (pv 0) zAC)))) (zBb zBj (by rfl) z_tuple PyProof.Rows.boot_tuple (zAA (pv 1) zAC))))),?_⟩;obtain⟨a,hs,us,rfl,ha,hl,hul,mk⟩:=hR.build hpl;have hn:(V.str t.sign::hs++us).length=t.head+us.length:=by rw[List.length_append,List.length_cons];omega
 have e1:HT.sIx (V.str t.sign::hs++us).length (V.str t.sign::hs++us).length (some (zDL t))=t.head:=by
  show HT.sIx _ _ (some ((t.head:Nat):Int))=_;rw[HT.sIx_nat,hn];omega
 have e2:cutV (V.str t.sign::hs++us) none (some (zDL t))=V.str t.sign::hs:=by
  unfold cutV;rw[e1,HT.sIx_none,Nat.sub_zero,List.drop_zero,←hl];exact List.take_left' rfl
 have h3:=zKj t;have h4:=zF4 t;refine⟨_,rfl,_,rfl,t,_,rfl,hR,_,rfl,a,_,rfl,ha,λ p H' g e=>?_⟩
 ·rw[e2] at e
  have hw:ws.length=ps.length:=(zAH hp);refine⟨_,rfl,l,ws,rfl,.inl ⟨SqL.of (g _ _ hl0),λ p2 hp2=>?_⟩⟩;have g2:=zAD (o:=.tup ws) hp2;refine⟨p,p2,_,_,rfl,rfl,g2 _ _ e,zAB,zA3 ?_,λ p3 H3 g3 e3=>?_⟩
  ·rw[List.length_cons]
   omega
  ·have gA:=g.trans (g2.trans g3)
   exact q (.ref p3) H3 gA (mk gA.tk e3 (Paired.mapP hp λ Ω Ω r=>r.mono gA.tk))
noncomputable def zGc (cN:Addr):Sp:=λ vs H Q E=>∃(t:Tr) (v:V) (pl:Addr) (ns:List Int),vs=[v,.ref pl]/\Rep H t v/\H pl=some (.tup (ns.map V.int))/\ns.length<=900 /\
 (∀ts,chain t ns=some ts->∀l us H',Same H H'->H l=none->H' l=some (.lst us)->Paired (Rep H') ts us->Q (.ref l) H')/\(chain t ns=none->∀H',Same H H'->E (.ref cN) none H')
theorem zLm {k:Nat}{f g1 g2 cN:Addr}{fd gd1 gd2:FuncData}(F:Fun K "trees_down_to" "trees_down_to" zBp f fd) (z_len:mg "len" = none) (zMn:mg "NoPlace" = some (.ref cN)) (x_NoPlace:W.excIn K cN bmVE "ValueError.__new__" = true)
  (zMo:FnB P w K mg base k "is_whole" g1 gd1 ["value"] zHD) (zMm:FnB P w K mg base k "parts" g2 gd2 ["tree"] zBe):FnOk P w K mg base (CXF P w) (k+1) f fd ["tree", "place"] (zGc cN):=by
 refine F.okF zBF (λ vs H Q E h=>?_) (λ cdv A outer s H vs Q E hr h=>?_)
 ·obtain⟨t,v,pl,ns,rfl,_⟩:=h
  rfl
 obtain⟨t,v,pl,ns,rfl,hR,hpl,hns,q,qe⟩:=h
 refine⟨_,(zAE (zAX (i:=2) zBF.nd rfl (Or.inl rfl) (zA1 (zAA (pv 0) zAC):PE _ _ _))
  (zAE (zAn zF5 rfl (zCt (pv 1)) (zAN (i:=3) zBF.nd rfl (Or.inl rfl)) (zAE (zAX (i:=4) zBF.nd rfl (Or.inl rfl) (pe_cl zMm hr (zAA (pe_ix (r:=rIxL K) zAy (pv 2) (pe_un zKv zAJ) (λ Ω Ω=>rfl)) zAC)))
  (zAE (ps_if (pw_or (zCQ (zBq (pe_cl zMo hr (zAA (pv 3) zAC)))) (zEE (zCQ (zKB op_le op_lt zAJ (pv 3) (zAd zAe (by rfl) z_len PySem.boot_len (zAA (pv 4) zAC)))))).pt (zAF (zHS (by rfl) zMn x_NoPlace (zAA zAY zAC))) zAO)
  (zAF (zAw (pe_bm PySem.F.plainAttrs_list PySem.F.slot_list_append PySem.F.type_list_append zAt (pv 2) (zAA (pe_ix (r:=rIxT K) zAW (pv 4) (pv 3) (λ Ω Ω=>rfl)) zAC)))))))
  (zAF (zAU (pv 2))))),?_⟩
 have hnl:(ns.map V.int).length=ns.length:=List.length_map _;refine⟨_,rfl,(by show 1<=sizeLine;decide),λ l hl=>?_⟩;have g0:=zAD (o:=.lst [v]) hl;refine⟨_,rfl,pl,rfl,⟨_,SqT.of (g0 _ _ hpl)⟩,?_⟩;refine zFR (xs:=ns.map V.int) (λ i σ' H'=>∃(us:List V) (ts:List Tr) (s3 s4:Option V),σ'=[some v,some (.ref pl),some (.ref l),s3,s4]/\Same H H'/\H' l=some (.lst us)/\Paired (Rep H') ts us/\chain t (ns.take i)=some ts) ?_ ?_ ?_ ?_
 ·exact⟨[v],[t],none,none,rfl,g0,zAB,.cons (hR.mono g0.tk) .nil,rfl⟩
 ·rintro i σ1 H1 _ ⟨us,ts,s3,s4,rfl,g,el,hp,hc⟩
  exact SqT.of (g _ _ hpl)
 ·rintro i x σ1 H1 hx ⟨us,ts,s3,s4,rfl,g,el,hp,hc⟩
  obtain⟨n,en,rfl⟩:∃n,ns[i]?=some n/\V.int n=x:=by
   rw[List.getElem?_map] at hx;exact lV.mp hx
  obtain⟨ts',u,rfl,hu⟩:=zDi hc;obtain⟨us',w',rfl,hp',ru⟩:∃us' w',us=us'++[w']/\Paired (Rep H1) ts' us'/\Rep H1 u w':=zCP hp;refine⟨_,rfl,_,rfl,l,_,_,_,rfl,rfl,SqL.of el,zHw us' w',u,_,rfl,ru,λ pp H2 vs2 g2 ep hvs=>?_⟩;have hvl:=zAH hvs;refine⟨_,rfl,n,rfl,_,rfl,iteF ?_⟩;refine⟨_,rfl,_,_,rfl,rfl,_,rfl,?_⟩;have htk:ns.take (i+1)=ns.take i++[n]:=zAV en
  have bad:u.kid n=none->chain t ns=none:=λ z=>by
   have hsp:ns.take i++n::ns.drop (i+1)=ns:=by
    have:=List.take_append_drop (i+1) ns;rw[htk,List.append_assoc] at this;exact this
   rw[zCr,←hsp,zJu,hu];show (u.kid n).bind _=none;rw[z];rfl
  have hraise:u.kid n=none->(1:Nat)<=sizeLine/\E (.ref cN) none H2:=λ z=>⟨by decide,qe (bad z) H2 (g.trans g2)⟩;refine ite2 (λ c1=>?_) (λ c1=>?_)
  ·refine⟨_,rfl,pp,_,rfl,.inr (SqT.of ep),_,_,rfl,rfl,_,rfl,?_⟩
   refine ite2 (λ c2=>hraise (zLC λ z=>?_)) (λ c2=>?_)
   ·rw[←hvl] at z
    have:=lU (p:=n<(vs2.length:Int)) z.2;rw[this] at c2;cases c2
   ·have h0:0<=n:=lS c1
    have h1:n<(vs2.length:Int):=by
     by_cases z:n<(vs2.length:Int)
     ·exact z
     ·exact absurd (by rw[decide_eq_false z];rfl) c2
    obtain⟨kd,hkd,ekd⟩:=zLt (t:=u) h0 (by rw[←hvl];exact h1);obtain⟨y,ey⟩:∃y,vs2[n.toNat]?=some y:=⟨vs2[n.toNat]'(by omega),lW _⟩;obtain⟨kd',ekd',rk⟩:=zAQ hvs ey;rw[ekd] at ekd';cases ekd';have en':((n.toNat:Nat):Int)=n:=by omega
    have el2:=g2 _ _ el;have hln:=zDJ hc;have hpl2:=zAH hp;refine⟨_,rfl,.inl ⟨rfl,_,SqL.of el2⟩,_,rfl,_,rfl,pp,_,n,_,rfl,rfl,SqT.of ep,(by have:=zAZ ey;rwa [en'] at this),l,_,_,rfl,rfl,el2,zAS ?_,?_⟩
    ·have:(ns.take i).length<=ns.length:=by rw[List.length_take];omega
     omega
    ·have tk:=Tk.lst (o:=.lst (us'++[w']++[y])) el2
     have tk2:=g2.tk.trans tk;refine⟨_,ts'++[u]++[kd],_,_,rfl,zAa (g.trans g2) hl,zAB,zAT (Paired.mapP hp λ Ω Ω z=>z.mono tk2) (.cons (rk.mono tk) .nil),?_⟩;rw[htk];exact zE5 hc hu hkd
  ·refine⟨_,rfl,?_⟩
   refine iteT (hraise (zLC λ z=>c1 (lU z.1)))
 ·rintro σ1 H1 ⟨us,ts,s3,s4,rfl,g,el,hp,hc⟩
  rw[hnl,List.take_length] at hc;exact⟨_,rfl,q ts hc l us H1 g hl el hp⟩
noncomputable def zEl (cN:Addr):Sp:=λ vs H Q E=>∃(t:Tr) (v:V) (pl:Addr) (ns:List Int),vs=[v,.ref pl]/\Rep H t v/\H pl=some (.tup (ns.map V.int))/\ns.length<=900 /\
 (∀u,t.at_ ns=some u->∀v' H',Same H H'->Rep H' u v'->Q v' H')/\(t.at_ ns=none->∀H',Same H H'->E (.ref cN) none H')
theorem zIA {k:Nat}{f g1 cN:Addr}{fd gd1:FuncData}(F:Fun K "part_at" "part_at" zEB f fd) (zMp:FnF P w K mg base k "trees_down_to" g1 gd1 ["tree", "place"] (zGc cN)):FnOk P w K mg base (CXF P w) (k+1) f fd ["tree", "place"] (zEl cN):=by
 refine F.okF zH4 (λ vs H Q E h=>?_) (λ cdv A outer s H vs Q E hr h=>?_)
 ·obtain⟨t,v,pl,ns,rfl,_⟩:=h
  rfl
 obtain⟨t,v,pl,ns,rfl,hR,hpl,hns,q,qe⟩:=h;refine⟨_,(zAF (zAU (pe_ix (r:=rIxL K) zAy (zCO zMp.ok hr (by rfl) zMp.gl zMp.kp zMp.bd .nil zDI (zAA (pv 0) (zAA (pv 1) zAC))) (pe_un zKv zAJ) (λ Ω Ω=>rfl)))),?_⟩;refine⟨_,rfl,_,rfl,t,v,pl,ns,rfl,hR,hpl,hns,λ ts hc l us H' g hl el hp=>?_,λ z H' g=>qe (zCr.mp z) H' g⟩;obtain⟨ts',u,rfl,hu⟩:=zDi hc;obtain⟨us',w',rfl,hp',ru⟩:=zCP hp;exact⟨_,rfl,l,_,_,_,rfl,rfl,SqL.of el,zHw us' w',q u hu w' H' g ru⟩
noncomputable def zFk (cN:Addr):Sp:=λ vs H Q E=>∃(t u:Tr) (v vu:V) (pl:Addr) (ns:List Int),vs=[v,.ref pl,vu]/\Rep H t v/\Rep H u vu/\H pl=some (.tup (ns.map V.int))/\ns.length<=900 /\
 (t.at_ ns≠none->∀v' H',Same H H'->Rep H' (putT t ns u) v'->Q v' H')/\(t.at_ ns=none->∀H',Same H H'->E (.ref cN) none H')
theorem zBX {t k u:Tr}{i:Int}{is:List Int}(h:t.kid i=some k):putT t (i::is) u=t.withP (t.parts.set i.toNat (putT k is u)):=by
 show (match t.kid i with|some k=>t.withP (t.parts.set i.toNat (putT k is u))|none=>t)=_;rw[h]
theorem zI6 {k:Nat}{f g1 g2 g3 cN:Addr}{fd gd1 gd2 gd3:FuncData}(F:Fun K "put_at" "put_at" zFE f fd) (z_list:mg "list" = none) (z_zip:mg "zip" = none) (z_reversed:mg "reversed" = none)
  (zMp:FnF P w K mg base k "trees_down_to" g1 gd1 ["tree", "place"] (zGc cN)) (zMm:FnB P w K mg base k "parts" g2 gd2 ["tree"] zBe) (zMq:FnB P w K mg base k "with_parts" g3 gd3 ["tree", "parts"] zGb) :
  FnOk P w K mg base (CXF P w) (k+1) f fd ["tree", "place", "part"] (zFk cN):=by
 refine F.okF zBm (λ vs H Q E h=>?_) (λ cdv A outer s H vs Q E hr h=>?_)
 ·obtain⟨t,u,v,vu,pl,ns,rfl,_⟩:=h
  rfl
 obtain⟨t,u,v,vu,pl,ns,rfl,hR,hU,hpl,hns,q,qe⟩:=h
 refine⟨_,(zAE (zAX (i:=3) zBm.nd rfl (Or.inl rfl) (zCO zMp.ok hr (by rfl) zMp.gl zMp.kp zMp.bd .nil zDI (zAA (pv 0) (zAA (pv 1) zAC))))
  (zAE (zAX (i:=4) zBm.nd rfl (Or.inl rfl) (pv 2))
  (zAE (zAn zF5 rfl (zIy (by rfl) z_reversed (zAA (zH7 rfl (by rfl) z_list (by rfl) z_zip (zAA (pv 3) (zAA (pv 1) zAC))) zAC)) (zBz rfl (zAc (zAN (i:=5) zBm.nd rfl (Or.inl rfl)) (zAc (zAN (i:=6) zBm.nd rfl (Or.inl rfl)) zBJ))) (zAE (zAX (i:=7) zBm.nd rfl (Or.inl rfl) (zBb zGM (by rfl) z_list PyProof.Rows.boot_list (zAA (pe_cl zMm hr (zAA (pv 5) zAC)) zAC)))
  (zAE (zK2 (pv 4) (zK4 (pv 7) (pv 6) zHP))
  (zAF (zAX (i:=4) zBm.nd rfl (Or.inl rfl) (pe_cl zMq hr (zAA (pv 5) (zAA (pv 7) zAC))))))))
  (zAF (zAU (pv 4)))))),?_⟩
 refine⟨_,rfl,_,rfl,t,v,pl,ns,rfl,hR,hpl,hns,λ ts hc l us H1 g1 hl el hp=>?_,λ z H' g=>qe (zCr.mp z) H' g⟩;have hcl:=zDJ hc;have hul:=zAH hp;have hnl:(ns.map V.int).length=ns.length:=List.length_map _;refine⟨_,rfl,?_⟩;refine⟨_,rfl,_,rfl,l,pl,us,_,rfl,el,g1 _ _ hpl,by omega,λ lz ps H2 g2 hlz hps elz hpr=>?_⟩;have hpsl:(ps.map V.ref).length=ns.length:=by rw[List.length_map,hps,hnl];omega
 refine⟨lz,rfl,_,SqL.of elz,?_⟩;refine zHj (xs:=ps.map V.ref) (λ i σ' H'=>∃(ch:V) (s5 s6 s7:Option V) (c:Tr),σ'=[some v,some (.ref pl),some vu,some (.ref l),some ch,s5,s6,s7]/\Same H2 H'/\i<=ns.length/\ts[ns.length - i]?=some c/\Rep H' (putT c (ns.drop (ns.length - i)) u) ch) ?_ ?_ ?_ ?_
 ·obtain⟨ts',c,rfl,hcat⟩:=zDi hc
  refine⟨vu,none,none,none,c,rfl,Same.refl _,lY _,?_,?_⟩
  ·have:ts'.length=ns.length:=by simpa using hcl
   rw[Nat.sub_zero,←this];simp
  ·rw[Nat.sub_zero,List.drop_length]
   exact hU.mono (g1.trans g2).tk
 ·rintro i σ1 H3 _ ⟨ch,s5,s6,s7,c,rfl,g3,hi,ec,rc⟩
  exact SqL.of (g3 _ _ elz)
 ·rintro i x σ1 H3 hi hx ⟨ch,s5,s6,s7,c,rfl,g3,_,ec,rc⟩
  rw[hpsl] at hi hx;obtain⟨j,hj⟩:∃j,ns.length - 1 - i=j:=⟨_,rfl⟩;have hj1:ns.length - i=j+1:=by omega
  have hj2:ns.length - (i+1)=j:=by omega
  rw[hj] at hx;rw[hj1] at ec rc
  obtain⟨p,ep,rfl⟩:∃p,ps[j]?=some p/\V.ref p=x:=by
   rw[List.getElem?_map] at hx;exact lV.mp hx
  obtain⟨npl,hpn,x0,y0,ex,ey,etp⟩:=hpr j p ep
  obtain⟨n,en,rfl⟩:∃n,ns[j]?=some n/\V.int n=y0:=by
   rw[List.getElem?_map] at ey;exact lV.mp ey
  obtain⟨o,kk,eo,ek,hk⟩:=zGI hc j n en;rw[ec] at ek;cases ek;obtain⟨o',eo',ro⟩:=zAQ hp ex;rw[eo] at eo';cases eo';have ro3:=ro.mono (g2.trans g3).tk;have etp3:=g3 _ _ etp;refine⟨p,[x0,.int n],rfl,SqT.of etp3,rfl,_,_,rfl,_,_,rfl,rfl,?_⟩;obtain⟨k0,k1,k2⟩:=zGA hk;refine⟨_,rfl,o,x0,rfl,ro3,λ pp H4 vs4 g4 e4 hvs=>⟨pp,vs4,rfl,.inr (SqT.of e4),λ li hli=>?_⟩⟩;have g5:=zAD (o:=.lst vs4) hli;have hv4:=zAH hvs;refine⟨_,rfl,_,rfl,_,rfl,li,vs4,n,n.toNat,rfl,rfl,zAB,?_,?_⟩
  ·unfold ixN
   rw[if_pos k0,if_pos (by omega)]
  have tk5:Tk (upd H4 li (.lst vs4)) (upd (upd H4 li (.lst vs4)) li (.lst (vs4.set n.toNat ch))):=Tk.lst zAB;have s5':Same H4 (upd (upd H4 li (.lst vs4)) li (.lst (vs4.set n.toNat ch))):=zAa g5 hli;have tkA:=g4.tk.trans s5'.tk;refine⟨_,rfl,_,rfl,o,x0,li,vs4.set n.toNat ch,o.parts.set n.toNat (putT c (ns.drop (j+1)) u),rfl,ro3.mono tkA,zAB,zEw (rc.mono tkA) _ (Paired.mapP hvs λ Ω Ω z=>z.mono s5'.tk),by rw[List.length_set],λ v' H6 g6 r6=>?_⟩;refine⟨v',_,_,_,o,rfl,g3.trans (g4.trans (s5'.trans g6)),by omega,by rw[hj2];exact eo,?_⟩;rw[hj2]
  have hd:ns.drop j=n::ns.drop (j+1):=by
   obtain⟨hlt,e⟩:=lJ.mp en;rw[←e];exact List.drop_eq_getElem_cons hlt
  rw[hd,zBX hk];exact r6
 ·rintro σ1 H3 ⟨ch,s5,s6,s7,c,rfl,g3,_,ec,rc⟩
  rw[hpsl,Nat.sub_self] at ec rc
  have:c=t:=by
   have:=zFW hc 0 c ec;simpa[Tr.at_] using this.symm
  subst this;refine⟨_,rfl,q (λ z=>?_) ch H3 (g1.trans (g2.trans g3)) rc⟩;rw[←zCr,hc] at z;cases z
abbrev zDU:Stmt:=top 19
theorem zGh:zAR ["part"] ["part"] (zAG zDU):=⟨rfl,rfl,rfl,by decide +kernel,rfl,by decide +kernel,by decide +kernel⟩
abbrev zFF:Stmt:=top 12
theorem zIp:zAR ["tree"] ["tree"] (zAG zFF):=⟨rfl,rfl,rfl,by decide +kernel,rfl,by decide +kernel,by decide +kernel⟩
abbrev zC3:Stmt:=top 41
theorem zFu:zAR ["shape"] ["shape"] (zAG zC3):=⟨rfl,rfl,rfl,by decide +kernel,rfl,by decide +kernel,by decide +kernel⟩
abbrev zB4:Stmt:=top 42
theorem zBo:zAR ["shape", "counted", "part"] ["shape"] (zAG zB4):=⟨rfl,rfl,rfl,by decide +kernel,rfl,by decide +kernel,by decide +kernel⟩
abbrev zEC:Stmt:=top 43
theorem zCi:zAR ["shape", "first", "gap", "many"] ["shape"] (zAG zEC):=⟨rfl,rfl,rfl,by decide +kernel,rfl,by decide +kernel,by decide +kernel⟩
theorem zD4:∀t:Tr,t.subs.length=t.size:=by
 intro t
 induction t<;>simp_all [Tr.subs,Tr.size]<;>omega
theorem zFy {H:Hp}:∀{L:List PlT}{us:List V},Paired (PPl H) L us->Paired (λ x v=>∃pl,PPl H (pl,x) v) (L.map (·.2)) us
 |_,_,.nil=>.nil
 |_,_,.cons h t=>.cons ⟨_,h⟩ (zFy t)
theorem zKD {H:Hp}{t:Tr}{us:List V}(h:Paired (PPl H) (psub [] t) us):Paired (λ x v=>∃pl,PPl H (pl,x) v) t.subs us:=by
 have:=zFy h
 rwa [zBQ] at this
noncomputable def zD2:Sp:=λ vs H Q Ω=>∃t v,vs=[v]/\Rep H t v/\∀l H',Same H H'->H l=none->H' l=some (.lst (t.names.map V.str))->Q (.ref l) H'
theorem zGu {k:Nat}{f:Addr}{fd:FuncData}(F:Fun K "names_at" "names_at" zDU f fd):FnOk P w K mg base CX0 (k+1) f fd ["part"] zD2:=by
 refine F.ok zGh (λ vs H Q E h=>?_) (λ cdv A outer s H vs Q E hr h=>?_)
 ·obtain⟨t,v,rfl,_⟩:=h
  rfl
 obtain⟨t,v,rfl,hR,q⟩:=h
 refine⟨_,(zAE (ps_if (zAP op_eq (iC (r:=rIxT K) zAW (pv 0)) zAY (zAb _)) (zAF (zAU (zA1 (zAA (iC (r:=rIxT K) zAW (pv 0)) zAC):PE _ _ _))) zAO)
  (zAE (ps_if (zAP op_eq (iC (r:=rIxT K) zAW (pv 0)) zAY (zAb _)) (zAF (zAU (zCM ["atom"] [none] rfl (zCt (iC (r:=rIxT K) zAW (pv 0))) (λ Ω Ω Ω Ω Ω=>(zAN (i:=0) (show List.Nodup (["atom"]:List Str) by decide +kernel) rfl (Or.inl rfl))) (λ Ω Ω Ω Ω Ω=>(zGl (zAP op_eq (iC (r:=rIxT K) zAW (pv 0)) zAY (zAb _)))) (λ Ω Ω Ω Ω Ω=>(iC (r:=rIxT K) zAW (pv 0))) rfl))) zAO)
  (zAF (zAU (zA1 zAC:PE _ _ _))))),?_⟩
 obtain⟨a,hs,us,rfl,ha,hl,hp⟩:=hR.all;have h0:atI (V.str t.kd.s::hs++us) 0=some (.str t.kd.s):=zAZ (j:=0) rfl;refine⟨_,rfl,a,_,0,_,rfl,rfl,SqT.of ha,h0,rfl,_,rfl,?_⟩;refine ite2 (λ c=>?_) (λ c=>?_)
 ·have z:t.kd = .name:=Kd.eq_iff.mp (lS c)
  cases t with
  |name x =>
   obtain⟨a,e,ha⟩:=hR;cases e;refine⟨_,rfl,a,_,1,_,rfl,rfl,SqT.of ha,rfl,(by show 1<=sizeLine;decide),λ l hn=>?_⟩;exact q l _ (zAD hn) hn zAB
  |bin o a b=>cases o<;>cases z
  |_=>cases z
 ·refine⟨_,rfl,a,_,0,_,rfl,rfl,SqT.of ha,h0,rfl,_,rfl,?_⟩
  refine ite2 (λ d=>?_) (λ d=>?_)
  ·have z:t.kd = .gap:=Kd.eq_iff.mp (lS d)
   cases t with
   |gap g as =>
    obtain⟨a,b,vs,e,ha,hb,hz,hp⟩:=hR;cases e;refine⟨_,rfl,a,_,2,_,rfl,rfl,SqT.of ha,rfl,b,rfl,⟨_,SqT.of hb⟩,λ acc hacc=>?_⟩;refine zKt (xs:=vs) (λ i H'=>Same H H'/\H' acc=some (.lst (((as.take i).flatMap Atom.names).map V.str))) ?_ ?_ ?_ ?_
    ·exact⟨zAD hacc,zAB⟩
    ·exact λ i H' Ω p=>SqT.of (p.1 _ _ hb)
    ·intro i x H1 hx ⟨g1,e1⟩
     obtain⟨at_,ea,ra⟩:=zAQ hp hx;have ra:=ra.mono g1.tk;have en:=zAV ea
     have small:((as.take i).flatMap Atom.names).length<=i:=by
      have:∀l:List Atom,(l.flatMap Atom.names).length<=l.length:=by
       intro l
       induction l with
       |nil=>simp
       |cons a r ih =>
        rw[List.flatMap_cons,List.length_append,List.length_cons];have:a.names.length<=1:=by cases a<;>simp[Atom.names]
        omega
      exact mG (this _) (by rw[List.length_take];omega)
     have hi:i<vs.length:=(lJ.mp hx).1;refine⟨.skip .nil,?_⟩;cases at_ with
     |name y =>
      obtain⟨c,rfl,hc⟩:=ra;refine⟨_,rfl,c,_,0,_,rfl,rfl,SqT.of hc,rfl,rfl,_,rfl,?_⟩;refine iteY rfl ?_;refine⟨_,rfl,c,_,1,_,rfl,rfl,SqT.of hc,rfl,_,e1,?_,zAa g1 hacc,?_⟩
      ·rw[List.length_map];exact zAS (by omega)
      ·rw[zAB,en,List.flatMap_append,List.map_append];rfl
     |num n =>
      obtain⟨c,rfl,hc⟩:=ra;refine⟨_,rfl,c,_,0,_,rfl,rfl,SqT.of hc,rfl,rfl,_,rfl,?_⟩;refine iteN (by decide +kernel) ?_;exact⟨g1,by rw[e1,en,List.flatMap_append];simp[Atom.names]⟩
     |gap n =>
      obtain⟨c,d,rfl,hc,_⟩:=ra;refine⟨_,rfl,c,_,0,_,rfl,rfl,SqT.of hc,rfl,rfl,_,rfl,?_⟩;refine iteN (by decide +kernel) ?_;exact⟨g1,by rw[e1,en,List.flatMap_append];simp[Atom.names]⟩
    ·intro H1 ⟨g1,e1⟩
     refine q acc H1 g1 hacc ?_;rw[e1,←hp.length,List.take_length];rfl
   |bin o a b=>cases o<;>cases z
   |_=>cases z
  ·refine⟨(by show 0<=sizeLine;decide),λ l hn=>?_⟩
   have e:t.names=[]:=by
    cases t with
    |name x=>exact absurd rfl c
    |gap g as=>exact absurd rfl d
    |_=>rfl
   refine q l _ (zAD hn) hn ?_;rw[e];exact zAB
noncomputable def zFm:Sp:=λ vs H Q Ω=>∃(t:Tr) (v:V),vs=[v]/\Rep H t v/\t.size<=60/\∀(l:Addr) (us:List V) (H':Hp),Same H H'->H' l=some (.lst us)->Paired (λ(x:PlT) v=>∃a,v = .ref a/\H' a=some (.tup (x.1.map V.int))) (psub [] t) us->Q (.ref l) H'
theorem zI8 {k:Nat}{f g1:Addr}{fd gd1:FuncData}(F:Fun K "places" "places" zFF f fd) (zMr:FnB P w K mg base k "placed_parts" g1 gd1 ["tree"] zDB):FnOk P w K mg base CX0 (k+1) f fd ["tree"] zFm:=by
 refine F.ok zIp (λ vs H Q E h=>?_) (λ cdv A outer s H vs Q E hr h=>?_)
 ·obtain⟨t,v,rfl,_⟩:=h
  rfl
 obtain⟨t,v,rfl,hR,hsz,q⟩:=h;refine⟨_,(zAF (zAU (zCM ["place", "part"] [none,none] rfl (zA7 (pe_cl zMr hr (zAA (pv 0) zAC))) (λ Ω Ω Ω Ω Ω=>(zI0 (K:=K) (n:=2) rfl rfl (zAc (zAN (i:=0) (show List.Nodup (["place", "part"]:List Str) by decide +kernel) rfl (Or.inl rfl)) (zAc (zAN (i:=1) (show List.Nodup (["place", "part"]:List Str) by decide +kernel) rfl (Or.inl rfl)) zBJ)))) (λ Ω Ω Ω Ω Ω=>zDY) (λ Ω Ω Ω Ω Ω=>(pv 0)) rfl))),?_⟩;refine⟨_,rfl,t,v,rfl,hR,hsz,λ l us H1 g1 el pF=>⟨l,rfl,⟨us,SqL.of el⟩,λ acc hacc=>?_⟩⟩;have lu:us.length=(psub [] t).length:=zAH pF;have ls:=zBR t [];refine zDg (xs:=us) (λ i H'=>Same H1 H'/\∃(zs:List V),H' acc=some (.lst zs)/\Paired (λ(x:PlT) v=>∃a,v = .ref a/\H' a=some (.tup (x.1.map V.int))) ((psub [] t).take i) zs) ⟨zAD hacc,[],zAB,.nil⟩ (λ i H' Ω h=>SqL.of (h.1 _ _ el)) ?_ ?_
 ·rintro i x Hx hx ⟨gx,zs,ez,pG⟩
  obtain⟨⟨pl,tq⟩,eq,u,⟨b,c,rfl,hb,hc⟩,ru⟩:=zAQ pF hx;have hi:i<us.length:=(lJ.mp hx).1;have lz:=zAH pG;rw[List.length_take] at lz;have tkz:Tk Hx (upd Hx acc (.lst (zs++[.ref c]))):=Tk.lst ez;refine⟨b,_,rfl,SqT.of (gx _ _ hb),rfl,_,_,rfl,_,_,rfl,rfl,.skip (.skip .nil),?_⟩;refine⟨_,rfl,zs,ez,zAS (by omega),zAa gx hacc,zs++[.ref c],zAB,?_⟩;rw[zAV eq];exact zAT (Paired.mapP pG λ _ _ ⟨a,e,h⟩=>⟨a,e,tkz _ _ h⟩) (.cons ⟨c,rfl,tkz _ _ (gx _ _ hc)⟩ .nil)
 rintro H2 ⟨g2,zs,ez,pG⟩;rw[List.take_of_length_le (by omega)] at pG;exact q acc zs H2 (g1.trans g2) ez pG
noncomputable def zIl:Sp:=λ vs H Q Ω=>∃(t:Tr) (v:V),vs=[v]/\Rep H t v/\t.size<=60/\∀(l:Addr) (us:List V) (H':Hp),Same H H'->H l=none->H' l=some (.lst us)->Paired (Rep H') (t.subs.filter isGap) us->Q (.ref l) H'
theorem zLl {k:Nat}{f g1:Addr}{fd gd1:FuncData}(F:Fun K "gap_parts" "gap_parts" zC3 f fd) (zMr:FnB P w K mg base k "placed_parts" g1 gd1 ["tree"] zDB):FnOk P w K mg base CX0 (k+1) f fd ["shape"] zIl:=by
 refine F.ok zFu (λ vs H Q E h=>?_) (λ cdv A outer s H vs Q E hr h=>?_)
 ·obtain⟨t,v,rfl,_⟩:=h
  rfl
 obtain⟨t,v,rfl,hR,hsz,q⟩:=h;refine⟨_,(zAF (zAU (zCM ["place", "part"] [none,none] rfl (zA7 (pe_cl zMr hr (zAA (pv 0) zAC))) (λ Ω Ω Ω Ω Ω=>(zI0 (K:=K) (n:=2) rfl rfl (zAc (zAN (i:=0) (show List.Nodup (["place", "part"]:List Str) by decide +kernel) rfl (Or.inl rfl)) (zAc (zAN (i:=1) (show List.Nodup (["place", "part"]:List Str) by decide +kernel) rfl (Or.inl rfl)) zBJ)))) (λ Ω Ω Ω Ω Ω=>(zGl (zAP op_eq (iC (r:=rIxT K) zAW (pv 1)) zAY (zAb _)))) (λ Ω Ω Ω Ω Ω=>(pv 1)) rfl))),?_⟩;refine⟨_,rfl,t,v,rfl,hR,hsz,λ l us H1 g1 el pF0=>⟨l,rfl,⟨us,SqL.of el⟩,λ acc hacc=>?_⟩⟩;have pF:=zKD pF0;have lu:us.length=t.subs.length:=zAH pF;have ls:=zD4 t;refine zDg (xs:=us) (λ i H'=>Same H1 H'/\∃(zs:List V),H' acc=some (.lst zs)/\Paired (Rep H') ((t.subs.take i).filter isGap) zs) ⟨zAD hacc,[],zAB,.nil⟩ (λ i H' Ω h=>SqL.of (h.1 _ _ el)) ?_ ?_
 ·rintro i x Hx hx ⟨gx,zs,ez,pG⟩
  obtain⟨tq,eq,pl,u,⟨b,c,rfl,hb,_⟩,ru⟩:=zAQ pF hx;have hi:i<us.length:=(lJ.mp hx).1;have lz:=zAH pG;have lz2:=List.length_filter_le isGap (t.subs.take i);rw[List.length_take] at lz2;have ru':=ru.mono gx.tk;dsimp only at hb ru';obtain⟨pa,hs,us',rfl,hpa,hhl,hparts⟩:=ru'.all;have at0:atI (V.str tq.kd.s::hs++us') 0=some (.str tq.kd.s):=zAZ (j:=0) rfl;have htk:=zAV eq;refine⟨b,_,rfl,SqT.of (gx _ _ hb),rfl,_,_,rfl,_,_,rfl,rfl,.skip (.skip .nil),?_⟩;refine⟨_,rfl,pa,_,0,_,rfl,rfl,SqT.of hpa,at0,rfl,_,rfl,ite2 (λ c=>?_) (λ c=>?_)⟩
  ·have z:tq.kd = .gap:=Kd.eq_iff.mp (lS c)
   have tkz:Tk Hx (upd Hx acc (.lst (zs++[.ref pa]))):=Tk.lst ez;refine⟨_,rfl,zs,ez,zAS (by omega),zAa gx hacc,zs++[.ref pa],zAB,?_⟩;rw[htk,List.filter_append,show [tq].filter isGap=[tq] by rw[List.filter_cons_of_pos (by exact decide_eq_true z)];rfl];exact zAT (Paired.mapP pG λ Ω Ω z=>z.mono tkz) (.cons (ru'.mono tkz) .nil)
  ·have z:¬tq.kd = .gap:=λ z=>c (lU (by rw[z];rfl))
   refine⟨gx,zs,ez,?_⟩;rw[htk,List.filter_append,show [tq].filter isGap=[] by rw[List.filter_cons_of_neg (by exact λ w=>z (of_decide_eq_true w))];rfl,List.append_nil];exact pG
 rintro H2 ⟨g2,zs,ez,pG⟩;rw[List.take_of_length_le (by omega)] at pG;exact q acc zs H2 (g1.trans g2) (g1.free hacc) ez pG
noncomputable def zEm:Sp:=λ vs H Q Ω=>∃(t:Tr) (v:V),vs=[v]/\Rep H t v/\t.size<=60/\(∀p∈t.subs,(cnt1 p).length<=10)/\∀(l:Addr) (us:List V) (H':Hp),Same H H'->H' l=some (.lst us)->Paired (WN H') (gcnt t) us->us.length<=600->Q (.ref l) H'
theorem zIB {k:Nat}{f g1:Addr}{fd gd1:FuncData}(F:Fun K "counted_gaps" "counted_gaps" zB4 f fd) (z_len:mg "len" = none) (zMs:FnB P w K mg base k "gap_parts" g1 gd1 ["shape"] zIl):FnOk P w K mg base CX0 (k+1) f fd ["shape"] zEm:=by
 refine F.ok zBo (λ vs H Q E h=>?_) (λ cdv A outer s H vs Q E hr h=>?_)
 ·obtain⟨t,v,rfl,_⟩:=h
  rfl
 obtain⟨t,v,rfl,hR,hsz,h10,q⟩:=h
 refine⟨_,(Sd.un (zAM (zAl (i:=1) zBo.nd rfl (Or.inl rfl) (zEI ⟨zAC⟩))
  (zAM ⟨zAn PassesOwn.never rfl (zA7 (pe_cl zMs hr (zAA (pv 0) zAC))) (zAN (i:=2) zBo.nd rfl (Or.inl rfl)) (zAE (zAw (pe_bm PySem.F.plainAttrs_list PySem.F.slot_list_append PySem.F.type_list_append zAt (pv 1) (zAA (zA8 (zAA (iC (r:=rIxT K) zAW (pv 2)) (zAA (zAd zAe (by rfl) z_len PySem.boot_len (zAA (iC (r:=rIxT K) zAW (pv 2)) zAC)) zAC)):PE _ _ _) zAC)))
  (zAF (zAw (pe_bm PySem.F.plainAttrs_list PySem.F.slot_list_extend PySem.F.type_list_extend zDG (pv 1) (zAA (zCM ["atom"] [none] rfl (zCt (iC (r:=rIxT K) zAW (pv 2))) (λ Ω Ω Ω Ω Ω=>(zAN (i:=0) (show List.Nodup (["atom"]:List Str) by decide +kernel) rfl (Or.inl rfl))) (λ Ω Ω Ω Ω Ω=>(zGl (zAP op_eq (iC (r:=rIxT K) zAW (pv 0)) zAY (zAb _)))) (λ Ω Ω Ω Ω Ω=>(zA8 (zAA (iC (r:=rIxT K) zAW (pv 0)) (zAA zAJ zAC)):PE _ _ _)) rfl) zAC)))))⟩
  (zAh (zAv ⟨pv 1⟩))))),?_⟩
 have d2:2<=sizeLine:=by decide
 refine⟨(by show 0<=sizeLine;decide),λ co hco=>?_⟩;have g0:=zAD (o:=.lst []) hco;have eco:(upd H co (.lst [])) co=some (.lst []):=zAB;have hR0:=hR.mono g0.tk;show tSeq _ _ _ _ (upd H co (.lst []));generalize upd H co (.lst [])=H0 at g0 eco hR0 ⊢;refine⟨_,rfl,t,v,rfl,hR0,hsz,λ l us H1 g1 hln el pF=>⟨l,rfl,⟨us,SqL.of el⟩,?_⟩⟩;have hF:∀p,p∈t.subs.filter isGap↔p∈t.subs/\p.kd = .gap:=λ p=>by rw[List.mem_filter];exact⟨λ h=>⟨h.1,lS h.2⟩,λ h=>⟨h.1,lU h.2⟩⟩
 have hl:(t.subs.filter isGap).length<=60:=by have:=List.length_filter_le isGap t.subs;have:=zD4 t;omega
 have eF:=zJb t;generalize t.subs.filter isGap=F at pF hF hl eF;have lu:us.length=F.length:=zAH pF;have nlc:l≠co:=λ z=>by rw[z,eco] at hln;cases hln
 have bound:∀i,((F.take i).flatMap cnt1).length<=10 * i:=λ i=>by
  have key:∀L:List Tr,(∀p∈L,(cnt1 p).length<=10)->(L.flatMap cnt1).length<=10 * L.length:=by
   intro L
   induction L with
   |nil=>simp
   |cons a L ih =>
    intro h;have h1:=h a lO;have h2:=ih λ p hp=>h p (lP _ hp);rw[List.flatMap_cons,List.length_append,List.length_cons];omega
  have:=key (F.take i) λ p hp=>h10 p ((hF p).mp (List.mem_of_mem_take hp)).1;rw[List.length_take] at this;omega
 refine zA4 (xs:=us) (λ i σ' H'=>∃(cs:List V) (s2:Option V),σ'=[some v,some (.ref co),s2]/\Same H H'/\Tk H1 H'/\H' l=some (.lst us)/\H' co=some (.lst cs)/\Paired (WN H') ((F.take i).flatMap cnt1) cs) ?_ ?_ ?_ ?_
 ·exact⟨[],none,rfl,g0.trans g1,.refl _,el,g1 _ _ eco,.nil⟩
 ·rintro i σ' H' _ ⟨cs,s2,rfl,g,tk,el',ec,pc⟩
  exact SqL.of el'
 ·rintro i x σ' H' hx ⟨cs,s2,rfl,g,tk,el',ec,pc⟩
  obtain⟨tq,eq,rq⟩:=zAQ pF hx;have hi:i<us.length:=(lJ.mp hx).1;have lc:cs.length=((F.take i).flatMap cnt1).length:=zAH pc;have bi:=bound i;have bi1:=bound (i+1);have htk:(F.take (i+1)).flatMap cnt1=(F.take i).flatMap cnt1++cnt1 tq:=by rw[zAV eq,List.flatMap_append];simp
  rw[htk,List.length_append] at bi1;have z:=((hF tq).mp (lM eq)).2;cases tq with
  |gap gx as =>
   obtain⟨pa,b',us2,rfl,ha',hb',hl2,pas⟩:=rq.mono tk;have las:us2.length=as.length:=zAH pas;have at1:atI [V.str "gap", .str gx,.ref b'] 1=some (.str gx):=zAZ (j:=1) rfl;have at2:atI [V.str "gap", .str gx,.ref b'] 2=some (.ref b'):=zAZ (j:=2) rfl;refine⟨_,rfl,.inl ⟨rfl,_,SqL.of ec⟩,_,rfl,pa,_,1,_,rfl,rfl,SqT.of ha',at1,_,rfl,pa,_,2,_,rfl,rfl,SqT.of ha',at2,b',us2,rfl,.inr (SqT.of hb'),d2,λ pt hpt=>?_⟩;have k1:=zAD (o:=.tup [.str gx,.int ((us2.length:Nat):Int)]) hpt;have ec1:=k1 _ _ ec;refine⟨co,cs,_,rfl,rfl,ec1,zAS (by omega),?_⟩;have k2:Tk (upd H' pt (.tup [.str gx,.int ((us2.length:Nat):Int)])) (upd (upd H' pt (.tup [.str gx,.int ((us2.length:Nat):Int)])) co (.lst (cs++[.ref pt]))):=Tk.lst ec1;have g2:Same H (upd (upd H' pt (.tup [.str gx,.int ((us2.length:Nat):Int)])) co (.lst (cs++[.ref pt]))):=zAa (g.trans k1) hco;have el2:(upd (upd H' pt (.tup [.str gx,.int ((us2.length:Nat):Int)])) co (.lst (cs++[.ref pt]))) l=some (.lst us):=by rw[zAL nlc];exact k1 _ _ el'
   have ec2:(upd (upd H' pt (.tup [.str gx,.int ((us2.length:Nat):Int)])) co (.lst (cs++[.ref pt]))) co=some (.lst (cs++[.ref pt])):=zAB;have tk2:=tk.trans (k1.tk.trans k2);have ha2:=(k1.tk.trans k2) _ _ ha';have hb2:=(k1.tk.trans k2) _ _ hb';have pas2:Paired (AtRep (upd (upd H' pt (.tup [.str gx,.int ((us2.length:Nat):Int)])) co (.lst (cs++[.ref pt])))) as us2:=Paired.mapP pas λ Ω Ω z=>z.mono (k1.tk.trans k2);have pc2:Paired (WN (upd (upd H' pt (.tup [.str gx,.int ((us2.length:Nat):Int)])) co (.lst (cs++[.ref pt])))) ((F.take i).flatMap cnt1++[(gx,as.length)]) (cs++[.ref pt]):=zAT (Paired.mapP pc λ Ω Ω z=>z.mono (k1.tk.trans k2)) (.cons ⟨pt,rfl,by rw[←las];exact k2 _ _ zAB⟩ .nil);generalize upd (upd H' pt (.tup [.str gx,.int ((us2.length:Nat):Int)])) co (.lst (cs++[.ref pt]))=H2 at g2 el2 ec2 tk2 ha2 hb2 pas2 pc2 ⊢;refine⟨_,rfl,.inl ⟨rfl,_,SqL.of ec2⟩,_,rfl,pa,_,2,_,rfl,rfl,SqT.of ha2,at2,b',rfl,⟨us2,SqT.of hb2⟩,λ acc hacc=>?_⟩;have b3:(cnt1 (.gap gx as)).length=1+(as.flatMap λ a=>(agap a).map λ h=>(h,0)).length:=by simp[cnt1];omega
   refine zCY (xs:=us2) (λ j H'=>Same H2 H'/\∃zs:List V,H' acc=some (.lst zs)/\Paired (WN H') ((as.take j).flatMap λ a=>(agap a).map λ h=>(h,0)) zs/\zs.length<=j) ⟨zAD hacc,[],zAB,.nil,lQ _⟩ (λ j H' Ω h=>SqT.of (h.1 _ _ hb2)) ?_ ?_
   ·rintro j x Hx hx ⟨gx',zs,ez,pz,lz⟩
    obtain⟨at',eat,rat⟩:=zAQ pas2 hx;have hj:j<us2.length:=(lJ.mp hx).1;have htj:((as.take (j+1)).flatMap λ a=>(agap a).map λ h=>(h,0))=((as.take j).flatMap λ a=>(agap a).map λ h=>(h,0))++(agap at').map λ h=>(h,0):=by rw[zAV eat,List.flatMap_append];simp
    obtain⟨b,r,rfl,hb⟩:=(rat.mono gx'.tk).all;rcases hb with ⟨h,rfl,hb⟩|⟨hag,kk,hkk,hb⟩
    ·have a0:atI (V.str "gap" :: .str h::r) 0=some (.str "gap"):=zAZ (j:=0) rfl
     have a1:atI (V.str "gap" :: .str h::r) 1=some (.str h):=zAZ (j:=1) rfl;refine⟨.skip .nil,_,rfl,b,_,0,_,rfl,rfl,SqT.of hb,a0,rfl,_,rfl,ite2 (λ Ω=>?_) (λ c=>absurd (lU rfl) c)⟩;refine⟨_,rfl,b,_,1,_,rfl,rfl,SqT.of hb,a1,d2,λ pq hpq=>?_⟩;have k5:=zAD (o:=.tup [.str h,.int 0]) hpq;have tkz:Tk (upd Hx pq (.tup [.str h,.int 0])) (upd (upd Hx pq (.tup [.str h,.int 0])) acc (.lst (zs++[.ref pq]))):=Tk.lst (k5 _ _ ez);refine⟨zs,k5 _ _ ez,zAS (by omega),zAa (gx'.trans k5) hacc,zs++[.ref pq],zAB,?_,by simp;omega⟩;rw[htj];exact zAT (Paired.mapP pz λ Ω Ω z=>z.mono (k5.tk.trans tkz)) (.cons ⟨pq,rfl,tkz _ _ zAB⟩ .nil)
    ·have a0:atI (V.str kk::r) 0=some (.str kk):=zAZ (j:=0) rfl
     refine⟨.skip .nil,_,rfl,b,_,0,_,rfl,rfl,SqT.of hb,a0,rfl,_,rfl,ite2 (λ c=>absurd (V.str.inj (lS c)) hkk) (λ Ω=>?_)⟩;refine⟨gx',zs,ez,?_,by omega⟩;rw[htj,hag];simpa using pz
   ·rintro H3 ⟨g3,zs,ez,pz,lz⟩
    rw[List.take_of_length_le (by omega)] at pz;have lz2:zs.length=(as.flatMap λ a=>(agap a).map λ h=>(h,0)).length:=zAH pz;have ec3:=g3 _ _ ec2;refine⟨co,acc,cs++[.ref pt],zs,rfl,rfl,ec3,ez,zA3 (by simp;omega),?_⟩;have tkz:Tk H3 (upd H3 co (.lst (cs++[.ref pt]++zs))):=Tk.lst ec3;refine⟨cs++[.ref pt]++zs,_,rfl,zAa (g2.trans g3) hco,tk2.trans (g3.tk.trans tkz),by rw[zAL nlc];exact g3 _ _ el2,zAB,?_⟩;rw[htk];have e9:(F.take i).flatMap cnt1++cnt1 (.gap gx as)=(F.take i).flatMap cnt1++[(gx,as.length)]++as.flatMap λ a=>(agap a).map λ h=>(h,0):=by simp[cnt1]
    rw[e9];exact zAT (Paired.mapP pc2 λ Ω Ω z=>z.mono (g3.tk.trans tkz)) (Paired.mapP pz λ Ω Ω z=>z.mono tkz)
  |bin o a b=>cases o<;>cases z
  |_=>cases z
 ·rintro σ' H' ⟨cs,s2,rfl,g,tk,el',ec,pc⟩
  have bi:=bound us.length;rw[List.take_of_length_le (by omega)] at pc bi;have lp:=zAH pc;rw[eF] at pc;exact⟨_,rfl,q co cs H' g ec pc (by omega)⟩
noncomputable def zD3:Sp:=λ vs H Q Ω=>∃(t:Tr) (v:V),vs=[v]/\Rep H t v/\t.size<=60/\(∀p∈t.subs,(cnt1 p).length<=10)/\∀(d:Addr) (kvs:List (Key × V)) (H':Hp),Same H H'->H d=none->H' d=some (.dK kvs)->Fd1 (gcnt t) kvs->kvs.length<=600->Q (.ref d) H'
theorem zJC {k:Nat}{f g1:Addr}{fd gd1:FuncData}(F:Fun K "gaps_of" "gaps_of" zEC f fd) (zMt:FnB P w K mg base k "counted_gaps" g1 gd1 ["shape"] zEm):FnOk P w K mg base CX0 (k+1) f fd ["shape"] zD3:=by
 refine F.ok zCi (λ vs H Q E h=>?_) (λ cdv A outer s H vs Q E hr h=>?_)
 ·obtain⟨t,v,rfl,_⟩:=h
  rfl
 obtain⟨t,v,rfl,hR,hsz,h10,q⟩:=h
 refine⟨_,(zAE (zAX (i:=1) zCi.nd rfl (Or.inl rfl) zCL)
  (zAE (zAn PassesOwn.never rfl (zA7 (pe_cl zMt hr (zAA (pv 0) zAC))) (zBz rfl (zAc (zAN (i:=2) zCi.nd rfl (Or.inl rfl)) (zAc (zAN (i:=3) zCi.nd rfl (Or.inl rfl)) zBJ))) (zAF (zAw (pe_bm PySem.F.plainAttrs_dict PySem.F.slot_dict_setdefault PySem.F.type_dict_setdefault zFL (pv 1) (zAA (pv 2) (zAA (pv 3) zAC))))))
  (zAF (zAU (pv 1))))),?_⟩
 refine λ d0 hd0=>?_;have g0:=zAD (o:=.dK []) hd0;have ed0:(upd H d0 (.dK [])) d0=some (.dK []):=zAB;have hR0:=hR.mono g0.tk;show tSeq _ _ _ _ (upd H d0 (.dK []));generalize upd H d0 (.dK [])=H0 at g0 ed0 hR0 ⊢;refine⟨_,rfl,t,v,rfl,hR0,hsz,h10,λ l us H1 g1 el pC hl=>⟨l,rfl,⟨us,SqL.of el⟩,?_⟩⟩;generalize hCe:gcnt t=C at pC;have lu:us.length=C.length:=zAH pC;have nld:l≠d0:=λ z=>by rw[z,g1 _ _ ed0] at el;cases el
 refine zA4 (xs:=us) (λ i σ' H'=>∃(kvs:List (Key × V)) (s2 s3:Option V),σ'=[some v,some (.ref d0),s2,s3]/\Same H H'/\Tk H1 H'/\H' l=some (.lst us)/\H' d0=some (.dK kvs)/\Fd1 (C.take i) kvs/\kvs.length<=i) ?_ ?_ ?_ ?_
 ·exact⟨[],none,none,rfl,g0.trans g1,.refl _,el,g1 _ _ ed0,Fd1.nil,lQ _⟩
 ·rintro i σ' H' _ ⟨kvs,s2,s3,rfl,g,tk,el',ed,gd,le⟩
  exact SqL.of el'
 ·rintro i x σ' H' hx ⟨kvs,s2,s3,rfl,g,tk,el',ed,gd,le⟩
  obtain⟨⟨y,n⟩,eq,rq⟩:=zAQ pC hx;have hi:i<us.length:=(lJ.mp hx).1;obtain⟨b,rfl,hb⟩:=rq.mono tk;dsimp only at hb;have htk:C.take (i+1)=C.take i++[(y,n)]:=zAV eq;refine⟨b,_,rfl,SqT.of hb,rfl,_,_,rfl,_,_,rfl,rfl,?_⟩;refine⟨_,rfl,.inr (.inr (.inl ⟨rfl,.inl ⟨kvs,ed⟩⟩)),_,rfl,_,rfl,d0,kvs,Sum.inr y,_,rfl,rfl,ed,by omega,λ z hz=>?_,λ hz=>?_⟩
  ·refine⟨kvs,_,_,rfl,g,tk,el',ed,?_,by omega⟩
   rw[htk];exact gd.same hz
  ·refine⟨_,_,_,rfl,zAa g hd0,tk.trans (Tk.dk ed),by rw[zAL nld];exact el',zAB,?_,?_⟩
   ·rw[htk]
    exact gd.put hz
   ·have:=zBL kvs (Sum.inr y:Key) (.int ((n:Nat):Int))
    omega
 ·rintro σ' H' ⟨kvs,s2,s3,rfl,g,tk,el',ed,gd,le⟩
  rw[List.take_of_length_le (by omega)] at gd;exact⟨_,rfl,q d0 kvs H' g hd0 ed (hCe▸gd) (by omega)⟩
abbrev zCT:Stmt:=top 30
theorem zA9:zAR ["tree", "leaves", "used", "part", "name", "leaf"] ["tree", "leaves"] (zAG zCT):=⟨rfl,rfl,rfl,by decide +kernel,rfl,by decide +kernel,by decide +kernel⟩
noncomputable def zCB:Sp:=λ vs H Q Ω=>∃(t:Tr) (v:V) (d:Addr) (kvs:List (Key × V)) (τ:Told) (W:List Str),vs=[v,.ref d]/\Rep H t v/\t.size<=60/\H d=some (.dK kvs)/\Lv H τ kvs/\W.length<=400/\(∀x∈t.wrds,x∈W)/\(∀p∈kvs,∀y,AtRep H (.name y) p.2->y∈W) /\
 ∀(u:Addr) (ks:List Str) (H':Hp),Same H H'->H u=none->H' u=some (.dK (kvOf ks))->ks.Nodup->(∀x∈t.wrds,x∈ks)->(∀x y,τ x=some (.name y)->y∈ks)->(∀x∈ks,x∈W)->Q (.ref u) H'
theorem zFK {k:Nat}{f g1 g2:Addr}{fd gd1 gd2:FuncData}(F:Fun K "words_used" "words_used" zCT f fd) (zMu:FnB P w K mg base k "all_parts" g1 gd1 ["tree"] zIm) (zMv:FnB P w K mg base k "names_at" g2 gd2 ["part"] zD2) :
  FnOk P w K mg base CX0 (k+1) f fd ["tree", "leaves"] zCB:=by
 refine F.ok zA9 (λ vs H Q E h=>?_) (λ cdv A outer s H vs Q E hr h=>?_)
 ·obtain⟨t,v,d,kvs,τ,W,rfl,_⟩:=h
  rfl
 obtain⟨t,v,d,kvs,τ,W,rfl,hR,hsz,hd,hv,hW,htW,hdW,q⟩:=h;have hu:=hu_of hr
 refine⟨_,(zAE (zAX (i:=2) zA9.nd rfl (Or.inl rfl) zCL)
  (zAE (zAn PassesOwn.never rfl (zA7 (pe_cl zMu hr (zAA (pv 0) zAC))) (zAN (i:=3) zA9.nd rfl (Or.inl rfl)) (zAE (ps_if (zAP op_eq (iC (r:=rIxT K) zAW (pv 3)) zAY (zAb _)) (zAF (zDZ hu (pv 2) (iC (r:=rIxT K) zAW (pv 3)) pe_bl rfl)) zAO)
  (zAF (zAn PassesOwn.never rfl (zA7 (pe_cl zMv hr (zAA (pv 3) zAC))) (zAN (i:=4) zA9.nd rfl (Or.inl rfl)) (zAF (zDZ hu (pv 2) (pv 4) pe_bl rfl))))))
  (zAE (zAn PassesOwn.never rfl (zLb (zK7 PySem.F.plainAttrs_dict PySem.F.slot_dict_values PySem.F.type_dict_values zJH (pv 1))) (zAN (i:=5) zA9.nd rfl (Or.inl rfl)) (zAF (zAn PassesOwn.never rfl (zA7 (pe_cl zMv hr (zAA (pv 5) zAC))) (zAN (i:=4) zA9.nd rfl (Or.inl rfl)) (zAF (zDZ hu (pv 2) (pv 4) pe_bl rfl)))))
  (zAF (zAU (zI2 (pv 2))))))),?_⟩
 refine λ u hu0=>?_;have g0:=zAD (o:=.dK []) hu0;refine⟨_,rfl,t,v,rfl,hR.mono g0.tk,hsz,λ l us Fl H1 g1 el pF hperm=>⟨l,rfl,⟨us,SqL.of el⟩,?_⟩⟩
 have nul:u≠l:=λ z=>by
  have:=g1 u _ zAB;rw[z,el] at this;cases this
 have nud:u≠d:=Ne.symm (zAK hd hu0);have lF:us.length=Fl.length:=zAH pF
 have klen:∀ks:List Str,ks.Nodup->(∀x∈ks,x∈W)->(kvOf ks).length<sizeLine:=λ ks nd hs=>by
  have:=zDF nd hs;rw[show (kvOf ks).length=ks.length from List.length_map _];exact zAS (by omega)
 refine zA4 (xs:=us) (λ i σ' H'=>∃(ks:List Str) (s3 s4:Option V),σ'=[some v,some (.ref d),some (.ref u),s3,s4,none]/\Same H H'/\Tk H1 H'/\H' l=some (.lst us)/\H' u=some (.dK (kvOf ks))/\ks.Nodup/\(∀x∈ks,x∈W)/\∀p∈Fl.take i,∀x∈wr1 p,x∈ks) ?_ ?_ ?_ ?_
 ·exact⟨[],none,none,rfl,g0.trans g1,.refl _,el,g1 _ _ zAB,List.nodup_nil,by simp,by simp⟩
 ·rintro i σ1 H2 _ ⟨ks,s3,s4,rfl,g2,k2,el2,eu2,nd,hin,hall⟩
  exact SqL.of el2
 ·rintro i x σ1 H2 hx ⟨ks,s3,s4,rfl,g2,k2,el2,eu2,nd,hin,hall⟩
  obtain⟨p,ep,rp⟩:=zAQ pF hx;have rp:=rp.mono k2;have pin:p∈t.subs:=hperm.mem_iff.mp (lM ep);have pW:∀x∈wr1 p,x∈W:=λ x hx=>htW x ((zBD t x).mpr ⟨p,pin,hx⟩);have et:=zAV ep;obtain⟨a,hs,ws,rfl,ha,hl,hp⟩:=rp.all;have h0:atI (V.str p.kd.s::hs++ws) 0=some (.str p.kd.s):=zAZ (j:=0) rfl;apply viaS (λ σ' H'=>∃(ks:List Str),σ'=[some v,some (.ref d),some (.ref u),some (.ref a),s4,none]/\Same H H'/\Tk H1 H'/\H' l=some (.lst us)/\H' u=some (.dK (kvOf ks))/\Rep H' p (.ref a)/\ks.Nodup/\(∀x∈ks,x∈W)/\(∀p∈Fl.take i,∀x∈wr1 p,x∈ks)/\(p.kd = .lett->∀x∈wr1 p,x∈ks))
  ·intro rest
   refine⟨_,rfl,a,_,0,_,rfl,rfl,SqT.of ha,h0,rfl,_,rfl,?_⟩;refine ite2 (λ c=>?_) (λ c=>rest _ _ ⟨ks,rfl,g2,k2,el2,eu2,rp,nd,hin,hall,λ z=>absurd (lU (Kd.eq_iff.mpr z)) c⟩);have z:p.kd = .lett:=Kd.eq_iff.mp (lS c);cases p with
   |lett y p1 p2 =>
    obtain⟨a',u1,u2,e',ha',r1,r2⟩:=rp;cases e';refine⟨_,rfl,_,rfl,a,_,1,_,rfl,rfl,SqT.of ha',rfl,u,_,rfl,DPut.k (k:=Sum.inr y) eu2 (klen ks nd hin),?_⟩;refine rest _ _ ⟨addK ks y,rfl,zAa g2 hu0,k2.trans (Tk.dk eu2),by rw[zAL (Ne.symm nul)];exact el2,by rw[zAB,zFI],(show Rep _ (.lett y p1 p2) _ from⟨a,u1,u2,rfl,ha',r1,r2⟩).mono (Tk.dk eu2),zDl nd,λ x hx=>?_,λ p' hp' x hx=>zBT.mpr (.inl (hall p' hp' x hx)),λ Ω x hx=>?_⟩
    ·rcases zBT.mp hx with h|h
     ·exact hin x h
     ·exact pW x (by simp[wr1,h])
    ·exact zBT.mpr (.inr (by simpa[wr1] using hx))
   |bin o a b=>cases o<;>cases z
   |_=>cases z
  ·rintro σ' H3 ⟨ks3,rfl,g3,k3,el3,eu3,rp3,nd3,hin3,hall3,hlet3⟩
   refine⟨_,rfl,p,_,rfl,rp3,λ ln H4 g4 hln e4=>⟨ln,rfl,⟨_,SqL.of e4⟩,?_⟩⟩;have nln:ln≠u:=Ne.symm (zAK eu3 hln);refine zA4 (xs:=p.names.map V.str) (λ j σ' H'=>∃(ks:List Str) (s4:Option V),σ'=[some v,some (.ref d),some (.ref u),some (.ref a),s4,none]/\Same H H'/\Tk H1 H'/\H' l=some (.lst us)/\H' u=some (.dK (kvOf ks))/\H' ln=some (.lst (p.names.map V.str))/\ks.Nodup/\(∀x∈ks,x∈W)/\(∀x∈ks3,x∈ks)/\(∀x∈p.names.take j,x∈ks)) ?_ ?_ ?_ ?_
   ·exact⟨ks3,s4,rfl,g3.trans g4,k3.trans g4.tk,g4 _ _ el3,g4 _ _ eu3,e4,nd3,hin3,λ x hx=>hx,by simp⟩
   ·rintro j σ2 H5 _ ⟨ks5,s4,rfl,g5,k5,el5,eu5,en5,nd5,hin5,up5,all5⟩
    exact SqL.of en5
   ·rintro j x σ2 H5 hx ⟨ks5,s4,rfl,g5,k5,el5,eu5,en5,nd5,hin5,up5,all5⟩
    rw[List.getElem?_map] at hx;obtain⟨y,hy,rfl⟩:=lV.mp hx;refine⟨_,rfl,_,rfl,u,_,rfl,DPut.k (k:=Sum.inr y) eu5 (klen ks5 nd5 hin5),?_⟩;refine⟨addK ks5 y,_,rfl,zAa g5 hu0,k5.trans (Tk.dk eu5),by rw[zAL (Ne.symm nul)];exact el5,by rw[zAB,zFI],by rw[zAL nln];exact en5,zDl nd5,λ x hx=>?_,λ x hx=>zBT.mpr (.inl (up5 x hx)),λ x hx=>?_⟩
    ·rcases zBT.mp hx with h|h
     ·exact hin5 x h
     ·have hyn:y∈p.names:=lM hy
      have nl:¬p.kd = .lett:=λ z=>by
       cases p with
       |lett _ _ _=>simp[Tr.names] at hyn
       |bin o _ _=>cases o<;>cases z
       |_=>cases z
      exact pW x (by rw[zIY nl,h];exact hyn)
    ·rw[zAV hy] at hx
     rcases lK.mp hx with h|h
     ·exact zBT.mpr (.inl (all5 x h))
     ·exact zBT.mpr (.inr (List.mem_singleton.mp h))
   ·rintro σ2 H5 ⟨ks5,s4',rfl,g5,k5,el5,eu5,en5,nd5,hin5,up5,all5⟩
    rw[List.length_map,List.take_length] at all5;refine⟨ks5,some (.ref a),s4',rfl,g5,k5,el5,eu5,nd5,hin5,λ p' hp' x hx=>?_⟩;rw[et] at hp';rcases lK.mp hp' with h|h
    ·exact up5 x (hall3 p' h x hx)
    ·rw[List.mem_singleton.mp h] at hx
     by_cases z:p.kd = .lett
     ·exact up5 x (hlet3 z x hx)
     ·rw[zIY z] at hx
      exact all5 x hx
 ·rintro σ1 H2 ⟨ks,s3,s4,rfl,g2,k2,el2,eu2,nd,hin,hall⟩
  rw[lF,List.take_length] at hall;have hd2:H2 d=some (.dK kvs):=g2 _ _ hd;refine⟨_,rfl,.inr (.inr (.inl ⟨rfl,.inl ⟨_,hd2⟩⟩)),d,kvs,rfl,rfl,hd2,λ vw hvw=>⟨vw,d,kvs,rfl,zAB,by rw[zAL (zAK hd2 hvw)];exact hd2,λ o=>?_⟩⟩;have nuv:u≠vw:=zAK eu2 hvw;have sd:Sx d H (upd (upd H2 vw (viewO vw d)) d (.frz o (.dK kvs))):=λ b x n e=>by rw[zAL n,zAL (zAK (g2 _ _ e) hvw)];exact g2 _ _ e
  have ed:(upd (upd H2 vw (viewO vw d)) d (.frz o (.dK kvs))) d=some (.frz o (.dK kvs)):=zAB;have eu3:(upd (upd H2 vw (viewO vw d)) d (.frz o (.dK kvs))) u=some (.dK (kvOf ks)):=by rw[zAL nud,zAL nuv];exact eu2
  generalize upd (upd H2 vw (viewO vw d)) d (.frz o (.dK kvs))=H3 at sd ed eu3 ⊢;have nd_tup:∀xs,H d≠some (.tup xs):=λ xs z=>by rw[hd] at z;cases z
  refine zKm (o:=o) (a:=d) (kvs:=kvs) (λ i σ' H'=>∃(ks':List Str) (s4 s5:Option V),σ'=[some v,some (.ref d),some (.ref u),s3,s4,s5]/\Sx d H H'/\H' d=some (.frz o (.dK kvs))/\H' u=some (.dK (kvOf ks'))/\ks'.Nodup/\(∀x∈ks',x∈W)/\(∀x∈ks,x∈ks')/\∀p∈kvs.take i,∀y,AtRep H (.name y) p.2->y∈ks') ?_ ?_ ?_ ?_
  ·exact⟨ks,s4,none,rfl,sd,ed,eu3,nd,hin,λ x hx=>hx,by simp⟩
  ·rintro i σ' H' _ ⟨ks4,s4,s5,rfl,g4,ed4,eu4,nd4,hin4,up4,all4⟩
   exact ed4
  ·rintro i p σ' H' hp ⟨ks4,s4,s5,rfl,g4,ed4,eu4,nd4,hin4,up4,all4⟩
   have pmem:p∈kvs:=lM hp;obtain⟨x0,a0,_,ra⟩:=hv.ks p pmem;have ra4:=ra.mono (g4.tk nd_tup)
   have huniq:∀y,AtRep H (.name y) p.2->y∈a0.tr.names:=λ y hy=>by
    obtain⟨c,e,hc⟩:=hy;rw[e] at ra;cases a0 with
    |name z=>obtain⟨c',e',hc'⟩:=ra;cases e';rw[hc] at hc';cases hc';simp[Atom.tr,Tr.names]
    |num z=>obtain⟨c',e',hc'⟩:=ra;cases e';rw[hc] at hc';injection hc' with hc';injection hc' with hc';injection hc' with h1 h2;injection h1 with h1;exact absurd h1 (by decide +kernel)
    |gap z=>obtain⟨c',b',e',hc',_⟩:=ra;cases e';rw[hc] at hc';injection hc' with hc';injection hc' with hc';injection hc' with h1 h2;injection h1 with h1;exact absurd h1 (by decide +kernel)
   have hnW:∀y∈a0.tr.names,y∈W:=λ y hy=>by
    cases a0 with
    |name z=>simp[Atom.tr,Tr.names] at hy;subst hy;exact hdW p pmem y ra
    |num z=>simp[Atom.tr,Tr.names] at hy
    |gap z=>simp[Atom.tr,Tr.names] at hy
   refine⟨_,rfl,a0.tr,_,rfl,ra4.tr,λ ln H5 g5 hln e5=>⟨ln,rfl,⟨_,SqL.of e5⟩,?_⟩⟩;have nln:ln≠u:=Ne.symm (zAK eu4 hln);refine zA4 (xs:=a0.tr.names.map V.str) (λ j σ' H'=>∃(ks':List Str) (s4:Option V),σ'=[some v,some (.ref d),some (.ref u),s3,s4,some p.2]/\Sx d H H'/\H' d=some (.frz o (.dK kvs))/\H' u=some (.dK (kvOf ks'))/\H' ln=some (.lst (a0.tr.names.map V.str))/\ks'.Nodup/\(∀x∈ks',x∈W)/\(∀x∈ks4,x∈ks')/\(∀x∈a0.tr.names.take j,x∈ks')) ?_ ?_ ?_ ?_
   ·exact⟨ks4,s4,rfl,g4.same g5,g5 _ _ ed4,g5 _ _ eu4,e5,nd4,hin4,λ x hx=>hx,by simp⟩
   ·rintro j σ2 H6 _ ⟨ks6,s4,rfl,g6,ed6,eu6,en6,nd6,hin6,up6,all6⟩
    exact SqL.of en6
   ·rintro j x σ2 H6 hx ⟨ks6,s4,rfl,g6,ed6,eu6,en6,nd6,hin6,up6,all6⟩
    rw[List.getElem?_map] at hx;obtain⟨y,hy,rfl⟩:=lV.mp hx;refine⟨_,rfl,_,rfl,u,_,rfl,DPut.k (k:=Sum.inr y) eu6 (klen ks6 nd6 hin6),?_⟩;refine⟨addK ks6 y,_,rfl,g6.set hu0,by rw[zAL (Ne.symm nud)];exact ed6,by rw[zAB,zFI],by rw[zAL nln];exact en6,zDl nd6,λ x hx=>?_,λ x hx=>zBT.mpr (.inl (up6 x hx)),λ x hx=>?_⟩
    ·rcases zBT.mp hx with h|h
     ·exact hin6 x h
     ·rw[h];exact hnW y (lM hy)
    ·rw[zAV hy] at hx
     rcases lK.mp hx with h|h
     ·exact zBT.mpr (.inl (all6 x h))
     ·exact zBT.mpr (.inr (List.mem_singleton.mp h))
   ·rintro σ2 H6 ⟨ks6,s4',rfl,g6,ed6,eu6,en6,nd6,hin6,up6,all6⟩
    rw[List.length_map,List.take_length] at all6;refine⟨ks6,s4',_,rfl,g6,ed6,eu6,nd6,hin6,λ x hx=>up6 x (up4 x hx),λ p' hp' y hy=>?_⟩;rw[zAV hp] at hp';rcases lK.mp hp' with h|h
    ·exact up6 y (all4 p' h y hy)
    ·rw[List.mem_singleton.mp h] at hy
     exact all6 y (huniq y hy)
  ·rintro σ' H' ⟨ks4,s4,s5,rfl,g4,ed4,eu4,nd4,hin4,up4,all4⟩
   rw[List.take_length] at all4
   refine⟨_,rfl,d,o,kvs,ed4,(λ o u z=>by
    have z':H d=some (.frz o u):=z;rw[hd] at z';cases z'),?_⟩
   refine q u ks4 _ (g4.back hd) hu0 (by rw[zAL nud];exact eu4) nd4 (λ x hx=>?_) (λ x y e=>?_) hin4
   ·obtain⟨p,hp,h⟩:=(zBD t x).mp hx
    exact up4 x (hall p (hperm.mem_iff.mpr hp) x h)
   ·obtain⟨v',ev,rv⟩:=hv.some e
    obtain⟨p,hp,_,e2⟩:=zGZ ev;exact all4 p hp y (by rw[e2];exact rv)
abbrev zDP:Stmt:=top 34
theorem zGd:zAR ["leaf", "leaves"] ["leaf", "leaves"] (zAG zDP):=⟨rfl,rfl,rfl,by decide +kernel,rfl,by decide +kernel,by decide +kernel⟩
abbrev zDQ:Stmt:=top 35
theorem zGe:zAR ["part", "leaves"] ["part", "leaves"] (zAG zDQ):=⟨rfl,rfl,rfl,by decide +kernel,rfl,by decide +kernel,by decide +kernel⟩
noncomputable def zD0:Sp:=λ vs H Q Ω=>∃(t:Tr) (v:V) (d:Addr) (kvs:List (Key × V)) (τ:Told),vs=[v,.ref d]/\Rep H t v/\H d=some (.dK kvs)/\Lv H τ kvs /\
 ((∃x,t = .name x/\∀v',AtRep H (tOf τ x) v'->Q v' H)\/(t.kd ≠ .name/\Q v H))
theorem zGs {k:Nat}{f:Addr}{fd:FuncData}(F:Fun K "put_leaf" "put_leaf" zDP f fd):FnOk P w K mg base CX0 (k+1) f fd ["leaf", "leaves"] zD0:=by
 refine F.ok zGd (λ vs H Q E h=>?_) (λ cdv A outer s H vs Q E hr h=>?_)
 ·obtain⟨t,v,d,kvs,τ,rfl,_⟩:=h
  rfl
 obtain⟨t,v,d,kvs,τ,rfl,hR,hd,hv,q⟩:=h;have hu:=hu_of hr
 refine⟨_,(zAE (ps_if (zAP op_eq (iC (r:=rIxT K) zAW (pv 0)) zAY (zAb _)) (zAF (zAU (zKI hu (pv 1) (iC (r:=rIxT K) zAW (pv 0)) (pv 0) ⟨rfl,rfl,rfl,rfl⟩))) zAO)
  (zAF (zAU (pv 0)))),?_⟩
 obtain⟨a,hs,ws,rfl,ha,hl,hp⟩:=hR.all;have h0:atI (V.str t.kd.s::hs++ws) 0=some (.str t.kd.s):=zAZ (j:=0) rfl;refine⟨_,rfl,a,_,0,_,rfl,rfl,SqT.of ha,h0,rfl,_,rfl,?_⟩;refine ite2 (λ c=>?_) (λ c=>?_)
 ·have z:t.kd = .name:=Kd.eq_iff.mp (lS c)
  rcases q with ⟨x,rfl,q⟩|⟨n,_⟩
  ·obtain⟨a',e,ha'⟩:=hR
   cases e;refine⟨_,rfl,d,rfl,.inl ⟨kvs,.inl hd⟩,_,rfl,a,_,1,_,rfl,rfl,SqT.of ha',rfl,_,rfl,_,DGet.k (k:=Sum.inr x) hd,q _ ?_⟩;unfold tOf;cases e:valV kvs (Sum.inr x:Key) with
   |none=>rw[hv.none_ e];exact⟨a,rfl,ha'⟩
   |some v' =>
    obtain⟨a1,e1,r1⟩:=hv.get e;rw[e1];exact r1
  ·exact absurd z n
 ·rcases q with ⟨x,rfl,_⟩|⟨_,q⟩
  ·exact absurd rfl c
  ·exact⟨_,rfl,q⟩
noncomputable def zD1:Sp:=λ vs H Q Ω=>∃(t:Tr) (v:V) (d:Addr) (kvs:List (Key × V)) (τ:Told),vs=[v,.ref d]/\Rep H t v/\H d=some (.dK kvs)/\Lv H τ kvs/\∀v' H',Same H H'->Rep H' (headT τ t) v'->Q v' H'
theorem zGt {k:Nat}{f g1:Addr}{fd gd1:FuncData}(F:Fun K "put_head" "put_head" zDQ f fd) (z_tuple:mg "tuple" = none) (zMw:FnB P w K mg base k "put_leaf" g1 gd1 ["leaf", "leaves"] zD0):FnOk P w K mg base CX0 (k+1) f fd ["part", "leaves"] zD1:=by
 refine F.ok zGe (λ vs H Q E h=>?_) (λ cdv A outer s H vs Q E hr h=>?_)
 ·obtain⟨t,v,d,kvs,τ,rfl,_⟩:=h
  rfl
 obtain⟨t,v,d,kvs,τ,rfl,hR,hd,hv,q⟩:=h
 refine⟨_,(Sd.un (zAM (zBd ⟨zAP op_eq (iC (r:=rIxT K) zAW (pv 0)) zAY (zAb _)⟩ (zAh (zAv (zAm (zAI ⟨zAY⟩ (zAI (zBs (r:=rIxT K) zAW ⟨pv 0⟩ ⟨zAJ⟩ (λ Ω Ω=>rfl)) (zAI (zEv zBj (by rfl) z_tuple PyProof.Rows.boot_tuple (zAI ⟨zCM ["atom", "leaves"] [none,some 1] rfl (zCt (iC (r:=rIxT K) zAW (pv 0))) (λ Ω Ω Ω Ω Ω=>(zAN (i:=0) (show List.Nodup (["atom", "leaves"]:List Str) by decide +kernel) rfl (Or.inl rfl))) (λ Ω Ω Ω Ω Ω=>zDY) (λ Ω Ω Ω Ω Ω=>(pe_cl zMw hr (zAA (pv 0) (zAA (pv 1) zAC)))) rfl⟩ ⟨zAC⟩)) ⟨zAC⟩)))))) ⟨zAO⟩)
  (zAh (zAv ⟨pe_cl zMw hr (zAA (pv 0) (zAA (pv 1) zAC))⟩)))),?_⟩
 obtain⟨a,hs,ws,rfl,ha,hl,hp⟩:=id hR.all;have h0:atI (V.str t.kd.s::hs++ws) 0=some (.str t.kd.s):=zAZ (j:=0) rfl;refine⟨_,rfl,a,_,0,_,rfl,rfl,SqT.of ha,h0,rfl,_,rfl,?_⟩;refine ite2 (λ c=>?_) (λ c=>?_)
 ·have z:t.kd = .gap:=Kd.eq_iff.mp (lS c)
  cases t with
  |gap g as =>
   obtain⟨a',b',us,e,ha',hb',hz',hp'⟩:=hR;cases e;have lus:=zAH hp';refine⟨_,rfl,a,_,1,_,rfl,rfl,SqT.of ha',rfl,_,rfl,a,_,2,_,rfl,rfl,SqT.of ha',rfl,b',rfl,⟨_,SqT.of hb'⟩,λ acc hacc=>?_⟩;refine zCY (xs:=us) (λ i H'=>Same H H'/\∃zs,H' acc=some (.lst zs)/\Paired (AtRep H') ((as.take i).map (putA τ)) zs) ⟨zAD hacc,[],zAB,by rw[List.take_zero];exact .nil⟩ (λ i H' Ω h=>SqT.of (h.1 _ _ hb')) ?_ ?_
   ·rintro j x Hx hx ⟨gx,zs,ezs,hzs⟩
    obtain⟨m,em,rm⟩:=zAQ hp' hx;have hj:j<us.length:=(lJ.mp hx).1;have lz:=zAH hzs;rw[List.length_map,List.length_take] at lz;have rm':=rm.mono gx.tk;refine⟨.skip (.keep .nil),?_⟩
    have hnext:∀v',AtRep Hx (putA τ m) v'->∃zs,Hx acc=some (.lst zs)/\zs.length<sizeLine/\(Same H (upd Hx acc (.lst (zs++[v'])))/\∃zs',(upd Hx acc (.lst (zs++[v']))) acc=some (.lst zs')/\Paired (AtRep (upd Hx acc (.lst (zs++[v'])))) ((as.take (j+1)).map (putA τ)) zs'):=λ v' rv=>by
     have tkz:Tk Hx (upd Hx acc (.lst (zs++[v']))):=Tk.lst ezs;refine⟨zs,ezs,zAS (by omega),zAa gx hacc,_,zAB,?_⟩;rw[zAV em,List.map_append];exact zAT (Paired.mapP hzs λ Ω Ω z=>z.mono tkz) (.cons (rv.mono tkz) .nil)
    refine⟨_,rfl,_,rfl,m.tr,x,d,kvs,τ,rfl,rm'.tr,gx _ _ hd,hv.mono gx.tk,?_⟩;cases m with
    |name y=>exact .inl ⟨y,rfl,λ v' rv=>hnext v' rv⟩
    |num y=>exact .inr ⟨(by nofun),hnext x rm'⟩
    |gap y=>exact .inr ⟨(by nofun),hnext x rm'⟩
   ·rintro Hx ⟨gx,zs,ezs,hzs⟩
    rw[lus,List.take_length] at hzs;have lz:=zAH hzs;rw[List.length_map] at lz;refine⟨acc,zs,rfl,.inl ⟨SqL.of ezs,λ tp htp=>?_⟩⟩;have g1:=zAD (o:=.tup zs) htp;refine⟨(by show 3<=sizeLine;decide),λ tq htq=>?_⟩;have g2:=zAD (o:=.tup [.str "gap", .str g,.ref tp]) htq;refine q _ _ (gx.trans (g1.trans g2)) ⟨tq,tp,zs,rfl,zAB,g2 _ _ zAB,by omega,?_⟩;exact Paired.mapP hzs λ Ω Ω z=>z.mono (g1.trans g2).tk
  |bin o a b=>cases o<;>cases z
  |_=>cases z
 ·refine⟨_,rfl,_,rfl,t,_,d,kvs,τ,rfl,hR,hd,hv,?_⟩
  cases t with
  |name x=>exact .inl ⟨x,rfl,λ v' rv=>q v' H (.refl H) rv.tr⟩
  |gap g as=>exact absurd rfl c
  |bin o a b=>exact .inr ⟨by cases o<;>nofun,q _ H (.refl H) hR⟩
  |_=>exact .inr ⟨(by nofun),q _ H (.refl H) hR⟩
abbrev zCH:Stmt:=top 36
theorem zA2:zAR ["heads", "ready", "grown", "begin", "head", "end"] ["heads", "ready"] (zAG zCH):=⟨rfl,rfl,rfl,by decide +kernel,rfl,by decide +kernel,by decide +kernel⟩
abbrev zCW:Stmt:=top 37
theorem zBf:zAR ["levels", "ready", "heads"] ["levels"] (zAG zCW):=⟨rfl,rfl,rfl,by decide +kernel,rfl,by decide +kernel,by decide +kernel⟩
noncomputable def zHI:Sp:=λ vs H Q Ω=>∃(hl rl:Addr) (hvs rvs:List V) (hs R:List Tr),vs=[.ref hl,.ref rl]/\H hl=some (.lst hvs)/\H rl=some (.lst rvs)/\Paired (Rep H) hs hvs/\Paired (Rep H) R rvs/\R.length=zAi hs/\hs.length<=600 /\
 ∀l us H',Same H H'->H l=none->H' l=some (.lst us)->Paired (Rep H') (growL hs R) us->Q (.ref l) H'
theorem zKV {k:Nat}{f g1 g2:Addr}{fd gd1 gd2:FuncData}(F:Fun K "grown_level" "grown_level" zCH f fd) (z_len:mg "len" = none) (zMm:FnB P w K mg base k "parts" g1 gd1 ["tree"] zBe) (zMq:FnB P w K mg base k "with_parts" g2 gd2 ["tree", "parts"] zGb) :
  FnOk P w K mg base CX0 (k+1) f fd ["heads", "ready"] zHI:=by
 refine F.ok zA2 (λ vs H Q E h=>?_) (λ cdv A outer s H vs Q E hr h=>?_)
 ·obtain⟨hl,rl,hvs,rvs,hs,R,rfl,_⟩:=h
  rfl
 obtain⟨hl,rl,hvs,rvs,hs,R,rfl,eh,er,pH,pR,hRn,hz,q⟩:=h
 refine⟨_,(zAE (zAX (i:=2) zA2.nd rfl (Or.inl rfl) (zA1 zAC:PE _ _ _))
  (zAE (zAX (i:=3) zA2.nd rfl (Or.inl rfl) zAJ)
  (zAE (zAn PassesOwn.never rfl (zA7 (pv 0)) (zAN (i:=4) zA2.nd rfl (Or.inl rfl)) (zAE (zAX (i:=5) zA2.nd rfl (Or.inl rfl) (pe_op zEL (pv 3) (zAd zAe (by rfl) z_len PySem.boot_len (zAA (pe_cl zMm hr (zAA (pv 4) zAC)) zAC))))
  (zAE (zAw (pe_bm PySem.F.plainAttrs_list PySem.F.slot_list_append PySem.F.type_list_append zAt (pv 2) (zAA (pe_cl zMq hr (zAA (pv 4) (zAA (zBB (r:=rSlL K) zB1 (pv 1) (zA6 (pv 3)) (zA6 (pv 5))) zAC))) zAC)))
  (zAF (zAX (i:=3) zA2.nd rfl (Or.inl rfl) (pv 5))))))
  (zAF (zAU (pv 2)))))),?_⟩
 have lh:hvs.length=hs.length:=zAH pH;have lr:rvs.length=R.length:=zAH pR;refine⟨(by show 0<=sizeLine;decide),λ gl hgl=>?_⟩;have g0:=zAD (o:=.lst []) hgl;refine⟨_,rfl,hl,rfl,⟨hvs,SqL.of (g0 _ _ eh)⟩,?_⟩;refine zA4 (xs:=hvs) (λ i σ' H'=>∃(us:List V) (s4 s5:Option V),σ'=[some (.ref hl),some (.ref rl),some (.ref gl),some (.int ((zAi (hs.take i):Nat):Int)),s4,s5]/\Same H H'/\H' gl=some (.lst us)/\Paired (Rep H') (growL (hs.take i) (R.take (zAi (hs.take i)))) us) ?_ ?_ ?_ ?_
 ·exact⟨[],none,none,rfl,g0,zAB,.nil⟩
 ·rintro i σ1 H1 _ ⟨us,s4,s5,rfl,g1,eg1,p1⟩
  exact SqL.of (g1 _ _ eh)
 ·rintro i x σ1 H1 hx ⟨us,s4,s5,rfl,g1,eg1,p1⟩
  obtain⟨h,eh',rh⟩:=zAQ pH hx;have hi:i<hs.length:=(lJ.mp eh').1;have et:=zAV eh';have en:zAi (hs.take (i+1))=zAi (hs.take i)+h.parts.length:=by rw[et,zDd,zEy]
  have le:=zEM hs (i+1);refine⟨_,rfl,_,rfl,h,x,rfl,rh.mono g1.tk,λ pt H2 ws g2 ept pw=>?_⟩;have lw:ws.length=h.parts.length:=zAH pw;refine⟨pt,_,rfl,.inr (SqT.of ept),_,_,rfl,rfl,?_⟩;have er2:=(g1.trans g2) _ _ er;refine⟨_,rfl,.inl ⟨rfl,_,SqL.of (g2 _ _ eg1)⟩,_,rfl,_,rfl,_,rfl,_,rfl,_,rfl,_,rfl,rl,rvs,rfl,SqL.of er2,λ sl hsl=>?_⟩
  have e0:cutV rvs (some ((zAi (hs.take i):Nat):Int)) (some (((zAi (hs.take i):Nat):Int)+(ws.length:Int)))=(rvs.drop (zAi (hs.take i))).take h.parts.length:=by
   have e1:(((zAi (hs.take i):Nat):Int)+(ws.length:Int))=((zAi (hs.take i)+h.parts.length:Nat):Int):=by rw[lw];omega
   rw[e1];unfold cutV;rw[HT.sIx_nat,HT.sIx_nat];congr 1
   ·omega
   ·congr 1
    omega
  rw[e0];have g3:=zAD (o:=.lst ((rvs.drop (zAi (hs.take i))).take h.parts.length)) hsl;have gA:=g1.trans (g2.trans g3);refine⟨h,x,sl,_,(R.drop (zAi (hs.take i))).take h.parts.length,rfl,rh.mono gA.tk,zAB,Paired.mapP (zDc _ _ pR) (λ Ω Ω z=>z.mono gA.tk),?_,λ v' H4 g4 r4=>?_⟩
  ·rw[List.length_take,List.length_drop]
   omega
  have eg4:=(g2.trans (g3.trans g4)) _ _ eg1
  have lus:us.length<=i:=by
   have:=zAH p1;rw[zET,List.length_take] at this;omega
  refine⟨gl,us,v',rfl,rfl,eg4,zAS (by omega),?_⟩;have tkz:Tk H4 (upd H4 gl (.lst (us++[v']))):=Tk.lst eg4;refine⟨_,rfl,us++[v'],some x,some (V.int (((zAi (hs.take i):Nat):Int)+(ws.length:Int))),?_,zAa (gA.trans g4) hgl,zAB,?_⟩
  ·have e1:(((zAi (hs.take i):Nat):Int)+(ws.length:Int))=((zAi (hs.take (i+1)):Nat):Int):=by rw[lw,en];omega
   show [some (V.ref hl),some (V.ref rl),some (V.ref gl),some (V.int (((zAi (hs.take i):Nat):Int)+(ws.length:Int))),some x,some (V.int (((zAi (hs.take i):Nat):Int)+(ws.length:Int)))]=_;rw[e1]
  ·have e2:R.take (zAi (hs.take (i+1)))=R.take (zAi (hs.take i))++(R.drop (zAi (hs.take i))).take h.parts.length:=by
    rw[en,List.take_add]
   rw[e2,et,zDf _ (by rw[List.length_take];have:=zEM hs i;omega) (by rw[List.length_take,List.length_drop];omega)];exact zAT (Paired.mapP p1 λ Ω Ω z=>z.mono ((g2.trans (g3.trans g4)).tk.trans tkz)) (.cons (r4.mono tkz) .nil)
 ·rintro σ1 H1 ⟨us,s4,s5,rfl,g1,eg1,p1⟩
  rw[lh,List.take_length,←hRn,List.take_length] at p1;exact⟨_,rfl,q gl us H1 g1 hgl eg1 p1⟩
noncomputable def zHL:Sp:=λ vs H Q Ω=>∃(L:Addr) (lvs:List V) (Lr:List (List Tr)) (r:Tr),vs=[.ref L]/\H L=some (.lst lvs)/\Paired (zMj H) Lr.reverse lvs/\Fit Lr 0/\zEU Lr []=[r]/\(∀hs∈Lr,hs.length<=600)/\∀v' H',Same H H'->Rep H' r v'->Q v' H'
theorem zKY {k:Nat}{f g1:Addr}{fd gd1:FuncData}(F:Fun K "grown_tree" "grown_tree" zCW f fd) (z_reversed:mg "reversed" = none) (zMx:FnB P w K mg base k "grown_level" g1 gd1 ["heads", "ready"] zHI):FnOk P w K mg base CX0 (k+1) f fd ["levels"] zHL:=by
 refine F.ok zBf (λ vs H Q E h=>?_) (λ cdv A outer s H vs Q E hr h=>?_)
 ·obtain⟨L,lvs,Lr,r,rfl,_⟩:=h
  rfl
 obtain⟨L,lvs,Lr,r,rfl,eL,pL,hfit,hgrow,hz,q⟩:=h
 refine⟨_,(zAE (zAX (i:=1) zBf.nd rfl (Or.inl rfl) (zA1 zAC:PE _ _ _))
  (zAE (zAn PassesOwn.never rfl (zIy (by rfl) z_reversed (zAA (pv 0) zAC)) (zAN (i:=2) zBf.nd rfl (Or.inl rfl)) (zAF (zAX (i:=1) zBf.nd rfl (Or.inl rfl) (pe_cl zMx hr (zAA (pv 2) (zAA (pv 1) zAC))))))
  (zAF (zAU (iC (r:=rIxL K) zAy (pv 1)))))),?_⟩
 have ll:lvs.length=Lr.length:=by rw[zAH pL,List.length_reverse]
 refine⟨(by show 0<=sizeLine;decide),λ rl0 hrl0=>?_⟩;have g0:=zAD (o:=.lst []) hrl0;refine⟨_,rfl,L,rfl,lvs,SqL.of (g0 _ _ eL),?_⟩;refine zHj (xs:=lvs) (λ i σ' H'=>∃(rl:Addr) (rvs:List V) (R:List Tr) (s2:Option V),σ'=[some (.ref L),some (.ref rl),s2]/\Same H H'/\H' rl=some (.lst rvs)/\Paired (Rep H') R rvs/\Fit (Lr.drop i) R.length/\zEU (Lr.drop i) R=[r]) ?_ ?_ ?_ ?_
 ·exact⟨rl0,[],[],none,rfl,g0,zAB,.nil,hfit,hgrow⟩
 ·rintro i σ1 H1 _ ⟨rl,rvs,R,s2,rfl,g1,er,pR,hf,hg⟩
  exact SqL.of (g1 _ _ eL)
 ·rintro i x σ1 H1 hi hx ⟨rl,rvs,R,s2,rfl,g1,er,pR,hf,hg⟩
  obtain⟨hs,ehs,l,us,rfl,el,pl⟩:=zEg pL hi hx;have hlt:i<Lr.length:=by omega
  have ed:Lr.drop i=hs::Lr.drop (i+1):=by
   rw[List.drop_eq_getElem_cons hlt];have:=(lJ.mp ehs).2;rw[this]
  rw[ed] at hf hg;obtain⟨hf1,hf2⟩:=hf;refine⟨_,rfl,_,rfl,l,rl,us,rvs,hs,R,rfl,g1 _ _ el,er,Paired.mapP pl (λ Ω Ω z=>z.mono g1.tk),pR,hf1.symm,hz hs (lM ehs),λ l2 us2 H2 g2 Ω e2 p2=>?_⟩;refine⟨l2,us2,growL hs R,_,rfl,g1.trans g2,e2,p2,by rw[zET];exact hf2,hg⟩
 ·rintro σ1 H1 ⟨rl,rvs,R,s2,rfl,g1,er,pR,hf,hg⟩
  rw[ll,List.drop_length] at hg;have hg':R=[r]:=hg;subst hg';cases pR with
  |cons r1 pR =>
   cases pR;exact⟨_,rfl,rl,_,0,_,rfl,rfl,SqL.of er,rfl,q _ H1 g1 r1⟩
abbrev zEA:Stmt:=top 38
theorem zBA:zAR ["tree", "leaves", "used", "levels", "level", "heads", "deeper", "part", "told", "name"] ["tree", "leaves"] (zAG zEA):=⟨rfl,rfl,rfl,by decide +kernel,rfl,by decide +kernel,by decide +kernel⟩
noncomputable def zEk:Sp:=λ vs H Q Ω=>∃(t:Tr) (v:V) (d:Addr) (kvs:List (Key × V)) (τ:Told) (W:List Str),vs=[v,.ref d]/\Rep H t v/\t.size<=60/\NoLet t/\H d=some (.dK kvs)/\Lv H τ kvs/\W.length<=400/\(∀x∈t.wrds,x∈W)/\(∀p∈kvs,∀y,AtRep H (.name y) p.2->y∈W) /\
 ∀(v':V) (H':Hp),Same H H'->Rep H' (sbT τ t) v'->Q v' H'
theorem zH9 {k:Nat}{f g1 g4 g5 g6:Addr}{fd gd1 gd4 gd5 gd6:FuncData}(F:Fun K "renamed" "renamed" zEA f fd) (zMy:FnB P w K mg base k "words_used" g1 gd1 ["tree", "leaves"] zCB) (zMz:FnB P w K mg base k "put_head" g4 gd4 ["part", "leaves"] zD1) (zMm:FnB P w K mg base k "parts" g5 gd5 ["tree"] zBe) (zM0:FnB P w K mg base k "grown_tree" g6 gd6 ["levels"] zHL) :
  FnOk P w K mg base CX0 (k+1) f fd ["tree", "leaves"] zEk:=by
 refine F.ok zBA (λ vs H Q E h=>?_) (λ cdv A outer s H vs Q E hr h=>?_)
 ·obtain⟨t,v,d,kvs,τ,W,rfl,_⟩:=h
  rfl
 obtain⟨t,v,d,kvs,τ,W,rfl,hR,hsz,hnl,hd,hv,hW,htW,hdW,q⟩:=h
 refine⟨_,(zAE (zAX (i:=2) zBA.nd rfl (Or.inl rfl) (pe_cl zMy hr (zAA (pv 0) (zAA (pv 1) zAC))))
  (zAE (zAX (i:=3) zBA.nd rfl (Or.inl rfl) (zA1 zAC:PE _ _ _))
  (zAE (zAX (i:=4) zBA.nd rfl (Or.inl rfl) (zA1 (zAA (zA8 (zAA (pv 0) (zAA (pv 1) zAC)):PE _ _ _) zAC):PE _ _ _))
  (zAE (zDE PassesOwn.never (zBw (pv 4) (λ Ω=>rfl)) (zAE (zAX (i:=5) zBA.nd rfl (Or.inl rfl) (zA1 zAC:PE _ _ _))
  (zAE (zAX (i:=6) zBA.nd rfl (Or.inl rfl) (zA1 zAC:PE _ _ _))
  (zAE (zAn PassesOwn.never rfl (zA7 (pv 4)) (zBz rfl (zAc (zAN (i:=7) zBA.nd rfl (Or.inl rfl)) (zAc (zAN (i:=8) zBA.nd rfl (Or.inr rfl)) zBJ))) (zAF (ps_if (zAP op_eq (iC (r:=rIxT K) zAW (pv 7)) zAY (zAb _)) zBr (zAE (zAw (pe_bm PySem.F.plainAttrs_list PySem.F.slot_list_append PySem.F.type_list_append zAt (pv 5) (zAA (pe_cl zMz hr (zAA (pv 7) (zAA (pv 8) zAC))) zAC)))
  (zAF (zAw (pe_bm PySem.F.plainAttrs_list PySem.F.slot_list_extend PySem.F.type_list_extend zDG (pv 6) (zAA (zCM ["inner", "told"] [none,some 8] rfl (zCt (pe_cl zMm hr (zAA (pv 7) zAC))) (λ Ω Ω Ω Ω Ω=>(zAN (i:=0) (show List.Nodup (["inner", "told"]:List Str) by decide +kernel) rfl (Or.inl rfl))) (λ Ω Ω Ω Ω Ω=>zDY) (λ Ω Ω Ω Ω Ω=>(zA8 (zAA (pv 0) (zAA (pv 1) zAC)):PE _ _ _)) rfl) zAC))))))))
  (zAE (zAw (pe_bm PySem.F.plainAttrs_list PySem.F.slot_list_append PySem.F.type_list_append zAt (pv 3) (zAA (pv 5) zAC)))
  (zAF (zAX (i:=4) zBA.nd rfl (Or.inl rfl) (pv 6))))))))
  (zAF (zAU (pe_cl zM0 hr (zAA (pv 3) zAC)))))))),?_⟩
 refine⟨_,rfl,_,rfl,t,v,d,kvs,τ,W,rfl,hR,hsz,hd,hv,hW,htW,hdW,λ U ks0 H1 g1 hU eU Ω Ω Ω Ω=>?_⟩;refine⟨(by show 0<=sizeLine;decide),λ lv hlv=>?_⟩;have g2:=zAD (o:=.lst []) hlv;refine⟨_,rfl,_,rfl,(by show 2<=sizeLine;decide),λ tp htp=>⟨(by show 1<=sizeLine;decide),λ le hle=>?_⟩⟩;have g3:=zAD (o:=.tup [v,.ref d]) htp;have g4:=zAD (o:=.lst [.ref tp]) hle;have gA:=g1.trans (g2.trans (g3.trans g4));have hlvH:H lv=none:=g1.free hlv
 refine⟨λ m σ' Hw=>∃(le:Addr) (lev lvs:List V) (items:List Tr) (Lr:List (List Tr)) (s5 s6 s7 s8:Option V),σ'=[some v,some (.ref d),some (.ref U),some (.ref lv),some (.ref le),s5,s6,s7,s8,none]/\Same H Hw/\Hw le=some (.lst lev)/\Paired (ItT d Hw) items lev/\Hw lv=some (.lst lvs)/\Paired (LevN lv Hw) Lr.reverse lvs/\(∀q∈items,NoLet q)/\m=sumS items/\Fit Lr items.length/\Lr.length+sumS items<=t.size /\
   (∀hs∈Lr,hs.length<=600)/\zEU Lr (items.map (sbT τ))=[sbT τ t],
  ⟨t.size,le,_,[],[t],[],none,none,none,none,rfl,gA,zAB,.cons ⟨tp,v,rfl,g4 _ _ zAB,hR.mono gA.tk⟩ .nil,(g3.trans g4) _ _ zAB,.nil,by simpa using hnl,by simp[sumS],rfl,by simp[sumS],by simp,rfl⟩,?_⟩
 rintro m σ' Hw ⟨le,lev,lvs,items,Lr,s5,s6,s7,s8,rfl,gw,ele,pI,elv,pL,hall,rfl,hfit,hcnt,h600,hdn⟩;have lI:lev.length=items.length:=zAH pI;have lT:=zCc items;refine⟨_,rfl,_,.inl ⟨lev,SqL.of ele,rfl⟩,?_⟩;refine ite2 (λ c=>?_) (λ c=>?_)
 ·refine⟨_,λ Ω Ω h=>h,(by show 0<=sizeLine;decide),λ hd' hhd=>⟨(by show 0<=sizeLine;decide),λ dp hdp=>?_⟩⟩
  have ga:=zAD (o:=.lst []) hhd;have gb:=zAD (o:=.lst []) hdp;have hdpW:Hw dp=none:=ga.free hdp;have nhd:hd'≠dp:=zAK (zAB (H:=Hw) (a:=hd') (o:=.lst [])) hdp;refine⟨_,rfl,le,rfl,⟨lev,SqL.of ((ga.trans gb) _ _ ele)⟩,?_⟩;refine zA4 (xs:=lev) (λ i σ' H'=>∃(hvs dvs:List V) (hs ds:List Tr) (s7 s8:Option V),σ'=[some v,some (.ref d),some (.ref U),some (.ref lv),some (.ref le),some (.ref hd'),some (.ref dp),s7,s8,none]/\Same Hw H'/\H' hd'=some (.lst hvs)/\H' dp=some (.lst dvs)/\Paired (Rep H') hs hvs/\Paired (ItT d H') ds dvs/\LvT τ items i hs ds) ?_ ?_ ?_ ?_
  ·exact⟨[],[],[],[],s7,s8,rfl,ga.trans gb,gb _ _ zAB,zAB,.nil,.nil,⟨rfl,rfl,by simp,by simp[sumS],rfl⟩⟩
  ·rintro i σ1 H1 _ ⟨hvs,dvs,hs,ds,s7,s8,rfl,g1,_⟩
   exact SqL.of (g1 _ _ ele)
  ·rintro i x σ1 H1 hx ⟨hvs,dvs,hs,ds,s7,s8,rfl,g1,eh1,ed1,pH1,pD1,B1⟩
   obtain⟨qt,eqi,rqi⟩:=zAQ pI hx;have hmem:=lM eqi;have nq:=hall qt hmem;obtain⟨a,u,rfl,haw,ruw⟩:=rqi;have ha:=g1 _ _ haw;have ru:=ruw.mono g1.tk;have hi:i<items.length:=(lJ.mp eqi).1;have lh:hvs.length=i:=by rw[zAH pH1,B1.hl]
   have ld:dvs.length=ds.length:=zAH pD1;have lds:=zCc ds;have bt:=B1.sz
   have btk:sumS (items.take i)<=sumS items:=by
    have:sumS items=sumS (items.take i)+sumS (items.drop i):=by rw[←zCA,List.take_append_drop]
    omega
   refine⟨a,_,rfl,SqT.of ha,rfl,_,_,rfl,_,_,rfl,rfl,?_⟩;obtain⟨ap,phs,pws,rfl,hap,phl,php⟩:=id ru.all;have h0:atI (V.str qt.kd.s::phs++pws) 0=some (.str qt.kd.s):=zAZ (j:=0) rfl;refine⟨_,rfl,ap,_,0,_,rfl,rfl,SqT.of hap,h0,rfl,_,rfl,ite2 (λ c=>?_) (λ c=>?_)⟩
   ·exact absurd (Kd.eq_iff.mp (lS c)) nq.own
   ·have gH1:=gw.trans g1
    refine⟨_,rfl,.inl ⟨rfl,_,SqL.of eh1⟩,_,rfl,_,rfl,qt,_,d,kvs,τ,rfl,ru,gH1 _ _ hd,hv.mono gH1.tk,λ v' H2 g2 r2=>⟨hd',hvs,v',rfl,rfl,g2 _ _ eh1,zAS (by omega),?_⟩⟩;have s3:Same Hw (upd H2 hd' (.lst (hvs++[v']))):=zAa (g1.trans g2) hhd;have k3:Tk H2 (upd H2 hd' (.lst (hvs++[v']))):=Tk.lst (g2 _ _ eh1);have eh3:(upd H2 hd' (.lst (hvs++[v']))) hd'=some (.lst (hvs++[v'])):=zAB;have ed3:(upd H2 hd' (.lst (hvs++[v']))) dp=some (.lst dvs):=by rw[zAL (Ne.symm nhd)];exact g2 _ _ ed1
    refine⟨_,rfl,.inl ⟨rfl,_,SqL.of ed3⟩,_,rfl,qt,_,rfl,ruw.mono s3.tk,λ pt H4 us g4 ept pus=>⟨pt,rfl,⟨us,SqT.of ept⟩,λ acc hacc=>?_⟩⟩;have lus:us.length=qt.parts.length:=zAH pus;have p3:=zF4 qt;refine zCY (xs:=us) (λ j H'=>Same H4 H'/\∃zs,H' acc=some (.lst zs)/\Paired (ItT d H') (qt.parts.take j) zs) ⟨zAD hacc,[],zAB,.nil⟩ (λ j H' Ω h=>SqT.of (h.1 _ _ ept)) ?_ ?_
    ·rintro j x Hx hx ⟨gx,zs,ezs,hzs⟩
     obtain⟨p,ep,rp⟩:=zAQ pus hx;have hj:j<us.length:=(lJ.mp hx).1;have lz:=zAH hzs;rw[List.length_take] at lz;refine⟨.skip (.keep .nil),?_⟩;refine⟨_,rfl,_,rfl,(by show 2<=sizeLine;decide),λ t5 ht5=>?_⟩;have g5:=zAD (o:=.tup [x,.ref d]) ht5;have q5:Tk Hx (upd (upd Hx t5 (.tup [x,.ref d])) acc (.lst (zs++[.ref t5]))):=g5.tk.trans (Tk.lst (g5 _ _ ezs));refine⟨zs,g5 _ _ ezs,zAS (by omega),zAa (gx.trans g5) hacc,_,zAB,?_⟩;rw[zAV ep];exact zAT (Paired.mapP hzs λ Ω Ω z=>z.mono q5) (.cons ⟨t5,x,rfl,Tk.lst (g5 _ _ ezs) _ _ zAB,rp.mono (gx.tk.trans q5)⟩ .nil)
    ·rintro Hx ⟨gx,zs,ezs,hzs⟩
     rw[lus,List.take_length] at hzs;have lz:=zAH hzs;have edx:=(g4.trans gx) _ _ ed3;refine⟨dp,acc,dvs,zs,rfl,rfl,edx,ezs,zA3 (by omega),?_⟩;have sE:Same Hw (upd Hx dp (.lst (dvs++zs))):=zAa (s3.trans (g4.trans gx)) hdpW;have qE:Tk Hx (upd Hx dp (.lst (dvs++zs))):=Tk.lst edx;have q3E:Tk (upd H2 hd' (.lst (hvs++[v']))) (upd Hx dp (.lst (dvs++zs))):=(g4.trans gx).tk.trans qE;have q1E:Tk H1 (upd Hx dp (.lst (dvs++zs))):=g2.tk.trans (k3.trans q3E);refine⟨hvs++[v'],dvs++zs,hs++[headT τ qt],ds++qt.parts,_,_,rfl,sE,by rw[zAL nhd];exact(g4.trans gx) _ _ eh3,zAB,?_,?_,B1.next eqi nq⟩
     ·exact zAT (Paired.mapP pH1 λ Ω Ω z=>z.mono q1E) (.cons (r2.mono (k3.trans q3E)) .nil)
     ·exact zAT (Paired.mapP pD1 λ Ω Ω z=>z.mono q1E) (Paired.mapP hzs λ Ω Ω z=>z.mono qE)
  ·rintro σ1 H1 ⟨hvs,dvs,hs,ds,s7',s8',rfl,g1,eh1,ed1,pH1,pD1,B1⟩
   rw[lI] at B1;have elv1:=g1 _ _ elv;have llv:lvs.length=Lr.length:=by rw[zAH pL,List.length_reverse]
   have nhl:hd'≠lv:=Ne.symm (zAK elv hhd);have ndl:dp≠lv:=Ne.symm (zAK elv hdpW);have bt:=B1.sz;have bd:=B1.dn;rw[List.take_length] at bt bd
   have pos:0<items.length:=by
    rw[←lI];cases lev with
    |nil=>simp at c
    |cons _ _=>simp
   refine⟨_,rfl,.inl ⟨rfl,_,SqL.of elv1⟩,_,rfl,lv,lvs,_,rfl,rfl,elv1,zAS (by omega),?_⟩;have kL:Tk H1 (upd H1 lv (.lst (lvs++[.ref hd']))):=Tk.lst elv1;have sL:∀b us,b≠lv->H1 b=some (.lst us)->(upd H1 lv (.lst (lvs++[.ref hd']))) b=some (.lst us):=λ b us n e=>by rw[zAL n];exact e
   refine⟨_,rfl,sumS ds,by omega,dp,dvs,lvs++[.ref hd'],ds,hs::Lr,_,_,_,_,rfl,zAa (gw.trans g1) hlvH,by rw[zAL ndl];exact ed1,Paired.mapP pD1 (λ Ω Ω z=>z.mono kL),zAB,?_,B1.nl,rfl,⟨B1.np,by rw[B1.hl];exact hfit⟩,?_,?_,?_⟩
   ·rw[List.reverse_cons]
    refine zAT (Paired.mapP pL λ Ω Ω z=>z.mono (g1.tk.trans kL) λ b us n e=>sL b us n (g1 _ _ e)) (.cons ⟨hd',hvs,rfl,nhl,sL _ _ nhl eh1,Paired.mapP pH1 λ Ω Ω z=>z.mono kL⟩ .nil)
   ·rw[List.length_cons]
    omega
   ·intro x hx
    rcases lN.mp hx with rfl|hx
    ·rw[B1.hl]
     omega
    ·exact h600 x hx
   ·show zEU Lr (growL hs (ds.map (sbT τ)))=_
    rw[bd];exact hdn
 ·have el0:items=[]:=by
   cases lev with
   |nil=>exact List.length_eq_zero_iff.mp lI.symm
   |cons _ _=>simp at c
  subst el0;refine⟨_,rfl,lv,lvs,Lr,sbT τ t,rfl,elv,Paired.mapP pL (λ _ _ ⟨l,us,e,_,h,p⟩=>⟨l,us,e,h,p⟩),hfit,hdn,h600,λ v' H' g r=>q v' H' (gw.trans g) r⟩
abbrev zB2:Stmt:=top 58
theorem zBl:zAR ["shape", "filling", "used", "gap"] ["shape", "filling"] (zAG zB2):=⟨rfl,rfl,rfl,by decide +kernel,rfl,by decide +kernel,by decide +kernel⟩
abbrev zBV:Stmt:=top 59
theorem zAs:zAR ["shape", "filling", "used", "apart", "place", "part", "word", "inner"] ["shape", "filling"] (zAG zBV):=⟨rfl,rfl,rfl,by decide +kernel,rfl,by decide +kernel,by decide +kernel⟩
noncomputable def zIi:Sp:=λ vs H Q Ω=>∃(t:Tr) (v:V) (d:Addr) (kvs:List (Key × V)) (φ:Str->Option Pce) (W:List Str),vs=[v,.ref d]/\Rep H t v/\H d=some (.dK kvs)/\FlD H φ kvs/\FlOk φ W t/\(∀g∈(gcnt t).map (·.1),φ g≠none)/\∀(u:Addr) (H':Hp),Same H H'->Q (.ref u) H'
theorem zLi {k:Nat}{f g1 g2:Addr}{fd gd1 gd2:FuncData}(F:Fun K "words_of_all" "words_of_all" zB2 f fd) (zMy:FnB P w K mg base k "words_used" g1 gd1 ["tree", "leaves"] zCB) (zM1:FnB P w K mg base k "gaps_of" g2 gd2 ["shape"] zD3):FnOk P w K mg base CX0 (k+1) f fd ["shape", "filling"] zIi:=by
 refine F.ok zBl (λ vs H Q E h=>?_) (λ cdv A outer s H vs Q E hr h=>?_)
 ·obtain⟨t,v,d,kvs,φ,W,rfl,_⟩:=h
  rfl
 obtain⟨t,v,d,kvs,φ,W,rfl,hR,hd,hF,hO,hin,q⟩:=h;have hu:=hu_of hr
 refine⟨_,(zAE (zAX (i:=2) zBl.nd rfl (Or.inl rfl) (pe_cl zMy hr (zAA (pv 0) (zAA zCL zAC))))
  (zAE (zAn PassesOwn.never rfl (zGo (pe_cl zM1 hr (zAA (pv 0) zAC))) (zAN (i:=3) zBl.nd rfl (Or.inl rfl)) (zAF (zAw (pe_bm PySem.F.plainAttrs_dict PySem.F.slot_dict_update PySem.F.type_dict_update zIK (pv 2) (zAA (pe_cl zMy hr (zAA (pe_ix (r:=rIxT K) zAW (zC6 hu (pv 1) (pv 3) (λ Ω Ω=>rfl)) zAJ (λ Ω Ω=>rfl)) (zAA zCL zAC))) zAC)))))
  (zAF (zAU (pv 2))))),?_⟩
 have hwl:=hO.wl;refine⟨_,rfl,λ e0 he0=>?_⟩;have k0:=zAD (o:=.dK []) he0;refine⟨t,v,e0,[],noT,W,rfl,hR.mono k0.tk,hO.sz,zAB,zJK,by omega,hO.tw,(λ p hp=>nomatch hp),λ U ks H1 g1 hU eU nd Ω Ω hkW=>?_⟩
 have g01:=k0.trans g1;have hUH:H U=none:=k0.free hU;refine⟨_,rfl,t,v,rfl,hR.mono g01.tk,hO.sz,hO.ct,λ gd gk H2 g2 hgd egd fd1 lgd=>⟨gd,gk,rfl,.inr ⟨egd,λ o=>?_⟩⟩⟩;have g02:=g01.trans g2;have hgdH:H gd=none:=g01.free hgd;have nUg:U≠gd:=zAK eU hgd;have gF:Same H (upd H2 gd (.frz o (.dK gk))):=zAa g02 hgdH;have lks:(kvOf ks).length<=100:=by rw[show (kvOf ks).length=ks.length from List.length_map _];have:=zDF nd hkW;omega
 refine zFS (o:=o) (a:=gd) (kvs:=gk) (λ i σ' H'=>∃(uk:List (Key × V)) (s3:Option V),σ'=[some v,some (.ref d),some (.ref U),s3]/\Same H H'/\H' gd=some (.frz o (.dK gk))/\H' U=some (.dK uk)/\uk.length<=100+100 * i) ?_ ?_ ?_ ?_
 ·exact⟨kvOf ks,none,rfl,gF,zAB,by rw[zAL nUg];exact g2 _ _ eU,by omega⟩
 ·rintro i σ' H' _ ⟨uk,s3,rfl,g,eg,eu,lu⟩
  exact eg
 ·rintro i p σ' H' hp ⟨uk,s3,rfl,g,eg,eu,lu⟩
  obtain⟨x,hx,ex⟩:=fd1.ky p (lM hp);have hi:i<gk.length:=(lJ.mp hp).1;obtain⟨pc,epc⟩:=Option.ne_none_iff_exists'.mp (hin x hx);obtain⟨a,nt,u,hv,ha,hnt,ru⟩:=(hF.mono g.tk).get epc;obtain⟨z1,z2,z3⟩:=hO.pz x pc epc;have ek:kV p.1 = .str x:=by rw[ex];rfl
  have dg:DGet H' d (.str x) (some (.ref a)):=hv▸DGet.k (k:=Sum.inr x) (g _ _ hd);rw[ek];refine⟨_,rfl,.inr (.inr (.inl ⟨rfl,.inl ⟨uk,eu⟩⟩)),_,rfl,_,rfl,d,_,rfl,dg,a,_,1,_,rfl,rfl,SqT.of ha,zAZ (j:=1) rfl,λ e1 he1=>?_⟩;have k1:=zAD (o:=.dK []) he1;have eu1:=k1 _ _ eu;have eg1:=k1 _ _ eg;refine⟨pc.2,u,e1,[],noT,W,rfl,ru.mono k1.tk,z1,zAB,zJK,by omega,z3,(λ p hp=>nomatch hp),λ U2 ks2 H3 g3 hU2 eU2 nd2 Ω Ω hkW2=>?_⟩
  have nUU:U≠U2:=zAK eu1 hU2;have nUg':gd≠U:=Ne.symm nUg;have l2:(kvOf ks2).length<=100:=by rw[show (kvOf ks2).length=ks2.length from List.length_map _];have:=zDF nd2 hkW2;omega
  refine⟨U,U2,uk,kvOf ks2,rfl,rfl,nUU,g3 _ _ eu1,eU2,mG (by omega:_<=100000) (by decide),?_⟩;have ml:=zF8 (kvOf ks2) uk;refine⟨_,_,rfl,zAa (g.trans (k1.trans g3)) hUH,by rw[zAL nUg'];exact g3 _ _ eg1,zAB,?_⟩;rw[Nat.mul_add];omega
 ·rintro σ' H' ⟨uk,s3,rfl,g,eg,eu,lu⟩
  exact⟨_,rfl,q U H' g⟩
noncomputable def zHM:Sp:=λ vs H Q Ω=>∃(t:Tr) (v:V) (d:Addr) (kvs:List (Key × V)) (φ:Str->Option Pce) (W:List Str),vs=[v,.ref d]/\Rep H t v/\H d=some (.dK kvs)/\FlD H φ kvs/\FlOk φ W t/\(∀g∈(gcnt t).map (·.1),φ g≠none)/\∀(H':Hp),Same H H'->Q v H'
theorem zKZ {k:Nat}{f g1 g2 g3 cN:Addr}{fd gd1 gd2 gd3:FuncData}(F:Fun K "with_lets_apart" "with_lets_apart" zBV f fd) (zM2:FnB P w K mg base k "words_of_all" g1 gd1 ["shape", "filling"] zIi) (zM3:FnB P w K mg base k "places" g2 gd2 ["tree"] zFm) (zM4:FnF P w K mg base k "part_at" g3 gd3 ["tree", "place"] (zEl cN)):FnOk P w K mg base (CXF P w) (k+1) f fd ["shape", "filling"] zHM:=by
 refine F.okF zAs (λ vs H Q E h=>?_) (λ cdv A outer s H vs Q E hr h=>?_)
 ·obtain⟨t,v,d,kvs,φ,W,rfl,_⟩:=h
  rfl
 obtain⟨t,v,d,kvs,φ,W,rfl,hR,hd,hF,hO,hin,q⟩:=h;have hu:=hu_of hr
 refine⟨_,(zAE (zAX (i:=2) zAs.nd rfl (Or.inl rfl) (pe_cl zM2 hr (zAA (pv 0) (zAA (pv 1) zAC))))
  (zAE (zAX (i:=3) zAs.nd rfl (Or.inl rfl) (pv 0))
  (zAE (zAn zF5 rfl (zA7 (pe_cl zM3 hr (zAA (pv 0) zAC))) (zAN (i:=4) zAs.nd rfl (Or.inl rfl)) (zAE (zAX (i:=5) zAs.nd rfl (Or.inl rfl) (zCO zM4.ok hr (by rfl) zM4.gl zM4.kp zM4.bd .nil zDI (zAA (pv 3) (zAA (pv 4) zAC))))
  (zAF (ps_if (zFx (zAP op_eq (iC (r:=rIxT K) zAW (pv 5)) zAY (zAb _)) (zEF zKA)).pt zBr zAO))))
  (zAF (zAU (pv 3)))))),?_⟩
 refine⟨_,rfl,_,rfl,t,v,d,kvs,φ,W,rfl,hR,hd,hF,hO,hin,λ U H1 g1=>?_⟩;refine⟨_,rfl,?_⟩;refine⟨_,rfl,t,v,rfl,hR.mono g1.tk,hO.sz,λ l us H2 g2 el pF=>⟨l,rfl,⟨us,SqL.of el⟩,?_⟩⟩;have g12:=g1.trans g2;refine zA4 (xs:=us) (λ i σ' H'=>∃(s4 s5:Option V),σ'=[some v,some (.ref d),some (.ref U),some v,s4,s5,none,none]/\Same H2 H') ⟨none,none,rfl,.refl _⟩ ?_ ?_ ?_
 ·rintro i σ' H' _ ⟨s4,s5,rfl,g⟩
  exact SqL.of (g _ _ el)
 ·rintro i x σ' H' hx ⟨s4,s5,rfl,g⟩
  obtain⟨pq,eq,a,rfl,ha⟩:=zAQ pF hx;have hm:=lM eq;obtain⟨r,e1,e2,e3⟩:=zGn _ t [] (lQ _) pq hm;have hsz:=hO.sz;rw[List.nil_append] at e1;have gH:=g12.trans g;refine⟨_,rfl,_,rfl,t,v,a,r,rfl,hR.mono gH.tk,by rw[←e1];exact g _ _ ha,by omega,λ x2 hx2 v2 H3 g3 r3=>?_,λ z=>absurd (e2.symm.trans z) (λ y=>nomatch y)⟩
  rw[e2] at hx2;cases hx2;have nk:¬pq.2.kd = .lett:=hO.nl _ (by rw[←zBQ t []];exact mC.mpr ⟨pq,hm,rfl⟩);obtain⟨a0,hs0,us0,rfl,ha0,_,_⟩:=id r3.all;have at0:atI (V.str pq.2.kd.s::hs0++us0) 0=some (.str pq.2.kd.s):=zAZ (j:=0) rfl;refine⟨_,rfl,a0,_,0,_,rfl,rfl,SqT.of ha0,at0,rfl,_,rfl,ite2 (λ c=>absurd (Kd.eq_iff.mp (lS c)) nk) (λ Ω=>iteF ⟨_,_,rfl,g.trans g3⟩)⟩
 ·rintro σ' H' ⟨s4,s5,rfl,g⟩
  exact⟨_,rfl,q H' (g12.trans g)⟩
abbrev zC4:Stmt:=top 60
theorem zFv:zAR ["atom", "filling"] ["atom", "filling"] (zAG zC4):=⟨rfl,rfl,rfl,by decide +kernel,rfl,by decide +kernel,by decide +kernel⟩
abbrev zDS:Stmt:=top 61
theorem zCw:zAR ["gap", "filling", "piece", "leaves"] ["gap", "filling"] (zAG zDS):=⟨rfl,rfl,rfl,by decide +kernel,rfl,by decide +kernel,by decide +kernel⟩
noncomputable def zHO:Sp:=λ vs H Q Ω=>∃(a b:Atom) (v:V) (d:Addr) (kvs:List (Key × V)) (φ:Str->Option Pce),vs=[v,.ref d]/\AtRep H a v/\H d=some (.dK kvs)/\FlD H φ kvs/\LfA φ a b/\∀v',AtRep H b v'->Q v' H
theorem zKb {k:Nat}{f:Addr}{fd:FuncData}(F:Fun K "atom_leaf" "atom_leaf" zC4 f fd):FnOk P w K mg base CX0 (k+1) f fd ["atom", "filling"] zHO:=by
 refine F.ok zFv (λ vs H Q E h=>?_) (λ cdv A outer s H vs Q E hr h=>?_)
 ·obtain⟨a,b,v,d,kvs,φ,rfl,_⟩:=h
  rfl
 obtain⟨a,b,v,d,kvs,φ,rfl,hR,hd,hF,hL,q⟩:=h;have hu:=hu_of hr
 refine⟨_,(zAE (ps_if (zAP op_eq (iC (r:=rIxT K) zAW (pv 0)) zAY (zAb _)) (zAF (zAU (pe_ix (r:=rIxT K) zAW (zC6 hu (pv 1) (iC (r:=rIxT K) zAW (pv 0)) (λ Ω Ω=>rfl)) zAJ (λ Ω Ω=>rfl)))) zAO)
  (zAF (zAU (pv 0)))),?_⟩
 cases hL with
 | @gap g ns n e =>
  obtain⟨p,b,rfl,hp,_⟩:=hR;obtain⟨pa,nt,u,hv,hpa,hnt,ru⟩:=hF.get e;have dg:DGet H d (.str g) (some (.ref pa)):=hv▸DGet.k (k:=Sum.inr g) hd;refine⟨_,rfl,p,_,0,_,rfl,rfl,SqT.of hp,zAZ (j:=0) rfl,rfl,_,rfl,iteT ?_⟩;exact⟨_,rfl,_,rfl,p,_,1,_,rfl,rfl,SqT.of hp,zAZ (j:=1) rfl,d,_,rfl,dg,pa,_,1,_,rfl,rfl,SqT.of hpa,zAZ (j:=1) rfl,q u ru⟩
 |name x =>
  obtain⟨p,rfl,hp⟩:=id hR;exact⟨_,rfl,p,_,0,_,rfl,rfl,SqT.of hp,zAZ (j:=0) rfl,rfl,_,rfl,iteN (by decide +kernel) ⟨_,rfl,q _ hR⟩⟩
 |num x =>
  obtain⟨p,rfl,hp⟩:=id hR;exact⟨_,rfl,p,_,0,_,rfl,rfl,SqT.of hp,zAZ (j:=0) rfl,rfl,_,rfl,iteN (by decide +kernel) ⟨_,rfl,q _ hR⟩⟩
noncomputable def zHH:Sp:=λ vs H Q Ω=>∃(g:Str) (as las:List Atom) (v:V) (d:Addr) (kvs:List (Key × V)) (φ:Str->Option Pce) (ns:List Str) (t:Tr) (W:List Str),vs=[v,.ref d]/\Rep H (.gap g as) v/\H d=some (.dK kvs)/\FlD H φ kvs/\φ g=some (ns,t)/\ns.length<=1000/\as.length=las.length/\(∀(j:Nat) (a b:Atom),as[j]?=some a->las[j]?=some b->LfA φ a b)/\t.size<=60/\NoLet t/\W.length<=400/\(∀x∈t.wrds,x∈W)/\(∀y,Atom.name y∈las->y∈W) /\
 ∀v' H',Same H H'->Rep H' (sbT (tzF noT (ns.zip las)) t) v'->Q v' H'
theorem zKO {k:Nat}{f g1 g2:Addr}{fd gd1 gd2:FuncData}(F:Fun K "piece_at" "piece_at" zDS f fd) (z_dict:mg "dict" = none) (z_zip:mg "zip" = none) (zM5:FnB P w K mg base k "atom_leaf" g1 gd1 ["atom", "filling"] zHO) (zM6:FnB P w K mg base k "renamed" g2 gd2 ["tree", "leaves"] zEk):FnOk P w K mg base CX0 (k+1) f fd ["gap", "filling"] zHH:=by
 refine F.ok zCw (λ vs H Q E h=>?_) (λ cdv A outer s H vs Q E hr h=>?_)
 ·obtain⟨g,as,las,v,d,kvs,φ,ns,t,W,rfl,_⟩:=h
  rfl
 obtain⟨g,as,las,v,d,kvs,φ,ns,t,W,rfl,hR,hd,hF,eg,hns,hal,hL,hsz,hnl,hW,htW,hlW,q⟩:=h;have hu:=hu_of hr
 refine⟨_,(zAE (zAX (i:=2) zCw.nd rfl (Or.inl rfl) (zC6 hu (pv 1) (iC (r:=rIxT K) zAW (pv 0)) (λ Ω Ω=>rfl)))
  (zAE (zHU (jj:=3) ["atom", "filling"] [none,some 1] rfl (zCt (iC (r:=rIxT K) zAW (pv 0))) (λ Ω Ω Ω Ω Ω=>(zAN (i:=0) (show List.Nodup (["atom", "filling"]:List Str) by decide +kernel) rfl (Or.inl rfl))) (λ Ω Ω Ω Ω Ω=>zDY) (λ Ω Ω Ω Ω Ω=>(pe_cl zM5 hr (zAA (pv 0) (zAA (pv 1) zAC)))) rfl zCw.nd rfl (Or.inl rfl) (Or.inr rfl))
  (zAF (zAU (pe_cl zM6 hr (zAA (iC (r:=rIxT K) zAW (pv 2)) (zAA (zH8 rfl (by rfl) z_dict (by rfl) z_zip (zAA (iC (r:=rIxT K) zAW (pv 2)) (zAA (pv 3) zAC))) zAC))))))),?_⟩
 obtain⟨a,b,us,rfl,ha,hb,hul,pas⟩:=hR;obtain⟨pa,nt,u,hv,hpa,hnt,ru⟩:=hF.get eg;have dg:DGet H d (.str g) (some (.ref pa)):=hv▸DGet.k (k:=Sum.inr g) hd;have lus:us.length=as.length:=zAH pas;refine⟨_,rfl,_,rfl,a,_,1,_,rfl,rfl,SqT.of ha,zAZ (j:=1) rfl,d,_,rfl,dg,?_⟩;refine⟨_,rfl,a,_,2,_,rfl,rfl,SqT.of ha,zAZ (j:=2) rfl,b,rfl,⟨_,SqT.of hb⟩,λ acc hacc=>?_⟩;refine zCY (xs:=us) (λ i H'=>Same H H'/\∃zs,H' acc=some (.lst zs)/\Paired (AtRep H') (las.take i) zs) ⟨zAD hacc,[],zAB,by rw[List.take_zero];exact .nil⟩ (λ i H' Ω h=>SqT.of (h.1 _ _ hb)) ?_ ?_
 ·rintro j x Hx hx ⟨gx,zs,ezs,hzs⟩
  obtain⟨m,em,rm⟩:=zAQ pas hx;have hj:j<us.length:=(lJ.mp hx).1;have lz:=zAH hzs;rw[List.length_take] at lz;have hj2:j<las.length:=by omega
  have el:=lW hj2;have hlf:=hL j m las[j] em el;refine⟨.skip (.keep .nil),?_⟩;refine⟨_,rfl,_,rfl,m,las[j],x,d,kvs,φ,rfl,rm.mono gx.tk,gx _ _ hd,hF.mono gx.tk,hlf,λ v' rv=>?_⟩;have tkz:Tk Hx (upd Hx acc (.lst (zs++[v']))):=Tk.lst ezs;refine⟨zs,ezs,zAS (by omega),zAa gx hacc,_,zAB,?_⟩;rw[zAV el];exact zAT (Paired.mapP hzs λ Ω Ω z=>z.mono tkz) (.cons (rv.mono tkz) .nil)
 ·rintro Hx ⟨gx,zs,ezs,hzs⟩
  rw[lus,hal,List.take_length] at hzs;refine⟨_,rfl,pa,_,1,_,rfl,rfl,SqT.of (gx _ _ hpa),zAZ (j:=1) rfl,?_⟩;refine⟨_,rfl,pa,_,0,_,rfl,rfl,SqT.of (gx _ _ hpa),zAZ (j:=0) rfl,?_⟩;refine⟨_,rfl,nt,acc,ns,zs,rfl,gx _ _ hnt,ezs,hns,λ dz hdz=>?_⟩;have g1:=zAD (o:=.dK (zAu [] (zipK ns zs))) hdz;have lv:Lv Hx (tzF noT (ns.zip las)) (zAu [] (zipK ns zs)):=zHe zJK hzs;refine⟨t,u,dz,_,_,W,rfl,(ru.mono gx.tk).mono g1.tk,hsz,hnl,zAB,lv.mono g1.tk,hW,htW,λ p hp y hy=>?_,λ v' H' gs rv=>q v' H' ((gx.trans g1).trans gs) rv⟩;rcases zJJ hp with h|h
  ·cases h
  ·obtain⟨a0,ha0,r0⟩:=zHV hzs (zG7 h)
   exact hlW y (zMi (r0.mono g1.tk) hy▸ha0)
theorem zEG:∀{pl:List Int}{w t u:Tr},w.at_ pl=some t->(putT w pl u).at_ pl=some u
 |[],_,_,_,_=>rfl
 |i::is,w,t,u,h=>by
  obtain⟨k,hk,h⟩:=Option.bind_eq_some_iff.mp (show (w.kid i).bind _=some t from h);rw[zBX hk];obtain⟨h0,h1,h2⟩:=zGA hk;have hl:i.toNat<w.parts.length:=(lJ.mp h2).1
  have e:(w.withP (w.parts.set i.toNat (putT k is u))).kid i=some (putT k is u):=by
   unfold Tr.kid;rw[if_pos h0,zA5 (by simp),List.getElem?_set_self hl]
  show ((w.withP _).kid i).bind _=_;rw[e];exact zEG h
theorem zIs:∀{pl:List Int}{w t u u':Tr},w.at_ pl=some t->putT (putT w pl u) pl u'=putT w pl u'
 |[],_,_,_,_,_=>rfl
 |i::is,w,t,u,u',h=>by
  obtain⟨k,hk,h⟩:=Option.bind_eq_some_iff.mp (show (w.kid i).bind _=some t from h);obtain⟨h0,h1,h2⟩:=zGA hk;have hl:i.toNat<w.parts.length:=(lJ.mp h2).1
  have e:(w.withP (w.parts.set i.toNat (putT k is u))).kid i=some (putT k is u):=by
   unfold Tr.kid;rw[if_pos h0,zA5 (by simp),List.getElem?_set_self hl]
  rw[zBX hk,zBX e,zBX hk,zA5 (by simp),zDx (by simp) (by simp),zIs h,List.set_set]
theorem zHR:∀{pl:List Int}{w t:Tr},w.at_ pl=some t->putT w pl t=w
 |[],_,_,h=>by cases h;rfl
 |i::is,w,t,h=>by
  obtain⟨k,hk,h⟩:=Option.bind_eq_some_iff.mp (show (w.kid i).bind _=some t from h);obtain⟨h0,h1,h2⟩:=zGA hk;obtain⟨hl,h3⟩:=lJ.mp h2;rw[zBX hk,zHR h]
  conv=>rhs;rw[←zCa w]
  congr 1;rw[←h3,List.set_getElem_self]
theorem zIt:∀{pl:List Int}{w t k u:Tr}{i:Int},w.at_ pl=some t->t.kid i=some k->putT w (pl++[i]) u=putT w pl (t.withP (t.parts.set i.toNat u))
 |[],w,t,k,u,i,h,hk=>by
  cases h;show putT w [i] u=_;rw[zBX hk];rfl
 |j::is,w,t,k,u,i,h,hk=>by
  obtain⟨k',hk',h⟩:=Option.bind_eq_some_iff.mp (show (w.kid j).bind _=some t from h);show putT w (j::(is++[i])) u=_;rw[zBX hk',zBX hk',zIt h hk]
theorem zGF (c:Tr->Tr) {t:Tr}{pl:List Int}(ih:∀k∈t.parts,∀(pl:List Int) (w:Tr),w.at_ pl=some k->(psub pl k).foldl (fillS c) w=putT w pl (fillT c k)) {w:Tr}(h:w.at_ pl=some t) :
  ∀(n:Nat),n<=t.parts.length->((t.parts.take n).zipIdx.map λ q=>(pl++[(q.2:Int)],q.1)).foldl (λ w x=>(psub x.1 x.2).foldl (fillS c) w) w=putT w pl (t.withP ((t.parts.take n).map (fillT c)++t.parts.drop n))
 |0,_=>by
  show w=_;rw[List.take_zero,List.map_nil,List.nil_append,List.drop_zero,zCa,zHR h]
 |n+1,hn=>by
  have ihn:=zGF c ih h n (by omega);have hlt:n<t.parts.length:=hn;have hl0:((t.parts.take n).map (fillT c)++t.parts.drop n).length=t.parts.length:=by simp;omega
  have at1:(putT w pl (t.withP ((t.parts.take n).map (fillT c)++t.parts.drop n))).at_ pl=some (t.withP ((t.parts.take n).map (fillT c)++t.parts.drop n)):=zEG h
  have kd:(t.withP ((t.parts.take n).map (fillT c)++t.parts.drop n)).kid (n:Int)=some t.parts[n]:=by
   unfold Tr.kid;rw[if_pos (by omega),zA5 hl0,Int.toNat_natCast,List.getElem?_append_right (by simp;omega),List.getElem?_drop,List.length_map,List.length_take,show n+(n - min n t.parts.length)=n by omega,List.getElem?_eq_getElem hlt]
  have at2:(putT w pl (t.withP ((t.parts.take n).map (fillT c)++t.parts.drop n))).at_ (pl++[(n:Int)])=some t.parts[n]:=by
   rw[zJu,at1];show (Tr.kid _ _).bind _=_;rw[kd];rfl
  rw[zAV (List.getElem?_eq_getElem hlt),List.zipIdx_append,List.map_append,List.foldl_append,ihn];rw[List.length_take,Nat.zero_add,Nat.min_eq_left (by omega)];show (psub (pl++[(n:Int)]) t.parts[n]).foldl (fillS c) _=_;rw[ih _ (List.getElem_mem hlt) _ _ at2,zIt at1 kd,zA5 hl0,zDx hl0 (by simp;omega),zIs h];congr 2;rw[Int.toNat_natCast,List.map_append];have e0:((t.parts.take n).map (fillT c)).length=n:=by simp;omega
  rw[List.drop_eq_getElem_cons hlt,List.set_append_right _ _ (by omega),e0,Nat.sub_self,List.append_assoc];rfl
theorem zHm (c:Tr->Tr):∀(n:Nat) (t:Tr),t.size<=n->∀(pl:List Int) (w:Tr),w.at_ pl=some t->(psub pl t).foldl (fillS c) w=putT w pl (fillT c t)
 |0,t,h=>absurd h (by have:=zCh t;omega)
 |n+1,t,h=>λ pl w hw=>by
  rw[zGm,List.foldl_cons,List.foldl_flatMap]
  by_cases hs:t.sign = "gap"
  ·cases t with
   |gap g as =>
    show List.foldl _ (fillS c w (pl,.gap g as)) []=_;show fillS c w (pl,.gap g as)=_;unfold fillS;rw[if_pos hs];rfl
   |bin o a b=>cases o<;>exact absurd (show (Str.ofString _:Str)=Str.ofString "gap" from hs) (by decide +kernel)
   |_=>exact absurd (show (Str.ofString _:Str)=Str.ofString "gap" from hs) (by decide +kernel)
  ·rw[show fillS c w (pl,t)=w from if_neg hs]
   have q:=zGF c (t:=t) (pl:=pl) (λ k hk=>zHm c n k (by have:=zBu hk;omega)) hw t.parts.length (lQ _);rw[List.take_length,List.drop_length,List.append_nil] at q;refine Eq.trans q (congrArg _ ?_);cases t with
   |gap g as=>exact absurd rfl hs
   |_=>rfl
theorem zLL:∀{g p:List Int}{w u:Tr},w.at_ p≠none->(∀s,p=g++s->s=[])->(putT w g u).at_ p≠none
 |[],p,w,u,h,hs=>by
  rw[hs p rfl];exact λ z=>nomatch z
 |i::is,p,w,u,h,hs=>by
  cases hk:w.kid i with
  |none =>
   rw[show putT w (i::is) u=w by show (match w.kid i with|some k=>_|none=>w)=w;rw[hk]];exact h
  |some k =>
   rw[zBX hk];obtain⟨h0,h1,h2⟩:=zGA hk;have hl:i.toNat<w.parts.length:=(lJ.mp h2).1;cases p with
   |nil=>exact λ z=>nomatch z
   |cons j js =>
    by_cases e:j=i
    ·subst e
     have ek:(w.withP (w.parts.set j.toNat (putT k is u))).kid j=some (putT k is u):=by
      unfold Tr.kid;rw[if_pos h0,zA5 (by simp),List.getElem?_set_self hl]
     have h':k.at_ js≠none:=λ z=>h (by show (w.kid j).bind _=none;rw[hk];exact z);have q:=zLL (u:=u) h' (λ s hs'=>hs s (by rw[hs'];rfl));intro z;have z':((w.withP (w.parts.set j.toNat (putT k is u))).kid j).bind (λ u=>u.at_ js)=none:=z;rw[ek] at z';exact q z'
    ·have ek:(w.withP (w.parts.set i.toNat (putT k is u))).kid j=w.kid j:=by
      unfold Tr.kid
      by_cases hj:0<=j
      ·rw[if_pos hj,if_pos hj,zA5 (by simp),List.getElem?_set_ne (by omega)]
      ·rw[if_neg hj,if_neg hj]
     intro z;have z':((w.withP (w.parts.set i.toNat (putT k is u))).kid j).bind (λ u=>u.at_ js)=none:=z;rw[ek] at z';exact h z'
abbrev zFG:Stmt:=top 62
theorem zBn:zAR ["shape", "filling", "gap", "apart", "whole", "place", "part"] ["shape", "filling"] (zAG zFG):=⟨rfl,rfl,rfl,by decide +kernel,rfl,by decide +kernel,by decide +kernel⟩
noncomputable def zFp (cF:Addr):Sp:=λ vs H Q E=>∃(t:Tr) (v:V) (d:Addr) (kvs:List (Key × V)) (φ:Str->Option Pce) (W:List Str) (c:Tr->Tr),vs=[v,.ref d]/\Rep H t v/\H d=some (.dK kvs)/\FlD H φ kvs/\FlOk φ W t/\(∀g∈(gcnt t).map (·.1),g.length<=100) /\
 ((∀g∈(gcnt t).map (·.1),φ g≠none)->PcOk φ W c t/\∀v' H',Same H H'->Rep H' (fillT c t) v'->Q v' H')/\((∃g∈(gcnt t).map (·.1),φ g=none)->∀H',Same H H'->E (.ref cF) none H')
theorem zJD {k:Nat}{f g1 g2 g3 g4 g5 cN cF:Addr}{fd gd1 gd2 gd3 gd4 gd5:FuncData}(F:Fun K "filled" "filled" zFG f fd) (zM7:mg "NoFill" = some (.ref cF)) (x_NoFill:W.excIn K cF bmVE "ValueError.__new__" = true)
  (zM1:FnB P w K mg base k "gaps_of" g1 gd1 ["shape"] zD3) (zM8:FnF P w K mg base k "with_lets_apart" g2 gd2 ["shape", "filling"] zHM) (zMr:FnB P w K mg base k "placed_parts" g3 gd3 ["tree"] zDB) (zM9:FnF P w K mg base k "put_at" g4 gd4 ["tree", "place", "part"] (zFk cN)) (zNA:FnB P w K mg base k "piece_at" g5 gd5 ["gap", "filling"] zHH):FnOk P w K mg base (CXF P w) (k+1) f fd ["shape", "filling"] (zFp cF):=by
 refine F.okF zBn (λ vs H Q E h=>?_) (λ cdv A outer s H vs Q E hr h=>?_)
 ·obtain⟨t,v,d,kvs,φ,W,c,rfl,_⟩:=h
  rfl
 obtain⟨t,v,d,kvs,φ,W,c,rfl,hR,hd,hF,hO,hgl,q,qe⟩:=h;have hu:=hu_of hr
 refine⟨_,(zAE (zAn zF5 rfl (zGo (pe_cl zM1 hr (zAA (pv 0) zAC))) (zAN (i:=2) zBn.nd rfl (Or.inl rfl)) (zAF (ps_if (zAP (zF6 hu) (pv 2) (pv 1) rfl) (zAF (zHS (by rfl) zM7 x_NoFill (zAA (zLe (pv 2)) zAC))) zAO)))
  (zAE (zAX (i:=3) zBn.nd rfl (Or.inl rfl) (zCO zM8.ok hr (by rfl) zM8.gl zM8.kp zM8.bd .nil zDI (zAA (pv 0) (zAA (pv 1) zAC))))
  (zAE (zAX (i:=4) zBn.nd rfl (Or.inl rfl) (pv 3))
  (zAE (zAn zF5 rfl (zA7 (pe_cl zMr hr (zAA (pv 3) zAC))) (zBz rfl (zAc (zAN (i:=5) zBn.nd rfl (Or.inl rfl)) (zAc (zAN (i:=6) zBn.nd rfl (Or.inl rfl)) zBJ))) (zAF (ps_if (zAP op_eq (iC (r:=rIxT K) zAW (pv 6)) zAY (zAb _)) (zAF (zAX (i:=4) zBn.nd rfl (Or.inl rfl) (zCO zM9.ok hr (by rfl) zM9.gl zM9.kp zM9.bd .nil zDI (zAA (pv 4) (zAA (pv 5) (zAA (pe_cl zNA hr (zAA (pv 6) (zAA (pv 1) zAC))) zAC)))))) zAO)))
  (zAF (zAU (pv 4))))))),?_⟩
 refine⟨_,rfl,t,v,rfl,hR,hO.sz,hO.ct,λ gd gk H2 g2 hgd egd fd1 lgd=>⟨gd,gk,rfl,.inr ⟨egd,λ o=>?_⟩⟩⟩;have gF:Same H (upd H2 gd (.frz o (.dK gk))):=zAa g2 hgd;refine zFS (o:=o) (a:=gd) (kvs:=gk) (λ i σ' H'=>∃(s2:Option V),σ'=[some v,some (.ref d),s2,none,none,none,none]/\Same H H'/\H' gd=some (.frz o (.dK gk))/\∀p∈gk.take i,∀x,p.1=(Sum.inr x:Key)->φ x≠none) ?_ ?_ ?_ ?_
 ·exact⟨none,rfl,gF,zAB,λ p hp=>nomatch hp⟩
 ·rintro i σ' H' _ ⟨s2,rfl,g,eg,hk⟩
  exact eg
 ·rintro i p σ' H' hp ⟨s2,rfl,g,eg,hk⟩
  obtain⟨x,hx,ex⟩:=fd1.ky p (lM hp);have ek:kV p.1 = .str x:=by rw[ex];rfl
  rw[ek];have dg:DGet H' d (.str x) (valV kvs (Sum.inr x:Key)):=DGet.k (k:=Sum.inr x) (g _ _ hd);refine⟨_,rfl,_,rfl,d,_,rfl,dg,_,rfl,?_⟩;cases ephi:φ x with
  |none =>
   rw[hF.no ephi];exact iteT ⟨_,rfl,x,rfl,mG (Nat.add_le_add (show Str.length _<=100 by decide +kernel) (hgl x hx)) (by decide),(by show 1<=sizeLine;decide),qe ⟨x,hx,ephi⟩ H' g⟩
  |some pc =>
   obtain⟨a,nt,u,hv,_⟩:=hF.get ephi;rw[hv];refine iteF ⟨_,rfl,g,eg,λ p' hp' x' ex'=>?_⟩;rw[zAV hp] at hp';rcases lK.mp hp' with h|h
   ·exact hk p' h x' ex'
   ·rw[List.mem_singleton.mp h,ex] at ex'
    cases ex';rw[ephi];exact λ z=>nomatch z
 ·rintro σ' H' ⟨s2,rfl,g,eg,hk⟩
  rw[List.take_length] at hk
  have hin:∀x∈(gcnt t).map (·.1),φ x≠none:=λ x hx=>by
   obtain⟨n,en⟩:∃n,zBU (gcnt t) x=some n:=by
    obtain⟨y,hy,rfl⟩:=mC.mp hx;unfold zBU;cases e:(gcnt t).find? λ z=>decide (z.1=y.1) with
    |none=>exact absurd (lU rfl) (List.find?_eq_none.mp e y hy)
    |some z=>exact⟨z.2,rfl⟩
   have e2:=fd1.vl x;rw[en] at e2;obtain⟨p,hp,ep,_⟩:=zGZ e2;exact hk p hp x ep
  obtain⟨hP,q⟩:=q hin;refine⟨_,rfl,_,rfl,t,v,d,kvs,φ,W,rfl,hR.mono g.tk,g _ _ hd,hF.mono g.tk,hO,hin,λ H1 g1=>?_⟩;have gH1:=g.trans g1;refine⟨_,rfl,?_⟩;refine⟨_,rfl,t,v,rfl,hR.mono gH1.tk,hO.sz,λ l us H2 g2 el pF=>⟨l,rfl,⟨us,SqL.of el⟩,?_⟩⟩;have gH2:=gH1.trans g2;refine zA4 (xs:=us) (λ i σ' H'=>∃(s5 s6:Option V) (wv:V),σ'=[some v,some (.ref d),s2,some v,some wv,s5,s6]/\Same H2 H'/\Rep H' (((psub [] t).take i).foldl (fillS c) t) wv/\∀r,t.at_ r≠none->(((psub [] t).take i).foldl (fillS c) t).at_ r≠none) ⟨none,none,v,rfl,.refl _,hR.mono gH2.tk,λ r h=>h⟩ ?_ ?_ ?_
  ·rintro i σ' H' _ ⟨s5,s6,wv,rfl,g,rw,hat⟩
   exact SqL.of (g _ _ el)
  ·rintro i x σ' H' hx ⟨s5,s6,wv,rfl,g,rw,hat⟩
   obtain⟨pq,eq,u,ha,ru⟩:=zAQ pF hx;obtain⟨pr,b,rfl,hpr,hb⟩:=ha;have hm:=lM eq;obtain⟨r,e1,e2,e3⟩:=zGn _ t [] (lQ _) pq hm;rw[List.nil_append] at e1;have hsz:=hO.sz;have hwl:=hO.wl;have gH:=gH2.trans g;have ru':=ru.mono g.tk;obtain⟨a0,hs0,us0,rfl,ha0,_,_⟩:=id ru'.all;have at0:atI (V.str pq.2.sign::hs0++us0) 0=some (.str pq.2.sign):=zAZ (j:=0) rfl
   have tk1:((psub [] t).take (i+1)).foldl (fillS c) t=fillS c (((psub [] t).take i).foldl (fillS c) t) pq:=by
    rw[zAV eq,List.foldl_append];rfl
   refine⟨pr,_,rfl,SqT.of (g _ _ hpr),rfl,_,_,rfl,_,_,rfl,rfl,?_⟩;refine⟨_,rfl,a0,_,0,_,rfl,rfl,SqT.of ha0,at0,rfl,_,rfl,ite2 (λ cc=>?_) (λ cc=>?_)⟩
   ·have hsg:pq.2.sign = "gap" := V.str.inj (lS cc)
    obtain⟨gg,as,eg2⟩:=zG0 hsg;obtain⟨ns,pu,las,f1,f2,f3,f4,f5,f6⟩:=hP gg as (by rw[←eg2,←zBQ t []];exact mC.mpr ⟨pq,hm,rfl⟩);obtain⟨z1,z2,z3⟩:=hO.pz gg _ f1;refine⟨_,rfl,_,rfl,_,rfl,_,rfl,gg,as,las,.ref a0,d,kvs,φ,ns,pu,W,rfl,eg2▸ru',gH _ _ hd,hF.mono gH.tk,f1,f2,f3,f4,z1,z2,by omega,z3,f5,λ v3 H3 g3 r3=>?_⟩;refine⟨_,_,wv,v3,b,pq.1,rfl,rw.mono g3.tk,r3,g3 _ _ (g _ _ hb),by rw[e1];omega,λ Ω v4 H4 g4 r4=>?_,λ z=>absurd z (hat _ (by rw[e1,e2];exact λ y=>nomatch y))⟩
    have ec:c pq.2=sbT (tzF noT (ns.zip las)) pu:=by rw[eg2];exact f6
    refine⟨_,_,v4,rfl,g.trans (g3.trans g4),?_,λ r2 h2=>?_⟩
    ·rw[tk1]
     unfold fillS;rw[if_pos hsg,ec];exact r4
    ·rw[tk1]
     unfold fillS;rw[if_pos hsg];refine zLL (hat r2 h2) (λ s es=>?_);rw[es,e1,zJu,e2,eg2] at h2;cases s with
     |nil=>rfl
     |cons j js =>
      refine absurd ?_ h2;show ((Tr.gap gg as).kid j).bind _=none;rw[show (Tr.gap gg as).kid j=none by unfold Tr.kid;split<;>rfl];rfl
   ·have hsg:¬pq.2.sign = "gap" := λ z=>cc (by rw[z];exact lU rfl)
    have tk2:((psub [] t).take (i+1)).foldl (fillS c) t=((psub [] t).take i).foldl (fillS c) t:=tk1.trans (if_neg hsg);exact⟨_,_,wv,rfl,g,tk2▸rw,tk2▸hat⟩
  ·rintro σ' H' ⟨s5,s6,wv,rfl,g,rw,hat⟩
   have hl:=zAH pF;rw[hl,List.take_length,zHm c _ t (Nat.le_refl _) [] t rfl] at rw;exact⟨_,rfl,q wv H' (gH2.trans g) rw⟩
abbrev zCG:Stmt:=top 64
theorem zEe:zAR ["_law_script", "_law_k"] ["_law_script", "_law_k"] (zAG zCG):=⟨rfl,rfl,rfl,by decide +kernel,rfl,by decide +kernel,by decide +kernel⟩
noncomputable def zEn (K:W.Frag):Sp:=λ vs H Q Ω=>∃(a:Addr) (ns:List Int) (k:Int),vs=[.ref a,.int k]/\SqL K H a (ns.map V.int)/\0<=k/\Q (.int (ns.getD k.toNat 0)) H
theorem zIC {k:Nat}{f:Addr}{fd:FuncData}(F:Fun K "_law_cell_at" "_law_cell_at" zCG f fd) (z_len:mg "len" = none):FnOk P w K mg base CX0 (k+1) f fd ["_law_script", "_law_k"] (zEn K):=by
 refine F.ok zEe (λ vs H Q E h=>?_) (λ cdv A outer s H vs Q E hr h=>?_)
 ·obtain⟨a,ns,k,rfl,_⟩:=h
  rfl
 obtain⟨a,ns,k,rfl,hS,h0,q⟩:=h
 refine⟨_,(zAE (ps_if (zAP op_lt (pv 1) (zAd zAe (by rfl) z_len PySem.boot_len (zAA (pv 0) zAC)) (zAb _)) (zAF (zAU (pe_ix (r:=rIxL K) zAy (pv 0) (pv 1) (λ Ω Ω=>rfl)))) zAO)
  (zAF (zAU zAJ))),?_⟩
 refine⟨_,rfl,_,rfl,a,_,rfl,.inl hS,_,_,rfl,rfl,_,rfl,?_⟩;refine ite2 (λ c=>?_) (λ c=>?_)
 ·have c':k<((ns.map V.int).length:Int):=lS c
  rw[List.length_map] at c';have hl:k.toNat<ns.length:=by omega
  have e:((k.toNat:Nat):Int)=k:=by omega
  have at_:=zAZ (xs:=ns.map V.int) (j:=k.toNat) (v:=.int ns[k.toNat]) (by simp[hl]);rw[e] at at_;refine⟨_,rfl,_,rfl,a,_,k,_,rfl,rfl,hS,at_,?_⟩;have e2:ns.getD k.toNat 0=ns[k.toNat]:=by rw[List.getD_eq_getElem?_getD,List.getElem?_eq_getElem hl,Option.getD_some]
  rw[←e2];exact q
 ·have c':¬k<((ns.map V.int).length:Int):=λ z=>c (lU z)
  rw[List.length_map] at c'
  have e2:ns.getD k.toNat 0=0:=by
   rw[List.getD_eq_getElem?_getD,List.getElem?_eq_none (by omega)];rfl
  rw[e2] at q;exact q
abbrev zC0:Stmt:=top 65
theorem zAk:zAR ["_law_cell", "_law_many", "_law_letters", "_law_long", "_law_at", "_law_rest", "_law_signs", "_law_k", "_law_words_here", "_law_word"] ["_law_cell", "_law_many"] (zAG zC0):=⟨rfl,rfl,rfl,by decide +kernel,rfl,by decide +kernel,by decide +kernel⟩
noncomputable def zHC:Sp:=λ vs H Q Ω=>∃(c:Int),vs=[.int c,.int 12]/\∀(l:Addr) (H':Hp) (ws:List Str),Same H H'->H' l=some (.lst (ws.map V.str))->ws.length=12->ws.Nodup->(∀x∈ws,x.length<=8)->Q (.ref l) H'
theorem zKJ {k:Nat}{f:Addr}{fd:FuncData}(F:Fun K "_law_words" "_law_words" zC0 f fd) (z_range:mg "range" = none):FnOk P w K mg base CX0 (k+1) f fd ["_law_cell", "_law_many"] zHC:=by
 refine F.ok zAk (λ vs H Q E h=>?_) (λ cdv A outer s H vs Q E hr h=>?_)
 ·obtain⟨c,rfl,_⟩:=h
  rfl
 obtain⟨c,rfl,q⟩:=h
 refine⟨_,(zAE (zAX (i:=2) zAk.nd rfl (Or.inr rfl) zAY)
  (zAE (zAX (i:=3) zAk.nd rfl (Or.inl rfl) (pe_op zEL zAJ (pe_op zAq (pv 0) zAJ)))
  (zAE (zAX (i:=4) zAk.nd rfl (Or.inl rfl) (pe_op zAq (pe_op zAx (pv 0) zAJ) (pv 3)))
  (zAE (zAX (i:=5) zAk.nd rfl (Or.inl rfl) (pe_op zAq (pe_op zAx (pv 0) zAJ) (pe_op zEx zAJ zAJ)))
  (zAE (zAX (i:=6) zAk.nd rfl (Or.inl rfl) (zA1 zAC:PE _ _ _))
  (zAE (zAn PassesOwn.never rfl (zF1 (by rfl) z_range (zAA (pv 3) zAC)) (zAN (i:=7) zAk.nd rfl (Or.inl rfl)) (zAE (zAw (pe_bm PySem.F.plainAttrs_list PySem.F.slot_list_append PySem.F.type_list_append zAt (pv 6) (zAA (pe_op zAq (pv 5) zAJ) zAC)))
  (zAF (zAX (i:=5) zAk.nd rfl (Or.inl rfl) (pe_op zAx (pv 5) zAJ)))))
  (zAE (zAX (i:=8) zAk.nd rfl (Or.inl rfl) (zA1 zAC:PE _ _ _))
  (zAE (zAn PassesOwn.never rfl (zF1 (by rfl) z_range (zAA zAJ zAC)) (zAN (i:=7) zAk.nd rfl (Or.inl rfl)) (zAE (zK2 (pe_op zAq (pe_op zEL (pe_ix (r:=rIxL K) zAy (pv 6) (pv 4) (λ Ω Ω=>rfl)) zAJ) zAJ) (zK4 (pv 6) (pv 4) zHP))
  (zAE (zAX (i:=9) zAk.nd rfl (Or.inl rfl) (pe_bm PySem.F.plainAttrs_str PySem.F.slot_str_join PySem.F.type_str_join zLq zAY (zAA (zCM ["_law_sign", "_law_letters"] [none,some 2] rfl (zA7 (pv 6)) (λ Ω Ω Ω Ω Ω=>(zAN (i:=0) (show List.Nodup (["_law_sign", "_law_letters"]:List Str) by decide +kernel) rfl (Or.inl rfl))) (λ Ω Ω Ω Ω Ω=>zDY) (λ Ω Ω Ω Ω Ω=>(pe_ix zMb (pv 1) (pv 0) (λ Ω Ω=>rfl))) rfl) zAC)))
  (zAF (ps_if (zAP (r:=rIn K true) zDr (pv 9) (zLd [.str "let", .str "in", .str "if", .str "then", .str "else", .str "say", .str "ask", .str "stop", .str "where", .str "quiet", .str "number"] (by rfl):PE _ _ _) rfl) (zAF (zAw (pe_bm PySem.F.plainAttrs_list PySem.F.slot_list_append PySem.F.type_list_append zAt (pv 8) (zAA (pv 9) zAC)))) zAO)))))
  (zAF (zAU (zBB (r:=rSlL K) zB1 (pv 8) zBc (zA6 (pv 1))))))))))))),?_⟩
 generalize hL:Str.ofString "etaoinshrdlucmfwypvbgkqjxz" = L;have hLlen:L.cps.toList.length=26:=by rw[←hL];decide +kernel
 have hLl:L.length<=1000:=by rw[←hL];decide +kernel
 have hLn:L.cps.toList.Nodup:=by rw[←hL];decide +kernel
 have n0:=Int.emod_nonneg c (show (8:Int)≠0 by decide);have n1:=Int.emod_lt_of_pos c (show (0:Int)<8 by decide);refine⟨_,rfl,_,_,rfl,rfl,(show (0:Int)<8 by decide),_,_,rfl,rfl,?_⟩;refine⟨_,rfl,_,_,rfl,rfl,⟨(show (0:Int)<8 by decide),(show (8:Int)<1073741824 by decide)⟩,_,rfl,_,_,rfl,rfl,(show (0:Int)<1+c % 8 by omega),?_⟩;have a0:=Int.emod_nonneg (c / 8) (show 1+c % 8≠0 by omega);have a1:=Int.emod_lt_of_pos (c / 8) (show (0:Int)<1+c % 8 by omega);refine⟨_,rfl,_,_,rfl,rfl,⟨(show (0:Int)<64 by decide),(show (64:Int)<1073741824 by decide)⟩,_,_,rfl,rfl,⟨by decide,by decide,by decide⟩,_,_,rfl,rfl,(show (0:Int)<26 ^ 8 by decide),?_⟩;dsimp only;generalize c / 64 % 26 ^ (8:Int).toNat=rest0;obtain⟨pn,epn⟩:∃pn:Nat,(pn:Int)=c / 8 % (1+c % 8):=⟨(c / 8 % (1+c % 8)).toNat,by omega⟩;obtain⟨N,eN⟩:∃N:Nat,(N:Int)=1+c % 8:=⟨(1+c % 8).toNat,by omega⟩;rw[←epn,←eN];have hpN:pn<N:=by omega
 have hN8:N<=8:=by omega
 refine⟨(by show 0<=sizeLine;decide),λ sg hsg=>?_⟩;have g0:=zAD (o:=.lst []) hsg;have es0:(upd H sg (.lst [])) sg=some (.lst []):=zAB;show tSeq _ _ _ _ (upd H sg (.lst []));generalize upd H sg (.lst [])=H0 at g0 es0 ⊢;refine⟨_,rfl,(N:Int),rfl,by omega,by omega,?_⟩;refine zGD (n:=((N:Nat):Int).toNat) (λ i σ' H'=>∃(rest:Int) (ns:List Nat) (s7:Option V),σ'=[some (.int c),some (.int 12),some (.str L),some (.int (N:Int)),some (.int (pn:Int)),some (.int rest),some (.ref sg),s7,none,none]/\Same H H'/\H' sg=some (.lst (numV ns))/\ns.length=i/\∀x∈ns,x<26) ⟨rest0,[],none,rfl,g0,es0,rfl,(λ x hx=>nomatch hx)⟩ ?_ ?_
 ·rintro i σ' H' hi ⟨rest,ns,s7,rfl,g,es,ln,hx⟩
  have hi':i<N:=by simpa using hi
  have m0:=Int.emod_nonneg rest (show (26:Int)≠0 by decide);have m1:=Int.emod_lt_of_pos rest (show (0:Int)<26 by decide);obtain⟨rn,ern⟩:∃rn:Nat,(rn:Int)=rest % 26:=⟨(rest % 26).toNat,by omega⟩;refine⟨_,rfl,.inl ⟨rfl,_,SqL.of es⟩,_,rfl,_,_,rfl,rfl,(show (0:Int)<26 by decide),sg,_,_,rfl,rfl,es,zAS (by unfold numV;rw[List.length_map];omega),?_⟩;refine⟨_,rfl,_,_,rfl,rfl,⟨(show (0:Int)<26 by decide),(show (26:Int)<1073741824 by decide)⟩,?_⟩;refine⟨_,ns++[rn],_,rfl,zAa g hsg,?_,by simp[ln],λ x hx'=>?_⟩
  ·rw[zAB]
   unfold numV;rw[List.map_append];show some (HO.lst (_++[V.int (rest % 26)]))=_;rw[←ern];rfl
  ·rcases lK.mp hx' with h|h
   ·exact hx x h
   ·rw[List.mem_singleton.mp h];omega
 rintro σ' H1 ⟨rest,ns,s7,rfl,g1,es1,ln,hx⟩;have ln':ns.length=N:=by rw[ln];simp
 refine⟨(by show 0<=sizeLine;decide),λ wo hwo=>?_⟩;have g2:=zAD (o:=.lst []) hwo;have ew0:(upd H1 wo (.lst [])) wo=some (.lst []):=zAB;have es2:=g2 _ _ es1;have hwoH:H wo=none:=g1.free hwo;have nsw:sg≠wo:=λ z=>by rw[←z,es1] at hwo;cases hwo
 show tSeq _ _ _ _ (upd H1 wo (.lst []));generalize upd H1 wo (.lst [])=H2 at g2 ew0 es2 ⊢;obtain⟨s0,es00⟩:∃s0,ns[pn]?=some s0:=⟨_,lW (by omega)⟩;have hs0:s0<26:=hx s0 (lM es00)
 have hset:ns.set pn ((s0+0) % 26)=ns:=by
  rw[Nat.add_zero,Nat.mod_eq_of_lt hs0];apply List.ext_getElem?;intro j;rw[List.getElem?_set]
  by_cases e:pn=j
  ·subst e
   rw[if_pos rfl,if_pos (by omega),es00]
  ·rw[if_neg e]
 refine⟨26,rfl,by decide,by decide,?_⟩;refine zGD (n:=(26:Int).toNat) (λ i σ' H'=>∃(s7 s9:Option V),σ'=[some (.int c),some (.int 12),some (.str L),some (.int (N:Int)),some (.int (pn:Int)),some (.int rest),some (.ref sg),s7,some (.ref wo),s9]/\Same H H'/\H' sg=some (.lst (numV (ns.set pn ((s0+i) % 26))))/\H' wo=some (.lst ((((List.range i).map (zB7 L ns pn s0)).filter λ x=>!kept11.contains x).map V.str))) ?_ ?_ ?_
 ·exact⟨_,none,rfl,g1.trans g2,by rw[hset];exact es2,ew0⟩
 ·rintro i σ' H' hi ⟨s7,s9,rfl,g,es,ew⟩
  have hi26:i<26:=by simpa using hi
  obtain⟨vv,evv⟩:∃vv,vv=(s0+i) % 26:=⟨_,rfl⟩;rw[←evv] at es
  have atp:atI (numV (ns.set pn vv)) (pn:Int)=some (.int (vv:Int)):=by
   refine zAZ ?_;unfold numV;rw[List.getElem?_map,List.getElem?_set_self (by omega)];rfl
  have lset:(numV (ns.set pn vv)).length=N:=by unfold numV;rw[List.length_map,List.length_set,ln']
  have hix:ixN (numV (ns.set pn vv)).length (pn:Int)=some pn:=by
   rw[lset];unfold ixN;rw[if_pos (by omega),if_pos (by omega)];simp
  have enew:((vv:Int)+1) % 26=(((s0+(i+1)) % 26:Nat):Int):=by omega
  refine⟨_,rfl,_,rfl,sg,_,_,_,rfl,rfl,SqL.of es,atp,_,_,rfl,rfl,_,_,rfl,rfl,(show (0:Int)<26 by decide),_,rfl,_,rfl,sg,_,_,pn,rfl,rfl,es,hix,?_⟩;obtain⟨ms,ems⟩:∃ms,ms=ns.set pn ((s0+(i+1)) % 26):=⟨_,rfl⟩;have eset:(numV (ns.set pn vv)).set pn (.int (((vv:Int)+1) % 26))=numV ms:=by rw[enew,zKc,List.set_set,ems]
  show tSeq _ _ _ _ (upd H' sg (.lst ((numV (ns.set pn vv)).set pn (.int (((vv:Int)+1) % 26)))));rw[eset];have g3:Same H (upd H' sg (.lst (numV ms))):=zAa g hsg;have es3:(upd H' sg (.lst (numV ms))) sg=some (.lst (numV ms)):=zAB;have ew3:(upd H' sg (.lst (numV ms))) wo=some (.lst ((((List.range i).map (zB7 L ns pn s0)).filter λ x=>!kept11.contains x).map V.str)):=by rw[zAL (Ne.symm nsw)];exact ew
  generalize upd H' sg (.lst (numV ms))=H3 at g3 es3 ew3 ⊢;have lms:ms.length=N:=by rw[ems,List.length_set,ln']
  have hms:∀x∈ms,x<26:=λ x hx'=>by
   rw[ems] at hx';rcases List.mem_or_eq_of_mem_set hx' with h|h
   ·exact hx x h
   ·omega
  refine⟨rfl,_,rfl,sg,rfl,⟨_,SqL.of es3⟩,λ acc hacc=>?_⟩;refine zDg (xs:=numV ms) (λ j H'=>Same H3 H'/\H' acc=some (.lst (((ms.take j).map λ n=>(⟨#[ltD L n]⟩:Str)).map V.str))) ⟨zAD hacc,zAB⟩ (λ j H' Ω h=>SqL.of (h.1 _ _ es3)) ?_ ?_
  ·rintro j x Hx hxj ⟨gx,ex⟩
   obtain⟨n,hn,rfl⟩:∃n,ms[j]?=some n/\x=V.int (n:Int):=by
    unfold numV at hxj;rw[List.getElem?_map] at hxj;obtain⟨n,h1,h2⟩:=lV.mp hxj;exact⟨n,h1,h2.symm⟩
   have hj:j<ms.length:=(lJ.mp hn).1;have hn26:=hms n (lM hn)
   have atl:atI L.cps.toList (n:Int)=some (ltD L n):=by
    refine zAZ ?_;unfold ltD;rw[List.getD_eq_getElem?_getD,List.getElem?_eq_getElem (by omega)];rfl
   refine⟨.skip (.keep .nil),_,rfl,_,rfl,L,_,_,rfl,rfl,zA3 hLl,atl,_,ex,zAS (by simp;omega),zAa gx hacc,?_⟩;rw[zAB,zAV hn,List.map_append,List.map_append];rfl
  rintro H4 ⟨g4,e4⟩;have lnm:(numV ms).length=ms.length:=by unfold numV;rw[List.length_map]
  rw[lnm,List.take_length] at e4;have eys:(ms.map λ n=>(⟨#[ltD L n]⟩:Str))=(ms.map (ltD L)).map λ c=>(⟨#[c]⟩:Str):=by rw[List.map_map];rfl
  have eW:∀z:Str,z.cps=#[]->Txt.join z (ms.map λ n=>(⟨#[ltD L n]⟩:Str))=zB7 L ns pn s0 i:=λ z hz=>by
   have h1:=zIQ hz (ms.map (ltD L));rw[←eys] at h1;unfold zB7;rw[show s0+i+1=s0+(i+1) by omega,←ems,←h1]
  have hsum:((ms.map λ n=>(⟨#[ltD L n]⟩:Str)).map (·.length)).sum+(ms.map λ n=>(⟨#[ltD L n]⟩:Str)).length<=1048576:=by
   have key:∀l:List Nat,((l.map λ n=>(⟨#[ltD L n]⟩:Str)).map (·.length)).sum=l.length:=by
    intro l
    induction l with
    |nil=>rfl
    |cons a l ih =>
     rw[List.map_cons,List.map_cons,List.sum_cons,ih,List.length_cons];show 1+l.length=_;omega
   rw[key,List.length_map];omega
  refine⟨_,acc,_,rfl,rfl,e4,by decide +kernel,hsum,?_⟩;rw[eW _ (by decide +kernel)];generalize hwd:zB7 L ns pn s0 i=wd0;have g34:=g3.trans g4;have es4:=g4 _ _ es3;have ew4:=g4 _ _ ew3;refine⟨_,rfl,(by show 11<=sizeLine;decide),λ pt hpt=>⟨pt,kept11.map V.str,rfl,.inr (SqT.of zAB),rfl,rfl,_,rfl,?_⟩⟩;have k5:=zAD (o:=.tup (kept11.map V.str)) hpt;have es5:=k5 _ _ es4;have ew5:=k5 _ _ ew4;have hcon:(kept11.contains wd0=true)↔inV (.str wd0) (kept11.map V.str)=true:=by rw[zJY,List.contains_iff_mem]
  have hrange:((List.range (i+1)).map (zB7 L ns pn s0)).filter (λ x=>!kept11.contains x)=(((List.range i).map (zB7 L ns pn s0)).filter λ x=>!kept11.contains x)++(if kept11.contains wd0=true then [] else [wd0]):=by
   rw[List.range_succ,List.map_append,List.filter_append,List.map_cons,List.map_nil,hwd];congr 1
   by_cases h:kept11.contains wd0=true
   ·rw[if_pos h,List.filter_cons_of_neg (by rw[h];decide)]
    rfl
   ·have h':kept11.contains wd0=false:=by
     cases e:kept11.contains wd0 with
     |true=>exact absurd e h
     |false=>rfl
    rw[if_neg h,List.filter_cons_of_pos (by rw[h'];rfl)];rfl
  refine ite2 (λ c1=>?_) (λ c1=>?_)
  ·have nc:¬kept11.contains wd0=true:=λ z=>by
    rw[hcon.mp z] at c1;cases c1
   have lfl:((((List.range i).map (zB7 L ns pn s0)).filter λ x=>!kept11.contains x).map V.str).length<=i:=by
    rw[List.length_map];have:=List.length_filter_le (λ x=>!kept11.contains x) ((List.range i).map (zB7 L ns pn s0));simpa using this
   refine⟨_,rfl,.inl ⟨rfl,_,SqL.of ew5⟩,_,rfl,wo,_,_,rfl,rfl,ew5,zAS (by omega),?_⟩;refine⟨_,_,rfl,zAa (g34.trans k5) hwoH,by rw[zAL nsw,←ems];exact es5,?_⟩;rw[zAB,hrange,if_neg nc,List.map_append];rfl
  ·have yc:kept11.contains wd0=true:=by
    refine hcon.mpr ?_;cases h:inV (.str wd0) (kept11.map V.str) with
    |true=>rfl
    |false=>exact absurd (by rw[h];rfl) c1
   refine⟨_,_,rfl,g34.trans k5,by rw[←ems];exact es5,?_⟩;rw[hrange,if_pos yc,List.append_nil];exact ew5
 ·rintro σ' H' ⟨s7,s9,rfl,g,es,ew⟩
  obtain⟨all,eall⟩:∃all,all=(List.range 26).map (zB7 L ns pn s0):=⟨_,rfl⟩;have hall:H' wo=some (.lst ((all.filter λ x=>!kept11.contains x).map V.str)):=by rw[eall];exact ew
  have nda:all.Nodup:=by
   rw[eall];refine List.pairwise_map.mpr ?_;refine List.Pairwise.imp_of_mem ?_ List.nodup_range;intro a b ha hb hab e;exact hab (zJ0 hLlen hLn (by omega) (List.mem_range.mp ha) (List.mem_range.mp hb) e)
  have la:all.length=26:=by rw[eall];simp
  have h15:12<=(all.filter λ x=>!kept11.contains x).length:=by
   have h1:=zDy (λ x=>kept11.contains x) all
   have h2:=zCp (T:=kept11) (nda.filter (λ x=>kept11.contains x)) λ g hg=>by
    have:=(List.mem_filter.mp hg).2;exact List.contains_iff_mem.mp this
   have h3:kept11.length=11:=rfl;omega
  refine⟨_,rfl,_,rfl,12,rfl,wo,_,rfl,SqL.of hall,λ p hp=>?_⟩
  have ecut:cutV ((all.filter λ x=>!kept11.contains x).map V.str) none (some 12)=((all.filter λ x=>!kept11.contains x).take 12).map V.str:=by
   have e:HT.sIx ((all.filter λ x=>!kept11.contains x).map V.str).length 0 none=0:=rfl;have e2:=HT.sIx_nat ((all.filter λ x=>!kept11.contains x).map V.str).length ((all.filter λ x=>!kept11.contains x).map V.str).length 12;rw[show ((12:Nat):Int)=12 from rfl] at e2;unfold cutV;rw[e,e2,List.length_map,Nat.min_eq_left h15];simp
  rw[ecut];refine q p _ ((all.filter λ x=>!kept11.contains x).take 12) (g.trans (zAD hp)) zAB (by rw[List.length_take];omega) ((nda.filter _).take) (λ x hx=>?_);have hx':=(List.mem_filter.mp (List.mem_of_mem_take hx)).1;rw[eall] at hx';obtain⟨i,_,rfl⟩:=mC.mp hx';show ((ns.set pn ((s0+i+1) % 26)).map (ltD L)).toArray.size<=8;simp;omega
abbrev zCz:Stmt:=top 22
theorem zDn:zAR ["one", "other", "pairs", "pair"] ["one", "other", "pairs"] (zAG zCz):=⟨rfl,rfl,rfl,by decide +kernel,rfl,by decide +kernel,by decide +kernel⟩
abbrev zB5:Stmt:=top 23
theorem zD8:zAR ["one", "other", "pairs"] ["one", "other", "pairs"] (zAG zB5):=⟨rfl,rfl,rfl,by decide +kernel,rfl,by decide +kernel,by decide +kernel⟩
abbrev zCJ:Stmt:=top 25
theorem zEf:zAR ["one", "other", "pairs"] ["one", "other", "pairs"] (zAG zCJ):=⟨rfl,rfl,rfl,by decide +kernel,rfl,by decide +kernel,by decide +kernel⟩
abbrev zDT:Stmt:=top 26
theorem zGg:zAR ["one", "other", "number", "pairs"] ["one", "other", "number", "pairs"] (zAG zDT):=⟨rfl,rfl,rfl,by decide +kernel,rfl,by decide +kernel,by decide +kernel⟩
noncomputable def zHF (K:W.Frag):Sp:=λ vs H Q Ω=>∃(x:Str) (b:Addr),vs=[.str x,.str x,.ref b]/\SqT K H b []/\Q (.bl true) H
theorem zKM {k:Nat}{f:Addr}{fd:FuncData}(F:Fun K "same_name" "same_name" zCz f fd) (z_reversed:mg "reversed" = none):FnOk P w K mg base CX0 (k+1) f fd ["one", "other", "pairs"] (zHF K):=by
 refine F.ok zDn (λ vs H Q E h=>?_) (λ cdv A outer s H vs Q E hr h=>?_)
 ·obtain⟨x,b,rfl,_⟩:=h
  rfl
 obtain⟨x,b,rfl,hb,q⟩:=h;have hu5:=hu150 hr
 refine⟨_,(zAE (zAn PassesOwn.never rfl (zLc (by rfl) z_reversed (zAA (pv 2) zAC)) (zAN (i:=3) zDn.nd rfl (Or.inl rfl)) (zAF (ps_if (pw_or (zAP op_eq (iC (r:=rIxT K) zAW (pv 3)) (pv 0) (zAb _)) (zEE (zAP op_eq (iC (r:=rIxT K) zAW (pv 3)) (pv 1) (zAb _)))).pt (zAF (zAU (zCN (zLA hu5) (pv 3) (zA8 (zAA (pv 0) (zAA (pv 1) zAC)):PE _ _ _) (zAb _)))) zAO)))
  (zAF (zAU (zCN op_eq (pv 0) (pv 1) (zAb _))))),?_⟩
 refine⟨_,rfl,b,rfl,[],hb,?_⟩;refine zLx (xs:=[]) (λ i σ' H'=>σ'=[some (.str x),some (.str x),some (.ref b),none]/\H'=H) ⟨rfl,rfl⟩ ?_ ?_ ?_
 ·rintro i σ1 H1 _ ⟨rfl,rfl⟩
  exact hb
 ·rintro i v σ1 H1 hi hx _
  cases hi
 ·rintro σ1 H1 ⟨rfl,rfl⟩
  refine⟨_,rfl,_,rfl,rfl,?_⟩;rw[decide_eq_true rfl];exact q
noncomputable def zEo (K:W.Frag):Sp:=λ vs H Q Ω=>∃(t:Tr) (v1 v2:V) (b:Addr),vs=[v1,v2,.ref b]/\Rep H t v1/\Rep H t v2/\t.kd.leaf=true/\¬t.kd = .gap/\SqT K H b []/\Q (.bl true) H
theorem zID {k:Nat}{f g1:Addr}{fd gd1:FuncData}(F:Fun K "alike_leaves" "alike_leaves" zB5 f fd) (zNB:FnB P w K mg base k "same_name" g1 gd1 ["one", "other", "pairs"] (zHF K)):FnOk P w K mg base CX0 (k+1) f fd ["one", "other", "pairs"] (zEo K):=by
 refine F.ok zD8 (λ vs H Q E h=>?_) (λ cdv A outer s H vs Q E hr h=>?_)
 ·obtain⟨t,v1,v2,b,rfl,_⟩:=h
  rfl
 obtain⟨t,v1,v2,b,rfl,r1,r2,hl,hg,hb,q⟩:=h;have hu5:=hu150 hr
 refine⟨_,(zAE (ps_if (zFx (zAP op_eq (iC (r:=rIxT K) zAW (pv 0)) zAY (zAb _)) (zEF (zAP op_eq (iC (r:=rIxT K) zAW (pv 1)) zAY (zAb _)))).pt (zAF (zAU (pe_cl zNB hr (zAA (iC (r:=rIxT K) zAW (pv 0)) (zAA (iC (r:=rIxT K) zAW (pv 1)) (zAA (pv 2) zAC)))))) zAO)
  (zAF (zAU (zCN (zLA hu5) (pv 0) (pv 1) (zAb _))))),?_⟩
 have r10:=r1;have r20:=r2;obtain⟨d1,ds,e1,dr1,dd,h2⟩:=r1.drl hl hg;obtain⟨d2,e2,dr2⟩:=h2 v2 r2;obtain⟨a1,hs1,us1,rfl,ha1,_,_⟩:=r1.all;obtain⟨a2,hs2,us2,rfl,ha2,_,_⟩:=r2.all;have x1:a1=d1:=by cases e1;rfl
 have x2:a2=d2:=by cases e2;rfl
 subst x1 x2;have at1:atI (V.str t.kd.s::hs1++us1) 0=some (.str t.kd.s):=zAZ (j:=0) rfl;have at2:atI (V.str t.kd.s::hs2++us2) 0=some (.str t.kd.s):=zAZ (j:=0) rfl;have fin:∃ds es,DR H (.tup ds) (.ref a1)/\DR H (.tup es) (.ref a2)/\(Dt.tup ds).deep<=150/\Q (.bl (if false=true then !Dt.beqs ds es else Dt.beqs ds es)) H:=⟨ds,ds,dr1,dr2,dd,by rw[if_neg Bool.false_ne_true,Dt.beqs_iff.mpr rfl];exact q⟩;refine⟨_,rfl,a1,_,0,_,rfl,rfl,SqT.of ha1,at1,rfl,_,rfl,ite2 (λ c=>?_) (λ c=>?_)⟩
 ·refine⟨_,rfl,a2,_,0,_,rfl,rfl,SqT.of ha2,at2,rfl,_,rfl,ite2 (λ c2=>?_) (λ c2=>?_)⟩
  ·have z:t.kd = .name:=Kd.eq_iff.mp (lS c)
   cases t with
   |name x =>
    obtain⟨b1,e1,k1⟩:=r10;obtain⟨b2,e2,k2⟩:=r20;cases e1;cases e2;exact⟨_,rfl,a1,_,1,_,rfl,rfl,SqT.of k1,rfl,_,rfl,a2,_,1,_,rfl,rfl,SqT.of k2,rfl,_,rfl,x,b,rfl,hb,q⟩
   |bin o a b=>cases o<;>cases z
   |_=>cases z
  ·exact⟨_,rfl,_,rfl,fin⟩
 ·exact iteF ⟨_,rfl,_,rfl,fin⟩
noncomputable def zFA (K:W.Frag):Sp:=λ vs H Q Ω=>∃(t:Tr) (qs:List Tr) (v1 v2:V) (b:Addr),vs=[v1,v2,.ref b]/\Rep H t v1/\Rep H (t.withP qs) v2/\qs.length=t.parts.length/\¬t.kd = .gap/\SqT K H b []/\Q (.bl true) H
theorem zKX {k:Nat}{f g1 lv:Addr}{fd gd1:FuncData}(F:Fun K "alike_heads" "alike_heads" zCJ f fd) (zMk:mg "LEAF_SIGNS" = some (.ref lv)) (hL:zEb K lv) (zNC:FnB P w K mg base k "alike_leaves" g1 gd1 ["one", "other", "pairs"] (zEo K)):FnOk P w K mg base CX0 (k+1) f fd ["one", "other", "pairs"] (zFA K):=by
 refine F.ok zEf (λ vs H Q E h=>?_) (λ cdv A outer s H vs Q E hr h=>?_)
 ·obtain⟨t,qs,v1,v2,b,rfl,_⟩:=h
  rfl
 obtain⟨t,qs,v1,v2,b,rfl,r1,r2,hq,hg,hb,q⟩:=h
 refine⟨_,(zAE (ps_if (zAP op_ne (iC (r:=rIxT K) zAW (pv 0)) (iC (r:=rIxT K) zAW (pv 1)) (zAb _)) (zAF (zAU pe_bl)) zAO)
  (zAE (ps_if (zAP op_eq (iC (r:=rIxT K) zAW (pv 0)) zAY (zAb _)) zBr zAO)
  (zAF (zAU (pe_or (zCN (r:=rIn K true) zDr (iC (r:=rIxT K) zAW (pv 0)) (zGr (v:=.ref _) (by rfl) zMk (by rfl)) rfl) (zDq (pe_cl zNC hr (zAA (pv 0) (zAA (pv 1) (zAA (pv 2) zAC)))))))))),?_⟩
 have r10:=r1;have r20:=r2;obtain⟨a1,hs1,us1,rfl,ha1,_,_⟩:=r1.all;obtain⟨a2,hs2,us2,rfl,ha2,_,_⟩:=r2.all;have at1:atI (V.str t.kd.s::hs1++us1) 0=some (.str t.kd.s):=zAZ (j:=0) rfl
 have at2:atI (V.str (t.withP qs).kd.s::hs2++us2) 0=some (.str t.kd.s):=by
  rw[zJ1 hq];exact zAZ (j:=0) rfl
 refine⟨_,rfl,a1,_,0,_,rfl,rfl,SqT.of ha1,at1,_,rfl,a2,_,0,_,rfl,rfl,SqT.of ha2,at2,rfl,_,rfl,ite2 (λ c=>?_) (λ Ω=>?_)⟩
 ·rw[decide_eq_true rfl] at c
  cases c
 refine⟨_,rfl,a1,_,0,_,rfl,rfl,SqT.of ha1,at1,rfl,_,rfl,ite2 (λ c=>?_) (λ Ω=>?_)⟩
 ·exact absurd (Kd.eq_iff.mp (lS c)) hg
 refine⟨_,rfl,a1,_,0,_,rfl,rfl,SqT.of ha1,at1,lv,zEq,rfl,.inr (.inr hL),rfl,rfl,_,rfl,?_⟩;show if (!inV (.str t.kd.s) zEq)=true then _ else _
 rw[zHh];refine ite2 (λ e=>?_) (λ e=>?_)
 ·exact q
 ·have hlf:t.kd.leaf=true:=by simpa using e
  have eq:t.withP qs=t:=by
   rw[zE0 hlf] at hq;rw[List.length_eq_zero_iff.mp hq]
   conv=>rhs;rw[←zCa t]
   rw[zE0 hlf]
  rw[eq] at r20;exact⟨_,rfl,_,rfl,_,rfl,t,_,_,b,rfl,r10,r20,hlf,hg,hb,q⟩
noncomputable def zIk:Sp:=λ vs H Q Ω=>∃(t:Tr) (v1 v2:V) (n:Int) (b:Addr),vs=[v1,v2,.int n,.ref b]/\Rep H t v1/\¬t.kd = .lett/\Q (.ref b) H
theorem zMS {k:Nat}{f:Addr}{fd:FuncData}(F:Fun K "pairs_in" "pairs_in" zDT f fd):FnOk P w K mg base CX0 (k+1) f fd ["one", "other", "number", "pairs"] zIk:=by
 refine F.ok zGg (λ vs H Q E h=>?_) (λ cdv A outer s H vs Q E hr h=>?_)
 ·obtain⟨t,v1,v2,n,b,rfl,_⟩:=h
  rfl
 obtain⟨t,v1,v2,n,b,rfl,r1,hl,q⟩:=h
 refine⟨_,(zAE (ps_if (zFx (zAP op_eq (iC (r:=rIxT K) zAW (pv 0)) zAY (zAb _)) (zEF (zAP op_eq (pv 2) zAJ (zAb _)))).pt zBr zAO)
  (zAF (zAU (pv 3)))),?_⟩
 obtain⟨a1,hs1,us1,rfl,ha1,_,_⟩:=r1.all;have at1:atI (V.str t.kd.s::hs1++us1) 0=some (.str t.kd.s):=zAZ (j:=0) rfl;refine⟨_,rfl,a1,_,0,_,rfl,rfl,SqT.of ha1,at1,rfl,_,rfl,ite2 (λ c=>?_) (λ Ω=>?_)⟩
 ·exact absurd (Kd.eq_iff.mp (lS c)) hl
 exact iteF ⟨_,rfl,q⟩
abbrev zGk:Stmt:=top 27
theorem zBg:zAR ["one", "other", "level", "deeper", "mine", "its", "pairs", "number", "both"] ["one", "other"] (zAG zGk):=⟨rfl,rfl,rfl,by decide +kernel,rfl,by decide +kernel,by decide +kernel⟩
noncomputable def zHN:Sp:=λ vs H Q Ω=>∃(t:Tr) (v1 v2:V) (ws:List Str),vs=[v1,v2]/\Rep H t v1/\Rep H t v2/\PcT ws t/\t.size<=100/\∀H',Same H H'->Q (.bl true) H'
theorem zKa {k:Nat}{f g1 g2 g3:Addr}{fd gd1 gd2 gd3:FuncData}(F:Fun K "alike" "alike" zGk f fd) (z_enumerate:mg "enumerate" = none) (z_zip:mg "zip" = none)
  (zND:FnB P w K mg base k "alike_heads" g1 gd1 ["one", "other", "pairs"] (zFA K)) (zMm:FnB P w K mg base k "parts" g2 gd2 ["tree"] zBe) (zNE:FnB P w K mg base k "pairs_in" g3 gd3 ["one", "other", "number", "pairs"] zIk):FnOk P w K mg base CX0 (k+1) f fd ["one", "other"] zHN:=by
 refine F.ok zBg (λ vs H Q E h=>?_) (λ cdv A outer s H vs Q E hr h=>?_)
 ·obtain⟨t,v1,v2,ws,rfl,_⟩:=h
  rfl
 obtain⟨t,v1,v2,ws,rfl,hR,hS,hP,hsz,q⟩:=h
 refine⟨_,(zAE (zAX (i:=2) zBg.nd rfl (Or.inl rfl) (zA1 (zAA (zA8 (zAA (pv 0) (zAA (pv 1) (zAA (zA8 zAC:PE _ _ _) zAC))):PE _ _ _) zAC):PE _ _ _))
  (zAE (zDE PassesOwn.never (zBw (pv 2) (λ Ω=>rfl)) (zAE (zAX (i:=3) zBg.nd rfl (Or.inl rfl) (zA1 zAC:PE _ _ _))
  (zAE (zAn PassesOwn.never rfl (zA7 (pv 2)) (zBz rfl (zAc (zAN (i:=4) zBg.nd rfl (Or.inl rfl)) (zAc (zAN (i:=5) zBg.nd rfl (Or.inl rfl)) (zAc (zAN (i:=6) zBg.nd rfl (Or.inl rfl)) zBJ)))) (zAE (ps_if (zCQ (zBq (pe_cl zND hr (zAA (pv 4) (zAA (pv 5) (zAA (pv 6) zAC)))))) (zAF (zAU pe_bl)) zAO)
  (zAF (zAn PassesOwn.never rfl (zEt (by rfl) z_enumerate (by rfl) z_zip (zAA (pe_cl zMm hr (zAA (pv 4) zAC)) (zAA (pe_cl zMm hr (zAA (pv 5) zAC)) zAC))) (zBz rfl (zAc (zAN (i:=7) zBg.nd rfl (Or.inl rfl)) (zAc (zAN (i:=8) zBg.nd rfl (Or.inl rfl)) zBJ))) (zAF (zAw (pe_bm PySem.F.plainAttrs_list PySem.F.slot_list_append PySem.F.type_list_append zAt (pv 3) (zAA (zA8 (zAA (iC (r:=rIxT K) zAW (pv 8)) (zAA (iC (r:=rIxT K) zAW (pv 8)) (zAA (pe_cl zNE hr (zAA (pv 4) (zAA (pv 5) (zAA (pv 7) (zAA (pv 6) zAC))))) zAC))):PE _ _ _) zAC))))))))
  (zAF (zAX (i:=2) zBg.nd rfl (Or.inl rfl) (pv 3))))))
  (zAF (zAU pe_bl)))),?_⟩
 refine⟨_,rfl,_,rfl,(by show 0<=sizeLine;decide),λ e he=>?_⟩;have g2:=zAD (o:=.tup []) he;have ee:(upd H e (.tup [])) e=some (.tup []):=zAB;generalize upd H e (.tup [])=H0 at g2 ee ⊢;refine⟨(by show 3<=sizeLine;decide),λ pr hpr=>⟨(by show 1<=sizeLine;decide),λ l hl=>?_⟩⟩;have g3:=zAD (o:=.tup [v1,v2,.ref e]) hpr;have g4:=zAD (o:=.lst [.ref pr]) hl;have g34:=g3.trans g4;have hlH:H0 l=none:=g3.free hl
 refine⟨λ m σ' H'=>∃(l:Addr) (ps:List V) (lev:List Tr) (s3 s4 s5 s6 s7 s8:Option V),σ'=[some v1,some v2,some (.ref l),s3,s4,s5,s6,s7,s8]/\Same H0 H'/\H0 l=none/\H' l=some (.lst ps)/\Paired (Two e H') lev ps/\m=sumS lev/\sumS lev<=100/\(∀q∈lev,PcT ws q),
  ⟨t.size,l,_,[t],none,none,none,none,none,none,rfl,g34,hlH,zAB,.cons ⟨pr,v1,v2,rfl,g4 _ _ zAB,(hR.mono g2.tk).mono g34.tk,(hS.mono g2.tk).mono g34.tk⟩ .nil,by simp[sumS],by simpa[sumS] using hsz,by simpa using hP⟩,?_⟩
 rintro m σ' Hw ⟨l,ps,lev,s3,s4,s5,s6,s7,s8,rfl,gw,hl,el,hp,rfl,htot,hpc⟩;refine⟨_,rfl,_,.inl ⟨ps,SqL.of el,rfl⟩,?_⟩;refine ite2 (λ c=>?_) (λ c=>?_)
 ·refine⟨_,λ Ω Ω h=>h,(by show 0<=sizeLine;decide),λ dp hdp=>⟨_,rfl,l,rfl,⟨ps,SqL.of (zAD hdp _ _ el)⟩,?_⟩⟩
  have gd:=zAD (o:=.lst []) hdp;have hdpH:H0 dp=none:=gw.free hdp;have ndl:dp≠l:=Ne.symm (zAK el hdp)
  refine zA4 (xs:=ps) (λ i σ' H'=>∃(dps:List V) (s4 s5 s6 s7 s8:Option V),σ'=[some v1,some v2,some (.ref l),some (.ref dp),s4,s5,s6,s7,s8]/\Same H0 H'/\Tk Hw H'/\H' l=some (.lst ps)/\H' dp=some (.lst dps) /\
   Paired (Two e H') ((lev.take i).flatMap Tr.parts) dps) ?_ ?_ ?_ ?_
  ·exact⟨[],s4,s5,s6,s7,s8,rfl,gw.trans gd,gd.tk,gd _ _ el,zAB,.nil⟩
  ·rintro i σ1 H1 _ ⟨dps,s4,s5,s6,s7,s8,rfl,g1,k1,el1,edp1,hp1⟩
   exact SqL.of el1
  ·rintro i x σ1 H1 hx ⟨dps,s4,s5,s6,s7,s8,rfl,g1,k1,el1,edp1,hp1⟩
   obtain⟨tq,eq,rq⟩:=zAQ hp hx;have hmem:tq∈lev:=lM eq;have hpq:=hpc tq hmem;obtain⟨a,u1,w1,rfl,ha,ru,rw1⟩:=rq.mono k1;refine⟨a,_,rfl,SqT.of ha,rfl,_,_,rfl,_,_,rfl,_,_,rfl,rfl,?_⟩;have rwp:Rep H1 (tq.withP tq.parts) w1:=by rw[zCa];exact rw1
   refine⟨_,rfl,_,rfl,_,rfl,tq,tq.parts,u1,w1,e,rfl,ru,rwp,rfl,hpq.ng,SqT.of (g1 _ _ ee),⟨true,rfl,iteF ?_⟩⟩;refine⟨_,rfl,tq,u1,rfl,ru,λ pt H3 us g3 e3 hus=>⟨_,rfl,tq,w1,rfl,rw1.mono g3.tk,λ pt2 H4 us2 g4 e4 hus2=>⟨pt,pt2,us,us2,rfl,g4 _ _ e3,e4,?_⟩⟩⟩;have g24:=g3.trans g4;have lus:=hus.length;have lus2:=hus2.length;have ru4:=ru.mono g24.tk
   refine zLF (xs:=us) (ys:=us2) (λ j σ' H'=>∃(dps':List V) (s7 s8:Option V),σ'=[some v1,some v2,some (.ref l),some (.ref dp),some u1,some w1,some (.ref e),s7,s8]/\Same H0 H'/\Tk H4 H' /\
     H' l=some (.lst ps)/\H' dp=some (.lst dps')/\Paired (Two e H') (((lev.take i).flatMap Tr.parts)++tq.parts.take j) dps') ?_ ?_ ?_ ?_
   ·exact⟨dps,s7,s8,rfl,g1.trans g24,.refl _,g24 _ _ el1,g24 _ _ edp1,by
     rw[List.take_zero,List.append_nil];exact Paired.mapP hp1 λ Ω Ω z=>z.mono g24.tk⟩
   ·rintro j σ3 H5 _ ⟨dps5,s7,s8,rfl,g5,k5,el5,edp5,hp5⟩
    exact⟨k5 _ _ (g4 _ _ e3),k5 _ _ e4⟩
   ·rintro j x y T U σ3 H5 hx hy ⟨dps5,s7,s8,rfl,g5,k5,el5,edp5,hp5⟩ hU hT
    have gU:=zAD (o:=.tup [x,y]) hU;have gT:=zAD (o:=.tup [.int j,.ref U]) hT;have gUT:=gU.trans gT;obtain⟨cx,ecx,rcx⟩:=zAQ hus hx;obtain⟨cy,ecy,rcy⟩:=zAQ hus2 hy;rw[ecx] at ecy;cases ecy;have hj:j<us.length:=(lJ.mp hx).1;refine⟨T,_,rfl,SqT.of zAB,rfl,_,_,rfl,_,_,rfl,rfl,?_⟩;have edp6:=gUT _ _ edp5;have hU6:(upd (upd H5 U (.tup [x,y])) T (.tup [.int j,.ref U])) U=some (.tup [x,y]):=gT _ _ zAB;refine⟨_,rfl,.inl ⟨rfl,_,SqL.of edp6⟩,_,rfl,U,_,0,_,rfl,rfl,SqT.of hU6,rfl,_,rfl,U,_,1,_,rfl,rfl,SqT.of hU6,rfl,_,rfl,_,rfl,_,rfl,_,rfl,tq,u1,w1,j,e,rfl,ru4.mono (k5.trans gUT.tk),hpq.nlt,⟨(by show 3<=sizeLine;decide),λ pr hpr=>?_⟩⟩;have gq:=zAD (o:=.tup [x,y,.ref e]) hpr;have gA:=gUT.trans gq;have edp7:=gA _ _ edp5
    have tot:dps5.length<=500:=by
     rw[←hp5.length,List.length_append,List.length_take];have l1:=zCc ((lev.take i).flatMap Tr.parts);have l2:=zDz (lev.take i);have l3:sumS (lev.take (i+1))<=sumS lev:=zIg lev _;rw[zAV eq,zCA,zCR] at l3;have l4:=zB8 tq;have l5:=zCc tq.parts;omega
    refine⟨dp,_,_,rfl,rfl,edp7,zAS (by omega),?_⟩;have kset:Tk H5 (upd (upd (upd (upd H5 U (.tup [x,y])) T (.tup [.int j,.ref U])) pr (.tup [x,y,.ref e])) dp (.lst (dps5++[.ref pr]))):=gA.tk.trans (Tk.lst edp7);refine⟨_,_,_,rfl,zAa (g5.trans gA) hdpH,k5.trans kset,by rw[zAL (Ne.symm ndl)];exact gA _ _ el5,zAB,?_⟩;rw[zAV ecx,←List.append_assoc];exact zAT (Paired.mapP hp5 λ Ω Ω z=>z.mono kset) (.cons ⟨pr,x,y,rfl,Tk.lst edp7 _ _ zAB,(rcx.mono g4.tk).mono (k5.trans kset),rcy.mono (k5.trans kset)⟩ .nil)
   ·rintro σ3 H5 ⟨dps5,s7,s8,rfl,g5,k5,el5,edp5,hp5⟩
    refine⟨dps5,some u1,some w1,some (.ref e),s7,s8,rfl,g5,k1.trans (g24.tk.trans k5),el5,edp5,?_⟩;rw[show min us.length us2.length=tq.parts.length by omega,List.take_length] at hp5;rw[zAV eq,List.flatMap_append];simpa using hp5
  ·rintro σ1 H1 ⟨dps,s4,s5,s6,s7,s8,rfl,g1,k1,el1,edp1,hp1⟩
   have hlen:ps.length=lev.length:=hp.length.symm;rw[hlen,List.take_length] at hp1
   have pos:0<lev.length:=by
    rw[←hlen];cases ps with
    |nil=>simp at c
    |cons _ _=>simp
   have lk:=zDz lev;refine⟨_,rfl,_,?_,dp,dps,_,some (.ref dp),s4,s5,s6,s7,s8,rfl,g1,hdpH,edp1,hp1,rfl,by omega,λ q' hq'=>?_⟩
   ·omega
   ·obtain⟨r,hr',hq''⟩:=List.mem_flatMap.mp hq'
    exact(hpc r hr').part hq''
 ·exact q _ (g2.trans gw)
abbrev zAr:Stmt:=top 44
theorem zCy:zAR ["tree", "kinds", "told", "part"] ["tree", "kinds"] (zAG zAr):=⟨rfl,rfl,rfl,by decide +kernel,rfl,by decide +kernel,by decide +kernel⟩
abbrev zC2:Stmt:=top 46
theorem zFt:zAR ["tree", "kinds"] ["tree", "kinds"] (zAG zC2):=⟨rfl,rfl,rfl,by decide +kernel,rfl,by decide +kernel,by decide +kernel⟩
abbrev zCV:Stmt:=top 47
theorem zFD:zAR ["tree", "kind", "kinds"] ["tree", "kind", "kinds"] (zAG zCV):=⟨rfl,rfl,rfl,by decide +kernel,rfl,by decide +kernel,by decide +kernel⟩
abbrev zBI:Stmt:=top 49
theorem zCs:zAR ["tree", "atoms", "pairs", "told"] ["tree", "atoms", "pairs"] (zAG zBI):=⟨rfl,rfl,rfl,by decide +kernel,rfl,by decide +kernel,by decide +kernel⟩
abbrev zCE:Stmt:=top 51
theorem zBE:zAR ["tree", "atoms", "pairs", "bound", "names", "number", "atom"] ["tree", "atoms", "pairs"] (zAG zCE):=⟨rfl,rfl,rfl,by decide +kernel,rfl,by decide +kernel,by decide +kernel⟩
abbrev zDR:Stmt:=top 52
theorem zGf:zAR ["gap", "tree", "pairs"] ["gap", "tree", "pairs"] (zAG zDR):=⟨rfl,rfl,rfl,by decide +kernel,rfl,by decide +kernel,by decide +kernel⟩
abbrev zCI:Stmt:=top 53
theorem zBW:zAR ["piece", "tree", "name"] ["piece"] (zAG zCI):=⟨rfl,rfl,rfl,by decide +kernel,rfl,by decide +kernel,by decide +kernel⟩
noncomputable def zHG (K:W.Frag):Sp:=λ vs H Q Ω=>∃(t:Tr) (v:V) (b:Addr),vs=[v,.ref b]/\Rep H t v/\t.size<=60/\SqT K H b []/\QuT t/\∀H',Same H H'->Q (.bl true) H'
theorem zKN {k:Nat}{f g1 la:Addr}{fd gd1:FuncData}(F:FunD K "is_quiet" "is_quiet" zAr f fd [.none]) (z_dict:mg "dict" = none) (zNF:mg "LOUD_SIGNS" = some (.ref la)) (hL:zGW K la) (zMu:FnB P w K mg base k "all_parts" g1 gd1 ["tree"] zIm):FnOk P w K mg base CX0 (k+1) f fd ["tree", "kinds"] (zHG K):=by
 refine F.ok zCy (λ vs H Q E h=>?_) (λ cdv A outer s H vs Q E hr h=>?_)
 ·obtain⟨t,v,b,rfl,_⟩:=h
  rfl
 obtain⟨t,v,b,rfl,hR,hsz,hb,hQ,q⟩:=h;have hu:=hu_of hr
 refine⟨_,(zAE (zAX (i:=2) zCy.nd rfl (Or.inl rfl) (zBb (zDk rfl) (by rfl) z_dict PyProof.Rows.boot_dict (zAA (zK5 (pv 1) (zDq (zGp zAC))) zAC)))
  (zAE (zAn PassesOwn.never rfl (zA7 (pe_cl zMu hr (zAA (pv 0) zAC))) (zAN (i:=3) zCy.nd rfl (Or.inl rfl)) (zAF (ps_if (pw_or (zAP (r:=rIn K false) zF7 (iC (r:=rIxT K) zAW (pv 3)) (zGr (v:=.ref _) (by rfl) zNF (by rfl)) rfl) (zEE (zFx (zAP op_eq (iC (r:=rIxT K) zAW (pv 3)) zAY (zAb _)) (zEF (zAP (zF6 hu) (iC (r:=rIxT K) zAW (pv 3)) (pv 2) rfl))).pt)).pt (zAF (zAU pe_bl)) zAO)))
  (zAF (zAU pe_bl)))),?_⟩
 refine⟨_,rfl,false,.inr (.inl ⟨[],hb,rfl⟩),iteF ⟨lY _,λ p o hp ho=>?_⟩⟩;refine⟨p,o,[],[],rfl,zAB,ho,.nil,lY _,λ d hd=>?_⟩;have g1:=(zAD (o:=.frz o (.tup [])) hp).trans (zAD (o:=.dK (zAu [] [])) hd);refine⟨_,rfl,t,v,rfl,hR.mono g1.tk,hsz,λ l us F H2 g2 el pF hF=>⟨l,rfl,⟨us,SqL.of el⟩,?_⟩⟩;have g12:=g1.trans g2;refine zA4 (xs:=us) (λ i σ' H'=>∃(s3:Option V),σ'=[some v,some (.ref b),some (.ref d),s3]/\Same H2 H') ⟨none,rfl,.refl _⟩ ?_ ?_ ?_
 ·rintro i σ' H' _ ⟨s3,rfl,g⟩
  exact SqL.of (g _ _ el)
 ·rintro i x σ' H' hx ⟨s3,rfl,g⟩
  obtain⟨tq,eq,rq⟩:=zAQ pF hx;have hmem:tq∈t.subs:=hF.mem_iff.mp (lM eq);obtain⟨q1,q2⟩:=hQ tq hmem;obtain⟨pa,hs,us',rfl,hpa,hhl,hparts⟩:=(rq.mono g.tk).all;have at0:atI (V.str tq.kd.s::hs++us') 0=some (.str tq.kd.s):=zAZ (j:=0) rfl;refine⟨_,rfl,pa,_,0,_,rfl,rfl,SqT.of hpa,at0,la,loudV,rfl,.inr (.inr hL),rfl,rfl,_,rfl,?_⟩;show if inV (.str tq.kd.s) loudV=true then _ else _
  rw[zLv,q1];refine iteF ?_;refine⟨_,rfl,pa,_,0,_,rfl,rfl,SqT.of hpa,at0,rfl,_,rfl,ite2 (λ c2=>?_) (λ c2=>?_)⟩
  ·exact absurd (Kd.eq_iff.mp (lS c2)) q2
  ·exact iteF ⟨_,rfl,g⟩
 ·rintro σ' H' ⟨s3,rfl,g⟩
  exact q _ (g12.trans g)
noncomputable def zHK:Sp:=λ vs H Q Ω=>∃(n:Int) (v kv:V),vs=[v,kv]/\Rep H (.num n) v/\Q (.bl true) H
theorem zKW {k:Nat}{f:Addr}{fd:FuncData}(F:Fun K "is_number" "is_number" zC2 f fd):FnOk P w K mg base CX0 (k+1) f fd ["tree", "kinds"] zHK:=by
 refine F.ok zFt (λ vs H Q E h=>?_) (λ cdv A outer s H vs Q E hr h=>?_)
 ·obtain⟨n,v,kv,rfl,_⟩:=h
  rfl
 obtain⟨n,v,kv,rfl,⟨a,rfl,ha⟩,q⟩:=h
 refine⟨_,(zAE (ps_if (zAP op_eq (iC (r:=rIxT K) zAW (pv 0)) zAY (zAb _)) zBr zAO)
  (zAF (zAU (zCN op_eq (iC (r:=rIxT K) zAW (pv 0)) zAY (zAb _))))),?_⟩
 refine⟨_,rfl,a,_,0,_,rfl,rfl,SqT.of ha,rfl,rfl,_,rfl,ite2 (λ c=>?_) (λ Ω=>?_)⟩
 ·exact absurd (V.str.inj (lS c)) (by decide +kernel)
 refine⟨_,rfl,a,_,0,_,rfl,rfl,SqT.of ha,rfl,rfl,?_⟩;rw[decide_eq_true rfl];exact q
noncomputable def zFn (K:W.Frag):Sp:=λ vs H Q Ω=>∃(t:Tr) (v kd:V) (b:Addr),vs=[v,kd,.ref b]/\Rep H t v/\t.size<=60/\SqT K H b []/\OfK kd t/\∀H',Same H H'->Q (.bl true) H'
theorem zJA {k:Nat}{f g1 g2:Addr}{fd gd1 gd2:FuncData}(F:Fun K "is_of_kind" "is_of_kind" zCV f fd) (zNG:FnB P w K mg base k "is_number" g1 gd1 ["tree", "kinds"] zHK) (zNH:FnD1 P w K mg base k "is_quiet" g2 gd2 ["tree", "kinds"] (zHG K)):FnOk P w K mg base CX0 (k+1) f fd ["tree", "kind", "kinds"] (zFn K):=by
 refine F.ok zFD (λ vs H Q E h=>?_) (λ cdv A outer s H vs Q E hr h=>?_)
 ·obtain⟨t,v,kd,b,rfl,_⟩:=h
  rfl
 obtain⟨t,v,kd,b,rfl,hR,hsz,hb,hk,q⟩:=h
 refine⟨_,(zAE (ps_if (zAP op_eq (pv 1) zAY (zAb _)) (zAF (zAU (pe_cl zNG hr (zAA (pv 0) (zAA (pv 2) zAC))))) zAO)
  (zAF (zAU (pe_or (zCN op_ne (pv 1) zAY (zAb _)) (zDq (zCO zNH.ok hr (by rfl) zNH.gl zNH.kp zNH.bd0 .nil pass0 (zAA (pv 0) (zAA (pv 2) zAC)))))))),?_⟩
 rcases hk with rfl|⟨rfl,hQ⟩|⟨rfl,n,rfl⟩
 ·refine⟨_,rfl,rfl,_,rfl,ite2 (λ c=>?_) (λ Ω=>?_)⟩
  ·exact absurd (lS c) (λ z=>nomatch z)
  ·exact⟨_,rfl,rfl,_,rfl,iteT (q _ (.refl _))⟩
 ·refine⟨_,rfl,rfl,_,rfl,ite2 (λ c=>?_) (λ Ω=>?_)⟩
  ·exact absurd (V.str.inj (lS c)) (by decide +kernel)
  ·refine⟨_,rfl,rfl,_,rfl,ite2 (λ c=>?_) (λ Ω=>?_)⟩
   ·rw[decide_eq_true rfl] at c
    cases c
   ·exact⟨_,rfl,_,rfl,t,v,b,rfl,hR,hsz,hb,hQ,q⟩
 ·refine⟨_,rfl,rfl,_,rfl,ite2 (λ Ω=>?_) (λ c=>?_)⟩
  ·exact⟨_,rfl,_,rfl,n,v,.ref b,rfl,hR,q _ (.refl _)⟩
  ·exact absurd (lU rfl) c
noncomputable def zKz (K:W.Frag):Sp:=λ vs H Q Ω=>∃(v x:V) (b:Addr),vs=[v,x,.ref b]/\SqT K H b []/\Q (.bl true) H
theorem zMU {k:Nat}{f:Addr}{fd:FuncData}(F:Fun K "has_no_other_name" "has_no_other_name" zBI f fd):FnOk P w K mg base CX0 (k+1) f fd ["tree", "atoms", "pairs"] (zKz K):=by
 refine F.ok zCs (λ vs H Q E h=>?_) (λ cdv A outer s H vs Q E hr h=>?_)
 ·obtain⟨v,x,b,rfl,_⟩:=h
  rfl
 obtain⟨v,x,b,rfl,hb,q⟩:=h
 refine⟨_,(zAE (ps_if (zCQ (zBw (pv 2) (λ Ω=>rfl))) (zAF (zAU pe_bl)) zAO)
  zBr),?_⟩
 exact⟨_,rfl,false,.inr (.inl ⟨[],hb,rfl⟩),iteT q⟩
noncomputable def zFl (K:W.Frag):Sp:=λ vs H Q Ω=>∃(v:V) (x b:Addr),vs=[v,.ref x,.ref b]/\SqT K H x []/\Nul H b/\∀p H',Same H H'->H' p=some (.tup [])->Q (.ref p) H'
theorem zI7 {k:Nat}{f:Addr}{fd:FuncData}(F:Fun K "piece_names" "piece_names" zCE f fd) (z_dict:mg "dict" = none) (z_enumerate:mg "enumerate" = none) (z_tuple:mg "tuple" = none):FnOk P w K mg base CX0 (k+1) f fd ["tree", "atoms", "pairs"] (zFl K):=by
 refine F.ok zBE (λ vs H Q E h=>?_) (λ cdv A outer s H vs Q E hr h=>?_)
 ·obtain⟨v,x,b,rfl,_⟩:=h
  rfl
 obtain⟨v,x,b,rfl,hx,⟨o,hb,ho⟩,q⟩:=h;have hu:=hu_of hr
 refine⟨_,(zAE (zAX (i:=3) zBE.nd rfl (Or.inr rfl) (zBb (zDk rfl) (by rfl) z_dict PyProof.Rows.boot_dict (zAA (pv 2) zAC)))
  (zAE (zHU (jj:=4) ["atom", "bound"] [none,some 3] rfl (zCt (pv 1)) (λ Ω Ω Ω Ω Ω=>(zAN (i:=0) (show List.Nodup (["atom", "bound"]:List Str) by decide +kernel) rfl (Or.inl rfl))) (λ Ω Ω Ω Ω Ω=>zDY) (λ Ω Ω Ω Ω Ω=>(zC6 hu (pv 1) (iC (r:=rIxT K) zAW (pv 0)) (λ Ω Ω=>rfl))) rfl zBE.nd rfl (Or.inl rfl) (Or.inr rfl))
  (zAE (zAn PassesOwn.never rfl (zIz (by rfl) z_enumerate (zAA (pv 1) zAC)) (zBz rfl (zAc (zAN (i:=5) zBE.nd rfl (Or.inl rfl)) (zAc (zAN (i:=6) zBE.nd rfl (Or.inl rfl)) zBJ))) zBr)
  (zAF (zAU (zBb zBj (by rfl) z_tuple PyProof.Rows.boot_tuple (zAA (pv 4) zAC))))))),?_⟩
 refine⟨_,rfl,b,o,[],[],rfl,hb,ho,.nil,lY _,λ d hd=>?_⟩;have g1:=zAD (o:=.dK (zAu [] [])) hd;dsimp only[gName];generalize upd H d (.dK (zAu [] []))=H1 at g1 ⊢;refine⟨_,rfl,x,rfl,⟨[],g1.seqT hx⟩,λ acc hacc=>?_⟩;refine zCY (xs:=[]) (λ i H'=>Same H1 H'/\H' acc=some (.lst [])) ⟨zAD hacc,zAB⟩ (λ i H' Ω h=>h.1.seqT (g1.seqT hx)) ?_ ?_
 ·rintro j y Hx hy _
  cases hy
 rintro H2 ⟨g2,e2⟩;have g12:=g1.trans g2;refine⟨_,rfl,x,rfl,⟨[],g12.seqT hx⟩,?_⟩;refine zHk (xs:=[]) (λ i σ' H'=>σ'=[some v,some (.ref x),some (.ref b),some (.ref d),some (.ref acc),none,none]/\H'=H2) ⟨rfl,rfl⟩ ?_ ?_ ?_
 ·rintro i σ1 H1 _ ⟨rfl,rfl⟩
  exact g12.seqT hx
 ·rintro i y T σ1 H1 hy _ _
  cases hy
 ·rintro σ1 H3 ⟨rfl,rfl⟩
  refine⟨_,rfl,acc,[],rfl,.inl ⟨SqL.of e2,λ p hp=>q p _ (g12.trans (zAD hp)) zAB⟩⟩
noncomputable def zKy (K:W.Frag):Sp:=λ vs H Q Ω=>∃(g:Str) (gv v:V) (b:Addr),vs=[gv,v,.ref b]/\Rep H (.gap g []) gv/\Nul H b/\∀p nt H',Same H H'->H' p=some (.tup [.ref nt,v])->H' nt=some (.tup [])->Q (.ref p) H'
theorem zMR {k:Nat}{f g1 g2:Addr}{fd gd1 gd2:FuncData}(F:Fun K "piece_of" "piece_of" zDR f fd) (zNI:FnB P w K mg base k "has_no_other_name" g1 gd1 ["tree", "atoms", "pairs"] (zKz K)) (zNJ:FnB P w K mg base k "piece_names" g2 gd2 ["tree", "atoms", "pairs"] (zFl K)):FnOk P w K mg base CX0 (k+1) f fd ["gap", "tree", "pairs"] (zKy K):=by
 refine F.ok zGf (λ vs H Q E h=>?_) (λ cdv A outer s H vs Q E hr h=>?_)
 ·obtain⟨g,gv,v,b,rfl,_⟩:=h
  rfl
 obtain⟨g,gv,v,b,rfl,⟨a,x,us,rfl,ha,hx,_,pas⟩,hb,q⟩:=h;have eu:us=[]:=by cases pas;rfl
 subst eu
 refine⟨_,(zAE (ps_if (zBq (pe_cl zNI hr (zAA (pv 1) (zAA (iC (r:=rIxT K) zAW (pv 0)) (zAA (pv 2) zAC))))) (zAF (zAU (zA8 (zAA (pe_cl zNJ hr (zAA (pv 1) (zAA (iC (r:=rIxT K) zAW (pv 0)) (zAA (pv 2) zAC)))) (zAA (pv 1) zAC)):PE _ _ _))) zAO)
  (zAF (zAU zF2))),?_⟩
 refine⟨_,rfl,_,rfl,a,_,2,_,rfl,rfl,SqT.of ha,rfl,_,rfl,v,.ref x,b,rfl,hb.sq,true,rfl,iteT ?_⟩;refine⟨_,rfl,_,rfl,a,_,2,_,rfl,rfl,SqT.of ha,rfl,_,rfl,v,x,b,rfl,SqT.of hx,hb,λ p H1 g1 e1=>⟨_,rfl,(by show 2<=sizeLine;decide),λ p2 hp2=>?_⟩⟩;exact q p2 p _ (g1.trans (zAD hp2)) zAB (zAD hp2 _ _ e1)
noncomputable def zFq:Sp:=λ vs H Q Ω=>∃(p nt:Addr) (u:V),vs=[.ref p]/\H p=some (.tup [.ref nt,u])/\H nt=some (.tup [])/\Q u H
theorem zJE {k:Nat}{f:Addr}{fd:FuncData}(F:Fun K "bound_piece" "bound_piece" zCI f fd):FnOk P w K mg base CX0 (k+1) f fd ["piece"] zFq:=by
 refine F.ok zBW (λ vs H Q E h=>?_) (λ cdv A outer s H vs Q E hr h=>?_)
 ·obtain⟨p,nt,u,rfl,_⟩:=h
  rfl
 obtain⟨p,nt,u,rfl,hp,hn,q⟩:=h
 refine⟨_,(zAE (zAX (i:=1) zBW.nd rfl (Or.inl rfl) (iC (r:=rIxT K) zAW (pv 0)))
  (zAE (zAn PassesOwn.never rfl (zCt (iC (r:=rIxT K) zAW (pv 0))) (zAN (i:=2) zBW.nd rfl (Or.inl rfl)) (zAF (zAX (i:=1) zBW.nd rfl (Or.inl rfl) (zA8 (zAA zAY (zAA (pv 2) (zAA (zA8 (zAA zAY (zAA zAJ zAC)):PE _ _ _) (zAA (pv 1) zAC)))):PE _ _ _))))
  (zAF (zAU (pv 1))))),?_⟩
 refine⟨_,rfl,p,_,1,_,rfl,rfl,SqT.of hp,rfl,?_⟩;refine⟨_,rfl,p,_,0,_,rfl,rfl,SqT.of hp,rfl,nt,rfl,⟨[],SqT.of hn⟩,?_⟩;refine zFR (xs:=[]) (λ i σ' H'=>σ'=[some (.ref p),some u,none]/\H'=H) ⟨rfl,rfl⟩ ?_ ?_ ?_
 ·rintro i σ1 H1 _ ⟨rfl,rfl⟩
  exact SqT.of hn
 ·rintro i y σ1 H1 hy _
  cases hy
 ·rintro σ1 H1 ⟨rfl,rfl⟩
  exact⟨_,rfl,q⟩
abbrev zCD:Stmt:=top 54
theorem zEc:zAR ["filling", "gap", "piece"] ["filling", "gap", "piece"] (zAG zCD):=⟨rfl,rfl,rfl,by decide +kernel,rfl,by decide +kernel,by decide +kernel⟩
noncomputable def zHE:Sp:=λ vs H Q Ω=>∃(d:Addr) (g:Str) (p nt:Addr) (u:V) (ws S:List Str) (kvs:List (Key × V)) (π:Str->Tr),vs=[.ref d,.str g,.ref p]/\H d=some (.dK kvs)/\H p=some (.tup [.ref nt,u])/\H nt=some (.tup [])/\Rep H (π g) u/\PcT ws (π g)/\(π g).size<=100/\FD H π S kvs/\S.length<=900 /\
 ∀kvs' H',SbD d H H'->H' d=some (.dK kvs')->FD H' π (S++[g]) kvs'->Q (.bl true) H'
theorem zKL {k:Nat}{f g1 g2:Addr}{fd gd1 gd2:FuncData}(F:Fun K "takes_piece" "takes_piece" zCD f fd) (zNK:FnB P w K mg base k "alike" g1 gd1 ["one", "other"] zHN) (zNL:FnB P w K mg base k "bound_piece" g2 gd2 ["piece"] zFq):FnOk P w K mg base CX0 (k+1) f fd ["filling", "gap", "piece"] zHE:=by
 refine F.ok zEc (λ vs H Q E h=>?_) (λ cdv A outer s H vs Q E hr h=>?_)
 ·obtain⟨d,g,p,nt,u,ws,S,kvs,π,rfl,_⟩:=h
  rfl
 obtain⟨d,g,p,nt,u,ws,S,kvs,π,rfl,hd,hp,hn,ru,hP,hsz,fd0,hS,q⟩:=h;have hu:=hu_of hr
 refine⟨_,(zAE (ps_if (zAP zMP (pv 2) zF2 (zAb _)) (zAF (zAU pe_bl)) zAO)
  (zAE (ps_if (zAP (zMQ hu) (pv 1) (pv 0) rfl) (zAF (zAU (pe_cl zNK hr (zAA (pe_cl zNL hr (zAA (zC6 hu (pv 0) (pv 1) (λ Ω Ω=>rfl)) zAC)) (zAA (pe_cl zNL hr (zAA (pv 2) zAC)) zAC))))) zAO)
  (zAE (zDZ hu (pv 0) (pv 1) (pv 2) rfl)
  (zAF (zAU pe_bl))))),?_⟩
 have lk:=fd0.len;refine⟨_,rfl,rfl,_,rfl,ite2 (λ c=>?_) (λ Ω=>?_)⟩
 ·exact absurd (lS c) (λ z=>nomatch z)
 have dg:DGet H d (.str g) (valV kvs (Sum.inr g:Key)):=DGet.k (k:=Sum.inr g) hd;refine⟨_,rfl,_,rfl,d,_,rfl,dg,_,rfl,?_⟩
 by_cases hg:g∈S
 ·obtain⟨p2,n2,u2,hv,hp2,hn2,ru2⟩:=fd0.fl.get (zCX hg)
  rw[hv];have hn2':H n2=some (.tup []):=hn2;refine iteT ⟨_,rfl,_,rfl,d,_,rfl,hv▸dg,p2,n2,u2,rfl,hp2,hn2',_,rfl,p,nt,u,rfl,hp,hn,π g,u2,u,ws,rfl,ru2,ru,hP,hsz,λ H' g'=>?_⟩
  exact q kvs H' g'.sd (g' _ _ hd) ⟨by rw[zKC hg];exact fd0.fl.mono g'.tk,λ e he=>by
   obtain⟨x,hx,ex⟩:=fd0.ks e he;exact⟨x,mF _ hx,ex⟩,fd0.nd⟩
 ·rw[fd0.fl.no (zDa hg)]
  refine iteF ⟨_,rfl,_,rfl,_,rfl,d,_,rfl,DPut.k (k:=Sum.inr g) hd (zAS (by omega)),?_⟩;have tk:Tk H (upd H d (.dK (putK kvs (Sum.inr g:Key) (.ref p)))):=Tk.dk hd;refine q _ _ (SbD.set _) zAB ⟨?_,λ e he=>?_,zJG _ _ fd0.nd⟩
  ·rw[←zLa]
   exact(fd0.fl.put g (q:=([],π g)) ⟨p,nt,u,rfl,hp,hn,ru⟩).mono tk
  ·rcases zER he with rfl|he
   ·exact⟨g,by simp,rfl⟩
   ·obtain⟨x,hx,ex⟩:=fd0.ks e he
    exact⟨x,mF _ hx,ex⟩
abbrev s_fit:Stmt:=top 55
theorem zCS:zAR ["rule", "tree", "kinds", "wanted", "filling", "level", "deeper", "shape", "part", "pairs", "number", "both"] ["rule", "tree", "kinds"] (zAG s_fit):=⟨rfl,rfl,rfl,by decide +kernel,rfl,by decide +kernel,by decide +kernel⟩
noncomputable def wKd (kds:List (Str × Str)) (g:Str):V:=(valV (zAu [] (kdV kds)) (Sum.inr g:Key)).getD .non
noncomputable def zK0:Sp:=λ vs H Q Ω=>∃(r ka:Addr) (lv rv tv:V) (s:Tr) (π:Str->Tr) (kds:List (Str × Str)) (ws:List Str),vs=[.ref r,tv,.non]/\H r=some (.tup [lv,rv,.ref ka])/\KdsAt H ka kds/\kds.length<=300/\Rep H s lv/\LfG s/\s.size<=60/\(gset s).length<=800/\Rep H (fillT (cPi π) s) tv /\
 (∀g∈gset s,PcT ws (π g)/\(π g).size<=60/\OfK (wKd kds g) (π g))/\∀d kvs H',Same H H'->H d=none->H' d=some (.dK kvs)->(∃S,(∀g,g∈S↔g∈gset s)/\FD H' π S kvs)->Q (.ref d) H'
theorem zMV {k:Nat}{f g1 g2 g3 g4 g5 g6:Addr}{fd gd1 gd2 gd3 gd4 gd5 gd6:FuncData}(F:FunD K "fit" "fit" s_fit f fd [.none]) (z_dict:mg "dict" = none) (z_enumerate:mg "enumerate" = none) (z_zip:mg "zip" = none)
  (zNM:FnB P w K mg base k "is_of_kind" g1 gd1 ["tree", "kind", "kinds"] (zFn K)) (zNN:FnB P w K mg base k "piece_of" g2 gd2 ["gap", "tree", "pairs"] (zKy K)) (zNO:FnB P w K mg base k "takes_piece" g3 gd3 ["filling", "gap", "piece"] zHE)
  (zND:FnB P w K mg base k "alike_heads" g4 gd4 ["one", "other", "pairs"] (zFA K)) (zMm:FnB P w K mg base k "parts" g5 gd5 ["tree"] zBe) (zNE:FnB P w K mg base k "pairs_in" g6 gd6 ["one", "other", "number", "pairs"] zIk):FnOk P w K mg base CX0 (k+1) f fd ["rule", "tree", "kinds"] zK0:=by
 refine F.ok zCS (λ vs H Q E h=>?_) (λ cdv A outer s H vs Q E hr h=>?_)
 ·obtain⟨r,ka,lv,rv,tv,s,π,kds,ws,rfl,_⟩:=h
  rfl
 obtain⟨r,ka,lv,rv,tv,sh,π,kds,ws,rfl,hr0,⟨ok,ys,hka,hod,pk⟩,lkd,rl,hG,hsz,lgs,rt,hπ,q⟩:=h;have hu:=hu_of hr
 refine⟨_,(zAE (zAX (i:=3) zCS.nd rfl (Or.inl rfl) (zBb (zDk rfl) (by rfl) z_dict PyProof.Rows.boot_dict (zAA (iC (r:=rIxT K) zAW (pv 0)) zAC)))
  (zAE (zAX (i:=4) zCS.nd rfl (Or.inl rfl) zCL)
  (zAE (zAX (i:=5) zCS.nd rfl (Or.inl rfl) (zA1 (zAA (zA8 (zAA (iC (r:=rIxT K) zAW (pv 0)) (zAA (pv 1) (zAA (zGp zAC) zAC))):PE _ _ _) zAC):PE _ _ _))
  (zAE (zDE PassesOwn.never (zBw (pv 5) (λ Ω=>rfl)) (zAE (zAX (i:=6) zCS.nd rfl (Or.inl rfl) (zA1 zAC:PE _ _ _))
  (zAE (zAn PassesOwn.never rfl (zA7 (pv 5)) (zBz rfl (zAc (zAN (i:=7) zCS.nd rfl (Or.inl rfl)) (zAc (zAN (i:=8) zCS.nd rfl (Or.inl rfl)) (zAc (zAN (i:=9) zCS.nd rfl (Or.inl rfl)) zBJ)))) (zAF (ps_if (zAP op_eq (iC (r:=rIxT K) zAW (pv 7)) zAY (zAb _)) (zAE (ps_if (zCQ (zBq (pe_cl zNM hr (zAA (pv 8) (zAA (zHY hu (pv 3) (iC (r:=rIxT K) zAW (pv 7)) ⟨rfl,rfl,rfl,rfl⟩) (zAA (zK5 (pv 2) (zDq (zGp zAC))) zAC)))))) (zAF (zAU zF2)) zAO)
  (zAF (ps_if (zCQ (zBq (pe_cl zNO hr (zAA (pv 4) (zAA (iC (r:=rIxT K) zAW (pv 7)) (zAA (pe_cl zNN hr (zAA (pv 7) (zAA (pv 8) (zAA (pv 9) zAC)))) zAC)))))) (zAF (zAU zF2)) zAO))) (zAF (ps_if (zCQ (zBq (pe_cl zND hr (zAA (pv 7) (zAA (pv 8) (zAA (pv 9) zAC)))))) (zAF (zAU zF2)) (zAF (zAn PassesOwn.never rfl (zEt (by rfl) z_enumerate (by rfl) z_zip (zAA (pe_cl zMm hr (zAA (pv 7) zAC)) (zAA (pe_cl zMm hr (zAA (pv 8) zAC)) zAC))) (zBz rfl (zAc (zAN (i:=10) zCS.nd rfl (Or.inl rfl)) (zAc (zAN (i:=11) zCS.nd rfl (Or.inl rfl)) zBJ))) (zAF (zAw (pe_bm PySem.F.plainAttrs_list PySem.F.slot_list_append PySem.F.type_list_append zAt (pv 6) (zAA (zA8 (zAA (iC (r:=rIxT K) zAW (pv 11)) (zAA (iC (r:=rIxT K) zAW (pv 11)) (zAA (pe_cl zNE hr (zAA (pv 7) (zAA (pv 8) (zAA (pv 10) (zAA (pv 9) zAC))))) zAC))):PE _ _ _) zAC)))))))))))
  (zAF (zAX (i:=5) zCS.nd rfl (Or.inl rfl) (pv 6))))))
  (zAF (zAU (pv 4))))))),?_⟩
 refine⟨_,rfl,r,_,2,_,rfl,rfl,SqT.of hr0,rfl,ka,ok,ys,kdV kds,rfl,hka,hod,pk,by unfold kdV;rw[List.length_map];omega,λ wd hwd=>?_⟩;have gA:=zAD (o:=.dK (zAu [] (kdV kds))) hwd;have ewd:(upd H wd (.dK (zAu [] (kdV kds)))) wd=some (.dK (zAu [] (kdV kds))):=zAB;dsimp only[gName];generalize upd H wd (.dK (zAu [] (kdV kds)))=Ha at gA ewd ⊢;refine λ d hd=>?_;have gB:=zAD (o:=.dK []) hd;have ed:(upd Ha d (.dK [])) d=some (.dK []):=zAB;have hdH:H d=none:=gA.free hd;have nwd:wd≠d:=λ z=>by rw[z,hd] at ewd;cases ewd
 dsimp only[gName];generalize upd Ha d (.dK [])=Hb at gB ed ⊢;have gAB:=gA.trans gB;have ewd2:=gB _ _ ewd;refine⟨_,rfl,r,_,0,_,rfl,rfl,SqT.of (gAB _ _ hr0),rfl,_,rfl,lY _,λ b ob hb hob=>?_⟩;have gC:=zAD (o:=.frz ob (.tup [])) hb;have nb:Nul (upd Hb b (.frz ob (.tup []))) b:=⟨ob,zAB,hob⟩;have ed0:=gC _ _ ed;have ewd0:=gC _ _ ewd2;have gH0:=gAB.trans gC;generalize upd Hb b (.frz ob (.tup []))=H0 at gC nb ed0 ewd0 gH0 ⊢;clear gA gB gC gAB ewd ewd2 ed hd hwd
 have nbd:b≠d:=λ z=>by
  obtain⟨o,h,_⟩:=nb;rw[z,ed0] at h;cases h
 refine⟨(by show 3<=sizeLine;decide),λ pr hpr=>⟨(by show 1<=sizeLine;decide),λ l hl=>?_⟩⟩;have g3:=zAD (o:=.tup [lv,tv,.ref b]) hpr;have g4:=zAD (o:=.lst [.ref pr]) hl;have g34:=g3.trans g4;have hlH:H0 l=none:=g3.free hl;have gall:=gH0.trans g34
 refine⟨λ m σ' H'=>∃(l:Addr) (ps:List V) (lev:List Tr) (kvs:List (Key × V)) (S:List Str) (s6 s7 s8 s9 s10 s11:Option V),σ'=[some (.ref r),some tv,some .non,some (.ref wd),some (.ref d),some (.ref l),s6,s7,s8,s9,s10,s11]/\SbD d H0 H'/\H0 l=none/\H' l=some (.lst ps)/\Paired (Fil π b H') lev ps/\m=sumS lev/\sumS lev<=60/\(∀q∈lev,LfG q)/\H' d=some (.dK kvs)/\FD H' π S kvs/\S.length+sumS lev<=100/\(∀g,g∈gset sh↔g∈S\/∃q∈lev,g∈gset q),
  ⟨sh.size,l,_,[sh],[],[],none,none,none,none,none,none,rfl,g34.sd,hlH,zAB,.cons ⟨pr,lv,tv,rfl,g4 _ _ zAB,rl.mono gall.tk,rt.mono gall.tk⟩ .nil,by simp[sumS],by simpa[sumS] using hsz,by simpa using hG,g34 _ _ ed0,⟨λ g=>True.intro,(λ p hp=>nomatch hp),List.nodup_nil⟩,by simp[sumS];omega,λ g=>by simp⟩,?_⟩
 clear g3 g4 g34 gall hpr hlH;rintro m σ' Hw ⟨l,ps,lev,kvs,S,s6,s7,s8,s9,s10,s11,rfl,sw,hl,el,hp,rfl,htot,hlg,ekw,fdw,lSw,cov⟩;have nld:l≠d:=λ z=>by rw[z,ed0] at hl;cases hl
 refine⟨_,rfl,_,.inl ⟨ps,SqL.of el,rfl⟩,?_⟩;refine ite2 (λ c=>?_) (λ c=>?_)
 ·refine⟨_,λ Ω Ω h=>h,(by show 0<=sizeLine;decide),λ dp hdp=>⟨_,rfl,l,rfl,⟨ps,SqL.of (zAD hdp _ _ el)⟩,?_⟩⟩
  have gd:=zAD (o:=.lst []) hdp
  have hdpH:H0 dp=none:=by
   cases e:H0 dp with
   |none=>rfl
   |some o =>
    by_cases z:dp=d
    ·rw[z,ekw] at hdp;cases hdp
    ·rw[sw _ _ z e] at hdp;cases hdp
  have ndl:dp≠l:=Ne.symm (zAK el hdp);have ndd:dp≠d:=λ z=>by rw[z,ekw] at hdp;cases hdp
  refine zA4 (xs:=ps) (λ i σ' H'=>∃(dps:List V) (kvs:List (Key × V)) (S:List Str) (s7 s8 s9 s10 s11:Option V),σ'=[some (.ref r),some tv,some .non,some (.ref wd),some (.ref d),some (.ref l),some (.ref dp),s7,s8,s9,s10,s11]/\SbD d H0 H'/\Tk Hw H'/\H' l=some (.lst ps)/\H' dp=some (.lst dps) /\
   Paired (Fil π b H') ((lev.take i).flatMap Tr.parts) dps/\H' d=some (.dK kvs)/\FD H' π S kvs/\S.length+sumS (lev.drop i)+sumS ((lev.take i).flatMap Tr.parts)<=100/\(∀g,g∈gset sh↔g∈S\/(∃q∈lev.drop i,g∈gset q)\/∃q∈(lev.take i).flatMap Tr.parts,g∈gset q)) ?_ ?_ ?_ ?_
  ·exact⟨[],kvs,S,s7,s8,s9,s10,s11,rfl,sw.trans gd.sd,gd.tk,gd _ _ el,zAB,.nil,gd _ _ ekw,fdw.mono gd.tk,by simpa[sumS] using lSw,λ g=>by rw[cov];simp⟩
  ·rintro i σ1 H1 _ ⟨dps,kv1,S1,s7,s8,s9,s10,s11,rfl,sb1,k1,el1,edp1,hp1,ek1,fd1,lS1,cov1⟩
   exact SqL.of el1
  ·rintro i x σ1 H1 hx ⟨dps,kv1,S1,s7,s8,s9,s10,s11,rfl,sb1,k1,el1,edp1,hp1,ek1,fd1,lS1,cov1⟩
   obtain⟨tq,eq,rq⟩:=zAQ hp hx;have hmem:tq∈lev:=lM eq;have hlq:=hlg tq hmem;obtain⟨a,u1,w1,rfl,ha,ru,rw1⟩:=rq.mono k1;obtain⟨hil,eil⟩:=lJ.mp eq;have hdr:lev.drop i=tq::lev.drop (i+1):=by rw[List.drop_eq_getElem_cons hil,eil]
   have htk:(lev.take (i+1)).flatMap Tr.parts=(lev.take i).flatMap Tr.parts++tq.parts:=by rw[zAV eq,List.flatMap_append];simp
   rw[hdr] at lS1 cov1;rw[zCR] at lS1
   have nb1:Nul H1 b:=by
    obtain⟨o,h,dn⟩:=nb;exact⟨o,sb1 _ _ nbd h,dn⟩
   have ewd1:=sb1 _ _ nwd ewd0;refine⟨a,_,rfl,SqT.of ha,rfl,_,_,rfl,_,_,rfl,_,_,rfl,rfl,?_⟩;have ru0:=ru;obtain⟨a0,hs0,us0,e0,ha0,hl0,hp0⟩:=ru.all;have at0:atI (V.str tq.kd.s::hs0++us0) 0=some (.str tq.kd.s):=zAZ (j:=0) rfl;subst e0;refine⟨_,rfl,a0,_,0,_,rfl,rfl,SqT.of ha0,at0,rfl,_,rfl,ite2 (λ cg=>?_) (λ cg=>?_)⟩
   ·have z:tq.kd = .gap:=Kd.eq_iff.mp (lS cg)
    cases tq with
    |gap g as =>
     have eas:as=[]:=hlq;subst eas;have hgs:g∈gset sh:=(cov1 g).mpr (.inr (.inl ⟨_,lO,by rw[zCq];exact lO⟩));obtain⟨hpc,hps,hok⟩:=hπ g hgs;obtain⟨a',b',us2,e',ha',hb',hl2,pas⟩:=id ru0;cases e';have rw2:Rep H1 (π g) w1:=rw1;refine⟨_,rfl,_,rfl,wd,rfl,.inl ⟨_,.inl ewd1⟩,_,rfl,a0,_,1,_,rfl,rfl,SqT.of ha',rfl,_,DGet.k (k:=Sum.inr g) ewd1,_,rfl,false,rfl,iteF ⟨lY _,λ b2 o2 hb2 ho2=>?_⟩⟩;have g2:=zAD (o:=.frz o2 (.tup [])) hb2;have n2:SqT K (upd H1 b2 (.frz o2 (.tup []))) b2 []:=.inl (.inr ⟨o2,zAB⟩);generalize upd H1 b2 (.frz o2 (.tup []))=H2 at g2 n2 ⊢;refine⟨π g,w1,_,b2,rfl,rw2.mono g2.tk,hps,n2,hok,λ H3 g3=>⟨true,rfl,iteF ?_⟩⟩;have g13:=g2.trans g3;refine⟨_,rfl,_,rfl,a0,_,1,_,rfl,rfl,SqT.of (g13 _ _ ha'),rfl,_,rfl,_,rfl,_,rfl,g,.ref a0,w1,b,rfl,ru0.mono g13.tk,nb1.same g13,λ p nt H4 g4 e4 e4n=>?_⟩;have g14:=g13.trans g4;refine⟨d,g,p,nt,w1,ws,S1,kv1,π,rfl,g14 _ _ ek1,e4,e4n,rw2.mono g14.tk,hpc,by omega,fd1.mono g14.tk,by omega,λ kv2 H5 sb5 ek5 fd5=>⟨true,rfl,iteF ?_⟩⟩;have tk5:=sb5.tk (g14 _ _ ek1);have sb15:=g14.sd.trans sb5;refine⟨dps,kv2,S1++[g],_,_,_,_,_,rfl,sb1.trans sb15,k1.trans (g14.tk.trans tk5),sb15 _ _ nld el1,sb15 _ _ ndd edp1,?_,ek5,fd5,?_,λ x=>?_⟩
     ·rw[htk]
      show Paired _ (_++[]) _;rw[List.append_nil];exact Paired.mapP hp1 λ Ω Ω z=>z.mono (g14.tk.trans tk5)
     ·rw[htk]
      show _+sumS (_++[])<=_;rw[List.append_nil,List.length_append];have:(Tr.gap g []).size=1:=rfl;simp only[List.length_singleton];omega
     ·rw[cov1,htk]
      show _↔_\/_\/∃q∈_++[],_;rw[List.append_nil];have eg:gset (.gap g [])=[g]:=by rw[zCq];rfl
      constructor
      ·rintro (h|⟨y,hy,h⟩|h)
       ·exact .inl (mF _ h)
       ·rcases lN.mp hy with rfl|hy
        ·rw[eg] at h
         exact .inl (mB _ h)
        ·exact .inr (.inl ⟨y,hy,h⟩)
       ·exact .inr (.inr h)
      ·rintro (h|⟨y,hy,h⟩|h)
       ·rcases lK.mp h with h|h
        ·exact .inl h
        ·exact .inr (.inl ⟨_,lO,by rw[eg];exact h⟩)
       ·exact .inr (.inl ⟨y,lP _ hy,h⟩)
       ·exact .inr (.inr h)
    |bin o a b=>cases o<;>cases z
    |_=>cases z
   ·have z:¬tq.kd = .gap:=λ z=>cg (lU (by rw[z];rfl))
    have efl:fillT (cPi π) tq=tq.withP (tq.parts.map (fillT (cPi π))):=zHn z;have rw2:=rw1;rw[efl] at rw2;refine⟨_,rfl,_,rfl,_,rfl,tq,tq.parts.map (fillT (cPi π)),.ref a0,w1,b,rfl,ru0,rw2,by simp,z,nb1.sq,⟨true,rfl,iteF ?_⟩⟩;refine⟨_,rfl,tq,.ref a0,rfl,ru0,λ pt H3 us g3 e3 hus=>⟨_,rfl,fillT (cPi π) tq,w1,rfl,rw1.mono g3.tk,λ pt2 H4 us2 g4 e4 hus2=>⟨pt,pt2,us,us2,rfl,g4 _ _ e3,e4,?_⟩⟩⟩;rw[efl,zA5 (by simp)] at hus2;have g24:=g3.trans g4;have lus:=hus.length;have lus2:=hus2.length;rw[List.length_map] at lus2;have ru4:=ru0.mono g24.tk
    refine zLF (xs:=us) (ys:=us2) (λ j σ' H'=>∃(dps':List V) (s10 s11:Option V),σ'=[some (.ref r),some tv,some .non,some (.ref wd),some (.ref d),some (.ref l),some (.ref dp),some (.ref a0),some w1,some (.ref b),s10,s11]/\SbD d H0 H'/\Tk H4 H' /\
      H' l=some (.lst ps)/\H' dp=some (.lst dps')/\Paired (Fil π b H') (((lev.take i).flatMap Tr.parts)++tq.parts.take j) dps'/\H' d=some (.dK kv1)) ?_ ?_ ?_ ?_
    ·exact⟨dps,s10,s11,rfl,sb1.trans g24.sd,.refl _,g24 _ _ el1,g24 _ _ edp1,by
      rw[List.take_zero,List.append_nil];exact Paired.mapP hp1 λ Ω Ω z=>z.mono g24.tk,g24 _ _ ek1⟩
    ·rintro j σ3 H5 _ ⟨dps5,s10,s11,rfl,sb5,k5,el5,edp5,hp5,ek5⟩
     exact⟨k5 _ _ (g4 _ _ e3),k5 _ _ e4⟩
    ·rintro j x y T U σ3 H5 hx hy ⟨dps5,s10,s11,rfl,sb5,k5,el5,edp5,hp5,ek5⟩ hU hT
     have gU:=zAD (o:=.tup [x,y]) hU;have gT:=zAD (o:=.tup [.int j,.ref U]) hT;have gUT:=gU.trans gT;obtain⟨cx,ecx,rcx⟩:=zAQ hus hx;obtain⟨cy,ecy,rcy⟩:=zAQ hus2 hy;rw[List.getElem?_map,ecx] at ecy;have ecy2:fillT (cPi π) cx=cy:=mE ecy;subst ecy2;have hj:j<us.length:=(lJ.mp hx).1;refine⟨T,_,rfl,SqT.of zAB,rfl,_,_,rfl,_,_,rfl,rfl,?_⟩;have edp6:=gUT _ _ edp5;have hU6:(upd (upd H5 U (.tup [x,y])) T (.tup [.int j,.ref U])) U=some (.tup [x,y]):=gT _ _ zAB;refine⟨_,rfl,.inl ⟨rfl,_,SqL.of edp6⟩,_,rfl,U,_,0,_,rfl,rfl,SqT.of hU6,rfl,_,rfl,U,_,1,_,rfl,rfl,SqT.of hU6,rfl,_,rfl,_,rfl,_,rfl,_,rfl,tq,.ref a0,w1,j,b,rfl,ru4.mono (k5.trans gUT.tk),hlq.nlt,⟨(by show 3<=sizeLine;decide),λ pr hpr=>?_⟩⟩;have gq:=zAD (o:=.tup [x,y,.ref b]) hpr;have gA:=gUT.trans gq;have edp7:=gA _ _ edp5
     have tot:dps5.length<=500:=by
      rw[←hp5.length,List.length_append,List.length_take];have l1:=zCc ((lev.take i).flatMap Tr.parts);have l4:=zB8 tq;have l5:=zCc tq.parts;omega
     refine⟨dp,_,_,rfl,rfl,edp7,zAS (by omega),?_⟩;have kset:Tk H5 (upd (upd (upd (upd H5 U (.tup [x,y])) T (.tup [.int j,.ref U])) pr (.tup [x,y,.ref b])) dp (.lst (dps5++[.ref pr]))):=gA.tk.trans (Tk.lst edp7);refine⟨_,_,_,rfl,(sb5.trans gA.sd).put hdpH _,k5.trans kset,by rw[zAL (Ne.symm ndl)];exact gA _ _ el5,zAB,?_,by rw[zAL (Ne.symm ndd)];exact gA _ _ ek5⟩;rw[zAV ecx,←List.append_assoc];exact zAT (Paired.mapP hp5 λ Ω Ω z=>z.mono kset) (.cons ⟨pr,x,y,rfl,Tk.lst edp7 _ _ zAB,(rcx.mono g4.tk).mono (k5.trans kset),rcy.mono (k5.trans kset)⟩ .nil)
    ·rintro σ3 H5 ⟨dps5,s10,s11,rfl,sb5,k5,el5,edp5,hp5,ek5⟩
     rw[show min us.length us2.length=tq.parts.length by omega,List.take_length] at hp5;refine⟨dps5,kv1,S1,_,_,_,s10,s11,rfl,sb5,k1.trans (g24.tk.trans k5),el5,edp5,by rw[htk];exact hp5,ek5,fd1.mono (g24.tk.trans k5),?_,λ x=>?_⟩
     ·rw[htk,zCA]
      have:=zB8 tq;omega
     ·rw[cov1,htk]
      have egs:gset tq=tq.parts.flatMap gset:=zBY z;constructor
      ·rintro (h|⟨y,hy,h⟩|⟨y,hy,h⟩)
       ·exact .inl h
       ·rcases lN.mp hy with rfl|hy
        ·rw[egs] at h
         obtain⟨p',hp',h⟩:=List.mem_flatMap.mp h;exact .inr (.inr ⟨p',mB _ hp',h⟩)
        ·exact .inr (.inl ⟨y,hy,h⟩)
       ·exact .inr (.inr ⟨y,mF _ hy,h⟩)
      ·rintro (h|⟨y,hy,h⟩|⟨y,hy,h⟩)
       ·exact .inl h
       ·exact .inr (.inl ⟨y,lP _ hy,h⟩)
       ·rcases lK.mp hy with hy|hy
        ·exact .inr (.inr ⟨y,hy,h⟩)
        ·exact .inr (.inl ⟨tq,lO,by rw[egs];exact List.mem_flatMap.mpr ⟨y,hy,h⟩⟩)
  ·rintro σ1 H1 ⟨dps,kv1,S1,s7,s8,s9,s10,s11,rfl,sb1,k1,el1,edp1,hp1,ek1,fd1,lS1,cov1⟩
   have hlen:ps.length=lev.length:=hp.length.symm;rw[hlen,List.take_length] at hp1 lS1 cov1;rw[List.drop_length] at lS1 cov1
   have pos:0<lev.length:=by
    rw[←hlen];cases ps with
    |nil=>simp at c
    |cons _ _=>simp
   have lk:=zDz lev;have z0:sumS []=0:=rfl;refine⟨_,rfl,_,?_,dp,dps,_,kv1,S1,some (.ref dp),s7,s8,s9,s10,s11,rfl,sb1,hdpH,edp1,hp1,rfl,by omega,λ q' hq'=>?_,ek1,fd1,by omega,λ g=>by rw[cov1];simp⟩
   ·omega
   ·obtain⟨r',hr',hq''⟩:=List.mem_flatMap.mp hq'
    exact(hlg r' hr').part hq''
 ·have e0:ps=[]:=by
   cases ps with
   |nil=>rfl
   |cons _ _=>exact absurd rfl c
  subst e0;have el0:lev=[]:=by cases hp;rfl
  subst el0;refine⟨_,rfl,q d kvs Hw (λ x o hx=>?_) hdH ekw ⟨S,λ g=>by rw[cov];simp,fdw⟩⟩;exact sw _ _ (λ z=>by rw[z,hdH] at hx;cases hx) (gH0 _ _ hx)
abbrev zDW:Stmt:=top 66
theorem zD6:zAR ["_law_cell", "_law_words_here", "_law_loud", "_law_way"] ["_law_cell", "_law_words_here", "_law_loud"] (zAG zDW):=⟨rfl,rfl,rfl,by decide +kernel,rfl,by decide +kernel,by decide +kernel⟩
abbrev zCj:Stmt:=top 67
theorem zBG:zAR ["_law_cells", "_law_words_here", "_law_loud", "_law_cell", "_law_rest", "_law_sign", "_law_cut", "_law_one", "_law_other"] ["_law_cells", "_law_words_here", "_law_loud"] (zAG zCj):=⟨rfl,rfl,rfl,by decide +kernel,rfl,by decide +kernel,by decide +kernel⟩
theorem zJp (cells:List Int):cutV (cells.map V.int) (some 1) none=(cells.drop 1).map V.int:=by
 cases cells with
 |nil=>rfl
 |cons c r =>
  have e1:HT.sIx ((c::r).map V.int).length 0 (some 1)=1:=by
   have:=HT.sIx_nat ((c::r).map V.int).length 0 1;rw[show ((1:Nat):Int)=1 from rfl] at this;rw[this];simp
  unfold cutV;rw[e1,HT.sIx_none];simp;exact List.take_of_length_le (by simp)
theorem zLK (xs:List Int) (i:Nat) (h:i<=xs.length):cutV (xs.map V.int) none (some (i:Int))=(xs.take i).map V.int:=by
 have e:HT.sIx (xs.map V.int).length 0 none=0:=rfl;unfold cutV;rw[e,HT.sIx_nat,List.length_map,Nat.min_eq_left h];simp
theorem zLJ (xs:List Int) (i:Nat) (h:i<=xs.length):cutV (xs.map V.int) (some (i:Int)) none=(xs.drop i).map V.int:=by
 unfold cutV;rw[HT.sIx_nat,HT.sIx_none,List.length_map,Nat.min_eq_left h];rw[←List.map_drop];exact List.take_of_length_le (by simp)
theorem signT (z:Int):∃s:Str,atI [V.str "mul", .str "add", .str "if", .str "mul", .str "say", .str "sub", .str "then", .str "add"] (z % 8)=some (.str s)/\((∃o:Bin,s=o.s)\/s = "if" \/ s = "say"):=by
 have h0:=Int.emod_nonneg z (show (8:Int)≠0 by decide);have h1:=Int.emod_lt_of_pos z (show (0:Int)<8 by decide);have h:z % 8=0\/z % 8=1\/z % 8=2\/z % 8=3\/z % 8=4\/z % 8=5\/z % 8=6\/z % 8=7:=by omega
 rcases h with h|h|h|h|h|h|h|h<;>rw[h]
 ·exact⟨"mul", rfl,.inl ⟨.mul,rfl⟩⟩
 ·exact⟨"add", rfl,.inl ⟨.add,rfl⟩⟩
 ·exact⟨"if", rfl,.inr (.inl rfl)⟩
 ·exact⟨"mul", rfl,.inl ⟨.mul,rfl⟩⟩
 ·exact⟨"say", rfl,.inr (.inr rfl)⟩
 ·exact⟨"sub", rfl,.inl ⟨.sub,rfl⟩⟩
 ·exact⟨"then", rfl,.inl ⟨.thn,rfl⟩⟩
 ·exact⟨"add", rfl,.inl ⟨.add,rfl⟩⟩
noncomputable def OutT (ws:List Str) (ld:Bool) (n:Nat) (H:Hp) (Q:VK):Prop:=∀(t:Tr) (v:V) (H':Hp),Same H H'->Rep H' t v->t.size<=n->PcT ws t->(ld=false->QuT t)->Q v H'
noncomputable def zE9:Sp:=λ vs H Q Ω=>∃(c:Int) (wl:Addr) (ws:List Str) (ld:Bool),vs=[.int c,.ref wl,.bl ld]/\ws.length=12/\H wl=some (.lst (ws.map V.str))/\OutT ws ld 1 H Q
theorem zKT {k:Nat}{f:Addr}{fd:FuncData}(F:Fun K "_law_leaf" "_law_leaf" zDW f fd):FnOk P w K mg base CX0 (k+1) f fd ["_law_cell", "_law_words_here", "_law_loud"] zE9:=by
 refine F.ok zD6 (λ vs H Q E h=>?_) (λ cdv A outer s H vs Q E hr h=>?_)
 ·obtain⟨c,wl,ws,ld,rfl,_⟩:=h
  rfl
 obtain⟨c,wl,ws,ld,rfl,lw,hw,qq⟩:=h
 refine⟨_,(Sd.un (zAM (zAl (i:=3) zD6.nd rfl (Or.inl rfl) ⟨pe_op zAq (pv 0) zAJ⟩)
  (zAM (zBd ⟨zAP op_eq (pv 3) zAJ (zAb _)⟩ (zAh (zAv (zAm (zAI ⟨zAY⟩ (zAI ⟨pe_op zAq (pe_op zAx (pv 0) zAJ) (pe_op zEx zAJ zAJ)⟩ ⟨zAC⟩))))) ⟨zAO⟩)
  (zAM (zBd ⟨(zFx (zAP op_eq (pv 3) zAJ (zAb _)) (zEF (zBw (pv 2) (λ Ω=>rfl)))).pt⟩ (zAh (zAv (zAm (zAI (zBs (r:=rIxL K) zAy (zEI (zAI ⟨zAY⟩ (zAI ⟨zAY⟩ ⟨zAC⟩))) ⟨pe_op zAq (pe_op zAx (pv 0) zAJ) zAJ⟩ (λ Ω Ω=>rfl)) (zAI (zBs (r:=rIxL K) zAy ⟨pv 1⟩ ⟨pe_op zAq (pe_op zAx (pv 0) zAJ) zAJ⟩ (λ Ω Ω=>rfl)) ⟨zAC⟩))))) ⟨zAO⟩)
  (zAM (zBd ⟨zAP op_eq (pv 3) zAJ (zAb _)⟩ (zAh (zAv (zAm (zAI ⟨zAY⟩ (zAI ⟨pe_op zAq (pe_op zAx (pv 0) zAJ) zAJ⟩ ⟨zAC⟩))))) ⟨zAO⟩)
  (zAh (zAv (zAm (zAI ⟨zAY⟩ (zAI (zBs (r:=rIxL K) zAy ⟨pv 1⟩ ⟨pe_op zAq (pe_op zAx (pv 0) zAJ) zAJ⟩ (λ Ω Ω=>rfl)) ⟨zAC⟩)))))))))),?_⟩
 have d2:2<=sizeLine:=by decide
 have f5:(0:Int)<5/\(5:Int)<1073741824:=⟨by decide,by decide⟩;have f10:(0:Int)<10/\(10:Int)<1073741824:=⟨by decide,by decide⟩;have qn:∀n:Int,QuT (.num n):=λ n=>.node rfl (λ z=>nomatch z) (λ p hp=>nomatch hp)
 have qm:∀n:Str,QuT (.name n):=λ n=>.node rfl (λ z=>nomatch z) (λ p hp=>nomatch hp)
 refine⟨_,rfl,_,_,rfl,rfl,(show (0:Int)<5 by decide),?_⟩;refine⟨_,rfl,rfl,_,rfl,ite2 (λ Ω=>?_) (λ Ω=>?_)⟩
 ·refine⟨_,rfl,_,_,rfl,rfl,f5,_,_,rfl,rfl,⟨by decide,by decide,by decide⟩,_,_,rfl,rfl,(show (0:Int)<10 ^ 30 by decide),d2,λ pt hpt=>?_⟩
  exact qq (.num _) _ _ (zAD hpt) ⟨pt,rfl,zAB⟩ (lQ 1) trivial λ Ω=>qn _
 dsimp only[tNext];refine viaN λ N hN=>?_
 suffices rest:N [some (.int c),some (.ref wl),some (.bl ld),some (.int (c % 5))] H by
  refine⟨_,rfl,rfl,_,rfl,ite2 (λ Ω=>⟨_,rfl,ld,rfl,ite2 (λ e=>?_) (λ Ω=>rest)⟩) (λ Ω=>iteF rest)⟩;obtain⟨x,hx,atx⟩:=pickS (L:=ws) (i:=c / 10 % 12) (by omega) (by omega)
  obtain⟨v,hv,ev⟩:∃v,v∈[V.str "ask", V.str "stop"]/\atI [V.str "ask", V.str "stop"] (c / 5 % 2)=some v:=by
   rcases (show c / 5 % 2=0\/c / 5 % 2=1 by omega) with e|e<;>rw[e]
   ·exact⟨_,by simp,rfl⟩
   ·exact⟨_,by simp,rfl⟩
  refine⟨d2,λ p0 hp0=>⟨_,rfl,_,_,rfl,rfl,f5,_,_,rfl,rfl,(show (0:Int)<2 by decide),p0,_,_,_,rfl,rfl,SqL.of zAB,ev,?_⟩⟩;have k2:=zAD (o:=.lst [.str "ask", .str "stop"]) hp0;refine⟨_,rfl,_,rfl,_,_,rfl,rfl,f10,_,_,rfl,rfl,(show (0:Int)<12 by decide),wl,_,_,_,rfl,rfl,SqL.of (k2 _ _ hw),atx,d2,λ pt hpt=>?_⟩;have no:ld=false->False:=λ z=>by rw[z] at e;cases e
  simp only[List.mem_cons,List.not_mem_nil,or_false] at hv;rcases hv with rfl|rfl
  ·exact qq (.ask x) _ _ (k2.trans (zAD hpt)) ⟨pt,rfl,zAB⟩ (lQ 1) trivial λ z=>(no z).elim
  ·exact qq (.stop x) _ _ (k2.trans (zAD hpt)) ⟨pt,rfl,zAB⟩ (lQ 1) trivial λ z=>(no z).elim
 refine hN _ _ ?_;refine⟨_,rfl,rfl,_,rfl,ite2 (λ Ω=>?_) (λ Ω=>?_)⟩
 ·refine⟨_,rfl,_,_,rfl,rfl,f5,_,_,rfl,rfl,(show (0:Int)<2 by decide),d2,λ pt hpt=>?_⟩
  exact qq (.num _) _ _ (zAD hpt) ⟨pt,rfl,zAB⟩ (lQ 1) trivial λ Ω=>qn _
 ·obtain⟨x,hx,atx⟩:=pickS (L:=ws) (i:=c / 5 % 12) (by omega) (by omega)
  refine⟨_,rfl,_,rfl,_,_,rfl,rfl,f5,_,_,rfl,rfl,(show (0:Int)<12 by decide),wl,_,_,_,rfl,rfl,SqL.of hw,atx,d2,λ pt hpt=>?_⟩;exact qq (.name x) _ _ (zAD hpt) ⟨pt,rfl,zAB⟩ (lQ 1) hx λ Ω=>qm _
noncomputable def zCd (K:W.Frag) (n:Nat):Sp:=λ vs H Q Ω=>∃(a wl:Addr) (cells:List Int) (ws:List Str) (ld:Bool),vs=[.ref a,.ref wl,.bl ld]/\SqL K H a (cells.map V.int)/\1<=cells.length/\cells.length<=n/\n<=12/\ws.length=12/\H wl=some (.lst (ws.map V.str))/\OutT ws ld (2 * cells.length) H Q
theorem zKQ {k n:Nat}{f g1:Addr}{fd gd1:FuncData}(F:Fun K "_law_tree" "_law_tree" zCj f fd) (z_len:mg "len" = none) (zNP:FnB P w K mg base k "_law_leaf" g1 gd1 ["_law_cell", "_law_words_here", "_law_loud"] zE9)
  (zNQ:FnB P w K mg base k "_law_tree" f fd ["_law_cells", "_law_words_here", "_law_loud"] (zCd K n)):FnOk P w K mg base CX0 (k+1) f fd ["_law_cells", "_law_words_here", "_law_loud"] (zCd K (n+1)):=by
 refine F.ok zBG (λ vs H Q E h=>?_) (λ cdv A outer s H vs Q E hr h=>?_)
 ·obtain⟨a,wl,cells,ws,ld,rfl,_⟩:=h
  rfl
 obtain⟨a,wl,cells,ws,ld,rfl,hS,h1,hn,h12,lw,hw,qq⟩:=h
 refine⟨_,(Sd.un (zAM (zAl (i:=3) zBG.nd rfl (Or.inl rfl) (zBs (r:=rIxL K) zAy ⟨pv 0⟩ ⟨zAJ⟩ (λ Ω Ω=>rfl)))
  (zAM (zAl (i:=4) zBG.nd rfl (Or.inl rfl) ⟨zBB (r:=rSlL K) zB1 (pv 0) (zA6 zAJ) zBc⟩)
  (zAM (zBd ⟨zAP op_eq (zAd zAe (by rfl) z_len PySem.boot_len (zAA (pv 4) zAC)) zAJ (zAb _)⟩ (zAh (zAv ⟨pe_cl zNP hr (zAA (pv 3) (zAA (pv 1) (zAA (pv 2) zAC)))⟩)) ⟨zAO⟩)
  (zAM (zAl (i:=5) zBG.nd rfl (Or.inl rfl) (zBs (r:=rIxL K) zAy ⟨zGq [.str "mul", .str "add", .str "if", .str "mul", .str "say", .str "sub", .str "then", .str "add"] (by rfl)⟩ ⟨pe_op zAq (pv 3) zAJ⟩ (λ Ω Ω=>rfl)))
  (zAM (zBd ⟨(pw_or (zAP op_eq (zAd zAe (by rfl) z_len PySem.boot_len (zAA (pv 4) zAC)) zAJ (zAb _)) (zEE (zAP op_eq (pv 5) zAY (zAb _)))).pt⟩ (zAM (zBd ⟨zBw (pv 2) (λ Ω=>rfl)⟩ (zAh (zAv (zAm (zAI ⟨zAY⟩ (zAI ⟨pe_cl zNQ hr (zAA (pv 4) (zAA (pv 1) (zAA (pv 2) zAC)))⟩ ⟨zAC⟩))))) ⟨zAO⟩)
  (zAh (zAv (zAm (zAI ⟨zAY⟩ (zAI (zAm (zAI ⟨zAY⟩ (zAI (zBs (r:=rIxL K) zAy ⟨pv 1⟩ ⟨pe_op zAq (pe_op zAx (pv 3) zAJ) zAJ⟩ (λ Ω Ω=>rfl)) ⟨zAC⟩))) (zAI ⟨pe_cl zNQ hr (zAA (pv 4) (zAA (pv 1) (zAA (pv 2) zAC)))⟩ ⟨zAC⟩))))))) ⟨zAO⟩)
  (zAM (zAl (i:=6) zBG.nd rfl (Or.inl rfl) ⟨pe_op zEL zAJ (pe_op zAq (pe_op zAx (pv 3) zAJ) (pe_op zK9 (zAd zAe (by rfl) z_len PySem.boot_len (zAA (pv 4) zAC)) zAJ))⟩)
  (zAM (zAl (i:=7) zBG.nd rfl (Or.inl rfl) ⟨pe_cl zNQ hr (zAA (zBB (r:=rSlL K) zB1 (pv 4) zBc (zA6 (pv 6))) (zAA (pv 1) (zAA (pv 2) zAC)))⟩)
  (zAM (zAl (i:=8) zBG.nd rfl (Or.inl rfl) ⟨pe_cl zNQ hr (zAA (zBB (r:=rSlL K) zB1 (pv 4) (zA6 (pv 6)) zBc) (zAA (pv 1) (zAA (pv 2) zAC)))⟩)
  (zAM (zBd ⟨zAP op_eq (pv 5) zAY (zAb _)⟩ (zAh (zAv (zAm (zAI ⟨zAY⟩ (zAI ⟨pv 7⟩ (zAI (zAm (zAI ⟨zAY⟩ (zAI (zBs (r:=rIxL K) zAy ⟨pv 1⟩ ⟨pe_op zAq (pe_op zAx (pv 3) zAJ) zAJ⟩ (λ Ω Ω=>rfl)) ⟨zAC⟩))) (zAI ⟨pv 8⟩ ⟨zAC⟩))))))) ⟨zAO⟩)
  (zAh (zAv (zAm (zAI ⟨pv 5⟩ (zAI ⟨pv 7⟩ (zAI ⟨pv 8⟩ ⟨zAC⟩)))))))))))))))),?_⟩
 have d2:2<=sizeLine:=by decide
 have d3:3<=sizeLine:=by decide
 have d4:4<=sizeLine:=by decide
 have f8:(0:Int)<8/\(8:Int)<1073741824:=⟨by decide,by decide⟩;have f64:(0:Int)<64/\(64:Int)<1073741824:=⟨by decide,by decide⟩;have qm:∀n:Str,QuT (.name n):=λ n=>.node rfl (λ z=>nomatch z) (λ p hp=>nomatch hp)
 have qb:∀(o:Bin) (t1 t2:Tr),QuT t1->QuT t2->QuT (.bin o t1 t2):=λ o t1 t2 h1 h2=>.node (by cases o<;>rfl) (by cases o<;>exact λ z=>nomatch z) λ p hp=>by
  rcases lN.mp hp with rfl|hp
  ·exact h1
  ·rw[List.mem_singleton.mp hp];exact h2
 obtain⟨c,rest,rfl⟩:∃c rest,cells=c::rest:=by
  cases cells with
  |nil=>simp at h1
  |cons c r=>exact⟨c,r,rfl⟩
 have at0:atI ((c::rest).map V.int) 0=some (.int c):=zAZ (j:=0) rfl;refine⟨_,rfl,a,_,0,_,rfl,rfl,hS,at0,?_⟩;refine⟨_,rfl,1,rfl,a,_,rfl,hS,λ pr hpr=>?_⟩;rw[zJp];have k1:=zAD (o:=.lst (rest.map V.int)) hpr;have er:(upd H pr (.lst (rest.map V.int))) pr=some (.lst (rest.map V.int)):=zAB;show tSeq _ _ _ _ (upd H pr (.lst (rest.map V.int)));generalize upd H pr (.lst (rest.map V.int))=H1 at k1 er ⊢;rw[List.length_cons] at hn;rw[List.length_cons] at qq;refine⟨_,rfl,pr,_,rfl,.inl (SqL.of er),rfl,_,rfl,ite2 (λ e0=>?_) (λ e0=>?_)⟩
 ·exact⟨_,rfl,_,rfl,_,rfl,c,wl,ws,ld,rfl,lw,k1 _ _ hw,λ t v H2 g2 r2 s2 a2 b2=>qq t v H2 (k1.trans g2) r2 (by omega) a2 b2⟩
 have hr1:1<=rest.length:=by
  rcases Nat.eq_zero_or_pos rest.length with h|h
  ·exact absurd (lU (by rw[List.length_map,h];rfl)) e0
  ·exact h
 obtain⟨sg,atsg,hsg⟩:=signT c;refine⟨(by show 8<=sizeLine;decide),λ pl hpl=>?_⟩;have k2:=zAD (o:=.lst [.str "mul", .str "add", .str "if", .str "mul", .str "say", .str "sub", .str "then", .str "add"]) hpl;refine⟨_,rfl,_,_,rfl,rfl,(show (0:Int)<8 by decide),pl,_,_,_,rfl,rfl,SqL.of zAB,atsg,?_⟩;have k12:=k1.trans k2;have er2:=k2 _ _ er;show tSeq _ _ _ _ (upd H1 pl _);generalize upd H1 pl (.lst [.str "mul", .str "add", .str "if", .str "mul", .str "say", .str "sub", .str "then", .str "add"])=H2 at k12 er2 ⊢;have hw2:=k12 _ _ hw;have n12:n<=12:=by omega
 refine⟨_,rfl,pr,_,rfl,.inl (SqL.of er2),rfl,_,rfl,ite2 (λ Ω=>iteT ?_) (λ e1=>⟨_,rfl,rfl,_,rfl,ite2 (λ Ω=>?_) (λ e2=>?_)⟩)⟩
 iterate 2
  ·refine⟨_,rfl,ld,rfl,ite2 (λ e=>?_) (λ e=>?_)⟩
   ·have no:ld=false->False:=λ z=>by rw[z] at e;cases e
    refine⟨_,rfl,_,rfl,_,rfl,pr,wl,rest,ws,ld,rfl,SqL.of er2,hr1,by omega,n12,lw,hw2,λ t1 v1 H4 g4 r1 s1 a1 b1=>⟨d2,λ pt hpt=>?_⟩⟩;have k7:=zAD (o:=.tup [.str "say", v1]) hpt;refine qq (.say t1) _ _ (k12.trans (g4.trans k7)) ⟨pt,v1,rfl,zAB,r1.mono k7.tk⟩ ?_ a1 λ z=>(no z).elim;show t1.size+1<=_;omega
   ·obtain⟨x,hx,atx⟩:=pickS (L:=ws) (i:=c / 8 % 12) (by omega) (by omega)
    refine⟨_,rfl,_,rfl,_,_,rfl,rfl,f8,_,_,rfl,rfl,(show (0:Int)<12 by decide),wl,_,_,_,rfl,rfl,SqL.of hw2,atx,d2,λ pn hpn=>?_⟩;have k6:=zAD (o:=.tup [.str "name", .str x]) hpn;refine⟨_,rfl,_,rfl,_,rfl,pr,wl,rest,ws,ld,rfl,SqL.of (k6 _ _ er2),hr1,by omega,n12,lw,k6 _ _ hw2,λ t1 v1 H4 g4 r1 s1 a1 b1=>⟨d3,λ pt hpt=>?_⟩⟩;have k7:=zAD (o:=.tup [.str "sub", .ref pn,v1]) hpt;have k67:=g4.trans k7;refine qq (.bin .sub (.name x) t1) _ _ (k12.trans (k6.trans k67)) ⟨pt,.ref pn,v1,rfl,zAB,⟨pn,rfl,k67 _ _ zAB⟩,r1.mono k7.tk⟩ ?_ ⟨hx,a1⟩ λ z=>qb _ _ _ (qm _) (b1 z);show 1+t1.size+1<=_;omega
 have hr2:2<=rest.length:=by
  rcases Nat.lt_or_ge rest.length 2 with h|h
  ·exact absurd (lU (by rw[List.length_map,show rest.length=1 by omega];rfl)) e1
  ·exact h
 have hns:sg ≠ "say" := λ z=>e2 (lU (by rw[z]));have m0:=Int.emod_nonneg (c / 8) (show (rest.length:Int) - 1≠0 by omega);have m1:=Int.emod_lt_of_pos (c / 8) (show (0:Int)<(rest.length:Int) - 1 by omega);obtain⟨cn,ecn⟩:∃cn:Nat,(cn:Int)=1+c / 8 % ((rest.length:Int) - 1):=⟨(1+c / 8 % ((rest.length:Int) - 1)).toNat,by omega⟩;have lm:((rest.map V.int).length:Int)=(rest.length:Int):=by rw[List.length_map]
 refine⟨_,rfl,_,_,rfl,rfl,f8,_,rfl,pr,_,rfl,.inl (SqL.of er2),_,_,rfl,rfl,_,_,rfl,rfl,(by show (0:Int)<((rest.map V.int).length:Int) - 1;omega),_,_,rfl,rfl,?_⟩;dsimp only;rw[lm,←ecn];have c1:1<=cn:=by omega
 have c2:cn+1<=rest.length:=by omega
 refine⟨_,rfl,_,rfl,_,rfl,pr,_,rfl,SqL.of er2,λ p1 hp1=>?_⟩;rw[zLK rest cn (by omega)];have k3:=zAD (o:=.lst ((rest.take cn).map V.int)) hp1;have e3:(upd H2 p1 (.lst ((rest.take cn).map V.int))) p1=some (.lst ((rest.take cn).map V.int)):=zAB;generalize upd H2 p1 (.lst ((rest.take cn).map V.int))=H3 at k3 e3 ⊢;refine⟨_,rfl,_,rfl,p1,wl,rest.take cn,ws,ld,rfl,SqL.of e3,by simp;omega,by simp;omega,n12,lw,k3 _ _ hw2,λ t1 v1 H4 g4 r1 s1 a1 b1=>?_⟩;have g24:=k3.trans g4;rw[List.length_take,Nat.min_eq_left (by omega)] at s1;refine⟨_,rfl,_,rfl,_,rfl,pr,_,rfl,SqL.of (g24 _ _ er2),λ p2 hp2=>?_⟩;rw[zLJ rest cn (by omega)];have k5:=zAD (o:=.lst ((rest.drop cn).map V.int)) hp2;have e5:(upd H4 p2 (.lst ((rest.drop cn).map V.int))) p2=some (.lst ((rest.drop cn).map V.int)):=zAB;generalize upd H4 p2 (.lst ((rest.drop cn).map V.int))=H5 at k5 e5 ⊢;have g25:=g24.trans k5;refine⟨_,rfl,_,rfl,p2,wl,rest.drop cn,ws,ld,rfl,SqL.of e5,by simp;omega,by simp;omega,n12,lw,g25 _ _ hw2,λ t2 v2 H6 g6 r2 s2 a2 b2=>?_⟩;rw[List.length_drop] at s2;have g26:=g25.trans g6;have r1':=r1.mono (k5.trans g6).tk;have G:=k12.trans g26;refine⟨_,rfl,rfl,_,rfl,ite2 (λ Ω=>?_) (λ ni=>?_)⟩
 ·obtain⟨x,hx,atx⟩:=pickS (L:=ws) (i:=c / 64 % 12) (by omega) (by omega)
  refine⟨_,rfl,_,rfl,_,rfl,_,_,rfl,rfl,f64,_,_,rfl,rfl,(show (0:Int)<12 by decide),wl,_,_,_,rfl,rfl,SqL.of (g26 _ _ hw2),atx,d2,λ pn hpn=>⟨_,rfl,d4,λ pt hpt=>?_⟩⟩;have k7:=zAD (o:=.tup [.str "name", .str x]) hpn;have k8:=zAD (o:=.tup [.str "if", v1,.ref pn,v2]) hpt;have k78:=k7.trans k8;refine qq (.ite t1 (.name x) t2) _ _ (G.trans k78) ⟨pt,v1,.ref pn,v2,rfl,zAB,r1'.mono k78.tk,⟨pn,rfl,k8 _ _ zAB⟩,r2.mono k78.tk⟩ ?_ ⟨a1,hx,a2⟩ λ z=>.node rfl (λ y=>nomatch y) λ p hp=>?_
  ·show t1.size+1+t2.size+1<=_
   omega
  ·have:p=t1\/p = .name x\/p=t2:=by simpa[Tr.parts] using hp
   rcases this with rfl|rfl|rfl
   ·exact b1 z
   ·exact qm _
   ·exact b2 z
 ·obtain⟨o,rfl⟩:∃o:Bin,sg=o.s:=by
   rcases hsg with h|h|h
   ·exact h
   ·exact absurd (lU (by rw[h])) ni
   ·exact absurd h hns
  refine⟨_,rfl,_,rfl,_,rfl,d3,λ pt hpt=>?_⟩;have k7:=zAD (o:=.tup [.str o.s,v1,v2]) hpt;refine qq (.bin o t1 t2) _ _ (G.trans k7) ⟨pt,v1,v2,rfl,zAB,r1'.mono k7.tk,r2.mono k7.tk⟩ ?_ ⟨a1,a2⟩ λ z=>qb _ _ _ (b1 z) (b2 z);show t1.size+t2.size+1<=_;omega
theorem zIE {k:Nat}{f:Addr}{fd:FuncData}:FnOk P w K mg base CX0 k f fd ["_law_cells", "_law_words_here", "_law_loud"] (zCd K 0):=by
 have no:∀vs H Q E,¬zCd K 0 vs H Q E:=λ vs H Q E h=>by
  obtain⟨a,wl,cells,ws,ld,_,_,h1,h0,_⟩:=h;omega
 exact⟨λ vs H Q E h=>absurd h (no vs H Q E),λ A outer s H args us vs Q E Ω Ω Ω Ω h=>absurd h (no vs H Q E)⟩
theorem zGS {k:Nat}{f g1:Addr}{fd gd1:FuncData}(F:Fun K "_law_tree" "_law_tree" zCj f fd) (b:Binds K fd ["_law_cells", "_law_words_here", "_law_loud"] []) (m:mg "_law_tree" = some (.ref f)) (z_len:mg "len" = none)
  (G:FnB P w K mg base k "_law_leaf" g1 gd1 ["_law_cell", "_law_words_here", "_law_loud"] zE9):∀n:Nat,FnB P w K mg base (k+n) "_law_tree" f fd ["_law_cells", "_law_words_here", "_law_loud"] (zCd K n)
 |0=>⟨zIE,b,F.kp,m⟩
 |n+1=>⟨zKQ F z_len (G.up (Nat.le_add_right _ _)) (zGS F b m z_len G n),b,F.kp,m⟩
abbrev zCm:Stmt:=top 68
theorem zBH:zAR ["_law_cells", "_law_words_here", "_law_cell", "_law_rest", "_law_sign", "_law_cut", "_law_one", "_law_other"] ["_law_cells", "_law_words_here"] (zAG zCm):=⟨rfl,rfl,rfl,by decide +kernel,rfl,by decide +kernel,by decide +kernel⟩
theorem signL (z:Int):∃s:Str,atI [V.str "then", .str "add", .str "if", .str "mul", .str "say", .str "sub", .str "then", .str "say"] (z % 8)=some (.str s)/\((∃o:Bin,s=o.s)\/s = "if" \/ s = "say"):=by
 have h0:=Int.emod_nonneg z (show (8:Int)≠0 by decide);have h1:=Int.emod_lt_of_pos z (show (0:Int)<8 by decide);have h:z % 8=0\/z % 8=1\/z % 8=2\/z % 8=3\/z % 8=4\/z % 8=5\/z % 8=6\/z % 8=7:=by omega
 rcases h with h|h|h|h|h|h|h|h<;>rw[h]
 ·exact⟨"then", rfl,.inl ⟨.thn,rfl⟩⟩
 ·exact⟨"add", rfl,.inl ⟨.add,rfl⟩⟩
 ·exact⟨"if", rfl,.inr (.inl rfl)⟩
 ·exact⟨"mul", rfl,.inl ⟨.mul,rfl⟩⟩
 ·exact⟨"say", rfl,.inr (.inr rfl)⟩
 ·exact⟨"sub", rfl,.inl ⟨.sub,rfl⟩⟩
 ·exact⟨"then", rfl,.inl ⟨.thn,rfl⟩⟩
 ·exact⟨"say", rfl,.inr (.inr rfl)⟩
noncomputable def OutL (ws:List Str) (n:Nat) (H:Hp) (Q:VK):Prop:=∀(t:Tr) (v:V) (H':Hp),Same H H'->Rep H' t v->t.size<=n->LfG t->(∀g∈gset t,g∈ws)->Q v H'
noncomputable def zCf (K:W.Frag) (n:Nat):Sp:=λ vs H Q Ω=>∃(a wl:Addr) (cells:List Int) (ws:List Str),vs=[.ref a,.ref wl]/\SqL K H a (cells.map V.int)/\1<=cells.length/\cells.length<=n/\n<=12/\ws.length=12/\H wl=some (.lst (ws.map V.str))/\OutL ws (2 * cells.length) H Q
theorem zKS {k n:Nat}{f:Addr}{fd:FuncData}(F:Fun K "_law_left" "_law_left" zCm f fd) (z_len:mg "len" = none)
  (zNR:FnB P w K mg base k "_law_left" f fd ["_law_cells", "_law_words_here"] (zCf K n)):FnOk P w K mg base CX0 (k+1) f fd ["_law_cells", "_law_words_here"] (zCf K (n+1)):=by
 refine F.ok zBH (λ vs H Q E h=>?_) (λ cdv A outer s H vs Q E hr h=>?_)
 ·obtain⟨a,wl,cells,ws,rfl,_⟩:=h
  rfl
 obtain⟨a,wl,cells,ws,rfl,hS,h1,hn,h12,lw,hw,qq⟩:=h
 refine⟨_,(Sd.un (zAM (zAl (i:=2) zBH.nd rfl (Or.inl rfl) (zBs (r:=rIxL K) zAy ⟨pv 0⟩ ⟨zAJ⟩ (λ Ω Ω=>rfl)))
  (zAM (zAl (i:=3) zBH.nd rfl (Or.inl rfl) ⟨zBB (r:=rSlL K) zB1 (pv 0) (zA6 zAJ) zBc⟩)
  (zAM (zBd ⟨zAP op_eq (zAd zAe (by rfl) z_len PySem.boot_len (zAA (pv 3) zAC)) zAJ (zAb _)⟩ (zAM (zBd ⟨zAP op_eq (pe_op zAq (pv 2) zAJ) zAJ (zAb _)⟩ (zAh (zAv (zAm (zAI ⟨zAY⟩ (zAI ⟨pe_op zAq (pe_op zAx (pv 2) zAJ) (pe_op zEx zAJ zAJ)⟩ ⟨zAC⟩))))) ⟨zAO⟩)
  (zAM (zBd ⟨zAP op_eq (pe_op zAq (pv 2) zAJ) zAJ (zAb _)⟩ (zAh (zAv (zAm (zAI (zBs (r:=rIxL K) zAy (zEI (zAI ⟨zAY⟩ (zAI ⟨zAY⟩ ⟨zAC⟩))) ⟨pe_op zAq (pe_op zAx (pv 2) zAJ) zAJ⟩ (λ Ω Ω=>rfl)) (zAI (zBs (r:=rIxL K) zAy ⟨pv 1⟩ ⟨pe_op zAq (pe_op zAx (pv 2) zAJ) zAJ⟩ (λ Ω Ω=>rfl)) ⟨zAC⟩))))) ⟨zAO⟩)
  (zAh (zAv (zAm (zAI ⟨zAY⟩ (zAI (zBs (r:=rIxL K) zAy ⟨pv 1⟩ ⟨pe_op zAq (pe_op zAx (pv 2) zAJ) zAJ⟩ (λ Ω Ω=>rfl)) (zAI (zAm ⟨zAC⟩) ⟨zAC⟩)))))))) ⟨zAO⟩)
  (zAM (zAl (i:=4) zBH.nd rfl (Or.inl rfl) (zBs (r:=rIxL K) zAy ⟨zGq [.str "then", .str "add", .str "if", .str "mul", .str "say", .str "sub", .str "then", .str "say"] (by rfl)⟩ ⟨pe_op zAq (pv 2) zAJ⟩ (λ Ω Ω=>rfl)))
  (zAM (zBd ⟨(pw_or (zAP op_eq (zAd zAe (by rfl) z_len PySem.boot_len (zAA (pv 3) zAC)) zAJ (zAb _)) (zEE (zAP op_eq (pv 4) zAY (zAb _)))).pt⟩ (zAM (zBd ⟨zAP op_eq (pe_op zAq (pe_op zAx (pv 2) zAJ) zAJ) zAJ (zAb _)⟩ (zAh (zAv (zAm (zAI ⟨zAY⟩ (zAI ⟨pe_cl zNR hr (zAA (pv 3) (zAA (pv 1) zAC))⟩ ⟨zAC⟩))))) ⟨zAO⟩)
  (zAh (zAv (zAm (zAI ⟨zAY⟩ (zAI (zAm (zAI ⟨zAY⟩ (zAI (zBs (r:=rIxL K) zAy ⟨pv 1⟩ ⟨pe_op zAq (pe_op zAx (pv 2) zAJ) zAJ⟩ (λ Ω Ω=>rfl)) (zAI (zAm ⟨zAC⟩) ⟨zAC⟩)))) (zAI ⟨pe_cl zNR hr (zAA (pv 3) (zAA (pv 1) zAC))⟩ ⟨zAC⟩))))))) ⟨zAO⟩)
  (zAM (zAl (i:=5) zBH.nd rfl (Or.inl rfl) ⟨pe_op zEL zAJ (pe_op zAq (pe_op zAx (pv 2) zAJ) (pe_op zK9 (zAd zAe (by rfl) z_len PySem.boot_len (zAA (pv 3) zAC)) zAJ))⟩)
  (zAM (zAl (i:=6) zBH.nd rfl (Or.inl rfl) ⟨pe_cl zNR hr (zAA (zBB (r:=rSlL K) zB1 (pv 3) zBc (zA6 (pv 5))) (zAA (pv 1) zAC))⟩)
  (zAM (zAl (i:=7) zBH.nd rfl (Or.inl rfl) ⟨pe_cl zNR hr (zAA (zBB (r:=rSlL K) zB1 (pv 3) (zA6 (pv 5)) zBc) (zAA (pv 1) zAC))⟩)
  (zAM (zBd ⟨zAP op_eq (pv 4) zAY (zAb _)⟩ (zAh (zAv (zAm (zAI ⟨zAY⟩ (zAI ⟨pv 6⟩ (zAI (zAm (zAI ⟨zAY⟩ (zAI (zBs (r:=rIxL K) zAy ⟨pv 1⟩ ⟨pe_op zAq (pe_op zAx (pv 2) zAJ) zAJ⟩ (λ Ω Ω=>rfl)) (zAI (zAm ⟨zAC⟩) ⟨zAC⟩)))) (zAI ⟨pv 7⟩ ⟨zAC⟩))))))) ⟨zAO⟩)
  (zAh (zAv (zAm (zAI ⟨pv 4⟩ (zAI ⟨pv 6⟩ (zAI ⟨pv 7⟩ ⟨zAC⟩)))))))))))))))),?_⟩
 have d2:2<=sizeLine:=by decide
 have d3:3<=sizeLine:=by decide
 have d4:4<=sizeLine:=by decide
 have f8:(0:Int)<8/\(8:Int)<1073741824:=⟨by decide,by decide⟩;have f64:(0:Int)<64/\(64:Int)<1073741824:=⟨by decide,by decide⟩;have f4:(0:Int)<4/\(4:Int)<1073741824:=⟨by decide,by decide⟩;have f16:(0:Int)<16/\(16:Int)<1073741824:=⟨by decide,by decide⟩;have f32:(0:Int)<32/\(32:Int)<1073741824:=⟨by decide,by decide⟩;have d0:0<=sizeLine:=by decide
 have gN:∀t:Tr,¬t.kd = .gap->(∀p∈t.parts,∀g∈gset p,g∈ws)->∀g∈gset t,g∈ws:=λ t ht h g hg=>by
  rw[zBY ht] at hg;obtain⟨p,hp,hg⟩:=List.mem_flatMap.mp hg;exact h p hp g hg
 have gG:∀x:Str,x∈ws->∀g∈gset (.gap x []),g∈ws:=λ x hx g hg=>by
  rw[zCq] at hg;rw[List.mem_singleton.mp hg];exact hx
 have gB:∀(o:Bin) (t1 t2:Tr),(∀g∈gset t1,g∈ws)->(∀g∈gset t2,g∈ws)->∀g∈gset (.bin o t1 t2),g∈ws:=λ o t1 t2 h1 h2=>gN _ (by cases o<;>exact λ z=>nomatch z) λ p hp=>by
  rcases lN.mp hp with rfl|hp
  ·exact h1
  ·rw[List.mem_singleton.mp hp];exact h2
 obtain⟨c,rest,rfl⟩:∃c rest,cells=c::rest:=by
  cases cells with
  |nil=>simp at h1
  |cons c r=>exact⟨c,r,rfl⟩
 have at0:atI ((c::rest).map V.int) 0=some (.int c):=zAZ (j:=0) rfl;refine⟨_,rfl,a,_,0,_,rfl,rfl,hS,at0,?_⟩;refine⟨_,rfl,1,rfl,a,_,rfl,hS,λ pr hpr=>?_⟩;rw[zJp];have k1:=zAD (o:=.lst (rest.map V.int)) hpr;have er:(upd H pr (.lst (rest.map V.int))) pr=some (.lst (rest.map V.int)):=zAB;show tSeq _ _ _ _ (upd H pr (.lst (rest.map V.int)));generalize upd H pr (.lst (rest.map V.int))=H1 at k1 er ⊢;rw[List.length_cons] at hn;rw[List.length_cons] at qq;refine⟨_,rfl,pr,_,rfl,.inl (SqL.of er),rfl,_,rfl,ite2 (λ e0=>?_) (λ e0=>?_)⟩
 ·have one:1<=2 * (rest.length+1):=by omega
  refine⟨_,rfl,_,_,rfl,rfl,(show (0:Int)<4 by decide),rfl,_,rfl,ite2 (λ Ω=>?_) (λ Ω=>?_)⟩
  ·refine⟨_,rfl,_,_,rfl,rfl,f4,_,_,rfl,rfl,⟨by decide,by decide,by decide⟩,_,_,rfl,rfl,(show (0:Int)<10 ^ 30 by decide),d2,λ pt hpt=>?_⟩
   exact qq (.num _) _ _ (k1.trans (zAD hpt)) ⟨pt,rfl,zAB⟩ one trivial (gN _ (λ z=>nomatch z) (λ p hp=>nomatch hp))
  refine⟨_,rfl,_,_,rfl,rfl,(show (0:Int)<16 by decide),rfl,_,rfl,ite2 (λ Ω=>?_) (λ Ω=>?_)⟩
  ·obtain⟨x,hx,atx⟩:=pickS (L:=ws) (i:=c / 32 % 12) (by omega) (by omega)
   obtain⟨v,hv,ev⟩:∃v,v∈[V.str "ask", V.str "stop"]/\atI [V.str "ask", V.str "stop"] (c / 16 % 2)=some v:=by
    rcases (show c / 16 % 2=0\/c / 16 % 2=1 by omega) with e|e<;>rw[e]
    ·exact⟨_,by simp,rfl⟩
    ·exact⟨_,by simp,rfl⟩
   refine⟨d2,λ p0 hp0=>⟨_,rfl,_,_,rfl,rfl,f16,_,_,rfl,rfl,(show (0:Int)<2 by decide),p0,_,_,_,rfl,rfl,SqL.of zAB,ev,?_⟩⟩;have k2:=zAD (o:=.lst [.str "ask", .str "stop"]) hp0;refine⟨_,rfl,_,rfl,_,_,rfl,rfl,f32,_,_,rfl,rfl,(show (0:Int)<12 by decide),wl,_,_,_,rfl,rfl,SqL.of (k2 _ _ (k1 _ _ hw)),atx,d2,λ pt hpt=>?_⟩;simp only[List.mem_cons,List.not_mem_nil,or_false] at hv;rcases hv with rfl|rfl
   ·exact qq (.ask x) _ _ (k1.trans (k2.trans (zAD hpt))) ⟨pt,rfl,zAB⟩ one trivial (gN _ (λ z=>nomatch z) (λ p hp=>nomatch hp))
   ·exact qq (.stop x) _ _ (k1.trans (k2.trans (zAD hpt))) ⟨pt,rfl,zAB⟩ one trivial (gN _ (λ z=>nomatch z) (λ p hp=>nomatch hp))
  ·obtain⟨x,hx,atx⟩:=pickS (L:=ws) (i:=c / 4 % 6) (by omega) (by omega)
   refine⟨_,rfl,_,rfl,_,_,rfl,rfl,f4,_,_,rfl,rfl,(show (0:Int)<6 by decide),wl,_,_,_,rfl,rfl,SqL.of (k1 _ _ hw),atx,d0,λ p0 hp0=>⟨d3,λ pt hpt=>?_⟩⟩;have k2:=zAD (o:=.tup []) hp0;have k3:=zAD (o:=.tup [.str "gap", .str x,.ref p0]) hpt;exact qq (.gap x []) _ _ (k1.trans (k2.trans k3)) ⟨pt,p0,[],rfl,zAB,k3 _ _ zAB,by decide,.nil⟩ one rfl (gG x hx)
 have hr1:1<=rest.length:=by
  rcases Nat.eq_zero_or_pos rest.length with h|h
  ·exact absurd (lU (by rw[List.length_map,h];rfl)) e0
  ·exact h
 obtain⟨sg,atsg,hsg⟩:=signL c;refine⟨(by show 8<=sizeLine;decide),λ pl hpl=>?_⟩;have k2:=zAD (o:=.lst [.str "then", .str "add", .str "if", .str "mul", .str "say", .str "sub", .str "then", .str "say"]) hpl;refine⟨_,rfl,_,_,rfl,rfl,(show (0:Int)<8 by decide),pl,_,_,_,rfl,rfl,SqL.of zAB,atsg,?_⟩;have k12:=k1.trans k2;have er2:=k2 _ _ er;show tSeq _ _ _ _ (upd H1 pl _);generalize upd H1 pl (.lst [.str "then", .str "add", .str "if", .str "mul", .str "say", .str "sub", .str "then", .str "say"])=H2 at k12 er2 ⊢;have hw2:=k12 _ _ hw;have n12:n<=12:=by omega
 refine⟨_,rfl,pr,_,rfl,.inl (SqL.of er2),rfl,_,rfl,ite2 (λ Ω=>iteT ?_) (λ e1=>⟨_,rfl,rfl,_,rfl,ite2 (λ Ω=>?_) (λ e2=>?_)⟩)⟩
 iterate 2
  ·refine⟨_,rfl,_,_,rfl,rfl,f8,_,_,rfl,rfl,(show (0:Int)<2 by decide),rfl,_,rfl,ite2 (λ Ω=>?_) (λ Ω=>?_)⟩
   ·refine⟨_,rfl,_,rfl,pr,wl,rest,ws,rfl,SqL.of er2,hr1,by omega,n12,lw,hw2,λ t1 v1 H4 g4 r1 s1 a1 b1=>⟨d2,λ pt hpt=>?_⟩⟩
    have k7:=zAD (o:=.tup [.str "say", v1]) hpt;refine qq (.say t1) _ _ (k12.trans (g4.trans k7)) ⟨pt,v1,rfl,zAB,r1.mono k7.tk⟩ ?_ a1 (gN _ (λ z=>nomatch z) λ p hp=>by rw[List.mem_singleton.mp hp];exact b1)
    show t1.size+1<=_;omega
   ·obtain⟨x,hx,atx⟩:=pickS (L:=ws) (i:=c / 16 % 6) (by omega) (by omega)
    refine⟨_,rfl,_,rfl,_,_,rfl,rfl,f16,_,_,rfl,rfl,(show (0:Int)<6 by decide),wl,_,_,_,rfl,rfl,SqL.of hw2,atx,d0,λ p0 hp0=>⟨d3,λ pn hpn=>?_⟩⟩;have k5:=zAD (o:=.tup []) hp0;have k6':=zAD (o:=.tup [.str "gap", .str x,.ref p0]) hpn;have k6:=k5.trans k6';have tp:=k6' _ _ (zAB (H:=H2) (a:=p0) (o:=.tup []));refine⟨_,rfl,_,rfl,pr,wl,rest,ws,rfl,SqL.of (k6 _ _ er2),hr1,by omega,n12,lw,k6 _ _ hw2,λ t1 v1 H4 g4 r1 s1 a1 b1=>⟨d3,λ pt hpt=>?_⟩⟩;have k7:=zAD (o:=.tup [.str "sub", .ref pn,v1]) hpt;have k67:=g4.trans k7;refine qq (.bin .sub (.gap x []) t1) _ _ (k12.trans (k6.trans k67)) ⟨pt,.ref pn,v1,rfl,zAB,⟨pn,p0,[],rfl,k67 _ _ zAB,k67 _ _ tp,by decide,.nil⟩,r1.mono k7.tk⟩ ?_ ⟨rfl,a1⟩ (gB _ _ _ (gG x hx) b1);show 1+t1.size+1<=_;omega
 have hr2:2<=rest.length:=by
  rcases Nat.lt_or_ge rest.length 2 with h|h
  ·exact absurd (lU (by rw[List.length_map,show rest.length=1 by omega];rfl)) e1
  ·exact h
 have hns:sg ≠ "say" := λ z=>e2 (lU (by rw[z]));have m0:=Int.emod_nonneg (c / 8) (show (rest.length:Int) - 1≠0 by omega);have m1:=Int.emod_lt_of_pos (c / 8) (show (0:Int)<(rest.length:Int) - 1 by omega);obtain⟨cn,ecn⟩:∃cn:Nat,(cn:Int)=1+c / 8 % ((rest.length:Int) - 1):=⟨(1+c / 8 % ((rest.length:Int) - 1)).toNat,by omega⟩;have lm:((rest.map V.int).length:Int)=(rest.length:Int):=by rw[List.length_map]
 refine⟨_,rfl,_,_,rfl,rfl,f8,_,rfl,pr,_,rfl,.inl (SqL.of er2),_,_,rfl,rfl,_,_,rfl,rfl,(by show (0:Int)<((rest.map V.int).length:Int) - 1;omega),_,_,rfl,rfl,?_⟩;dsimp only;rw[lm,←ecn];have c1:1<=cn:=by omega
 have c2:cn+1<=rest.length:=by omega
 refine⟨_,rfl,_,rfl,_,rfl,pr,_,rfl,SqL.of er2,λ p1 hp1=>?_⟩;rw[zLK rest cn (by omega)];have k3:=zAD (o:=.lst ((rest.take cn).map V.int)) hp1;have e3:(upd H2 p1 (.lst ((rest.take cn).map V.int))) p1=some (.lst ((rest.take cn).map V.int)):=zAB;generalize upd H2 p1 (.lst ((rest.take cn).map V.int))=H3 at k3 e3 ⊢;refine⟨_,rfl,p1,wl,rest.take cn,ws,rfl,SqL.of e3,by simp;omega,by simp;omega,n12,lw,k3 _ _ hw2,λ t1 v1 H4 g4 r1 s1 a1 b1=>?_⟩;have g24:=k3.trans g4;rw[List.length_take,Nat.min_eq_left (by omega)] at s1;refine⟨_,rfl,_,rfl,_,rfl,pr,_,rfl,SqL.of (g24 _ _ er2),λ p2 hp2=>?_⟩;rw[zLJ rest cn (by omega)];have k5:=zAD (o:=.lst ((rest.drop cn).map V.int)) hp2;have e5:(upd H4 p2 (.lst ((rest.drop cn).map V.int))) p2=some (.lst ((rest.drop cn).map V.int)):=zAB;generalize upd H4 p2 (.lst ((rest.drop cn).map V.int))=H5 at k5 e5 ⊢;have g25:=g24.trans k5;refine⟨_,rfl,p2,wl,rest.drop cn,ws,rfl,SqL.of e5,by simp;omega,by simp;omega,n12,lw,g25 _ _ hw2,λ t2 v2 H6 g6 r2 s2 a2 b2=>?_⟩;rw[List.length_drop] at s2;have g26:=g25.trans g6;have r1':=r1.mono (k5.trans g6).tk;have G:=k12.trans g26;refine⟨_,rfl,rfl,_,rfl,ite2 (λ Ω=>?_) (λ ni=>?_)⟩
 ·obtain⟨x,hx,atx⟩:=pickS (L:=ws) (i:=c / 64 % 6) (by omega) (by omega)
  refine⟨_,rfl,_,rfl,_,rfl,_,_,rfl,rfl,f64,_,_,rfl,rfl,(show (0:Int)<6 by decide),wl,_,_,_,rfl,rfl,SqL.of (g26 _ _ hw2),atx,d0,λ p0 hp0=>⟨d3,λ pn hpn=>⟨_,rfl,d4,λ pt hpt=>?_⟩⟩⟩;have k6:=zAD (o:=.tup []) hp0;have k7:=zAD (o:=.tup [.str "gap", .str x,.ref p0]) hpn;have k8:=zAD (o:=.tup [.str "if", v1,.ref pn,v2]) hpt;have k78:=k6.trans (k7.trans k8);refine qq (.ite t1 (.gap x []) t2) _ _ (G.trans k78) ⟨pt,v1,.ref pn,v2,rfl,zAB,r1'.mono k78.tk,⟨pn,p0,[],rfl,k8 _ _ zAB,k8 _ _ (k7 _ _ zAB),by decide,.nil⟩,r2.mono k78.tk⟩ ?_ ⟨a1,rfl,a2⟩ (gN _ (λ z=>nomatch z) λ p hp=>?_)
  ·show t1.size+1+t2.size+1<=_
   omega
  ·have:p=t1\/p = .gap x []\/p=t2:=by simpa[Tr.parts] using hp
   rcases this with rfl|rfl|rfl
   ·exact b1
   ·exact gG x hx
   ·exact b2
 ·obtain⟨o,rfl⟩:∃o:Bin,sg=o.s:=by
   rcases hsg with h|h|h
   ·exact h
   ·exact absurd (lU (by rw[h])) ni
   ·exact absurd h hns
  refine⟨_,rfl,_,rfl,_,rfl,d3,λ pt hpt=>?_⟩;have k7:=zAD (o:=.tup [.str o.s,v1,v2]) hpt;refine qq (.bin o t1 t2) _ _ (G.trans k7) ⟨pt,v1,v2,rfl,zAB,r1'.mono k7.tk,r2.mono k7.tk⟩ ?_ ⟨a1,a2⟩ (gB _ _ _ b1 b2);show t1.size+t2.size+1<=_;omega
theorem zIG {k:Nat}{f:Addr}{fd:FuncData}:FnOk P w K mg base CX0 k f fd ["_law_cells", "_law_words_here"] (zCf K 0):=by
 have no:∀vs H Q E,¬zCf K 0 vs H Q E:=λ vs H Q E h=>by
  obtain⟨a,wl,cells,ws,_,_,h1,h0,_⟩:=h;omega
 exact⟨λ vs H Q E h=>absurd h (no vs H Q E),λ A outer s H args us vs Q E Ω Ω Ω Ω h=>absurd h (no vs H Q E)⟩
theorem zGU {k:Nat}{f:Addr}{fd:FuncData}(F:Fun K "_law_left" "_law_left" zCm f fd) (b:Binds K fd ["_law_cells", "_law_words_here"] []) (m:mg "_law_left" = some (.ref f)) (z_len:mg "len" = none):∀n:Nat,FnB P w K mg base (k+n) "_law_left" f fd ["_law_cells", "_law_words_here"] (zCf K n)
 |0=>⟨zIG,b,F.kp,m⟩
 |n+1=>⟨zKS F z_len (zGU F b m z_len n),b,F.kp,m⟩
abbrev zCn:Stmt:=top 69
theorem zD7:zAR ["_law_shape", "_law_found", "_law_part"] ["_law_shape", "_law_found"] (zAG zCn):=⟨rfl,rfl,rfl,by decide +kernel,rfl,by decide +kernel,by decide +kernel⟩
abbrev zC1:Stmt:=top 70
theorem zFs:zAR ["_law_cells", "_law_kind", "_law_words_here"] ["_law_cells", "_law_kind", "_law_words_here"] (zAG zC1):=⟨rfl,rfl,rfl,by decide +kernel,rfl,by decide +kernel,by decide +kernel⟩
abbrev zCl:Stmt:=top 71
theorem zCC:zAR ["_law_shape", "_law_pieces", "_law_some", "_law_part"] ["_law_shape", "_law_pieces"] (zAG zCl):=⟨rfl,rfl,rfl,by decide +kernel,rfl,by decide +kernel,by decide +kernel⟩
noncomputable def zCg (n:Nat):Sp:=λ vs H Q Ω=>∃(t:Tr) (v:V) (d:Addr) (kvs:List (Key × V)) (S:List Str),vs=[v,.ref d]/\t.size<=n/\Rep H t v/\LfG t/\H d=some (.dK kvs)/\Gk S kvs/\kvs.length+(gset t).length<=900 /\
 ∀(kvs':List (Key × V)) (H':Hp),SbD d H H'->H' d=some (.dK kvs')->Gk (S++gset t) kvs'->kvs'.length<=kvs.length+(gset t).length->Q .non H'
theorem zKU {k n:Nat}{f:Addr}{fd:FuncData}(F:Fun K "_law_gaps" "_law_gaps" zCn f fd) (z_isinstance:mg "isinstance" = none) (z_tuple:mg "tuple" = none)
  (zNS:FnB P w K mg base k "_law_gaps" f fd ["_law_shape", "_law_found"] (zCg n)):FnOk P w K mg base CX0 (k+1) f fd ["_law_shape", "_law_found"] (zCg (n+1)):=by
 refine F.ok zD7 (λ vs H Q E h=>?_) (λ cdv A outer s H vs Q E hr h=>?_)
 ·obtain⟨t,v,d,kvs,S,rfl,_⟩:=h
  rfl
 obtain⟨t,v,d,kvs,S,rfl,hn,hR,hG,hd,gd,hsz,q⟩:=h;have hu:=hu_of hr;refine⟨_,(zAF (ps_if (zAP op_eq (iC (r:=rIxT K) zAW (pv 0)) zAY (zAb _)) (zAF (zDZ hu (pv 1) (iC (r:=rIxT K) zAW (pv 0)) pe_bl rfl)) (zAF (zAn PassesOwn.never rfl (zCt (zBB zIn (pv 0) (zA6 zAJ) zBc)) (zAN (i:=2) zD7.nd rfl (Or.inl rfl)) (zAF (ps_if (zBq (zAd zBa (by rfl) z_isinstance PyProof.Rows.boot_isinstance (zAA (pv 2) (zAA (zBt (v:=.ty _) (by rfl) z_tuple PyProof.Rows.boot_tuple (by rfl)) zAC)))) (zAF (zAw (pe_cl zNS hr (zAA (pv 2) (zAA (pv 1) zAC))))) zAO)))))),?_⟩;have hR0:=hR;obtain⟨a0,hs0,us0,rfl,ha0,hl0,hp0⟩:=hR.all;have at0:atI (V.str t.kd.s::hs0++us0) 0=some (.str t.kd.s):=zAZ (j:=0) rfl;refine⟨_,rfl,a0,_,0,_,rfl,rfl,SqT.of ha0,at0,rfl,_,rfl,ite2 (λ c=>?_) (λ c=>?_)⟩
 ·have z:t.kd = .gap:=Kd.eq_iff.mp (lS c)
  cases t with
  |gap gx as =>
   obtain⟨a',b',us2,e',ha',hb',hl2,pas⟩:=hR0;cases e';have eas:as=[]:=hG;subst eas;have at1:atI [V.str "gap", .str gx,.ref b'] 1=some (.str gx):=zAZ (j:=1) rfl;have egs:gset (.gap gx [])=[gx]:=by rw[zCq];rfl
   rw[egs] at hsz q;rw[List.length_singleton] at hsz q;refine⟨_,rfl,_,rfl,a0,_,1,_,rfl,rfl,SqT.of ha',at1,d,_,rfl,DPut.k (k:=Sum.inr gx) hd (zAS (by omega)),?_⟩;exact q _ _ (SbD.set _) zAB (gd.put _ _) (zBL kvs (Sum.inr gx:Key) (.bl true))
  |bin o a b=>cases o<;>cases z
  |_=>cases z
 ·have z:¬t.kd = .gap:=λ z=>c (lU (by rw[z];rfl))
  obtain⟨a1,hs,us,e1,ha,hh,hp⟩:=hR0.heads z;cases e1;rw[zBY z] at hsz q;have lus:us.length=t.parts.length:=zAH hp;refine⟨_,rfl,1,rfl,a0,_,rfl,ha,zFV _ _,λ ps H1 k1 e1=>?_⟩;rw[zJo] at e1;have hR1:Paired (Rep H1) t.parts us:=Paired.mapP hp λ Ω Ω z=>z.mono k1.tk;have hd1:=k1 _ _ hd;refine⟨ps,rfl,⟨_,SqT.of e1⟩,?_⟩;refine zFR (xs:=hs++us) (λ i σ' H'=>∃(kv2:List (Key × V)) (s3:Option V),σ'=[some (.ref a0),some (.ref d),s3]/\SbD d H1 H'/\H' d=some (.dK kv2)/\Gk (S++(t.parts.take (i - hs.length)).flatMap gset) kv2/\kv2.length<=kvs.length+((t.parts.take (i - hs.length)).flatMap gset).length) ?_ ?_ ?_ ?_
  ·exact⟨kvs,none,rfl,SbD.refl _ _,hd1,by simpa using gd,by simp⟩
  ·rintro i σ' H' _ ⟨kv2,s3,rfl,sd,ed,g2,l2⟩
   exact SqT.of (sd.tk hd1 _ _ e1)
  ·rintro i x σ' H' hx ⟨kv2,s3,rfl,sd,ed,g2,l2⟩
   by_cases hi:i<hs.length
   ·rw[List.getElem?_append_left hi] at hx
    have e0:i+1 - hs.length=0:=by omega
    have e00:i - hs.length=0:=by omega
    rw[e00] at g2 l2;rcases hh x (lM hx) with ⟨y,rfl⟩|⟨y,rfl⟩
    ·refine⟨_,rfl,_, "tuple", _,false,rfl,.str y,rfl,_,rfl,iteF ?_⟩
     exact⟨kv2,_,rfl,sd,ed,by rw[e0];exact g2,by rw[e0];exact l2⟩
    ·refine⟨_,rfl,_, "tuple", _,false,rfl,.int y,rfl,_,rfl,iteF ?_⟩
     exact⟨kv2,_,rfl,sd,ed,by rw[e0];exact g2,by rw[e0];exact l2⟩
   ·rw[List.getElem?_append_right (by omega)] at hx
    obtain⟨ti,eti,rti⟩:=zAQ hR1 hx;have hmem:=lM eti;have hsz2:=zBu hmem;have rti':=rti.mono (sd.tk hd1)
    have htk:(t.parts.take (i+1 - hs.length)).flatMap gset=(t.parts.take (i - hs.length)).flatMap gset++gset ti:=by
     rw[show i+1 - hs.length=i - hs.length+1 by omega,zAV eti,List.flatMap_append];simp
    have hlt:=zFN gset t.parts (i+1 - hs.length);rw[htk,List.length_append] at hlt;have rti0:=rti';obtain⟨ai,hsi,usi,rfl,hai,_,_⟩:=rti'.all;refine⟨_,rfl,_, "tuple", _,true,rfl,.tup hai,rfl,_,rfl,iteT ?_⟩;refine⟨_,rfl,_,rfl,ti,_,d,kv2,_,rfl,by omega,rti0,hG.part hmem,ed,g2,by omega,λ kv3 H5 sd5 ed5 g5 l5=>?_⟩;refine⟨kv3,_,rfl,sd.trans sd5,ed5,?_,?_⟩
    ·rw[htk,←List.append_assoc];exact g5
    ·rw[htk,List.length_append];omega
  ·rintro σ' H' ⟨kv2,s3,rfl,sd,ed,g2,l2⟩
   rw[List.take_of_length_le (by rw[List.length_append];omega)] at g2 l2;exact q kv2 H' (k1.sd.trans sd) ed g2 l2
theorem zIH {k:Nat}{f:Addr}{fd:FuncData}:FnOk P w K mg base CX0 k f fd ["_law_shape", "_law_found"] (zCg 0):=by
 have no:∀vs H Q E,¬zCg 0 vs H Q E:=λ vs H Q E h=>by
  obtain⟨t,v,d,kvs,S,_,hn,_⟩:=h;have:=zDO t;omega
 exact⟨λ vs H Q E h=>absurd h (no vs H Q E),λ A outer s H args us vs Q E Ω Ω Ω Ω h=>absurd h (no vs H Q E)⟩
theorem zGV {k:Nat}{f:Addr}{fd:FuncData}(F:Fun K "_law_gaps" "_law_gaps" zCn f fd) (b:Binds K fd ["_law_shape", "_law_found"] []) (m:mg "_law_gaps" = some (.ref f)) (z_isinstance:mg "isinstance" = none) (z_tuple:mg "tuple" = none):∀n:Nat,FnB P w K mg base (k+n) "_law_gaps" f fd ["_law_shape", "_law_found"] (zCg n)
 |0=>⟨zIH,b,F.kp,m⟩
 |n+1=>⟨zKU F z_isinstance z_tuple (zGV F b m z_isinstance z_tuple n),b,F.kp,m⟩
noncomputable def kdOf (kd:Str):V:=if kd = "" then .non else .str kd
noncomputable def zFo (K:W.Frag):Sp:=λ vs H Q Ω=>∃(a wl:Addr) (cells:List Int) (ws:List Str) (kd:Str),vs=[.ref a,.str kd,.ref wl]/\(kd = "" \/ kd = "quiet" \/ kd = "number")/\SqL K H a (cells.map V.int)/\1<=cells.length/\cells.length<=7/\ws.length=12/\H wl=some (.lst (ws.map V.str))/\∀(t:Tr) (v:V) (H':Hp),Same H H'->Rep H' t v->t.size<=14->PcT ws t->OfK (kdOf kd) t->Q v H'
theorem zJB {k:Nat}{f g1:Addr}{fd gd1:FuncData}(F:Fun K "_law_piece" "_law_piece" zC1 f fd) (zNQ:FnB P w K mg base k "_law_tree" g1 gd1 ["_law_cells", "_law_words_here", "_law_loud"] (zCd K 7)):FnOk P w K mg base CX0 (k+1) f fd ["_law_cells", "_law_kind", "_law_words_here"] (zFo K):=by
 refine F.ok zFs (λ vs H Q E h=>?_) (λ cdv A outer s H vs Q E hr h=>?_)
 ·obtain⟨a,wl,cells,ws,kd,rfl,_⟩:=h
  rfl
 obtain⟨a,wl,cells,ws,kd,rfl,hk,hS,h1,h7,lw,hw,q⟩:=h
 refine⟨_,(zAE (ps_if (zAP op_eq (pv 1) zAY (zAb _)) (zAF (zAU (zA8 (zAA zAY (zAA (pe_op zAq (iC (r:=rIxL K) zAy (pv 0)) (pe_op zEx zAJ zAJ)) zAC)):PE _ _ _))) zAO)
  (zAF (zAU (pe_cl zNQ hr (zAA (pv 0) (zAA (pv 2) (zAA (zCN op_eq (pv 1) zAY (zAb _)) zAC))))))),?_⟩
 have nq:¬(("quiet" : Str)) = "number" := by decide +kernel
 have ne:¬(("" : Str)) = "number" := by decide +kernel
 have nqe:¬(("quiet" : Str)) = "" := by decide +kernel
 have nne:¬(("number" : Str)) = "" := by decide +kernel
 obtain⟨c,rest,rfl⟩:∃c rest,cells=c::rest:=by
  cases cells with
  |nil=>simp at h1
  |cons c r=>exact⟨c,r,rfl⟩
 have at0:atI ((c::rest).map V.int) 0=some (.int c):=zAZ (j:=0) rfl;refine⟨_,rfl,rfl,_,rfl,ite2 (λ cc=>?_) (λ cc=>?_)⟩
 ·have e:kd = "number" := V.str.inj (lS cc)
  subst e;refine⟨_,rfl,a,_,0,_,rfl,rfl,hS,at0,_,_,rfl,rfl,⟨by decide,by decide,by decide⟩,_,_,rfl,rfl,(show (0:Int)<10 ^ 30 by decide),(by show 2<=sizeLine;decide),λ pt hpt=>?_⟩;exact q (.num _) _ _ (zAD hpt) ⟨pt,rfl,zAB⟩ (show 1<=14 by decide) trivial (.inr (.inr ⟨if_neg nne,_,rfl⟩))
 ·have e:kd ≠ "number" := λ z=>cc (lU (by rw[z]))
  refine⟨_,rfl,_,rfl,_,rfl,rfl,a,wl,c::rest,ws,_,rfl,hS,h1,h7,by decide,lw,hw,λ t v H' g r s1 pc qu=>q t v H' g r (by omega) pc ?_⟩;rcases hk with rfl|rfl|rfl
  ·exact .inl (if_pos rfl)
  ·exact .inr (.inl ⟨if_neg nqe,qu (decide_eq_false λ z=>nqe (V.str.inj z))⟩)
  ·exact absurd rfl e
noncomputable def zCe (n:Nat):Sp:=λ vs H Q Ω=>∃(t:Tr) (v:V) (d:Addr) (kvs:List (Key × V)) (π:Str->Tr),vs=[v,.ref d]/\t.size<=n/\Rep H t v/\H d=some (.dK kvs)/\(∀g∈gset t,∃u,valV kvs (Sum.inr g:Key)=some u/\Rep H (π g) u)/\∀v' H',Same H H'->Rep H' (fillT (cPi π) t) v'->Q v' H'
theorem zKR {k n:Nat}{f:Addr}{fd:FuncData}(F:Fun K "_law_made" "_law_made" zCl f fd) (z_isinstance:mg "isinstance" = none) (z_tuple:mg "tuple" = none)
  (zNT:FnB P w K mg base k "_law_made" f fd ["_law_shape", "_law_pieces"] (zCe n)):FnOk P w K mg base CX0 (k+1) f fd ["_law_shape", "_law_pieces"] (zCe (n+1)):=by
 refine F.ok zCC (λ vs H Q E h=>?_) (λ cdv A outer s H vs Q E hr h=>?_)
 ·obtain⟨t,v,d,kvs,π,rfl,_⟩:=h
  rfl
 obtain⟨t,v,d,kvs,π,rfl,hn,hR,hd,hv,q⟩:=h;have hu:=hu_of hr
 refine⟨_,(zAE (ps_if (zAP op_eq (iC (r:=rIxT K) zAW (pv 0)) zAY (zAb _)) (zAF (zAU (zC6 hu (pv 1) (iC (r:=rIxT K) zAW (pv 0)) (λ Ω Ω=>rfl)))) zAO)
  (zAE (zAX (i:=2) zCC.nd rfl (Or.inl rfl) (zA1 zAC:PE _ _ _))
  (zAE (zAn PassesOwn.never rfl (zCt (pv 0)) (zAN (i:=3) zCC.nd rfl (Or.inl rfl)) (zAE (ps_if (zBq (zAd zBa (by rfl) z_isinstance PyProof.Rows.boot_isinstance (zAA (pv 3) (zAA (zBt (v:=.ty _) (by rfl) z_tuple PyProof.Rows.boot_tuple (by rfl)) zAC)))) (zAF (zAX (i:=3) zCC.nd rfl (Or.inl rfl) (pe_cl zNT hr (zAA (pv 3) (zAA (pv 1) zAC))))) zAO)
  (zAF (zAw (pe_bm PySem.F.plainAttrs_list PySem.F.slot_list_append PySem.F.type_list_append zAt (pv 2) (zAA (pv 3) zAC))))))
  (zAF (zAU (zBb zBj (by rfl) z_tuple PyProof.Rows.boot_tuple (zAA (pv 2) zAC))))))),?_⟩
 have hR0:=hR;obtain⟨a0,hs0,us0,rfl,ha0,hl0,hp0⟩:=hR.all;have at0:atI (V.str t.kd.s::hs0++us0) 0=some (.str t.kd.s):=zAZ (j:=0) rfl;refine⟨_,rfl,a0,_,0,_,rfl,rfl,SqT.of ha0,at0,rfl,_,rfl,ite2 (λ c=>?_) (λ c=>?_)⟩
 ·have z:t.kd = .gap:=Kd.eq_iff.mp (lS c)
  cases t with
  |gap gx as =>
   obtain⟨a',b',us2,e',ha',hb',hl2,pas⟩:=hR0;cases e';obtain⟨u,eu,ru⟩:=hv gx (by rw[zCq];exact lO);have dg:DGet H d (.str gx) (some u):=eu▸DGet.k (k:=Sum.inr gx) hd;exact⟨_,rfl,_,rfl,a0,_,1,_,rfl,rfl,SqT.of ha',zAZ (j:=1) rfl,d,_,rfl,dg,q _ _ (.refl _) ru⟩
  |bin o a b=>cases o<;>cases z
  |_=>cases z
 ·have z:¬t.kd = .gap:=λ z=>c (lU (by rw[z];rfl))
  clear at0 ha0 hl0 hp0;obtain⟨a,hs,us,e1,ha,hl1,hh,hp,hnew⟩:=hR0.anew z;have e2:a=a0:=by cases e1;rfl
  subst e2;rw[zHn z] at q;have lus:us.length=t.parts.length:=zAH hp;have few:=zI3 t;refine⟨(by show 0<=sizeLine;decide),λ sl hsl=>?_⟩;have g0:=zAD (o:=.lst []) hsl;have es0:(upd H sl (.lst [])) sl=some (.lst []):=zAB;show tSeq _ _ _ _ (upd H sl (.lst []));generalize upd H sl (.lst [])=H0 at g0 es0 ⊢;refine⟨_,rfl,a,rfl,⟨_,SqT.of (g0 _ _ ha)⟩,?_⟩;refine zFR (xs:=V.str t.kd.s::hs++us) (λ i σ' H'=>∃(s3:Option V) (vs:List V),σ'=[some (.ref a),some (.ref d),some (.ref sl),s3]/\Same H H'/\H' sl=some (.lst ((V.str t.kd.s::hs).take i++vs))/\Paired (Rep H') ((t.parts.take (i - (hs.length+1))).map (fillT (cPi π))) vs) ?_ ?_ ?_ ?_
  ·exact⟨none,[],rfl,g0,es0,by simpa using Paired.nil⟩
  ·rintro i σ' H' _ ⟨s3,vs,rfl,g,es,pv⟩
   exact SqT.of (g _ _ ha)
  ·rintro i x σ' H' hx ⟨s3,vs,rfl,g,es,pv⟩
   have lv:vs.length<=3:=by rw[zAH pv,List.length_map,List.length_take];omega
   by_cases hi:i<hs.length+1
   ·have hx':(V.str t.kd.s::hs)[i]?=some x:=by rw[List.getElem?_append_left (by rw[List.length_cons];omega)] at hx;exact hx
    have e0:i+1 - (hs.length+1)=0:=by omega
    have e00:i - (hs.length+1)=0:=by omega
    rw[e00] at pv;have ev:vs=[]:=by cases pv;rfl
    subst ev
    have tx:(∃z,x=V.str z)\/∃j,x=V.int j:=by
     rcases lN.mp (lM hx') with h|h
     ·exact .inl ⟨_,h⟩
     ·exact hh x h
    have es2:H' sl=some (.lst ((V.str t.kd.s::hs).take i)):=by rw[es,List.append_nil]
    have ll:((V.str t.kd.s::hs).take i).length<=1000:=by rw[List.length_take];omega
    have fin:Same H (upd H' sl (.lst ((V.str t.kd.s::hs).take i++[x]))):=zAa g hsl;have tkx:(V.str t.kd.s::hs).take (i+1)=(V.str t.kd.s::hs).take i++[x]:=zAV hx';rcases tx with ⟨y,rfl⟩|⟨y,rfl⟩
    ·refine⟨_,rfl,_, "tuple", _,false,rfl,.str y,rfl,_,rfl,iteF ?_⟩
     refine⟨_,rfl,.inl ⟨rfl,_,SqL.of es2⟩,_,rfl,sl,_,_,rfl,rfl,es2,zAS ll,?_⟩;exact⟨_,[],rfl,fin,by rw[zAB,tkx,List.append_nil],by rw[e0];exact .nil⟩
    ·refine⟨_,rfl,_, "tuple", _,false,rfl,.int y,rfl,_,rfl,iteF ?_⟩
     refine⟨_,rfl,.inl ⟨rfl,_,SqL.of es2⟩,_,rfl,sl,_,_,rfl,rfl,es2,zAS ll,?_⟩;exact⟨_,[],rfl,fin,by rw[zAB,tkx,List.append_nil],by rw[e0];exact .nil⟩
   ·rw[List.getElem?_append_right (by rw[List.length_cons];omega)] at hx
    obtain⟨ti,eti,rti⟩:=zAQ hp hx;rw[List.length_cons] at eti;have hmem:=lM eti;have hsz2:=zBu hmem;have rti':=rti.mono g.tk;have rti0:=rti';obtain⟨ai,hsi,usi,rfl,hai,_,_⟩:=rti'.all;refine⟨_,rfl,_, "tuple", _,true,rfl,.tup hai,rfl,_,rfl,iteT ?_⟩
    refine⟨_,rfl,_,rfl,ti,_,d,kvs,π,rfl,by omega,rti0,g _ _ hd,(λ x hx=>by
      obtain⟨u,eu,ru⟩:=hv x (by rw[zBY z];exact List.mem_flatMap.mpr ⟨ti,hmem,hx⟩);exact⟨u,eu,ru.mono g.tk⟩),λ v5 H5 g5 r5=>?_⟩
    have es5:=g5 _ _ es;have tkh:(V.str t.kd.s::hs).take i=V.str t.kd.s::hs:=List.take_of_length_le (by rw[List.length_cons];omega);have tkh1:(V.str t.kd.s::hs).take (i+1)=V.str t.kd.s::hs:=List.take_of_length_le (by rw[List.length_cons];omega);rw[tkh] at es5;refine⟨_,rfl,.inl ⟨rfl,_,SqL.of es5⟩,_,rfl,sl,_,_,rfl,rfl,es5,zAS (by rw[List.length_append,List.length_cons];omega),?_⟩;have tk:Tk H5 (upd H5 sl (.lst (V.str t.kd.s::hs++vs++[v5]))):=Tk.lst es5;refine⟨_,vs++[v5],rfl,zAa (g.trans g5) hsl,by rw[zAB,tkh1,List.append_assoc],?_⟩;rw[show i+1 - (hs.length+1)=i - (hs.length+1)+1 by omega,zAV eti,List.map_append];exact zAT (Paired.mapP pv λ Ω Ω z=>Rep.mono (g5.tk.trans tk) z) (.cons (Rep.mono tk r5) .nil)
  ·rintro σ' H' ⟨s3,vs,rfl,g,es,pv⟩
   rw[List.take_of_length_le (by simp)] at es;rw[List.take_of_length_le (by simp;omega)] at pv;refine⟨_,rfl,sl,_,rfl,.inl ⟨SqL.of es,λ p hp'=>?_⟩⟩;have k9:=zAD (o:=.tup (V.str t.kd.s::hs++vs)) hp';exact q _ _ (g.trans k9) (hnew _ _ p _ (by simp) (Paired.mapP pv λ Ω Ω z=>Rep.mono k9.tk z) zAB)
theorem zIF {k:Nat}{f:Addr}{fd:FuncData}:FnOk P w K mg base CX0 k f fd ["_law_shape", "_law_pieces"] (zCe 0):=by
 have no:∀vs H Q E,¬zCe 0 vs H Q E:=λ vs H Q E h=>by
  obtain⟨t,v,d,kvs,π,_,hn,_⟩:=h;have:=zDO t;omega
 exact⟨λ vs H Q E h=>absurd h (no vs H Q E),λ A outer s H args us vs Q E Ω Ω Ω Ω h=>absurd h (no vs H Q E)⟩
theorem zGT {k:Nat}{f:Addr}{fd:FuncData}(F:Fun K "_law_made" "_law_made" zCl f fd) (b:Binds K fd ["_law_shape", "_law_pieces"] []) (m:mg "_law_made" = some (.ref f)) (z_isinstance:mg "isinstance" = none) (z_tuple:mg "tuple" = none):∀n:Nat,FnB P w K mg base (k+n) "_law_made" f fd ["_law_shape", "_law_pieces"] (zCe n)
 |0=>⟨zIF,b,F.kp,m⟩
 |n+1=>⟨zKR F z_isinstance z_tuple (zGT F b m z_isinstance z_tuple n),b,F.kp,m⟩
abbrev zCk:Stmt:=top 72
theorem zCx:zAR ["_law_found", "_law_due", "_law_one", "_law_other"] ["_law_found", "_law_due"] (zAG zCk):=⟨rfl,rfl,rfl,by decide +kernel,rfl,by decide +kernel,by decide +kernel⟩
abbrev zDV:Stmt:=top 73
theorem zD5:zAR ["_law_found", "_law_pieces", "_law_gap"] ["_law_found", "_law_pieces"] (zAG zDV):=⟨rfl,rfl,rfl,by decide +kernel,rfl,by decide +kernel,by decide +kernel⟩
noncomputable def zCv (n:Nat):Sp:=λ vs H Q Ω=>∃(d:Dt) (v1 v2:V),vs=[v1,v2]/\DR H d v1/\DR H d v2/\d.deep<n/\∀H',Same H H'->Q (.bl true) H'
theorem zLk {k n:Nat}{f:Addr}{fd:FuncData}(F:Fun K "_law_same" "_law_same" zCk f fd) (z_isinstance:mg "isinstance" = none) (z_tuple:mg "tuple" = none) (z_str:mg "str" = none) (z_int:mg "int" = none) (z_bool:mg "bool" = none) (z_len:mg "len" = none) (z_zip:mg "zip" = none)
  (zNU:FnB P w K mg base k "_law_same" f fd ["_law_found", "_law_due"] (zCv n)):FnOk P w K mg base CX0 (k+1) f fd ["_law_found", "_law_due"] (zCv (n+1)):=by
 refine F.ok zCx (λ vs H Q E h=>?_) (λ cdv A outer s H vs Q E hr h=>?_)
 ·obtain⟨d,v1,v2,rfl,_⟩:=h
  rfl
 obtain⟨d,v1,v2,rfl,r1,r2,hdn,q⟩:=h
 refine⟨_,(zAE (ps_if (zBq (zAd zBa (by rfl) z_isinstance PyProof.Rows.boot_isinstance (zAA (pv 1) (zAA (zBt (v:=.ty _) (by rfl) z_tuple PyProof.Rows.boot_tuple (by rfl)) zAC)))) (zAE (ps_if (pw_or (zCQ (zBq (zAd zBa (by rfl) z_isinstance PyProof.Rows.boot_isinstance (zAA (pv 0) (zAA (zBt (v:=.ty _) (by rfl) z_tuple PyProof.Rows.boot_tuple (by rfl)) zAC))))) (zEE (zAP op_ne (zAd zAe (by rfl) z_len PySem.boot_len (zAA (pv 0) zAC)) (zAd zAe (by rfl) z_len PySem.boot_len (zAA (pv 1) zAC)) (zAb _)))).pt (zAF (zAU pe_bl)) zAO)
  (zAE (zAn PassesOwn.never rfl (zMM (by rfl) z_zip (zAA (pv 0) (zAA (pv 1) zAC))) (zBz rfl (zAc (zAN (i:=2) zCx.nd rfl (Or.inl rfl)) (zAc (zAN (i:=3) zCx.nd rfl (Or.inl rfl)) zBJ))) (zAF (ps_if (zCQ (zBq (pe_cl zNU hr (zAA (pv 2) (zAA (pv 3) zAC))))) (zAF (zAU pe_bl)) zAO)))
  (zAF (zAU pe_bl)))) zAO)
  (zAE (ps_if (zBq (zAd zBa (by rfl) z_isinstance PyProof.Rows.boot_isinstance (zAA (pv 1) (zAA (zBt (v:=.ty _) (by rfl) z_str PyProof.Rows.boot_str (by rfl)) zAC)))) (zAF (zAU (zF3 (zAd zBa (by rfl) z_isinstance PyProof.Rows.boot_isinstance (zAA (pv 0) (zAA (zBt (v:=.ty _) (by rfl) z_str PyProof.Rows.boot_str (by rfl)) zAC))) (zDq (zCN op_eq (pv 0) (pv 1) (zAb _)))))) zAO)
  (zAF (zAU (zF3 (zAd zBa (by rfl) z_isinstance PyProof.Rows.boot_isinstance (zAA (pv 0) (zAA (zBt (v:=.ty _) (by rfl) z_int PyProof.Rows.boot_int (by rfl)) zAC))) (zF3 (zK6 (zAd zBa (by rfl) z_isinstance PyProof.Rows.boot_isinstance (zAA (pv 0) (zAA (zBt (v:=.ty _) (by rfl) z_bool PyProof.Rows.boot_bool (by rfl)) zAC)))) (zDq (zCN op_eq (pv 0) (pv 1) (zAb _))))))))),?_⟩
 cases r1 with
 | @tup a xs ds ha hxs =>
  cases r2 with
  | @tup b ys _ hb hys =>
   have lx:=hxs.length;have ly:=hys.length;refine⟨_,rfl,.ref b, "tuple", _,true,rfl,.tup hb,rfl,_,rfl,iteT ?_⟩;refine⟨_,rfl,.ref a, "tuple", _,true,rfl,.tup ha,rfl,_,rfl,iteF ?_⟩;refine⟨_,rfl,a,_,rfl,.inr (SqT.of ha),_,rfl,b,_,rfl,.inr (SqT.of hb),rfl,_,rfl,?_⟩;refine ite2 (λ c=>?_) (λ Ω=>?_)
   ·have en:xs.length=ys.length:=by omega
    rw[en,decide_eq_true rfl] at c;cases c
   refine⟨_,rfl,_,rfl,a,b,xs,ys,rfl,ha,hb,?_⟩;refine zLw (xs:=xs) (ys:=ys) (λ i σ' H'=>∃s2 s3:Option V,σ'=[some (.ref a),some (.ref b),s2,s3]/\Same H H') ?_ ?_ ?_ ?_
   ·exact⟨none,none,rfl,Same.refl _⟩
   ·rintro i σ1 H1 _ ⟨s2,s3,rfl,g⟩
    exact⟨g _ _ ha,g _ _ hb⟩
   ·rintro i x y T σ1 H1 hx hy ⟨s2,s3,rfl,g⟩ hT
    obtain⟨d1,e1,rd1⟩:=hxs.get hx;obtain⟨d2,e2,rd2⟩:=hys.get hy;rw[e1] at e2;cases e2;have g1:=g.trans (zAD (o:=.tup [x,y]) hT);have hd:=zDw e1;have hdd:(Dt.tup ds).deep=Dt.deeps ds+1:=rfl;refine⟨T,[x,y],rfl,SqT.of zAB,rfl,_,_,rfl,_,_,rfl,rfl,?_⟩;refine⟨_,rfl,_,rfl,d1,x,y,rfl,rd1.mono g1.tk,rd2.mono g1.tk,by omega,λ H2 g2=>⟨_,rfl,iteF ?_⟩⟩;exact⟨_,_,rfl,g1.trans g2⟩
   ·rintro σ1 H1 ⟨s2,s3,rfl,g⟩
    exact q H1 g
 |str x =>
  cases r2 with
  |str _ =>
   refine⟨_,rfl,.str x, "tuple", _,false,rfl,.str x,rfl,_,rfl,iteF ?_⟩;refine⟨_,rfl,.str x, "str", _,true,rfl,.str x,rfl,_,rfl,iteT ?_⟩;refine⟨_,rfl,.str x, "str", _,true,rfl,.str x,rfl,_,rfl,iteT ?_⟩;refine⟨_,rfl,_,rfl,rfl,?_⟩;rw[decide_eq_true rfl];exact q H (Same.refl _)
 |int i =>
  cases r2 with
  |int _ =>
   refine⟨_,rfl,.int i, "tuple", _,false,rfl,.int i,rfl,_,rfl,iteF ?_⟩;refine⟨_,rfl,.int i, "str", _,false,rfl,.int i,rfl,_,rfl,iteF ?_⟩;refine⟨_,rfl,.int i, "int", _,true,rfl,.int i,rfl,_,rfl,iteT ?_⟩;refine⟨_,rfl,.int i, "bool", _,false,rfl,.int i,rfl,_,rfl,_,rfl,iteT ?_⟩;refine⟨_,rfl,_,rfl,rfl,?_⟩;rw[decide_eq_true rfl];exact q H (Same.refl _)
theorem zLo {k:Nat}{f:Addr}{fd:FuncData}:FnOk P w K mg base CX0 k f fd ["_law_found", "_law_due"] (zCv 0):=by
 have no:∀vs H Q E,¬zCv 0 vs H Q E:=λ vs H Q E h=>by
  obtain⟨d,v1,v2,_,_,_,h1,_⟩:=h;omega
 exact⟨λ vs H Q E h=>absurd h (no vs H Q E),λ A outer s H args us vs Q E Ω Ω Ω Ω h=>absurd h (no vs H Q E)⟩
theorem all_same {k:Nat}{f:Addr}{fd:FuncData}(F:Fun K "_law_same" "_law_same" zCk f fd) (b:Binds K fd ["_law_found", "_law_due"] []) (m:mg "_law_same" = some (.ref f)) (z_isinstance:mg "isinstance" = none) (z_tuple:mg "tuple" = none) (z_str:mg "str" = none) (z_int:mg "int" = none) (z_bool:mg "bool" = none) (z_len:mg "len" = none) (z_zip:mg "zip" = none) :
  ∀n:Nat,FnB P w K mg base (k+n) "_law_same" f fd ["_law_found", "_law_due"] (zCv n)
 |0=>⟨zLo,b,F.kp,m⟩
 |n+1=>⟨zLk F z_isinstance z_tuple z_str z_int z_bool z_len z_zip (all_same F b m z_isinstance z_tuple z_str z_int z_bool z_len z_zip n),b,F.kp,m⟩
noncomputable def zIj:Sp:=λ vs H Q Ω=>∃(d e:Addr) (kf kp:List (Key × V)) (S T:List Str) (π:Str->Tr),vs=[.ref d,.ref e]/\d≠e/\H d=some (.dK kf)/\H e=some (.dK kp)/\FD H π S kf/\Gk T kp/\(∀g,g∈S↔g∈T)/\(∀g∈T,∃u,valV kp (Sum.inr g:Key)=some u/\Rep H (π g) u/\(π g).size<=30)/\∀H',Same H H'->Q (.bl true) H'
theorem zLj {k:Nat}{f g1:Addr}{fd gd1:FuncData}(F:Fun K "_law_told" "_law_told" zDV f fd) (z_isinstance:mg "isinstance" = none) (z_dict:mg "dict" = none) (z_len:mg "len" = none) (zNU:FnB P w K mg base k "_law_same" g1 gd1 ["_law_found", "_law_due"] (zCv 70)):FnOk P w K mg base CX0 (k+1) f fd ["_law_found", "_law_pieces"] zIj:=by
 refine F.ok zD5 (λ vs H Q E h=>?_) (λ cdv A outer s H vs Q E hr h=>?_)
 ·obtain⟨d,e,kf,kp,S,T,π,rfl,_⟩:=h
  rfl
 obtain⟨d,e,kf,kp,S,T,π,rfl,nde,hd,he,fd0,gk0,hST,hv,q⟩:=h;have hu:=hu_of hr
 refine⟨_,(zAE (ps_if (pw_or (zCQ (zBq (zAd zJt (by rfl) z_isinstance PyProof.Rows.boot_isinstance (zAA (pv 0) (zAA (zBt (v:=.ty _) (by rfl) z_dict PyProof.Rows.boot_dict (by rfl)) zAC))))) (zEE (zAP op_ne (zAd zDj (by rfl) z_len PySem.boot_len (zAA (pv 0) zAC)) (zAd zDj (by rfl) z_len PySem.boot_len (zAA (pv 1) zAC)) (zAb _)))).pt (zAF (zAU pe_bl)) zAO)
  (zAE (zAn PassesOwn.never rfl (zGo (pv 1)) (zAN (i:=2) zD5.nd rfl (Or.inl rfl)) (zAF (ps_if (zCQ (zBq (pe_cl zNU hr (zAA (zHY hu (pv 0) (pv 2) ⟨rfl,rfl,rfl,rfl⟩) (zAA (zA8 (zAA (zA8 zAC:PE _ _ _) (zAA (zC6 hu (pv 1) (pv 2) (λ Ω Ω=>rfl)) zAC)):PE _ _ _) zAC))))) (zAF (zAU pe_bl)) zAO)))
  (zAF (zAU (zI2 pe_bl))))),?_⟩
 have ll:=zMd fd0.gk gk0 hST;refine⟨_,rfl,d,kf, "dict", true,rfl,.inl hd,rfl,_,rfl,iteF ?_⟩;refine⟨_,rfl,d,kf,rfl,.inl hd,_,rfl,e,kp,rfl,.inl he,rfl,_,rfl,ite2 (λ c=>?_) (λ Ω=>?_)⟩
 ·rw[ll,decide_eq_true rfl] at c
  cases c
 refine⟨_,rfl,e,kp,rfl,.inr ⟨he,λ o=>?_⟩⟩;have s0:SbD e H (upd H e (.frz o (.dK kp))):=SbD.set _;refine zFS (o:=o) (a:=e) (kvs:=kp) (λ i σ' H'=>∃(s2:Option V),σ'=[some (.ref d),some (.ref e),s2]/\SbD e H H'/\H' e=some (.frz o (.dK kp))) ⟨none,rfl,s0,zAB⟩ ?_ ?_ ?_
 ·rintro i σ' H' _ ⟨s2,rfl,sb,ee⟩
  exact ee
 ·rintro i p σ' H' hp ⟨s2,rfl,sb,ee⟩
  obtain⟨x,hx,ex⟩:=gk0.1 p (lM hp);have ek:kV p.1 = .str x:=by rw[ex];rfl
  rw[ek];obtain⟨u,eu,ru,su⟩:=hv x hx;obtain⟨pb,nt,u2,hval,hpb,hnt,ru2⟩:=fd0.fl.get (zCX ((hST x).mpr hx));have tk:Tk H H':=sb.tk he;have hd':=sb _ _ nde hd;have dg:DGet H' d (.str x) (some (.ref pb)):=hval▸DGet.k (k:=Sum.inr x) hd';have de:DGet H' e (.str x) (some u):=.inl ⟨kp,Sum.inr x,.inr ⟨o,ee⟩,rfl,eu.symm⟩;refine⟨_,rfl,d,rfl,.inl ⟨kf,.inl hd'⟩,_,rfl,_,dg,lY _,λ q1 hq1=>?_⟩;have k1:=zAD (o:=.tup []) hq1;have de1:DGet (upd H' q1 (.tup [])) e (.str x) (some u):=.inl ⟨kp,Sum.inr x,.inr ⟨o,k1 _ _ ee⟩,rfl,eu.symm⟩;refine⟨_,rfl,_,rfl,e,_,rfl,de1,(by show 2<=sizeLine;decide),λ q2 hq2=>?_⟩;have k2:=zAD (o:=.tup [.ref q1,u]) hq2;have k12:=k1.trans k2;have tk2:=tk.trans k12.tk;have hnt2:H nt=some (.tup []):=hnt;refine⟨.tup [.tup [],dtT (π x)],.ref pb,.ref q2,rfl,.tup (tk2 _ _ hpb) (.cons (.tup (tk2 _ _ hnt2) .nil) (.cons (ru2.mono tk2).dr .nil)),.tup zAB (.cons (.tup (k2 _ _ zAB) .nil) (.cons (ru.mono tk2).dr .nil)),?_,λ H5 g5=>⟨true,rfl,iteF ⟨_,rfl,sb.trans (k12.trans g5).sd,(k12.trans g5) _ _ ee⟩⟩⟩;have h1:=zBZ (π x);have h2:=zB6 (π x);simp[Dt.deep,Dt.deeps];omega
 ·rintro σ' H' ⟨s2,rfl,sb,ee⟩
  refine⟨e,o,kp,ee,(λ o u z=>by
   have z':H e=some (.frz o u):=z;rw[he] at z';cases z'),q _ λ b v hb=>?_⟩
  by_cases z:b=e
  ·subst z
   rw[zAB,←hb,he]
  ·rw[zAL z]
   exact sb b v z hb
theorem passF {X:Cx}{P:Program}{w:World}:zE7 (CXF P w) X (λ Ω Ω Ω=>False):=λ Ω Ω Ω Ω Ω Ω Ω h=>by
 obtain⟨_,_,_,_,_,z⟩:=h;exact z.elim
theorem zKl {t:Tr}(h:∀p∈t.subs,(cnt1 p).length<=10):(gset t).length<=10 * t.size:=by
 unfold gset gcnt;rw[List.length_map,←zD4];exact zHl h
theorem zLM (kds:List (Str × Str)) (g k z:Str):wKd (kds++[(g,k)]) z=if z=g then .str k else wKd kds z:=by
 unfold wKd kdV;rw[List.map_append,List.map_cons,List.map_nil,zIL,zCb]
 by_cases e:z=g
 ·rw[if_pos e,if_pos (by rw[e])]
  rfl
 ·rw[if_neg e,if_neg (λ y=>e (Sum.inr.inj y))]
structure LoopP (ws D:List Str) (kds:List (Str × Str)) (π:Str->Tr):Prop where
 no:∀z,z∉D->wKd kds z = .non
 ok:∀z∈D,PcT ws (π z)/\(π z).size<=14/\OfK (wKd kds z) (π z)
theorem LoopP.step {ws D:List Str}{kds:List (Str × Str)}{π:Str->Tr}{g kd:Str}{t:Tr}(h:LoopP ws D kds π) (hg:g∉D) (hP:PcT ws t) (hs:t.size<=14) (hk:OfK (kdOf kd) t):LoopP ws (D++[g]) (if kd = "" then kds else kds++[(g,kd)]) (λ z=>if z=g then t else π z):=by
 have w1:∀z,wKd (if kd = "" then kds else kds++[(g,kd)]) z=if z=g then kdOf kd else wKd kds z:=λ z=>by
  by_cases e:kd = ""
  ·rw[if_pos e]
   by_cases ez:z=g
   ·rw[if_pos ez,ez,h.no g hg]
    exact(if_pos e).symm
   ·rw[if_neg ez]
  ·rw[if_neg e,zLM]
   by_cases ez:z=g
   ·rw[if_pos ez,if_pos ez]
    exact(if_neg e).symm
   ·rw[if_neg ez,if_neg ez]
 refine⟨λ z hz=>?_,λ z hz=>?_⟩
 ·rw[w1,if_neg (λ e=>hz (by rw[e];simp))]
  exact h.no z λ k=>hz (mF _ k)
 ·rw[w1]
  by_cases e:z=g
  ·rw[if_pos e,if_pos e]
   exact⟨hP,hs,hk⟩
  ·rw[if_neg e,if_neg e]
   rcases lK.mp hz with k|k
   ·exact h.ok z k
   ·exact absurd (List.mem_singleton.mp k) e
abbrev s_law:Stmt:=top 74
theorem zBP:zAR ["_law_script", "_law_words_here", "_law_cells", "_law_left_here", "_law_gaps_here", "_law_kinds", "_law_pieces", "_law_cell", "_law_k", "_law_gap", "_law_kind", "_law_some", "_law_rule", "_law_tree_here", "_law_found", "_law_again"] ["_law_script"] (zAG s_law):=⟨rfl,rfl,rfl,by decide +kernel,rfl,by decide +kernel,by decide +kernel⟩
noncomputable def zHJ (K:W.Frag):Sp:=λ vs H Q Ω=>∃(a:Addr) (ns:List Int),vs=[.ref a]/\SqL K H a (ns.map V.int)/\∀H',Q (.bl true) H'
theorem zMT {k:Nat}{f g1 g2 g3 g4 g5 g6 g7 g8 g9 g10 cF:Addr}{fd gd1 gd2 gd3 gd4 gd5 gd6 gd7 gd8 gd9 gd10:FuncData}(F:Fun K "law" "law" s_law f fd) (z_len:mg "len" = none) (z_enumerate:mg "enumerate" = none) (z_sorted:mg "sorted" = none) (z_tuple:mg "tuple" = none)
  (zNV:FnB P w K mg base k "_law_words" g1 gd1 ["_law_cell", "_law_many"] zHC) (zNW:FnB P w K mg base k "_law_cell_at" g2 gd2 ["_law_script", "_law_k"] (zEn K))
  (zNR:FnB P w K mg base k "_law_left" g3 gd3 ["_law_cells", "_law_words_here"] (zCf K 9)) (zNS:FnB P w K mg base k "_law_gaps" g4 gd4 ["_law_shape", "_law_found"] (zCg 20))
  (zNX:FnB P w K mg base k "_law_piece" g5 gd5 ["_law_cells", "_law_kind", "_law_words_here"] (zFo K)) (zNT:FnB P w K mg base k "_law_made" g6 gd6 ["_law_shape", "_law_pieces"] (zCe 20))
  (G_fit:FnD1 P w K mg base k "fit" g7 gd7 ["rule", "tree", "kinds"] zK0) (zNY:FnB P w K mg base k "_law_told" g8 gd8 ["_law_found", "_law_pieces"] zIj) (zNU:FnB P w K mg base k "_law_same" g9 gd9 ["_law_found", "_law_due"] (zCv 70)) (zNZ:FnF P w K mg base k "filled" g10 gd10 ["shape", "filling"] (zFp cF)) :
  FnOk P w K mg base CX0 (k+1) f fd ["_law_script"] (zHJ K):=by
 refine F.ok zBP (λ vs H Q E h=>?_) (λ cdv A outer s H vs Q E hr h=>?_)
 ·obtain⟨a,ns,rfl,_⟩:=h
  rfl
 obtain⟨a,ns,rfl,hS,qf⟩:=h;have hu:=hu_of hr;have hu0:=Nat.lt_of_succ_lt (hu_of hr)
 refine zMC ⟨_,(zAM (zAl (i:=1) zBP.nd rfl (Or.inl rfl) (zBS zNV.ok hr (by rfl) zNV.gl zNV.kp zNV.bd .nil pass0 (pa_kS (zBS zNW.ok hr (by rfl) zNW.gl zNW.kp zNW.bd .nil pass0 (pa_nS ⟨pv 0⟩ (zAI ⟨zAJ⟩ ⟨zAC⟩))) (zAI ⟨zAJ⟩ ⟨zAC⟩))))
  (zAM (zAl (i:=2) zBP.nd rfl (Or.inl rfl) ⟨zBB (r:=rSlL K) zB1 (pv 0) (zA6 zAJ) (zA6 zAJ)⟩)
  (zAM (zBd ⟨zAP op_lt (zAd zAe (by rfl) z_len PySem.boot_len (zAA (pv 2) zAC)) zAJ (zAb _)⟩ (zAh (zAl (i:=2) zBP.nd rfl (Or.inl rfl) (zEI (pa_kS (zBS zNW.ok hr (by rfl) zNW.gl zNW.kp zNW.bd .nil pass0 (pa_nS ⟨pv 0⟩ (zAI ⟨zAJ⟩ ⟨zAC⟩))) (pa_kS (zBS zNW.ok hr (by rfl) zNW.gl zNW.kp zNW.bd .nil pass0 (pa_nS ⟨pv 0⟩ (zAI ⟨zAJ⟩ ⟨zAC⟩))) ⟨zAC⟩))))) ⟨zAO⟩)
  (zAM (zAl (i:=3) zBP.nd rfl (Or.inl rfl) (zBS zNR.ok hr (by rfl) zNR.gl zNR.kp zNR.bd .nil pass0 (pa_nS ⟨pv 2⟩ (pa_nS ⟨pv 1⟩ ⟨zAC⟩))))
  (zAM (zAl (i:=4) zBP.nd rfl (Or.inl rfl) ⟨zCL⟩)
  (zAM (zHT (zBS zNS.ok hr (by rfl) zNS.gl zNS.kp zNS.bd .nil pass0 (pa_nS ⟨pv 3⟩ (pa_nS ⟨pv 4⟩ ⟨zAC⟩))))
  (zAM (zAl (i:=5) zBP.nd rfl (Or.inl rfl) (zEI ⟨zAC⟩))
  (zAM (zAl (i:=6) zBP.nd rfl (Or.inl rfl) ⟨zCL⟩)
  (zAM (zAl (i:=7) zBP.nd rfl (Or.inl rfl) (zHX zAq (zBS zNW.ok hr (by rfl) zNW.gl zNW.kp zNW.bd .nil pass0 (pa_nS ⟨pv 0⟩ (zAI ⟨zAJ⟩ ⟨zAC⟩))) (zHX zEx ⟨zAJ⟩ ⟨zAJ⟩)))
  (zAM ⟨zAn PassesOwn.never rfl (zKH (by rfl) z_enumerate (zAA (zAd (zGL rfl) (by rfl) z_sorted PyProof.Rows.boot_sorted (zAA (pv 4) zAC)) zAC)) (zBz rfl (zAc (zAN (i:=8) zBP.nd rfl (Or.inl rfl)) (zAc (zAN (i:=9) zBP.nd rfl (Or.inl rfl)) zBJ))) (zAE (zAX (i:=10) zBP.nd rfl (Or.inl rfl) (pe_ix (r:=rIxL K) zAy (zGq [.str "", .str "quiet", .str "number", .str ""] (by rfl):PE _ _ _) (pe_op zAq (pv 7) zAJ) (λ Ω Ω=>rfl)))
  (zAE (zAX (i:=7) zBP.nd rfl (Or.inl rfl) (pe_op zAx (pv 7) zAJ))
  (zAE (ps_if (zAP op_ne (pv 10) zAY (zAb _)) (zAF (zAw (pe_bm PySem.F.plainAttrs_list PySem.F.slot_list_append PySem.F.type_list_append zAt (pv 5) (zAA (zA8 (zAA (pv 9) (zAA (pv 10) zAC)):PE _ _ _) zAC)))) zAO)
  (zAE (zAX (i:=11) zBP.nd rfl (Or.inl rfl) (zBB (r:=rSlL K) zB1 (zMO (pv 0) (zA6 (pe_op zEL zAJ (pv 8))) zBc (zA6 (zAd zDj (by rfl) z_len PySem.boot_len (zAA (pv 4) zAC)))) zBc (zA6 zAJ)))
  (zAE (ps_if (zAP op_eq (zAd zAe (by rfl) z_len PySem.boot_len (zAA (pv 11) zAC)) zAJ (zAb _)) (zAF (zAX (i:=11) zBP.nd rfl (Or.inl rfl) (zA1 (zAA (pe_op zAx (pe_cl zNW hr (zAA (pv 0) (zAA zAJ zAC))) (pe_op zEL (pv 8) zAJ)) zAC):PE _ _ _))) zAO)
  (zAF (zDZ hu (pv 6) (pv 9) (pe_cl zNX hr (zAA (pv 11) (zAA (pv 10) (zAA (pv 1) zAC)))) rfl)))))))⟩
  (zAM (zAl (i:=12) zBP.nd rfl (Or.inl rfl) (zAm (pa_nS ⟨pv 3⟩ (pa_tS (zAm (pa_cS ⟨zAY⟩ (pa_bS (zHX zAq (zBS zNW.ok hr (by rfl) zNW.gl zNW.kp zNW.bd .nil pass0 (pa_nS ⟨pv 0⟩ (zAI ⟨zAJ⟩ ⟨zAC⟩))) (zHX zEx ⟨zAJ⟩ ⟨zAJ⟩)) ⟨zAC⟩))) (pa_kS (zEv zG3 (by rfl) z_tuple PyProof.Rows.boot_tuple (pa_nS ⟨pv 5⟩ ⟨zAC⟩)) ⟨zAC⟩)))))
  (zAM (zAl (i:=13) zBP.nd rfl (Or.inl rfl) (zBS zNT.ok hr (by rfl) zNT.gl zNT.kp zNT.bd .nil pass0 (pa_nS ⟨pv 3⟩ (pa_nS ⟨pv 6⟩ ⟨zAC⟩))))
  (zAM (zAl (i:=14) zBP.nd rfl (Or.inl rfl) (zBS G_fit.ok hr (by rfl) G_fit.gl G_fit.kp G_fit.bd1 zIZ pass0 (pa_nS ⟨pv 12⟩ (pa_nS ⟨pv 13⟩ ⟨zAC⟩))))
  (zAM (zBd ⟨zCQ (zBq (pe_cl zNY hr (zAA (pv 14) (zAA (pv 6) zAC))))⟩ (zAh (zAv ⟨pe_bl⟩)) ⟨zAO⟩)
  (zAM (zAl (i:=15) zBP.nd rfl (Or.inl rfl) (zBS zNZ.ok hr (by rfl) zNZ.gl zNZ.kp zNZ.bd .nil passF (pa_nS ⟨pv 3⟩ (pa_nS ⟨pv 14⟩ ⟨zAC⟩))))
  (zAM (zHT ⟨zK7 PySem.F.plainAttrs_dict PySem.F.slot_dict_clear PySem.F.type_dict_clear zJI (pv 14)⟩)
  (zAh (zAv ⟨zF3 (pe_cl zNU hr (zAA (pv 15) (zAA (pv 13) zAC))) (zDq (pe_cl zNY hr (zAA (zCO G_fit.ok hr (by rfl) G_fit.gl G_fit.kp G_fit.bd1 zIZ pass0 (zAA (pv 12) (zAA (pv 13) zAC))) (zAA (pv 6) zAC))))⟩)))))))))))))))))),?_⟩
 have d0:0<=sizeLine:=by decide
 have d1:1<=sizeLine:=by decide
 have d2:2<=sizeLine:=by decide
 have d3:3<=sizeLine:=by decide
 have d4:4<=sizeLine:=by decide
 have z4:(0:Int)<4:=by decide
 have f4:(0:Int)<4/\(4:Int)<1073741824:=⟨by decide,by decide⟩;refine⟨_,rfl,a,ns,0,rfl,hS,by decide,_,rfl,λ wl H1 ws k1 hw lw nw sw=>?_⟩;refine⟨_,rfl,3,rfl,12,rfl,a,_,rfl,k1.seq hS,λ ca hca=>?_⟩;obtain⟨cs0,ecs0⟩:=zHp ns (some 3) (some 12)
 have lcs0:cs0.length<=9:=by
  have:=zL3 (ns.map V.int) 3 12;rw[show ((3:Nat):Int)=3 from rfl,show ((12:Nat):Int)=12 from rfl,ecs0,List.length_map] at this;exact this
 rw[ecs0];have k2:=zAD (o:=.lst (cs0.map V.int)) hca;have eca:(upd H1 ca (.lst (cs0.map V.int))) ca=some (.lst (cs0.map V.int)):=zAB;have k02:=k1.trans k2;have hw2:=k2 _ _ hw;dsimp only[gName];generalize upd H1 ca (.lst (cs0.map V.int))=H2 at k2 eca k02 hw2 ⊢;clear k2;refine viaN λ N hN=>?_
 suffices rest:∀σ' H',(∃(c3:Addr) (cells:List Int),σ'=[some (.ref a),some (.ref wl),some (.ref c3),none,none,none,none,none,none,none,none,none,none,none,none,none]/\Same H H'/\H' wl=some (.lst (ws.map V.str))/\H' c3=some (.lst (cells.map V.int))/\1<=cells.length/\cells.length<=9)->N σ' H' by
  refine⟨_,rfl,ca,_,rfl,.inl (SqL.of eca),_,_,rfl,rfl,_,rfl,ite2 (λ Ω=>?_) (λ c=>?_)⟩
  ·refine⟨_,rfl,a,ns,1,rfl,k02.seq hS,by decide,_,rfl,a,ns,2,rfl,k02.seq hS,by decide,d2,λ cb hcb=>?_⟩
   have k3:=zAD (o:=.lst ([ns.getD (1:Int).toNat 0,ns.getD (2:Int).toNat 0].map V.int)) hcb;exact rest _ _ ⟨cb,[_,_],rfl,k02.trans k3,k3 _ _ hw2,zAB,(show 1<=2 by decide),(show 2<=9 by decide)⟩
  ·have c':¬(((cs0.map V.int).length:Nat):Int)<2:=λ z=>c (lU z)
   rw[List.length_map] at c';exact rest _ _ ⟨ca,cs0,rfl,k02,hw2,eca,by omega,lcs0⟩
 rintro σ3 H3 ⟨c3,cells,rfl,k03,hw3,ec3,lc1,lc9⟩;refine hN _ _ ?_;clear hN k02 hw2 eca;refine⟨_,rfl,_,rfl,c3,wl,cells,ws,rfl,SqL.of ec3,lc1,lc9,by decide,lw,hw3,λ t tv H4 k4 rt st lg gs=>?_⟩;have st18:t.size<=18:=by omega
 have k04:=k03.trans k4;have hw4:=k4 _ _ hw3;clear k4 hw3 ec3 k03;refine λ gd hgd=>?_;have lgs:(gset t).length<=800:=by have:=zKl lg.ct;omega
 refine⟨_,rfl,_,rfl,t,tv,gd,[],[],rfl,by omega,rt.mono (zAD hgd).tk,lg,zAB,⟨(λ e he=>nomatch he),(λ g hg=>nomatch hg),List.nodup_nil⟩,(by show 0+(gset t).length<=900;omega),λ gk H5 sd5 egd gkk Ω=>?_⟩
 rw[List.nil_append] at gkk;have k45:Same H4 H5:=λ b o hb=>sd5 b o (λ z=>by rw[z,hgd] at hb;cases hb) (zAD hgd b o hb);have k05:=k04.trans k45;have hw5:=k45 _ _ hw4;have rt5:=rt.mono k45.tk;clear k45 hw4 rt k04 sd5 hgd;obtain⟨ks,ekk,nks,lks,mks⟩:=gkk.keys
 have lk12:ks.length<=12:=by
  have:=zCp (T:=ws) nks λ g hg=>gs g ((mks g).mp hg);omega
 refine⟨d0,λ kl hkl=>?_⟩;have k56:=zAD (o:=.lst []) hkl;have ekl:(upd H5 kl (.lst [])) kl=some (.lst []):=zAB;dsimp only[gName];generalize upd H5 kl (.lst [])=H6 at k56 ekl ⊢;refine λ pd hpd=>?_;have k67:=zAD (o:=.dK []) hpd;have epd:(upd H6 pd (.dK [])) pd=some (.dK []):=zAB;have hpd5:H5 pd=none:=k56.free hpd;have k57:=k56.trans k67;have ekl7:=k67 _ _ ekl;have npk:pd≠kl:=Ne.symm (zAK ekl hpd);dsimp only[gName];generalize upd H6 pd (.dK [])=H7 at k67 epd k57 ekl7 ⊢;clear k56 k67 ekl hpd;have k07:=k05.trans k57;refine⟨_,rfl,a,ns,1,rfl,k07.seq hS,by decide,_,_,rfl,rfl,⟨by decide,by decide,by decide⟩,_,_,rfl,rfl,(show (0:Int)<4 ^ 8 by decide),?_⟩;dsimp only[gName];generalize ns.getD (1:Int).toNat 0 % 4 ^ (8:Int).toNat=cc0;refine⟨_,rfl,gd,gk,ks,rfl,k57 _ _ egd,ekk,by omega,λ sl ss hsl perm Ω=>⟨sl,rfl,⟨_,SqL.of zAB⟩,?_⟩⟩;have k78:=zAD (o:=.lst (ss.map V.str)) hsl;have esl:(upd H7 sl (.lst (ss.map V.str))) sl=some (.lst (ss.map V.str)):=zAB;have k58:=k57.trans k78;have epd8:=k78 _ _ epd;have ekl8:=k78 _ _ ekl7;have hsl5:H5 sl=none:=k57.free hsl;have nsk:sl≠kl:=Ne.symm (zAK ekl7 hsl);have nsp:sl≠pd:=Ne.symm (zAK epd hsl);generalize upd H7 sl (.lst (ss.map V.str))=H8 at k78 esl k58 epd8 ekl8 ⊢;clear k78 epd ekl7 k57 k07 hsl;have lss:ss.length=gk.length:=by rw[perm.length_eq,lks]
 have mss:∀g,g∈ss↔g∈gset t:=λ g=>by rw[perm.mem_iff];exact mks g
 have nss:ss.Nodup:=perm.nodup_iff.mpr nks;refine zJd (xs:=ss.map V.str) (λ i σ' H'=>∃(cc:Int) (s8 s9 s10 s11:Option V) (kds:List (Str × Str)) (kus:List V) (π:Str->Tr) (kvs:List (Key × V)),σ'=[some (.ref a),some (.ref wl),some (.ref c3),some tv,some (.ref gd),some (.ref kl),some (.ref pd),some (.int cc),s8,s9,s10,s11,none,none,none,none]/\Same H5 H'/\H' sl=some (.lst (ss.map V.str))/\H' kl=some (.lst kus)/\Paired (PrV H') kus (kdV kds)/\kds.length<=i/\H' pd=some (.dK kvs)/\Gk (ss.take i) kvs/\(∀g∈ss.take i,∃u,valV kvs (Sum.inr g:Key)=some u/\Rep H' (π g) u)/\LoopP ws (ss.take i) kds π) ?_ ?_ ?_ ?_
 ·exact⟨cc0,none,none,none,none,[],[],λ Ω=>.num 0,[],rfl,k58,esl,ekl8,.nil,lQ _,epd8,⟨(λ e he=>nomatch he),(λ g hg=>nomatch hg),List.nodup_nil⟩,(λ g hg=>nomatch hg),⟨λ z Ω=>rfl,(λ z hz=>nomatch hz)⟩⟩
 ·rintro i σ' H' _ ⟨cc,s8,s9,s10,s11,kds,kus,π,kvs,rfl,g,es,ek,pk,lk,ep,gk1,vl,lp⟩
  exact SqL.of es
 ·rintro i x T σ' H' hx ⟨cc,s8,s9,s10,s11,kds,kus,π,kvs,rfl,g,es,ek,pk,lk,ep,gk1,vl,lp⟩ hT
  obtain⟨gx,hgx,rfl⟩:∃gx,ss[i]?=some gx/\x=V.str gx:=by
   rw[List.getElem?_map] at hx;obtain⟨nm,h1,h2⟩:=lV.mp hx;exact⟨nm,h1,h2.symm⟩
  have hi:i<ss.length:=(lJ.mp hgx).1
  have hnew:gx∉ss.take i:=λ z=>by
   obtain⟨j,hj⟩:=List.getElem?_of_mem z
   have hji:j<i:=by
    have:=(lJ.mp hj).1;rw[List.length_take] at this;omega
   rw[List.getElem?_take_of_lt hji] at hj;exact absurd (zHc nss hj hgx) (by omega)
  have kT:=zAD (o:=.tup [.int (i:Int),.str gx]) hT;have eT:(upd H' T (.tup [.int (i:Int),.str gx])) T=some (.tup [.int (i:Int),.str gx]):=zAB;show gTup _ _ _ _ _ (upd H' T (.tup [.int (i:Int),.str gx])) _;generalize upd H' T (.tup [.int (i:Int),.str gx])=HT at kT eT ⊢;refine⟨T,_,rfl,SqT.of eT,rfl,_,_,rfl,_,_,rfl,rfl,?_⟩
  obtain⟨kd,atk,hkd⟩:∃kd:Str,atI [V.str "", .str "quiet", .str "number", .str ""] (cc % 4)=some (.str kd)/\(kd = "" \/ kd = "quiet" \/ kd = "number"):=by
   rcases (show cc % 4=0\/cc % 4=1\/cc % 4=2\/cc % 4=3 by omega) with e|e|e|e<;>rw[e]
   ·exact⟨"", rfl,.inl rfl⟩
   ·exact⟨"quiet", rfl,.inr (.inl rfl)⟩
   ·exact⟨"number", rfl,.inr (.inr rfl)⟩
   ·exact⟨"", rfl,.inl rfl⟩
  refine⟨d4,λ pl hpl=>⟨_,rfl,_,_,rfl,rfl,z4,pl,_,_,_,rfl,rfl,SqL.of zAB,atk,?_⟩⟩;have kP:=kT.trans (zAD (o:=.lst [V.str "", .str "quiet", .str "number", .str ""]) hpl);dsimp only[gName];generalize upd HT pl (.lst [V.str "", .str "quiet", .str "number", .str ""])=HP at kP ⊢;clear kT eT hpl;have gP:=g.trans kP;have esP:=kP _ _ es;have ekP:=kP _ _ ek;have epP:=kP _ _ ep;have pkP:Paired (PrV HP) kus (kdV kds):=Paired.mapP pk λ Ω Ω z=>zBy kP.tk z
  have vlP:∀g∈ss.take i,∃u,valV kvs (Sum.inr g:Key)=some u/\Rep HP (π g) u:=λ x hx=>by
   obtain⟨u,e,r⟩:=vl x hx;exact⟨u,e,r.mono kP.tk⟩
  clear kP g es ek ep pk vl;refine⟨_,rfl,_,_,rfl,rfl,f4,?_⟩;dsimp only[gName];refine viaN λ N hN=>?_
  suffices rest:∀σ' H',(∃(kus2:List V),σ'=[some (.ref a),some (.ref wl),some (.ref c3),some tv,some (.ref gd),some (.ref kl),some (.ref pd),some (.int (cc / 4)),some (.int (i:Int)),some (.str gx),some (.str kd),s11,none,none,none,none]/\Same H5 H'/\Tk HP H'/\H' sl=some (.lst (ss.map V.str))/\H' kl=some (.lst kus2)/\Paired (PrV H') kus2 (kdV (if kd = "" then kds else kds++[(gx,kd)]))/\H' pd=some (.dK kvs))->N σ' H' by
   refine⟨_,rfl,rfl,_,rfl,ite2 (λ c=>?_) (λ c=>?_)⟩
   ·have ne:kd ≠ "" := λ z=>by
     rw[z,decide_eq_true rfl] at c;cases c
    have lku:kus.length<=100:=by
     have:=pkP.length;unfold kdV at this;rw[List.length_map] at this;omega
    refine⟨_,rfl,.inl ⟨rfl,_,SqL.of ekP⟩,_,rfl,_,rfl,d2,λ pt hpt=>?_⟩;have k2:=zAD (o:=.tup [.str gx,.str kd]) hpt;refine⟨kl,_,_,rfl,rfl,k2 _ _ ekP,zAS (by omega),?_⟩;have tk:Tk HP (upd (upd HP pt (.tup [.str gx,.str kd])) kl (.lst (kus++[.ref pt]))):=k2.tk.trans (Tk.lst (k2 _ _ ekP));refine rest _ _ ⟨kus++[.ref pt],rfl,zAa (gP.trans k2) hkl,tk,by rw[zAL nsk];exact k2 _ _ esP,zAB,?_,by rw[zAL npk];exact k2 _ _ epP⟩;rw[if_neg ne];unfold kdV;rw[List.map_append];exact zIu (Paired.mapP pkP λ Ω Ω z=>zBy tk z) (.cons ⟨pt,rfl,Tk.lst (k2 _ _ ekP) _ _ zAB⟩ .nil)
   ·have e:kd = "" := by
     by_cases e:kd = ""
     ·exact e
     ·exact absurd (by rw[decide_eq_false (λ z=>e (V.str.inj z))];rfl) c
    exact rest _ _ ⟨kus,rfl,gP,.refl _,esP,ekP,by rw[if_pos e];exact pkP,epP⟩
  rintro σ3 Hq ⟨kus2,rfl,gq,tq,esq,ekq,pkq,epq⟩;refine hN _ _ ?_;clear hN
  have vlq:∀g∈ss.take i,∃u,valV kvs (Sum.inr g:Key)=some u/\Rep Hq (π g) u:=λ x hx=>by
   obtain⟨u,e,r⟩:=vlP x hx;exact⟨u,e,r.mono tq⟩
  clear vlP tq esP ekP epP pkP gP
  have hne:(some ((gk.length:Nat):Int))≠some 0:=λ z=>by
   have:=mE z;omega
  refine⟨_,rfl,_,rfl,_,_,rfl,rfl,_,rfl,_,rfl,gd,gk,rfl,.inl (gq _ _ egd),_,rfl,a,_,rfl,hne,(k05.trans gq).seq hS,λ p1 hp1=>?_⟩;rw[zH6];have k1:=zAD (o:=.lst ((zB9 ns (some (12+(i:Int))) none (some ((gk.length:Nat):Int))).map V.int)) hp1;have e1:(upd Hq p1 (.lst ((zB9 ns (some (12+(i:Int))) none (some ((gk.length:Nat):Int))).map V.int))) p1=_:=zAB;generalize zB9 ns (some (12+(i:Int))) none (some ((gk.length:Nat):Int))=pki at k1 e1 ⊢;generalize upd Hq p1 (.lst (pki.map V.int))=Ha at k1 e1 ⊢;refine⟨7,rfl,p1,_,rfl,SqL.of e1,λ p2 hp2=>?_⟩;obtain⟨cs1,ecs1⟩:=zHp pki none (some 7)
  have lcs1:cs1.length<=7:=by
   have:=zKs (pki.map V.int) 7;rw[show ((7:Nat):Int)=7 from rfl,ecs1,List.length_map] at this;exact this
  rw[ecs1];have k2:=zAD (o:=.lst (cs1.map V.int)) hp2;have e2:(upd Ha p2 (.lst (cs1.map V.int))) p2=some (.lst (cs1.map V.int)):=zAB;have kb:=k1.trans k2;dsimp only[gName];generalize upd Ha p2 (.lst (cs1.map V.int))=Hb at k2 e2 kb ⊢;clear k1 k2 e1;have gb:=gq.trans kb;refine viaN λ N hN=>?_
  suffices rest:∀σ' H',(∃(l11:Addr) (cs2:List Int),σ'=[some (.ref a),some (.ref wl),some (.ref c3),some tv,some (.ref gd),some (.ref kl),some (.ref pd),some (.int (cc / 4)),some (.int (i:Int)),some (.str gx),some (.str kd),some (.ref l11),none,none,none,none]/\Same Hb H'/\H' l11=some (.lst (cs2.map V.int))/\1<=cs2.length/\cs2.length<=7)->N σ' H' by
   refine⟨_,rfl,p2,_,rfl,.inl (SqL.of e2),rfl,_,rfl,ite2 (λ Ω=>?_) (λ c=>?_)⟩
   ·refine⟨_,rfl,a,ns,2,rfl,(k05.trans gb).seq hS,by decide,_,rfl,_,_,rfl,rfl,_,_,rfl,rfl,⟨(by show (0:Int)<(i:Int)+1;omega),(by show (i:Int)+1<1073741824;omega)⟩,d1,λ p3 hp3=>?_⟩
    exact rest _ _ ⟨p3,[_],rfl,zAD hp3,zAB,lQ 1,(show 1<=7 by decide)⟩
   ·refine rest _ _ ⟨p2,cs1,rfl,.refl _,e2,?_,lcs1⟩
    rcases Nat.eq_zero_or_pos cs1.length with h|h
    ·exact absurd (lU (by rw[List.length_map,h];rfl)) c
    ·exact h
  rintro σ3 Hc ⟨l11,cs2,rfl,kc,ec,lc1',lc7⟩;refine hN _ _ ?_;clear hN;have kqc:=kb.trans kc;have gc:=gq.trans kqc;refine⟨_,rfl,_,rfl,_,rfl,l11,wl,cs2,ws,kd,rfl,hkd,SqL.of ec,lc1',lc7,lw,gc _ _ hw5,λ u uv Hf kf ru su pu ok=>?_⟩;have kqf:=kqc.trans kf;have epf:=kqf _ _ epq
  have lkv:kvs.length<=100:=by
   obtain⟨k2,_,n2,l2,m2⟩:=gk1.keys;have:=zCp (T:=ss.take i) n2 λ g hg=>(m2 g).mp hg;rw[List.length_take] at this;omega
  refine⟨_,rfl,_,rfl,pd,_,rfl,DPut.k (k:=Sum.inr gx) epf (zAS (by omega)),?_⟩;have tk1:Tk Hf (upd Hf pd (.dK (putK kvs (Sum.inr gx:Key) uv))):=Tk.dk epf;have tk2:=kqf.tk.trans tk1;refine⟨cc / 4,_,_,_,_,(if kd = "" then kds else kds++[(gx,kd)]),kus2,(λ z=>if z=gx then u else π z),_,rfl,zAa (gq.trans kqf) hpd5,by rw[zAL nsp];exact kqf _ _ esq,by rw[zAL (Ne.symm npk)];exact kqf _ _ ekq,Paired.mapP pkq λ Ω Ω z=>zBy tk2 z,?_,zAB,?_,λ x hx=>?_,?_⟩
  ·split
   ·omega
   ·rw[List.length_append]
    simp only[List.length_singleton];omega
  ·rw[zAV hgx]
   exact gk1.put _ _
  ·rw[zCb]
   dsimp only
   by_cases e:x=gx
   ·rw[if_pos e,if_pos (by rw[e])]
    exact⟨uv,rfl,ru.mono tk1⟩
   ·rw[if_neg e,if_neg (λ z=>e (Sum.inr.inj z))]
    rw[zAV hgx] at hx;rcases lK.mp hx with h|h
    ·obtain⟨u',e',r'⟩:=vlq x h
     exact⟨u',e',r'.mono tk2⟩
    ·exact absurd (List.mem_singleton.mp h) e
  ·rw[zAV hgx]
   exact lp.step hnew pu su ok
 rintro σ9 H9 ⟨cc,s8,s9,s10,s11,kds,kus,π,kvs,rfl,g9,_,ek,pk,lk,ep,gk1,vl,lp⟩;rw[List.length_map] at lk gk1 vl lp;rw[List.take_length] at gk1 vl lp;have k09:=k05.trans g9;have rt9:=rt5.mono g9.tk;refine⟨_,rfl,_,rfl,a,ns,2,rfl,k09.seq hS,by decide,_,_,rfl,rfl,⟨by decide,by decide,by decide⟩,_,_,rfl,rfl,(show (0:Int)<10 ^ 30 by decide),d2,λ rn hrn=>?_⟩;have kA:=zAD (o:=.tup [.str "num", .int (ns.getD (2:Int).toNat 0 % 10 ^ (30:Int).toNat)]) hrn;generalize upd H9 rn (.tup [.str "num", .int (ns.getD (2:Int).toNat 0 % 10 ^ (30:Int).toNat)])=HA at kA ⊢;refine⟨_,rfl,kl,kus,rfl,SqL.of (kA _ _ ek),λ ka ob hka hob=>⟨d3,λ r hr2=>?_⟩⟩;have kB:=zAD (o:=.frz ob (.tup kus)) hka;have kC:=zAD (o:=.tup [tv,.ref rn,.ref ka]) hr2;have kAC:=kA.trans (kB.trans kC);have er:(upd (upd HA ka (.frz ob (.tup kus))) r (.tup [tv,.ref rn,.ref ka])) r=some (.tup [tv,.ref rn,.ref ka]):=zAB;have eka:=kC _ _ (zAB (H:=HA) (a:=ka) (o:=.frz ob (.tup kus)));dsimp only[gName];generalize upd (upd HA ka (.frz ob (.tup kus))) r (.tup [tv,.ref rn,.ref ka])=H12 at kAC er eka ⊢;have pk12:Paired (PrV H12) kus (kdV kds):=Paired.mapP pk λ Ω Ω z=>zBy kAC.tk z;have rt12:=rt9.mono kAC.tk;have ep12:=kAC _ _ ep
 have vl12:∀g∈ss,∃u,valV kvs (Sum.inr g:Key)=some u/\Rep H12 (π g) u:=λ x hx=>by
  obtain⟨u,e,r⟩:=vl x hx;exact⟨u,e,r.mono kAC.tk⟩
 have k012:=k09.trans kAC;clear kA kB kC kAC ek pk ep vl rt9 k09 g9 hka hr2 hrn;refine⟨_,rfl,_,rfl,t,tv,pd,kvs,π,rfl,by omega,rt12,ep12,(λ x hx=>vl12 x ((mss x).mpr hx)),λ mv H13 kD rm=>?_⟩
 have hπ:∀g∈gset t,PcT ws (π g)/\(π g).size<=60/\OfK (wKd kds g) (π g):=λ g hg=>by
  obtain⟨h1,h2,h3⟩:=lp.ok g ((mss g).mpr hg);exact⟨h1,by omega,h3⟩
 have k013:=k012.trans kD;have er13:=kD _ _ er;have ka13:KdsAt H13 ka kds:=⟨ob,kus,kD _ _ eka,hob,Paired.mapP pk12 λ Ω Ω z=>zBy kD.tk z⟩;have rt13:=rt12.mono kD.tk;have ep13:=kD _ _ ep12
 have vl13:∀g∈ss,∃u,valV kvs (Sum.inr g:Key)=some u/\Rep H13 (π g) u/\(π g).size<=30:=λ x hx=>by
  obtain⟨u,e,r⟩:=vl12 x hx;have:=(lp.ok x hx).2.1;exact⟨u,e,r.mono kD.tk,by omega⟩
 clear kD er eka pk12 rt12 ep12 vl12 k012
 have deep:(dtT (fillT (cPi π) t)).deep<70:=by
  have h1:=zBZ (fillT (cPi π) t);have h2:=zC8 (π:=π) (M:=14) lg λ g hg=>mG (zB6 _) (lp.ok g ((mss g).mpr hg)).2.1;omega
 have gl:∀g∈(gcnt t).map (·.1),g.length<=100:=λ g hg=>by
  have:=sw g (gs g hg);omega
 refine⟨_,rfl,_,rfl,r,ka,tv,.ref rn,mv,t,π,kds,ws,rfl,er13,ka13,by omega,rt13,lg,by omega,lgs,rm,hπ,λ fd kf H14 kE hfd efd hSF=>?_⟩;obtain⟨S,hSt,fdF⟩:=hSF;have k014:=k013.trans kE;have er14:=kE _ _ er13;have ka14:=ka13.mono kE;have rt14:=rt13.mono kE.tk;have rm14:=rm.mono kE.tk;have ep14:=kE _ _ ep13
 have vl14:∀g∈ss,∃u,valV kvs (Sum.inr g:Key)=some u/\Rep H14 (π g) u/\(π g).size<=30:=λ x hx=>by
  obtain⟨u,e,r,s⟩:=vl13 x hx;exact⟨u,e,r.mono kE.tk,s⟩
 have nfp:fd≠pd:=λ z=>by rw[z,ep13] at hfd;cases hfd
 have nfr:r≠fd:=λ z=>by rw[←z,er13] at hfd;cases hfd
 have nfk:ka≠fd:=λ z=>by
  obtain⟨o,ys,h,_⟩:=ka13;rw[←z,h] at hfd;cases hfd
 clear kE er13 ka13 rt13 rm ep13 vl13 k013 hfd;have hST:∀g,g∈S↔g∈ss:=λ g=>by rw[hSt,mss]
 refine⟨_,rfl,_,rfl,fd,pd,kf,kvs,S,ss,π,rfl,nfp,efd,ep14,fdF,gk1,hST,vl14,λ H15 kF=>⟨true,rfl,iteF ?_⟩⟩;have k015:=k014.trans kF;have efd15:=kF _ _ efd;have fd15:=fdF.mono kF.tk;have rt15:=rt14.mono kF.tk;refine⟨_,rfl,_,rfl,t,tv,fd,kf,psS π S,ws,cPi π,rfl,rt15,efd15,fd15.fl,⟨by omega,lg.nl,lg.ct,by omega,(λ z hz=>(lg.wr z hz).elim),λ g c e=>?_⟩,gl,(λ Ω=>⟨pc_ok lg hSt (λ g hg=>(hπ g hg).1) ws,λ v16 H16 kG r16=>?_⟩),λ⟨g,hg,e⟩=>absurd e (by rw[zCX ((hSt g).mpr hg)];exact λ z=>nomatch z)⟩
 ·by_cases hg:g∈S
  ·rw[zCX hg] at e
   cases e;obtain⟨h1,h2,_⟩:=hπ g ((hSt g).mp hg);exact⟨h2,h1.nl,h1.wr⟩
  ·rw[zDa hg] at e
   cases e
 have kFG:=kF.trans kG;have efd16:=kFG _ _ efd;have er16:=kFG _ _ er14;have rm16:=rm14.mono kFG.tk;have rt16:=rt14.mono kFG.tk;have ep16:=kFG _ _ ep14;obtain⟨o16,ys16,ek16,hod,pk16⟩:=ka14.mono kFG;refine⟨_,rfl,.inr (.inr (.inl ⟨rfl,.inl ⟨kf,efd16⟩⟩)),fd,kf,rfl,rfl,efd16,?_⟩;have tkH:Tk H16 (upd H16 fd (.dK [])):=Tk.dk efd16;have er17:(upd H16 fd (.dK [])) r=_:=(zAL nfr).trans er16;have ek17:(upd H16 fd (.dK [])) ka=_:=(zAL nfk).trans ek16;have ep17:(upd H16 fd (.dK [])) pd=_:=(zAL (Ne.symm nfp)).trans ep16;have rm17:=rm16.mono tkH;have rt17:=rt16.mono tkH;have r17:=r16.mono tkH;have pk17:Paired (PrV (upd H16 fd (.dK []))) ys16 (kdV kds):=Paired.mapP pk16 λ Ω Ω z=>zBy tkH z
 have vl17:∀g∈ss,∃u,valV kvs (Sum.inr g:Key)=some u/\Rep (upd H16 fd (.dK [])) (π g) u/\(π g).size<=30:=λ x hx=>by
  obtain⟨u,e,r,s⟩:=vl14 x hx;exact⟨u,e,(r.mono kFG.tk).mono tkH,s⟩
 dsimp only;generalize upd H16 fd (.dK [])=H17 at tkH er17 ek17 ep17 rm17 rt17 r17 pk17 vl17 ⊢;refine⟨_,rfl,_,rfl,dtT (fillT (cPi π) t),v16,mv,rfl,r17.dr,rm17.dr,deep,λ H18 kI=>⟨true,rfl,iteT ?_⟩⟩
 have vl18:∀g∈ss,∃u,valV kvs (Sum.inr g:Key)=some u/\Rep H18 (π g) u/\(π g).size<=30:=λ x hx=>by
  obtain⟨u,e,r,s⟩:=vl17 x hx;exact⟨u,e,r.mono kI.tk,s⟩
 refine⟨_,rfl,_,rfl,r,ka,tv,.ref rn,mv,t,π,kds,ws,rfl,kI _ _ er17,⟨o16,ys16,kI _ _ ek17,hod,Paired.mapP pk17 λ Ω Ω z=>zBy kI.tk z⟩,by omega,rt17.mono kI.tk,lg,by omega,lgs,rm17.mono kI.tk,hπ,λ fe ke H19 kJ hfe efe hSF=>?_⟩;obtain⟨S2,hSt2,fd2⟩:=hSF;have hep:=kI _ _ ep17
 refine⟨_,rfl,fe,pd,ke,kvs,S2,ss,π,rfl,(λ z=>by rw[z,hep] at hfe;cases hfe),efe,kJ _ _ hep,fd2,gk1,(λ g=>by rw[hSt2,mss]),(λ x hx=>by
  obtain⟨u,e,r,s⟩:=vl18 x hx;exact⟨u,e,r.mono kJ.tk,s⟩),λ H20 kK=>qf _⟩
theorem zFO {K:W.Frag}{f:Addr}{oc:Value}{od:Option Addr}{fd:FuncData}{sl:Array (Option Value)}(l:K.lookup f=some ⟨oc,od,.func fd,sl⟩):W.keepIn K (.ref f)=true:=by unfold W.keepIn;dsimp only;rw[l]
noncomputable def DfA (K:W.Frag) (x:Str) (s:Stmt) (f:Addr):Prop:=∃fd,W.nsIn K mainGlobals x=some (some (.ref f))/\Fun K x x s f fd
theorem dfa {K:W.Frag}{x:Str}{st:Stmt}{f:Addr}{oc:Value}{od an:Option Addr}{osl:Array (Option Value)}{kV doc pm cdv ct:Value}(a:W.nsIn K mainGlobals x=some (some (.ref f))) (l:K.lookup f=some ⟨oc,od,.func (W.fnOf x x (zBC st) (zA0 st) (zAG st) .none kV doc pm an cdv ct),osl⟩) (c:W.codeIn K cdv x=true):DfA K x st f:=⟨_,a,zLE l c (zFO l)⟩
theorem DfA.go {K:W.Frag}{x:Str}{s:Stmt}{f:Addr}{h:Heap}{mg:Str->Option Value}(d:DfA K x s f) (X:K.In h) (G:h.Ns mainGlobals mg):∃fd,Fun K x x s f fd/\mg x=some (.ref f):=d.elim λ fd h=>⟨fd,h.2,W.mg_of X G h.1⟩
theorem us1 {p:List Value->Prop}(h:∀a,p [a]):∀us:List Value,us.length=1->p us:=λ us q=>by
 obtain _|⟨a,us⟩:=us
 ·cases q
 obtain _|⟨z,us⟩:=us
 ·exact h a
 ·simp at q
theorem us2 {p:List Value->Prop}(h:∀a b,p [a,b]):∀us:List Value,us.length=2->p us:=λ us q=>by
 obtain _|⟨a,us⟩:=us
 ·cases q
 obtain _|⟨b,us⟩:=us
 ·cases q
 obtain _|⟨z,us⟩:=us
 ·exact h a b
 ·simp at q
theorem us3 {p:List Value->Prop}(h:∀a b c,p [a,b,c]):∀us:List Value,us.length=3->p us:=λ us q=>by
 obtain _|⟨a,us⟩:=us
 ·cases q
 obtain _|⟨b,us⟩:=us
 ·cases q
 obtain _|⟨c,us⟩:=us
 ·cases q
 obtain _|⟨z,us⟩:=us
 ·exact h a b c
 ·simp at q
theorem us4 {p:List Value->Prop}(h:∀a b c d,p [a,b,c,d]):∀us:List Value,us.length=4->p us:=λ us q=>by
 obtain _|⟨a,us⟩:=us
 ·cases q
 obtain _|⟨b,us⟩:=us
 ·cases q
 obtain _|⟨c,us⟩:=us
 ·cases q
 obtain _|⟨d,us⟩:=us
 ·cases q
 obtain _|⟨z,us⟩:=us
 ·exact h a b c d
 ·simp at q
theorem ud1:∀{us:List Value},us.length=1->∃a,us=[a]
 |[a],_=>⟨a,rfl⟩
theorem ud2:∀{us:List Value},us.length=2->∃a b,us=[a,b]
 |[a,b],_=>⟨a,b,rfl⟩
theorem ud3:∀{us:List Value},us.length=3->∃a b c,us=[a,b,c]
 |[a,b,c],_=>⟨a,b,c,rfl⟩
theorem all_mk {l:W.OpenLaw}{w:World}{K:W.Frag}{h:Heap}{mg:Str->Option Value}{fa f0 f1 f2 f3 f4 f5 f6 f7 f8 f9 f10 f11 f12 f13 f14 f15 f16 f17 f18 f19 f20 f21 f22 f23 f24 f25 f26 f27 f28 f29 f30 f31 f32 f33 f34 f35 f36 f37 f38 f39 f40 f41 f42 f43 f44 f45 f46 f47 f48 f49 lv_LEAF_SIGNS lv_LOUD_SIGNS zNa zNb:Addr}(X:K.In h) (G:h.Ns mainGlobals mg) (hfa:mg "law" = some (.ref fa))
  {od25 an25:Option Addr}{sl25:Array (Option Value)}{oc25 kV25 dc25 pm25 cd25 ct25:Value}
  {dt25:Addr}{odT25:Option Addr}{slT25:Array (Option Value)}{ocT25:Value}{nT25:Nat}
  {od33 an33:Option Addr}{sl33:Array (Option Value)}{oc33 kV33 dc33 pm33 cd33 ct33:Value}
  {dt33:Addr}{odT33:Option Addr}{slT33:Array (Option Value)}{ocT33:Value}{nT33:Nat}
  {od49 an49:Option Addr}{sl49:Array (Option Value)}{oc49 kV49 dc49 pm49 cd49 ct49:Value}
  {odC0:Option Addr}{slC0:Array (Option Value)}{nC0:Nat}{tC0_0 tC0_1 tC0_2 tC0_3 tC0_4:Tok}
  {odC1:Option Addr}{slC1:Array (Option Value)}{nC1:Nat}{tC1_0 tC1_1 tC1_2:Tok}
  (a0:DfA K "is_whole" zDX f0)
  (a1:DfA K "parts_begin" zCF f1)
  (a2:DfA K "parts" zGj f2)
  (a3:DfA K "with_parts" zCU f3)
  (a4:DfA K "all_parts" zC5 f4)
  (a5:DfA K "placed_parts" zB3 f5)
  (a6:DfA K "places" zFF f6)
  (a7:DfA K "trees_down_to" zBp f7)
  (a8:DfA K "part_at" zEB f8)
  (a9:DfA K "put_at" zFE f9)
  (a10:DfA K "names_at" zDU f10)
  (a11:DfA K "same_name" zCz f11)
  (a12:DfA K "alike_leaves" zB5 f12)
  (a13:DfA K "alike_heads" zCJ f13)
  (a14:DfA K "pairs_in" zDT f14)
  (a15:DfA K "alike" zGk f15)
  (a16:DfA K "words_used" zCT f16)
  (a17:DfA K "put_leaf" zDP f17)
  (a18:DfA K "put_head" zDQ f18)
  (a19:DfA K "grown_level" zCH f19)
  (a20:DfA K "grown_tree" zCW f20)
  (a21:DfA K "renamed" zEA f21)
  (a22:DfA K "gap_parts" zC3 f22)
  (a23:DfA K "counted_gaps" zB4 f23)
  (a24:DfA K "gaps_of" zEC f24)
  (a25:W.nsIn K mainGlobals "is_quiet" = some (some (.ref f25)))
  (l25:K.lookup f25=some ⟨oc25,od25,.func (W.fnOf "is_quiet" "is_quiet" (zBC zAr) (zA0 zAr) (zAG zAr) (.ref dt25) kV25 dc25 pm25 an25 cd25 ct25),sl25⟩) (c25:W.codeIn K cd25 "is_quiet" = true)
  (lT25:K.lookup dt25=some ⟨ocT25,odT25,.seq #[.none] nT25,slT25⟩)
  (a26:DfA K "is_number" zC2 f26)
  (a27:DfA K "is_of_kind" zCV f27)
  (a28:DfA K "has_no_other_name" zBI f28)
  (a29:DfA K "piece_names" zCE f29)
  (a30:DfA K "piece_of" zDR f30)
  (a31:DfA K "bound_piece" zCI f31)
  (a32:DfA K "takes_piece" zCD f32)
  (a33:W.nsIn K mainGlobals "fit" = some (some (.ref f33)))
  (l33:K.lookup f33=some ⟨oc33,od33,.func (W.fnOf "fit" "fit" (zBC s_fit) (zA0 s_fit) (zAG s_fit) (.ref dt33) kV33 dc33 pm33 an33 cd33 ct33),sl33⟩) (c33:W.codeIn K cd33 "fit" = true)
  (lT33:K.lookup dt33=some ⟨ocT33,odT33,.seq #[.none] nT33,slT33⟩)
  (a34:DfA K "words_of_all" zB2 f34)
  (a35:DfA K "with_lets_apart" zBV f35)
  (a36:DfA K "atom_leaf" zC4 f36)
  (a37:DfA K "piece_at" zDS f37)
  (a38:DfA K "filled" zFG f38)
  (a39:DfA K "_law_cell_at" zCG f39)
  (a40:DfA K "_law_words" zC0 f40)
  (a41:DfA K "_law_leaf" zDW f41)
  (a42:DfA K "_law_tree" zCj f42)
  (a43:DfA K "_law_left" zCm f43)
  (a44:DfA K "_law_gaps" zCn f44)
  (a45:DfA K "_law_piece" zC1 f45)
  (a46:DfA K "_law_made" zCl f46)
  (a47:DfA K "_law_same" zCk f47)
  (a48:DfA K "_law_told" zDV f48)
  (a49:W.nsIn K mainGlobals "law" = some (some (.ref f49)))
  (l49:K.lookup f49=some ⟨oc49,od49,.func (W.fnOf "law" "law" (zBC s_law) (zA0 s_law) (zAG s_law) .none kV49 dc49 pm49 an49 cd49 ct49),sl49⟩) (c49:W.codeIn K cd49 "law" = true)
  (aC0:W.nsIn K mainGlobals "LEAF_SIGNS" = some (some (.ref lv_LEAF_SIGNS))) (lC0:K.lookup lv_LEAF_SIGNS=some ⟨.type "tuple", odC0,.seq #[.str "num" tC0_0,.str "name" tC0_1,.str "ask" tC0_2,.str "stop" tC0_3,.str "gap" tC0_4] nC0,slC0⟩)
  (aC1:W.nsIn K mainGlobals "LOUD_SIGNS" = some (some (.ref lv_LOUD_SIGNS))) (lC1:K.lookup lv_LOUD_SIGNS=some ⟨.type "tuple", odC1,.seq #[.str "say" tC1_0,.str "ask" tC1_1,.str "stop" tC1_2] nC1,slC1⟩)
  (aX0:W.nsIn K mainGlobals "NoPlace" = some (some (.ref zNa)))
  (aX1:W.nsIn K mainGlobals "NoFill" = some (some (.ref zNb)))
  (xP:W.excIn K zNa bmVE "ValueError.__new__" = true)
  (xF:W.excIn K zNb bmVE "ValueError.__new__" = true)
  (z_len:W.nsIn K mainGlobals "len" = some none)
  (z_range:W.nsIn K mainGlobals "range" = some none)
  (z_isinstance:W.nsIn K mainGlobals "isinstance" = some none)
  (z_int:W.nsIn K mainGlobals "int" = some none)
  (z_bool:W.nsIn K mainGlobals "bool" = some none)
  (z_str:W.nsIn K mainGlobals "str" = some none)
  (z_tuple:W.nsIn K mainGlobals "tuple" = some none)
  (z_list:W.nsIn K mainGlobals "list" = some none)
  (z_sorted:W.nsIn K mainGlobals "sorted" = some none)
  (z_enumerate:W.nsIn K mainGlobals "enumerate" = some none)
  (z_dict:W.nsIn K mainGlobals "dict" = some none)
  (z_zip:W.nsIn K mainGlobals "zip" = some none)
  (z_reversed:W.nsIn K mainGlobals "reversed" = some none)
  : ∃fd:FuncData,(∀(s:Shared) (v:Value),BindsTo s fd ⟨[v],[]⟩ [("_law_script", v)])/\∀base:Heap,K.In base->base.Ns mainGlobals mg->FnOk l.prog w K mg base CX0 72 fa fd ["_law_script"] (zHJ K):=by
 have e:=hfa.symm.trans (W.mg_of X G a49);cases e;have z_len:=W.mg_none_of X G z_len;have z_range:=W.mg_none_of X G z_range;have z_isinstance:=W.mg_none_of X G z_isinstance;have z_int:=W.mg_none_of X G z_int;have z_bool:=W.mg_none_of X G z_bool;have z_str:=W.mg_none_of X G z_str;have z_tuple:=W.mg_none_of X G z_tuple;have z_list:=W.mg_none_of X G z_list;have z_sorted:=W.mg_none_of X G z_sorted;have z_enumerate:=W.mg_none_of X G z_enumerate;have z_dict:=W.mg_none_of X G z_dict;have z_zip:=W.mg_none_of X G z_zip;have z_reversed:=W.mg_none_of X G z_reversed;have zMk:=W.mg_of X G aC0;have h_LEAF_SIGNS:zEb K lv_LEAF_SIGNS:=⟨_,_,_,lC0,rfl,rfl,(by show 5<=sizeLine;decide),(.cons ⟨_,rfl⟩ (.cons ⟨_,rfl⟩ (.cons ⟨_,rfl⟩ (.cons ⟨_,rfl⟩ (.cons ⟨_,rfl⟩ .nil)))))⟩;have zNF:=W.mg_of X G aC1;have h_LOUD_SIGNS:zGW K lv_LOUD_SIGNS:=⟨_,_,_,lC1,rfl,rfl,(by show 3<=sizeLine;decide),(.cons ⟨_,rfl⟩ (.cons ⟨_,rfl⟩ (.cons ⟨_,rfl⟩ .nil)))⟩;have zMn:=W.mg_of X G aX0;have zM7:=W.mg_of X G aX1;obtain⟨_,F0,m0⟩:=a0.go X G;have b0:=F0.binds (ps:=["value"]) λ Ω Ω Ω Ω Ω Ω=>us1 λ Ω=>rfl;obtain⟨_,F1,m1⟩:=a1.go X G;have b1:=F1.binds (ps:=["tree"]) λ Ω Ω Ω Ω Ω Ω=>us1 λ Ω=>rfl;obtain⟨_,F2,m2⟩:=a2.go X G;have b2:=F2.binds (ps:=["tree"]) λ Ω Ω Ω Ω Ω Ω=>us1 λ Ω=>rfl;obtain⟨_,F3,m3⟩:=a3.go X G;have b3:=F3.binds (ps:=["tree", "parts"]) λ Ω Ω Ω Ω Ω Ω=>us2 λ Ω Ω=>rfl;obtain⟨_,F4,m4⟩:=a4.go X G;have b4:=F4.binds (ps:=["tree"]) λ Ω Ω Ω Ω Ω Ω=>us1 λ Ω=>rfl;obtain⟨_,F5,m5⟩:=a5.go X G;have b5:=F5.binds (ps:=["tree"]) λ Ω Ω Ω Ω Ω Ω=>us1 λ Ω=>rfl;obtain⟨_,F6,m6⟩:=a6.go X G;have b6:=F6.binds (ps:=["tree"]) λ Ω Ω Ω Ω Ω Ω=>us1 λ Ω=>rfl;obtain⟨_,F7,m7⟩:=a7.go X G;have b7:=F7.binds (ps:=["tree", "place"]) λ Ω Ω Ω Ω Ω Ω=>us2 λ Ω Ω=>rfl;obtain⟨_,F8,m8⟩:=a8.go X G;have b8:=F8.binds (ps:=["tree", "place"]) λ Ω Ω Ω Ω Ω Ω=>us2 λ Ω Ω=>rfl;obtain⟨_,F9,m9⟩:=a9.go X G;have b9:=F9.binds (ps:=["tree", "place", "part"]) λ Ω Ω Ω Ω Ω Ω=>us3 λ Ω Ω Ω=>rfl;obtain⟨_,F10,m10⟩:=a10.go X G;have b10:=F10.binds (ps:=["part"]) λ Ω Ω Ω Ω Ω Ω=>us1 λ Ω=>rfl;obtain⟨_,F11,m11⟩:=a11.go X G;have b11:=F11.binds (ps:=["one", "other", "pairs"]) λ Ω Ω Ω Ω Ω Ω=>us3 λ Ω Ω Ω=>rfl;obtain⟨_,F12,m12⟩:=a12.go X G;have b12:=F12.binds (ps:=["one", "other", "pairs"]) λ Ω Ω Ω Ω Ω Ω=>us3 λ Ω Ω Ω=>rfl;obtain⟨_,F13,m13⟩:=a13.go X G;have b13:=F13.binds (ps:=["one", "other", "pairs"]) λ Ω Ω Ω Ω Ω Ω=>us3 λ Ω Ω Ω=>rfl;obtain⟨_,F14,m14⟩:=a14.go X G;have b14:=F14.binds (ps:=["one", "other", "number", "pairs"]) λ Ω Ω Ω Ω Ω Ω=>us4 λ Ω Ω Ω Ω=>rfl;obtain⟨_,F15,m15⟩:=a15.go X G;have b15:=F15.binds (ps:=["one", "other"]) λ Ω Ω Ω Ω Ω Ω=>us2 λ Ω Ω=>rfl;obtain⟨_,F16,m16⟩:=a16.go X G;have b16:=F16.binds (ps:=["tree", "leaves"]) λ Ω Ω Ω Ω Ω Ω=>us2 λ Ω Ω=>rfl;obtain⟨_,F17,m17⟩:=a17.go X G;have b17:=F17.binds (ps:=["leaf", "leaves"]) λ Ω Ω Ω Ω Ω Ω=>us2 λ Ω Ω=>rfl;obtain⟨_,F18,m18⟩:=a18.go X G;have b18:=F18.binds (ps:=["part", "leaves"]) λ Ω Ω Ω Ω Ω Ω=>us2 λ Ω Ω=>rfl;obtain⟨_,F19,m19⟩:=a19.go X G;have b19:=F19.binds (ps:=["heads", "ready"]) λ Ω Ω Ω Ω Ω Ω=>us2 λ Ω Ω=>rfl;obtain⟨_,F20,m20⟩:=a20.go X G;have b20:=F20.binds (ps:=["levels"]) λ Ω Ω Ω Ω Ω Ω=>us1 λ Ω=>rfl;obtain⟨_,F21,m21⟩:=a21.go X G;have b21:=F21.binds (ps:=["tree", "leaves"]) λ Ω Ω Ω Ω Ω Ω=>us2 λ Ω Ω=>rfl;obtain⟨_,F22,m22⟩:=a22.go X G;have b22:=F22.binds (ps:=["shape"]) λ Ω Ω Ω Ω Ω Ω=>us1 λ Ω=>rfl;obtain⟨_,F23,m23⟩:=a23.go X G;have b23:=F23.binds (ps:=["shape"]) λ Ω Ω Ω Ω Ω Ω=>us1 λ Ω=>rfl;obtain⟨_,F24,m24⟩:=a24.go X G;have b24:=F24.binds (ps:=["shape"]) λ Ω Ω Ω Ω Ω Ω=>us1 λ Ω=>rfl;have k25:=zFO l25;have F25:=zJc (st:=zAr) (dvs:=[.none]) l25 c25 k25 lT25 rfl;have b250:Binds K (W.fnOf "is_quiet" "is_quiet" (zBC zAr) (zA0 zAr) (zAG zAr) (.ref dt25) kV25 dc25 pm25 an25 cd25 ct25) ["tree", "kinds"] []:=λ s us X hl=>by obtain⟨a,b,rfl⟩:=ud2 (us:=us) (by simpa using hl);first|exact .of_eq rfl|exact W.binds_K X rfl lT25 rfl rfl rfl
 have b251:Binds K (W.fnOf "is_quiet" "is_quiet" (zBC zAr) (zA0 zAr) (zAG zAr) (.ref dt25) kV25 dc25 pm25 an25 cd25 ct25) ["tree", "kinds"] [.none]:=λ s us X hl=>by obtain⟨a,rfl⟩:=ud1 (us:=us) (by simpa using hl);first|exact .of_eq rfl|exact W.binds_K X rfl lT25 rfl rfl rfl
 have m25:=W.mg_of X G a25;obtain⟨_,F26,m26⟩:=a26.go X G;have b26:=F26.binds (ps:=["tree", "kinds"]) λ Ω Ω Ω Ω Ω Ω=>us2 λ Ω Ω=>rfl;obtain⟨_,F27,m27⟩:=a27.go X G;have b27:=F27.binds (ps:=["tree", "kind", "kinds"]) λ Ω Ω Ω Ω Ω Ω=>us3 λ Ω Ω Ω=>rfl;obtain⟨_,F28,m28⟩:=a28.go X G;have b28:=F28.binds (ps:=["tree", "atoms", "pairs"]) λ Ω Ω Ω Ω Ω Ω=>us3 λ Ω Ω Ω=>rfl;obtain⟨_,F29,m29⟩:=a29.go X G;have b29:=F29.binds (ps:=["tree", "atoms", "pairs"]) λ Ω Ω Ω Ω Ω Ω=>us3 λ Ω Ω Ω=>rfl;obtain⟨_,F30,m30⟩:=a30.go X G;have b30:=F30.binds (ps:=["gap", "tree", "pairs"]) λ Ω Ω Ω Ω Ω Ω=>us3 λ Ω Ω Ω=>rfl;obtain⟨_,F31,m31⟩:=a31.go X G;have b31:=F31.binds (ps:=["piece"]) λ Ω Ω Ω Ω Ω Ω=>us1 λ Ω=>rfl;obtain⟨_,F32,m32⟩:=a32.go X G;have b32:=F32.binds (ps:=["filling", "gap", "piece"]) λ Ω Ω Ω Ω Ω Ω=>us3 λ Ω Ω Ω=>rfl;have k33:=zFO l33;have F33:=zJc (st:=s_fit) (dvs:=[.none]) l33 c33 k33 lT33 rfl;have b330:Binds K (W.fnOf "fit" "fit" (zBC s_fit) (zA0 s_fit) (zAG s_fit) (.ref dt33) kV33 dc33 pm33 an33 cd33 ct33) ["rule", "tree", "kinds"] []:=λ s us X hl=>by obtain⟨a,b,c,rfl⟩:=ud3 (us:=us) (by simpa using hl);first|exact .of_eq rfl|exact W.binds_K X rfl lT33 rfl rfl rfl
 have b331:Binds K (W.fnOf "fit" "fit" (zBC s_fit) (zA0 s_fit) (zAG s_fit) (.ref dt33) kV33 dc33 pm33 an33 cd33 ct33) ["rule", "tree", "kinds"] [.none]:=λ s us X hl=>by obtain⟨a,b,rfl⟩:=ud2 (us:=us) (by simpa using hl);first|exact .of_eq rfl|exact W.binds_K X rfl lT33 rfl rfl rfl
 have m33:=W.mg_of X G a33;obtain⟨_,F34,m34⟩:=a34.go X G;have b34:=F34.binds (ps:=["shape", "filling"]) λ Ω Ω Ω Ω Ω Ω=>us2 λ Ω Ω=>rfl;obtain⟨_,F35,m35⟩:=a35.go X G;have b35:=F35.binds (ps:=["shape", "filling"]) λ Ω Ω Ω Ω Ω Ω=>us2 λ Ω Ω=>rfl;obtain⟨_,F36,m36⟩:=a36.go X G;have b36:=F36.binds (ps:=["atom", "filling"]) λ Ω Ω Ω Ω Ω Ω=>us2 λ Ω Ω=>rfl;obtain⟨_,F37,m37⟩:=a37.go X G;have b37:=F37.binds (ps:=["gap", "filling"]) λ Ω Ω Ω Ω Ω Ω=>us2 λ Ω Ω=>rfl;obtain⟨_,F38,m38⟩:=a38.go X G;have b38:=F38.binds (ps:=["shape", "filling"]) λ Ω Ω Ω Ω Ω Ω=>us2 λ Ω Ω=>rfl;obtain⟨_,F39,m39⟩:=a39.go X G;have b39:=F39.binds (ps:=["_law_script", "_law_k"]) λ Ω Ω Ω Ω Ω Ω=>us2 λ Ω Ω=>rfl;obtain⟨_,F40,m40⟩:=a40.go X G;have b40:=F40.binds (ps:=["_law_cell", "_law_many"]) λ Ω Ω Ω Ω Ω Ω=>us2 λ Ω Ω=>rfl;obtain⟨_,F41,m41⟩:=a41.go X G;have b41:=F41.binds (ps:=["_law_cell", "_law_words_here", "_law_loud"]) λ Ω Ω Ω Ω Ω Ω=>us3 λ Ω Ω Ω=>rfl;obtain⟨_,F42,m42⟩:=a42.go X G;have b42:=F42.binds (ps:=["_law_cells", "_law_words_here", "_law_loud"]) λ Ω Ω Ω Ω Ω Ω=>us3 λ Ω Ω Ω=>rfl;obtain⟨_,F43,m43⟩:=a43.go X G;have b43:=F43.binds (ps:=["_law_cells", "_law_words_here"]) λ Ω Ω Ω Ω Ω Ω=>us2 λ Ω Ω=>rfl;obtain⟨_,F44,m44⟩:=a44.go X G;have b44:=F44.binds (ps:=["_law_shape", "_law_found"]) λ Ω Ω Ω Ω Ω Ω=>us2 λ Ω Ω=>rfl;obtain⟨_,F45,m45⟩:=a45.go X G;have b45:=F45.binds (ps:=["_law_cells", "_law_kind", "_law_words_here"]) λ Ω Ω Ω Ω Ω Ω=>us3 λ Ω Ω Ω=>rfl;obtain⟨_,F46,m46⟩:=a46.go X G;have b46:=F46.binds (ps:=["_law_shape", "_law_pieces"]) λ Ω Ω Ω Ω Ω Ω=>us2 λ Ω Ω=>rfl;obtain⟨_,F47,m47⟩:=a47.go X G;have b47:=F47.binds (ps:=["_law_found", "_law_due"]) λ Ω Ω Ω Ω Ω Ω=>us2 λ Ω Ω=>rfl;obtain⟨_,F48,m48⟩:=a48.go X G;have b48:=F48.binds (ps:=["_law_found", "_law_pieces"]) λ Ω Ω Ω Ω Ω Ω=>us2 λ Ω Ω=>rfl;have k49:=zFO l49;have F49:=zLE (st:=s_law) l49 c49 k49;have b49:=F49.binds (ps:=["_law_script"]) λ Ω Ω Ω Ω Ω Ω=>us1 λ Ω=>rfl;have m49:=W.mg_of X G a49;refine⟨W.fnOf "law" "law" (zBC s_law) (zA0 s_law) (zAG s_law) .none kV49 dc49 pm49 an49 cd49 ct49,λ s v=>.of_eq rfl,λ base Ω Ω=>?_⟩;have G0:FnB l.prog w K mg base 1 "is_whole" f0 _ _ _:=⟨zKK (k:=0) F0 z_isinstance z_int z_bool,b0,F0.kp,m0⟩;have G1:FnB l.prog w K mg base 1 "parts_begin" f1 _ _ _:=⟨zEh (k:=0) F1 z_len zMk h_LEAF_SIGNS,b1,F1.kp,m1⟩;have G2:FnB l.prog w K mg base 2 "parts" f2 _ _ _:=⟨zKP F2 (G1.up (k:=1) (by decide)),b2,F2.kp,m2⟩;have G3:FnB l.prog w K mg base 2 "with_parts" f3 _ _ _:=⟨zLh F3 z_tuple (G1.up (k:=1) (by decide)),b3,F3.kp,m3⟩;have G4:FnB l.prog w K mg base 3 "all_parts" f4 _ _ _:=⟨zMW F4 (G2.up (k:=2) (by decide)),b4,F4.kp,m4⟩;have G5:FnB l.prog w K mg base 3 "placed_parts" f5 _ _ _:=⟨zI9 F5 z_enumerate z_sorted (G2.up (k:=2) (by decide)),b5,F5.kp,m5⟩;have G7:FnF l.prog w K mg base 3 "trees_down_to" f7 _ _ _:=⟨zLm F7 z_len zMn xP (G0.up (k:=2) (by decide)) (G2.up (k:=2) (by decide)),b7,F7.kp,m7⟩;have G8:FnF l.prog w K mg base 4 "part_at" f8 _ _ _:=⟨zIA F8 (G7.up (k:=3) (by decide)),b8,F8.kp,m8⟩;have G9:FnF l.prog w K mg base 4 "put_at" f9 _ _ _:=⟨zI6 F9 z_list z_zip z_reversed (G7.up (k:=3) (by decide)) (G2.up (k:=3) (by decide)) (G3.up (k:=3) (by decide)),b9,F9.kp,m9⟩;have G10:FnB l.prog w K mg base 1 "names_at" f10 _ _ _:=⟨zGu (k:=0) F10,b10,F10.kp,m10⟩;have G6:FnB l.prog w K mg base 4 "places" f6 _ _ _:=⟨zI8 F6 (G5.up (k:=3) (by decide)),b6,F6.kp,m6⟩;have G22:FnB l.prog w K mg base 4 "gap_parts" f22 _ _ _:=⟨zLl F22 (G5.up (k:=3) (by decide)),b22,F22.kp,m22⟩;have G23:FnB l.prog w K mg base 5 "counted_gaps" f23 _ _ _:=⟨zIB F23 z_len (G22.up (k:=4) (by decide)),b23,F23.kp,m23⟩;have G24:FnB l.prog w K mg base 6 "gaps_of" f24 _ _ _:=⟨zJC F24 (G23.up (k:=5) (by decide)),b24,F24.kp,m24⟩;have G16:FnB l.prog w K mg base 4 "words_used" f16 _ _ _:=⟨zFK F16 (G4.up (k:=3) (by decide)) (G10.up (k:=3) (by decide)),b16,F16.kp,m16⟩;have G17:FnB l.prog w K mg base 1 "put_leaf" f17 _ _ _:=⟨zGs (k:=0) F17,b17,F17.kp,m17⟩;have G18:FnB l.prog w K mg base 2 "put_head" f18 _ _ _:=⟨zGt F18 z_tuple (G17.up (k:=1) (by decide)),b18,F18.kp,m18⟩;have G19:FnB l.prog w K mg base 3 "grown_level" f19 _ _ _:=⟨zKV F19 z_len (G2.up (k:=2) (by decide)) (G3.up (k:=2) (by decide)),b19,F19.kp,m19⟩;have G20:FnB l.prog w K mg base 4 "grown_tree" f20 _ _ _:=⟨zKY F20 z_reversed (G19.up (k:=3) (by decide)),b20,F20.kp,m20⟩;have G21:FnB l.prog w K mg base 5 "renamed" f21 _ _ _:=⟨zH9 F21 (G16.up (k:=4) (by decide)) (G18.up (k:=4) (by decide)) (G2.up (k:=4) (by decide)) (G20.up (k:=4) (by decide)),b21,F21.kp,m21⟩;have G34:FnB l.prog w K mg base 7 "words_of_all" f34 _ _ _:=⟨zLi F34 (G16.up (k:=6) (by decide)) (G24.up (k:=6) (by decide)),b34,F34.kp,m34⟩;have G35:FnF l.prog w K mg base 8 "with_lets_apart" f35 _ _ _:=⟨zKZ F35 (G34.up (k:=7) (by decide)) (G6.up (k:=7) (by decide)) (G8.up (k:=7) (by decide)),b35,F35.kp,m35⟩;have G36:FnB l.prog w K mg base 1 "atom_leaf" f36 _ _ _:=⟨zKb (k:=0) F36,b36,F36.kp,m36⟩;have G37:FnB l.prog w K mg base 6 "piece_at" f37 _ _ _:=⟨zKO F37 z_dict z_zip (G36.up (k:=5) (by decide)) (G21.up (k:=5) (by decide)),b37,F37.kp,m37⟩;have G38:FnF l.prog w K mg base 9 "filled" f38 _ _ _:=⟨zJD F38 zM7 xF (G24.up (k:=8) (by decide)) (G35.up (k:=8) (by decide)) (G5.up (k:=8) (by decide)) (G9.up (k:=8) (by decide)) (G37.up (k:=8) (by decide)),b38,F38.kp,m38⟩;have G39:FnB l.prog w K mg base 1 "_law_cell_at" f39 _ _ _:=⟨zIC (k:=0) F39 z_len,b39,F39.kp,m39⟩;have G40:FnB l.prog w K mg base 1 "_law_words" f40 _ _ _:=⟨zKJ (k:=0) F40 z_range,b40,F40.kp,m40⟩;have G11:FnB l.prog w K mg base 1 "same_name" f11 _ _ _:=⟨zKM (k:=0) F11 z_reversed,b11,F11.kp,m11⟩;have G12:FnB l.prog w K mg base 2 "alike_leaves" f12 _ _ _:=⟨zID F12 (G11.up (k:=1) (by decide)),b12,F12.kp,m12⟩;have G13:FnB l.prog w K mg base 3 "alike_heads" f13 _ _ _:=⟨zKX F13 zMk h_LEAF_SIGNS (G12.up (k:=2) (by decide)),b13,F13.kp,m13⟩;have G14:FnB l.prog w K mg base 1 "pairs_in" f14 _ _ _:=⟨zMS (k:=0) F14,b14,F14.kp,m14⟩;have G15:FnB l.prog w K mg base 4 "alike" f15 _ _ _:=⟨zKa F15 z_enumerate z_zip (G13.up (k:=3) (by decide)) (G2.up (k:=3) (by decide)) (G14.up (k:=3) (by decide)),b15,F15.kp,m15⟩;have G25:FnD1 l.prog w K mg base 4 "is_quiet" f25 _ _ _:=⟨zKN F25 z_dict zNF h_LOUD_SIGNS (G4.up (k:=3) (by decide)),b250,b251,k25,m25⟩;have G26:FnB l.prog w K mg base 1 "is_number" f26 _ _ _:=⟨zKW (k:=0) F26,b26,F26.kp,m26⟩;have G27:FnB l.prog w K mg base 5 "is_of_kind" f27 _ _ _:=⟨zJA F27 (G26.up (k:=4) (by decide)) (G25.up (k:=4) (by decide)),b27,F27.kp,m27⟩;have G28:FnB l.prog w K mg base 1 "has_no_other_name" f28 _ _ _:=⟨zMU (k:=0) F28,b28,F28.kp,m28⟩;have G29:FnB l.prog w K mg base 1 "piece_names" f29 _ _ _:=⟨zI7 (k:=0) F29 z_dict z_enumerate z_tuple,b29,F29.kp,m29⟩;have G30:FnB l.prog w K mg base 2 "piece_of" f30 _ _ _:=⟨zMR F30 (G28.up (k:=1) (by decide)) (G29.up (k:=1) (by decide)),b30,F30.kp,m30⟩;have G31:FnB l.prog w K mg base 1 "bound_piece" f31 _ _ _:=⟨zJE (k:=0) F31,b31,F31.kp,m31⟩;have G32:FnB l.prog w K mg base 5 "takes_piece" f32 _ _ _:=⟨zKL F32 (G15.up (k:=4) (by decide)) (G31.up (k:=4) (by decide)),b32,F32.kp,m32⟩;have G33:FnD1 l.prog w K mg base 6 "fit" f33 _ _ _:=⟨zMV F33 z_dict z_enumerate z_zip (G27.up (k:=5) (by decide)) (G30.up (k:=5) (by decide)) (G32.up (k:=5) (by decide)) (G13.up (k:=5) (by decide)) (G2.up (k:=5) (by decide)) (G14.up (k:=5) (by decide)),b330,b331,k33,m33⟩;have G41:FnB l.prog w K mg base 1 "_law_leaf" f41 _ _ _:=⟨zKT (k:=0) F41,b41,F41.kp,m41⟩;have G42:=zGS (k:=1) F42 b42 m42 z_len (G41.up (k:=1) (by decide)) 7;have G43:=zGU (P:=l.prog) (w:=w) (base:=base) (k:=0) F43 b43 m43 z_len 9;have G44:=zGV (P:=l.prog) (w:=w) (base:=base) (k:=0) F44 b44 m44 z_isinstance z_tuple 20;have G45:FnB l.prog w K mg base 9 "_law_piece" f45 _ _ _:=⟨zJB F45 (G42.up (k:=8) (by decide)),b45,F45.kp,m45⟩;have G46:=zGT (P:=l.prog) (w:=w) (base:=base) (k:=0) F46 b46 m46 z_isinstance z_tuple 20;have G47:=all_same (P:=l.prog) (w:=w) (base:=base) (k:=0) F47 b47 m47 z_isinstance z_tuple z_str z_int z_bool z_len z_zip 70;have G48:FnB l.prog w K mg base 71 "_law_told" f48 _ _ _:=⟨zLj F48 z_isinstance z_dict z_len (G47.up (k:=70) (by decide)),b48,F48.kp,m48⟩;exact zMT F49 z_len z_enumerate z_sorted z_tuple (G40.up (k:=71) (by decide)) (G39.up (k:=71) (by decide)) (G43.up (k:=71) (by decide)) (G44.up (k:=71) (by decide)) (G45.up (k:=71) (by decide)) (G46.up (k:=71) (by decide)) (G33.up (k:=71) (by decide)) (G48.up (k:=71) (by decide)) (G47.up (k:=71) (by decide)) (G38.up (k:=71) (by decide))
theorem walk {l:W.OpenLaw}{q:Program}{loose:List Str}{XP:(Str->Option Value)->Heap->Prop}{YP:World->Heap->Prop}{d:DefRec}{K:Params->W.Frag}(hn:l.most=some 63) (hdf:d.params.defaults=[])
  (hY:∀(w:World) (h:Heap),YP w h->(K w.params).In h)
  (F:∀(w:World) (mg:Str->Option Value) (fa:Addr) (h:Heap),(K w.params).In h->h.Ns mainGlobals mg->mg d.name=some (.ref fa) ->
   ∃fd:FuncData,(∀(s:Shared) (u:Value),BindsTo s fd ⟨[u],[]⟩ [("_law_script", u)])/\∀base:Heap,(K w.params).In base->base.Ns mainGlobals mg->FnOk l.prog w (K w.params) mg base CX0 72 fa fd ["_law_script"] (zHJ (K w.params))) :
  W.WalkO q loose XP YP l.row.toRowW d [] (λ f vs=>PySem.call f vs) :=
 L2.walk_of (n:=63) (k:=72) (x := "_law_script") (CX:=λ Ω=>CX0) (sp:=λ w=>zHJ (K w.params)) hn (by decide) hdf ⟨rfl,by decide,by decide⟩ hY F (λ Ω Ω a ns hl Ω hS=>⟨a,ns,rfl,hS,λ Ω=>rfl⟩) λ Ω Ω Ω Ω Ω z=>z
end
end K12
namespace PySem.W.Fast
def tw17228287620359819117:Unit:=()
def tw4888635594972824437:Unit:=()
def tw8481261300573208728:Unit:=()
def tw16638507261831573454:Unit:=()
def tw7099207234232098704:Unit:=()
def tw6632157931157450656:Unit:=()
def tw16042503349918465529:Unit:=()
def tw11206440668961291198:Unit:=()
def tw16258452241996343835:Unit:=()
def tw6652046583963209828:Unit:=()
def tw5085508380873716021:Unit:=()
def tw9046347151848861645:Unit:=()
def tw3122310864135493107:Unit:=()
def tw10295071275698195543:Unit:=()
def tw90064273507201194:Unit:=()
def tw3000593290537611197:Unit:=()
def tw15630367311711439538:Unit:=()
def tw8755140445582553705:Unit:=()
def tw3876405128517181874:Unit:=()
def tw10295237222453393534:Unit:=()
def tw8258779927339433132:Unit:=()
def tw9769404879666413253:Unit:=()
def tw16108275510061636713:Unit:=()
def tw9592906343652910951:Unit:=()
def tw222975998697647216:Unit:=()
def tw7142430598855296700:Unit:=()
def tw17640675028977368375:Unit:=()
def tw7761753161056078494:Unit:=()
def tw11874757364054741241:Unit:=()
def tw2892978513952210093:Unit:=()
def tw305308423728508414:Unit:=()
def tw1281446781440315892:Unit:=()
def tw10519900408748316800:Unit:=()
def tw12373721462448420166:Unit:=()
def tw14433216567810245525:Unit:=()
def tw14718091792292245865:Unit:=()
def tw17664779639808246816:Unit:=()
def tw16249780779378598062:Unit:=()
def tw15575991556635633844:Unit:=()
def tw1867797407432899177:Unit:=()
def tw16706728895967281495:Unit:=()
def tw13101678125642643255:Unit:=()
def tw16672760062745212160:Unit:=()
def tw9189814895135263108:Unit:=()
def tw7449897458727506972:Unit:=()
def tw12895715864510008616:Unit:=()
def tw7054538547494460110:Unit:=()
def tw12051105238206719863:Unit:=()
def tw1046649891365396484:Unit:=()
def tw2233813591027940343:Unit:=()
def tw7617038413387954110:Unit:=()
def tw14239708496809893629:Unit:=()
def tw9733912414584069080:Unit:=()
def tw9240715717879725387:Unit:=()
def tw5651610703137247321:Unit:=()
def tw17486482321223280419:Unit:=()
def tw2464607194973341226:Unit:=()
def tw4092019542939081900:Unit:=()
def tw2874065413428796398:Unit:=()
def tw3703228717698989056:Unit:=()
def tw17755798889086956910:Unit:=()
def tw42698867191434484:Unit:=()
def tw8187661059218373600:Unit:=()
def tw8984450690539292097:Unit:=()
def tw4029127434602367221:Unit:=()
def tw14640959136151358187:Unit:=()
def tw12833485894352332718:Unit:=()
def tw11854589274881665155:Unit:=()
def tw3192612606360739201:Unit:=()
def tw7250082760377439304:Unit:=()
def tw5874068065793825368:Unit:=()
def tw10590969915355006320:Unit:=()
def tw3462474474195962410:Unit:=()
def tw13483539682442484312:Unit:=()
def tw6368033541131408789:Unit:=()
def tw4776942146164154069:Unit:=()
def tw5114334140506426066:Unit:=()
def tw14148386692829641616:Unit:=()
def tw10555936231419297557:Unit:=()
def tw14544341000651090681:Unit:=()
def tw11669864680831777770:Unit:=()
def tw16480699536776700460:Unit:=()
def tw12524637574138305192:Unit:=()
def tw15060140853322383019:Unit:=()
def tw8241392220011637299:Unit:=()
def tw5883656283445573664:Unit:=()
def tw7758987909935166759:Unit:=()
def tw14297449570871890803:Unit:=()
def tw13143838584467509832:Unit:=()
def tw14707420609426022901:Unit:=()
def tw16484639254604932786:Unit:=()
def tw16007898713277197478:Unit:=()
def tw17864099331611961817:Unit:=()
def tw2344878540896647308:Unit:=()
def tw14841671138356332384:Unit:=()
def tw9371757836446363374:Unit:=()
def tw8207686506586483291:Unit:=()
def tw8898549127043436580:Unit:=()
def tw9804824007375636753:Unit:=()
def tw2414183060286663813:Unit:=()
def tw4837954808812686095:Unit:=()
def tw9080146727173506048:Unit:=()
def tw4713206737138624691:Unit:=()
def tw17180767064508714414:Unit:=()
def tw14712729216662264339:Unit:=()
def tw16519850859298318517:Unit:=()
def tw5245310233434697377:Unit:=()
def tw11461178127216556788:Unit:=()
def tw10236487738296003575:Unit:=()
def tw3807681473302259353:Unit:=()
def tw16773790438619559254:Unit:=()
def tw9771220332565455808:Unit:=()
def tw8120588659472731533:Unit:=()
def tw1915563825064739704:Unit:=()
def tw7181689732619670090:Unit:=()
def tw14366224984672092382:Unit:=()
end PySem.W.Fast
open PySem PySem.W PyProof.Rows K12
set_option maxRecDepth 100000 in
set_option maxHeartbeats 0 in
theorem PySem.Challenge.cw_recastle_k12_pieces_of_a_plain_side_holds : PySem.Challenge.rw_recastle_k12_pieces_of_a_plain_side.Holds := by
 w_on;o_law;k_head;(case hw=>w_witness2)
 k_fill
 refine K12.walk (l:=PySem.Challenge.rw_recastle_k12_pieces_of_a_plain_side) rfl rfl (λ w h Y=>W.kIn_of Y) ?F
 case F =>
  intro w mg fa h KX G hmg
  refine' K12.all_mk KX G hmg (dfa ?_ ?_ ?_) (dfa ?_ ?_ ?_) (dfa ?_ ?_ ?_) (dfa ?_ ?_ ?_) (dfa ?_ ?_ ?_) (dfa ?_ ?_ ?_) (dfa ?_ ?_ ?_) (dfa ?_ ?_ ?_) (dfa ?_ ?_ ?_) (dfa ?_ ?_ ?_) (dfa ?_ ?_ ?_) (dfa ?_ ?_ ?_) (dfa ?_ ?_ ?_) (dfa ?_ ?_ ?_) (dfa ?_ ?_ ?_) (dfa ?_ ?_ ?_) (dfa ?_ ?_ ?_) (dfa ?_ ?_ ?_) (dfa ?_ ?_ ?_) (dfa ?_ ?_ ?_) (dfa ?_ ?_ ?_) (dfa ?_ ?_ ?_) (dfa ?_ ?_ ?_) (dfa ?_ ?_ ?_) (dfa ?_ ?_ ?_) ?a25 ?l25 ?c25 ?lT25 (dfa ?_ ?_ ?_) (dfa ?_ ?_ ?_) (dfa ?_ ?_ ?_) (dfa ?_ ?_ ?_) (dfa ?_ ?_ ?_) (dfa ?_ ?_ ?_) (dfa ?_ ?_ ?_) ?a33 ?l33 ?c33 ?lT33 (dfa ?_ ?_ ?_) (dfa ?_ ?_ ?_) (dfa ?_ ?_ ?_) (dfa ?_ ?_ ?_) (dfa ?_ ?_ ?_) (dfa ?_ ?_ ?_) (dfa ?_ ?_ ?_) (dfa ?_ ?_ ?_) (dfa ?_ ?_ ?_) (dfa ?_ ?_ ?_) (dfa ?_ ?_ ?_) (dfa ?_ ?_ ?_) (dfa ?_ ?_ ?_) (dfa ?_ ?_ ?_) (dfa ?_ ?_ ?_) ?a49 ?l49 ?c49 ?aC0 ?lC0 ?aC1 ?lC1 ?aX0 ?aX1 ?xP ?xF ?z_len ?z_range ?z_isinstance ?z_int ?z_bool ?z_str ?z_tuple ?z_list ?z_sorted ?z_enumerate ?z_dict ?z_zip ?z_reversed
  (case aX0=>k_is);(case aX1=>k_is);(case xP=>k_exc);(case xF=>k_exc)
  all_goals try k_is
#print axioms PySem.Challenge.cw_recastle_k12_pieces_of_a_plain_side_holds