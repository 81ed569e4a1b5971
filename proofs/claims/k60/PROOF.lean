import PyProof.Rows.All
import Wide.All
import OpenK.AllK
import Wide.FinOn
import Lean
import PyProof.EqAt
import PyProof.EqKinds
import PyProof.TupleCall
import PyProof.NeKinds
import PyProof.AttrMissHeap
import KE.KDictOf
import KE.KDictLaws
import KE.KSortTup
import PyProof.Rows.SortWalk
import PyProof.Rows.SortShellK
import PySem.Challenge.RW_recastle_k60_a_rule_made
abbrev lA:=@PySem.wpAny_bind
abbrev lB:=@PySem.wpAny_pure
abbrev lD:=@PySem.wpAny_ite_false
abbrev lE:=@PySem.wpAny_holding
abbrev lG:=@PySem.Heap.get?_push_of_some
abbrev lH:=@PySem.Heap.get?_push_size
abbrev lI:=@PySem.Heap.lt_size
abbrev lJ:=@List.getElem?_eq_some_iff
abbrev lK:=@List.mem_append
abbrev lN:=@List.mem_of_getElem?
abbrev lP:=@List.mem_cons
abbrev lQ:=@List.mem_cons_self
abbrev lR:=@List.mem_cons_of_mem
abbrev lS:=@Nat.le_refl
abbrev lT:=@Nat.ne_of_lt
abbrev lU:=@of_decide_eq_true
abbrev lV:=@decide_eq_true
abbrev lW:=@Option.map_eq_some_iff
abbrev lX:=@List.getElem?_eq_getElem
abbrev lY:=@Bool.false_ne_true
abbrev lZ:=@Nat.zero_le
abbrev mB:=@Nat.lt_of_lt_of_le
abbrev mC:=@List.mem_append_right
abbrev mE:=@List.mem_map
abbrev mF:=@Classical.byContradiction
abbrev mG:=@Option.some.inj
abbrev mH:=@List.mem_append_left
abbrev mI:=@Nat.le_trans
abbrev mK:=@PySem.Heap.get?_update_self
local macro_rules|`(tactic|nofun)=>`(tactic|exact⟨rfl,rfl,rfl,by decide +kernel,rfl,by decide +kernel,by decide +kernel⟩)
set_option Elab.async false
set_option tactic.hygienic false
set_option linter.all false
set_option maxRecDepth 100000
namespace L2
open PySem PySem.Spec PyProof.Rows
abbrev Key:=Sum Int Str
noncomputable def keyIs:Key->Value->Bool
 |.inl k,v=>Value.isInt k v
 |.inr x,v=>Value.isStrOf x v
noncomputable def keyH (w:World):Key->Int
 |.inl k=>hashInt k
 |.inr x=>hashStr w x
theorem zAy:∀{k:Key}{v:Value},keyIs k v=true->(∃i t,k=Sum.inl i/\v=Value.int i t)\/(∃x t,k=Sum.inr x/\v=Value.str x t)
 |.inl i,v,h=>by
  obtain⟨t,e⟩:=Value.isInt_shape (k:=i) (v:=v) h;exact .inl ⟨i,t,rfl,e⟩
 |.inr x,v,h=>by
  obtain⟨t,e⟩:=Value.isStrOf_shape (x:=x) (v:=v) h;exact .inr ⟨x,t,rfl,e⟩
theorem zE6 (i:Int) (t:Tok):keyIs (.inl i) (.int i t)=true:=by simp[keyIs,Value.isInt]
theorem zE5 (x:Str) (t:Tok):keyIs (.inr x) (.str x t)=true:=by simp[keyIs,Value.isStrOf]
theorem zOH (a b:Int):decide ((Sum.inl a:Key)=Sum.inl b)=(a == b):=by
 by_cases e:a=b
 ·subst e;simp
 ·have h:¬(Sum.inl a:Key)=Sum.inl b:=λ q=>e (Sum.inl.inj q)
  rw[decide_eq_false h];exact(beq_eq_false_iff_ne.mpr e).symm
theorem zOE (a b:Str):decide ((Sum.inr a:Key)=Sum.inr b)=decide (a=b):=by
 by_cases e:a=b
 ·subst e;simp
 ·have h:¬(Sum.inr a:Key)=Sum.inr b:=λ q=>e (Sum.inr.inj q)
  rw[decide_eq_false h,decide_eq_false e]
theorem zOG (a:Int) (b:Str):decide ((Sum.inl a:Key)=Sum.inr b)=false:=decide_eq_false (λ q=>nomatch q)
theorem zOF (a:Str) (b:Int):decide ((Sum.inr a:Key)=Sum.inl b)=false:=decide_eq_false (λ q=>nomatch q)
noncomputable def zAg (prog:Program) (w:World):PySem.KeyKind prog w Key where
 is:=keyIs
 hash:=keyH w
 inj:=λ v a b ha hb=>by
  rcases zAy ha with ⟨i,t,rfl,rfl⟩|⟨x,t,rfl,rfl⟩
  ·rcases zAy hb with ⟨j,u,rfl,e⟩|⟨y,u,rfl,e⟩
   ·injection e with e1 _;rw[e1]
   ·exact nomatch e
  ·rcases zAy hb with ⟨j,u,rfl,e⟩|⟨y,u,rfl,e⟩
   ·exact nomatch e
   ·injection e with e1 _;rw[e1]
 byValue:=λ k v h=>by
  rcases zAy h with ⟨i,t,rfl,rfl⟩|⟨x,t,rfl,rfl⟩<;>rfl
 pyHash:=λ hv h=>by
  rcases zAy hv with ⟨i,t,rfl,rfl⟩|⟨x,t,rfl,rfl⟩
  ·exact wpAny_pyHash_int h
  ·exact wpAny_pyHash_str h
 eqBool:=λ hu hv h=>by
  rcases zAy hu with ⟨i,t,rfl,rfl⟩|⟨x,t,rfl,rfl⟩
  ·rcases zAy hv with ⟨j,u,rfl,rfl⟩|⟨y,u,rfl,rfl⟩
   ·rw[zOH] at h;exact wpAny_eqBool_int h
   ·rw[zOG] at h;exact SeqAt.EqAt.int_str i t y u _ _ _ _ h
  ·rcases zAy hv with ⟨j,u,rfl,rfl⟩|⟨y,u,rfl,rfl⟩
   ·rw[zOF] at h;exact SeqAt.EqAt.str_int x t j u _ _ _ _ h
   ·rw[zOE] at h;exact wpAny_eqBool_str h
 «strs»:=λ k x t v h=>by
  rcases zAy h with ⟨i,u,rfl,e⟩|⟨y,u,rfl,e⟩
  ·exact nomatch e
  ·injection e with e1 _
   subst e1;cases v<;>rfl
theorem zHc (prog:Program) (w:World) (i:Int) (t:Tok):(zAg prog w).is (.inl i) (.int i t)=true:=zE6 i t
theorem zHb (prog:Program) (w:World) (x:Str) (t:Tok):(zAg prog w).is (.inr x) (.str x t)=true:=zE5 x t
inductive V where
 |non|bl (b:Bool)|int (i:Int)|str (x:Str)|byt (b:Array UInt8)|flt (b:UInt64)|ref (a:Addr)|ty (n:String)
 deriving DecidableEq
noncomputable def RelV:V->Value->Prop
 |.non,u=>u=Value.none
 |.bl b,u=>u=Value.bool b
 |.int i,u=>∃t,u=Value.int i t
 |.str x,u=>∃t,u=Value.str x t
 |.byt b,u=>∃t,u=Value.bytes b t
 |.flt b,u=>∃t,u=Value.float b t
 |.ref a,u=>u=Value.ref a
 |.ty n,u=>u=Value.type n
abbrev Vals:List V->List Value->Prop:=Paired RelV
theorem Vals.length {xs:List V}{us:List Value}(r:Vals xs us):xs.length=us.length:=Paired.length r
theorem Vals.get {xs:List V}{us:List Value}{i:Nat}{x:V}(h:Vals xs us):xs[i]?=some x->∃u,us[i]?=some u/\RelV x u:=by
 induction h generalizing i with
 |nil=>exact λ e=>nomatch e
 |cons h t ih=>cases i with
  |zero=>exact λ e=>⟨_,rfl,by cases e;exact h⟩
  |succ i=>exact λ e=>ih (i:=i) (by simpa using e)
theorem Vals.set {x:V}{u:Value}(r:RelV x u):∀{xs:List V}{us:List Value}(i:Nat),Vals xs us->Vals (xs.set i x) (us.set i u)
 |_,_,_,.nil=>.nil
 |_,_,0,.cons _ t=>.cons r t
 |_,_,i+1,.cons q t=>.cons q (Vals.set r i t)
theorem Vals.append {xs ys:List V}{us ws:List Value}(h:Vals xs us) (s:Vals ys ws):Vals (xs++ys) (us++ws):=by
 induction h with
 |nil=>exact s
 |cons r t ih=>exact .cons r ih
theorem Vals.take:∀{xs:List V}{us:List Value}(n:Nat),Vals xs us->Vals (xs.take n) (us.take n)
 |_,_,0,_=>.nil
 |_,_,_+1,.nil=>.nil
 |_,_,n+1,.cons r t=>.cons r (Vals.take n t)
theorem Vals.drop:∀{xs:List V}{us:List Value}(n:Nat),Vals xs us->Vals (xs.drop n) (us.drop n)
 |_,_,0,r=>r
 |_,_,_+1,.nil=>.nil
 |_,_,n+1,.cons _ t=>Vals.drop n t
noncomputable def RelO:Option V->Option Value->Prop
 |some v,some u=>RelV v u
 |none,none=>True
 |_,_=>False
noncomputable def KV {κ:Type}:List (κ × V)->List (κ × Value)->Prop:=Paired λ(p:κ × V) (q:κ × Value)=>p.1=q.1/\RelV p.2 q.2
noncomputable def kV:Key->V
 |.inl i=>.int i
 |.inr x=>.str x
inductive HO where
 |lst (xs:List V)
 |tup (xs:List V)
 |dK (kvs:List (Key × V))|dT (kvs:List (List Key × V))
 |set (S:Int->Bool) (n:Nat)
 |ins (C dx:Addr) (fs:List (Str × V))
 |own (x:Addr)
 |xd (fs:List (Str × V))
 |met (f x:Addr)
 |rng (lo hi:Int)
 |frz (o:Obj) (u:HO)
 |tbl (ps:Array Value)
 |ext (φ:Heap->Prop)
abbrev Hp:=Addr->Option HO
noncomputable def upd (H:Hp) (a:Addr) (o:HO):Hp:=λ b=>if b=a then some o else H b
theorem zAB {H:Hp}{a:Addr}{o:HO}:upd H a o a=some o:=by unfold upd;rw[if_pos rfl]
theorem zAW {H:Hp}{a b:Addr}{o:HO}(h:b≠a):upd H a o b=H b:=by unfold upd;rw[if_neg h]
theorem ne_of {H:Hp}{a b:Addr}{o u:HO}(h:H a=some o) (h':H b=some u) (d:o≠u):a≠b:=by
 intro e;subst e;rw[h] at h';exact d (mG h')
theorem zAT {H:Hp}{a b:Addr}{o:HO}(h:H a=some o) (h':H b=none):a≠b:=by
 intro e;subst e;rw[h] at h';cases h'
section
variable (P:Program) (w:World)
noncomputable def ObjOk (H:Hp) (h:Heap) (a:Addr):HO->Prop
 |.lst xs=>xs.length<=sizeLine/\∃(its:List Value) (n:Nat),Vals xs its/\h.get? a=some { cls:=.type "list", data:=.seq its.toArray n }
 |.tup xs=>xs.length<=sizeLine/\∃its:List Value,Vals xs its/\IsTup h a its.toArray
 |.dK kvs=>kvs.length<=sizeLine/\(a == sysModules)=false/\∃vs,KV kvs vs/\h.DictOf (zAg P w) a vs
 |.dT kvs=>kvs.length<=sizeLine/\(a == sysModules)=false/\∃xs:List (List Key × Addr × Value),
   Paired (λ(p:List Key × V) (q:List Key × Addr × Value)=>p.1=q.1/\H q.2.1=some (.tup (p.1.map kV))/\RelV p.2 q.2.2) kvs xs /\
   ∃o es ep,h.get? a=some o/\o.ExactDict/\o.data = .dict es ep/\es.toList=xs.map (entryOfKey (tupleKind (zAg P w)))/\(xs.map (·.1)).Nodup
 |.set S n=>h.SetOf (intKind P w) a S n
 |.ins C dx fs=>H dx=some (.own a)/\fs.length<=1000/\dx≠a/\h.get? a=some (W.instObj C dx) /\
   ∃mA,h.Ns1 dx mA/\(∀f,RelO (fs.lookup f) (mA f))/\PySem.Within mA (fs.map (·.1))
 |.own _=>∃o,h.get? a=some o
 |.xd fs=>∃mA,h.Ns1 a mA/\∀f,RelO (fs.lookup f) (mA f)
 |.rng lo hi=>∃t u v,h.get? a=some { cls:=.type "range", data:=.fields #[.int lo t,.int hi u,.int 1 v] }
 |.frz o u=>h.get? a=some o/\ObjOk H h a u
 |.tbl ps=>h.get? a=some { cls:=.none,data:=.fields ps }
 |.met f x=>h.get? a=some (W.methodObj (.ref f) (.ref x))
 |.ext φ=>φ h/\(∃o,h.get? a=some o)/\∀h1 h2:Heap,φ h1->(∀o,h1.get? a=some o->h2.get? a=some o)->φ h2
noncomputable def HOk (H:Hp) (h:Heap):Prop:=∀a o,H a=some o->ObjOk P w H h a o
end
section
variable {P:Program}{w:World}{H H':Hp}{h h':Heap}{a:Addr}{o:HO}
theorem ObjOk.lt (x:ObjOk P w H h a o):a<h.objs.size:=by
 cases o with
 |lst xs=>obtain⟨_,_,_,_,e⟩:=x;exact lI e
 |tup xs=>obtain⟨_,_,_,p⟩:=x;exact p.lt
 |dK kvs=>obtain⟨_,_,_,_,o,_,_,e,_⟩:=x;exact lI e
 |dT kvs=>obtain⟨_,_,_,_,o,_,_,e,_⟩:=x;exact lI e
 |set S n=>obtain⟨o,_,_,_,e,_⟩:=x;exact lI e
 |ins C dx fs=>obtain⟨_,_,_,e,_⟩:=x;exact lI e
 |own y=>obtain⟨_,e⟩:=x;exact lI e
 |xd fs=>obtain⟨_,⟨_,_,_,e,_⟩,_⟩:=x;exact lI e
 |rng lo hi=>obtain⟨_,_,_,e⟩:=x;exact lI e
 |frz ob u=>obtain⟨e,_⟩:=x;exact lI e
 |tbl ps=>exact lI (show h.get? a=some _ from x)
 |met f y=>exact lI (show h.get? a=some _ from x)
 |ext φ=>obtain⟨_,⟨_,e⟩,_⟩:=x;exact lI e
theorem Paired.mapP {α β:Type}{F G:α->β->Prop}{l₁:List α}{l₂:List β}(h:Paired F l₁ l₂) (f:∀a b,F a b->G a b):Paired G l₁ l₂:=by
 induction h with
 |nil=>exact .nil
 |cons r t ih=>exact .cons (f _ _ r) ih
theorem ObjOk.stay (x:ObjOk P w H h a o) (k:∀b u,(b=a\/H b=some (.own a))->h.get? b=some u->h'.get? b=some u)
  (ho:∀b,H b=some (.own a)->H' b=some (.own a)) (ht:∀b xs,H b=some (.tup xs)->H' b=some (.tup xs)):ObjOk P w H' h' a o:=by
 induction o with
 |lst xs=>obtain⟨z,its,n,r,e⟩:=x;exact⟨z,its,n,r,k _ _ (.inl rfl) e⟩
 |tup xs=>obtain⟨z,its,r,ob,e,c⟩:=x;exact⟨z,its,r,ob,k _ _ (.inl rfl) e,c⟩
 |dK kvs=>obtain⟨z,y,vs,r,ob,es,ep,e,c⟩:=x;exact⟨z,y,vs,r,ob,es,ep,k _ _ (.inl rfl) e,c⟩
 |dT kvs =>
  obtain⟨z,y,xs,r,ob,es,ep,e,c⟩:=x;exact⟨z,y,xs,Paired.mapP r λ p q z=>⟨z.1,ht _ _ z.2.1,z.2.2⟩,ob,es,ep,k _ _ (.inl rfl) e,c⟩
 |set S n=>obtain⟨ob,es,ep,t,e,c⟩:=x;exact⟨ob,es,ep,t,k _ _ (.inl rfl) e,c⟩
 |ins C dx fs =>
  obtain⟨d,z,ne,e,mA,⟨od,es,ep,e2,c⟩,r⟩:=x;exact⟨ho _ d,z,ne,k _ _ (.inl rfl) e,mA,⟨od,es,ep,k _ _ (.inr d) e2,c⟩,r⟩
 |own y=>obtain⟨ob,e⟩:=x;exact⟨ob,k _ _ (.inl rfl) e⟩
 |xd fs=>obtain⟨mA,⟨od,es,ep,e,c⟩,r⟩:=x;exact⟨mA,⟨od,es,ep,k _ _ (.inl rfl) e,c⟩,r⟩
 |rng lo hi=>obtain⟨t,u,v,e⟩:=x;exact⟨t,u,v,k _ _ (.inl rfl) e⟩
 |frz ob u ih=>obtain⟨e,q⟩:=x;exact⟨k _ _ (.inl rfl) e,ih q⟩
 |tbl ps =>
  have e:h.get? a=some { cls:=.none,data:=.fields ps }:=x;show h'.get? a=some { cls:=.none,data:=.fields ps };exact k a _ (.inl rfl) e
 |met f y =>
  have e:h.get? a=some (W.methodObj (.ref f) (.ref y)):=x;show h'.get? a=some (W.methodObj (.ref f) (.ref y));exact k a _ (.inl rfl) e
 |ext φ=>obtain⟨p,⟨o,e⟩,st⟩:=x;exact⟨st _ _ p λ o q=>k _ _ (.inl rfl) q,⟨o,k _ _ (.inl rfl) e⟩,st⟩
theorem HOk.lt (x:HOk P w H h) (e:H a=some o):a<h.objs.size:=(x a o e).lt
theorem HOk.fresh (x:HOk P w H h) (e:h.objs.size<=a):H a=none:=by
 cases q:H a with
 |none=>rfl
 |some u=>exact absurd (mB (x.lt q) e) (Nat.lt_irrefl _)
theorem HOk.kept (x:HOk P w H h) (k:∀b u,h.get? b=some u->h'.get? b=some u):HOk P w H h':=λ a o e =>
 (x a o e).stay (λ b u U q=>k b u q) (λ U q=>q) λ U U q=>q
theorem HOk.laid (x:HOk P w H h) (k:∀b u,h.get? b=some u->h'.get? b=some u) (hp:h.objs.size<=a) (new:ObjOk P w (upd H a o) h' a o):HOk P w (upd H a o) h':=λ b u e=>by
 have hn:=x.fresh hp
 by_cases hb:b=a
 ·subst hb;rw[zAB] at e;cases e;exact new
 ·rw[zAW hb] at e
  exact(x b u e).stay (λ c v U q=>k c v q) (λ c q=>by rw[zAW (zAT q hn)];exact q) λ c xs q=>by rw[zAW (zAT q hn)];exact q
end
noncomputable def Rd (H:Hp) (a:Addr) (u:HO):Prop:=H a=some u\/∃o,H a=some (.frz o u)
theorem Rd.ok {P:Program}{w:World}{H:Hp}{h:Heap}{a:Addr}{u:HO}(r:Rd H a u) (x:HOk P w H h):ObjOk P w H h a u:=by
 rcases r with r|⟨o,r⟩
 ·exact x a u r
 ·obtain⟨_,q⟩:=x a _ r
  exact q
noncomputable def Mut:Option HO->Prop
 |some (.lst _)=>True
 |some (.dK _)=>True
 |some (.dT _)=>True
 |some (.set _ _)=>True
 |some (.ins _ _ _)=>True
 |some (.ext _)=>True
 |_=>False
section
variable {P:Program}{w:World}{H:Hp}{h h':Heap}{x e:Addr}{o':HO}
theorem HOk.write (ok:HOk P w H h) (mu:Mut (H x)) (he:e=x\/H e=some (.own x)) (k:∀b u,b≠e->h.get? b=some u->h'.get? b=some u) (heo:∃u,h'.get? e=some u)
  (new:ObjOk P w (upd H x o') h' x o'):HOk P w (upd H x o') h':=λ b u q=>by
 have nown:∀c y,H c=some (.own y)->c≠x:=λ c y r z=>by subst z;rw[r] at mu;exact mu
 have ntup:∀c xs,H c=some (.tup xs)->c≠x:=λ c xs r z=>by subst z;rw[r] at mu;exact mu
 by_cases hb:b=x
 ·subst hb;rw[zAB] at q;cases q;exact new
 ·rw[zAW hb] at q
  by_cases hbe:b=e
  ·have q':H b=some (.own x):=by
    rcases he with z|z
    ·exact absurd (hbe.trans z) hb
    ·rw[hbe];exact z
   rw[q] at q';cases q';obtain⟨v,hv⟩:=heo;exact⟨v,by rw[hbe];exact hv⟩
  ·refine(ok b u q).stay (λ c v hc r=>k c v ?_ r) (λ c r=>by rw[zAW (nown c b r)];exact r) λ c xs r=>by rw[zAW (ntup c xs r)];exact r
   rcases hc with rfl|hc
   ·exact hbe
   ·rintro rfl
    rcases he with z|z
    ·exact nown c b hc z
    ·rw[hc] at z;cases z;exact hb rfl
end
structure Un (fs ex:List Addr) (H H':Hp) (h h':Heap):Prop where
 keep:∀b o,h.get? b=some o->H b=none->b∉fs->b∉ex->h'.get? b=some o
 slot:∀b o,h.get? b=some o->H b=none->b∈fs->b∉ex->∃sl,h'.get? b=some { o with slots:=sl }
 free:∀b o,h.get? b=some o->H b=none->b∉ex->H' b=none
 there:∀b o,h.get? b=some o->b∉ex->∃o',h'.get? b=some o'
 tups:∀b xs,H b=some (.tup xs)->H' b=some (.tup xs)
 frzs:∀b o u,H b=some (.frz o u)->H' b=some (.frz o u)
 tbls:∀b ps,H b=some (.tbl ps)->∃more,H' b=some (.tbl (ps++more))
section
variable {fs fs' ex ex':List Addr}{H H1 H2:Hp}{h h1 h2 h':Heap}{a x e:Addr}{o:HO}
theorem Un.any (u:Un fs ex H H1 h h1) {b:Addr}{ob:Obj}(q:h.get? b=some ob) (n:H b=none) (hx:b∉ex):∃sl,h1.get? b=some { ob with slots:=sl }:=by
 by_cases hb:b∈fs
 ·exact u.slot b ob q n hb hx
 ·exact⟨ob.slots,u.keep b ob q n hb hx⟩
theorem Un.kept (k:∀b u,h.get? b=some u->h'.get? b=some u):Un fs ex H H h h' :=
 ⟨λ b ob q U U U=>k b ob q,λ b ob q U U U=>⟨ob.slots,k b ob q⟩,λ U U U n U=>n,λ b ob q U=>⟨ob,k b ob q⟩,λ U U q=>q,λ U U U q=>q,λ U ps q=>⟨#[],by rw[q];simp⟩⟩
theorem Un.refl:Un fs ex H H h h:=Un.kept λ U U q=>q
theorem Un.laid (k:∀b u,h.get? b=some u->h'.get? b=some u) (hp:h.objs.size<=a) (hn:H a=none):Un fs ex H (upd H a o) h h' where
 keep:=λ b u q U U U=>k b u q
 slot:=λ b u q U U U=>⟨u.slots,k b u q⟩
 free:=λ b u q n U=>by rw[zAW (Nat.ne_of_lt (Nat.lt_of_lt_of_le (Heap.lt_size q) hp))];exact n
 there:=λ b u q U=>⟨u,k b u q⟩
 tups:=λ b xs q=>by rw[zAW (zAT q hn)];exact q
 frzs:=λ b u xs q=>by rw[zAW (zAT q hn)];exact q
 tbls:=λ b ps q=>⟨#[],by rw[zAW (zAT q hn),q];simp⟩
theorem Un.write (mu:Mut (H x)) (he:e=x\/H e=some (.own x)) (k:∀b u,b≠e->h.get? b=some u->h'.get? b=some u) (heo:∃u,h'.get? e=some u):Un fs ex H (upd H x o) h h':=by
 have hx:∀b,H b=none->b≠x:=λ b n z=>by subst z;rw[n] at mu;exact mu
 have hb:∀b,H b=none->b≠e:=λ b n z=>by
  subst z;rcases he with r|r
  ·exact hx b n r
  ·rw[n] at r;cases r
 have hm:∀b u,H b=some u->¬Mut (some u)->b≠x:=λ b u q nm z=>by subst z;rw[q] at mu;exact nm mu
 refine⟨λ b u q n U U=>k b u (hb b n) q,λ b u q n U U=>⟨u.slots,k b u (hb b n) q⟩,λ b u q n U=>by rw[zAW (hx b n)];exact n,λ b u q U=>?_,
  λ b xs q=>by rw[zAW (hm b _ q λ z=>z)];exact q,λ b u xs q=>by rw[zAW (hm b _ q λ z=>z)];exact q,λ b ps q=>⟨#[],by rw[zAW (hm b _ q λ z=>z),q];simp⟩⟩
 by_cases hbe:b=e
 ·subst hbe;exact heo
 ·exact⟨u,k b u hbe q⟩
end
noncomputable def trk (h:Heap) (H:Hp):List Addr:=(List.range h.objs.size).filter λ a=>(H a).isSome
noncomputable def hidT (h:Heap) (H:Hp):Heap:=W.hideAll h (trk h H)
theorem zKN (h:Heap) (H:Hp):(hidT h H).objs.size=h.objs.size:=W.hideAll_size _ _
theorem zLp {h:Heap}{H:Hp}{b:Addr}{o:Obj}(e:h.get? b=some o) (n:H b=none):(hidT h H).get? b=some o :=
 W.hideAll_get _ e λ hm=>by
  have q:(H b).isSome=true:=(List.mem_filter.mp hm).2;rw[n] at q;simp at q
theorem zNI {h:Heap}{H:Hp}{b:Addr}{o:Obj}(e:(hidT h H).get? b=some o):h.get? b=some o/\H b=none:=by
 have e':h.get? b=some o:=W.of_hideAll (trk h H) e;refine⟨e',?_⟩;cases q:H b with
 |none=>rfl
 |some x =>
  have hm:b∈trk h H:=List.mem_filter.mpr ⟨List.mem_range.mpr (lI e'),by simp[q]⟩;have z:(hidT h H).get? b=none:=W.hideAll_none (trk h H) hm;rw[z] at e;cases e
noncomputable def zNa (g h:Heap) (L:Addr):List (Addr × Obj):=(List.range h.objs.size).filterMap λ a=>if a=L\/(g.get? a).isSome=true then none else (h.get? a).map λ o=>(a,o)
noncomputable def rest (g h:Heap) (L d:Addr):List (Addr × Obj):=(zNa g h L).filter λ p=>decide (p.1≠d)
structure Mod (K:W.Frag) (mg:Str->Option Value) (base:Heap):Prop where
 kin:K.In base
 glob:base.Ns mainGlobals mg
 blt:∃mb,base.Ns builtinsNs mb/\∀x:Str,x ≠ "__name__" -> mb x=bootBuiltins x
 nolimit:base.NoLimit
structure Cx where
 prog:Program
 w:World
 K:W.Frag
 mg:Str->Option Value
 base:Heap
 A:Around
 N:List Str
 s₀:Shared
 H₀:Hp
 env:Env
 outer:List Env
 stack:List Env
 ex:List Addr
 fn:Str->Bool
 calm:Bool
 pn:List (Addr × Obj)
 xe:Value->Shared->Prop
def frs (l:List Env):List Addr:=l.filterMap (·.frame)
abbrev Cx.fs (X:Cx):List Addr:=frs X.outer
noncomputable def Vis (sc:Scope) (x:Str):Prop:=sc.names.lookup x=some .local\/sc.names.lookup x=some .cell\/sc.names.lookup x=some .free
noncomputable def Loc (sc:Scope) (x:Str):Prop:=sc.names.lookup x=some .local\/sc.names.lookup x=some .cell
noncomputable def Look (env:Env) (h:Heap) (m:Str->Option Value) (x:Str) (u:Value):Prop :=
 (env.kindOf x=some .local/\m x=some u)\/((env.kindOf x=some .cell\/env.kindOf x=some .free)/\∃c,env.cells.lookup x=some c/\h.IsCell c (some u))
structure Cx.Ok (X:Cx):Prop where
 mod:Mod X.K X.mg X.base
 kind:X.env.scope.kind = .function
 glob:X.env.globals=mainGlobals
 blt:X.env.builtins=builtinsNs
 above:X.s₀.heap.objs.size<=X.env.locals
 inj:∀x y c,X.env.cells.lookup x=some c->X.env.cells.lookup y=some c->x=y
 has:∀x,(X.env.kindOf x=some .cell\/X.env.kindOf x=some .free)->∃c,X.env.cells.lookup x=some c
 cab:∀x c,X.fn x=true->X.env.cells.lookup x=some c->X.s₀.heap.objs.size<=c
 hd:X.calm=true->X.A.handled=none
 frames:X.A.frames=some X.stack
 stk:X.stack=X.outer\/(X.stack=X.env::X.outer/\X.env.frame=some X.env.locals)
 exf:∀b∈X.ex,b≠X.env.locals/\∀x c,X.env.cells.lookup x=some c->c≠b
 bs:∀b o,X.base.get? b=some o->X.s₀.heap.get? b=some o/\X.H₀ b=none
 bsz:X.base.objs.size<=X.s₀.heap.objs.size
 noex:∀b o,X.base.get? b=some o->b∉X.ex
 exfs:∀b∈X.ex,b∉X.fs
 funs:X.s₀.heap.FunFrames X.base X.outer
 frf:∀b∈X.fs,X.H₀ b=none
structure Inv (X:Cx) (jP:List (Addr × Obj)) (σ:List (Option V)) (H:Hp) (s:Shared):Prop where
 ok:X.Ok
 os:s.os=X.s₀.os
 bare:AllBare s.gens
 base:Un X.fs X.ex X.H₀ H X.s₀.heap s.heap
 loc:∃m,s.heap.Ns X.env.locals m/\∀(i:Nat) (x:Str) (v:V),X.N[i]?=some x->σ[i]?=some (some v)->Vis X.env.scope x->∃u,RelV v u/\Look X.env s.heap m x u
 cell:∀x c,X.env.cells.lookup x=some c->∃v,s.heap.IsCell c v
 free:H X.env.locals=none
 freeC:∀x c,X.env.cells.lookup x=some c->H c=none
 pin:∀p∈X.pn++jP,s.heap.get? p.1=some p.2/\H p.1=none/\p.1≠X.env.locals/\p.1∉X.fs/\∀v,p.2.data ≠ .cell v
 hok:HOk X.prog X.w H s.heap
 len:σ.length=X.N.length
section
variable {X:Cx}{jP:List (Addr × Obj)}{σ:List (Option V)}{H H':Hp}{s:Shared}{h':Heap}
theorem Cx.Ok.nofr (ok:X.Ok) {b:Addr}{o:Obj}(e:X.base.get? b=some o):b∉X.fs:=λ hb=>by
 have:=(ok.funs.mem hb).1;rw[e] at this;cases this
theorem Inv.bs (I:Inv X jP σ H s):∀b o,X.base.get? b=some o->s.heap.get? b=some o/\H b=none:=λ b o e =>
 ⟨I.base.keep b o (I.ok.bs b o e).1 (I.ok.bs b o e).2 (I.ok.nofr e) (I.ok.noex b o e),I.base.free b o (I.ok.bs b o e).1 (I.ok.bs b o e).2 (I.ok.noex b o e)⟩
theorem Inv.bk (I:Inv X jP σ H s):∀b o,X.base.get? b=some o->s.heap.get? b=some o:=λ b o e=>(I.bs b o e).1
theorem Inv.mod (I:Inv X jP σ H s):Mod X.K X.mg X.base:=I.ok.mod
theorem Inv.kIn (I:Inv X jP σ H s):X.K.In s.heap:=I.ok.mod.kin.keeps I.bk
theorem Inv.lt (I:Inv X jP σ H s):X.env.locals<s.heap.objs.size:=let ⟨_,hn,_⟩:=I.loc;hn.lt
theorem Inv.sz (I:Inv X jP σ H s):X.s₀.heap.objs.size<=s.heap.objs.size:=mI I.ok.above (Nat.le_of_lt I.lt)
theorem Inv.nofs (I:Inv X jP σ H s) {a:Addr}(h:s.heap.objs.size<=a):a∉X.fs:=λ hb=>by
 obtain⟨_,o,ho,_⟩:=I.ok.funs.mem hb;exact absurd (mB (lI ho) (mI I.sz h)) (Nat.lt_irrefl _)
theorem Inv.cne (I:Inv X jP σ H s):∀x c,X.env.cells.lookup x=some c->c≠X.env.locals:=λ x c e z=>by
 obtain⟨v,o,ho,hd⟩:=I.cell x c e;obtain⟨m,⟨o',es,ep,ho',hd',_⟩,_⟩:=I.loc;rw[z,ho'] at ho;cases ho;rw[hd'] at hd;cases hd
theorem Inv.funs (I:Inv X jP σ H s):s.heap.FunFrames X.base X.outer:=by
 have all:∀(l:List Env),(∀b∈frs l,b∈X.fs)->X.s₀.heap.FunFrames X.base l->s.heap.FunFrames X.base l:=by
  intro l
  induction l with
  |nil=>intro _ _;trivial
  |cons env r ih =>
   intro hs hl;obtain⟨hk,⟨L,o,hf,hn,ho,hd⟩,hr⟩:=hl;have hL:L∈X.fs:=hs L (by unfold frs;rw[List.filterMap_cons,hf];exact lQ);obtain⟨sl,e⟩:=I.base.slot L o ho (I.ok.frf L hL) hL λ z=>I.ok.exfs L z hL;exact⟨hk,⟨L,_,hf,hn,e,hd⟩,ih (λ b hb=>hs b (by unfold frs;rw[List.filterMap_cons,hf];exact lR _ hb)) hr⟩
 exact all X.outer (λ U hb=>hb) I.ok.funs
theorem Inv.stack (I:Inv X jP σ H s):s.heap.FunFrames X.base X.stack:=by
 rcases I.ok.stk with e|⟨e,hf⟩
 ·rw[e];exact I.funs
 ·rw[e]
  obtain⟨m,hn,_⟩:=I.loc;refine .cons (by rw[I.ok.kind];decide) hf hn ?_ I.funs;exact Heap.get?_none_of_le (mI I.ok.bsz I.ok.above)
theorem Inv.stkSub (I:Inv X jP σ H s):∀b∈frs X.stack,b∈X.env.locals::X.fs:=λ b hb=>by
 rcases I.ok.stk with e|⟨e,hf⟩
 ·rw[e] at hb;exact lR _ hb
 ·rw[e] at hb
  unfold frs at hb;rw[List.filterMap_cons,hf] at hb;exact hb
theorem Inv.stkFree (I:Inv X jP σ H s):∀b∈frs X.stack,H b=none:=λ b hb=>by
 rcases lP.mp (I.stkSub b hb) with e|hb
 ·rw[e];exact I.free
 ·obtain⟨_,o,ho,_⟩:=I.ok.funs.mem hb
  exact I.base.free b o ho (I.ok.frf b hb) λ z=>I.ok.exfs b z hb
theorem Inv.step {g':Array GenState}{t':Nat}{d':Drawn}{ch:List Addr}(I:Inv X jP σ H s)
  (hch:∀b∈ch,(b∈X.ex\/X.s₀.heap.objs.size<=b)/\b≠X.env.locals/\(∀x c,X.env.cells.lookup x=some c->c≠b)/\∀p∈X.pn++jP,p.1≠b)
  (keep:∀b o,b≠X.env.locals->b∉X.fs->b∉ch->s.heap.get? b=some o->H b=none->h'.get? b=some o)
  (slot:∀b o,b≠X.env.locals->b∈X.fs->b∉ch->s.heap.get? b=some o->H b=none->∃sl,h'.get? b=some { o with slots:=sl }) (free:∀b o,b∉ch->s.heap.get? b=some o->H b=none->H' b=none)
  (there:∀b o,b∉ch->s.heap.get? b=some o->∃o',h'.get? b=some o')
  (tups:∀b xs,H b=some (.tup xs)->H' b=some (.tup xs)) (frzs:∀b o u,H b=some (.frz o u)->H' b=some (.frz o u)) (tbls:∀b ps,H b=some (.tbl ps)->∃more,H' b=some (.tbl (ps++more)))
  (ns:∀m,s.heap.Ns X.env.locals m->h'.Ns X.env.locals m) (hok:HOk X.prog X.w H' h') (hg:AllBare g') :
  Inv X jP σ H' { s with heap:=h',gens:=g',drawn:=d',toks:=t' }:=by
 have neL:∀b o,X.s₀.heap.get? b=some o->b≠X.env.locals:=λ b o e=>lT (mB (lI e) I.ok.above)
 have neC:∀b o,X.s₀.heap.get? b=some o->b∉X.ex->b∉ch:=λ b o e hx hb=>by
  rcases (hch b hb).1 with z|z
  ·exact hx z
  ·exact absurd (mB (lI e) z) (Nat.lt_irrefl _)
 have cellK:∀x c,X.env.cells.lookup x=some c->∀v,s.heap.IsCell c v->h'.IsCell c v:=λ x c e v ⟨o,ho,hd⟩=>by
  have nch:c∉ch:=λ z=>(hch c z).2.2.1 x c e rfl
  by_cases hc:c∈X.fs
  ·obtain⟨sl,q⟩:=slot c o (I.cne x c e) hc nch ho (I.freeC x c e)
   exact⟨_,q,hd⟩
  ·exact⟨o,keep c o (I.cne x c e) hc nch ho (I.freeC x c e),hd⟩
 refine⟨I.ok,I.os,hg,⟨λ b o e n hb hx=>?_,λ b o e n hb hx=>?_,λ b o e n hx=>?_,λ b o e hx=>?_,λ b xs e=>tups b xs (I.base.tups b xs e),λ b o xs e=>frzs b o xs (I.base.frzs b o xs e),λ b ps e=>?_⟩,?_,λ x c e=>?_,?_,λ x c e=>?_,λ p hp=>?_,hok,I.len⟩
 ·exact keep b o (neL b o e) hb (neC b o e hx) (I.base.keep b o e n hb hx) (I.base.free b o e n hx)
 ·obtain⟨sl,e1⟩:=I.base.slot b o e n hb hx
  obtain⟨sl',e2⟩:=slot b _ (neL b o e) hb (neC b o e hx) e1 (I.base.free b o e n hx);exact⟨sl',e2⟩
 ·obtain⟨o',e1⟩:=I.base.there b o e hx
  exact free b o' (neC b o e hx) e1 (I.base.free b o e n hx)
 ·obtain⟨o',e1⟩:=I.base.there b o e hx
  exact there b o' (neC b o e hx) e1
 ·obtain⟨m1,e1⟩:=I.base.tbls b ps e
  obtain⟨m2,e2⟩:=tbls b _ e1;exact⟨m1++m2,by rw[e2,Array.append_assoc]⟩
 ·obtain⟨m,hn,hl⟩:=I.loc
  refine⟨m,ns m hn,λ i x v e1 e2 e3=>?_⟩;obtain⟨u,r,l⟩:=hl i x v e1 e2 e3;refine⟨u,r,?_⟩;rcases l with l|⟨k,c,e,z⟩
  ·exact .inl l
  ·exact .inr ⟨k,c,e,cellK x c e _ z⟩
 ·obtain⟨v,z⟩:=I.cell x c e
  exact⟨v,cellK x c e v z⟩
 ·obtain⟨m,⟨o,_,_,ho,_⟩,_⟩:=I.loc
  exact free _ o (λ z=>(hch _ z).2.1 rfl) ho I.free
 ·obtain⟨v,o,ho,hd⟩:=I.cell x c e
  exact free c o (λ z=>(hch c z).2.2.1 x c e rfl) ho (I.freeC x c e)
 ·obtain⟨e,n,ne,nf,d⟩:=I.pin p hp
  have nch:p.1∉ch:=λ z=>(hch p.1 z).2.2.2 p hp rfl;exact⟨keep p.1 p.2 ne nf nch e n,free p.1 p.2 nch e n,ne,nf,d⟩
theorem Inv.un {t':Nat}(I:Inv X jP σ H s) (u:Un X.fs [] H H' s.heap h') (hok:HOk X.prog X.w H' h'):Inv X jP σ H' { s with heap:=h',toks:=t' }:=by
 obtain⟨m,⟨o,es,ep,ho,r⟩,_⟩:=id I.loc;obtain⟨sl,hL⟩:=u.any ho I.free (by simp)
 exact I.step (g':=s.gens) (d':=s.drawn) (ch:=[]) (λ U z=>nomatch z) (λ b o U hb U e n=>u.keep b o e n hb (by simp)) (λ b o U hb U e n=>u.slot b o e n hb (by simp)) (λ b o U e n=>u.free b o e n (by simp)) (λ b o U e=>u.there b o e (by simp)) u.tups u.frzs u.tbls (λ m' hm=>by
  obtain⟨o',es',ep',ho',r'⟩:=hm;rw[ho] at ho';cases ho';exact⟨_,es',ep',hL,r'⟩) hok I.bare
theorem Inv.call {g':Array GenState}{t':Nat}{d':Drawn}{ch:List Addr}(I:Inv X jP σ H s) (u:Un (frs X.stack) ch H H' s.heap h') (hok:HOk X.prog X.w H' h') (hg:AllBare g')
  (hch:∀b∈ch,(b∈X.ex\/X.s₀.heap.objs.size<=b)/\b≠X.env.locals/\(∀x c,X.env.cells.lookup x=some c->c≠b)/\∀p∈X.pn++jP,p.1≠b) :
  Inv X jP σ H' { s with heap:=h',gens:=g',drawn:=d',toks:=t' }:=by
 obtain⟨m,⟨o,es,ep,ho,r⟩,_⟩:=id I.loc;obtain⟨sl,hL⟩:=u.any ho I.free λ z=>(hch _ z).2.1 rfl
 exact I.step (ch:=ch) hch (λ b o hL hb hc e n=>u.keep b o e n (λ z=>(lP.mp (I.stkSub b z)).elim hL hb) hc) (λ b o U U hc e n=>u.any e n hc) (λ b o hc e n=>u.free b o e n hc) (λ b o hc e=>u.there b o e hc) u.tups u.frzs u.tbls (λ m' hm=>by
  obtain⟨o',es',ep',ho',r'⟩:=hm;rw[ho] at ho';cases ho';exact⟨_,es',ep',hL,r'⟩) hok hg
theorem Inv.turned {t':Nat}{it:Addr}(I:Inv X jP σ H s) (k:∀b o,b≠it->s.heap.get? b=some o->h'.get? b=some o) (hn:H it=none) (hL:it≠X.env.locals)
  (h1:it∈X.ex\/X.s₀.heap.objs.size<=it) (h2:∀x c,X.env.cells.lookup x=some c->c≠it) (h3:∀p∈X.pn++jP,p.1≠it):Inv X jP σ H { s with heap:=h',toks:=t' }:=by
 have nit:∀b u,H b=some u->b≠it:=λ b u e z=>by rw[z,hn] at e;cases e
 refine I.step (g':=s.gens) (d':=s.drawn) (ch:=[it]) (λ b hb=>?_) (λ b o U U hc e U=>k b o (λ z=>hc (by simp[z])) e) (λ b o U U hc e U=>⟨o.slots,k b o (λ z=>hc (by simp[z])) e⟩) (λ U U U U n=>n)
  (λ b o hc e=>⟨o,k b o (λ z=>hc (by simp[z])) e⟩) (λ U U e=>e) (λ U U U e=>e) (λ b ps e=>⟨#[],by rw[e];simp⟩) (λ m hm=>?_) (λ b u e=>?_) I.bare
 ·have e:b=it:=by simpa using hb
  subst e;exact⟨h1,hL,h2,h3⟩
 ·obtain⟨o,es,ep,ho,r⟩:=hm
  exact⟨o,es,ep,k _ o (Ne.symm hL) ho,r⟩
 ·refine(I.hok b u e).stay (λ c v hc q=>k c v ?_ q) (λ U q=>q) λ U U q=>q
  rcases hc with z|z
  ·rw[z];exact nit b u e
  ·exact nit c _ z
theorem Inv.tok (I:Inv X jP σ H s) (t:Nat):Inv X jP σ H { s with toks:=t }:=I.un (h':=s.heap) (t':=t) Un.refl I.hok
theorem Inv.kept {t':Nat}(I:Inv X jP σ H s) (k:∀b u,s.heap.get? b=some u->h'.get? b=some u):Inv X jP σ H { s with heap:=h',toks:=t' }:=I.un (Un.kept k) (I.hok.kept k)
theorem Inv.laid {a:Addr}{o:HO}{t':Nat}(I:Inv X jP σ H s) (k:∀b u,s.heap.get? b=some u->h'.get? b=some u) (hp:s.heap.objs.size<=a) (new:ObjOk X.prog X.w (upd H a o) h' a o) :
  Inv X jP σ (upd H a o) { s with heap:=h',toks:=t' }:=I.un (Un.laid k hp (I.hok.fresh hp)) (I.hok.laid k hp new)
theorem Inv.write {x e:Addr}{o:HO}{t':Nat}(I:Inv X jP σ H s) (mu:Mut (H x)) (he:e=x\/H e=some (.own x)) (k:∀b u,b≠e->s.heap.get? b=some u->h'.get? b=some u) (heo:∃u,h'.get? e=some u)
  (new:ObjOk X.prog X.w (upd H x o) h' x o):Inv X jP σ (upd H x o) { s with heap:=h',toks:=t' }:=I.un (Un.write mu he k heo) (I.hok.write mu he k heo new)
theorem Inv.weak {σ':List (Option V)}(I:Inv X jP σ H s) (hl:σ'.length=σ.length) (w:∀(i:Nat) v,σ'[i]?=some (some v)->σ[i]?=some (some v)):Inv X jP σ' H s :=
 ⟨I.ok,I.os,I.bare,I.base,let ⟨m,hn,hl'⟩:=I.loc;⟨m,hn,λ i x v e1 e2 e3=>hl' i x v e1 (w i v e2) e3⟩,I.cell,I.free,I.freeC,I.pin,I.hok,hl.trans I.len⟩
theorem Inv.pins_of {pins':List (Addr × Obj)}(I:Inv X jP σ H s) (h:∀p∈pins',s.heap.get? p.1=some p.2/\H p.1=none/\p.1≠X.env.locals/\p.1∉X.fs/\∀v,p.2.data ≠ .cell v):Inv X pins' σ H s :=
 ⟨I.ok,I.os,I.bare,I.base,I.loc,I.cell,I.free,I.freeC,λ p hp=>(lK.mp hp).elim (λ z=>I.pin p (mH _ z)) (h p),I.hok,I.len⟩
theorem zII {N:List Str}(hN:N.Nodup) {i j:Nat}{x:Str}(a:N[i]?=some x) (b:N[j]?=some x):i=j:=by
 obtain⟨h1,e1⟩:=lJ.mp a;obtain⟨h2,e2⟩:=lJ.mp b;exact(List.getElem_inj hN).mp (e1.trans e2.symm)
theorem zGX {M:Model}{A:Around}{E:Value->Shared->Prop}{i:Nat}{x:Str}{v:V}{u:Value}{Q:Unit->Shared->Prop}(I:Inv X jP σ H s) (hN:X.N.Nodup) (hi:X.N[i]?=some x) (hx:Loc X.env.scope x) (r:RelV v u)
  (h:∀s',Inv X jP (σ.set i (some v)) H s'->(∃a,Heap.SameBut a s.heap s'.heap/\(a=X.env.locals\/X.env.cells.lookup x=some a))->Q () s') (hf:X.fn x=true\/X.env.scope.names.lookup x=some .local:=by first|exact .inl rfl|exact .inr rfl|assumption):wpAny M A (storeName X.env x u) Q E s:=by
 obtain⟨m,hn,hl⟩:=id I.loc;have hcls:(X.env.scope.kind == .class || (X.env.scope.kind == .module && X.env.locals != X.env.globals))=false:=by rw[I.ok.kind];rfl
 have hiσ:i<σ.length:=by rw[I.len];exact(lJ.mp hi).1
 have cne:=I.cne
 have tracked:∀{a:Addr}{h':Heap},(∃o,s.heap.get? a=some o/\H a=none)->Heap.SameBut a s.heap h'->HOk X.prog X.w H h':=λ{a h'} ha hs b ob e=>by
  obtain⟨_,_,hfree⟩:=ha;refine(I.hok b ob e).stay (λ c w' hc q=>(hs.2 c ?_).trans q) (λ U q=>q) λ U U q=>q;rintro rfl;rcases hc with rfl|hc
  ·rw[hfree] at e;cases e
  ·rw[hfree] at hc;cases hc
 rcases hx with hk|hk
 ·refine wpAny_storeName_local hk hn (λ h' hn' hs=>?_) hcls
  obtain⟨oL,_,_,hoL,_⟩:=id hn;refine h _ ⟨I.ok,I.os,I.bare,⟨λ b o e n hb hx=>?_,λ b o e n hb hx=>?_,I.base.free,λ b o e hx=>?_,I.base.tups,I.base.frzs,I.base.tbls⟩,⟨_,hn',λ j y v' e1 e2 e3=>?_⟩,λ y c e=>?_,I.free,I.freeC,λ p hp=>?_,tracked ⟨oL,hoL,I.free⟩ hs,by simpa using I.len⟩ ⟨_,hs,.inl rfl⟩
  ·exact(hs.2 b (lT (mB (lI e) I.ok.above))).trans (I.base.keep b o e n hb hx)
  ·obtain⟨sl,e1⟩:=I.base.slot b o e n hb hx
   exact⟨sl,(hs.2 b (lT (mB (lI e) I.ok.above))).trans e1⟩
  ·obtain⟨o',e1⟩:=I.base.there b o e hx
   exact⟨o',(hs.2 b (lT (mB (lI e) I.ok.above))).trans e1⟩
  ·by_cases hj:j=i
   ·subst hj
    rw[hi] at e1;cases e1;rw[List.getElem?_set_self hiσ] at e2;cases e2;exact⟨u,r,.inl ⟨hk,by simp⟩⟩
   ·rw[List.getElem?_set_ne (Ne.symm hj)] at e2
    obtain⟨u',r',q⟩:=hl j y v' e1 e2 e3;refine⟨u',r',?_⟩;rcases q with ⟨k,e⟩|⟨k,c,e,z⟩
    ·refine .inl ⟨k,?_⟩
     have:y≠x:=λ e=>hj (zII hN e1 (e▸hi));simp[this,e]
    ·exact .inr ⟨k,c,e,z.sameBut hs (cne y c e)⟩
  ·obtain⟨w',z⟩:=I.cell y c e
   exact⟨w',z.sameBut hs (cne y c e)⟩
  ·obtain⟨e,n,ne,nf,d⟩:=I.pin p hp
   exact⟨(hs.2 p.1 ne).trans e,n,ne,nf,d⟩
 ·have hfn:X.fn x=true:=by
   rcases hf with z|z
   ·exact z
   ·rw[z] at hk;cases hk
  obtain⟨c,hc⟩:=I.ok.has x (.inl hk);obtain⟨w',z⟩:=I.cell x c hc;refine wpAny_storeName_cell I.ok.kind hk hc z (λ h' hc' hs=>?_);obtain⟨oc,hoc,hocd⟩:=id z;refine h { s with heap:=h' } ⟨I.ok,I.os,I.bare,⟨λ b o e n hb hx=>?_,λ b o e n hb hx=>?_,I.base.free,λ b o e hx=>?_,I.base.tups,I.base.frzs,I.base.tbls⟩,⟨m,hn.sameBut hs (Ne.symm (cne x c hc)),λ j y v' e1 e2 e3=>?_⟩,λ y c' e=>?_,I.free,I.freeC,λ p hp=>?_,tracked ⟨oc,hoc,I.freeC x c hc⟩ hs,by simpa using I.len⟩ ⟨c,hs,.inr hc⟩
  ·exact(hs.2 b (lT (mB (lI e) (I.ok.cab x c hfn hc)))).trans (I.base.keep b o e n hb hx)
  ·obtain⟨sl,e1⟩:=I.base.slot b o e n hb hx
   exact⟨sl,(hs.2 b (lT (mB (lI e) (I.ok.cab x c hfn hc)))).trans e1⟩
  ·obtain⟨o',e1⟩:=I.base.there b o e hx
   exact⟨o',(hs.2 b (lT (mB (lI e) (I.ok.cab x c hfn hc)))).trans e1⟩
  ·by_cases hj:j=i
   ·subst hj
    rw[hi] at e1;cases e1;rw[List.getElem?_set_self hiσ] at e2;cases e2;exact⟨u,r,.inr ⟨.inl hk,c,hc,hc'⟩⟩
   ·rw[List.getElem?_set_ne (Ne.symm hj)] at e2
    obtain⟨u',r',q⟩:=hl j y v' e1 e2 e3;refine⟨u',r',?_⟩;rcases q with q|⟨k,c',e,z'⟩
    ·exact .inl q
    ·refine .inr ⟨k,c',e,z'.sameBut hs ?_⟩
     rintro rfl;exact hj (zII hN e1 (I.ok.inj _ _ _ e hc▸hi))
  ·by_cases hcc:c'=c
   ·subst hcc;exact⟨_,hc'⟩
   ·obtain⟨w2,z2⟩:=I.cell y c' e
    exact⟨w2,z2.sameBut hs hcc⟩
  ·obtain⟨e,n,ne,nf,d⟩:=I.pin p hp
   refine⟨(hs.2 p.1 ?_).trans e,n,ne,nf,d⟩;intro q;rw[q,hoc] at e;have q':oc=p.2:=mG e;exact d w' (by rw[←q'];exact hocd)
theorem zHs {M:Model}{A:Around}{E:Value->Shared->Prop}{i:Nat}{x:Str}{v:V}{u:Value}{Q:Unit->Shared->Prop}(I:Inv X jP σ H s) (hN:X.N.Nodup) (hi:X.N[i]?=some x) (hx:Loc X.env.scope x) (r:RelV v u)
  (h:∀s',Inv X jP (σ.set i (some v)) H s'->Q () s') (hf:X.fn x=true\/X.env.scope.names.lookup x=some .local:=by first|exact .inl rfl|exact .inr rfl|assumption):wpAny M A (storeName X.env x u) Q E s :=
 zGX I hN hi hx r (λ s' I' U=>h s' I') hf
theorem Inv.call' {s':Shared}{ch:List Addr}(I:Inv X jP σ H s) (ho:s'.os=s.os) (u:Un (frs X.stack) ch H H' s.heap s'.heap) (hok:HOk X.prog X.w H' s'.heap) (hg:AllBare s'.gens)
  (hch:∀b∈ch,(b∈X.ex\/X.s₀.heap.objs.size<=b)/\b≠X.env.locals/\(∀x c,X.env.cells.lookup x=some c->c≠b)/\∀p∈X.pn++jP,p.1≠b):Inv X jP σ H' s':=by
 obtain⟨h',g',d',t',o'⟩:=s';have e:o'=s.os:=ho;subst e;exact I.call (g':=g') (t':=t') (d':=d') u hok hg hch
end
abbrev XK:=Value->Option Addr->Hp->Prop
abbrev St:=List (Option V)
abbrev VK:=V->Hp->Prop
abbrev TE:=St->Hp->VK->Prop
abbrev TT:=St->Hp->(Bool->Hp->Prop)->Prop
abbrev TA:=St->Hp->(List V->Hp->Prop)->Prop
structure Ends where
 nx:St->Hp->Prop
 rt:VK
 bk:St->Hp->Prop:=λ U U=>False
 ct:St->Hp->Prop:=λ U U=>False
abbrev TS:=Ends->St->Hp->Prop
noncomputable def EP (X:Cx) (jP:List (Addr × Obj)) (σ:St) (Q:VK) (u:Value) (s':Shared):Prop:=∃v H',Inv X jP σ H' s'/\RelV v u/\Q v H'
noncomputable def TP (X:Cx) (jP:List (Addr × Obj)) (σ:St) (Q:Bool->Hp->Prop) (b:Bool) (s':Shared):Prop:=∃H',Inv X jP σ H' s'/\Q b H'
noncomputable def AP (X:Cx) (jP:List (Addr × Obj)) (σ:St) (Q:List V->Hp->Prop) (us:List Value) (s':Shared):Prop:=∃vs H',Inv X jP σ H' s'/\Vals vs us/\Q vs H'
noncomputable def SP (X:Cx) (jP:List (Addr × Obj)) (D:Ends) (f:Flow) (s':Shared):Prop :=
 match f with
 |.next=>∃σ' H',Inv X jP σ' H' s'/\D.nx σ' H'
 |.brk=>∃σ' H',Inv X jP σ' H' s'/\D.bk σ' H'
 |.cont=>∃σ' H',Inv X jP σ' H' s'/\D.ct σ' H'
 |.ret u=>∃v σ' H',Inv X jP σ' H' s'/\RelV v u/\D.rt v H'
noncomputable def PE (X:Cx) (e:Expr) (t:TE):Prop :=
 ∀(jP:List (Addr × Obj)) (s:Shared) (σ:St) (H:Hp) (Q:VK),Inv X jP σ H s->t σ H Q->wpAny (model X.prog X.w) X.A (eval e X.env) (EP X jP σ Q) X.xe s
noncomputable def PT (X:Cx) (e:Expr) (t:TT):Prop :=
 ∀(jP:List (Addr × Obj)) (s:Shared) (σ:St) (H:Hp) (Q:Bool->Hp->Prop),Inv X jP σ H s->t σ H Q->wpAny (model X.prog X.w) X.A (isTrue e X.env (eval e X.env)) (TP X jP σ Q) X.xe s
noncomputable def PW (X:Cx) (e:Expr) (t:TT):Prop :=
 ∀(whole:Sem Value) (jP:List (Addr × Obj)) (s:Shared) (σ:St) (H:Hp) (Q:Bool->Hp->Prop),Inv X jP σ H s->t σ H Q->wpAny (model X.prog X.w) X.A (isTrue e X.env whole) (TP X jP σ Q) X.xe s
theorem PW.pt {X:Cx}{e:Expr}{t:TT}(h:PW X e t):PT X e t:=h _
noncomputable def PA (X:Cx) (es:List Expr) (t:TA):Prop :=
 ∀(pos:Pos) (jP:List (Addr × Obj)) (s:Shared) (σ:St) (H:Hp) (Q:List V->Hp->Prop),Inv X jP σ H s->t σ H Q->wpAny (model X.prog X.w) X.A (spliced (backTo pos (starEach es X.env))) (AP X jP σ Q) X.xe s
noncomputable def PS (X:Cx) (st:Stmt) (t:TS):Prop :=
 ∀(jP:List (Addr × Obj)) (s:Shared) (σ:St) (H:Hp) (D:Ends),Inv X jP σ H s->t D σ H->wpAny (model X.prog X.w) X.A (exec st X.env) (SP X jP D) X.xe s
noncomputable def PSs (X:Cx) (st:List Stmt) (t:TS):Prop :=
 ∀(jP:List (Addr × Obj)) (s:Shared) (σ:St) (H:Hp) (D:Ends),Inv X jP σ H s->t D σ H->wpAny (model X.prog X.w) X.A (execs st X.env) (SP X jP D) X.xe s
theorem thn {α:Type}{t:Sem α}{Q Q':α->Shared->Prop}{M:Model}{A:Around}{E:Value->Shared->Prop}{s:Shared}(h:wpAny M A t Q E s) (hQ:∀a s,Q a s->Q' a s):wpAny M A t Q' E s:=wpAny_mono h hQ λ U U x=>x
section
variable {X:Cx}
noncomputable def tVar (i:Nat):TE:=λ σ H Q=>∃v,σ[i]?=some (some v)/\Q v H
noncomputable def tC (v:V):TE:=λ U H Q=>Q v H
theorem zN3 {i:Nat}{x:Str}{pos:Pos}(hN:X.N[i]?=some x) (hv:Vis X.env.scope x) (hd:(x == ("__debug__" : Str))=false:=by decide) (hcd:(x == ("__classdict__" : Str))=false:=by decide):PE X (.Name x pos) (tVar i):=by
 intro jP s σ H Q I h;obtain⟨v,e,h⟩:=h;obtain⟨m,hn,hl⟩:=I.loc;obtain⟨u,r,l⟩:=hl i x v hN e hv;have fin:EP X jP σ Q u s:=⟨v,H,I,r,h⟩;rcases l with ⟨hk,hm⟩|⟨hk,c,hc,hcell⟩
 ·exact wpAny_Name (wpAny_loadName_local I.ok.kind hk hn hm fin) hd
 ·rcases hk with hk|hk
  ·exact wpAny_Name (wpAny_loadName_cell I.ok.kind hk hc hcell fin) hd
  ·exact wpAny_Name (wpAny_loadName_free I.ok.kind hk hc hcell fin hcd) hd
theorem zAG {i j pos}:PE X (.Constant (.int i) j pos) (tC (.int i)):=λ U U U H U I h=>wpAny_Constant_int ⟨.int i,H,I.tok _,⟨_,rfl⟩,h⟩
theorem pe_bl {b j pos}:PE X (.Constant (.bool b) j pos) (tC (.bl b)):=λ U U U H U I h=>Constant_bool ⟨.bl b,H,I,rfl,h⟩
theorem zID {j pos}:PE X (.Constant .none j pos) (tC .non):=λ U U U H U I h=>Constant_none ⟨.non,H,I,rfl,h⟩
theorem zAd {x j pos}:PE X (.Constant (.str x) j pos) (tC (.str x)):=λ U U U H U I h=>Calls.Constant_str ⟨.str x,H,I.tok _,⟨_,rfl⟩,h⟩
noncomputable def Gl (X:Cx) (x:Str):Prop:=X.env.kindOf x=some .globalImplicit
theorem zE2 {E:Value->Shared->Prop}{jP:List (Addr × Obj)}{s:Shared}{σ:St}{H:Hp}{x:Str}{u:Value}{pos:Pos}{Q:Value->Shared->Prop}(I:Inv X jP σ H s) (hg:Gl X x) (hm:X.mg x=some u) (h:Q u s)
  (hd:(x == ("__debug__" : Str))=false:=by decide):wpAny (model X.prog X.w) X.A (eval (.Name x pos) X.env) Q E s :=
 Calls.Name_function_global I.ok.kind hg (Calls.loadGlobal_global (by rw[I.ok.glob];exact I.mod.glob.keeps I.bk) hm h) hd
theorem zCr {E:Value->Shared->Prop}{jP:List (Addr × Obj)}{s:Shared}{σ:St}{H:Hp}{x:Str}{u:Value}{pos:Pos}{Q:Value->Shared->Prop}(I:Inv X jP σ H s) (hg:Gl X x) (hm:X.mg x=none) (hv:bootBuiltins x=some u) (h:Q u s)
  (hn:x ≠ "__name__" := by decide) (hd:(x == ("__debug__" : Str))=false:=by decide):wpAny (model X.prog X.w) X.A (eval (.Name x pos) X.env) Q E s:=by
 obtain⟨mb,h1,h2⟩:=I.mod.blt;exact Calls.Name_function_global I.ok.kind hg (Calls.loadGlobal_builtin (by rw[I.ok.glob];exact I.mod.glob.keeps I.bk) hm (by rw[I.ok.blt];exact h1.keeps I.bk) ((h2 x hn).trans hv) h) hd
theorem zBz {x:Str}{v:V}{u:Value}{pos:Pos}(hg:Gl X x) (hm:X.mg x=some u) (r:RelV v u) (hd:(x == ("__debug__" : Str))=false:=by decide):PE X (.Name x pos) (tC v) :=
 λ U U U H U I h=>zE2 I hg hm ⟨v,H,I,r,h⟩ hd
theorem zCK {x:Str}{v:V}{u:Value}{pos:Pos}(hg:Gl X x) (hm:X.mg x=none) (hv:bootBuiltins x=some u) (r:RelV v u) (hn:x ≠ "__name__" := by decide) (hd:(x == ("__debug__" : Str))=false:=by decide):PE X (.Name x pos) (tC v) :=
 λ U U U H U I h=>zCr I hg hm hv ⟨v,H,I,r,h⟩ hn hd
variable {a b:Expr}{ta tb:TE}{pos:Pos}
noncomputable def tB (t:TE):TT:=λ σ H Q=>t σ H λ x H1=>∃c,x = .bl c/\Q c H1
theorem zBR {e:Expr}{t:TE}(h:PE X e t) (he:∀whole,isTrue e X.env whole=(do let v ← whole;standAt e.pos;holding [v] (truthy v)):=by intro _;rfl):PT X e (tB t):=by
  intro jP s σ H Q I hw;refine isTrue_plain (thn (h jP s σ H _ I hw) λ v s1 ⟨x,H1,I1,r1,q1⟩=>?_) (he _);obtain⟨d,rfl,q⟩:=q1;cases r1;exact wpAny_truthy_bool ⟨H1,I1,q⟩
variable {tA tB':TT}{rest:List Expr}
noncomputable def tAnd (t u:TT):TT:=λ σ H Q=>t σ H λ c H1=>if c=true then u σ H1 Q else Q false H1
noncomputable def tOr (t u:TT):TT:=λ σ H Q=>t σ H λ c H1=>if c=true then Q true H1 else u σ H1 Q
noncomputable def tNot (t:TT):TT:=λ σ H Q=>t σ H λ c H1=>Q (!c) H1
theorem zBx (ha:PT X a tA):PW X (.BoolOp .And [a] pos) tA:=by
 intro wh jP s σ H Q I h;refine isTrue_and (thn (ha jP s σ H Q I h) λ c s1 e=>?_);cases c with
 |true=>exact isTrue_and_nil e
 |false=>exact e
theorem zFX (ha:PT X a tA):PW X (.BoolOp .Or [a] pos) tA:=by
 intro wh jP s σ H Q I h;refine isTrue_or (thn (ha jP s σ H Q I h) λ c s1 e=>?_);cases c with
 |false=>exact isTrue_or_nil e
 |true=>exact e
theorem zCQ (ha:PT X a tA) (hb:PW X (.BoolOp .And (b::rest) pos) tB'):PW X (.BoolOp .And (a::b::rest) pos) (tAnd tA tB'):=by
 intro wh jP s σ H Q I h;refine isTrue_and (thn (ha jP s σ H _ I h) λ c s1 ⟨H1,I1,q1⟩=>?_);cases c with
 |true=>exact hb wh jP s1 σ H1 Q I1 q1
 |false=>exact⟨H1,I1,q1⟩
theorem pw_or (ha:PT X a tA) (hb:PW X (.BoolOp .Or (b::rest) pos) tB'):PW X (.BoolOp .Or (a::b::rest) pos) (tOr tA tB'):=by
 intro wh jP s σ H Q I h;refine isTrue_or (thn (ha jP s σ H _ I h) λ c s1 ⟨H1,I1,q1⟩=>?_);cases c with
 |true=>exact⟨H1,I1,q1⟩
 |false=>exact hb wh jP s1 σ H1 Q I1 q1
theorem zDq (ha:PT X a tA):PT X (.UnaryOp .Not a pos) (tNot tA):=by
 intro jP s σ H Q I h;exact isTrue_not (ha jP s σ H (λ c H1=>Q (!c) H1) I h)
noncomputable def tAndV (ta tb:TE):TE:=λ σ H Q=>ta σ H λ x H1=>∃c,x = .bl c/\if c=true then tb σ H1 Q else Q (.bl false) H1
noncomputable def tOrV (ta tb:TE):TE:=λ σ H Q=>ta σ H λ x H1=>∃c,x = .bl c/\if c=true then Q (.bl true) H1 else tb σ H1 Q
noncomputable def tNotV (ta:TE):TE:=λ σ H Q=>ta σ H λ x H1=>∃c,x = .bl c/\Q (.bl (!c)) H1
theorem zCq {op} {t:TE}(h:PE X a t):PE X (.BoolOp op [a] pos) t:=λ jP s σ H Q I hw=>BoolOp_one (h jP s σ H Q I hw)
theorem zDv (ha:PE X a ta) (hb:PE X (.BoolOp .And (b::rest) pos) tb):PE X (.BoolOp .And (a::b::rest) pos) (tAndV ta tb):=by
 intro jP s σ H Q I h;refine BoolOp_and (thn (ha jP s σ H _ I h) λ v s1 ⟨x,H1,I1,r1,q1⟩=>?_);obtain⟨c,rfl,q1⟩:=q1;cases r1;refine wpAny_truthy_bool ?_;cases c with
 |true=>exact hb jP s1 σ H1 Q I1 q1
 |false=>exact⟨.bl false,H1,I1,rfl,q1⟩
theorem pe_or (ha:PE X a ta) (hb:PE X (.BoolOp .Or (b::rest) pos) tb):PE X (.BoolOp .Or (a::b::rest) pos) (tOrV ta tb):=by
 intro jP s σ H Q I h;refine BoolOp_or (thn (ha jP s σ H _ I h) λ v s1 ⟨x,H1,I1,r1,q1⟩=>?_);obtain⟨c,rfl,q1⟩:=q1;cases r1;refine wpAny_truthy_bool ?_;cases c with
 |false=>exact hb jP s1 σ H1 Q I1 q1
 |true=>exact⟨.bl true,H1,I1,rfl,q1⟩
theorem zIC (ha:PE X a ta):PE X (.UnaryOp .Not a pos) (tNotV ta):=by
 intro jP s σ H Q I h;refine UnaryOp_ (thn (ha jP s σ H _ I h) λ v s1 ⟨x,H1,I1,r1,q1⟩=>?_);obtain⟨c,rfl,q1⟩:=q1;cases r1;exact not_of (wpAny_truthy_bool ⟨.bl (!c),H1,I1,rfl,q1⟩)
end
noncomputable def SqL (K:W.Frag) (H:Hp) (a:Addr) (xs:List V):Prop :=
 Rd H a (.lst xs) \/
  ∃(o:Obj) (its:Array Value) (n:Nat),K.lookup a=some o/\o.cls = .type "list" /\ o.dict=none/\o.data = .seq its n/\its.size<=sizeLine/\Vals xs its.toList
noncomputable def SqT (K:W.Frag) (H:Hp) (a:Addr) (xs:List V):Prop :=
 Rd H a (.tup xs) \/
  ∃(o:Obj) (its:Array Value) (n:Nat),K.lookup a=some o/\o.cls = .type "tuple" /\ o.data = .seq its n/\its.size<=sizeLine/\Vals xs its.toList
noncomputable def absV:Value->Option V
 |.none=>some .non
 |.bool b=>some (.bl b)
 |.int i _=>some (.int i)
 |.str x _=>some (.str x)
 |.bytes b _=>some (.byt b)
 |.float b _=>some (.flt b)
 |.ref a=>some (.ref a)
 |.type n=>some (.ty n)
 |_=>none
theorem RelV.abs {x:V}{u:Value}(r:RelV x u):absV u=some x:=by
 cases x with
 |non=>cases r;rfl
 |bl _=>cases r;rfl
 |int _=>obtain⟨t,rfl⟩:=r;rfl
 |str _=>obtain⟨t,rfl⟩:=r;rfl
 |byt _=>obtain⟨t,rfl⟩:=r;rfl
 |flt _=>obtain⟨t,rfl⟩:=r;rfl
 |ref _=>cases r;rfl
 |ty _=>cases r;rfl
theorem RelV.inj {x y:V}{u:Value}(r:RelV x u) (q:RelV y u):x=y:=mG (r.abs.symm.trans q.abs)
theorem Vals.inj {xs ys:List V}{us:List Value}(h:Vals xs us):Vals ys us->xs=ys:=by
 induction h generalizing ys with
 |nil=>intro z;cases z;rfl
 |cons r t ih=>intro z;cases z with|cons r' t'=>rw[r.inj r',ih t']
section
variable {X:Cx}{jP:List (Addr × Obj)}{σ:St}{H:Hp}{s:Shared}{a:Addr}{xs ys:List V}
theorem SqL.of {K:W.Frag}(h:H a=some (.lst xs)):SqL K H a xs:=.inl (.inl h)
theorem SqT.of {K:W.Frag}(h:H a=some (.tup xs)):SqT K H a xs:=.inl (.inl h)
theorem Inv.list (I:Inv X jP σ H s) (h:SqL X.K H a xs):∃its:List Value,Vals xs its/\PlainL s.heap a its.toArray/\xs.length<=sizeLine:=by
 rcases h with h|⟨o,its,n,hk,hc,hd,hs,hz,r⟩
 ·obtain⟨z,its,n,r,e⟩:=h.ok I.hok
  exact⟨its,r,⟨_,n,e,rfl,rfl,rfl⟩,z⟩
 ·refine⟨its.toList,r,⟨o,n,I.kIn a o hk,hc,hd,by simpa using hs⟩,?_⟩
  have e:=r.length;simp only[Array.length_toList] at e;omega
theorem Inv.tuple (I:Inv X jP σ H s) (h:SqT X.K H a xs):∃its:List Value,Vals xs its/\IsTup s.heap a its.toArray/\xs.length<=sizeLine:=by
 rcases h with h|⟨o,its,n,hk,hc,hs,hz,r⟩
 ·obtain⟨z,its,r,p⟩:=h.ok I.hok
  exact⟨its,r,p,z⟩
 ·refine⟨its.toList,r,⟨o,I.kIn a o hk,hc,n,by simpa using hs⟩,?_⟩
  have e:=r.length;simp only[Array.length_toList] at e;omega
theorem Inv.list_inj (I:Inv X jP σ H s) (h:SqL X.K H a xs) (h':SqL X.K H a ys):xs=ys:=by
 obtain⟨its,r,⟨o,n,e,_,_,d⟩,_⟩:=I.list h;obtain⟨its',r',⟨o',n',e',_,_,d'⟩,_⟩:=I.list h';rw[e] at e';cases e';rw[d] at d';injection d' with d1 _
 have:its=its':=by simpa using congrArg Array.toList d1
 subst this;exact r.inj r'
theorem Inv.tuple_inj (I:Inv X jP σ H s) (h:SqT X.K H a xs) (h':SqT X.K H a ys):xs=ys:=by
 obtain⟨its,r,⟨o,e,_,n,d⟩,_⟩:=I.tuple h;obtain⟨its',r',⟨o',e',_,n',d'⟩,_⟩:=I.tuple h';rw[e] at e';cases e';rw[d] at d';injection d' with d1 _
 have:its=its':=by simpa using congrArg Array.toList d1
 subst this;exact r.inj r'
end
abbrev Cx.wish (X:Cx) (E:Value->Shared->Prop):Cx:={ X with xe:=E }
abbrev Cx.nox (X:Cx):Cx:=X.wish λ U U=>False
theorem Cx.Ok.wish {X:Cx}(ok:X.Ok) (E:Value->Shared->Prop):(X.wish E).Ok :=
 ⟨ok.mod,ok.kind,ok.glob,ok.blt,ok.above,ok.inj,ok.has,ok.cab,ok.hd,ok.frames,ok.stk,ok.exf,ok.bs,ok.bsz,ok.noex,ok.exfs,ok.funs,ok.frf⟩
theorem Cx.Ok.unwish {X:Cx}{E:Value->Shared->Prop}(ok:(X.wish E).Ok):X.Ok :=
 ⟨ok.mod,ok.kind,ok.glob,ok.blt,ok.above,ok.inj,ok.has,ok.cab,ok.hd,ok.frames,ok.stk,ok.exf,ok.bs,ok.bsz,ok.noex,ok.exfs,ok.funs,ok.frf⟩
section
variable {X:Cx}{jP:List (Addr × Obj)}{σ:St}{H:Hp}{s:Shared}{E:Value->Shared->Prop}
theorem Inv.wish (I:Inv X jP σ H s) (E:Value->Shared->Prop):Inv (X.wish E) jP σ H s:=⟨I.ok.wish E,I.os,I.bare,I.base,I.loc,I.cell,I.free,I.freeC,I.pin,I.hok,I.len⟩
theorem Inv.unwish (I:Inv (X.wish E) jP σ H s):Inv X jP σ H s:=⟨I.ok.unwish,I.os,I.bare,I.base,I.loc,I.cell,I.free,I.freeC,I.pin,I.hok,I.len⟩
theorem SP.unwish {D:Ends}{f:Flow}{s':Shared}(h:SP (X.wish E) jP D f s'):SP X jP D f s':=by
 cases f with
 |next=>obtain⟨σ',H',I,q⟩:=h;exact⟨σ',H',I.unwish,q⟩
 |brk=>obtain⟨σ',H',I,q⟩:=h;exact⟨σ',H',I.unwish,q⟩
 |cont=>obtain⟨σ',H',I,q⟩:=h;exact⟨σ',H',I.unwish,q⟩
 |ret u=>obtain⟨v,σ',H',I,r,q⟩:=h;exact⟨v,σ',H',I.unwish,r,q⟩
theorem PSs.nox {st:List Stmt}{t:TS}(h:PSs X.nox st t):PSs X st t:=λ jP s σ H D I hw =>
 wpAny_mono (h jP s σ H D (I.wish _) hw) (λ U U q=>q.unwish) λ U U z=>False.elim z
end
section
variable {X:Cx}{st:Stmt}{rest:List Stmt}{t u:TS}{e:Expr}{te:TE}{pos:Pos}
noncomputable def tNext:TS:=λ D σ H=>D.nx σ H
noncomputable def tSeq (t u:TS):TS:=λ D σ H=>t { D with nx:=u D } σ H
theorem zAU:PSs X [] tNext:=λ _ _ σ H _ I h=>wpAny_execs_nil ⟨σ,H,I,h⟩
theorem zAE (h1:PS X st t) (h2:PSs X rest u):PSs X (st::rest) (tSeq t u):=by
 intro jP s σ H D I h;refine wpAny_execs_cons (thn (h1 jP s σ H { D with nx:=u D } I h) λ f s1 q=>?_);cases f with
 |next =>
  obtain⟨σ',H',I',q⟩:=q;exact h2 jP s1 σ' H' D I' q
 |ret v=>exact q
 |brk=>exact q
 |cont=>exact q
theorem zAF (h1:PS X st t):PSs X [st] t:=by
 intro jP s σ H D I h;refine wpAny_execs_cons (thn (h1 jP s σ H D I h) λ f s1 q=>?_);cases f with
 |next=>exact wpAny_execs_nil q
 |ret v=>exact q
 |brk=>exact q
 |cont=>exact q
theorem Inv.quiet {jP:List (Addr × Obj)}{σ:St}{H:Hp}{s:Shared}(I:Inv X jP σ H s):interactive X.env=false:=by simp[interactive,I.ok.kind]
noncomputable def tDrop (te:TE):TS:=λ D σ H=>te σ H λ U H1=>D.nx σ H1
theorem zAt (he:PE X e te) (hs:swapsWith e none pos.line X.env=pure false:=by rfl):PS X (.Expr e pos) (tDrop te):=by
 intro jP s σ H D I h;exact wpAny_Expr_any (thn (he jP s σ H _ I h) λ v s1 ⟨x,H1,I1,r1,q1⟩=>⟨σ,H1,I1,q1⟩) I.quiet hs
noncomputable def tRet (te:TE):TS:=λ D σ H=>te σ H D.rt
theorem zAS (he:PE X e te):PS X (.Return (some e) pos) (tRet te):=by
 intro jP s σ H D I h;exact wpAny_Return_some (thn (he jP s σ H _ I h) λ v s1 ⟨x,H1,I1,r1,q1⟩=>⟨x,σ,H1,I1,r1,q1⟩)
noncomputable def tIfS (c:TT) (t u:TS):TS:=λ D σ H=>c σ H λ b H1=>if b=true then t D σ H1 else u D σ H1
theorem ps_if {c:Expr}{a b:List Stmt}{tc:TT}(hc:PT X c tc) (ha:PSs X a t) (hb:PSs X b u):PS X (.If c a b pos) (tIfS tc t u):=by
 intro jP s σ H D I h;refine wpAny_If (thn (hc jP s σ H _ I h) λ d s1 ⟨H1,I1,q1⟩=>?_);cases d with
 |true=>exact ha jP s1 σ H1 D I1 q1
 |false=>exact hb jP s1 σ H1 D I1 q1
noncomputable def zNg:TS:=λ U U U=>False
theorem zF0:PS X st zNg:=λ U U U U U U h=>h.elim
end
abbrev TG:=V->St->Hp->(St->Hp->Prop)->Prop
abbrev TGs:=List V->St->Hp->(St->Hp->Prop)->Prop
noncomputable def PG (X:Cx) (target:Expr) (t:TG):Prop :=
 ∀(jP:List (Addr × Obj)) (s:Shared) (σ:St) (H:Hp) (v:V) (u:Value) (Q:St->Hp->Prop),Inv X jP σ H s->RelV v u->t v σ H Q ->
  wpAny (model X.prog X.w) X.A (assign target X.env u) (λ U s'=>∃σ' H',Inv X jP σ' H' s'/\Q σ' H') X.xe s
noncomputable def PGs (X:Cx) (ts:List Expr) (t:TGs):Prop :=
 ∀(jP:List (Addr × Obj)) (s:Shared) (σ:St) (H:Hp) (vs:List V) (us:List Value) (Q:St->Hp->Prop),Inv X jP σ H s->Vals vs us->t vs σ H Q ->
  wpAny (model X.prog X.w) X.A (assignInOrder ((assignEach ts X.env).map (·.2)) us) (λ U s'=>∃σ' H',Inv X jP σ' H' s'/\Q σ' H') X.xe s
abbrev TSet:=V->V->V->Hp->(Hp->Prop)->Prop
noncomputable def PSet (X:Cx) (t:TSet):Prop :=
 ∀(jP:List (Addr × Obj)) (s:Shared) (σ:St) (H:Hp) (o i v:V) (ov iv u:Value) (Q:Hp->Prop),Inv X jP σ H s->RelV o ov->RelV i iv->RelV v u->t o i v H Q ->
  wpAny (model X.prog X.w) X.A (setItem ov iv u) (λ U s'=>∃H',Inv X jP σ H' s'/\Q H') X.xe s
section
variable {X:Cx}{pos:Pos}
noncomputable def gName (i:Nat):TG:=λ v σ H Q=>Q (σ.set i (some v)) H
theorem zAK {i:Nat}{x:Str}(hN:X.N.Nodup) (hi:X.N[i]?=some x) (hx:Loc X.env.scope x) (hf:X.fn x=true\/X.env.scope.names.lookup x=some .local:=by first|exact .inl rfl|exact .inr rfl|assumption):PG X (.Name x pos) (gName i):=by
 intro jP s σ H v u Q I r h;exact wpAny_assign_Name (zHs I hN hi hx r (λ s' I'=>⟨_,H,I',h⟩) hf)
noncomputable def gNil:TGs:=λ vs σ H Q=>vs=[]/\Q σ H
noncomputable def gCons (t:TG) (u:TGs):TGs:=λ vs σ H Q=>∃v r,vs=v::r/\t v σ H λ σ' H'=>u r σ' H' Q
theorem zBB:PGs X [] gNil:=by
 intro jP s σ H vs us Q I r h;obtain⟨e,h⟩:=h;subst e;cases r;exact assignInOrder_nil ⟨σ,H,I,h⟩
theorem zAc {e:Expr}{es:List Expr}{t:TG}{u:TGs}(h1:PG X e t) (h2:PGs X es u)
  (hs:(assignEach (e::es) X.env).map (·.2)=assign e X.env::(assignEach es X.env).map (·.2):=by rfl):PGs X (e::es) (gCons t u):=by
 intro jP s σ H vs us Q I r h;obtain⟨v,vr,e1,h⟩:=h;subst e1;cases r with
 |cons r rr =>
  rw[hs];refine assignInOrder_cons (thn (h1 jP s σ H _ _ _ I r h) λ _ s1 ⟨σ1,H1,I1,q1⟩=>?_);exact h2 jP s1 σ1 H1 _ _ Q I1 rr q1
noncomputable def gTup (K:W.Frag) (n:Nat) (t:TGs):TG:=λ v σ H Q=>∃a xs,v = .ref a/\SqT K H a xs/\xs.length=n/\t xs σ H Q
theorem zB7 {es:List Expr}{k:Nat}{t:TGs}{n:Nat}(hc:X.calm=true) (h:PGs X es t)
  (hn:(assignEach es X.env).length=n:=by rfl) (hst:(assignEach es X.env).findIdx? (·.1)=none:=by rfl):PG X (.Tuple es k pos) (gTup X.K n t):=by
 intro jP s σ H v u Q I r hw;obtain⟨a,xs,e1,hq,hl,hw⟩:=hw;subst e1;cases r;obtain⟨its,rv,ht,hz⟩:=I.tuple hq;refine assign_Tuple_tuple (I.ok.hd hc) ht (by simp[hn,←hl,rv.length]) hst λ h' hx=>?_;have I1:Inv X jP σ H { s with heap:=h' }:=I.kept (t':=s.toks) λ b o e=>hx b o (lT (lI e)) e;exact h jP _ σ H xs _ Q I1 (by simpa using rv) hw
noncomputable def gSub (to ti:TE) (t:TSet):TG:=λ v σ H Q=>to σ H λ o H1=>ti σ H1 λ i H2=>t o i v H2 λ H3=>Q σ H3
theorem zN2 {o i:Expr}{to ti:TE}{t:TSet}(ho:PE X o to) (hi:PE X i ti) (hs:PSet X t)
  (ha:∀v,assign (.Subscript o i pos) X.env v=(do
   let ov ← holding [v] (eval o X.env)
   let iv ← holding [v,ov] (eval i X.env)
   standAt pos
   holding [v,ov,iv] (setItem ov iv v)
   release [v,ov,iv] []):=by intro _;rfl):PG X (.Subscript o i pos) (gSub to ti t):=by
 intro jP s σ H v u Q I r h;rw[ha];refine lA (lE (thn (ho jP s σ H _ I h) λ ov s1 ⟨x,H1,I1,r1,q1⟩=>?_));refine lA (lE (thn (hi jP s1 σ H1 _ I1 q1) λ iv s2 ⟨y,H2,I2,r2,q2⟩=>?_));refine lA (wpAny_standAt (lA (lE (thn (hs jP s2 σ H2 x y v ov iv u _ I2 r1 r2 r q2) λ _ s3 ⟨H3,I3,q3⟩=>?_))));exact wpAny_release ⟨σ,H3,I3,q3⟩
noncomputable def tAsg (te:TE) (g:TG):TS:=λ D σ H=>te σ H λ x H1=>g x σ H1 D.nx
theorem zNx {tg e:Expr}{te:TE}{g:TG}(he:PE X e te) (hg:PG X tg g) (hs:swapsWithSole [tg] e pos.line X.env=pure false:=by rfl) (hw:swappedStores [tg] e X.env=pure none:=by rfl)
  (h1:(assignEach [tg] X.env).map (·.2)=[assign tg X.env]:=by rfl):PS X (.Assign [tg] e pos) (tAsg te g):=by
 intro jP s σ H D I h;refine wpAny_Assign_stores (thn (he jP s σ H _ I h) λ v s1 ⟨x,H1,I1,r1,q1⟩=>?_) hs hw;rw[h1];exact thn (hg jP s1 σ H1 x v _ I1 r1 q1) λ U s2 q=>q
theorem zAV {i:Nat}{x:Str}{e:Expr}{te:TE}{pos':Pos}(hN:X.N.Nodup) (hi:X.N[i]?=some x) (hx:Loc X.env.scope x) (he:PE X e te) (hs:swapsWith e (some (.Name x pos')) pos.line X.env=pure false:=by rfl) (hf:X.fn x=true\/X.env.scope.names.lookup x=some .local:=by first|exact .inl rfl|exact .inr rfl|assumption) :
  PS X (.Assign [.Name x pos'] e pos) (tAsg te (gName i)):=by
 intro jP s σ H D I h;refine wpAny_Assign_Name (thn (he jP s σ H _ I h) λ v s1 ⟨y,H1,I1,r1,q1⟩=>?_) hs;exact zHs I1 hN hi hx r1 (λ s2 I2=>⟨_,H1,I2,q1⟩) hf
end
section
variable {X:Cx}{pos:Pos}
noncomputable def zNf (c:TT) (tb:TS):TS:=λ D σ H=>∃W:Nat->St->Hp->Prop,(∃m,W m σ H)/\∀m σ H,W m σ H ->
 c σ H λ b H1=>if b=true then ∃N:St->Hp->Prop,(∀σ' H',N σ' H'->∃m',m'<m/\W m' σ' H')/\tb { D with nx:=N,ct:=N,bk:=D.nx } σ H1 else D.nx σ H1
theorem zDs {c:Expr}{body:List Stmt}{tc:TT}{tb:TS}(hp:PassesOwn (model X.prog X.w) X.A X.env X.xe) (hc:PT X c tc) (hb:PSs X body tb):PS X (.While c body [] pos) (zNf tc tb):=by
 intro jP s σ H D I h;obtain⟨W,⟨m0,w0⟩,turn⟩:=h;refine wpAny_While (codeAny_whileLoop (λ n s'=>∃σ' H',Inv X jP σ' H' s'/\W n σ' H') ?_ m0 ⟨σ,H,I,w0⟩);rintro n s1 ⟨σ1,H1,I1,w1⟩;refine wpAny_passesOwn hp (thn (hc jP s1 σ1 H1 _ I1 (turn n σ1 H1 w1)) λ b s2 ⟨H2,I2,q2⟩=>?_);cases b with
 |true =>
  obtain⟨N,hN,q2⟩:=q2;rw[if_pos rfl];refine wpAny_passesOwn hp (thn (hb jP s2 σ1 H2 _ I2 q2) λ f s3 q3=>?_);cases f with
  |next =>
   obtain⟨σ3,H3,I3,n3⟩:=q3;obtain⟨m',hm,w3⟩:=hN σ3 H3 n3;exact⟨m',hm,σ3,H3,I3,w3⟩
  |cont =>
   obtain⟨σ3,H3,I3,n3⟩:=q3;obtain⟨m',hm,w3⟩:=hN σ3 H3 n3;exact⟨m',hm,σ3,H3,I3,w3⟩
  |brk=>exact q3
  |ret v=>exact q3
 |false =>
  rw[if_neg Bool.false_ne_true];exact wpAny_execs_nil ⟨σ1,H2,I2,q2⟩
end
structure It where
 go:Nat->Hp->Prop
 yld:Nat->Hp->V->Hp->Prop
 stop:Nat->Hp->Prop
noncomputable def FpOk (X:Cx) (jP:List (Addr × Obj)) (H:Hp) (b:Addr):Prop :=
 H b=none/\b≠X.env.locals/\b∉X.fs/\(b∈X.ex\/X.s₀.heap.objs.size<=b)/\(∀x c,X.env.cells.lookup x=some c->c≠b)/\∀p∈X.pn++jP,p.1≠b
theorem Inv.fpOk {X:Cx}{jP:List (Addr × Obj)}{σ:St}{H H':Hp}{s:Shared}{b:Addr}(I:Inv X jP σ H s) (hb:s.heap.objs.size<=b) (hn:H' b=none):FpOk X jP H' b:=by
 refine⟨hn,Nat.ne_of_gt (mB I.lt hb),I.nofs hb,.inr (mI I.sz hb),λ x c e z=>?_,λ p hp z=>?_⟩
 ·obtain⟨v,q⟩:=I.cell x c e
  exact absurd (mB q.lt (by rw[z];exact hb)) (Nat.lt_irrefl _)
 ·exact absurd (mB (lI (I.pin p hp).1) (by rw[z];exact hb)) (Nat.lt_irrefl _)
structure Turn (P:Program) (w:World) (K:W.Frag) (tg:Expr) (J:It) (fp:List Addr) (it:Addr) (tn:Nat->Heap->Prop):Prop where
 mem:it∈fp
 obj:∀i h,tn i h->∀b∈fp,∃o,h.get? b=some o/\∀v,o.data ≠ .cell v
 keep:∀i h h',tn i h->(∀b∈fp,∀o,h.get? b=some o->h'.get? b=some o)->tn i h'
 item:∀(X:Cx),X.prog=P->X.w=w->X.K=K->X.calm=true->∀(i:Nat) (jP:List (Addr × Obj)) (s:Shared) (σ:St) (H:Hp) (E:Value->Shared->Prop),Inv X jP σ H s->(∀b∈fp,FpOk X jP H b)->tn i s.heap->J.go i H ->
  wpAny (model P w) X.A (pyNext (.ref it)) (λ r s1=>∃u,r=some u /\
   wpAny (model P w) X.A (letOwnedTupleGo tg (.ref it) u) (λ U s2=>∃x H',Inv X jP σ H' s2/\RelV x u/\J.yld i H x H'/\tn (i+1) s2.heap/\∀b∈fp,H' b=none) E s1) E s
 done:∀(X:Cx),X.prog=P->X.w=w->X.K=K->X.calm=true->∀(i:Nat) (jP:List (Addr × Obj)) (s:Shared) (σ:St) (H:Hp) (E:Value->Shared->Prop),Inv X jP σ H s->(∀b∈fp,FpOk X jP H b)->tn i s.heap->J.stop i H ->
  wpAny (model P w) X.A (pyNext (.ref it)) (λ r s1=>r=none/\Inv X jP σ H s1) E s
 self:∀(A:Around) (i:Nat) (s:Shared) (Q:Value->Shared->Prop) (E:Value->Shared->Prop),tn i s.heap->Q (.ref it) s->wpAny (model P w) A (pyIter (.ref it)) Q E s
abbrev TI:=St->Hp->(It->Hp->Prop)->Prop
noncomputable def PIE (X:Cx) (jP:List (Addr × Obj)) (σ:St) (tg:Expr) (R:It->Hp->Prop) (itv:Value) (s2:Shared):Prop :=
 ∃(it:Addr) (fp:List Addr) (tn:Nat->Heap->Prop) (J:It) (H':Hp),itv = .ref it/\Inv X jP σ H' s2/\Turn X.prog X.w X.K tg J fp it tn/\tn 0 s2.heap/\(∀b∈fp,FpOk X jP H' b)/\R J H'
noncomputable def PI (X:Cx) (tg iter:Expr) (wi:TI):Prop :=
 ∀(jP:List (Addr × Obj)) (s:Shared) (σ:St) (H:Hp) (R:It->Hp->Prop),Inv X jP σ H s->wi σ H R ->
  wpAny (model X.prog X.w) X.A (eval iter X.env) (λ v s1=>wpAny (model X.prog X.w) X.A (pyIter v) (PIE X jP σ tg R) X.xe s1) X.xe s
theorem go_of {M:Model}{A:Around}{E:Value->Shared->Prop}{s:Shared}{tg:Expr}{it:Addr}{u:Value}{o:Obj}{n:String}{vs:Array Value}{Q:Unit->Shared->Prop}(ho:s.heap.get? it=some o) (hc:o.cls = .type n) (hd:o.data = .fields vs)
    (hn:["enumerate", "zip", "dict_itemiterator", "dict_reverseitemiterator", "odict_iterator", "itertools.zip_longest", "itertools.pairwise"].contains n=false) (hQ:Q () s):wpAny M A (letOwnedTupleGo tg (.ref it) u) Q E s:=by
  unfold letOwnedTupleGo
  cases tg<;>first
    |exact lB hQ
    | (cases u<;>first
        |exact lB hQ
        | (refine lA (wpAny_load ho ?_)
           rw[hc,hd];show wpAny M A (if (["enumerate", "zip", "dict_itemiterator", "dict_reverseitemiterator", "odict_iterator", "itertools.zip_longest", "itertools.pairwise"].contains n && vs[0]? == some (rawInt _))=true then _ else _) Q E s;rw[if_neg (by intro h;rw[hn,Bool.false_and] at h;cases h)];exact lB hQ))
noncomputable def Itl (K:W.Frag) (a:Addr):It :=
 ⟨λ i H=>∃xs x,SqL K H a xs/\xs[i]?=some x,λ i H x H'=>H'=H/\∀xs,SqL K H a xs->xs[i]?=some x,λ i H=>∃xs,SqL K H a xs/\xs.length<=i⟩
noncomputable def Itt (K:W.Frag) (a:Addr):It :=
 ⟨λ i H=>∃xs x,SqT K H a xs/\xs[i]?=some x,λ i H x H'=>H'=H/\∀xs,SqT K H a xs->xs[i]?=some x,λ i H=>∃xs,SqT K H a xs/\xs.length<=i⟩
noncomputable def Itr (lo:Int) (n:Nat):It:=⟨λ i U=>i<n,λ i H x H'=>H'=H/\x = .int (lo+i),λ i U=>n<=i⟩
theorem zJB {P:Program}{w:World}{K:W.Frag}{tg:Expr}(a it:Addr):Turn P w K tg (Itl K a) [it] it (λ i h=>h.IsListIter it a i) where
 mem:=by simp
 obj:=λ i h st b hb=>by
  have e:b=it:=by simpa using hb
  subst e;obtain⟨o,e,c,d⟩:=st;exact⟨o,e,λ v z=>by rw[d] at z;cases z⟩
 keep:=λ i h h' st k=>st.at λ o e=>k it (by simp) o e
 item:=by
  intro X hP hw hK hc i jP s σ H E I hf st hg;subst hP hw hK;obtain⟨xs,x,hq,hx⟩:=hg;obtain⟨its,rv,p,hz⟩:=I.list hq;obtain⟨u,hu,ru⟩:=rv.get hx;obtain⟨f0,f1,f2,f3,f4,f5⟩:=hf it (by simp);refine wpAny_pyNext_list_item st p.isList (x:=u) (by simpa using hu) λ h' st' sb=>?_;have I1:Inv X jP σ H { s with heap:=h' }:=I.turned (t':=s.toks) (λ b o hb e=>(sb.2 b hb).trans e) f0 f1 f3 f4 f5;obtain⟨o,e,c,d⟩:=id st';exact⟨u,rfl,go_of (s:={ s with heap:=h' }) e c d (by decide) ⟨x,H,I1,ru,⟨rfl,λ ys hy=>by rw[I.list_inj hy hq];exact hx⟩,st',λ b hb=>(hf b hb).1⟩⟩
 done:=by
  intro X hP hw hK hc i jP s σ H E I hf st hg;subst hP hw hK;obtain⟨xs,hq,hx⟩:=hg;obtain⟨its,rv,p,hz⟩:=I.list hq;obtain⟨f0,f1,f2,f3,f4,f5⟩:=hf it (by simp);have hl:=rv.length;exact wpAny_pyNext_list_end (I.ok.hd hc) st p.isList (by simp;omega) λ h' eb=>⟨rfl,I.turned (t':=s.toks) (λ b o hb e=>eb b o hb e) f0 f1 f3 f4 f5⟩
 self:=λ U U U U U st h=>wpAny_pyIter_listiter st h
theorem zIb {P:Program}{w:World}{K:W.Frag}{tg:Expr}(a it:Addr):Turn P w K tg (Itt K a) [it] it (λ i h=>h.IsTupleIter it a i) where
 mem:=by simp
 obj:=λ i h st b hb=>by
  have e:b=it:=by simpa using hb
  subst e;obtain⟨o,e,c,d⟩:=st;exact⟨o,e,λ v z=>by rw[d] at z;cases z⟩
 keep:=λ i h h' st k=>st.at λ o e=>k it (by simp) o e
 item:=by
  intro X hP hw hK hc i jP s σ H E I hf st hg;subst hP hw hK;obtain⟨xs,x,hq,hx⟩:=hg;obtain⟨its,rv,p,hz⟩:=I.tuple hq;obtain⟨u,hu,ru⟩:=rv.get hx;obtain⟨f0,f1,f2,f3,f4,f5⟩:=hf it (by simp);refine wpAny_pyNext_tuple_item st (show s.heap.IsTuple a its.toArray from p) (x:=u) (by simpa using hu) λ h' st' sb=>?_;have I1:Inv X jP σ H { s with heap:=h' }:=I.turned (t':=s.toks) (λ b o hb e=>(sb.2 b hb).trans e) f0 f1 f3 f4 f5;obtain⟨o,e,c,d⟩:=id st';exact⟨u,rfl,go_of (s:={ s with heap:=h' }) e c d (by decide) ⟨x,H,I1,ru,⟨rfl,λ ys hy=>by rw[I.tuple_inj hy hq];exact hx⟩,st',λ b hb=>(hf b hb).1⟩⟩
 done:=by
  intro X hP hw hK hc i jP s σ H E I hf st hg;subst hP hw hK;obtain⟨xs,hq,hx⟩:=hg;obtain⟨its,rv,p,hz⟩:=I.tuple hq;obtain⟨f0,f1,f2,f3,f4,f5⟩:=hf it (by simp);have hl:=rv.length;exact wpAny_pyNext_tuple_end (I.ok.hd hc) st (show s.heap.IsTuple a its.toArray from p) (by simp;omega) λ h' eb=>⟨rfl,I.turned (t':=s.toks) (λ b o hb e=>eb b o hb e) f0 f1 f3 f4 f5⟩
 self:=λ U U U U U st h=>wpAny_pyIter_tupleiter st h
theorem zIc {P:Program}{w:World}{K:W.Frag}{tg:Expr}(it:Addr) (lo:Int) (n:Nat):Turn P w K tg (Itr lo n) [it] it (λ i h=>IsRangeIter h it (lo+(i:Nat) * 1) ((n:Int) - (i:Nat)) 1) where
 mem:=by simp
 obj:=λ i h st b hb=>by
  have e:b=it:=by simpa using hb
  subst e
  exact⟨_,st,λ v z=>by
   have z':Data.fields _=Data.cell v:=z;cases z'⟩
 keep:=λ i h h' st k=>k it (by simp) _ st
 item:=by
  intro X hP hw hK hc i jP s σ H E I hf st hg;subst hP hw hK;obtain⟨f0,f1,f2,f3,f4,f5⟩:=hf it (by simp);have W:=Walks.range (prog:=X.prog) (w:=X.w) (I.ok.hd hc) it lo 1 n;refine W.item i s _ _ hg st λ v h' tk hv st' kk=>?_;obtain⟨t,rfl⟩:=hv;have I1:Inv X jP σ H { s with heap:=h',toks:=tk }:=I.turned (λ b o hb e=>kk b o (by simpa using hb) e) f0 f1 f3 f4 f5;refine⟨_,rfl,go_of (s:={ s with heap:=h',toks:=tk }) (n := "range_iterator") st' rfl rfl (by decide) ⟨.int (lo+i),H,I1,⟨t,?_⟩,⟨rfl,rfl⟩,st',λ b hb=>(hf b hb).1⟩⟩;rw[Int.mul_one]
 done:=by
  intro X hP hw hK hc i jP s σ H E I hf st hg;subst hP hw hK;obtain⟨f0,f1,f2,f3,f4,f5⟩:=hf it (by simp);exact wpAny_pyNext_range_end (I.ok.hd hc) st (by have:n<=i:=hg;omega) λ h' eb=>⟨rfl,I.turned (t':=s.toks) (λ b o hb e=>eb b o hb e) f0 f1 f3 f4 f5⟩
 self:=λ U U U U U st h=>wpAny_pyIter_rangeiter st h
section
variable {X:Cx}{tg:Expr}
noncomputable def iList (K:W.Frag) (tl:TE):TI:=λ σ H R=>tl σ H λ x H1=>∃a,x = .ref a/\(∃xs,SqL K H1 a xs)/\R (Itl K a) H1
noncomputable def iTup (K:W.Frag) (tl:TE):TI:=λ σ H R=>tl σ H λ x H1=>∃a,x = .ref a/\(∃xs,SqT K H1 a xs)/\R (Itt K a) H1
theorem zA4 {l:Expr}{tl:TE}(hl:PE X l tl):PI X tg l (iList X.K tl):=by
 intro jP s σ H R I h;refine thn (hl jP s σ H _ I h) λ v s1 ⟨x,H1,I1,r1,q1⟩=>?_;obtain⟨a,e,⟨xs,hq⟩,q⟩:=q1;subst e;cases r1;obtain⟨its,rv,p,hz⟩:=I1.list hq;refine wpAny_pyIter_list p.isList ?_;refine⟨s1.heap.objs.size,[s1.heap.objs.size],_,_,H1,rfl,I1.kept (t':=s1.toks) λ b o e=>lG _ e,zJB a _,⟨_,lH _ rfl,rfl,rfl⟩,λ b hb=>?_,q⟩;have e:b=s1.heap.objs.size:=by simpa using hb
 subst e;exact I1.fpOk (lS _) (I1.hok.fresh (lS _))
theorem zBG {l:Expr}{tl:TE}(hl:PE X l tl):PI X tg l (iTup X.K tl):=by
 intro jP s σ H R I h;refine thn (hl jP s σ H _ I h) λ v s1 ⟨x,H1,I1,r1,q1⟩=>?_;obtain⟨a,e,⟨xs,hq⟩,q⟩:=q1;subst e;cases r1;obtain⟨its,rv,p,hz⟩:=I1.tuple hq;refine wpAny_pyIter_tuple (show s1.heap.IsTuple a its.toArray from p) ?_;refine⟨s1.heap.objs.size,[s1.heap.objs.size],_,_,H1,rfl,I1.kept (t':=s1.toks) λ b o e=>lG _ e,zIb a _,⟨_,lH _ rfl,rfl,rfl⟩,λ b hb=>?_,q⟩;have e:b=s1.heap.objs.size:=by simpa using hb
 subst e;exact I1.fpOk (lS _) (I1.hok.fresh (lS _))
theorem zH8 {jP:List (Addr × Obj)}{σ:St}{H:Hp}{s:Shared}{R:It->Hp->Prop}{E:Value->Shared->Prop}{lo hi:Int}{t u v:Tok}{tk:Nat}(I:Inv X jP σ H s) (h1:-(2 ^ 62)<=lo) (h2:lo<2 ^ 62) (h3:-(2 ^ 62)<=hi) (h4:hi<2 ^ 62)
  (q:R (Itr lo (hi - lo).toNat) H):wpAny (model X.prog X.w) X.A (pyIter (.ref s.heap.objs.size)) (PIE X jP σ tg R) E { s with heap:=s.heap.push { cls:=.type "range", data:=.fields #[.int lo t,.int hi u,.int 1 v] },toks:=tk }:=by
 refine wpAny_pyIter_range (IsRange.new ..) (small_one h1 h2 h3 h4) ?_;have I1:Inv X jP σ H { s with heap:=s.heap.push { cls:=.type "range", data:=.fields #[.int lo t,.int hi u,.int 1 v] },toks:=tk }:=I.kept λ b o e=>lG _ e
 refine⟨(s.heap.push { cls:=.type "range", data:=.fields #[.int lo t,.int hi u,.int 1 v] }).objs.size,[(s.heap.push { cls:=.type "range", data:=.fields #[.int lo t,.int hi u,.int 1 v] }).objs.size],_,_,H,rfl,
  I1.kept (t':=tk) λ b o e=>lG _ e,zIc _ lo (hi - lo).toNat,?_,λ b hb=>?_,q⟩
 ·have e1:lo+((0:Nat):Int) * 1=lo:=by simp
  have e2:(((hi - lo).toNat:Nat):Int) - ((0:Nat):Int)=Builtin.Range.rangeSize lo hi 1:=by rw[rangeSize_one];split<;>omega
  show IsRangeIter _ _ (lo+((0:Nat):Int) * 1) ((((hi - lo).toNat:Nat):Int) - ((0:Nat):Int)) 1;rw[e1,e2];exact lH _ rfl
 ·have e:b=(s.heap.push { cls:=.type "range", data:=.fields #[.int lo t,.int hi u,.int 1 v] }).objs.size:=by simpa using hb
  subst e;exact I1.fpOk (lS _) (I1.hok.fresh (lS _))
noncomputable def iRng1 (ta:TA):TI:=λ σ H R=>ta σ H λ vs H1=>∃j:Int,vs=[.int j] /\ -(2 ^ 62)<=j/\j<2 ^ 62/\R (Itr 0 j.toNat) H1
noncomputable def iRng2 (ta:TA):TI:=λ σ H R=>ta σ H λ vs H1=>∃i j:Int,vs=[.int i,.int j]/\(-(2 ^ 62)<=i/\i<2 ^ 62 /\ -(2 ^ 62)<=j/\j<2 ^ 62)/\R (Itr i (j - i).toNat) H1
theorem zC3 {a:Expr}{ta:TA}{p pos:Pos}(hg:Gl X "range") (hm:X.mg "range" = none) (ha:PA X [a] ta) (hs:starEach [a] X.env=[(false,eval a X.env)]:=by rfl):PI X tg (.Call (.Name "range" p) [a] [] pos) (iRng1 ta):=by
 intro jP s σ H R I h;refine Call_ (zCr I hg hm boot_range (PyProof.Rows.callWith_type1 (thn (ha pos jP s σ H _ I h) λ us s1 ⟨vs,H1,I1,r1,q1⟩=>?_) hs rfl));obtain⟨j,e,q1,q2,q⟩:=q1;subst e;cases r1 with
 |cons r rr =>
  cases rr;obtain⟨t,rfl⟩:=r;exact call_range_1 (zH8 I1 (by omega) (by omega) q1 q2 (by simpa using q))
theorem zEp {a b:Expr}{ta:TA}{p pos:Pos}(hg:Gl X "range") (hm:X.mg "range" = none) (ha:PA X [a,b] ta) (hs:starEach [a,b] X.env=[(false,eval a X.env),(false,eval b X.env)]:=by rfl) (hs2:starEach [b] X.env=[(false,eval b X.env)]:=by rfl) :
  PI X tg (.Call (.Name "range" p) [a,b] [] pos) (iRng2 ta):=by
 intro jP s σ H R I h;refine Call_ (zCr I hg hm boot_range (PyProof.Rows.callWith_type1 (thn (ha pos jP s σ H _ I h) λ us s1 ⟨vs,H1,I1,r1,q1⟩=>?_) (by rw[hs,hs2]) (by rw[hs2];rfl)));obtain⟨i,j,e,⟨q1,q2,q3,q4⟩,q⟩:=q1;subst e;cases r1 with
 |cons r rr =>
  cases rr with
  |cons r' rr =>
   cases rr;obtain⟨t,rfl⟩:=r;obtain⟨t',rfl⟩:=r';exact call_range_2 (zH8 I1 q1 q2 q3 q4 q)
noncomputable def tFor (wi:TI) (g:TG) (tb:TS):TS:=λ D σ H=>wi σ H λ J H1=>∃W:Nat->Nat->St->Hp->Prop,(∃m,W 0 m σ H1)/\∀i m σ H,W i m σ H ->
 (J.stop i H/\D.nx σ H)\/(J.go i H/\∃N:St->Hp->Prop,(∀σ' H',N σ' H'->∃m',m'<m/\W (i+1) m' σ' H')/\∀x H',J.yld i H x H'->g x σ H' λ σ2 H2=>tb { D with nx:=N,ct:=N,bk:=D.nx } σ2 H2)
noncomputable def zFY (fp:List Addr) (h:Heap):List (Addr × Obj):=fp.filterMap λ b=>(h.get? b).map λ o=>(b,o)
theorem zBq {fp:List Addr}{h:Heap}{b:Addr}{o:Obj}(hb:b∈fp) (e:h.get? b=some o):(b,o)∈zFY fp h:=List.mem_filterMap.mpr ⟨b,hb,by rw[e];rfl⟩
theorem zJx {fp:List Addr}{h:Heap}{p:Addr × Obj}(hp:p∈zFY fp h):p.1∈fp/\h.get? p.1=some p.2:=by
 obtain⟨b,hb,e⟩:=List.mem_filterMap.mp hp;cases q:h.get? b with
 |none=>rw[q] at e;cases e
 |some o =>
  rw[q] at e;have e':(b,o)=p:=mG e;subst e';exact⟨hb,q⟩
theorem Inv.pinned {jP:List (Addr × Obj)}{σ:St}{H:Hp}{s:Shared}{fp:List Addr}(I:Inv X jP σ H s) (hf:∀b∈fp,FpOk X jP H b) (ho:∀b∈fp,∃o,s.heap.get? b=some o/\∀v,o.data ≠ .cell v):Inv X (jP++zFY fp s.heap) σ H s :=
 I.pins_of λ p hp=>(lK.mp hp).elim (λ z=>I.pin p (mC _ z)) λ z=>by
  obtain⟨hb,e⟩:=zJx z;obtain⟨f0,f1,f2,_⟩:=hf p.1 hb;obtain⟨o,e',d⟩:=ho p.1 hb;rw[e] at e';cases e';exact⟨e,f0,f1,f2,d⟩
theorem Inv.unpinned {jP pl:List (Addr × Obj)}{σ:St}{H:Hp}{s:Shared}(I:Inv X (jP++pl) σ H s):Inv X jP σ H s:=I.pins_of λ p hp=>I.pin p (mC _ (mH _ hp))
theorem zAo {iter:Expr}{body:List Stmt}{wi:TI}{g:TG}{tb:TS}{pos:Pos}(hp:PassesOwn (model X.prog X.w) X.A X.env X.xe) (hc:X.calm=true) (hi:PI X tg iter wi) (hg:PG X tg g) (hb:PSs X body tb)
  (hs:∀x,foldedSetIterable iter X.env x=pure x:=by intro _;rfl):PS X (.For tg iter body [] pos) (tFor wi g tb):=by
 intro jP s σ H D I h;refine wpAny_For (thn (hi jP s σ H _ I h) λ v s1 h1=>thn h1 λ itv s2 h2=>?_) hs;obtain⟨it,fp,tn,J,H2,e,I2,T,st2,f2,W,⟨m0,w0⟩,turn⟩:=h2;subst e;have stat:∀{H':Hp},(∀b∈fp,H' b=none)->∀b∈fp,FpOk X jP H' b:=λ hn b hb=>⟨hn b hb,(f2 b hb).2⟩;refine codeAny_forLoop_any (λ n s'=>∃i σ' H',Inv X jP σ' H' s'/\tn i s'.heap/\(∀b∈fp,H' b=none)/\W i n σ' H') ?_ m0 ⟨0,σ,H2,I2,st2,λ b hb=>(f2 b hb).1,w0⟩;rintro n s3 ⟨i,σ3,H3,I3,st3,fr3,w3⟩;rcases turn i n σ3 H3 w3 with ⟨stop,qn⟩|⟨go,N,hN,step⟩
 ·refine wpAny_passesOwn hp (thn (T.done X rfl rfl rfl hc i jP s3 σ3 H3 X.xe I3 (stat fr3) st3 stop) λ r s4 ⟨hr,I4⟩=>?_)
  subst hr;exact wpAny_execs_nil ⟨σ3,H3,I4,qn⟩
 ·refine wpAny_passesOwn hp (thn (T.item X rfl rfl rfl hc i jP s3 σ3 H3 X.xe I3 (stat fr3) st3 go) λ r s4 ⟨u,hr,h4⟩=>?_)
  subst hr;refine wpAny_passesOwn hp (thn h4 λ _ s5 ⟨x,H5,I5,r5,y5,st5,fr5⟩=>?_);have I5':=I5.pinned (stat fr5) (T.obj _ _ st5);refine wpAny_passesOwn hp (thn (hg _ s5 σ3 H5 x u _ I5' r5 (step x H5 y5)) λ _ s6 ⟨σ6,H6,I6,q6⟩=>?_);refine wpAny_passesOwn hp (thn (hb _ s6 σ6 H6 _ I6 q6) λ f s7 q7=>?_)
  have again:∀{σ7:St}{H7:Hp},Inv X (jP++zFY fp s5.heap) σ7 H7 s7->N σ7 H7->∃m,m<n/\∃i σ' H',Inv X jP σ' H' s7/\tn i s7.heap/\(∀b∈fp,H' b=none)/\W i m σ' H':=λ{σ7 H7} I7 n7=>by
   obtain⟨m',hm,w7⟩:=hN σ7 H7 n7;refine⟨m',hm,i+1,σ7,H7,I7.unpinned,T.keep _ _ _ st5 λ b hb o e=>(I7.pin (b,o) (mC _ (mC _ (zBq hb e)))).1,λ b hb=>?_,w7⟩;obtain⟨o,e,d⟩:=T.obj _ _ st5 b hb;exact(I7.pin (b,o) (mC _ (mC _ (zBq hb e)))).2.1
  cases f with
  |next=>obtain⟨σ7,H7,I7,n7⟩:=q7;exact again I7 n7
  |cont=>obtain⟨σ7,H7,I7,n7⟩:=q7;exact again I7 n7
  |brk=>obtain⟨σ7,H7,I7,q7⟩:=q7;exact⟨σ7,H7,I7.unpinned,q7⟩
  |ret v=>obtain⟨x7,σ7,H7,I7,r7,q7⟩:=q7;exact⟨x7,σ7,H7,I7.unpinned,r7,q7⟩
end
theorem zA9 {K:W.Frag}{a:Addr}{xs:List V}{g:TG}{tb:TS}{D:Ends}{σ:St}{H:Hp}(Pv:Nat->St->Hp->Prop) (h0:Pv 0 σ H) (hl:∀i σ H,i<=xs.length->Pv i σ H->SqL K H a xs)
  (hs:∀i x σ H,xs[i]?=some x->Pv i σ H->g x σ H λ σ2 H2=>tb { D with nx:=Pv (i+1),ct:=Pv (i+1),bk:=D.nx } σ2 H2) (hd:∀σ H,Pv xs.length σ H->D.nx σ H) :
  ∃W:Nat->Nat->St->Hp->Prop,(∃m,W 0 m σ H)/\∀i m σ H,W i m σ H ->
   ((Itl K a).stop i H/\D.nx σ H)\/((Itl K a).go i H/\∃N:St->Hp->Prop,(∀σ' H',N σ' H'->∃m',m'<m/\W (i+1) m' σ' H')/\∀x H',(Itl K a).yld i H x H'->g x σ H' λ σ2 H2=>tb { D with nx:=N,ct:=N,bk:=D.nx } σ2 H2):=by
 refine⟨λ i m σ H=>m=xs.length - i/\i<=xs.length/\Pv i σ H,⟨xs.length,by simp,lZ _,h0⟩,?_⟩;rintro i m σ H ⟨rfl,hi,p⟩;have q:=hl i σ H hi p
 by_cases hlt:i<xs.length
 ·refine .inr ⟨⟨xs,xs[i],q,by simp[hlt]⟩,Pv (i+1),λ σ' H' p'=>⟨xs.length - (i+1),by omega,rfl,hlt,p'⟩,λ x H' y=>?_⟩
  obtain⟨e,y⟩:=y;subst e;exact hs i x σ _ (y xs q) p
 ·have e:i=xs.length:=by omega
  subst e;exact .inl ⟨⟨xs,q,lS _⟩,hd σ H p⟩
theorem zBW {K:W.Frag}{a:Addr}{xs:List V}{g:TG}{tb:TS}{D:Ends}{σ:St}{H:Hp}(Pv:Nat->St->Hp->Prop) (h0:Pv 0 σ H) (hl:∀i σ H,i<=xs.length->Pv i σ H->SqT K H a xs)
  (hs:∀i x σ H,xs[i]?=some x->Pv i σ H->g x σ H λ σ2 H2=>tb { D with nx:=Pv (i+1),ct:=Pv (i+1),bk:=D.nx } σ2 H2) (hd:∀σ H,Pv xs.length σ H->D.nx σ H) :
  ∃W:Nat->Nat->St->Hp->Prop,(∃m,W 0 m σ H)/\∀i m σ H,W i m σ H ->
   ((Itt K a).stop i H/\D.nx σ H)\/((Itt K a).go i H/\∃N:St->Hp->Prop,(∀σ' H',N σ' H'->∃m',m'<m/\W (i+1) m' σ' H')/\∀x H',(Itt K a).yld i H x H'->g x σ H' λ σ2 H2=>tb { D with nx:=N,ct:=N,bk:=D.nx } σ2 H2):=by
 refine⟨λ i m σ H=>m=xs.length - i/\i<=xs.length/\Pv i σ H,⟨xs.length,by simp,lZ _,h0⟩,?_⟩;rintro i m σ H ⟨rfl,hi,p⟩;have q:=hl i σ H hi p
 by_cases hlt:i<xs.length
 ·refine .inr ⟨⟨xs,xs[i],q,by simp[hlt]⟩,Pv (i+1),λ σ' H' p'=>⟨xs.length - (i+1),by omega,rfl,hlt,p'⟩,λ x H' y=>?_⟩
  obtain⟨e,y⟩:=y;subst e;exact hs i x σ _ (y xs q) p
 ·have e:i=xs.length:=by omega
  subst e;exact .inl ⟨⟨xs,q,lS _⟩,hd σ H p⟩
theorem zCS {lo:Int}{n:Nat}{g:TG}{tb:TS}{D:Ends}{σ:St}{H:Hp}(Pv:Nat->St->Hp->Prop) (h0:Pv 0 σ H)
  (hs:∀i σ H,i<n->Pv i σ H->g (.int (lo+i)) σ H λ σ2 H2=>tb { D with nx:=Pv (i+1),ct:=Pv (i+1),bk:=D.nx } σ2 H2) (hd:∀σ H,Pv n σ H->D.nx σ H) :
  ∃W:Nat->Nat->St->Hp->Prop,(∃m,W 0 m σ H)/\∀i m σ H,W i m σ H ->
   ((Itr lo n).stop i H/\D.nx σ H)\/((Itr lo n).go i H/\∃N:St->Hp->Prop,(∀σ' H',N σ' H'->∃m',m'<m/\W (i+1) m' σ' H')/\∀x H',(Itr lo n).yld i H x H'->g x σ H' λ σ2 H2=>tb { D with nx:=N,ct:=N,bk:=D.nx } σ2 H2):=by
 refine⟨λ i m σ H=>m=n - i/\i<=n/\Pv i σ H,⟨n,by simp,lZ _,h0⟩,?_⟩;rintro i m σ H ⟨rfl,hi,p⟩
 by_cases hlt:i<n
 ·refine .inr ⟨hlt,Pv (i+1),λ σ' H' p'=>⟨n - (i+1),by omega,rfl,hlt,p'⟩,λ x H' y=>?_⟩
  obtain⟨e,y⟩:=y;subst e y;exact hs i σ _ hlt p
 ·have e:i=n:=by omega
  subst e;exact .inl ⟨lS _,hd σ H p⟩
abbrev R2:=V->V->Hp->VK->Prop
noncomputable def OpR (X:Cx) (f:Value->Value->Sem Value) (r:R2):Prop :=
 ∀(jP:List (Addr × Obj)) (s:Shared) (σ:St) (H:Hp) (x y:V) (v u:Value) (Q:VK),Inv X jP σ H s->RelV x v->RelV y u->r x y H Q ->
  wpAny (model X.prog X.w) X.A (f v u) (EP X jP σ Q) X.xe s
noncomputable def UnR (X:Cx) (f:Value->Sem Value) (r:V->Hp->VK->Prop):Prop :=
 ∀(jP:List (Addr × Obj)) (s:Shared) (σ:St) (H:Hp) (x:V) (v:Value) (Q:VK),Inv X jP σ H s->RelV x v->r x H Q ->
  wpAny (model X.prog X.w) X.A (f v) (EP X jP σ Q) X.xe s
noncomputable def CallR (X:Cx) (f:Value) (r:List V->Hp->VK->Prop):Prop :=
 ∀(jP:List (Addr × Obj)) (s:Shared) (σ:St) (H:Hp) (xs:List V) (us:List Value) (Q:VK),Inv X jP σ H s->Vals xs us->r xs H Q ->
  wpAny (model X.prog X.w) X.A (call f us) (EP X jP σ Q) X.xe s
noncomputable def TruR (X:Cx) (r:V->Hp->(Bool->Hp->Prop)->Prop):Prop :=
 ∀(jP:List (Addr × Obj)) (s:Shared) (σ:St) (H:Hp) (x:V) (v:Value) (Q:Bool->Hp->Prop),Inv X jP σ H s->RelV x v->r x H Q ->
  wpAny (model X.prog X.w) X.A (truthy v) (TP X jP σ Q) X.xe s
noncomputable def tOp (r:R2) (ta tb:TE):TE:=λ σ H Q=>ta σ H λ x H1=>tb σ H1 λ y H2=>r x y H2 Q
noncomputable def tUn (r:V->Hp->VK->Prop) (ta:TE):TE:=λ σ H Q=>ta σ H λ x H1=>r x H1 Q
noncomputable def rI (C:Int->Int->Prop) (g:Int->Int->V):R2:=λ x y H Q=>∃i j,x = .int i/\y = .int j/\C i j/\Q (g i j) H
noncomputable def rI0 (g:Int->Int->V):R2:=λ x y H Q=>∃i j,x = .int i/\y = .int j/\Q (g i j) H
noncomputable def rU (g:Int->V):V->Hp->VK->Prop:=λ x H Q=>∃i,x = .int i/\Q (g i) H
section
variable {X:Cx}{a b c:Expr}{ta tb tc:TE}{pos:Pos}
theorem binT (ha:PE X a ta) (hb:PE X b tb) {jP:List (Addr × Obj)}{s:Shared}{σ:St}{H:Hp}{R:V->V->Hp->Prop}(I:Inv X jP σ H s)
  (h:ta σ H λ x H1=>tb σ H1 λ y H2=>R x y H2) {Q:Value->Shared->Prop}{f:Value->Value->Sem Value}
  (hf:∀v u s2 x y H2,Inv X jP σ H2 s2->RelV x v->RelV y u->R x y H2->wpAny (model X.prog X.w) X.A (f v u) Q X.xe s2) :
  wpAny (model X.prog X.w) X.A (eval a X.env) (λ v s₁=>wpAny (model X.prog X.w) X.A (eval b X.env) (λ u s₂=>wpAny (model X.prog X.w) X.A (f v u) Q X.xe s₂) X.xe s₁) X.xe s:=by
 refine thn (ha jP s σ H _ I h) λ v s1 ⟨x,H1,I1,r1,q1⟩=>?_;refine thn (hb jP s1 σ H1 _ I1 q1) λ u s2 ⟨y,H2,I2,r2,q2⟩=>?_;exact hf v u s2 x y H2 I2 r1 r2 q2
theorem pe_op {op:Operator}{r:R2}(ho:OpR X (binaryOp op) r) (ha:PE X a ta) (hb:PE X b tb):PE X (.BinOp a op b pos) (tOp r ta tb):=by
 intro jP s σ H Q I h;exact wpAny_BinOp (binT ha hb I h λ v u s2 x y H2 I2 rx ry q=>ho jP s2 σ H2 x y v u Q I2 rx ry q)
theorem pe_un {op:UnaryOp}{r:V->Hp->VK->Prop}(ho:UnR X (unaryOp op) r) (ha:PE X a ta):PE X (.UnaryOp op a pos) (tUn r ta):=by
 intro jP s σ H Q I h;exact UnaryOp_ (thn (ha jP s σ H _ I h) λ v s1 ⟨x,H1,I1,r1,q1⟩=>ho jP s1 σ H1 x v Q I1 r1 q1)
theorem opI {f:Value->Value->Sem Value}{C:Int->Int->Prop}{g:Int->Int->Int}
  (rule:∀(i j:Int) (t u:Tok) (s:Shared) (Q:Value->Shared->Prop) (E:Value->Shared->Prop),C i j->Q (.int (g i j) s.toks) { s with toks:=s.toks+1 }->wpAny (model X.prog X.w) X.A (f (.int i t) (.int j u)) Q E s) :
  OpR X f (rI C λ i j=>.int (g i j)):=by
 intro jP s σ H x y v u Q I rx ry h;obtain⟨i,j,rfl,rfl,hc,q⟩:=h;obtain⟨t,rfl⟩:=rx;obtain⟨t',rfl⟩:=ry;exact rule i j t t' s _ _ hc ⟨.int (g i j),H,I.tok _,⟨_,rfl⟩,q⟩
theorem opI0 {f:Value->Value->Sem Value}{g:Int->Int->Int}
  (rule:∀(i j:Int) (t u:Tok) (s:Shared) (Q:Value->Shared->Prop) (E:Value->Shared->Prop),Q (.int (g i j) s.toks) { s with toks:=s.toks+1 }->wpAny (model X.prog X.w) X.A (f (.int i t) (.int j u)) Q E s) :
  OpR X f (rI0 λ i j=>.int (g i j)):=by
 intro jP s σ H x y v u Q I rx ry h;obtain⟨i,j,rfl,rfl,q⟩:=h;obtain⟨t,rfl⟩:=rx;obtain⟨t',rfl⟩:=ry;exact rule i j t t' s _ _ ⟨.int (g i j),H,I.tok _,⟨_,rfl⟩,q⟩
theorem opB0 {f:Value->Value->Sem Value}{g:Int->Int->Bool}
  (rule:∀(i j:Int) (t u:Tok) (s:Shared) (Q:Value->Shared->Prop) (E:Value->Shared->Prop),Q (.bool (g i j)) s->wpAny (model X.prog X.w) X.A (f (.int i t) (.int j u)) Q E s) :
  OpR X f (rI0 λ i j=>.bl (g i j)):=by
 intro jP s σ H x y v u Q I rx ry h;obtain⟨i,j,rfl,rfl,q⟩:=h;obtain⟨t,rfl⟩:=rx;obtain⟨t',rfl⟩:=ry;exact rule i j t t' s _ _ ⟨.bl (g i j),H,I,rfl,q⟩
noncomputable def CDiv (i j:Int):Prop:=0<j/\j<1073741824
noncomputable def CPow (i j:Int):Prop:=0<=j/\j<=1000000/\i.natAbs<2 ^ 64
noncomputable def CMul (i j:Int):Prop:=(-(2 ^ 64)<i/\i<2 ^ 64)\/(-(2 ^ 64)<j/\j<2 ^ 64)
theorem CMul.ok {i j:Int}(h:CMul i j):IntMulOk i j:=by
 rcases h with ⟨h1,h2⟩|⟨h1,h2⟩
 ·exact .of_left (intBits_le_64 h1 h2)
 ·exact .of_right (intBits_le_64 h1 h2)
theorem zB9:OpR X (binaryOp .Add) (rI0 λ i j=>.int (i+j)):=opI0 λ U U U U U U U q=>add_int q
theorem zMK:OpR X (binaryOp .Sub) (rI0 λ i j=>.int (i - j)):=opI0 λ U U U U U U U q=>sub_int q
theorem zIF:OpR X (binaryOp .Mult) (rI CMul λ i j=>.int (i * j)):=opI λ U U U U U U U hc q=>mul_int q hc.ok
theorem zBL:OpR X (binaryOp .FloorDiv) (rI CDiv λ i j=>.int (i / j)):=opI λ i j U U U U U hc q=>by
 have h1:(0:Int)<j:=hc.1;have h2:j<1073741824:=hc.2;exact floordiv_int (by omega) (by rw[Int.fdiv_eq_ediv_of_nonneg i (by omega)];exact q) (.inl (PyProof.noPylong_small (by omega)))
theorem zBO:OpR X (binaryOp .Mod) (rI (λ U j=>0<j) λ i j=>.int (i % j)):=opI λ i j U U U U U hc q=>by
 have h1:(0:Int)<j:=hc;exact mod_int' (by omega) (by rw[Int.fmod_eq_emod_of_nonneg i (by omega)];exact q)
theorem zML:OpR X (binaryOp .Pow) (rI CPow λ i j=>.int (i ^ j.toNat)):=opI λ U U U U U U U hc q=>pow_int_small hc.1 hc.2.1 hc.2.2 q
theorem unI {f:Value->Sem Value}{g:Int->Int}
  (rule:∀(i:Int) (t:Tok) (s:Shared) (Q:Value->Shared->Prop) (E:Value->Shared->Prop),Q (.int (g i) s.toks) { s with toks:=s.toks+1 }->wpAny (model X.prog X.w) X.A (f (.int i t)) Q E s) :
  UnR X f (rU λ i=>.int (g i)):=by
 intro jP s σ H x v Q I rx h;obtain⟨i,rfl,q⟩:=h;obtain⟨t,rfl⟩:=rx;exact rule i t s _ _ ⟨.int (g i),H,I.tok _,⟨_,rfl⟩,q⟩
theorem zCM:UnR X (unaryOp .USub) (rU λ i=>.int (-i)):=unI λ U U U U U q=>neg_int q
end
noncomputable def scal:V->V->Bool
 |.non,.non=>true|.non,.int _=>true|.int _,.non=>true|.non,.bl _=>true|.bl _,.non=>true|.non,.str _=>true|.str _,.non=>true
 |.int _,.int _=>true|.bl _,.bl _=>true|.str _,.str _=>true|.byt _,.byt _=>true
 |.int _,.str _=>true|.str _,.int _=>true|.bl _,.str _=>true|.str _,.bl _=>true
 |_,_=>false
noncomputable def rEq:R2:=λ x y H Q=>scal x y=true/\Q (.bl (decide (x=y))) H
noncomputable def rNe:R2:=λ x y H Q=>scal x y=true/\Q (.bl (!decide (x=y))) H
theorem zKc {i j:Int}:decide (V.int i=V.int j)=(i == j):=by
 rw[Bool.eq_iff_iff];simp
theorem zMc {i j:Bool}:decide (V.bl i=V.bl j)=(i == j):=by
 rw[Bool.eq_iff_iff];simp
theorem zKb {i j:Str}:decide (V.str i=V.str j)=(i == j):=by
 rw[Bool.eq_iff_iff];simp
theorem zKd {i j:Array UInt8}:decide (V.byt i=V.byt j)=(i.toList == j.toList):=by
 rw[Bool.eq_iff_iff];cases i;cases j;simp
section
variable {X:Cx}{a b c:Expr}{ta tb tc:TE}{pos:Pos}
theorem zAz {jP:List (Addr × Obj)}{σ:St}{H:Hp}{s:Shared}{Q:VK}{k k':Bool}(I:Inv X jP σ H s) (q:Q (.bl k) H) (e:k=k'):EP X jP σ Q (.bool k') s:=by
 subst e;exact⟨.bl k,H,I,rfl,q⟩
theorem op_eq:OpR X (compareOp .Eq) rEq:=by
 intro jP s σ H x y v u Q I rx ry h;obtain⟨hs,q⟩:=h;cases x with
 |non =>
  cases rx;cases y with
  |non=>cases ry;exact PySem.EqNone.eq_none_none (zAz I q (by simp))
  |bl j=>cases ry;exact PySem.EqNone.eq_none_bool (zAz I q (by simp))
  |int j=>obtain⟨t',rfl⟩:=ry;exact PySem.EqNone.eq_none_int (zAz I q (by simp))
  |str j=>obtain⟨t',rfl⟩:=ry;exact PySem.EqNone.eq_none_str (zAz I q (by simp))
  |_=>exact absurd (show false=true from hs) lY
 |bl i =>
  cases rx;cases y with
  |non=>cases ry;exact PySem.EqNone.eq_bool_none (zAz I q (by simp))
  |bl j=>cases ry;exact eq_bool (zAz I q zMc)
  |str j=>obtain⟨t',rfl⟩:=ry;exact PySem.EqMixed.eq_bool_str (zAz I q (by simp))
  |_=>exact absurd (show false=true from hs) lY
 |int i =>
  obtain⟨t,rfl⟩:=rx;cases y with
  |non=>cases ry;exact PySem.EqNone.eq_int_none (zAz I q (by simp))
  |int j=>obtain⟨t',rfl⟩:=ry;exact eq_int (zAz I q zKc)
  |str j=>obtain⟨t',rfl⟩:=ry;exact PySem.EqMixed.eq_int_str (zAz I q (by simp))
  |_=>exact absurd (show false=true from hs) lY
 |str i =>
  obtain⟨t,rfl⟩:=rx;cases y with
  |non=>cases ry;exact PySem.EqNone.eq_str_none (zAz I q (by simp))
  |bl j=>cases ry;exact PySem.EqMixed.eq_str_bool (zAz I q (by simp))
  |int j=>obtain⟨t',rfl⟩:=ry;exact PySem.EqMixed.eq_str_int (zAz I q (by simp))
  |str j=>obtain⟨t',rfl⟩:=ry;exact eq_str (zAz I q zKb)
  |_=>exact absurd (show false=true from hs) lY
 |byt i =>
  obtain⟨t,rfl⟩:=rx;cases y with
  |byt j=>obtain⟨t',rfl⟩:=ry;exact W.eq_bytes (zAz I q zKd)
  |_=>exact absurd (show false=true from hs) lY
 |_=>cases y<;>exact absurd (show false=true from hs) lY
theorem op_ne:OpR X (compareOp .NotEq) rNe:=by
 intro jP s σ H x y v u Q I rx ry h;obtain⟨hs,q⟩:=h;cases x with
 |non =>
  cases rx;cases y with
  |non=>cases ry;exact PySem.EqNone.ne_none_none (zAz I q (by simp))
  |bl j=>cases ry;exact PySem.EqNone.ne_none_bool (zAz I q (by simp))
  |int j=>obtain⟨t',rfl⟩:=ry;exact PySem.EqNone.ne_none_int (zAz I q (by simp))
  |str j=>obtain⟨t',rfl⟩:=ry;exact PySem.EqNone.ne_none_str (zAz I q (by simp))
  |_=>exact absurd (show false=true from hs) lY
 |bl i =>
  cases rx;cases y with
  |non=>cases ry;exact PySem.EqNone.ne_bool_none (zAz I q (by simp))
  |bl j=>cases ry;exact ne_bool (zAz I q (congrArg not zMc))
  |str j=>obtain⟨t',rfl⟩:=ry;exact PySem.EqMixed.ne_bool_str (zAz I q (by simp))
  |_=>exact absurd (show false=true from hs) lY
 |int i =>
  obtain⟨t,rfl⟩:=rx;cases y with
  |non=>cases ry;exact PySem.EqNone.ne_int_none (zAz I q (by simp))
  |int j=>obtain⟨t',rfl⟩:=ry;exact ne_int (zAz I q (congrArg not zKc))
  |str j=>obtain⟨t',rfl⟩:=ry;exact PySem.EqMixed.ne_int_str (zAz I q (by simp))
  |_=>exact absurd (show false=true from hs) lY
 |str i =>
  obtain⟨t,rfl⟩:=rx;cases y with
  |non=>cases ry;exact PySem.EqNone.ne_str_none (zAz I q (by simp))
  |bl j=>cases ry;exact PySem.EqMixed.ne_str_bool (zAz I q (by simp))
  |int j=>obtain⟨t',rfl⟩:=ry;exact PySem.EqMixed.ne_str_int (zAz I q (by simp))
  |str j=>obtain⟨t',rfl⟩:=ry;exact ne_str (zAz I q (congrArg not zKb))
  |_=>exact absurd (show false=true from hs) lY
 |byt i =>
  obtain⟨t,rfl⟩:=rx;cases y with
  |byt j=>obtain⟨t',rfl⟩:=ry;exact W.ne_bytes (zAz I q (congrArg not zKd))
  |_=>exact absurd (show false=true from hs) lY
 |_=>cases y<;>exact absurd (show false=true from hs) lY
theorem op_lt:OpR X (compareOp .Lt) (rI0 λ i j=>.bl (decide (i<j))):=opB0 λ U U U U U U U q=>lt_int q
theorem op_le:OpR X (compareOp .LtE) (rI0 λ i j=>.bl (decide (i<=j))):=opB0 λ U U U U U U U q=>le_int q
theorem op_gt:OpR X (compareOp .Gt) (rI0 λ i j=>.bl (decide (j<i))):=opB0 λ U U U U U U U q=>gt_int q
theorem op_ge:OpR X (compareOp .GtE) (rI0 λ i j=>.bl (decide (j<=i))):=opB0 λ U U U U U U U q=>ge_int q
theorem zMM:OpR X (compareOp .Is) (λ x y H Q=>y = .non/\Q (.bl (decide (x = .non))) H):=by
  intro jP s σ H x y v u Q I rx ry h;obtain⟨rfl,q⟩:=h;cases ry;refine is_none_gen (zAz I q ?_)
  cases x<;>first
    | (cases rx;rfl)
    | (obtain⟨t,rfl⟩:=rx;rfl)
theorem zAZ (b:Expr) {op:CmpOp}(h:op ≠ .In:=by decide) (h2:op ≠ .NotIn:=by decide):behindInMarks op b=false:=by
 have e1:(op == CmpOp.In)=false:=by cases op<;>first|rfl|exact absurd rfl h
 have e2:(op == CmpOp.NotIn)=false:=by cases op<;>first|rfl|exact absurd rfl h2
 cases b<;>simp[behindInMarks,e1,e2]
theorem zA6 {op:CmpOp}{r:R2}(ho:OpR X (compareOp op) r) (ha:PE X a ta) (hb:PE X b tb) (hm:behindInMarks op b=false):PE X (.Compare a [op] [b] pos) (tOp r ta tb):=by
 intro jP s σ H Q I h;exact wpAny_Compare1 (binT ha hb I h λ v u s2 x y H2 I2 rx ry q=>ho jP s2 σ H2 x y v u Q I2 rx ry q) hm
noncomputable def tTest (t:TE):TT:=λ σ H Q=>t σ H λ x H'=>∃k,x = .bl k/\Q k H'
theorem zAN {op:CmpOp}{r:R2}(ho:OpR X (compareOp op) r) (ha:PE X a ta) (hb:PE X b tb) (hm:behindInMarks op b=false):PT X (.Compare a [op] [b] pos) (tTest (tOp r ta tb)):=by
 intro jP s σ H Q I h
 refine wpAny_isTrue_Compare1 (thn (ha jP s σ H _ I h) λ v s1 ⟨x,H1,I1,r1,q1⟩=>thn (hb jP s1 σ H1 _ I1 q1) λ u s2 ⟨y,H2,I2,r2,q2⟩ =>
  thn (ho jP s2 σ H2 x y v u _ I2 r1 r2 q2) λ c s3 ⟨z,H3,I3,r3,k,e,q3⟩=>?_) hm
 subst e;cases r3;exact wpAny_truthy_bool ⟨H3,I3,q3⟩
noncomputable def zNk (r r':R2) (ta tb tc:TE):TE:=λ σ H Q=>ta σ H λ x H1=>tb σ H1 λ y H2=>r x y H2 λ z H3=>∃k,z = .bl k /\
 (if k=true then tc σ H3 λ w' H4=>r' y w' H4 Q else Q (.bl false) H3)
theorem zLJ {op op':CmpOp}{r r':R2}(ho:OpR X (compareOp op) r) (ho':OpR X (compareOp op') r') (ha:PE X a ta) (hb:PE X b tb) (hc:PE X c tc)
  (hm:lastMarks [op,op'] [b,c]=false:=by with_unfolding_all rfl):PE X (.Compare a [op,op'] [b,c] pos) (zNk r r' ta tb tc):=by
 intro jP s σ H Q I h
 refine Compare_chain (thn (ha jP s σ H _ I h) λ v s1 ⟨x,H1,I1,r1,q1⟩=>chain_link (thn (hb jP s1 σ H1 _ I1 q1) λ u s2 ⟨y,H2,I2,r2,q2⟩ =>
  thn (ho jP s2 σ H2 x y v u _ I2 r1 r2 q2) λ d s3 ⟨z,H3,I3,r3,k,e,q3⟩=>?_)) hm
 subst e;cases r3;refine wpAny_truthy_bool ?_;cases k with
 |false=>exact ite_ff ⟨.bl false,H3,I3,rfl,q3⟩
 |true=>exact ite_tt (chain_last (thn (hc jP s3 σ H3 _ I3 q3) λ w' s4 ⟨z',H4,I4,r4,q4⟩=>ho' jP s4 σ H4 y z' u w' Q I4 r2 r4 q4))
noncomputable def TruV (K:W.Frag) (x:V) (H:Hp) (k:Bool):Prop :=
 match x with
 |.non=>k=false
 |.bl b=>k=b
 |.int i=>k=(i != 0)
 |.str y=>y.length<=sizeLine/\k=((y.length:Int) != 0)
 |.byt y=>y.size<=sizeLine/\k=((y.size:Int) != 0)
 |.ref p=>(∃xs,SqL K H p xs/\k=!xs.isEmpty)\/(∃xs,SqT K H p xs/\k=!xs.isEmpty)\/∃kvs,H p=some (.dK kvs)/\k=!kvs.isEmpty
 |_=>False
theorem zI2 {κ:Type}{kvs:List (κ × V)}{vs:List (κ × Value)}(r:KV kvs vs):(!vs.isEmpty)=!kvs.isEmpty:=by
 cases r<;>rfl
theorem zFh {xs:List V}{its:List Value}(r:Vals xs its):(!its.toArray.isEmpty)=!xs.isEmpty:=by
 cases r<;>simp
theorem zFd:(sizeLine:Nat)<2 ^ 63:=by rw[sizeLine_eq];decide
theorem zMD:TruR X (λ x H Q=>∃k,TruV X.K x H k/\Q k H):=by
 intro jP s σ H x v Q I rx h;obtain⟨k,e,q⟩:=h;have hl:=zFd;have hs:sizeLine=16777216:=sizeLine_eq;cases x with
 |non =>
  cases rx;have e':k=false:=e;subst e';exact truthy_none ⟨H,I,q⟩
 |bl b =>
  cases rx;have e':k=b:=e;subst e';exact wpAny_truthy_bool ⟨H,I,q⟩
 |int i =>
  obtain⟨t,rfl⟩:=rx;have e':k=(i != 0):=e;subst e';exact PySem.P.truthy_int ⟨H,I,q⟩
 |str y =>
  obtain⟨t,rfl⟩:=rx;obtain⟨hy,e'⟩:y.length<=sizeLine/\k=((y.length:Int) != 0):=e;subst e';exact PySem.P.truthy_str (by omega) ⟨H,I.tok _,q⟩
 |byt y =>
  obtain⟨t,rfl⟩:=rx;obtain⟨hy,e'⟩:y.size<=sizeLine/\k=((y.size:Int) != 0):=e;subst e';exact W.truthy_bytes (by omega) ⟨H,I.tok _,q⟩
 |ref p =>
  cases rx;have e':(∃xs,SqL X.K H p xs/\k=!xs.isEmpty)\/(∃xs,SqT X.K H p xs/\k=!xs.isEmpty)\/∃kvs,H p=some (.dK kvs)/\k=!kvs.isEmpty:=e;rcases e' with ⟨xs,hx,e'⟩|⟨xs,hx,e'⟩|⟨kvs,hx,e'⟩
  ·subst e'
   obtain⟨its,r,pl,hz⟩:=I.list hx;have hlen:=r.length;exact wpAny_truthy_list pl.isList (by simp only[List.size_toArray];omega) ⟨H,I.tok _,by rw[zFh r];exact q⟩
  ·subst e'
   obtain⟨its,r,pl,hz⟩:=I.tuple hx;have hlen:=r.length;exact truthy_tuple pl (by simp only[List.size_toArray];omega) ⟨H,I.tok _,by rw[zFh r];exact q⟩
  ·subst e'
   obtain⟨hz,hS,vs,r,m⟩:kvs.length<=sizeLine/\(p == sysModules)=false/\∃vs,KV kvs vs/\s.heap.DictOf (zAg X.prog X.w) p vs:=I.hok p _ hx;have hlen:kvs.length=vs.length:=Paired.length r;exact wpAny_truthy_dict hS m (by omega) ⟨H,I.tok _,by rw[zI2 r];exact q⟩
 |_=>exact(show False from e).elim
theorem zDp (ha:PE X a ta) (he:∀whole,isTrue a X.env whole=(do let v ← whole;standAt a.pos;holding [v] (truthy v))) :
    PT X a (λ σ H Q=>ta σ H λ x H'=>∃k,TruV X.K x H' k/\Q k H'):=by
  intro jP s σ H Q I h;exact isTrue_plain (thn (ha jP s σ H _ I h) λ v s1 ⟨x,H1,I1,r1,q1⟩=>zMD jP s1 σ H1 x v Q I1 r1 q1) (he _)
theorem zFb:OpR X (binaryOp .Add) (λ x y H Q=>∃i j,x = .str i/\y = .str j/\i.length+j.length<=sizeLine/\Q (.str (i++j)) H):=by
 intro jP s σ H x y v u Q I rx ry h;obtain⟨i,j,rfl,rfl,hz,q⟩:=h;obtain⟨t,rfl⟩:=rx;obtain⟨t',rfl⟩:=ry;exact add_str (λ t' tk=>⟨.str (i++j),H,I.tok _,⟨_,rfl⟩,q⟩) hz
theorem vals1 {x:V}{us:List Value}(r:Vals [x] us):∃u,us=[u]/\RelV x u:=by
 cases r with
 |cons r1 r2=>cases r2;exact⟨_,rfl,r1⟩
theorem vals2 {x y:V}{us:List Value}(r:Vals [x,y] us):∃u w',us=[u,w']/\RelV x u/\RelV y w':=by
 cases r with
 |cons r1 r2 =>
  cases r2 with
  |cons r3 r4=>cases r4;exact⟨_,_,rfl,r1,r3⟩
theorem zG1:CallR X (.type "int") (λ xs H Q=>(∃i,xs=[.int i]/\Q (.int i) H)\/∃k,xs=[.bl k]/\Q (.int (if k then 1 else 0)) H):=by
 intro jP s σ H xs us Q I r h;rcases h with ⟨i,rfl,q⟩|⟨k,rfl,q⟩
 ·obtain⟨u,rfl,t,rfl⟩:=vals1 r
  exact call_int_int ⟨.int i,H,I,⟨_,rfl⟩,q⟩
 ·obtain⟨u,rfl,r1⟩:=vals1 r
  cases r1;exact call_int_bool ⟨.int (if k then 1 else 0),H,I.tok _,⟨_,rfl⟩,q⟩
end
structure ObjM (h:Heap) (x dx C:Addr) (mA:Str->Option Value):Prop where
 obj:h.get? x=some (W.instObj C dx)
 ns:h.Ns1 dx mA
 ne:dx≠x
set_option tactic.hygienic true in
theorem zJ8 {h:Heap}{dx:Addr}{mA:Str->Option Value}(n:h.Ns1 dx mA):∃od,h.get? dx=some od/\∀name,W.lookIn name od=some (mA name):=by
 obtain⟨o,es,ep,ho,hd,hk,_,hm⟩:=n;refine⟨o,ho,λ name=>?_⟩;have e:=hm name;unfold nsFind findBy at e;rw[←Array.find?_toList] at e;unfold W.lookIn;rw[hd];dsimp only;split
 ·rename_i y q
  rw[q] at e;exact congrArg some e
 ·rename_i q
  rw[q] at e
  have a:es.toList.any (·.refKey)=false:=by
   rw[List.any_eq_false];intro y hy;obtain⟨z,t,hkey⟩:=hk y (Array.mem_toList_iff.mp hy);simp[DictEntry.refKey,hkey]
  have a':¬es.toList.any (·.refKey)=true:=by rw[a];exact lY
  rw[if_neg a'];exact congrArg some e
theorem ObjM.look {h:Heap}{x dx C:Addr}{mA:Str->Option Value}(I:ObjM h x dx C mA):∃od,W.InstAt h x (W.instObj C dx) C (some od)/\∀name,W.lookIn name od=some (mA name) :=
 let ⟨od,ho,hl⟩:=zJ8 I.ns
 ⟨od,⟨I.obj,rfl,rfl,ho⟩,hl⟩
section
variable {prog:Program}{w:World}{A:Around}{E:Value->Shared->Prop}{s:Shared}{K:W.Frag}{x dx C f:Addr}{mA:Str->Option Value}{name:Str}{v:Value}
end
theorem RelO.some_of {v:V}{o:Option Value}(r:RelO (some v) o):∃u,o=some u/\RelV v u:=by
 cases o with
 |none=>exact(show False from r).elim
 |some u=>exact⟨u,rfl,r⟩
section
variable {P:Program}{w:World}{H H':Hp}{h h':Heap}{a C dx:Addr}{fs fs':List (Str × V)}
theorem zNM (hok:HOk P w H h) (e:H a=some (.ins C dx fs)):∃mA,ObjM h a dx C mA/\(∀f,RelO (fs.lookup f) (mA f))/\PySem.Within mA (fs.map (·.1))/\fs.length<=1000/\H dx=some (.own a):=by
 obtain⟨d,z,ne,ob,mA,n,r,q⟩:=(show ObjOk P w H h a (.ins C dx fs) from hok a _ e);exact⟨mA,⟨ob,n,ne⟩,r,q,z,d⟩
end
structure Cls (K:W.Frag) (C:Addr):Prop where
 pg:W.plainGet K C Str.empty=true
 hd:W.hasDictIn K C=true
 po:W.plainOver K C=true
 sa:W.findIn K (.ref C) "__setattr__" = some (some (.builtin "object.__setattr__"))
theorem Cls.get {K:W.Frag}{C:Addr}(c:Cls K C) (f:Str):W.plainGet K C f=true:=c.pg
section
variable {X:Cx}{jP:List (Addr × Obj)}{σ:St}{H:Hp}{s:Shared}{a C dx:Addr}{fs:List (Str × V)}{f:Str}{v:V}{A:Around}{E:Value->Shared->Prop}
end
section
variable {X:Cx}{o e value:Expr}{f:Str}{pos pos' tpos:Pos}{ta tv:TE}
end
section
variable {X:Cx}{jP:List (Addr × Obj)}{σ:St}{H:Hp}{s:Shared}{A:Around}{E:Value->Shared->Prop}{Q:Value->Shared->Prop}{c:Value}{b:Bool}
inductive TyOf (K:W.Frag) (H:Hp):V->Value->Prop where
 |non:TyOf K H .non (.type "NoneType")
 |bl (x:Bool):TyOf K H (.bl x) (.type "bool")
 |int (i:Int):TyOf K H (.int i) (.type "int")
 |str (x:Str):TyOf K H (.str x) (.type "str")
 |flt (x:UInt64):TyOf K H (.flt x) (.type "float")
 |lst {a:Addr}{xs:List V}(e:H a=some (.lst xs)):TyOf K H (.ref a) (.type "list")
 |frz {a:Addr}{o:Obj}{xs:List V}(e:H a=some (.frz o (.lst xs))):TyOf K H (.ref a) (.type "list")
 |tup {a:Addr}{xs:List V}(e:H a=some (.tup xs)):TyOf K H (.ref a) (.type "tuple")
 |dK {a:Addr}{kvs:List (Key × V)}(e:H a=some (.dK kvs)):TyOf K H (.ref a) (.type "dict")
 |dT {a:Addr}{kvs:List (List Key × V)}(e:H a=some (.dT kvs)):TyOf K H (.ref a) (.type "dict")
 |ins {a C dx:Addr}{fs:List (Str × V)}(e:H a=some (.ins C dx fs)) (cl:Cls K C) (ha:W.findIn K (.ref C) "__class__" = some (some (.builtin "object.__class__")))
   (hn:W.specialIn K (.builtin "object.__class__") "__get__" = some (some (.builtin "getset_descriptor.__get__"))) (htk:W.takesIn K (.builtin "object.__class__")=some true)
   (hm:W.mroIn K C (.type "object")=some true):TyOf K H (.ref a) (.ref C)
theorem zKJ {x:V}{u t:Value}(I:Inv X jP σ H s) (rx:RelV x u) (ty:TyOf X.K H x t) (e:W.kitOne X.K t c=some b) (h:∀tk,Q (.bool b) { s with toks:=tk }) :
  wpAny (model X.prog X.w) A (call (.builtin "isinstance") [u,c]) Q E s:=by
 cases ty with
 |non=>cases (show u=Value.none from rx);exact W.kia_one W.kitx_none I.kIn True.intro e (λ z=>nomatch z) h
 |bl y=>cases (show u=Value.bool y from rx);exact W.kia_one W.kitx_bool I.kIn True.intro e (λ z=>nomatch z) h
 |int i=>obtain⟨t,q⟩:=(show ∃t,u=Value.int i t from rx);cases q;exact W.kia_one W.kitx_int I.kIn True.intro e (λ z=>nomatch z) h
 |str y=>obtain⟨t,q⟩:=(show ∃t,u=Value.str y t from rx);cases q;exact W.kia_one W.kitx_str I.kIn True.intro e (λ z=>nomatch z) h
 |flt y=>obtain⟨t,q⟩:=(show ∃t,u=Value.float y t from rx);cases q;exact W.kia_one W.kitx_float I.kIn True.intro e (λ z=>nomatch z) h
 | @lst a xs ea =>
  cases (show u=Value.ref a from rx);obtain⟨_,_,n,_,h1⟩:=(show ObjOk X.prog X.w H s.heap a (.lst xs) from I.hok a _ ea);exact W.kia_one W.kitx_list I.kIn ⟨_,h1,rfl⟩ e (λ z=>nomatch z) h
 | @frz a ob xs ea =>
  cases (show u=Value.ref a from rx);obtain⟨_,_,_,n,_,h1⟩:=(show ObjOk X.prog X.w H s.heap a (.frz ob (.lst xs)) from I.hok a _ ea);exact W.kia_one W.kitx_list I.kIn ⟨_,h1,rfl⟩ e (λ z=>nomatch z) h
 | @tup a xs ea =>
  cases (show u=Value.ref a from rx);obtain⟨_,_,_,p⟩:=(show ObjOk X.prog X.w H s.heap a (.tup xs) from I.hok a _ ea);obtain⟨o,h1,h2,_⟩:=p;exact W.kia_one W.kitx_tuple I.kIn ⟨o,h1,h2⟩ e (λ z=>nomatch z) h
 | @dK a kvs ea =>
  cases (show u=Value.ref a from rx);obtain⟨_,_,vs,_,p⟩:=(show ObjOk X.prog X.w H s.heap a (.dK kvs) from I.hok a _ ea);obtain⟨o,es,ep,h1,h2,_⟩:=p;exact W.kia_one W.kitx_dict I.kIn ⟨o,h1,h2.1⟩ e (λ z=>nomatch z) h
 | @dT a kvs ea =>
  cases (show u=Value.ref a from rx);obtain⟨_,_,xs,_,o,es,ep,h1,h2,_⟩:=(show ObjOk X.prog X.w H s.heap a (.dT kvs) from I.hok a _ ea);exact W.kia_one W.kitx_dict I.kIn ⟨o,h1,h2.1⟩ e (λ z=>nomatch z) h
 | @ins a C dx fs ea cl ha hn htk hm =>
  cases (show u=Value.ref a from rx);obtain⟨mA,O,_⟩:=zNM I.hok ea;obtain⟨od,J,_⟩:=O.look;exact W.kia_one (W.kitx_own (cl.get _) cl.hd ha hn htk hm) I.kIn J e (λ z=>nomatch z) h
end
structure Room (k:Nat) (A:Around):Prop where
 hd:A.handled=none
 dp:A.depth+3 * k+5<recursionLimit
 un:A.units+16 * k+200<cLine
theorem Room.mono {j k:Nat}{A:Around}(r:Room k A) (h:j<=k):Room j A:=⟨r.hd,by have:=r.dp;omega,by have:=r.un;omega⟩
theorem Room.deeper {k:Nat}{A:Around}(r:Room (k+1) A) (env:Env):Room k (A.deeper env) :=
 ⟨r.hd,by have:=r.dp;show A.depth+1+3 * k+5<_;omega,by have:=r.un;show A.units+3+16 * k+200<_;omega⟩
theorem zIz {A:Around}{C:Addr}{us:List Value}{kw:List (Str × Value)}:(A.under (.builtin "type.__call__" ⟨.ref C::us,kw⟩)).depth=A.depth+1:=by
 first|rfl|simp[Around.under,Code.weight,Code.isCreation,Code.isGuard,Code.isCaller,Code.frames,Code.isFrame,guardIds]
theorem zIy {A:Around}{C:Addr}{us:List Value}{kw:List (Str × Value)}:(A.under (.builtin "type.__call__" ⟨.ref C::us,kw⟩)).units=A.units+1:=by
 first|rfl|simp[Around.under,Code.cUnits,Code.frames,Code.isFrame]
theorem Room.make {k:Nat}{A:Around}(r:Room (k+1) A) (C:Addr) (us:List Value) (kw:List (Str × Value)):Room k (A.under (.builtin "type.__call__" ⟨.ref C::us,kw⟩)) :=
 ⟨r.hd,by have:=r.dp;rw[zIz];omega,by have:=r.un;rw[zIy];omega⟩
theorem Room.depth {k:Nat}{A:Around}(r:Room k A):A.depth<recursionLimit:=by have:=r.dp;omega
theorem Room.units {k:Nat}{A:Around}(r:Room k A):A.units+64<cLine:=by have:=r.un;omega
noncomputable def tNil:TA:=λ U H Q=>Q [] H
noncomputable def tCons (ta:TE) (tr:TA):TA:=λ σ H Q=>ta σ H λ x H1=>tr σ H1 λ xs H2=>Q (x::xs) H2
section
variable {X:Cx}{e:Expr}{es:List Expr}{te:TE}{t:TA}{pos:Pos}
theorem zAD:PA X [] tNil:=λ U U U U H Q I h=>Calls.spliced_nil ⟨[],H,I,.nil,h⟩
theorem zAA (ha:PE X e te) (hr:PA X es t) (hs:starEach (e::es) X.env=(false,eval e X.env)::starEach es X.env:=by rfl):PA X (e::es) (tCons te t):=by
 intro pos jP s σ H Q I h;rw[hs];show wpAny _ _ (spliced ((false,eval e X.env)::backTo pos (starEach es X.env))) _ _ s;refine Calls.spliced_cons (thn (ha jP s σ H _ I h) λ u s1 ⟨x,H1,I1,r1,q1⟩=>?_);exact thn (hr pos jP s1 σ H1 _ I1 q1) λ us s2 ⟨xs,H2,I2,r2,q2⟩=>⟨x::xs,H2,I2,.cons r1 r2,q2⟩
noncomputable def tTup (t:TA):TE:=λ σ H Q=>t σ H λ xs H1=>xs.length<=sizeLine/\∀p,H1 p=none->Q (.ref p) (upd H1 p (.tup xs))
noncomputable def tLst (t:TA):TE:=λ σ H Q=>t σ H λ xs H1=>xs.length<=sizeLine/\∀p,H1 p=none->Q (.ref p) (upd H1 p (.lst xs))
theorem zAj {x1} (h:PA X es t):PE X (.Tuple es x1 pos) (tTup t):=by
 intro jP s σ H Q I hq;refine wpAny_Tuple_spliced (thn (h pos jP s σ H _ I hq) λ us s1 ⟨xs,H1,I1,r,z,q⟩=>⟨by rw[←r.length];exact z,?_⟩);have hf:H1 s1.heap.objs.size=none:=I1.hok.fresh (lS _);refine⟨.ref s1.heap.objs.size,upd H1 s1.heap.objs.size (.tup xs),I1.laid (t':=s1.toks) (λ b u e=>lG _ e) (lS _) ?_,rfl,q _ hf⟩;exact⟨z,us,r,⟨_,lH _ rfl,rfl,_,rfl⟩⟩
theorem zA2 (h:PA X es t):PE X (.List es pos) (tLst t):=by
 intro jP s σ H Q I hq;refine wpAny_List_spliced (thn (h pos jP s σ H _ I hq) λ us s1 ⟨xs,H1,I1,r,z,q⟩=>⟨by rw[←r.length];exact z,?_⟩);have hf:H1 s1.heap.objs.size=none:=I1.hok.fresh (lS _);refine⟨.ref s1.heap.objs.size,upd H1 s1.heap.objs.size (.lst xs),I1.laid (t':=s1.toks) (λ b u e=>lG _ e) (lS _) ?_,rfl,q _ hf⟩;exact⟨z,us,0,r,lH _ rfl⟩
end
abbrev Sp:=List V->Hp->VK->XK->Prop
abbrev CXT:=List Env->Hp->Shared->XK->Value->Shared->Prop
structure Env0 (P:Program) (w:World) (K:W.Frag) (mg:Str->Option Value) (base:Heap) (A:Around) (outer:List Env) (s:Shared) (H:Hp):Prop where
 frames:A.frames=some outer
 mod:Mod K mg base
 bs:∀b o,base.get? b=some o->s.heap.get? b=some o/\H b=none
 bsz:base.objs.size<=s.heap.objs.size
 funs:s.heap.FunFrames base outer
 frf:∀b∈frs outer,H b=none
 hok:HOk P w H s.heap
 bare:AllBare s.gens
noncomputable def CE (outer:List Env) (P:Program) (w:World) (H:Hp) (s:Shared) (Q:VK) (u:Value) (s':Shared):Prop :=
 ∃v H',s'.os=s.os/\AllBare s'.gens/\Un (frs outer) [] H H' s.heap s'.heap/\HOk P w H' s'.heap/\RelV v u/\Q v H'
noncomputable def CR (CX:CXT) (outer:List Env) (P:Program) (w:World) (H:Hp) (s:Shared) (Q:VK) (E:XK) (r:Result) (s':Shared):Prop :=
 match r with
 |.ok (.ret u)=>CE outer P w H s Q u s'
 |.ok _=>False
 |.error e=>CX outer H s E e s'
structure FnOk (P:Program) (w:World) (K:W.Frag) (mg:Str->Option Value) (base:Heap) (CX:CXT) (k:Nat) (f:Addr) (fd:FuncData) (ps:List Str) (sp:Sp):Prop where
 len:∀vs H Q E,sp vs H Q E->vs.length=ps.length
 run:∀(A:Around) (outer:List Env) (s:Shared) (H:Hp) (args:Args) (us:List Value) (vs:List V) (Q:VK) (E:XK),Room k A->Env0 P w K mg base A outer s H->BindsTo s fd args (ps.zip us)->Vals vs us->sp vs H Q E ->
  codeAny (model P w) A (.call (.ref f) args) (CR CX outer P w H s Q E) s
theorem FnOk.mono {P:Program}{w:World}{K:W.Frag}{mg:Str->Option Value}{base:Heap}{CX:CXT}{j k:Nat}{f:Addr}{fd:FuncData}{ps:List Str}{sp:Sp}(F:FnOk P w K mg base CX j f fd ps sp) (h:j<=k) :
  FnOk P w K mg base CX k f fd ps sp:=⟨F.len,λ A outer s H args us vs Q E hr=>F.run A outer s H args us vs Q E (hr.mono h)⟩
theorem FnOk.imp {P:Program}{w:World}{K:W.Frag}{mg:Str->Option Value}{base:Heap}{CX:CXT}{k:Nat}{f:Addr}{fd:FuncData}{ps:List Str}{sp sp':Sp}(F:FnOk P w K mg base CX k f fd ps sp)
  (h:∀vs H Q E,sp' vs H Q E->sp vs H Q E):FnOk P w K mg base CX k f fd ps sp' :=
 ⟨λ vs H Q E q=>F.len vs H Q E (h _ _ _ _ q),λ A outer s H args us vs Q E hr he hb hv hs=>F.run A outer s H args us vs Q E hr he hb hv (h _ _ _ _ hs)⟩
theorem Env0.make {P:Program}{w:World}{K:W.Frag}{mg:Str->Option Value}{base:Heap}{A:Around}{outer:List Env}{s:Shared}{H:Hp}(e:Env0 P w K mg base A outer s H) (C:Addr) (us:List Value) (kw:List (Str × Value)) :
  Env0 P w K mg base (A.under (.builtin "type.__call__" ⟨.ref C::us,kw⟩)) outer s H:=⟨by first|exact e.frames|(simpa[Around.under,Code.envs,Code.isFrame,pushEnvs] using e.frames),e.mod,e.bs,e.bsz,e.funs,e.frf,e.hok,e.bare⟩
section
variable {X:Cx}{jP:List (Addr × Obj)}{σ:St}{H:Hp}{s s':Shared}
theorem Inv.env0 (I:Inv X jP σ H s):Env0 X.prog X.w X.K X.mg X.base X.A X.stack s H :=
 ⟨I.ok.frames,I.ok.mod,I.bs,mI I.ok.bsz I.sz,I.stack,I.stkFree,I.hok,I.bare⟩
theorem Inv.after {Q:VK}{u:Value}(I:Inv X jP σ H s) (h:CE X.stack X.prog X.w H s Q u s'):EP X jP σ Q u s':=by
 obtain⟨v,H',os,bare,un,hok,r,q⟩:=h;obtain⟨hh,g,d,t,os'⟩:=s';obtain rfl:os'=s.os:=os;exact⟨v,H',I.call (h':=hh) (g':=g) (d':=d) (t':=t) (ch:=[]) un hok bare (λ b z=>absurd z (by simp)),r,q⟩
end
noncomputable def tCall (sp:Sp) (dvs:List V) (E:XK) (t:TA):TE:=λ σ H Q=>t σ H λ vs H1=>sp (vs++dvs) H1 Q E
noncomputable def Binds (K:W.Frag) (fd:FuncData) (ps:List Str) (ds:List Value):Prop :=
 ∀(s:Shared) (us:List Value),K.In s.heap->(us++ds).length=ps.length->BindsTo s fd ⟨us,[]⟩ (ps.zip (us++ds))
theorem Binds.all {K:W.Frag}{fd:FuncData}{ps:List Str}(h:∀us:List Value,us.length=ps.length->bindArgs fd ⟨us,[]⟩=pure (ps.zip us)):Binds K fd ps []:=λ s us U hl=>by
 rw[List.append_nil] at hl ⊢;exact .of_eq (h us hl)
noncomputable def zKy (CX:CXT) (X:Cx) (E:XK):Prop:=∀(jP:List (Addr × Obj)) (σ:St) (H:Hp) (s:Shared) (e:Value) (s':Shared),Inv X jP σ H s->CX X.stack H s E e s'->X.xe e s'
section
variable {X:Cx}{CX:CXT}{k:Nat}{f C:Addr}{fd:FuncData}{ps:List Str}{sp:Sp}{dvs:List V}{ds:List Value}{E:XK}{x m:Str}{p pos apos:Pos}{e o:Expr}{es:List Expr}{ta:TE}{t:TA}
theorem zMG {jP:List (Addr × Obj)}{σ:St}{H:Hp}{s:Shared}{Q:VK}{us:List Value}{vs:List V}(F:FnOk X.prog X.w X.K X.mg X.base CX k f fd ps sp) (hr:Room k X.A) (hb:Binds X.K fd ps ds) (hd:Vals dvs ds) (hx:zKy CX X E)
  (I:Inv X jP σ H s) (r:Vals vs us) (h:sp (vs++dvs) H Q E):wpAny (model X.prog X.w) X.A (call (.ref f) us) (EP X jP σ Q) X.xe s:=by
 have r2:Vals (vs++dvs) (us++ds):=r.append hd;have hl:(us++ds).length=ps.length:=by rw[←r2.length];exact F.len _ _ _ _ h
 refine wpAny_call (codeAny_mono (F.run X.A X.stack s H ⟨us,[]⟩ (us++ds) (vs++dvs) Q E hr I.env0 (hb s us I.kIn hl) r2 h) λ r s' hq=>?_);cases r with
 |error e=>exact hx jP σ H s e s' I hq
 |ok fl =>
  cases fl with
  |ret u=>exact I.after hq
  |next=>exact False.elim hq
  |brk=>exact False.elim hq
  |cont=>exact False.elim hq
theorem zM2 (F:FnOk X.prog X.w X.K X.mg X.base CX k f fd ps sp) (hr:Room k X.A) (hg:Gl X x) (hm:X.mg x=some (.ref f)) (hk:W.keepIn X.K (.ref f)=true) (hb:Binds X.K fd ps ds) (hd:Vals dvs ds) (hx:zKy CX X E)
  (ha:PA X (e::es) t) (hdb:(x == ("__debug__" : Str))=false:=by decide) (he:starEach (e::es) X.env=(false,eval e X.env)::starEach es X.env:=by rfl) (hpl:(backTo pos (starEach es X.env)).any (·.1)=false:=by rfl) :
  PE X (.Call (.Name x p) (e::es) [] pos) (tCall sp dvs E t):=by
 intro jP s σ H Q I h;refine wpAny_Call_Name_kw (zE2 I hg hm ?_ hdb);refine W.callWith_K (h₀:=X.base) I.ok.mod.kin hk (thn (ha pos jP s σ H _ I h) λ us s1 ⟨vs,H1,I1,r,q⟩=>⟨I1.kIn,?_⟩) he hpl;exact zMG F hr hb hd hx I1 r q
end
section
variable {X:Cx}{CX:CXT}{k:Nat}{f C:Addr}{fd:FuncData}{ps ks:List Str}{sp:Sp}{E:XK}{x m:Str}{p pos apos kpos:Pos}{e o:Expr}{es:List Expr}{kws:List Keyword}{te ta:TE}{t tk:TA}{nm:Option Str}
variable {g:List Value->List Value->List Value}{gV:List V->List V->List V}
end
structure zAY (N P:List Str) (sc:Scope):Prop where
 kind:sc.kind = .function
 co:sc.isCoroutine=false
 gen:sc.isGenerator=false
 nd:N.Nodup
 pre:N.take P.length=P
 par:∀x∈P,sc.names.lookup x=some .local\/sc.names.lookup x=some .cell
 nofree:∀y∈sc.names,y.2 ≠ .free
theorem zG5 {kindOf:Str->Option NameKind}{x:Str}:∀{binds:List (Str × Value)}{m:Str->Option Value},(∀v,(x,v)∉binds)->bindL kindOf binds m x=m x
 |[],_,_=>rfl
 | (n,v)::r,m,h=>by
  unfold bindL;rw[zG5 λ w hw=>h w (List.mem_cons_of_mem _ hw)];split
  ·have:x≠n:=by rintro rfl;exact h v lQ
   simp[this]
  ·rfl
theorem zG7 {kindOf:Str->Option NameKind}{x:Str}:∀{binds:List (Str × Value)}{m:Str->Option Value},(∀v,(x,v)∉binds)->bindC kindOf binds m x=m x
 |[],_,_=>rfl
 | (n,v)::r,m,h=>by
  unfold bindC;rw[zG7 λ w hw=>h w (List.mem_cons_of_mem _ hw)];split
  ·rfl
  ·have:x≠n:=by rintro rfl;exact h v lQ
   simp[this]
theorem zG6 {kindOf:Str->Option NameKind}{x:Str}{v:Value}:∀{P:List Str}{vs:List Value}{i:Nat}{m:Str->Option Value},P.Nodup->P[i]?=some x->vs[i]?=some v->kindOf x=some .local ->
  bindL kindOf (P.zip vs) m x=some v
 |[],_,_,_,_,h,_,_=>by simp at h
 |_::_,[],_,_,_,_,h,_=>by simp at h
 |p::P,w::vs,0,m,nd,h1,h2,hk=>by
  simp at h1 h2;subst h1;subst h2;show bindL kindOf ((p,w)::P.zip vs) m p=_;unfold bindL;rw[zG5 λ v hv=>(List.nodup_cons.mp nd).1 (List.of_mem_zip hv).1,if_pos hk];simp
 |p::P,w::vs,i+1,m,nd,h1,h2,hk=>by
  show bindL kindOf ((p,w)::P.zip vs) m x=_;unfold bindL;exact zG6 (i:=i) (List.nodup_cons.mp nd).2 (by simpa using h1) (by simpa using h2) hk
theorem zG8 {kindOf:Str->Option NameKind}{x:Str}{v:Value}:∀{P:List Str}{vs:List Value}{i:Nat}{m:Str->Option Value},P.Nodup->P[i]?=some x->vs[i]?=some v->kindOf x≠some .local ->
  bindC kindOf (P.zip vs) m x=some v
 |[],_,_,_,_,h,_,_=>by simp at h
 |_::_,[],_,_,_,_,h,_=>by simp at h
 |p::P,w::vs,0,m,nd,h1,h2,hk=>by
  simp at h1 h2;subst h1;subst h2;show bindC kindOf ((p,w)::P.zip vs) m p=_;unfold bindC;rw[zG7 λ v hv=>(List.nodup_cons.mp nd).1 (List.of_mem_zip hv).1,if_neg hk];simp
 |p::P,w::vs,i+1,m,nd,h1,h2,hk=>by
  show bindC kindOf ((p,w)::P.zip vs) m x=_;unfold bindC;exact zG8 (i:=i) (List.nodup_cons.mp nd).2 (by simpa using h1) (by simpa using h2) hk
noncomputable def start (N:List Str) (vs:List V):St:=vs.map some++List.replicate (N.length - vs.length) none
noncomputable def cxOf (CX:CXT) (P:Program) (w:World) (K:W.Frag) (mg:Str->Option Value) (base:Heap) (N:List Str) (qual:Str) (scope:Scope) (f:Addr) (cd:Value) (A:Around) (outer:List Env) (s:Shared) (H:Hp) (E:XK):Cx where
 prog:=P
 w:=w
 K:=K
 mg:=mg
 base:=base
 A:=A.deeper (envOfC qual scope s.heap.objs.size f cd)
 N:=N
 s₀:=s
 H₀:=H
 env:=envOfC qual scope s.heap.objs.size f cd
 outer:=outer
 stack:=envOfC qual scope s.heap.objs.size f cd::outer
 ex:=[]
 calm:=true
 fn:=λ U=>true
 pn:=[]
 xe:=λ e s'=>wpAny (model P w) (A.deeper (envOfC qual scope s.heap.objs.size f cd)) (leaving (envOfC qual scope s.heap.objs.size f cd) e) (λ U s''=>CX outer H s E e s'') (λ e' s''=>CX outer H s E e' s'') s'
theorem zIW {sc:Scope}{n:Nat}{x:Str}(h:sc.names.lookup x=some .cell):∃c,(cellsFrom n sc.names []).lookup x=some c:=by
 have q:=W.cellsFrom_some sc.names n [] (.inl h);exact Option.isSome_iff_exists.mp q
theorem zKK {CX:CXT}{P:Program}{w:World}{K:W.Frag}{mg:Str->Option Value}{base:Heap}{N ps:List Str}{qual:Str}{scope:Scope}{f:Addr}{cd:Value}{A:Around}{outer:List Env}{s s1:Shared}{H:Hp}{E:XK}{us:List Value}{vs:List V}
  (S:zAY N ps scope) (hd:A.handled=none) (e0:Env0 P w K mg base A outer s H) (hl:vs.length=ps.length) (r:Vals vs us)
  (x:InCallC s s.heap.objs.size (bindL (envOfC qual scope s.heap.objs.size f cd).kindOf (ps.zip us) λ U=>none) (cellsFrom (s.heap.objs.size+1) scope.names []) (bindC (envOfC qual scope s.heap.objs.size f cd).kindOf (ps.zip us) λ U=>none) s1) :
  Inv (cxOf CX P w K mg base N qual scope f cd A outer s H E) [] (start N vs) H s1:=by
 have hpl:ps.length<=N.length:=by have:=congrArg List.length S.pre;rw[List.length_take] at this;omega
 obtain⟨h1,tk,rfl,hk⟩:=x.done;have noA:∀b:Addr,b∉(cxOf CX P w K mg base N qual scope f cd A outer s H E).ex:=λ b z=>absurd (show b∈([]:List Addr) from z) (by simp)
 refine⟨⟨e0.mod,S.kind,rfl,rfl,lS _,λ y z c h1 h2=>?_,λ y hy=>?_,λ y c U h=>?_,λ U=>hd,Around.frames_deeper e0.frames,.inr ⟨rfl,rfl⟩,λ b z=>absurd z (noA b),e0.bs,e0.bsz,λ b U U=>noA b,λ b z=>absurd z (noA b),e0.funs,e0.frf⟩,
  rfl,e0.bare,Un.kept hk,⟨_,x.toInCall.ns,λ i y v h1 h2 h3=>?_⟩,λ y c h=>⟨_,x.cell y c h⟩,e0.hok.fresh (lS _),λ y c h=>?_,λ p hp=>absurd (show p∈([]:List (Addr × Obj)) from hp) (by simp),e0.hok.kept hk,?_⟩
 ·exact name_of_addr x.apart (PySem.mem_of_lookup h1) (PySem.mem_of_lookup h2)
 ·have hy:scope.names.lookup y=some .cell\/scope.names.lookup y=some .free:=hy
  rcases hy with hy|hy
  ·exact zIW hy
  ·exact absurd rfl (S.nofree _ (PySem.mem_of_lookup hy))
 ·exact Nat.le_of_lt (x.above y c (PySem.mem_of_lookup h))
 ·have hi:i<vs.length:=by
   unfold start at h2
   by_cases hi:i<vs.length
   ·exact hi
   ·rw[List.getElem?_append_right (by simpa using hi)] at h2
    rw[List.getElem?_replicate] at h2;split at h2<;>cases h2
  have ha:vs[i]?=some v:=by
   unfold start at h2;rw[List.getElem?_append_left (by simpa using hi),List.getElem?_map] at h2;cases e:vs[i]? with
   |none=>rw[e] at h2;cases h2
   |some a=>rw[e] at h2;cases h2;rfl
  obtain⟨u,hu,rv⟩:=r.get ha
  have hp:ps[i]?=some y:=by
   rw[←S.pre,List.getElem?_take_of_lt (by omega)];exact h1
  have ndP:ps.Nodup:=by rw[←S.pre];exact S.nd.sublist (List.take_sublist _ _)
  refine⟨u,rv,?_⟩;rcases S.par y (lN hp) with k|k
  ·exact .inl ⟨k,zG6 ndP hp hu k⟩
  ·obtain⟨c,e⟩:=zIW (n:=s.heap.objs.size+1) k
   refine .inr ⟨.inl k,c,e,?_⟩;have q:=x.cell y c e;rw[zG8 ndP hp hu (by show scope.names.lookup y≠_;rw[k];decide)] at q;exact q
 ·exact e0.hok.fresh (Nat.le_of_lt (x.above y c (PySem.mem_of_lookup h)))
 ·unfold start
  show _=N.length;rw[List.length_append,List.length_map,List.length_replicate];omega
theorem fn_of {CX:CXT}{P:Program}{w:World}{K:W.Frag}{mg:Str->Option Value}{base:Heap}{k:Nat}{f:Addr}{name qual:Str}{params:Arguments}{body:List Stmt}{scope:Scope}{dV kV doc pm cdv ct oc:Value}{an od:Option Addr}
  {osl:Array (Option Value)}{N ps:List Str}{sp:Sp}(lk:K.lookup f=some ⟨oc,od,.func (W.fnOf name qual params body scope dV kV doc pm an cdv ct),osl⟩) (hcd:W.codeIn K cdv qual=true) (S:zAY N ps scope)
  (len:∀vs H Q E,sp vs H Q E->vs.length=ps.length)
  (hbody:∀(A:Around) (outer:List Env) (s:Shared) (H:Hp) (vs:List V) (Q:VK) (E:XK),Room k (A.deeper (envOfC qual scope s.heap.objs.size f cdv))->sp vs H Q E ->
   ∃t,PSs (cxOf CX P w K mg base N qual scope f cdv A outer s H E) body t/\t { nx:=λ U H'=>Q .non H',rt:=Q } (start N vs) H) :
  FnOk P w K mg base CX (k+1) f (W.fnOf name qual params body scope dV kV doc pm an cdv ct) ps sp:=by
 refine⟨len,λ A outer s H args us vs Q E hr e0 hb r hsp=>?_⟩;have hl:=len _ _ _ _ hsp;have KX:K.In s.heap:=e0.mod.kin.keeps λ b o e=>(e0.bs b o e).1;have lim:s.heap.NoLimit:=e0.mod.nolimit.keeps λ b o e=>(e0.bs b o e).1
 have hkind:∀y∈ps.zip us,scope.names.lookup y.1=some .local\/(scope.names.lookup y.1=some .cell/\((cellsFrom (s.heap.objs.size+1) scope.names []).lookup y.1).isSome=true):=λ⟨n,v⟩ hy=>by
  rcases S.par n (List.of_mem_zip hy).1 with q|q
  ·exact .inl q
  ·exact .inr ⟨q,W.cellsFrom_some _ _ _ (.inl q)⟩
 refine codeAny_call_function hr.depth (KX _ _ lk) rfl S.co S.gen rfl (W.codeRec_of KX hcd) (hb _ _ _ _ ?_);refine wpAny_newFunctionEnv_cells S.kind hkind λ env he s1 x=>?_;subst he;refine⟨lim.keeps x.toInCall.keep,codeAny_func ?_⟩;obtain⟨t,ht,hq⟩:=hbody A outer s H vs Q E (hr.deeper _) hsp;have I:Inv (cxOf CX P w K mg base N qual scope f cdv A outer s H E) [] (start N vs) H s1:=zKK S hr.hd e0 hl r x;refine wpAny_mono (ht [] s1 (start N vs) H _ I hq) (λ fl s' hs=>?_) λ e s' hs=>hs
 have fin:∀{σ':St}{H':Hp}{v:V}{u:Value},Inv (cxOf CX P w K mg base N qual scope f cdv A outer s H E) [] σ' H' s'->RelV v u->Q v H'->CE outer P w H s Q u s' :=
  λ{σ' H' v u} J rv q=>⟨v,H',J.os,J.bare,J.base,J.hok,rv,q⟩
 cases fl with
 |ret u =>
  obtain⟨v,σ',H',J,rv,q⟩:=hs;exact fin J rv q
 |next =>
  obtain⟨σ',H',J,q⟩:=hs;exact fin (v:=V.non) (u:=Value.none) J rfl q
 |brk =>
  obtain⟨_,_,_,q⟩:=hs;exact False.elim q
 |cont =>
  obtain⟨_,_,_,q⟩:=hs;exact False.elim q
section
variable {X:Cx}{x:Str}{p pos:Pos}{e:Expr}{es:List Expr}{t:TA}{id T:String}{r:List V->Hp->VK->Prop}
noncomputable def tCB (r:List V->Hp->VK->Prop) (t:TA):TE:=λ σ H Q=>t σ H λ vs H1=>r vs H1 Q
theorem zAX (hc:CallR X (.builtin id) r) (hg:Gl X x) (hm:X.mg x=none) (hv:bootBuiltins x=some (.builtin id)) (ha:PA X (e::es) t) (hn:x ≠ "__name__" := by decide) (hdb:(x == ("__debug__" : Str))=false:=by decide)
  (he:starEach (e::es) X.env=(false,eval e X.env)::starEach es X.env:=by rfl) (hpl:(backTo pos (starEach es X.env)).any (·.1)=false:=by rfl):PE X (.Call (.Name x p) (e::es) [] pos) (tCB r t):=by
 intro jP s σ H Q I h;refine wpAny_Call_Name_kw (zCr I hg hm hv ?_ hn hdb);exact PyProof.Rows.callWith_builtin1 (thn (ha pos jP s σ H _ I h) λ us s1 ⟨vs,H1,I1,r1,q1⟩=>hc jP s1 σ H1 vs us Q I1 r1 q1) he hpl
theorem zBg (hc:CallR X (.type T) r) (hg:Gl X x) (hm:X.mg x=none) (hv:bootBuiltins x=some (.type T)) (ha:PA X (e::es) t) (hn:x ≠ "__name__" := by decide) (hdb:(x == ("__debug__" : Str))=false:=by decide)
  (he:starEach (e::es) X.env=(false,eval e X.env)::starEach es X.env:=by rfl) (hpl:(backTo pos (starEach es X.env)).any (·.1)=false:=by rfl):PE X (.Call (.Name x p) (e::es) [] pos) (tCB r t):=by
 intro jP s σ H Q I h;refine wpAny_Call_Name_kw (zCr I hg hm hv ?_ hn hdb);exact PyProof.Rows.callWith_type1 (thn (ha pos jP s σ H _ I h) λ us s1 ⟨vs,H1,I1,r1,q1⟩=>hc jP s1 σ H1 vs us Q I1 r1 q1) he hpl
end
end L2
namespace HT
open PySem PyProof.Rows
section
open PySem.SeqAt
open PySem.AutoSeq1 (wpAny_loadPart')
open PySem.MeetsSeq PySem.MeetsSeq2 PySem.MeetsSeq3
end
section
variable {prog:Program}{w:World}{A:Around}{E:Value->Shared->Prop}{s:Shared}
theorem cat_tup {t b:Addr}{vs ws:List Value}{Q:Value->Shared->Prop}(ht:IsTup s.heap t vs.toArray) (hb:IsTup s.heap b ws.toArray) (hv:vs≠[])
  (h1:ws=[]->Q (.ref t) s) (h2:ws≠[]->Q (.ref s.heap.objs.size) { s with heap:=s.heap.push { cls:=.type "tuple", data:=.seq (vs++ws).toArray } })
  (hsz:vs.length+ws.length<=sizeLine):wpAny (model prog w) A (binaryOp .Add (.ref t) (.ref b)) Q E s:=by
 obtain⟨⟨cls,dd,data,sl⟩,ho,hc,n,hd⟩:=id ht;obtain⟨⟨cls2,dd2,data2,sl2⟩,ho2,hc2,n2,hd2⟩:=id hb;simp only at hc hd hc2 hd2;subst hc hd hc2 hd2;have e:vs.toArray++ws.toArray=(vs++ws).toArray:=by simp
 by_cases hw:ws=[]
 ·exact concat_meets ⟨_,ho,rfl⟩ ⟨_,ho2,rfl⟩ noFill_tuple_add seq_tuple_add PySem.F.slot_tuple_add PySem.F.entry_tuple_add (PySem.F.args_tuple_add_2 _ _)
   (tuple_addW1 t b vs.toArray ws.toArray n n2 dd dd2 sl sl2 (by simpa using hv) (by simp[hw])) ⟨ho,ho2,h1 hw⟩
 ·refine concat_meets ⟨_,ho,rfl⟩ ⟨_,ho2,rfl⟩ noFill_tuple_add seq_tuple_add PySem.F.slot_tuple_add PySem.F.entry_tuple_add (PySem.F.args_tuple_add_2 _ _)
   (tuple_addW2 t b vs.toArray ws.toArray n n2 dd dd2 sl sl2 (by simpa using hv) (by simpa using hw) (by rw[List.size_toArray,List.size_toArray];exact hsz)) ⟨ho,ho2,?_⟩
  rw[e];exact h2 hw
noncomputable def sIx (n d:Nat):Option Int->Nat
 |none=>d
 |some v=>if v<0 then (v+(n:Int)).toNat else min v.toNat n
theorem sIx_none (n d:Nat):sIx n d none=d:=rfl
theorem sIx_nat (n d k:Nat):sIx n d (some (k:Int))=min k n:=by
 show (if (k:Int)<0 then ((k:Int)+(n:Int)).toNat else min (k:Int).toNat n)=min k n;rw[if_neg (by omega),Int.toNat_natCast]
theorem zNr (n d:Nat) (hd:d<=n) (o:Option Int):sIx n d o<=n:=by
 cases o with
 |none=>exact hd
 |some v =>
  show (if v<0 then (v+(n:Int)).toNat else min v.toNat n)<=n
  by_cases hv:v<0
  ·rw[if_pos hv];omega
  ·rw[if_neg hv];exact Nat.min_le_right _ _
theorem zKm (v:Int) (n d:Nat):(if v<0 then max (v+(n:Int)) 0 else min v (n:Int))=((sIx n d (some v):Nat):Int):=by
 show (if v<0 then max (v+(n:Int)) 0 else min v (n:Int))=(((if v<0 then (v+(n:Int)).toNat else min v.toNat n):Nat):Int)
 by_cases hv:v<0
 ·simp only[if_pos hv];omega
 ·simp only[if_neg hv];omega
theorem zI6 (lo hi:Option Int) (n:Nat):Builtin.Slice.sliceAdjust lo hi 1 (n:Int)=(((sIx n 0 lo:Nat):Int),((sIx n n hi:Nat):Int)):=by
 have h1:¬((1:Int)<0):=by omega
 unfold Builtin.Slice.sliceAdjust;simp only[h1,if_false];refine Prod.ext ?_ ?_
 ·cases lo with
  |none=>rfl
  |some v=>exact zKm v n 0
 ·cases hi with
  |none=>rfl
  |some v=>exact zKm v n n
theorem zIk (i j:Nat):Builtin.Slice.slicePlaces (i:Int) (j:Int) 1=j - i:=by
 unfold Builtin.Slice.slicePlaces;have h1:(1:Int) > 0:=by omega
 simp only[h1,if_true,Int.ediv_one];split<;>omega
theorem zFV {v:Value}{o:Option Int}{Q:Option Int->Shared->Prop}(p:IsPart v o) (h:Q o s):wpAny (model prog w) A (Builtin.Slice.slicePartIndex v) Q E s:=by
 cases p with
 |none=>exact slicePart_none h
 |int i t=>exact slicePart_int h
theorem zES {sl:Addr}{vl vu:Value}{lo hi:Option Int}{n:Nat}{Q:Int × Int × Nat->Shared->Prop}(hs:s.heap.IsSliceOf sl vl vu .none) (pl:IsPart vl lo) (pu:IsPart vu hi)
  (h:Q (((sIx n 0 lo:Nat):Int),1,sIx n n hi - sIx n 0 lo) s):wpAny (model prog w) A (Builtin.Slice.sliceApplied (.ref sl) (pure (n:Int))) Q E s:=by
 obtain⟨os,hos,hcs,hds⟩:=id hs;unfold Builtin.Slice.sliceApplied Builtin.Slice.sliceFields;refine lA (lA (wpAny_field hos hds (x:=vl) rfl (lA (wpAny_field hos hds (x:=vu) rfl (lA (wpAny_field hos hds (x:=.none) rfl (lB ?_)))))));refine lA (slicePart_none ?_);show wpAny _ _ (if ((1:Int) == 0)=true then _ else _) _ _ s;rw[if_neg (by decide)];refine lA (zFV pl (lA (zFV pu (lA (lB ?_)))));show wpAny _ _ (match Builtin.Slice.sliceAdjust lo hi 1 (n:Int) with|(lo,hi)=>pure (lo,(1:Int),Builtin.Slice.slicePlaces lo hi 1)) _ _ s;rw[zI6 lo hi n];show wpAny _ _ (pure (((sIx n 0 lo:Nat):Int),(1:Int),Builtin.Slice.slicePlaces ((sIx n 0 lo:Nat):Int) ((sIx n n hi:Nat):Int) 1)) _ _ s;rw[zIk];exact lB h
theorem zLH (xs:Array Value) (i k:Nat):((List.range k).filterMap λ(m:Nat)=>xs[((i:Int)+(m:Int) * 1).toNat]?).toArray=((xs.toList.drop i).take k).toArray:=by
 have e:(λ(m:Nat)=>xs[((i:Int)+(m:Int) * 1).toNat]?)=λ m=>xs[i+m]?:=by
  funext m;have:((i:Int)+(m:Int) * 1).toNat=i+m:=by omega
  rw[this]
 rw[e];have:=pick_run xs i k;rw[List.filterMap_map] at this;have e2:((λ x=>xs[x]?) ∘ λ x=>i+x)=λ m=>xs[i+m]?:=rfl;rw[e2] at this;rw[this]
theorem getItem_tuple_cut {t sl:Addr}{items:Array Value}{vl vu:Value}{lo hi:Option Int}{Q:Value->Shared->Prop}(ht:IsTup s.heap t items) (hs:s.heap.IsSliceOf sl vl vu .none) (pl:IsPart vl lo) (pu:IsPart vu hi)
  (hw:¬(sIx items.size 0 lo=0/\sIx items.size items.size hi=items.size))
  (h:Q (.ref s.heap.objs.size) { s with heap:=s.heap.push { cls:=.type "tuple", data:=.seq ((items.toList.drop (sIx items.size 0 lo)).take (sIx items.size items.size hi - sIx items.size 0 lo)).toArray } })
  (hsz:items.size<=sizeLine):wpAny (model prog w) A (getItem (.ref t) (.ref sl)) Q E s:=by
 have htake:sizeOk (.seq ((items.toList.drop (sIx items.size 0 lo)).take (sIx items.size items.size hi - sIx items.size 0 lo)).toArray):=by
  show ((items.toList.drop (sIx items.size 0 lo)).take (sIx items.size items.size hi - sIx items.size 0 lo)).toArray.size<=sizeLine;rw[List.size_toArray,List.length_take,List.length_drop,Array.length_toList];omega
 have hj:sIx items.size items.size hi<=items.size:=zNr _ _ (lS _) hi;obtain⟨os,hos,hcs,hds⟩:=id hs;have hTs:s.TypeIs (.ref sl) "slice" := ⟨os,hos,hcs⟩;unfold getItem
 try with_reducible refine lE ?_
 first|refine lA (lB ?_)|skip
 refine lA (wpAny_sequenceKey ht.typeIs (by decide) ?_)
 refine lA (wpAny_callSpecial?_slot (name:=Str.ofString "__getitem__") ht.typeIs PyProof.Rows.slot_tuple_getitem
  (wpAny_call_entry PyProof.Rows.slot_tuple_getitem ht.typeIs entry_tuple_getitem ?_ (args_tuple_getitem _ _)))
 show wpAny _ _ (Builtin.Tuple.tupleItemsOf (.ref t) >>= _) _ _ s;refine lA (tupleItemsOf_ ht ?_);refine lA (wpAny_typeOf hTs ?_);rw[if_pos (by decide)];refine lA (zES hs pl pu ?_)
 have hno:¬((((sIx items.size 0 lo:Nat):Int) == 0 && (1:Int) == 1 && (sIx items.size items.size hi - sIx items.size 0 lo) == items.size)=true):=by
  intro q;rw[Bool.and_eq_true,Bool.and_eq_true] at q;have q1:((sIx items.size 0 lo:Nat):Int)=0:=eq_of_beq q.1.1;have q2:sIx items.size items.size hi - sIx items.size 0 lo=items.size:=eq_of_beq q.2;exact hw ⟨by omega,by omega⟩
 show wpAny _ _ (if (((sIx items.size 0 lo:Nat):Int) == 0 && (1:Int) == 1 && (sIx items.size items.size hi - sIx items.size 0 lo) == items.size)=true then _ else _) _ _ s;rw[if_neg hno,zLH]
 first
  |exact lA (m:=Builtin.Tuple.tupleExact _) (wpAny_newObj_type (lB ⟨_,rfl,lB h⟩) htake)
  |exact lA (m:=Builtin.Tuple.tupleExact _) (wpAny_newObj_type (lA (lB (lB ⟨_,rfl,lB h⟩))) htake)
  |exact lA (lA (m:=Builtin.Tuple.tupleExact _) (wpAny_newObj_type (lB (lB ⟨_,rfl,lB h⟩)) htake))
  |exact lA (lA (m:=Builtin.Tuple.tupleExact _) (wpAny_newObj_type (lB ⟨_,rfl,lB h⟩) htake))
end
end HT
namespace L2
open PySem PySem.Spec PyProof.Rows
abbrev TO:=St->Hp->(Option Int->Hp->Prop)->Prop
noncomputable def PO (X:Cx) (e:Option Expr) (t:TO):Prop :=
 ∀(jP:List (Addr × Obj)) (s:Shared) (σ:St) (H:Hp) (Q:Option Int->Hp->Prop),Inv X jP σ H s->t σ H Q ->
  wpAny (model X.prog X.w) X.A (evalPart e X.env) (λ u s'=>∃o H',Inv X jP σ H' s'/\IsPart u o/\Q o H') X.xe s
noncomputable def zMj:TO:=λ U H Q=>Q none H
noncomputable def tPart (t:TE):TO:=λ σ H Q=>t σ H λ x H1=>∃i,x = .int i/\Q (some i) H1
section
variable {X:Cx}{e:Expr}{te:TE}{lo hi:Option Expr}{tl th:TO}{pos p2:Pos}
theorem zBy:PO X none zMj:=by
 intro jP s σ H Q I h;rw[evalPart_none];exact lB ⟨none,H,I,.none,h⟩
theorem zBj (h:PE X e te):PO X (some e) (tPart te):=by
 intro jP s σ H Q I hw;rw[evalPart_some];refine thn (h jP s σ H _ I hw) λ u s1 ⟨x,H1,I1,r1,q1⟩=>?_;obtain⟨i,rfl,q⟩:=q1;obtain⟨t,rfl⟩:=r1;exact⟨some i,H1,I1,.int i t,q⟩
noncomputable def SlR (X:Cx) (r:V->Option Int->Option Int->Hp->VK->Prop):Prop :=
 ∀(jP:List (Addr × Obj)) (s:Shared) (σ:St) (H:Hp) (x:V) (v vl vu:Value) (lo hi:Option Int) (sl:Addr) (Q:VK),Inv X jP σ H s->RelV x v->s.heap.IsSliceOf sl vl vu .none->IsPart vl lo->IsPart vu hi->r x lo hi H Q ->
  ∃T id,typeLookup (.type T) "__getitem__" = pure (some (.builtin id))/\s.TypeIs v T/\wpAny (model X.prog X.w) X.A (getItem v (.ref sl)) (EP X jP σ Q) X.xe s
noncomputable def tSl (r:V->Option Int->Option Int->Hp->VK->Prop) (te:TE) (tl th:TO):TE:=λ σ H Q=>te σ H λ x H1=>tl σ H1 λ l H2=>th σ H2 λ u H3=>r x l u H3 Q
theorem zBU {r:V->Option Int->Option Int->Hp->VK->Prop}(hr:SlR X r) (he:PE X e te) (hl:PO X lo tl) (hu:PO X hi th):PE X (.Subscript e (.Slice lo hi none p2) pos) (tSl r te tl th):=by
 intro jP s σ H Q I h;refine Subscript_ (thn (he jP s σ H _ I h) λ v s1 ⟨x,H1,I1,r1,q1⟩=>?_);refine wpAny_Slice (thn (hl jP s1 σ H1 _ I1 q1) λ vl s2 ⟨l,H2,I2,pl,q2⟩=>thn (hu jP s2 σ H2 _ I2 q2) λ vu s3 ⟨u,H3,I3,pu,q3⟩=>?_);rw[evalPart_none];refine lB ?_;have I4:Inv X jP σ H3 { s3 with heap:=s3.heap.push { cls:=.type "slice", data:=.fields #[vl,vu,.none] } }:=I3.kept (t':=s3.toks) λ b ob q=>lG _ q;obtain⟨T,id,hT,ht,hg⟩:=hr jP { s3 with heap:=s3.heap.push { cls:=.type "slice", data:=.fields #[vl,vu,.none] } } σ H3 x v vl vu l u s3.heap.objs.size Q I4 r1 (Heap.IsSliceOf.new ..) pl pu q3;show wpAny (model X.prog X.w) X.A (subscriptTail e (.Slice lo hi none p2) v (.ref s3.heap.objs.size)) (EP X jP σ Q) X.xe { s3 with heap:=s3.heap.push { cls:=.type "slice", data:=.fields #[vl,vu,.none] } };exact tail_any (ops:=[.ref s3.heap.objs.size,v]) ht hT hg (by with_unfolding_all rfl)
noncomputable def cutV (xs:List V) (lo hi:Option Int):List V:=(xs.drop (HT.sIx xs.length 0 lo)).take (HT.sIx xs.length xs.length hi - HT.sIx xs.length 0 lo)
theorem zFD (xs:List V) (lo hi:Option Int):(cutV xs lo hi).length<=xs.length:=by
 unfold cutV;rw[List.length_take,List.length_drop];omega
noncomputable def rSlT (K:W.Frag):V->Option Int->Option Int->Hp->VK->Prop:=λ x lo hi H Q=>∃a xs,x = .ref a/\SqT K H a xs /\
 ¬(HT.sIx xs.length 0 lo=0/\HT.sIx xs.length xs.length hi=xs.length)/\∀p,H p=none->Q (.ref p) (upd H p (.tup (cutV xs lo hi)))
theorem zJQ:SlR X (rSlT X.K):=by
 intro jP s σ H x v vl vu lo hi sl Q I rx hs pl pu h;obtain⟨a,xs,rfl,hx,hw,q⟩:=h;cases rx;obtain⟨its,r,ht,hz⟩:=I.tuple hx;have hlen:its.toArray.size=xs.length:=by rw[List.size_toArray];exact r.length.symm
 refine⟨"tuple", _,PyProof.Rows.slot_tuple_getitem.lookup,ht.typeIs,?_⟩;refine HT.getItem_tuple_cut ht hs pl pu (by rw[hlen];exact hw) ?_ (by rw[hlen];exact hz);rw[hlen];refine⟨.ref s.heap.objs.size,_,I.laid (t':=s.toks) (o:=.tup (cutV xs lo hi)) (λ b ob q=>lG _ q) (lS _) ?_,rfl,q _ (I.hok.fresh (lS _))⟩;exact⟨mI (zFD xs lo hi) hz,_,(r.drop (HT.sIx xs.length 0 lo)).take (HT.sIx xs.length xs.length hi - HT.sIx xs.length 0 lo),IsTup.new _ _⟩
noncomputable def rCatT (K:W.Frag):R2:=λ x y H Q=>∃a b xs ys,x = .ref a/\y = .ref b/\SqT K H a xs/\SqT K H b ys/\xs≠[]/\xs.length+ys.length<=sizeLine /\
 (ys=[]->Q (.ref a) H)/\(ys≠[]->∀p,H p=none->Q (.ref p) (upd H p (.tup (xs++ys))))
theorem Vals.nil_iff {xs:List V}{us:List Value}(r:Vals xs us):us=[]↔xs=[]:=by
 cases r with
 |nil=>simp
 |cons _ _=>simp
theorem zM9:OpR X (binaryOp .Add) (rCatT X.K):=by
 intro jP s σ H x y v u Q I rx ry h;obtain⟨a,b,xs,ys,rfl,rfl,ha,hb,hx,hz,q1,q2⟩:=h;cases rx;cases ry;obtain⟨its,r1,p1,_⟩:=I.tuple ha;obtain⟨its2,r2,p2,_⟩:=I.tuple hb;refine HT.cat_tup p1 p2 (λ z=>hx (r1.nil_iff.mp z)) (λ z=>⟨.ref a,H,I,rfl,q1 (r2.nil_iff.mp z)⟩) (λ z=>?_) (by rw[←r1.length,←r2.length];exact hz);refine⟨.ref s.heap.objs.size,_,I.laid (t':=s.toks) (o:=.tup (xs++ys)) (λ b ob q=>lG _ q) (lS _) ?_,rfl,q2 (λ w=>z (r2.nil_iff.mpr w)) _ (I.hok.fresh (lS _))⟩;exact⟨by rw[List.length_append];exact hz,_,r1.append r2,IsTup.new _ _⟩
end
noncomputable def ixN (n:Nat) (i:Int):Option Nat:=if 0<=i then (if i<n then some i.toNat else none) else if -(n:Int)<=i then some (i+n).toNat else none
noncomputable def atI {α:Type}(xs:List α) (i:Int):Option α:=(ixN xs.length i).bind λ j=>xs[j]?
theorem zKI {n:Nat}{i:Int}{j:Nat}(h:ixN n i=some j):seqIndex? i n=some j/\j<n /\ -(n:Int)<=i/\i<n:=by
 unfold ixN at h
 by_cases h0:0<=i
 ·rw[if_pos h0] at h
  by_cases h1:i<n
  ·rw[if_pos h1] at h
   have e:i.toNat=j:=mG h;exact⟨by rw[seqIndex_of h0 h1,e],by omega,by omega,h1⟩
  ·rw[if_neg h1] at h;cases h
 ·rw[if_neg h0] at h
  by_cases h1 : -(n:Int)<=i
  ·rw[if_pos h1] at h
   have e:(i+n).toNat=j:=mG h;exact⟨by rw[seqIndex_neg (by omega) h1,e],by omega,h1,by omega⟩
  ·rw[if_neg h1] at h;cases h
theorem zHj {α:Type}{xs:List α}{i:Int}{v:α}(h:atI xs i=some v):∃j,seqIndex? i xs.length=some j/\xs[j]?=some v/\j<xs.length /\ -(xs.length:Int)<=i/\i<xs.length:=by
 unfold atI at h;cases e:ixN xs.length i with
 |none=>rw[e] at h;cases h
 |some j =>
  rw[e] at h;obtain⟨h1,h2,h3,h4⟩:=zKI e;exact⟨j,h1,h,h2,h3,h4⟩
theorem zAI {α:Type}{xs:List α}{j:Nat}{v:α}(h:xs[j]?=some v):atI xs (j:Int)=some v:=by
 have hj:j<xs.length:=(lJ.mp h).1
 have e:ixN xs.length (j:Int)=some j:=by
  unfold ixN;rw[if_pos (by omega),if_pos (by omega)];simp
 unfold atI;rw[e];exact h
theorem zL6 {α:Type}(xs:List α) (v:α):atI (xs++[v]) (-1)=some v:=by
 have hl:(xs++[v]).length=xs.length+1:=by simp
 have e:ixN (xs++[v]).length (-1)=some xs.length:=by
  unfold ixN;rw[hl,if_neg (by decide),if_pos (by omega)];congr 1;omega
 unfold atI;rw[e];show (xs++[v])[xs.length]?=some v;simp
noncomputable def zKx (b:Expr):Prop:=∀o i,subscripted b false o i=operate [o,i] (getItem o i)
noncomputable def IxR (X:Cx) (r:R2):Prop :=
 ∀(value slice:Expr) (jP:List (Addr × Obj)) (s:Shared) (σ:St) (H:Hp) (x y:V) (v u:Value) (Q:VK),Inv X jP σ H s->RelV x v->RelV y u->r x y H Q ->
  subscripted slice false v u=operate [v,u] (getItem v u)->wpAny (model X.prog X.w) X.A (subscriptTail value slice v u) (EP X jP σ Q) X.xe s
noncomputable def MtR (X:Cx) (id:String) (r:V->List V->Hp->VK->Prop):Prop :=
 ∀(jP:List (Addr × Obj)) (s:Shared) (σ:St) (H:Hp) (x:V) (xs:List V) (v:Value) (us:List Value) (Q:VK),Inv X jP σ H s->RelV x v->Vals xs us->r x xs H Q ->
  wpAny (model X.prog X.w) X.A (call (.builtin id) (v::us)) (EP X jP σ Q) X.xe s
section
variable {X:Cx}{a b:Expr}{ta tb:TE}{pos:Pos}
theorem pe_ix {r:R2}(hr:IxR X r) (ha:PE X a ta) (hb:PE X b tb) (hs:zKx b):PE X (.Subscript a b pos) (tOp r ta tb):=by
 intro jP s σ H Q I h;exact Subscript_ (binT ha hb I h λ v u s2 x y H2 I2 rx ry q=>hr a b jP s2 σ H2 x y v u Q I2 rx ry q (hs _ _))
noncomputable def rIxL (K:W.Frag):R2:=λ x y H Q=>∃p xs i v,x = .ref p/\y = .int i/\SqL K H p xs/\atI xs i=some v/\Q v H
noncomputable def rIxT (K:W.Frag):R2:=λ x y H Q=>∃p xs i v,x = .ref p/\y = .int i/\SqT K H p xs/\atI xs i=some v/\Q v H
noncomputable def rIxS:R2:=λ x y H Q=>∃z i c,x = .str z/\y = .int i/\z.length<=sizeLine/\atI z.cps.toList i=some c/\Q (.str ⟨#[c]⟩) H
theorem zAh:IxR X (rIxL X.K):=by
 intro value slice jP s σ H x y v u Q I rx ry h hs;obtain⟨p,xs,i,z,rfl,rfl,hq,he,q⟩:=h;cases rx;obtain⟨t,rfl⟩:=ry;obtain⟨its,r,pl,hz⟩:=I.list hq;obtain⟨j,h1,h2,h3,h4,h5⟩:=zHj he;obtain⟨w,ew,rw'⟩:=r.get h2;have hl:=r.length;have hn:=zFd;have fin:EP X jP σ Q w s:=⟨z,H,I,rw',q⟩
 by_cases h0:0<=i
 ·have hj:i.toNat=j:=by
   rw[seqIndex_of h0 h5] at h1;exact mG h1
  exact item_listR pl.isList h0 (by omega) (by rw[hj];simpa using ew) fin hs
 ·have hj:(i+(its.toArray.size:Int)).toNat=j:=by
   rw[seqIndex_neg (by omega) h4] at h1;rw[List.size_toArray,←hl];exact mG h1
  exact subscriptTail_builtinR (x:=w) pl.isList.typeIs slot_list_getitem.lookup
   (wpAny_getItem_list_neg (Q:=λ r s'=>r=w/\EP X jP σ Q r s') pl.isList (by omega) (by rw[List.size_toArray]<;>omega) (by omega) (by rw[hj];simpa using ew) ⟨rfl,fin⟩) hs
theorem zAL:IxR X (rIxT X.K):=by
 intro value slice jP s σ H x y v u Q I rx ry h hs;obtain⟨p,xs,i,z,rfl,rfl,hq,he,q⟩:=h;cases rx;obtain⟨t,rfl⟩:=ry;obtain⟨its,r,pl,hz⟩:=I.tuple hq;obtain⟨j,h1,h2,h3,h4,h5⟩:=zHj he;obtain⟨w,ew,rw'⟩:=r.get h2;have hl:=r.length;have hn:=zFd;have fin:EP X jP σ Q w s:=⟨z,H,I,rw',q⟩
 exact subscriptTail_builtinR (x:=w) pl.typeIs slot_tuple_getitem.lookup
  (getItem_tuple (j:=j) (Q:=λ r s'=>r=w/\EP X jP σ Q r s') pl (by omega) (by omega) (by rw[List.size_toArray,←hl];exact h1) (by simpa using ew) ⟨rfl,fin⟩) hs
theorem zOK:IxR X rIxS:=by
 intro value slice jP s σ H x y v u Q I rx ry h hs;obtain⟨z,i,c,rfl,rfl,hz,he,q⟩:=h;obtain⟨t,rfl⟩:=rx;obtain⟨t',rfl⟩:=ry;obtain⟨j,h1,h2,h3,h4,h5⟩:=zHj he;have hl:z.cps.toList.length=z.length:=by simp[Str.length]
 rw[hl] at h1 h4 h5;have hn:=zFd
 exact tail_any (typeIs_str s z t) slot_str_getitem.lookup (getItem_str (c:=c) (by
  have e1:decide (i < -(2 ^ 63:Int))=false:=decide_eq_false (by omega);have e2:decide (i ≥ 2 ^ 63)=false:=decide_eq_false (by omega);rw[e1,e2,Bool.or_false]) (by rw[h1];simpa using h2) ⟨.str ⟨#[c]⟩,H,I.tok _,⟨_,rfl⟩,q⟩) hs
theorem zIx (its:List Value) (n j:Nat) (u:Value):Obj.mapSeq (·.setIfInBounds j u) { cls:=.type "list", data:=.seq its.toArray n }={ cls:=.type "list", data:=.seq (its.set j u).toArray n }:=by
 simp[Obj.mapSeq]
theorem Inv.lst {jP:List (Addr × Obj)}{σ:St}{H:Hp}{s:Shared}{p:Addr}{xs:List V}(I:Inv X jP σ H s) (h:H p=some (.lst xs)) :
  ∃(its:List Value) (n:Nat),Vals xs its/\s.heap.get? p=some { cls:=.type "list", data:=.seq its.toArray n }/\xs.length<=sizeLine:=by
 obtain⟨z,its,n,r,e⟩:=I.hok p _ h;exact⟨its,n,r,e,z⟩
theorem Inv.lstUpd {jP:List (Addr × Obj)}{σ:St}{H:Hp}{s:Shared}{p:Addr}{xs ys:List V}{its its':List Value}{n n':Nat}{f:Obj->Obj}(I:Inv X jP σ H s) (h:H p=some (.lst xs))
  (ho:s.heap.get? p=some { cls:=.type "list", data:=.seq its.toArray n }) (hf:f { cls:=.type "list", data:=.seq its.toArray n }={ cls:=.type "list", data:=.seq its'.toArray n' }) (r:Vals ys its') (hz:ys.length<=sizeLine) (t:Nat) :
  Inv X jP σ (upd H p (.lst ys)) { s with heap:=s.heap.update p f,toks:=t }:=by
 have e:(s.heap.update p f).get? p=some { cls:=.type "list", data:=.seq its'.toArray n' }:=by
  rw[Heap.get?_update_self f ho (by rw[hf]<;>rfl),hf]
 refine I.write (x:=p) (e:=p) (by rw[h];trivial) (.inl rfl) (λ b u hb q=>(Heap.get?_update_other _ _ (Ne.symm hb)).trans q) ⟨_,e⟩ ?_;exact⟨hz,its',n',r,e⟩
noncomputable def rSetL:V->V->V->Hp->(Hp->Prop)->Prop:=λ o i v H Q=>∃p xs k j,o = .ref p/\i = .int k/\H p=some (.lst xs)/\ixN xs.length k=some j/\Q (upd H p (.lst (xs.set j v)))
theorem zK8:PSet X rSetL:=by
 intro jP s σ H o i v ov iv u Q I ro ri rv h;obtain⟨p,xs,k,j,rfl,rfl,hp,hj,q⟩:=h;cases ro;obtain⟨t,rfl⟩:=ri;obtain⟨its,n,r,ho,hz⟩:=I.lst hp;obtain⟨h1,h2,h3,h4⟩:=zKI hj;have hl:=r.length;have hn:=zFd
 have I':Inv X jP σ (upd H p (.lst (xs.set j v))) { s with heap:=s.heap.update p (Obj.mapSeq (·.setIfInBounds j u)) } :=
  I.lstUpd hp ho (zIx its n j u) (r.set rv j) (by rw[List.length_set];exact hz) s.toks
 by_cases h0:0<=k
 ·have hk:k.toNat=j:=by
   rw[seqIndex_of h0 h4] at h1;exact mG h1
  exact W.ki_setAt ho h0 (by omega) (by rw[List.size_toArray,←hl];exact h4) (by rw[hk];exact⟨_,I',q⟩)
 ·have hk:(k+(its.toArray.size:Int)).toNat=j:=by
   rw[seqIndex_neg (by omega) h3] at h1;rw[List.size_toArray,←hl];exact mG h1
  exact W.ki_setBack ho (by omega) (by rw[List.size_toArray,←hl];exact h3) (by omega) (by rw[hk];exact⟨_,I',q⟩)
theorem zGe (lo hi:Option Int) (n:Nat):(sliceBounds lo hi none n).1=((HT.sIx n 0 lo:Nat):Int)/\(sliceBounds lo hi none n).2.1=((HT.sIx n n hi:Nat):Int)/\(sliceBounds lo hi none n).2.2=1:=by
 refine⟨?_,?_,rfl⟩
 ·cases lo with
  |none=>simp[sliceBounds,HT.sIx]
  |some i =>
   simp only[sliceBounds,HT.sIx,Option.getD_none,show (1:Int) > 0 by decide,if_true]
   by_cases h:i<0
   ·simp only[h,if_true]<;>omega
   ·simp only[h,if_false]<;>omega
 ·cases hi with
  |none=>simp[sliceBounds,HT.sIx]
  |some i =>
   simp only[sliceBounds,HT.sIx,Option.getD_none,show (1:Int) > 0 by decide,if_true]
   by_cases h:i<0
   ·simp only[h,if_true]<;>omega
   ·simp only[h,if_false]<;>omega
theorem zFw (its:List Value) (lo hi:Option Int):slicePick its.toArray lo hi none=((its.drop (HT.sIx its.length 0 lo)).take (HT.sIx its.length its.length hi - HT.sIx its.length 0 lo)).toArray:=by
 obtain⟨h1,h2,h3⟩:=zGe lo hi its.toArray.size;unfold slicePick;rw[h1,h2,h3];simp only[sliceRange_one,pick_run,List.size_toArray]<;>rfl
noncomputable def rSlL (K:W.Frag):V->Option Int->Option Int->Hp->VK->Prop:=λ x lo hi H Q=>∃a xs,x = .ref a/\SqL K H a xs/\∀p,H p=none->Q (.ref p) (upd H p (.lst (cutV xs lo hi)))
theorem zHF:SlR X (rSlL X.K):=by
 intro jP s σ H x v vl vu lo hi sl Q I rx hs pl pu h;obtain⟨a,xs,rfl,hx,q⟩:=h;cases rx;obtain⟨its,r,ht,hz⟩:=I.list hx;have hlen:=r.length;refine⟨"list", _,slot_list_getitem.lookup,ht.isList.typeIs,?_⟩;refine wpAny_getItem_list_slice ht.isList hs pl pu .none (by simp) ?_ (by rw[List.size_toArray]<;>omega);rw[zFw,←hlen];refine⟨.ref s.heap.objs.size,_,I.laid (t':=s.toks) (o:=.lst (cutV xs lo hi)) (λ b ob q=>lG _ q) (lS _) ?_,rfl,q _ (I.hok.fresh (lS _))⟩;exact⟨mI (zFD xs lo hi) hz,_,0,(r.drop (HT.sIx xs.length 0 lo)).take (HT.sIx xs.length xs.length hi - HT.sIx xs.length 0 lo),lH _ rfl⟩
noncomputable def flatV:V->Bool
 |.non=>true
 |.bl _=>true
 |.int _=>true
 |.str _=>true
 |_=>false
noncomputable def eqV:V->V->Bool
 |.non,.non=>true
 |.bl a,.bl b=>a == b
 |.bl a,.int b=>(if a then 1 else 0) == b
 |.int a,.bl b=>a == (if b then 1 else 0)
 |.int a,.int b=>a == b
 |.str a,.str b=>a == b
 |_,_=>false
theorem zOP {A:Around}{s:Shared}{y x:V}{u v:Value}(ry:RelV y u) (rx:RelV x v) (fy:flatV y=true) (fx:flatV x=true):SeqAt.EqAt A s u v (eqV y x):=by
 cases y with
 |non =>
  cases ry;cases x with
  |non=>cases rx;exact SeqAt.EqAt.same _
  |bl b=>cases rx;exact SeqAt.EqAt.none_bool b
  |int b=>obtain⟨t,rfl⟩:=rx;exact SeqAt.EqAt.none_int b t
  |str b=>obtain⟨t,rfl⟩:=rx;exact SeqAt.EqAt.none_str b t
  |_=>exact absurd (show false=true from fx) lY
 |bl a =>
  cases ry;cases x with
  |non=>cases rx;exact SeqAt.EqAt.bool_none a
  |bl b=>cases rx;exact SeqAt.EqAt.bool_bool a b
  |int b=>obtain⟨t,rfl⟩:=rx;exact SeqAt.EqAt.bool_int a b t
  |str b=>obtain⟨t,rfl⟩:=rx;exact SeqAt.EqAt.bool_str a b t
  |_=>exact absurd (show false=true from fx) lY
 |int a =>
  obtain⟨t',rfl⟩:=ry;cases x with
  |non=>cases rx;exact SeqAt.EqAt.int_none a t'
  |bl b=>cases rx;exact SeqAt.EqAt.int_bool a t' b
  |int b=>obtain⟨t,rfl⟩:=rx;exact SeqAt.EqAt.int_int a t' b t
  |str b=>obtain⟨t,rfl⟩:=rx;exact SeqAt.EqAt.int_str a t' b t
  |_=>exact absurd (show false=true from fx) lY
 |str a =>
  obtain⟨t',rfl⟩:=ry;cases x with
  |non=>cases rx;exact SeqAt.EqAt.str_none a t'
  |bl b=>cases rx;exact SeqAt.EqAt.str_bool a t' b
  |int b=>obtain⟨t,rfl⟩:=rx;exact SeqAt.EqAt.str_int a t' b t
  |str b=>obtain⟨t,rfl⟩:=rx;exact SeqAt.EqAt.str_str a t' b t
  |_=>exact absurd (show false=true from fx) lY
 |_=>exact absurd (show false=true from fy) lY
noncomputable def eqU (x:V) (u:Value):Bool:=match u with
 |.none=>eqV .non x
 |.bool b=>eqV (.bl b) x
 |.int i _=>eqV (.int i) x
 |.str z _=>eqV (.str z) x
 |_=>false
theorem zMb {x y:V}{u:Value}(r:RelV y u) (f:flatV y=true):eqU x u=eqV y x:=by
 cases y with
 |non=>cases r;rfl
 |bl b=>cases r;rfl
 |int i=>obtain⟨t,rfl⟩:=r;rfl
 |str z=>obtain⟨t,rfl⟩:=r;rfl
 |_=>exact absurd (show false=true from f) lY
theorem zFH {x:V}{xs:List V}{us:List Value}(h:Vals xs us):xs.all flatV=true->us.any (eqU x)=xs.any λ y=>eqV y x:=by
 induction h with
 |nil=>exact λ U=>rfl
 |cons r t ih=>intro f;rw[List.all_cons,Bool.and_eq_true] at f;rw[List.any_cons,List.any_cons,zMb r f.1,ih f.2]
theorem zDz {A:Around}{s:Shared}{x:V}{v:Value}(rx:RelV x v) (fx:flatV x=true){xs:List V}{us:List Value}(z:Vals xs us):xs.all flatV=true->∀u∈us,SeqAt.EqAt A s u v (eqU x u):=by
 induction z with
 |nil=>exact λ U u hu=>nomatch hu
 |cons r t ih =>
  intro f u' hu;rw[List.all_cons,Bool.and_eq_true] at f;rcases lP.mp hu with rfl|hu
  ·rw[zMb r f.1];exact zOP r rx f.1 fx
  ·exact ih f.2 u' hu
noncomputable def inV (x:V) (xs:List V):Bool:=xs.any λ y=>eqV y x
noncomputable def rIn (K:W.Frag) (neg:Bool):R2:=λ x y H Q=>∃p xs,y = .ref p/\(SqL K H p xs\/SqT K H p xs)/\flatV x=true/\xs.all flatV=true/\Q (.bl (if neg then !inV x xs else inV x xs)) H
theorem zB1:OpR X (compareOp .In) (rIn X.K false):=by
 intro jP s σ H x y v u Q I rx ry h;obtain⟨p,xs,rfl,hq,fx,fs,q⟩:=h;cases ry;rcases hq with hq|hq
 ·obtain⟨its,r,pl,hz⟩:=I.list hq
  refine SeqAt.in_listAt (eqU x) pl.isList (λ w hw=>zDz rx fx r fs w (by simpa using hw)) ⟨.bl _,H,I,rfl,?_⟩;rw[show its.toArray.any (eqU x)=its.any (eqU x) by simp,zFH r fs];exact q
 ·obtain⟨its,r,pl,hz⟩:=I.tuple hq
  refine SeqAt.in_tupleAt (eqU x) pl (λ w hw=>zDz rx fx r fs w (by simpa using hw)) ⟨.bl _,H,I,rfl,?_⟩;rw[show its.toArray.any (eqU x)=its.any (eqU x) by simp,zFH r fs];exact q
theorem zC5:OpR X (compareOp .NotIn) (rIn X.K true):=by
 intro jP s σ H x y v u Q I rx ry h;obtain⟨p,xs,rfl,hq,fx,fs,q⟩:=h;cases ry;rcases hq with hq|hq
 ·obtain⟨its,r,pl,hz⟩:=I.list hq
  refine SeqAt.notIn_listAt (eqU x) pl.isList (λ w hw=>zDz rx fx r fs w (by simpa using hw)) ⟨.bl _,H,I,rfl,?_⟩;rw[show its.toArray.any (eqU x)=its.any (eqU x) by simp,zFH r fs];exact q
 ·obtain⟨its,r,pl,hz⟩:=I.tuple hq
  refine SeqAt.notIn_tupleAt (eqU x) pl (λ w hw=>zDz rx fx r fs w (by simpa using hw)) ⟨.bl _,H,I,rfl,?_⟩;rw[show its.toArray.any (eqU x)=its.any (eqU x) by simp,zFH r fs];exact q
theorem zAa:CallR X (.builtin "len") (λ xs H Q=>∃p ys,xs=[.ref p]/\(SqL X.K H p ys\/SqT X.K H p ys)/\Q (.int ys.length) H):=by
 intro jP s σ H xs us Q I r h;obtain⟨p,ys,rfl,hq,q⟩:=h;obtain⟨u,rfl,rx⟩:=vals1 r;cases rx;have hn:=zFd;rcases hq with hq|hq
 ·obtain⟨its,r',pl,hz⟩:=I.list hq
  have hlen:=r'.length;exact Calls.call_len_list pl.isList (by simp only[List.size_toArray]<;>omega) ⟨.int ys.length,H,I.tok _,⟨s.toks+1,by rw[List.size_toArray,hlen]⟩,q⟩
 ·obtain⟨its,r',pl,hz⟩:=I.tuple hq
  have hlen:=r'.length;exact len_tuple pl (by simp only[List.size_toArray]<;>omega) ⟨.int ys.length,H,I.tok _,⟨s.toks+1,by rw[List.size_toArray,hlen]⟩,q⟩
noncomputable def tyV (K:W.Frag) (T:String) (x:V) (H:Hp):Prop:=match x with
 |.str _=>T = "str"
 |.int _=>T = "int"
 |.ref p=>(T = "list" /\ ∃xs,SqL K H p xs)\/(T = "tuple" /\ ∃o,K.lookup p=some o/\o.cls = .type "tuple" /\ o.dict=none) \/
   (T = "dict" /\ ((∃kvs,H p=some (.dK kvs))\/∃kvs,H p=some (.dT kvs)))\/(T = "set" /\ ∃S n,H p=some (.set S n))
 |_=>False
theorem zNd {jP:List (Addr × Obj)}{σ:St}{H:Hp}{s:Shared}{T:String}{x:V}{v:Value}(I:Inv X jP σ H s) (r:RelV x v) (ty:tyV X.K T x H) :
  s.TypeIs v T/\∀a,v = .ref a->∃ob,s.heap.get? a=some ob/\ob.dict=none:=by
 cases x with
 |str z =>
  obtain⟨t,rfl⟩:=r;cases (show T = "str" from ty);exact⟨typeIs_str s z t,λ U e=>nomatch e⟩
 |int i =>
  obtain⟨t,rfl⟩:=r;cases (show T = "int" from ty);exact⟨typeIs_int s i t,λ U e=>nomatch e⟩
 |ref p =>
  cases r;rcases ty with ⟨rfl,xs,hq⟩|⟨rfl,o,hk,hc,hd⟩|⟨rfl,hk⟩|⟨rfl,S,n,hk⟩
  ·obtain⟨its,_,pl,_⟩:=I.list hq
   refine⟨pl.isList.typeIs,λ a e=>?_⟩;cases e;obtain⟨o,n,e,c,hd,_⟩:=pl;exact⟨o,e,hd⟩
  ·refine⟨⟨o,I.kIn p o hk,hc⟩,λ a e=>?_⟩
   cases e;exact⟨o,I.kIn _ o hk,hd⟩
  ·have z:∃o,s.heap.get? p=some o/\o.ExactDict:=by
    rcases hk with ⟨kvs,hk⟩|⟨kvs,hk⟩
    ·obtain⟨_,_,_,_,o,_,_,e,ex,_⟩:=I.hok p _ hk
     exact⟨o,e,ex⟩
    ·obtain⟨_,_,_,_,o,_,_,e,ex,_⟩:=I.hok p _ hk
     exact⟨o,e,ex⟩
   obtain⟨o,e,ex⟩:=z;refine⟨⟨o,e,ex.1⟩,λ a e2=>?_⟩;cases e2;exact⟨o,e,ex.2.1⟩
  ·obtain⟨o,_,_,_,e,ex,_⟩:=I.hok p _ hk
   refine⟨⟨o,e,ex.1⟩,λ a e2=>?_⟩;cases e2;exact⟨o,e,ex.2.1⟩
 |_=>exact False.elim ty
noncomputable def tBM (K:W.Frag) (T:String) (r:V->List V->Hp->VK->Prop) (to:TE) (t:TA):TE:=λ σ H Q=>to σ H λ x H1=>tyV K T x H1/\t σ H1 λ xs H2=>r x xs H2 Q
variable {o e:Expr}{es:List Expr}{to:TE}{t:TA}{name:Str}{apos cpos:Pos}{T id:String}{r:V->List V->Hp->VK->Prop}
theorem pe_bm (pa:PlainAttrs T) (slot:Slot T name id) (hty:typeOf (.builtin id)=pure (.type "method_descriptor")) (hm:MtR X id r) (ho:PE X o to) (ha:PA X (e::es) t)
  (hbase:attributeBase o name X.env (eval o X.env)=eval o X.env:=by rfl)
  (hfew:((backTo cpos (starEach (e::es) X.env)).all (λ x=>!x.1) && (backToKw cpos (keywordEach [] X.env)).all (λ x=>x.1.isSome)
   && decide ((e::es).length+([]:List Keyword).length+(if ([]:List Keyword).isEmpty then 0 else 1)<30))=true:=by rfl)
  (hline:(apos.endLine == cpos.line)=true:=by rfl) (hs:starEach (e::es) X.env=(false,eval e X.env)::starEach es X.env:=by rfl) (hplain:(backTo cpos (starEach es X.env)).any (·.1)=false:=by rfl) :
  PE X (.Call (.Attribute o name apos) (e::es) [] cpos) (tBM X.K T r to t):=by
 intro jP s σ H Q I h;refine wpAny_Call_method_late hbase hfew hline rfl (thn (ho jP s σ H _ I h) λ v s1 ⟨x,H1,I1,r1,ty,q1⟩=>?_);obtain⟨h1,h2⟩:=zNd I1 r1 ty;refine⟨T,id,pa,slot,hty,h1,h2,?_⟩;have hA:=ha cpos jP s1 σ H1 _ I1 q1;rw[hs] at hA ⊢;refine Calls.callWith_builtin (by show (false || (backTo cpos (starEach es X.env)).any (·.1))=false;rw[hplain]<;>rfl) (Calls.evalArgs_plain ?_);exact thn hA λ us s2 ⟨vs,H2,I2,r2,q2⟩=>hm jP s2 σ H2 x vs v us Q I2 r1 r2 q2
end
noncomputable def MtM (X:Cx) (id:String) (r:V->List V->Hp->VK->Prop):Prop :=
 ∀(jP:List (Addr × Obj)) (s:Shared) (σ:St) (H:Hp) (x:V) (xs:List V) (v:Value) (us:List Value) (Q:VK),Inv X jP σ H s->RelV x v->Vals xs us->r x xs H Q ->
  wpAny (model X.prog X.w) X.A (call (.builtin id) (v::us)) (EP X jP σ Q) X.xe s
theorem Vals.one {x:V}{us:List Value}(h:Vals [x] us):∃u,us=[u]/\RelV x u:=by
 cases h with|cons r t=>cases t;exact⟨_,rfl,r⟩
section
variable {X:Cx}{jP:List (Addr × Obj)}{σ:St}{H:Hp}{s:Shared}{l b:Addr}{xs ys zs:List V}
theorem Inv.lset {its its':List Value}{n:Nat}{f:Array Value->Array Value}{t':Nat}(I:Inv X jP σ H s) (hH:H l=some (.lst xs))
  (e:s.heap.get? l=some { cls:=.type "list", data:=.seq its.toArray n }) (hf:f its.toArray=its'.toArray) (hv:Vals ys its') (hz:ys.length<=sizeLine) :
  Inv X jP σ (upd H l (.lst ys)) { s with heap:=s.heap.update l (Obj.mapSeq f),toks:=t' }:=by
 have q:=PySem.IsL.update e f;rw[hf] at q;refine I.write (x:=l) (e:=l) (by rw[hH];exact trivial) (.inl rfl) (λ b' u hb hu=>(Heap.get?_update_other s.heap (Obj.mapSeq f) (Ne.symm hb)).trans hu) ⟨_,q⟩ ?_;exact⟨hz,its',_,hv,q⟩
theorem Inv.lnew {its:List Value}{t':Nat}(I:Inv X jP σ H s) (hv:Vals ys its) (hz:ys.length<=sizeLine) :
  Inv X jP σ (upd H s.heap.objs.size (.lst ys)) { s with heap:=s.heap.push { cls:=.type "list", data:=.seq its.toArray },toks:=t' } :=
 I.laid (λ U U q=>lG _ q) (lS _) ⟨hz,its,0,hv,lH _ rfl⟩
theorem Inv.fresh (I:Inv X jP σ H s):H s.heap.objs.size=none:=I.hok.fresh (lS _)
theorem Inv.lstM (I:Inv X jP σ H s) (hH:H l=some (.lst xs)):xs.length<=sizeLine/\∃(its:List Value) (n:Nat),Vals xs its/\xs.length=its.length/\s.heap.get? l=some { cls:=.type "list", data:=.seq its.toArray n }:=by
 obtain⟨z,its,n,r,e⟩:=I.hok l _ hH;exact⟨z,its,n,r,r.length,e⟩
theorem zIH {n:Nat}(h:n<=sizeLine):Builtin.List.listTooLong n=false:=by
 unfold Builtin.List.listTooLong;exact decide_eq_false (by omega)
end
section
variable {X:Cx}
noncomputable def zMr:V->List V->Hp->VK->Prop:=λ x vs H Q=>∃l xs y,x = .ref l/\vs=[y]/\H l=some (.lst xs)/\xs.length<sizeLine/\Q .non (upd H l (.lst (xs++[y])))
theorem zA8:MtM X "list.append" zMr:=by
 intro jP s σ H x vs v us Q I rx rv h;obtain⟨l,xs,y,rfl,rfl,hH,hz,q⟩:=h;cases rx;obtain⟨u,rfl,ru⟩:=rv.one;obtain⟨z,its,n,r,hl,e⟩:=I.lstM hH;refine call_meets F.slot_list_append ⟨_,e,rfl⟩ F.entry_list_append (F.args_list_append_2 _ _) (PySem.list_append l its.toArray n u (by rw[List.size_toArray];omega)) ⟨e,?_⟩;refine⟨.non,_,I.lset (its':=its++[u]) hH e (by simp) (r.append (.cons ru .nil)) ?_,rfl,q⟩;rw[List.length_append,List.length_singleton];omega
noncomputable def zMq:V->List V->Hp->VK->Prop:=λ x vs H Q=>∃l b xs zs,x = .ref l/\vs=[.ref b]/\H l=some (.lst xs)/\H b=some (.lst zs)/\xs.length+zs.length<=sizeLine/\Q .non (upd H l (.lst (xs++zs)))
theorem zB2:MtM X "list.extend" zMq:=by
 intro jP s σ H x vs v us Q I rx rv h;obtain⟨l,b,xs,zs,rfl,rfl,hH,hB,hz,q⟩:=h;cases rx;obtain⟨u,rfl,ru⟩:=rv.one;cases ru;obtain⟨z,its,n,r,hl,e⟩:=I.lstM hH;obtain⟨z2,its2,n2,r2,hl2,e2⟩:=I.lstM hB;have hsz:its.toArray.size+its2.toArray.size<=sizeLine:=by rw[List.size_toArray,List.size_toArray];omega
 have hlong:¬(!its.toArray.isEmpty && Builtin.List.listTooLong (its.toArray.size+its2.toArray.size))=true:=by
  rw[zIH hsz,Bool.and_false];exact lY
 refine call_meets F.slot_list_extend ⟨_,e,rfl⟩ F.entry_list_extend (F.args_list_extend_2 _ _)
  (AutoSeq1.list_extend_list_list_0 l its.toArray n b its2.toArray n2 hlong (by rw[List.size_toArray];omega) (by omega)) ⟨e,e2,?_⟩
 refine⟨.non,_,I.lset (its':=its++its2) hH e (by simp) (r.append r2) ?_,rfl,q⟩;rw[List.length_append];omega
noncomputable def rCat:R2:=λ x y H Q=>∃l b xs zs,x = .ref l/\y = .ref b/\H l=some (.lst xs)/\H b=some (.lst zs)/\xs.length+zs.length<=sizeLine/\∀p,H p=none->Q (.ref p) (upd H p (.lst (xs++zs)))
theorem zDw:OpR X (binaryOp .Add) rCat:=by
 intro jP s σ H x y v u Q I rx ry h;obtain⟨l,b,xs,zs,rfl,rfl,hH,hB,hz,q⟩:=h;cases rx;cases ry;obtain⟨z,its,n,r,hl,e⟩:=I.lstM hH;obtain⟨z2,its2,n2,r2,hl2,e2⟩:=I.lstM hB;refine PySem.P.add_list e e2 ?_ (by rw[List.size_toArray,List.size_toArray];omega);have ea:its.toArray++its2.toArray=(its++its2).toArray:=by simp
 rw[ea];exact⟨.ref _,_,I.lnew (t':=s.toks) (r.append r2) (by rw[List.length_append];omega),rfl,q _ I.fresh⟩
end
section
variable {prog:Program}{w:World}{A:Around}{E:Value->Shared->Prop}{s:Shared}
end
section
variable {X:Cx}
end
section
variable {κ:Type} [DecidableEq κ]
noncomputable def valV (kvs:List (κ × V)) (k:κ):Option V:=(kvs.find? λ kv=>decide (kv.1=k)).map (·.2)
noncomputable def putK (kvs:List (κ × V)) (k:κ) (v:V):List (κ × V) :=
 if (kvs.any λ kv=>decide (kv.1=k))=true then kvs.map (λ kv=>if kv.1=k then (kv.1,v) else kv) else kvs++[(k,v)]
theorem zBD {p:κ × V}{r:List (κ × V)}{k:κ}(e:p.1=k):valV (p::r) k=some p.2:=by simp[valV,List.find?_cons,e]
theorem zBE {p:κ × V}{r:List (κ × V)}{k:κ}(e:¬p.1=k):valV (p::r) k=valV r k:=by simp[valV,List.find?_cons,e]
theorem zDC (k:κ):∀kvs:List (κ × V),(kvs.any λ kv=>decide (kv.1=k))=(valV kvs k).isSome
 |[]=>rfl
 |p::r=>by
  rw[List.any_cons]
  by_cases e:p.1=k
  ·simp only[zBD e,decide_eq_true e,Bool.true_or,Option.isSome_some]
  ·rw[zBE e,decide_eq_false e,Bool.false_or];exact zDC k r
theorem zHn (k j:κ) (y:V):∀kvs:List (κ × V),valV (kvs.map λ kv=>if kv.1=k then (kv.1,y) else kv) j=(valV kvs j).map λ x=>if j=k then y else x
 |[]=>rfl
 |p::r=>by
  have ih:=zHn k j y r;rw[List.map_cons]
  by_cases h:p.1=k
  ·rw[if_pos h]
   by_cases e:p.1=j
   ·rw[zBD (p:=(p.1,y)) e,zBD e,Option.map_some,if_pos (e.symm.trans h)]
   ·rw[zBE (p:=(p.1,y)) e,zBE e,ih]
  ·rw[if_neg h]
   by_cases e:p.1=j
   ·rw[zBD (p:=p) e,zBD e,Option.map_some,if_neg (λ z=>h (e.trans z))]
   ·rw[zBE (p:=p) e,zBE e,ih]
theorem zGQ (k j:κ) (y:V):∀kvs:List (κ × V),valV kvs k=none->valV (kvs++[(k,y)]) j=if j=k then some y else valV kvs j
 |[],_=>by
  by_cases e:k=j
  ·rw[if_pos e.symm];exact zBD (p:=(k,y)) e
  ·rw[if_neg (λ z=>e z.symm)];exact zBE (p:=(k,y)) e
 |p::r,hn=>by
  rw[List.cons_append];have hk:¬p.1=k:=λ z=>by rw[zBD z] at hn;cases hn
  rw[zBE hk] at hn;have ih:=zGQ k j y r hn
  by_cases e:p.1=j
  ·rw[zBD e,zBD e,if_neg (λ z=>hk (e.trans z))]
  ·rw[zBE e,zBE e,ih]
theorem zDB (kvs:List (κ × V)) (k j:κ) (y:V):valV (putK kvs k y) j=if j=k then some y else valV kvs j:=by
 unfold putK
 by_cases a:(kvs.any λ kv=>decide (kv.1=k))=true
 ·rw[if_pos a,zHn]
  rw[zDC] at a
  by_cases e:j=k
  ·obtain⟨x,hx⟩:=Option.isSome_iff_exists.mp a
   rw[if_pos e,e,hx,Option.map_some,if_pos rfl]
  ·rw[if_neg e]
   cases valV kvs j with
   |none=>rfl
   |some x=>rw[Option.map_some,if_neg e]
 ·rw[if_neg a]
  refine zGQ k j y kvs ?_;rw[zDC] at a;cases q:valV kvs k with
  |none=>rfl
  |some x=>rw[q] at a;exact(a rfl).elim
theorem zAx (kvs:List (κ × V)) (k:κ) (v:V):(putK kvs k v).length<=kvs.length+1:=by
 unfold putK;split
 ·rw[List.length_map];omega
 ·rw[List.length_append,List.length_cons,List.length_nil];omega
theorem zCh {kvs:List (κ × V)}{k:κ}(v:V) (h:valV kvs k=none):putK kvs k v=kvs++[(k,v)]:=by
 unfold putK;rw[zDC,h];exact if_neg (by decide)
theorem RelO.isSome_eq {o:Option V}{u:Option Value}(r:RelO o u):o.isSome=u.isSome:=by
 cases o with
 |none=>cases u with
  |none=>rfl
  |some _=>exact(show False from r).elim
 |some _=>cases u with
  |none=>exact(show False from r).elim
  |some _=>rfl
theorem RelO.getD {o:Option V}{u:Option Value}{d:V}{d':Value}(r:RelO o u) (rd:RelV d d'):RelV (o.getD d) (u.getD d'):=by
 cases o with
 |none=>cases u with
  |none=>exact rd
  |some _=>exact(show False from r).elim
 |some _=>cases u with
  |none=>exact(show False from r).elim
  |some _=>exact r
theorem KV.val {kvs:List (κ × V)}{vs:List (κ × Value)}(r:KV kvs vs) (k:κ):RelO (valV kvs k) (valueAt vs k):=by
 unfold KV at r
 induction r with
 |nil=>exact True.intro
 | @cons p q ps qs h t ih =>
  obtain⟨h1,h2⟩:=h
  by_cases e:p.1=k
  ·have e':q.1=k:=h1.symm.trans e
   have b:valueAt (q::qs) k=some q.2:=by simp[valueAt,List.find?_cons,e']
   rw[zBD e,b];exact h2
  ·have e':¬q.1=k:=λ z=>e (h1.trans z)
   have b:valueAt (q::qs) k=valueAt qs k:=by simp[valueAt,List.find?_cons,e']
   rw[zBE e,b];exact ih
theorem KV.any {kvs:List (κ × V)}{vs:List (κ × Value)}(r:KV kvs vs) (k:κ):(kvs.any λ kv=>decide (kv.1=k))=vs.any λ kv=>decide (kv.1=k):=by
 unfold KV at r
 induction r with
 |nil=>rfl
 |cons h t ih=>rw[List.any_cons,List.any_cons,ih,h.1]
theorem KV.repl {kvs:List (κ × V)}{vs:List (κ × Value)}(r:KV kvs vs) (k:κ) {y:V}{u:Value}(ry:RelV y u) :
  KV (kvs.map λ kv=>if kv.1=k then (kv.1,y) else kv) (vs.map λ kv=>if kv.1=k then (kv.1,u) else kv):=by
 unfold KV at r ⊢
 induction r with
 |nil=>exact .nil
 | @cons p q ps qs h t ih =>
  rw[List.map_cons,List.map_cons];refine .cons ?_ ih;obtain⟨h1,h2⟩:=h
  by_cases e:p.1=k
  ·rw[if_pos e,if_pos (h1.symm.trans e)];exact⟨h1,ry⟩
  ·rw[if_neg e,if_neg (λ z=>e (h1.trans z))];exact⟨h1,h2⟩
theorem KV.put {kvs:List (κ × V)}{vs:List (κ × Value)}(r:KV kvs vs) (k:κ) {y:V}{u:Value}(ry:RelV y u):KV (putK kvs k y) (stored vs k u):=by
 unfold putK stored;rw[r.any k]
 by_cases e:(vs.any λ kv=>decide (kv.1=k))=true
 ·rw[if_pos e,if_pos e];exact r.repl k ry
 ·rw[if_neg e,if_neg e];exact Paired.snoc r ⟨rfl,ry⟩
theorem KV.length {kvs:List (κ × V)}{vs:List (κ × Value)}(r:KV kvs vs):kvs.length=vs.length:=Paired.length r
end
theorem kV_is {P:Program}{w:World}{k:Key}{u:Value}(r:RelV (kV k) u):(zAg P w).is k u=true:=by
 cases k with
 |inl i=>obtain⟨t,e⟩:=(show ∃t,u=Value.int i t from r);subst e;exact zHc P w i t
 |inr x=>obtain⟨t,e⟩:=(show ∃t,u=Value.str x t from r);subst e;exact zHb P w x t
theorem zGq {P:Program}{w:World}:∀{ks:List Key}{us:List Value},Vals (ks.map kV) us->ItemsAre (zAg P w) ks us
 |[],_,r=>by rw[List.map_nil] at r;cases r;exact .nil
 |k::ks,_,r=>by
  rw[List.map_cons] at r;cases r with
  |cons h t=>exact .cons (kV_is h) (zGq t)
abbrev KT (H:Hp):List (List Key × V)->List (List Key × Addr × Value)->Prop:=Paired λ p q=>p.1=q.1/\H q.2.1=some (.tup (p.1.map kV))/\RelV p.2 q.2.2
theorem KT.val {H:Hp}{kvs:List (List Key × V)}{xs:List (List Key × Addr × Value)}(r:KT H kvs xs) (k:List Key):RelO (valV kvs k) ((atKey xs k).map (·.2)):=by
 induction r with
 |nil=>exact True.intro
 | @cons p q ps qs h t ih =>
  obtain⟨h1,_,h2⟩:=h
  by_cases e:p.1=k
  ·have e':q.1=k:=h1.symm.trans e
   have b:atKey (q::qs) k=some q.2:=by simp[atKey,List.find?_cons,e']
   rw[zBD e,b];exact h2
  ·have e':¬q.1=k:=λ z=>e (h1.trans z)
   have b:atKey (q::qs) k=atKey qs k:=by simp[atKey,List.find?_cons,e']
   rw[zBE e,b];exact ih
theorem KT.repl {H:Hp}{kvs:List (List Key × V)}{xs:List (List Key × Addr × Value)}(r:KT H kvs xs) (k:List Key) {y:V}{u:Value}(ry:RelV y u) :
  KT H (kvs.map λ kv=>if kv.1=k then (kv.1,y) else kv) (xs.map (putAt k u)):=by
 induction r with
 |nil=>exact .nil
 | @cons p q ps qs h t ih =>
  rw[List.map_cons,List.map_cons];refine .cons ?_ ih;obtain⟨h1,h2,h3⟩:=h;unfold putAt
  by_cases e:p.1=k
  ·rw[if_pos e,if_pos (h1.symm.trans e)];exact⟨h1,h2,ry⟩
  ·rw[if_neg e,if_neg (λ z=>e (h1.trans z))];exact⟨h1,h2,h3⟩
theorem KT.put {H:Hp}{kvs:List (List Key × V)}{xs:List (List Key × Addr × Value)}(r:KT H kvs xs) (k:List Key) {b:Addr}{y:V}{u:Value}(hb:H b=some (.tup (k.map kV))) (ry:RelV y u) :
  KT H (putK kvs k y) (storedH xs k b u):=by
 have e:(kvs.any λ kv=>decide (kv.1=k))=(atKey xs k).isSome:=by
  rw[zDC,(r.val k).isSome_eq,Option.isSome_map]
 unfold putK storedH;rw[e]
 by_cases q:(atKey xs k).isSome=true
 ·rw[if_pos q,if_pos q];exact r.repl k ry
 ·rw[if_neg q,if_neg q];exact Paired.snoc r ⟨rfl,hb,ry⟩
theorem KT.keeps {H H':Hp}{kvs:List (List Key × V)}{xs:List (List Key × Addr × Value)}(r:KT H kvs xs) (ht:∀b ys,H b=some (.tup ys)->H' b=some (.tup ys)):KT H' kvs xs :=
 Paired.mapP r λ U U z=>⟨z.1,ht _ _ z.2.1,z.2.2⟩
section
variable {P:Program}{w:World}{H:Hp}{h:Heap}{a:Addr}
theorem rd_of {u:HO}(ok:HOk P w H h) (e:Rd H a u):ObjOk P w H h a u:=e.ok ok
theorem dk_rd {kvs:List (Key × V)}(ok:HOk P w H h) (e:Rd H a (.dK kvs)):kvs.length<=sizeLine/\(a == sysModules)=false/\∃vs,KV kvs vs/\h.DictOf (zAg P w) a vs :=
 show ObjOk P w H h a (.dK kvs) from rd_of ok e
theorem dk_of {kvs:List (Key × V)}(ok:HOk P w H h) (e:H a=some (.dK kvs)):kvs.length<=sizeLine/\(a == sysModules)=false/\∃vs,KV kvs vs/\h.DictOf (zAg P w) a vs:=dk_rd ok (.inl e)
theorem zE4 {ks:List Key}(ok:HOk P w H h) (e:H a=some (.tup (ks.map kV))):(tupleKind (zAg P w)).is h ks a:=by
 obtain⟨_,its,r,o,h1,h2,n,h3⟩:=(show ObjOk P w H h a (.tup (ks.map kV)) from ok a _ e);exact⟨o,its.toArray,n,h1,h2,h3,by simpa using zGq r⟩
theorem dt_rd {kvs:List (List Key × V)}(ok:HOk P w H h) (e:Rd H a (.dT kvs)):kvs.length<=sizeLine/\(a == sysModules)=false /\
  ∃xs,KT H kvs xs/\h.DictOfH (tupleKind (zAg P w)) a xs:=by
 obtain⟨z,y,xs,r,o,es,ep,h1,h2,h3,h4,h5⟩:=(show ObjOk P w H h a (.dT kvs) from rd_of ok e);refine⟨z,y,xs,r,o,es,ep,h1,h2,h3,h4,λ x hx=>?_,h5⟩
 have all:∀{l:List (List Key × V)}{m:List (List Key × Addr × Value)},KT H l m->∀x∈m,(tupleKind (zAg P w)).is h x.1 x.2.1:=by
  intro l m q
  induction q with
  |nil=>intro x hx;exact nomatch hx
  | @cons p q ps qs hq t ih =>
   intro x hx;rcases lP.mp hx with e|hx
   ·subst e
    exact zE4 ok (by rw[←hq.1];exact hq.2.1)
   ·exact ih x hx
 exact all r x hx
theorem dt_of {kvs:List (List Key × V)}(ok:HOk P w H h) (e:H a=some (.dT kvs)):kvs.length<=sizeLine/\(a == sysModules)=false /\
  ∃xs,KT H kvs xs/\h.DictOfH (tupleKind (zAg P w)) a xs:=dt_rd ok (.inl e)
end
noncomputable def DGet (H:Hp) (a:Addr) (y:V) (r:Option V):Prop :=
 (∃kvs k,Rd H a (.dK kvs)/\y=kV k/\r=valV kvs k)\/∃kvs k b,Rd H a (.dT kvs)/\y = .ref b/\H b=some (.tup (k.map kV))/\r=valV kvs k
noncomputable def DPut (H:Hp) (a:Addr) (y v:V) (H':Hp):Prop :=
 (∃kvs k,H a=some (.dK kvs)/\y=kV k/\kvs.length<sizeLine/\H'=upd H a (.dK (putK kvs k v))) \/
 ∃kvs k b,H a=some (.dT kvs)/\y = .ref b/\H b=some (.tup (k.map kV))/\kvs.length<sizeLine/\H'=upd H a (.dT (putK kvs k v))
theorem DGet.k {H:Hp}{a:Addr}{kvs:List (Key × V)}{k:Key}(e:H a=some (.dK kvs)):DGet H a (kV k) (valV kvs k):=.inl ⟨kvs,k,.inl e,rfl,rfl⟩
theorem DPut.k {H:Hp}{a:Addr}{kvs:List (Key × V)}{k:Key}{v:V}(e:H a=some (.dK kvs)) (hl:kvs.length<sizeLine):DPut H a (kV k) v (upd H a (.dK (putK kvs k v))):=.inl ⟨kvs,k,e,rfl,hl,rfl⟩
section
variable {X:Cx}{jP:List (Addr × Obj)}{σ:St}{H:Hp}{s:Shared}{a:Addr}{y v:V}{u r:Value}{o:Option V}{A:Around}{E:Value->Shared->Prop}
theorem Inv.big (I:Inv X jP σ H s):sysModules<s.heap.objs.size:=by
 have h:mainGlobals<s.heap.objs.size:=(I.mod.glob.keeps I.bk).lt;exact Nat.lt_trans (by decide) h
theorem zKg {Q:Value->Shared->Prop}(hu:A.units+1<cLine) (I:Inv X jP σ H s) (g:DGet H a y (some v)) (ry:RelV y u) (h:∀w' s',Inv X jP σ H s'->RelV v w'->Q w' s') :
  wpAny (model X.prog X.w) A (getItem (.ref a) u) Q E s:=by
 rcases g with ⟨kvs,k,e,ey,l⟩|⟨kvs,k,b,e,ey,eb,l⟩
 ·subst ey
  obtain⟨z,hd,vs,rel,dd⟩:=dk_rd I.hok e;obtain⟨w',hw,rw'⟩:=RelO.some_of (v:=v) (o:=valueAt vs k) (by rw[l];exact rel.val k);exact wpAny_getItem_of (kV_is ry) dd.mapOf hw (h w' _ (I.tok _) rw')
 ·subst ey
  cases (show u=Value.ref b from ry);obtain⟨z,hd,xs,rel,dd⟩:=dt_rd I.hok e;obtain⟨w',hw,rw'⟩:=RelO.some_of (v:=v) (o:=(atKey xs k).map (·.2)) (by rw[l];exact rel.val k);obtain⟨p,hp,hp2⟩:=lW.mp hw;refine wpAny_getItem_heap (tupleKind_room_in1 hu) (zE4 I.hok eb) dd hp ?_;rw[hp2];exact h w' _ (I.tok _) rw'
theorem d_in {Q:Value->Shared->Prop}(hu:A.units+1<cLine) (I:Inv X jP σ H s) (g:DGet H a y o) (ry:RelV y u) (h:∀s',Inv X jP σ H s'->Q (.bool o.isSome) s') :
  wpAny (model X.prog X.w) A (compareOp .In u (.ref a)) Q E s:=by
 rcases g with ⟨kvs,k,e,ey,l⟩|⟨kvs,k,b,e,ey,eb,l⟩
 ·subst ey
  obtain⟨z,hd,vs,rel,dd⟩:=dk_rd I.hok e;refine wpAny_in_of (kV_is ry) hd dd.mapOf ?_;rw[←(rel.val k).isSome_eq,←l];exact h _ (I.tok _)
 ·subst ey
  cases (show u=Value.ref b from ry);obtain⟨z,hd,xs,rel,dd⟩:=dt_rd I.hok e;refine wpAny_in_heap (tupleKind_room_in1 hu) (zE4 I.hok eb) hd dd ?_;have q:=(rel.val k).isSome_eq;rw[Option.isSome_map] at q;rw[←q,←l];exact h _ (I.tok _)
theorem zNX {Q:Value->Shared->Prop}(hu:A.units+1<cLine) (I:Inv X jP σ H s) (g:DGet H a y o) (ry:RelV y u) (h:∀s',Inv X jP σ H s'->Q (.bool (!o.isSome)) s') :
  wpAny (model X.prog X.w) A (compareOp .NotIn u (.ref a)) Q E s:=by
 rcases g with ⟨kvs,k,e,ey,l⟩|⟨kvs,k,b,e,ey,eb,l⟩
 ·subst ey
  obtain⟨z,hd,vs,rel,dd⟩:=dk_rd I.hok e;refine wpAny_notIn_of (kV_is ry) hd dd.mapOf ?_;rw[←(rel.val k).isSome_eq,←l];exact h _ (I.tok _)
 ·subst ey
  cases (show u=Value.ref b from ry);obtain⟨z,hd,xs,rel,dd⟩:=dt_rd I.hok e;refine wpAny_notIn_heap (tupleKind_room_in1 hu) (zE4 I.hok eb) hd dd ?_;have q:=(rel.val k).isSome_eq;rw[Option.isSome_map] at q;rw[←q,←l];exact h _ (I.tok _)
theorem zFC {h':Heap}{t':Nat}{ob:HO}(I:Inv X jP σ H s) (mu:Mut (H a)) (hs:Heap.SameBut a s.heap h') (he:∃q,h'.get? a=some q) (new:ObjOk X.prog X.w (upd H a ob) h' a ob) :
  Inv X jP σ (upd H a ob) { s with heap:=h',toks:=t' } :=
 I.write (x:=a) (e:=a) mu (.inl rfl) (λ b q hb z=>(hs.2 b hb).trans z) he new
theorem zFj {P:Program}{w:World}{H':Hp}{h':Heap}{kvs:List (Key × V)}{vs:List (Key × Value)}(z:kvs.length<=sizeLine) (hd:(a == sysModules)=false) (rel:KV kvs vs) (dd:h'.DictOf (zAg P w) a vs) :
  ObjOk P w H' h' a (.dK kvs):=⟨z,hd,vs,rel,dd⟩
theorem zKf {H':Hp}{Q:Unit->Shared->Prop}(hu:A.units+1<cLine) (I:Inv X jP σ H s) (g:DPut H a y v H') (ry:RelV y u) (rv:RelV v r) (h:∀s',Inv X jP σ H' s'->Q () s') :
  wpAny (model X.prog X.w) A (setItem (.ref a) u r) Q E s:=by
 rcases g with ⟨kvs,k,e,ey,l,eH⟩|⟨kvs,k,b,e,ey,eb,l,eH⟩
 ·subst ey eH
  obtain⟨z,hd,vs,rel,dd⟩:=dk_of I.hok e;have hz:vs.length<=sizeLine:=by rw[←rel.length];exact z
  have hl:(putK kvs k v).length<=sizeLine:=by have:=zAx kvs k v;omega
  refine wpAny_setItem_pairs (hsz:=hz) (kV_is ry) dd λ h' dd' hs=>h _ ?_;have he:∃q,h'.get? a=some q:=let ⟨q,_,_,hq,_⟩:=dd';⟨q,hq⟩;exact zFC I (by rw[e];exact True.intro) hs he (zFj hl hd (rel.put k rv) dd')
 ·subst ey eH
  cases (show u=Value.ref b from ry);obtain⟨z,hd,xs,rel,dd⟩:=dt_of I.hok e;have hz:xs.length<=sizeLine:=by rw[←Paired.length rel];exact z
  have hl:(putK kvs k v).length<=sizeLine:=by have:=zAx kvs k v;omega
  refine wpAny_setItem_heap (hsz:=hz) (tupleKind_room_in1 hu) (zE4 I.hok eb) dd λ h' dd' hs=>h _ ?_;obtain⟨q,es,ep,hq,h2,h3,h4,_,h5⟩:=dd';refine zFC I (by rw[e];exact True.intro) hs ⟨q,hq⟩ ⟨hl,hd,_,(rel.put k eb rv).keeps λ c ys ec=>?_,q,es,ep,hq,h2,h3,h4,h5⟩;rw[zAW (ne_of ec e (λ z=>nomatch z))]
  exact ec
end
section
variable {X:Cx}{jP:List (Addr × Obj)}{σ:St}{H:Hp}{s:Shared}{a:Addr}{kvs:List (Key × V)}{k:Key}{u:Value}{A:Around}{E:Value->Shared->Prop}
end
noncomputable def NoSl (i:Expr):Prop:=∀ov iv,subscripted i false ov iv=operate [ov,iv] (getItem ov iv)
theorem zMl {prog:Program}{w:World}{A:Around}{E:Value->Shared->Prop}{s:Shared}{env:Env}{value slice:Expr}{pos:Pos}{T id:String}{Q:Value->Shared->Prop}
  (hl:typeLookup (.type T) "__getitem__" = pure (some (.builtin id))) (hs:NoSl slice)
  (h:wpAny (model prog w) A (eval value env) (λ o s₁=>wpAny (model prog w) A (eval slice env) (λ i s₂=>s₂.TypeIs o T/\wpAny (model prog w) A (getItem o i) Q E s₂) E s₁) E s) :
  wpAny (model prog w) A (eval (.Subscript value slice pos) env) Q E s:=by
 refine Subscript_ (wpAny_mono h (λ o s₁ h₁=>wpAny_mono h₁ (λ i s₂ h₂=>?_) λ U U x=>x) λ U U x=>x);obtain⟨hT,h₂⟩:=h₂;unfold subscriptTail;refine lA ?_;rw[getitemInPython_of_ne hT.not_modules];refine lA (wpAny_specialOf hT hl ?_)
 have fin:wpAny (model prog w) A (subscripted slice false o i) (λ r s₃=>wpAny (model prog w) A (letTemporaryGo value o r >>= λ U=>pure r) Q E s₃) E s₂:=by
  rw[hs o i];exact wpAny_operating (wpAny_mono h₂ (λ r s₃ h₃=>lA (wpAny_letTemporaryGo (lB h₃))) λ U U x=>x)
 first
  |exact lB (lA fin)
  |exact lA (lB (lA fin))
  |exact lA fin
theorem zHi {X:Cx}{jP:List (Addr × Obj)}{σ:St}{H:Hp}{s:Shared}{a:Addr}{y:V}{o:Option V}(I:Inv X jP σ H s) (g:DGet H a y o):s.TypeIs (.ref a) "dict" := by
 rcases g with ⟨kvs,k,e,_,_⟩|⟨kvs,k,b,e,_,_,_⟩
 ·obtain⟨_,_,vs,_,dd⟩:=dk_rd I.hok e
  exact dd.typeIs
 ·obtain⟨_,_,xs,_,dd⟩:=dt_rd I.hok e
  exact dd.typeIs
noncomputable def tDGet (td ty:TE):TE:=λ σ H Q=>td σ H λ x H1=>ty σ H1 λ y H2=>∃a v,x = .ref a/\DGet H2 a y (some v)/\Q v H2
noncomputable def sDPut (td ty tv:TE):TS:=λ D σ H=>tv σ H λ v H1=>td σ H1 λ x H2=>ty σ H2 λ y H3=>∃a H4,x = .ref a/\DPut H3 a y v H4/\D.nx σ H4
section
variable {X:Cx}{o i e value:Expr}{pos pos' tpos:Pos}{td ty tv:TE}
theorem zC4 (hu:X.A.units+1<cLine) (ho:PE X o td) (hi:PE X i ty) (hs:NoSl i):PE X (.Subscript o i pos) (tDGet td ty):=by
 intro jP s σ H Q I h;refine zMl PySem.F.slot_dict_getitem.lookup hs (thn (ho jP s σ H _ I h) λ u s1 ⟨x,H1,I1,rx,q1⟩=>thn (hi jP s1 σ H1 _ I1 q1) λ iv s2 ⟨y,H2,I2,ry,a,v,ex,g,q2⟩=>?_);subst ex;obtain rfl:u=Value.ref a:=rx;exact⟨zHi I2 g,zKg hu I2 g ry λ w' s3 I3 rw'=>⟨v,H2,I3,rw',q2⟩⟩
theorem zF1 (hu:X.A.units+1<cLine) (ho:PE X o td) (hi:PE X i ty) (hv:PE X value tv) (hs:swapsWith value (some (.Subscript o i pos')) pos.line X.env=pure false) :
  PS X (.Assign [.Subscript o i pos'] value pos) (sDPut td ty tv):=by
 intro jP s σ H D I h;refine wpAny_Assign_Subscript (thn (hv jP s σ H _ I h) λ r s1 ⟨v,H1,I1,rv,q1⟩=>thn (ho jP s1 σ H1 _ I1 q1) λ u s2 ⟨x,H2,I2,rx,q2⟩=>thn (hi jP s2 σ H2 _ I2 q2) λ iv s3 ⟨y,H3,I3,ry,a,H4,ex,g,q3⟩=>?_) hs;subst ex;obtain rfl:u=Value.ref a:=rx;exact zKf hu I3 g ry rv λ s4 I4=>⟨σ,H4,I4,q3⟩
end
theorem zIS {P:Program}{w:World}{H:Hp}(h:Heap) (hb:sysModules<h.objs.size):ObjOk P w H (h.push { cls:=.type "dict", data:=.dict #[] }) h.objs.size (.dK []) :=
 ⟨lZ _,beq_eq_false_iff_ne.mpr (Ne.symm (lT hb)),[],.nil,Heap.DictOf.new h⟩
noncomputable def zNh:TE:=λ U H Q=>∀p,H p=none->Q (.ref p) (upd H p (.dK []))
section
variable {X:Cx}{pos:Pos}
theorem zB8:PE X (.Dict [] [] pos) zNh:=λ jP s σ H Q I h =>
 wpAny_Dict_empty ⟨.ref s.heap.objs.size,_,I.laid (a:=s.heap.objs.size) (o:=.dK []) (t':=s.toks) (λ U U q=>lG _ q) (lS _) (zIS s.heap I.big),rfl,h _ (I.hok.fresh (lS _))⟩
end
noncomputable def zJE:List (TE × TE)->St->Hp->(List (V × V)->Hp->Prop)->Prop
 |[],_,H,Q=>Q [] H
 | (tk,tv)::r,σ,H,Q=>tk σ H λ x H1=>tv σ H1 λ y H2=>zJE r σ H2 λ ps H3=>Q ((x,y)::ps) H3
abbrev VV:List (V × V)->List (Value × Value)->Prop:=Paired λ p q=>RelV p.1 q.1/\RelV p.2 q.2
noncomputable def PPs (X:Cx) (pos:Pos) (keys:List (Option Expr)) (values:List Expr) (trs:List (TE × TE)):Prop :=
 ∀(jP:List (Addr × Obj)) (s:Shared) (σ:St) (H:Hp) (Q:List (V × V)->Hp->Prop),Inv X jP σ H s->zJE trs σ H Q ->
  wpAny (model X.prog X.w) X.A (evalPairs (pairTrees keys values X.env pos)) (λ vs s'=>∃ps H',Inv X jP σ H' s'/\VV ps vs/\Q ps H') X.xe s
theorem zHQ {X:Cx}{pos:Pos}:PPs X pos [] [] []:=λ jP s σ H Q I h=>pairTrees_nil_walk ⟨[],H,I,.nil,h⟩
theorem zDt {X:Cx}{pos:Pos}{k v:Expr}{ks:List (Option Expr)}{vs:List Expr}{tk tv:TE}{trs:List (TE × TE)}(hk:PE X k tk) (hv:PE X v tv) (hr:PPs X pos ks vs trs) :
  PPs X pos (some k::ks) (v::vs) ((tk,tv)::trs):=λ jP s σ H Q I h =>
 pairTrees_cons_walk (thn (hk jP s σ H _ I h) λ u s1 ⟨x,H1,I1,rx,q1⟩=>thn (hv jP s1 σ H1 _ I1 q1) λ w2 s2 ⟨y,H2,I2,ry,q2⟩ =>
  thn (hr jP s2 σ H2 _ I2 q2) λ ws s3 ⟨ps,H3,I3,rel,q3⟩=>⟨(x,y)::ps,H3,I3,.cons ⟨rx,ry⟩ rel,q3⟩)
noncomputable def zAf (kvs more:List (Key × V)):List (Key × V):=more.foldl (λ acc kv=>putK acc kv.1 kv.2) kvs
theorem KV.merge:∀{more:List (Key × V)}{rs:List (Key × Value)}{kvs:List (Key × V)}{vs:List (Key × Value)},KV more rs->KV kvs vs->KV (zAf kvs more) (merged vs rs):=by
 intro more rs kvs vs r;unfold KV at r
 induction r generalizing kvs vs with
 |nil=>intro q;exact q
 | @cons p q ps qs h t ih =>
  intro r0
  have e:KV (putK kvs p.1 p.2) (stored vs q.1 q.2):=by
   have:=r0.put p.1 h.2;rw[←h.1];exact this
  exact ih e
theorem zBV:∀(more kvs:List (Key × V)),(zAf kvs more).length<=kvs.length+more.length
 |[],kvs=>by show kvs.length<=kvs.length+0;omega
 |p::r,kvs=>by
  have h1:=zBV r (putK kvs p.1 p.2);have h2:=zAx kvs p.1 p.2;show (zAf (putK kvs p.1 p.2) r).length<=_;rw[List.length_cons];omega
theorem zFm {P:Program}{w:World}:∀{kvs:List (Key × V)}{ws:List (Value × Value)},VV (kvs.map λ kv=>(kV kv.1,kv.2)) ws->∃rs,Carries (zAg P w) ws rs/\KV kvs rs
 |[],_,r=>by rw[List.map_nil] at r;cases r;exact⟨[],True.intro,.nil⟩
 |p::kvs,_,r=>by
  rw[List.map_cons] at r;cases r with
  | @cons a b as bs h t =>
   obtain⟨rs,c,q⟩:=zFm (P:=P) (w:=w) t;obtain⟨b1,b2⟩:=b;exact⟨(p.1,b2)::rs,⟨kV_is h.1,rfl,c⟩,.cons ⟨rfl,h.2⟩ q⟩
noncomputable def tDisp (trs:List (TE × TE)):TE:=λ σ H Q=>∀p,H p=none->zJE trs σ (upd H p (.dK [])) λ ps H2=>H2 p=some (.dK [])/\∃kvs:List (Key × V),ps=kvs.map (λ kv=>(kV kv.1,kv.2))/\kvs.length<=15/\Q (.ref p) (upd H2 p (.dK (zAf [] kvs)))
theorem zHS {X:Cx}{pos:Pos}{keys:List (Option Expr)}{values:List Expr}{trs:List (TE × TE)}(h:PPs X pos keys values trs) (hall:keys.all (·.isSome)=true) (hl:keys.length=values.length) (h0:keys≠[])
  (h15:keys.length<=15):PE X (.Dict keys values pos) (tDisp trs):=by
 intro jP s σ H Q I q;have hn:=I.hok.fresh (lS s.heap.objs.size);have I1:=I.laid (a:=s.heap.objs.size) (o:=.dK []) (h':=s.heap.push { cls:=.type "dict", data:=.dict #[] }) (t':=s.toks) (λ U U q=>lG _ q) (lS _) (zIS s.heap I.big);refine wpAny_Dict_walk (knd:=zAg X.prog X.w) hall hl h0 h15 (thn (h jP _ σ _ _ I1 (q _ hn)) λ ws s2 ⟨ps,H2,I2,rel,e,kvs,ep,lk,q2⟩=>?_);subst ep;obtain⟨rs,c,rk⟩:=zFm (P:=X.prog) (w:=X.w) rel;obtain⟨z,hd,vs0,r0,dd⟩:=dk_of I2.hok e;cases r0;refine⟨rs,c,dd,λ h' dd' hs=>⟨.ref s.heap.objs.size,_,?_,rfl,q2⟩⟩
 have hz:(zAf [] kvs).length<=sizeLine:=by
  have h1:=zBV kvs [];rw[List.length_nil] at h1;rw[sizeLine_eq];omega
 have he:∃q,h'.get? s.heap.objs.size=some q:=let ⟨q,_,_,hq,_⟩:=dd';⟨q,hq⟩;exact zFC I2 (by rw[e];exact True.intro) hs he (zFj hz hd (rk.merge .nil) dd')
structure M1 (X:Cx) (o:Expr) (m:Str) (apos:Pos) (e:Expr) (cpos:Pos):Prop where
 base:attributeBase o m X.env (eval o X.env)=eval o X.env
 few:((backTo cpos (starEach [e] X.env)).all (λ x=>!x.1) && (backToKw cpos (keywordEach [] X.env)).all (λ x=>x.1.isSome)
  && decide (([e]:List Expr).length+([]:List Keyword).length+(if ([]:List Keyword).isEmpty then 0 else 1)<30))=true
 line:(apos.endLine == cpos.line)=true
 trees:backTo cpos (starEach [e] X.env)=[(false,eval e X.env)]
structure M2 (X:Cx) (o:Expr) (m:Str) (apos:Pos) (e f:Expr) (cpos:Pos):Prop where
 base:attributeBase o m X.env (eval o X.env)=eval o X.env
 few:((backTo cpos (starEach [e,f] X.env)).all (λ x=>!x.1) && (backToKw cpos (keywordEach [] X.env)).all (λ x=>x.1.isSome)
  && decide (([e,f]:List Expr).length+([]:List Keyword).length+(if ([]:List Keyword).isEmpty then 0 else 1)<30))=true
 line:(apos.endLine == cpos.line)=true
 trees:backTo cpos (starEach [e,f] X.env)=[(false,eval e X.env),(false,eval f X.env)]
noncomputable def IsD (H:Hp) (a:Addr):Prop:=(∃kvs,Rd H a (.dK kvs))\/∃kvs,Rd H a (.dT kvs)
theorem zMV {X:Cx}{jP:List (Addr × Obj)}{σ:St}{H:Hp}{s:Shared}{a:Addr}(I:Inv X jP σ H s) (d:IsD H a) :
  s.TypeIs (.ref a) "dict" /\ (∀b,Value.ref a = .ref b->∃ob,s.heap.get? b=some ob/\ob.dict=none)/\(a == sysModules)=false:=by
 rcases d with ⟨kvs,e⟩|⟨kvs,e⟩
 ·obtain⟨_,hd,vs,_,dd⟩:=dk_rd I.hok e
  refine⟨dd.typeIs,λ b q=>?_,hd⟩;cases q;obtain⟨ob,_,_,h1,h2,_⟩:=dd;exact⟨ob,h1,h2.2.1⟩
 ·obtain⟨_,hd,xs,_,dd⟩:=dt_rd I.hok e
  refine⟨dd.typeIs,λ b q=>?_,hd⟩;cases q;obtain⟨ob,_,_,h1,h2,_⟩:=dd;exact⟨ob,h1,h2.2.1⟩
section
variable {X:Cx}{jP:List (Addr × Obj)}{σ:St}{H:Hp}{s:Shared}{a:Addr}{y d:V}{u r:Value}{o:Option V}{A:Around}{E:Value->Shared->Prop}
theorem zOS {Q:Value->Shared->Prop}(hu:A.units+1<cLine) (I:Inv X jP σ H s) (g:DGet H a y o) (ry:RelV y u) (h:∀w' s',Inv X jP σ H s'->RelV (o.getD .non) w'->Q w' s') :
  wpAny (model X.prog X.w) A (call (.builtin "dict.get") [.ref a,u]) Q E s:=by
 rcases g with ⟨kvs,k,e,ey,l⟩|⟨kvs,k,b,e,ey,eb,l⟩
 ·subst ey
  obtain⟨z,hd,vs,rel,dd⟩:=dk_rd I.hok e;refine call_meetsIn PySem.F.slot_dict_get dd.typeIs PySem.F.entry_dict_get (PySem.F.args_dict_get_2 _ _) (meets_dict_get (zAg X.prog X.w) a (kV_is ry) hd) ⟨_,dd.mapOf,h _ _ (I.tok _) ?_⟩;rw[l];exact(rel.val k).getD rfl
 ·subst ey
  cases (show u=Value.ref b from ry);obtain⟨z,hd,xs,rel,dd⟩:=dt_rd I.hok e;refine call_meetsIn PySem.F.slot_dict_get dd.typeIs PySem.F.entry_dict_get (PySem.F.args_dict_get_2 _ _) (meetsH_dict_get (tupleKind (zAg X.prog X.w)) a b hd) ⟨tupleKind_room_in1 hu,k,xs,zE4 I.hok eb,dd,h _ _ (I.tok _) ?_⟩;rw[l];exact(rel.val k).getD rfl
theorem zOR {Q:Value->Shared->Prop}(hu:A.units+1<cLine) (I:Inv X jP σ H s) (g:DGet H a y o) (ry:RelV y u) (rd:RelV d r) (h:∀w' s',Inv X jP σ H s'->RelV (o.getD d) w'->Q w' s') :
  wpAny (model X.prog X.w) A (call (.builtin "dict.get") [.ref a,u,r]) Q E s:=by
 rcases g with ⟨kvs,k,e,ey,l⟩|⟨kvs,k,b,e,ey,eb,l⟩
 ·subst ey
  obtain⟨z,hd,vs,rel,dd⟩:=dk_rd I.hok e;refine call_meetsIn PySem.F.slot_dict_get dd.typeIs PySem.F.entry_dict_get (PySem.F.args_dict_get_3 _ _ _) (meets_dict_get_default (zAg X.prog X.w) a (kV_is ry) hd r) ⟨_,dd.mapOf,h _ _ (I.tok _) ?_⟩;rw[l];exact(rel.val k).getD rd
 ·subst ey
  cases (show u=Value.ref b from ry);obtain⟨z,hd,xs,rel,dd⟩:=dt_rd I.hok e;refine call_meetsIn PySem.F.slot_dict_get dd.typeIs PySem.F.entry_dict_get (PySem.F.args_dict_get_3 _ _ _) (meetsH_dict_get_default (tupleKind (zAg X.prog X.w)) a b hd r) ⟨tupleKind_room_in1 hu,k,xs,zE4 I.hok eb,dd,h _ _ (I.tok _) ?_⟩;rw[l];exact(rel.val k).getD rd
end
noncomputable def zNj (td ty:TE):TE:=λ σ H Q=>td σ H λ x H1=>∃a,x = .ref a/\IsD H1 a/\ty σ H1 λ y H2=>∃o,DGet H2 a y o/\Q (o.getD .non) H2
noncomputable def zNi (td ty tx:TE):TE:=λ σ H Q=>td σ H λ x H1=>∃a,x = .ref a/\IsD H1 a/\ty σ H1 λ y H2=>tx σ H2 λ z H3=>∃o,DGet H3 a y o/\Q (o.getD z) H3
section
variable {X:Cx}{o e f:Expr}{apos cpos:Pos}{td ty tx:TE}
theorem zIE (hu:X.A.units+1<cLine) (ho:PE X o td) (he:PE X e ty) (m:M1 X o "get" apos e cpos):PE X (.Call (.Attribute o "get" apos) [e] [] cpos) (zNj td ty):=by
 intro jP s σ H Q I h;refine wpAny_Call_method m.base m.few m.line PySem.F.plainAttrs_dict PySem.F.slot_dict_get PySem.F.type_dict_get (thn (ho jP s σ H _ I h) λ u s1 ⟨x,H1,I1,rx,a,ex,d,q1⟩=>?_);subst ex;obtain rfl:u=Value.ref a:=rx;obtain⟨t1,t2,_⟩:=zMV I1 d;refine⟨t1,t2,?_⟩;rw[m.trees];refine Calls.callWith_builtin rfl (Calls.evalArgs_plain (Calls.spliced_cons (thn (he jP s1 σ H1 _ I1 q1) λ iv s2 ⟨y,H2,I2,ry,ov,g,q2⟩=>Calls.spliced_nil ?_)));exact zOS hu I2 g ry λ w' s3 I3 rw'=>⟨_,H2,I3,rw',q2⟩
theorem zDu (hu:X.A.units+1<cLine) (ho:PE X o td) (he:PE X e ty) (hf:PE X f tx) (m:M2 X o "get" apos e f cpos):PE X (.Call (.Attribute o "get" apos) [e,f] [] cpos) (zNi td ty tx):=by
 intro jP s σ H Q I h;refine wpAny_Call_method m.base m.few m.line PySem.F.plainAttrs_dict PySem.F.slot_dict_get PySem.F.type_dict_get (thn (ho jP s σ H _ I h) λ u s1 ⟨x,H1,I1,rx,a,ex,d,q1⟩=>?_);subst ex;obtain rfl:u=Value.ref a:=rx;obtain⟨t1,t2,_⟩:=zMV I1 d;refine⟨t1,t2,?_⟩;rw[m.trees]
 refine Calls.callWith_builtin rfl (Calls.evalArgs_plain (Calls.spliced_cons (thn (he jP s1 σ H1 _ I1 q1) λ iv s2 ⟨y,H2,I2,ry,q2⟩ =>
  Calls.spliced_cons (thn (hf jP s2 σ H2 _ I2 q2) λ fv s3 ⟨z,H3,I3,rz,ov,g,q3⟩=>Calls.spliced_nil ?_))))
 exact zOR hu I3 g ry rz λ w' s4 I4 rw'=>⟨_,H3,I4,rw',q3⟩
end
section
variable {X:Cx}{jP:List (Addr × Obj)}{σ:St}{H:Hp}{s:Shared}{a:Addr}{kvs:List (Key × V)}{A:Around}{E:Value->Shared->Prop}
theorem zL3 {Q:Value->Shared->Prop}(I:Inv X jP σ H s) (e:Rd H a (.dK kvs)) (h:∀p s',H p=none->Inv X jP σ (upd H p (.dK kvs)) s'->Q (.ref p) s'):wpAny (model X.prog X.w) A (call (.type "dict") [.ref a]) Q E s:=by
 obtain⟨z,hd,vs,rel,dd⟩:=dk_rd I.hok e;refine kt_call_dict hd dd (by rw[←rel.length];exact z) λ h' dd' hs=>?_;refine h _ _ (I.hok.fresh (lS _)) (I.laid (a:=s.heap.objs.size) (o:=.dK kvs) (t':=s.toks) (λ b q hq=>?_) (lS _) (zFj z (beq_eq_false_iff_ne.mpr (Ne.symm (lT I.big))) rel dd'));exact(hs.2 b (lT (lI hq))).trans (lG _ hq)
end
section
variable {X:Cx}{jP:List (Addr × Obj)}{σ:St}{H:Hp}{s:Shared}{a:Addr}{y:V}{u:Value}{A:Around}{E:Value->Shared->Prop}
end
end L2
namespace Att
open PySem PySem.W PySem.Calls PyProof.Rows
theorem zE7 {P:Params}{h:Heap}:∀(ns:List Int) (vs:List Value),WellAll P h vs (ns.map WData.int)->IntsAre vs ns:=by
 intro ns
 induction ns with
 |nil =>
  intro vs w;rw[List.map_nil] at w;cases w;exact .nil
 |cons n ns ih =>
  intro vs w;rw[List.map_cons] at w;cases w with
  |cons a b =>
   cases a;exact .cons _ _ (ih _ b)
theorem zJT {l:OpenLaw}{n:Nat}(hn:l.most=some n) {P:Params}{h:Heap}{args:List WData}{vals:List Value}
    (hpre:l.row.toRowW.claim.pre args=true) (hwl:WellAll P h vals args) :
    ∃a vs ns,vals=[Value.ref a]/\args=[WData.list (ns.map WData.int)]/\h.get? a=some { cls:=.type "list", data:=.seq vs.toArray }/\IntsAre vs ns/\ns.length<=n:=by
  have hsh:WShape.hasAll [] args [.list .int]=true:=(pre_splitW hpre).1;have hc:l.pre.holds [] { args:=args }=true:=(pre_splitW hpre).2;obtain⟨d,r,rfl,h1,h2⟩:=hasAllW_cons hsh;obtain rfl:=hasAllW_nil h2;obtain⟨xs,rfl,h3⟩:=hasW_list h1;obtain⟨ns,rfl⟩:=items_int h3
  have hlen:ns.length<=n:=by
    unfold OpenLaw.pre at hc
    have h4:(WTm.not (.lt (.lit (.int (n:Int))) (.len (.arg 0)))).holds [] { args:=[.list (ns.map .int)] }=true:=by
      have h4:=(holds_andW hc).1;rw[hn] at h4;exact h4
    have h5:=condW_of h4 (w_not (w_lt w_lit (w_len_list (w_arg rfl))));rw[List.length_map] at h5;refine Nat.le_of_not_lt λ q=>?_;have q':(n:Int)<((ns.length:Nat):Int):=by omega
    first
      | (rw[decide_eq_true q'] at h5;exact absurd h5 (by decide))
      | (simp at h5;omega)
  cases hwl with
  |cons w1 w2 =>
    cases w2;cases w1 with
    |list ho hall=>exact⟨_,_,ns,rfl,rfl,ho,zE7 ns _ hall,hlen⟩
theorem zJc (l:OpenLaw) (args:List WData):l.row.toRowW.claim.post args (.bool true) args=true :=
  postW_of (r:=l.row.toRowW) (X:=(true == true))
    (show WShape.has [] (.bool true) .bool=true by first|rfl|decide|simp[WShape.has,WShape.arms,WShape.armsAll])
    (show (WTm.eq .res (.lit (.bool true))).value [] { args:=args,res:=some (.bool true),after:=args }=some (.bool (true == true)) from w_eq_bool (w_res rfl) w_lit) rfl
theorem attach_call {l:OpenLaw}{n:Nat}{q:Program}{loose:List Str}{XP:(Str->Option Value)->Heap->Prop}{YP:World->Heap->Prop}{d:DefRec}
  (hn:l.most=some n) (hdf:d.params.defaults=[])
  (call:∀(w:World) (s₀ s₁:Shared) (mg mb:Str->Option Value) (fa:Addr) (o:Obj) (pm cd doc:Value) (a:Addr) (vs:List Value) (ns:List Int),
   Ground q loose [] XP w s₀ mg mb s₁.heap->YP w s₁.heap ->
   s₁.heap.get? fa=some o->o.data = .func (docDef d.name d.params d.body d.scope pm cd doc)->s₁.heap.CodeRec cd d.name->mg d.name=some (.ref fa) ->
   s₁.heap.get? a=some { cls:=.type "list", data:=.seq vs.toArray }->IntsAre vs ns->ns.length<=n->s₁.gens=#[] ->
   codeAny (model l.prog w) callerA (.call (.ref fa) ⟨[.ref a],[]⟩) (λ r s'=>r = .ok (.ret (.bool true))/\OldK s₁.heap s'.heap/\s'.os=s₁.os/\AllBare s'.gens) s₁) :
  WalkO q loose XP YP l.row.toRowW d [] (λ f vs=>PySem.call f vs):=by
 intro w s₀ s₁ mg mb G Y fa o pm cd doc dV kV ho hd hcd hD hmg hg args vals as hpre hlay hrd hwl hlo;obtain rfl:dV = .none:=Dflts.none hD hdf;obtain rfl:kV = .none:=Dflts.noKw hD;obtain⟨a,vs,ns,rfl,rfl,hobj,hints,hlen⟩:=zJT hn hpre hwl;refine enter_call (codeAny_mono (call w s₀ s₁ mg mb fa o pm cd doc a vs ns G Y ho (fd_plain hd) hcd hmg hobj hints hlen hg) λ r s' hq=>?_);obtain⟨rfl,h2,h3,h4⟩:=hq;exact⟨.inl ⟨.bool true,.bool true,[],rfl,λ U=>rfl,.bool true,zJc l _,λ U=>⟨List.Pairwise.nil,λ U hm=>(nomatch hm)⟩⟩,h2,h3,h4⟩
section
variable {prog:Program}{w:World}{A:Around}{E:Value->Shared->Prop}{s:Shared}{K:Frag}
end
end Att
namespace L2
open PySem PySem.Spec PyProof.Rows
theorem zGP {vs:List Value}{ns:List Int}(h:IntsAre vs ns):Vals (ns.map V.int) vs:=by
 induction h with
 |nil=>exact .nil
 |cons n t h ih=>exact .cons ⟨t,rfl⟩ ih
noncomputable def Only (H:Hp):Prop:=∀b,H b=none\/∃o xs,H b=some (.frz o (.lst xs))
theorem zLk {P:Program}{w:World}{K:W.Frag}{mg mb:Str->Option Value}{CX:CXT}{k:Nat}{fa a:Addr}{fd:FuncData}{x:Str}{sp:Sp}{s₁:Shared}{vs:List Value}{ns:List Int}
  (KX:K.In s₁.heap) (hns:s₁.heap.Ns mainGlobals mg) (hb:s₁.heap.Ns builtinsNs mb) (hbb:∀x:Str,x ≠ "__name__" -> mb x=bootBuiltins x) (hlim:s₁.heap.NoLimit) (hg:s₁.gens=#[])
  (ha:s₁.heap.get? a=some { cls:=.type "list", data:=.seq vs.toArray }) (hi:IntsAre vs ns) (hl:ns.length<=sizeLine) (hr:Room k callerA)
  (F:∀base:Heap,K.In base->base.Ns mainGlobals mg->FnOk P w K mg base CX k fa fd [x] sp) (hbind:∀(s:Shared) (u:Value),BindsTo s fd ⟨[u],[]⟩ [(x,u)])
  (hsp:∀H:Hp,Only H->SqL K H a (ns.map V.int)->sp [.ref a] H (λ v U=>v = .bl true) λ U U U=>False)
  (hCX:∀H e s',CX [] H s₁ (λ U U U=>False) e s'->False) :
  codeAny (model P w) callerA (.call (.ref fa) ⟨[.ref a],[]⟩) (λ r s'=>r = .ok (.ret (.bool true))/\OldK s₁.heap s'.heap/\s'.os=s₁.os/\AllBare s'.gens) s₁:=by
 have rv:=zGP hi;have lenV:=hi.length
 have core:∀H:Hp,Only H->SqL K H a (ns.map V.int)->HOk P w H s₁.heap->(∀b,H b≠none->b=a)->(H a≠none->K.lookup a=none) ->
   codeAny (model P w) callerA (.call (.ref fa) ⟨[.ref a],[]⟩) (λ r s'=>r = .ok (.ret (.bool true))/\OldK s₁.heap s'.heap/\s'.os=s₁.os/\AllBare s'.gens) s₁:=by
  intro H hO hS hok hA hK;have base_of:∀{b:Addr}{o:Obj},s₁.heap.get? b=some o->H b=none->(hidT s₁.heap H).get? b=some o:=λ e n=>zLp e n
  have noA:∀{b:Addr}{o:Obj}{es:Array DictEntry}{ep:Nat},s₁.heap.get? b=some o->o.data = .dict es ep->H b=none:=λ{b o es ep} e d=>by
   cases q:H b with
   |none=>rfl
   |some u =>
    have e':b=a:=hA b (by rw[q];simp);subst e';rw[ha] at e;cases e;have d':Data.seq vs.toArray _=Data.dict es ep:=d;cases d'
  have nsK:∀{b:Addr}{m:Str->Option Value},s₁.heap.Ns b m->(hidT s₁.heap H).Ns b m:=λ{b m} ⟨o,es,ep,e,d,r⟩=>⟨o,es,ep,base_of e (noA e d),d,r⟩
  have hKb:K.In (hidT s₁.heap H):=λ b o e=>base_of (KX b o e) (by
   cases q:H b with
   |none=>rfl
   |some u =>
    have e':b=a:=hA b (by rw[q];simp);subst e';rw[hK (by rw[q];simp)] at e;cases e)
  have hM:Mod K mg (hidT s₁.heap H):=⟨hKb,nsK hns,⟨mb,nsK hb,hbb⟩,let ⟨mc,h1,h2⟩:=hlim;⟨mc,nsK h1,h2⟩⟩;have e0:Env0 P w K mg (hidT s₁.heap H) callerA [] s₁ H:=⟨rfl,hM,λ b o e=>zNI e,Nat.le_of_eq (zKN _ _),trivial,λ b hb=>absurd (show b∈([]:List Addr) from hb) (by simp),hok,.of_eq hg⟩;refine codeAny_mono ((F _ hKb (nsK hns)).run callerA [] s₁ H ⟨[.ref a],[]⟩ [.ref a] [.ref a] _ _ hr e0 (hbind s₁ (.ref a)) (.cons rfl .nil) (hsp H hO hS)) λ r s' h=>?_;cases r with
  |error e=>exact(hCX H e s' h).elim
  |ok fl =>
   cases fl with
   |next=>exact False.elim h
   |brk=>exact False.elim h
   |cont=>exact False.elim h
   |ret u =>
    obtain⟨v,H',os,bare,un,hok',r',q⟩:=h;have q':v = .bl true:=q;subst q';obtain rfl:u=Value.bool true:=r';refine⟨rfl,OldK.of_keep λ b o e=>?_,os,bare⟩;cases q:H b with
    |none=>exact un.keep b o e q (by intro z;exact absurd (show b∈([]:List Addr) from z) (by simp)) (by simp)
    |some u =>
     rcases hO b with z|⟨ob,xs,z⟩
     ·rw[q] at z;cases z
     ·have z2:=un.frzs b ob _ z
      obtain⟨e1,_⟩:=hok b _ z;obtain⟨e2,_⟩:=hok' b _ z2;rw[e] at e1;cases e1;exact e2
 cases hk:K.lookup a with
 |some o =>
  have e:=KX a o hk;rw[ha] at e;cases e;refine core (λ U=>none) (λ U=>.inl rfl) (.inr ⟨_,vs.toArray,_,hk,rfl,rfl,rfl,by rw[List.size_toArray,lenV];exact hl,by simpa using rv⟩) (λ b u z=>by have z':(none:Option HO)=some u:=z;cases z') (λ b z=>absurd rfl z) λ z=>absurd rfl z
 |none =>
  refine core (λ b=>if b=a then some (.frz { cls:=.type "list", data:=.seq vs.toArray } (.lst (ns.map V.int))) else none) (λ b=>?_) (.inl (.inr ⟨{ cls:=.type "list", data:=.seq vs.toArray },if_pos rfl⟩)) (λ b u z=>?_) (λ b z=>?_) λ U=>hk
  ·by_cases hb:b=a
   ·exact .inr ⟨_,_,if_pos hb⟩
   ·exact .inl (if_neg hb)
  ·by_cases hb:b=a
   ·have z':=(if_pos hb).symm.trans z
    cases z';subst hb;exact⟨ha,by rw[List.length_map];exact hl,vs,_,rv,ha⟩
   ·have z':=(if_neg hb).symm.trans z
    cases z'
  ·by_cases hb:b=a
   ·exact hb
   ·exact absurd (if_neg hb) z
theorem walk_of {l:W.OpenLaw}{n k:Nat}{q:Program}{loose:List Str}{XP:(Str->Option Value)->Heap->Prop}{YP:World->Heap->Prop}{d:DefRec}{K:Params->W.Frag}{CX:World->CXT}{sp:World->Sp}{x:Str}
  (hn:l.most=some n) (hn2:n<=sizeLine) (hdf:d.params.defaults=[]) (hr:Room k callerA)
  (hY:∀(w:World) (h:Heap),YP w h->(K w.params).In h)
  (F:∀(w:World) (mg:Str->Option Value) (fa:Addr) (h:Heap),(K w.params).In h->h.Ns mainGlobals mg->mg d.name=some (.ref fa) ->
   ∃fd:FuncData,(∀(s:Shared) (u:Value),BindsTo s fd ⟨[u],[]⟩ [(x,u)]) /\
    ∀base:Heap,(K w.params).In base->base.Ns mainGlobals mg->FnOk l.prog w (K w.params) mg base (CX w) k fa fd [x] (sp w))
  (hsp:∀(w:World) (H:Hp) (a:Addr) (ns:List Int),ns.length<=n->Only H->SqL (K w.params) H a (ns.map V.int)->sp w [.ref a] H (λ v U=>v = .bl true) λ U U U=>False)
  (hCX:∀(w:World) (H:Hp) (s:Shared) (e:Value) (s':Shared),CX w [] H s (λ U U U=>False) e s'->False) :
  W.WalkO q loose XP YP l.row.toRowW d [] (λ f vs=>PySem.call f vs):=by
 refine Att.attach_call hn hdf λ w s₀ s₁ mg mb fa o pm cd doc a vs ns G Y ho hd hcd hmg hobj hints hlen hg=>?_;have KX:=hY w _ Y;obtain⟨fd,hb,hF⟩:=F w mg fa _ KX G.T.g hmg;exact zLk KX G.T.g G.T.b G.T.builtins G.T.nolimit hg hobj hints (mI hlen hn2) hr hF hb (λ H hO hS=>hsp w H a ns hlen hO hS) λ H e s'=>hCX w H s₁ e s'
noncomputable def zNN (s:Stmt) (j:Nat):Stmt:=match s with
 |.ClassDef _ _ _ body _ _ _ _ _ _ _=>body.getD j (.Pass ⟨0,0,0,0⟩)
 |_=>.Pass ⟨0,0,0,0⟩
noncomputable def zC8 (s:Stmt):Arguments:=match s with
 |.FunctionDef _ a _ _ _ _ _ _ _ _=>a
 |_=>{ posonlyargs:=[],args:=[],vararg:=none,kwonlyargs:=[],kw_defaults:=[],kwarg:=none,defaults:=[] }
noncomputable def zCL (s:Stmt):List Stmt:=match s with
 |.FunctionDef _ _ b _ _ _ _ _ _ _=>b
 |_=>[]
noncomputable def zAJ (s:Stmt):Scope:=match s with
 |.FunctionDef _ _ _ _ _ _ sc _ _ _=>sc
 |_=>{ kind:=.function,names:=[],isGenerator:=false,isCoroutine:=false }
abbrev CX0:CXT:=λ U U U U U U=>False
abbrev E0:XK:=λ U U U=>False
theorem pass0 {X:Cx}:zKy CX0 X E0:=λ U U U U U U U h=>h.elim
structure Fun (K:W.Frag) (x qual:Str) (st:Stmt) (f:Addr) (fd:FuncData):Prop where
 ex:∃(oc:Value) (od:Option Addr) (kV doc pm:Value) (an:Option Addr) (cdv ct:Value) (osl:Array (Option Value)),
  fd=W.fnOf x qual (zC8 st) (zCL st) (zAJ st) .none kV doc pm an cdv ct/\K.lookup f=some ⟨oc,od,.func fd,osl⟩/\W.codeIn K cdv qual=true
 kp:W.keepIn K (.ref f)=true
section
variable {P:Program}{w:World}{K:W.Frag}{mg:Str->Option Value}{base:Heap}
theorem Fun.ok {x qual:Str}{st:Stmt}{f:Addr}{fd:FuncData}{N ps:List Str}{k:Nat}{sp:Sp}(F:Fun K x qual st f fd) (S:zAY N ps (zAJ st)) (len:∀vs H Q E,sp vs H Q E->vs.length=ps.length)
  (hbody:∀(cdv:Value) (A:Around) (outer:List Env) (s:Shared) (H:Hp) (vs:List V) (Q:VK) (E:XK),Room k (A.deeper (envOfC qual (zAJ st) s.heap.objs.size f cdv))->sp vs H Q E ->
   ∃t,PSs (cxOf CX0 P w K mg base N qual (zAJ st) f cdv A outer s H E).nox (zCL st) t/\t { nx:=λ U H'=>Q .non H',rt:=Q } (start N vs) H):FnOk P w K mg base CX0 (k+1) f fd ps sp:=by
 obtain⟨oc,od,kV,doc,pm,an,cdv,ct,osl,rfl,lk,hcd⟩:=F.ex;refine fn_of lk hcd S len λ A outer s H vs Q E hr hsp=>?_;obtain⟨t,h,q⟩:=hbody cdv A outer s H vs Q E hr hsp;exact⟨t,h.nox,q⟩
theorem Fun.binds {x qual:Str}{st:Stmt}{f:Addr}{fd:FuncData}{ps:List Str}(F:Fun K x qual st f fd)
  (h:∀(kV doc pm:Value) (an:Option Addr) (cdv ct:Value) (us:List Value),us.length=ps.length->bindArgs (W.fnOf x qual (zC8 st) (zCL st) (zAJ st) .none kV doc pm an cdv ct) ⟨us,[]⟩=pure (ps.zip us)):Binds K fd ps []:=by
 obtain⟨oc,od,kV,doc,pm,an,cdv,ct,osl,rfl,lk,hcd⟩:=F.ex;exact .all (h kV doc pm an cdv ct)
theorem zKT {x qual:Str}{st:Stmt}{f:Addr}{oc:Value}{od an:Option Addr}{osl:Array (Option Value)}{kV doc pm cdv ct:Value}(l:K.lookup f=some ⟨oc,od,.func (W.fnOf x qual (zC8 st) (zCL st) (zAJ st) .none kV doc pm an cdv ct),osl⟩)
  (c:W.codeIn K cdv qual=true) (k:W.keepIn K (.ref f)=true):Fun K x qual st f (W.fnOf x qual (zC8 st) (zCL st) (zAJ st) .none kV doc pm an cdv ct):=⟨⟨oc,od,kV,doc,pm,an,cdv,ct,osl,rfl,l,c⟩,k⟩
end
theorem hu_of {A:Around}{k:Nat}(hr:Room k A):A.units+1<cLine:=Nat.lt_of_le_of_lt (Nat.add_le_add_left (by decide:1<=64) _) hr.units
theorem zAQ {n:Nat}(h:n<=1000):n<sizeLine:=Nat.lt_of_le_of_lt h (by decide)
section
variable {X:Cx}
theorem pv (i:Nat) {x:Str}{pos:Pos}(hN:X.N[i]?=some x:=by rfl) (hv:Vis X.env.scope x:=by first|exact Or.inl rfl|exact Or.inr (Or.inl rfl)|exact Or.inr (Or.inr rfl)) (hd:(x == ("__debug__" : Str))=false:=by decide)
  (hcd:(x == ("__classdict__" : Str))=false:=by decide):PE X (.Name x pos) (tVar i):=zN3 hN hv hd hcd
end
theorem iteF {A B:Prop}(h:B):if false=true then A else B:=by
 rw[if_neg Bool.false_ne_true];exact h
theorem iteT {A B:Prop}(h:A):if true=true then A else B:=by
 rw[if_pos rfl];exact h
theorem ite2 {c A B:Prop} [Decidable c] (h1:c->A) (h2:¬c->B):if c then A else B:=by
 by_cases h:c
 ·rw[if_pos h]
  exact h1 h
 ·rw[if_neg h]
  exact h2 h
theorem iteNS {c A B:Prop} [Decidable c] (hc:c) (h:B):if (!decide c)=true then A else B:=by
 rw[decide_eq_true hc];exact iteF h
noncomputable def Same (H H':Hp):Prop:=∀b o,H b=some o->H' b=some o
theorem Same.refl (H:Hp):Same H H:=λ U U h=>h
theorem Same.trans {H H1 H2:Hp}(a:Same H H1) (b:Same H1 H2):Same H H2:=λ c o h=>b c o (a c o h)
theorem Same.free {H H':Hp}(e:Same H H') {l:Addr}(h:H' l=Option.none):H l=Option.none:=by
 cases q:H l with
 |none=>rfl
 |some o =>
  rw[e l o q] at h;cases h
theorem Same.seq {K:W.Frag}{H H':Hp}{a:Addr}{xs:List V}(e:Same H H') (h:SqL K H a xs):SqL K H' a xs:=by
 rcases h with (h|⟨o,h⟩)|h
 ·exact .inl (.inl (e _ _ h))
 ·exact .inl (.inr ⟨o,e _ _ h⟩)
 ·exact .inr h
section
variable {κ:Type} [DecidableEq κ]
theorem zK0 {kvs:List (κ × V)}{k:κ}(h:valV kvs k=none):¬k∈kvs.map (·.1):=by
 intro m;obtain⟨p,hp,e⟩:=mE.mp m;have q:(kvs.any λ kv=>decide (kv.1=k))=true:=List.any_eq_true.mpr ⟨p,hp,lV e⟩;rw[zDC,h] at q;exact absurd q (by simp)
theorem zJ1:∀{l:List κ}{k:κ},l.Nodup->¬k∈l->(l++[k]).Nodup
 |[],k,_,_=>by simp
 |a::r,k,h,hk=>by
  obtain⟨h1,h2⟩:=List.nodup_cons.mp h;show (a::(r++[k])).Nodup;refine List.nodup_cons.mpr ⟨λ m=>?_,zJ1 h2 λ m=>hk (lP.mpr (Or.inr m))⟩;rcases lK.mp m with q|q
  ·exact h1 q
  ·exact hk (lP.mpr (Or.inl (List.mem_singleton.mp q).symm))
theorem zHa {kvs:List (κ × V)}{k:κ}(v:V) (hn:(kvs.map (·.1)).Nodup) (h:valV kvs k=none):((putK kvs k v).map (·.1)).Nodup:=by
 rw[zCh v h,List.map_append];exact zJ1 hn (zK0 h)
end
end L2
set_option maxHeartbeats 4000000
namespace L2
open PySem PySem.Spec PyProof.Rows
abbrev NoX:Value->Shared->Prop:=λ U U=>False
theorem noX {al:Type}{t:Sem al}{Q:al->Shared->Prop}{M:Model}{A:Around}{E:Value->Shared->Prop}{s:Shared}(h:wpAny M A t Q NoX s):wpAny M A t Q E s :=
 wpAny_mono h (λ U U q=>q) λ U U z=>z.elim
noncomputable def capSt (cap:List (Option Nat)) (σ:St):St:=cap.map λ o=>match o with
 |none=>none
 |some j=>(σ[j]?).join
inductive Ext:St->St->Prop
 |nil:Ext [] []
 |skip {a b:St}{x:Option V}:Ext a b->Ext (none::a) (x::b)
 |keep {a b:St}{x:Option V}:Ext a b->Ext (x::a) (x::b)
theorem Ext.len {a b:St}(h:Ext a b):a.length=b.length:=by
 induction h with
 |nil=>rfl
 |skip _ ih=>simp[ih]
 |keep _ ih=>simp[ih]
theorem Ext.get {a b:St}(h:Ext a b):∀(i:Nat) v,a[i]?=some (some v)->b[i]?=some (some v):=by
 induction h with
 |nil=>intro i v e;simp at e
 |skip _ ih =>
  intro i v e;cases i with
  |zero=>simp at e
  |succ i=>simpa using ih i v (by simpa using e)
 |keep _ ih =>
  intro i v e;cases i with
  |zero=>simpa using e
  |succ i=>simpa using ih i v (by simpa using e)
noncomputable def Cx.block (X:Cx) (sc:Scope) (cl:List (Str × Addr)) (N:List Str) (s:Shared) (H:Hp) (C:Addr) (ex:List Addr):Cx where
 prog:=X.prog
 w:=X.w
 K:=X.K
 mg:=X.mg
 base:=X.base
 A:=X.A
 N:=N
 s₀:=s
 H₀:=H
 env:=compEnvC sc cl C X.env
 outer:=X.stack
 stack:=X.stack
 ex:=ex
 fn:=λ U=>false
 calm:=X.calm
 pn:=[]
 xe:=NoX
theorem zEI {env:Env}:∀(names:List (Str × NameKind)) (cs:List (Str × Addr)),(∀n,(n,NameKind.free)∈names->∃c,env.cells.lookup n=some c) ->
  (∀x c,cs.lookup x=some c->env.cells.lookup x=some c) ->
  ∃cl:List (Str × Addr),(forIn names cs λ(x:Str × NameKind) (r:List (Str × Addr))=>(if (x.2 == NameKind.free)=true then do let c ← cellOf env x.1;pure (ForInStep.yield ((x.1,c)::r)) else pure (ForInStep.yield r)):Sem (List (Str × Addr)))=pure cl /\
   (∀x c,cl.lookup x=some c->env.cells.lookup x=some c)/\(∀n,(n,NameKind.free)∈names->∃c,cl.lookup n=some c)/\(∀n c,cs.lookup n=some c->∃c,cl.lookup n=some c)
 |[],cs,_,hc=>⟨cs,rfl,hc,λ U h=>(nomatch h),λ n c e=>⟨c,e⟩⟩
 | (n,k)::r,cs,h,hc=>by
  by_cases hk:k = .free
  ·subst hk
   obtain⟨c,ec⟩:=h n lQ
   have hc':∀x c',((n,c)::cs).lookup x=some c'->env.cells.lookup x=some c':=λ x c' e=>by
    rw[List.lookup_cons] at e;cases hx:x == n with
    |true=>rw[hx] at e;cases e;rw[eq_of_beq hx];exact ec
    |false=>rw[hx] at e;exact hc x c' e
   obtain⟨cl,e1,e2,e3,e4⟩:=zEI r ((n,c)::cs) (λ m hm=>h m (lR _ hm)) hc';refine⟨cl,?_,e2,λ m hm=>?_,λ m c' e=>?_⟩
   ·rw[List.forIn_cons,←e1]
    simp only[beq_self_eq_true,if_true,cellOf,ec];rfl
   ·rcases lP.mp hm with z|z
    ·cases z
     exact e4 n c (by simp)
    ·exact e3 m z
   ·by_cases hm:m=n
    ·subst hm;exact e4 m c (by simp)
    ·exact e4 m c' (by rw[List.lookup_cons,beq_eq_false_iff_ne.mpr hm];exact e)
  ·have hb:(k == NameKind.free)=false:=by simpa using hk
   obtain⟨cl,e1,e2,e3,e4⟩:=zEI r cs (λ m hm=>h m (lR _ hm)) hc;refine⟨cl,?_,e2,λ m hm=>?_,e4⟩
   ·rw[List.forIn_cons,←e1]
    simp only[hb,Bool.false_eq_true,if_false];rfl
   ·rcases lP.mp hm with z|z
    ·cases z;exact absurd rfl hk
    ·exact e3 m z
theorem zFl {sc:Scope}{env:Env}(h:∀n,(n,NameKind.free)∈sc.names->∃c,env.cells.lookup n=some c) :
  ∃cl:List (Str × Addr),closureFor sc env=pure cl/\(∀x c,cl.lookup x=some c->env.cells.lookup x=some c)/\(∀n,(n,NameKind.free)∈sc.names->∃c,cl.lookup n=some c):=by
 obtain⟨cl,e1,e2,e3,_⟩:=zEI (env:=env) sc.names [] h (λ x c e=>by simp at e);refine⟨cl,?_,e2,e3⟩;unfold closureFor;rw[←bind_pure (pure cl),←e1]
theorem zEG {names:List (Str × NameKind)}{x:Str}{k:NameKind}(h:names.lookup x=some k):(x,k)∈names:=by
 induction names with
 |nil=>simp at h
 |cons p r ih =>
  obtain⟨n,j⟩:=p;rw[List.lookup_cons] at h;cases hx:x == n with
  |true=>rw[hx] at h;cases h;rw[eq_of_beq hx];exact lQ
  |false=>rw[hx] at h;exact lR _ (ih h)
set_option tactic.hygienic true in
theorem zEM {sc:Scope}{env:Env}{x:Str}{k:NameKind}(hk:k = .cell\/k = .free) (nc:∀y∈sc.names,y.2 ≠ .cell) (h:(relabel sc env).names.lookup x=some k):(x,NameKind.free)∈sc.names:=by
 have m:=zEG h;obtain⟨⟨n,j⟩,hm,e⟩:=mE.mp m;have q:(if (j == NameKind.free && env.scope.kind == .function && env.kindOf n == some .cell)=true then (n,NameKind.cell) else (n,j))=(x,k):=e;split at q
 ·rename_i c
  rw[Bool.and_eq_true,Bool.and_eq_true] at c;have j':j = .free:=by simpa using c.1.1
  cases q;rw[j'] at hm;exact hm
 ·cases q
  rcases hk with z|z
  ·exact absurd z (nc _ hm)
  ·rw[z] at hm;exact hm
theorem zBM {sc:Scope}{env:Env}{x:Str}:∀{names:List (Str × NameKind)},names.lookup x=some .free ->
  (names.map λ(n,k)=>if (k == NameKind.free && env.scope.kind == .function && env.kindOf n == some .cell) then (n,NameKind.cell) else (n,k)).lookup x=some .cell \/
  (names.map λ(n,k)=>if (k == NameKind.free && env.scope.kind == .function && env.kindOf n == some .cell) then (n,NameKind.cell) else (n,k)).lookup x=some .free
 |[],h=>by simp at h
 | (n,k)::r,h=>by
  have ih:=@zBM sc env x r;rw[List.lookup_cons] at h
  by_cases c:(k == NameKind.free && env.scope.kind == .function && env.kindOf n == some .cell)=true
  ·rw[List.map_cons]
   simp only[c,if_true,List.lookup_cons];cases hx:x == n with
   |true=>exact .inl rfl
   |false=>rw[hx] at h;exact ih h
  ·rw[List.map_cons]
   have c':=Bool.eq_false_iff.mpr c;simp only[c',Bool.false_eq_true,if_false,List.lookup_cons];cases hx:x == n with
   |true=>rw[hx] at h;cases h;exact .inr rfl
   |false=>rw[hx] at h;exact ih h
theorem zGy {P:Program}{w:World}{A:Around}{R:Result->Shared->Prop}{s:Shared}{elt tg iter:Expr}{ifs:List Expr}{sc:Scope}{pos:Pos}{it acc:Value}{env:Env}(J:Nat->Shared->Prop)
  (turn:∀n s,J n s->wpAny (model P w) A (pyNext it) (λ r s1=>match r with
   |none=>R (.ok .next) s1
   |some v=>wpAny (model P w) A (letOwnedTupleGo tg it v) (λ U s2=>wpAny (model P w) A (assign tg env v) (λ U s3 =>
     wpAny (model P w) A (forIn ifs true λ c r=>if r=true then do let ok ← isTrue c env (eval c env);pure (ForInStep.yield ok) else pure (ForInStep.yield r)) (λ ok s4 =>
      if ok=true then wpAny (model P w) A (eval elt env) (λ x s5=>wpAny (model P w) A (call (.builtin "list.append") [acc,x]) (λ U s6=>∃m,m<n/\J m s6) NoX s5) NoX s4
      else ∃m,m<n/\J m s4) NoX s3) NoX s2) NoX s1) NoX s) (n:Nat) (h:J n s) :
  codeAny (model P w) A (.compLoop (.ListComp elt [⟨tg,iter,ifs,0⟩] sc pos) 0 it acc env) R s:=by
 refine codeAny_loop rfl J (λ n s hJ=>?_) n h;refine wpAny_noted ?_;rw[compTurn_list];refine lA (wpAny_standAt (lA (noX (thn (turn n s hJ) λ r s1 h1=>?_))));cases r with
 |none=>exact lB h1
 |some v =>
  refine lA (noX (thn h1 λ U s2 h2=>?_));refine lA (noX (thn h2 λ U s3 h3=>?_));refine lA (noX (thn h3 λ ok s4 h4=>?_));cases ok with
  |false=>exact lB ⟨rfl,h4⟩
  |true=>exact lA (lA (noX (thn h4 λ x s5 h5=>lA (noX (thn h5 λ U s6 h6=>lB (lB ⟨rfl,h6⟩))))))
noncomputable def PTs (X:Cx) (ifs:List Expr) (t:TT):Prop :=
 ∀(jP:List (Addr × Obj)) (s:Shared) (σ:St) (H:Hp) (Q:Bool->Hp->Prop),Inv X jP σ H s->t σ H Q ->
  wpAny (model X.prog X.w) X.A (forIn ifs true λ c r=>if r=true then do let ok ← isTrue c X.env (eval c X.env);pure (ForInStep.yield ok) else pure (ForInStep.yield r)) (TP X jP σ Q) X.xe s
noncomputable def tYes:TT:=λ U H Q=>Q true H
theorem zBQ {X:Cx}:PTs X [] tYes:=λ U U U H U I h=>wpAny_tests_nil ⟨H,I,h⟩
theorem zC2 {X:Cx}{c:Expr}{t:TT}(h:PT X c t):PTs X [c] t:=λ jP s σ H Q I hq=>wpAny_tests_one (h jP s σ H Q I hq)
noncomputable def tComp (cap:List (Option Nat)) (wi:TI) (g:TG) (tt:TT) (te:TE):TE:=λ σ H Q=>wi σ H λ J H1=>∀acc,H1 acc=none ->
 ∃W:Nat->Nat->Hp->Prop,(∃m,W 0 m (upd H1 acc (.lst [])))/\∀i m H2,W i m H2 ->
  (J.stop i H2/\Q (.ref acc) H2)\/(J.go i H2/\∃N:Hp->Prop,(∀H',N H'->∃m',m'<m/\W (i+1) m' H')/\∀x H3,J.yld i H2 x H3->g x (capSt cap σ) H3 λ σ2 H4=>Ext (capSt cap σ) σ2/\tt σ2 H4 λ b H5 =>
   if b=true then te σ2 H5 λ y H6=>∃zs,H6 acc=some (.lst zs)/\zs.length<sizeLine/\N (upd H6 acc (.lst (zs++[y])))
   else N H5)
theorem HOk.but {P:Program}{w:World}{H:Hp}{h h':Heap}{C:Addr}(x:HOk P w H h) (n:H C=none) (sb:Heap.SameBut C h h'):HOk P w H h':=λ a o e =>
 (x a o e).stay (λ b u hb q=>(sb.2 b (λ z=>by
  subst z;rcases hb with z|z
  ·subst z;rw[n] at e;cases e
  ·rw[n] at z;cases z)).trans q) (λ U q=>q) λ U U q=>q
theorem Un.but {fs ex:List Addr}{H H':Hp}{h h1 h2:Heap}{C:Addr}(u:Un fs ex H H' h h1) (lt:h.objs.size<=C) (sb:Heap.SameBut C h1 h2):Un fs ex H H' h h2:=by
 have ne:∀b o,h.get? b=some o->b≠C:=λ b o e=>lT (mB (lI e) lt);refine⟨λ b o e n hb hx=>(sb.2 b (ne b o e)).trans (u.keep b o e n hb hx),λ b o e n hb hx=>?_,u.free,λ b o e hx=>?_,u.tups,u.frzs,u.tbls⟩
 ·obtain⟨sl,q⟩:=u.slot b o e n hb hx
  exact⟨sl,(sb.2 b (ne b o e)).trans q⟩
 ·obtain⟨o',q⟩:=u.there b o e hx
  exact⟨o',(sb.2 b (ne b o e)).trans q⟩
section
variable {X:Cx}
theorem zIX {jP:List (Addr × Obj)}{σ:St}{H:Hp}{s:Shared}{sc:Scope}{cl:List (Str × Addr)}{N:List Str}{C:Addr}{fp:List Addr}(I:Inv X jP σ H s) (hk:sc.kind = .function) (nc:∀y∈sc.names,y.2 ≠ .cell)
  (hC:s.heap.objs.size<=C) (hf:∀b∈fp,FpOk X jP H b) (hfo:∀b∈fp,∃o,s.heap.get? b=some o) (c1:∀x c,cl.lookup x=some c->X.env.cells.lookup x=some c) (c2:∀n,(n,NameKind.free)∈sc.names->∃c,cl.lookup n=some c) :
  (X.block sc cl N s H C fp).Ok where
 mod:=I.ok.mod
 kind:=hk
 glob:=I.ok.glob
 blt:=I.ok.blt
 above:=hC
 inj:=λ x y c e e'=>I.ok.inj x y c (c1 x c e) (c1 y c e')
 has:=λ x h=>c2 x (h.elim (zEM (.inl rfl) nc) (zEM (.inr rfl) nc))
 cab:=λ x c e=>(nomatch e)
 hd:=I.ok.hd
 frames:=I.ok.frames
 stk:=.inl rfl
 exf:=λ b hb=>⟨λ z=>by
  obtain⟨o,e⟩:=hfo b hb;have lt:=lI e;rw[z] at lt;exact absurd (mB lt hC) (Nat.lt_irrefl _),λ x c e=>(hf b hb).2.2.2.2.1 x c (c1 x c e)⟩
 bs:=I.bs
 bsz:=mI I.ok.bsz I.sz
 noex:=λ b o e hb=>by
  rcases (hf b hb).2.2.2.1 with z|z
  ·exact I.ok.noex b o e z
  ·exact absurd (mB (lI (I.ok.bs b o e).1) z) (Nat.lt_irrefl _)
 exfs:=λ b hb hs=>by
  rcases lP.mp (I.stkSub b hs) with z|z
  ·exact(hf b hb).2.1 z
  ·exact(hf b hb).2.2.1 z
 funs:=I.stack
 frf:=I.stkFree
theorem zM1 {elt tg iter:Expr}{ifs:List Expr}{sc:Scope}{pos:Pos}{wi:TI}{g:TG}{tt:TT}{te:TE}(N:List Str) (cap:List (Option Nat)) (hc:X.calm=true) (hi:PI X tg iter wi)
  (hg:∀cl s H C ex,PG (X.block sc cl N s H C ex) tg g) (ht:∀cl s H C ex,PTs (X.block sc cl N s H C ex) ifs tt) (he:∀cl s H C ex,PE (X.block sc cl N s H C ex) elt te)
  (hk:sc.kind = .function) (nc:∀y∈sc.names,y.2 ≠ .cell) (hnames:∀y∈sc.names,y.2 = .local->sc.names.lookup y.1=some .local)
  (hfree:∀n,(n,NameKind.free)∈sc.names->X.env.kindOf n=some .cell)
  (hcap:∀(i j:Nat),cap[i]?=some (some j)->∃x,N[i]?=some x/\X.N[j]?=some x/\sc.names.lookup x=some .free) (hlen:cap.length=N.length)
  (hs:∀x,foldedSetIterable iter X.env x=pure x:=by intro _;rfl):PE X (.ListComp elt [⟨tg,iter,ifs,0⟩] sc pos) (tComp cap wi g tt te):=by
 intro jP s σ H Q I h;obtain⟨cl,hclos,c1,c2⟩:=zFl (sc:=sc) (env:=X.env) λ n hn=>I.ok.has n (.inl (hfree n hn));rw[eval_ListComp];refine wpAny_comprehension_free (use:=none) rfl hs hclos hk hnames ?_;refine thn (hi jP s σ H _ I h) λ v s1 h1=>thn h1 λ itv s2 h2=>?_;obtain⟨it,fp,tn,J,H2,e,I2,T,st2,f2,q2⟩:=h2;subst e;have hfr:H2 s2.heap.objs.size=none:=I2.fresh;obtain⟨W,⟨m0,w0⟩,turn⟩:=q2 s2.heap.objs.size hfr;have I3:=I2.lnew (ys:=[]) (its:=[]) (t':=s2.toks) .nil (lZ _);have hacc:H2 s2.heap.objs.size=none:=hfr;refine wpAny_newObj_type (wpAny_newFunctionEnv nc (by intro y hy;simp at hy) (λ h4 hns hsb=>?_) hk);generalize hs3:({ s2 with heap:=s2.heap.push { cls:=.type "list", data:=.seq ([]:List Value).toArray } }:Shared)=s3 at hns hsb I3 ⊢;have hheap:s3.heap=s2.heap.push { cls:=.type "list", data:=.seq ([]:List Value).toArray }:=by rw[←hs3]
 generalize hH3:upd H2 s2.heap.objs.size (.lst [])=H3 at I3 w0;have up2:∀b o,s2.heap.get? b=some o->s3.heap.get? b=some o:=λ b o q=>by rw[hheap];exact lG _ q
 have neA:∀b∈fp,b≠s2.heap.objs.size:=λ b hb=>by
  obtain⟨o,q,_⟩:=T.obj _ _ st2 b hb;exact lT (lI q)
 have f3:∀b∈fp,FpOk X jP H3 b:=λ b hb=>⟨by rw[←hH3,zAW (neA b hb)];exact(f2 b hb).1,(f2 b hb).2⟩
 have o3:∀b∈fp,∃o,s3.heap.get? b=some o:=λ b hb=>by
  obtain⟨o,q,_⟩:=T.obj _ _ st2 b hb;exact⟨o,up2 b o q⟩
 have ok':=zIX (N:=N) (C:=s3.heap.objs.size) I3 hk nc (lS _) f3 o3 c1 c2;generalize hC:s3.heap.objs.size=C at hns hsb ok' ⊢;have ltC:∀b o,s3.heap.get? b=some o->b≠C:=λ b o q=>by rw[←hC];exact lT (lI q)
 have up4:∀b o,s3.heap.get? b=some o->h4.get? b=some o:=λ b o q=>hsb.extBut b o (ltC b o q) (lG _ q);have st4:tn 0 h4:=T.keep _ _ _ st2 λ b hb o q=>up4 b o (up2 b o q)
 have I4:Inv (X.block sc cl N s3 H3 C fp) [] (capSt cap σ) H3 { s3 with heap:=h4,toks:=s3.toks+([]:List (Str × Value)).length }:=by
  refine⟨ok',rfl,I3.bare,Un.kept up4,⟨_,hns,λ i x v e1 e2 e3=>?_⟩,λ x c q=>?_,?_,λ x c q=>I3.freeC x c (c1 x c q),λ p hp=>(nomatch hp),I3.hok.kept up4,?_⟩
  ·have ee:∃j,cap[i]?=some (some j)/\σ[j]?=some (some v):=by
    unfold capSt at e2;rw[List.getElem?_map] at e2;cases q:cap[i]? with
    |none=>rw[q] at e2;cases e2
    |some o =>
     rw[q] at e2;cases o with
     |none=>cases e2
     |some j =>
      refine⟨j,rfl,?_⟩;have e2':some ((σ[j]?).join)=some (some v):=e2;cases z:σ[j]? with
      |none=>rw[z] at e2';cases e2'
      |some o' =>
       rw[z] at e2';have e2'':o'=some v:=mG e2';rw[e2'']
   obtain⟨j,ej,es⟩:=ee;obtain⟨x',n1,n2,n3⟩:=hcap i j ej;have e1':N[i]?=some x:=e1;rw[n1] at e1';cases e1';have hfr':(x,NameKind.free)∈sc.names:=zEG n3;have kc:=hfree x hfr';obtain⟨m,_,hl⟩:=I3.loc;obtain⟨u,r,l⟩:=hl j x v n2 es (.inr (.inl kc));refine⟨u,r,?_⟩;rcases l with ⟨l,_⟩|⟨_,c,ec,z⟩
   ·rw[kc] at l;cases l
   ·obtain⟨c',ec'⟩:=c2 x hfr'
    have:=c1 x c' ec';rw[ec] at this;cases this;obtain⟨oc,q1,q2⟩:=z;exact .inr ⟨zBM (sc:=sc) n3,c,ec',oc,up4 _ _ q1,q2⟩
  ·obtain⟨v,oc,q1,q2⟩:=I3.cell x c (c1 x c q)
   exact⟨v,oc,up4 _ _ q1,q2⟩
  ·exact I3.hok.fresh (by rw[hC];exact lS _)
  ·show (capSt cap σ).length=N.length
   unfold capSt;rw[List.length_map,hlen]
 have loop:codeAny (model X.prog X.w) X.A (.compLoop (.ListComp elt [⟨tg,iter,ifs,0⟩] sc pos) 0 (.ref it) (.ref s2.heap.objs.size) (compEnvC sc cl C X.env)) (compPost (model X.prog X.w) X.A X.xe none (EP X jP σ Q) (.ref s2.heap.objs.size) C)
   { s3 with heap:=h4,toks:=s3.toks+([]:List (Str × Value)).length }:=by
  have stat:∀{H':Hp},(∀b∈fp,H' b=none)->∀b∈fp,FpOk (X.block sc cl N s3 H3 C fp) [] H' b:=λ hn b hb =>
   ⟨hn b hb,(ok'.exf b hb).1,ok'.exfs b hb,.inl hb,(ok'.exf b hb).2,λ p hp=>(nomatch hp)⟩
  refine zGy (λ n s'=>∃i H',Inv (X.block sc cl N s3 H3 C fp) [] (capSt cap σ) H' s'/\tn i s'.heap/\(∀b∈fp,H' b=none)/\W i n H') ?_ m0 ⟨0,H3,I4,st4,λ b hb=>(f3 b hb).1,w0⟩;rintro n s5 ⟨i,H5,I5,st5,fr5,w5⟩;rcases turn i n H5 w5 with ⟨stop,qn⟩|⟨go,N',hN',step⟩
  ·refine thn (T.done (X.block sc cl N s3 H3 C fp) rfl rfl rfl hc i [] s5 _ H5 NoX I5 (stat fr5) st5 stop) λ r s6 ⟨hr,I6⟩=>?_
   subst hr;obtain⟨m,hm,_⟩:=I6.loc;refine⟨m,hm,λ h' sb=>⟨.ref s2.heap.objs.size,H5,?_,rfl,qn⟩⟩;refine I3.call' (s':={ s6 with heap:=h' }) (ch:=fp) I6.os (I6.base.but (by rw[←hC];exact lS _) sb) (I6.hok.but I6.free sb) I6.bare λ b hb=>?_;obtain⟨g0,g1,g2,g3,g4,g5⟩:=f3 b hb;exact⟨g3,g1,g4,g5⟩
  ·refine thn (T.item (X.block sc cl N s3 H3 C fp) rfl rfl rfl hc i [] s5 _ H5 NoX I5 (stat fr5) st5 go) λ r s6 ⟨u,hr,h6⟩=>?_
   subst hr;refine thn h6 λ _ s7 ⟨x,H7,I7,r7,y7,st7,fr7⟩=>?_;have I7':=I7.pinned (stat fr7) (T.obj _ _ st7)
   have again:∀{σ8:St}{H8:Hp}{s8:Shared},Inv (X.block sc cl N s3 H3 C fp) ([]++zFY fp s7.heap) σ8 H8 s8->Ext (capSt cap σ) σ8->N' H8 ->
     ∃m,m<n/\∃i H',Inv (X.block sc cl N s3 H3 C fp) [] (capSt cap σ) H' s8/\tn i s8.heap/\(∀b∈fp,H' b=none)/\W i m H':=λ{σ8 H8 s8} I8 ex n8=>by
    obtain⟨m',hm,w8⟩:=hN' H8 n8;have I8':=I8.unpinned.weak ex.len ex.get;refine⟨m',hm,i+1,H8,I8',T.keep _ _ _ st7 λ b hb o q=>(I8.pin (b,o) (mC _ (mC _ (zBq hb q)))).1,λ b hb=>?_,w8⟩;obtain⟨o,q,d⟩:=T.obj _ _ st7 b hb;exact(I8.pin (b,o) (mC _ (mC _ (zBq hb q)))).2.1
   refine thn (hg cl s3 H3 C fp _ s7 _ H7 x u _ I7' r7 (step x H7 y7)) λ _ s8 ⟨σ8,H8,I8,ex8,q8⟩=>?_;refine thn (ht cl s3 H3 C fp _ s8 σ8 H8 _ I8 q8) λ b s9 ⟨H9,I9,q9⟩=>?_;cases b with
   |false=>exact again I9 ex8 q9
   |true =>
    rw[if_pos rfl] at q9 ⊢;refine thn (he cl s3 H3 C fp _ s9 σ8 H9 _ I9 q9) λ yv s10 ⟨y,H10,I10,r10,zs,e10,l10,q10⟩=>?_;refine thn (zA8 (X:=X.block sc cl N s3 H3 C fp) _ s10 σ8 H10 (.ref s2.heap.objs.size) [y] (.ref s2.heap.objs.size) [yv] (λ U H'=>N' H') I10 rfl (.cons r10 .nil) ⟨_,zs,y,rfl,rfl,e10,l10,q10⟩) λ _ s11 ⟨_,H11,I11,_,q11⟩=>?_;exact again I11 ex8 q11
 exact codeAny_compStart_list loop (T.self X.A 0 _ _ _ st4 loop)
end
theorem zL4 {K:W.Frag}{a acc:Addr}{xs:List V}{g:TG}{tt:TT}{te:TE}{σ:St}{H:Hp}{Q:VK}(Pv:Nat->Hp->Prop) (h0:Pv 0 (upd H acc (.lst []))) (hl:∀i H,i<=xs.length->Pv i H->SqT K H a xs)
  (hs:∀i x H,xs[i]?=some x->Pv i H->g x σ H λ σ2 H4=>Ext σ σ2/\tt σ2 H4 λ b H5 =>
   if b=true then te σ2 H5 λ y H6=>∃zs,H6 acc=some (.lst zs)/\zs.length<sizeLine/\Pv (i+1) (upd H6 acc (.lst (zs++[y]))) else Pv (i+1) H5) (hd:∀H,Pv xs.length H->Q (.ref acc) H) :
  ∃W:Nat->Nat->Hp->Prop,(∃m,W 0 m (upd H acc (.lst [])))/\∀i m H2,W i m H2 ->
   ((Itt K a).stop i H2/\Q (.ref acc) H2)\/((Itt K a).go i H2/\∃N:Hp->Prop,(∀H',N H'->∃m',m'<m/\W (i+1) m' H')/\∀x H3,(Itt K a).yld i H2 x H3->g x σ H3 λ σ2 H4=>Ext σ σ2/\tt σ2 H4 λ b H5 =>
    if b=true then te σ2 H5 λ y H6=>∃zs,H6 acc=some (.lst zs)/\zs.length<sizeLine/\N (upd H6 acc (.lst (zs++[y])))
    else N H5):=by
 refine⟨λ i m H=>m=xs.length - i/\i<=xs.length/\Pv i H,⟨xs.length,by simp,lZ _,h0⟩,?_⟩;rintro i m H2 ⟨rfl,hi,p⟩;have q:=hl i H2 hi p
 by_cases hlt:i<xs.length
 ·refine .inr ⟨⟨xs,xs[i],q,by simp[hlt]⟩,Pv (i+1),λ H' p'=>⟨xs.length - (i+1),by omega,rfl,hlt,p'⟩,λ x H' y=>?_⟩
  obtain⟨e,y⟩:=y;subst e;exact hs i x _ (y xs q) p
 ·have e:i=xs.length:=by omega
  subst e;exact .inl ⟨⟨xs,q,lS _⟩,hd H2 p⟩
theorem zI3 {lo:Int}{n:Nat}{acc:Addr}{g:TG}{tt:TT}{te:TE}{σ:St}{H:Hp}{Q:VK}(Pv:Nat->Hp->Prop) (h0:Pv 0 (upd H acc (.lst [])))
  (hs:∀i H,i<n->Pv i H->g (.int (lo+i)) σ H λ σ2 H4=>Ext σ σ2/\tt σ2 H4 λ b H5 =>
   if b=true then te σ2 H5 λ y H6=>∃zs,H6 acc=some (.lst zs)/\zs.length<sizeLine/\Pv (i+1) (upd H6 acc (.lst (zs++[y]))) else Pv (i+1) H5) (hd:∀H,Pv n H->Q (.ref acc) H) :
  ∃W:Nat->Nat->Hp->Prop,(∃m,W 0 m (upd H acc (.lst [])))/\∀i m H2,W i m H2 ->
   ((Itr lo n).stop i H2/\Q (.ref acc) H2)\/((Itr lo n).go i H2/\∃N:Hp->Prop,(∀H',N H'->∃m',m'<m/\W (i+1) m' H')/\∀x H3,(Itr lo n).yld i H2 x H3->g x σ H3 λ σ2 H4=>Ext σ σ2/\tt σ2 H4 λ b H5 =>
    if b=true then te σ2 H5 λ y H6=>∃zs,H6 acc=some (.lst zs)/\zs.length<sizeLine/\N (upd H6 acc (.lst (zs++[y])))
    else N H5):=by
 refine⟨λ i m H=>m=n - i/\i<=n/\Pv i H,⟨n,by simp,lZ _,h0⟩,?_⟩;rintro i m H2 ⟨rfl,hi,p⟩
 by_cases hlt:i<n
 ·refine .inr ⟨hlt,Pv (i+1),λ H' p'=>⟨n - (i+1),by omega,rfl,hlt,p'⟩,λ x H' y=>?_⟩
  obtain⟨e,y⟩:=y;subst e y;exact hs i _ hlt p
 ·have e:i=n:=by omega
  subst e;exact .inl ⟨lS _,hd H2 p⟩
noncomputable def zIV (sc:Scope) (env:Env) (XN N:List Str) (cap:List (Option Nat)):Bool :=
 (sc.kind == .function) && (sc.names.all λ y=>y.2 != .cell) && (sc.names.all λ y=>y.2 != .local || sc.names.lookup y.1 == some .local) &&
 (sc.names.all λ y=>y.2 != .free || env.kindOf y.1 == some .cell) &&
 ((List.range cap.length).all λ i=>match cap[i]? with
  |some (some j)=>(match N[i]? with|some x=>XN[j]? == some x && sc.names.lookup x == some .free|none=>false)
  |_=>true) && (cap.length == N.length)
theorem zAs {X:Cx}{elt tg iter:Expr}{ifs:List Expr}{sc:Scope}{pos:Pos}{wi:TI}{g:TG}{tt:TT}{te:TE}(N:List Str) (cap:List (Option Nat)) (hc:X.calm=true) (hi:PI X tg iter wi)
  (hg:∀cl s H C ex,PG (X.block sc cl N s H C ex) tg g) (ht:∀cl s H C ex,PTs (X.block sc cl N s H C ex) ifs tt) (he:∀cl s H C ex,PE (X.block sc cl N s H C ex) elt te)
  (ck:zIV sc X.env X.N N cap=true) (hs:∀x,foldedSetIterable iter X.env x=pure x:=by intro _;rfl):PE X (.ListComp elt [⟨tg,iter,ifs,0⟩] sc pos) (tComp cap wi g tt te):=by
 unfold zIV at ck;simp only[Bool.and_eq_true] at ck;obtain⟨⟨⟨⟨⟨k1,k2⟩,k3⟩,k4⟩,k5⟩,k6⟩:=ck;refine zM1 N cap hc hi hg ht he (by simpa using k1) (λ y hy=>?_) (λ y hy z=>?_) (λ n hn=>?_) (λ i j e=>?_) (by simpa using k6) hs
 ·have:=List.all_eq_true.mp k2 y hy
  simpa using this
 ·have:=List.all_eq_true.mp k3 y hy
  rw[z] at this;simpa using this
 ·have:=List.all_eq_true.mp k4 _ hn
  simpa using this
 ·have hi:i<cap.length:=(lJ.mp e).1
  have:=List.all_eq_true.mp k5 i (List.mem_range.mpr hi);rw[e] at this;dsimp only at this;cases q:N[i]? with
  |none=>rw[q] at this;cases this
  |some x =>
   rw[q] at this;dsimp only at this;rw[Bool.and_eq_true] at this;exact⟨x,rfl,by simpa using this.1,by simpa using this.2⟩
section
variable {prog:Program}{w:World}{A:Around}{E:Value->Shared->Prop}{s:Shared}
theorem zBo {it t:Addr}{i:Nat}{items:Array Value}{x:Value}{Q:Value->Shared->Prop}(hit:s.heap.IsTupleIter it t i) (ht:s.heap.IsTuple t items) (hx:items[i]?=some x)
  (hQ:∀h',h'.IsTupleIter it t (i+1)->Heap.SameBut it s.heap h'->Q x { s with heap:=h' }):wpAny (model prog w) A (Builtin.SmallTypes.nextOf (.ref it)) Q E s:=by
 obtain⟨o,ho,hc,hd⟩:=id hit;obtain⟨ol,hol,_,nl,hdl⟩:=ht;unfold Builtin.SmallTypes.nextOf;refine lA (wpAny_callSpecial?_slot (name:=Str.ofString "__next__") hit.typeIs F.slot_tuple_iterator_next (wpAny_call_entry F.slot_tuple_iterator_next hit.typeIs F.entry_tuple_iterator_next ?_ (F.args_tuple_iterator_next_1 _)));show wpAny _ _ (field (.ref it) 0 >>= _) _ _ s;refine lA (wpAny_field ho hd (x:=.ref t) rfl ?_);show wpAny _ _ (if (Value.ref t == Value.none)=true then _ else _) _ _ s;rw[if_neg (show ¬((Value.ref t == Value.none)=true) from Bool.false_ne_true)];show wpAny _ _ (field (.ref it) 1 >>= _) _ _ s;refine lA (wpAny_field ho hd (x:=.int i 0) rfl ?_);show wpAny _ _ (seqItems? (.ref t) >>= _) _ _ s;refine lA (wpAny_seqItems hol hdl ?_);simp only[Int.toNat_natCast,hx];refine lA (wpAny_setField ho hd (by simp) (lB ⟨x,rfl,lB (hQ _ ?_ (Heap.SameBut.update ..))⟩));exact⟨_,mK _ ho (Obj.isFreed_of_fields (Obj.data_mapFields hd _)),(Obj.cls_mapFields ..).trans hc,by rw[Obj.data_mapFields hd];simp[rawInt]⟩
theorem zCA {it t:Addr}{i:Nat}{items:Array Value}{Q:Value->Shared->Prop}(hh:A.handled=none) (hit:s.heap.IsTupleIter it t i) (ht:s.heap.IsTuple t items) (hx:items[i]?=none)
  (hE:∀h' e,Heap.ExtBut it s.heap h'->(∃o,h'.get? e=some o/\o.cls = .type "StopIteration")->E (.ref e) { s with heap:=h' }):wpAny (model prog w) A (Builtin.SmallTypes.nextOf (.ref it)) Q E s:=by
 obtain⟨o,ho,hc,hd⟩:=id hit;obtain⟨ol,hol,_,nl,hdl⟩:=ht;unfold Builtin.SmallTypes.nextOf;refine lA (wpAny_callSpecial?_slot (name:=Str.ofString "__next__") hit.typeIs F.slot_tuple_iterator_next (wpAny_call_entry F.slot_tuple_iterator_next hit.typeIs F.entry_tuple_iterator_next ?_ (F.args_tuple_iterator_next_1 _)));show wpAny _ _ (field (.ref it) 0 >>= _) _ _ s;refine lA (wpAny_field ho hd (x:=.ref t) rfl ?_);show wpAny _ _ (if (Value.ref t == Value.none)=true then _ else _) _ _ s;rw[if_neg (show ¬((Value.ref t == Value.none)=true) from Bool.false_ne_true)];show wpAny _ _ (field (.ref it) 1 >>= _) _ _ s;refine lA (wpAny_field ho hd (x:=.int i 0) rfl ?_);show wpAny _ _ (seqItems? (.ref t) >>= _) _ _ s;refine lA (wpAny_seqItems hol hdl ?_);simp only[Int.toNat_natCast,hx];refine lA (wpAny_rule (lA (wpAny_setField ho hd (by simp) ?_)));show wpAny _ _ (newExc (.type "StopIteration") [] >>= _) _ _ _;refine lA ?_;simp only[newExc,newTuple];refine lA (wpAny_newObj_type ?_ (by size_fits));refine lA (m:=firstArgMember _ _) (wpAny_of_eq (a:=Value.none) (by first|rfl|(simp only[firstArgMember];rfl)) ?_);refine wpAny_newObj_type ?_ (by size_fits);simp only[raiseNew];refine lA (wpAny_handled ?_);first|rw[show A.in1.handled=none from hh]|rw[hh]
 refine lA (lB (wpAny_throw ?_));exact hE _ _ (((Heap.SameBut.update ..).extBut.push _).push _) ⟨_,lH _ rfl,rfl⟩
theorem zHh {prog:Program}{w:World}{A:Around}(hh:A.handled=none) (it t:Addr) (hne:t≠it) (items:Array Value) :
  Draws prog w A it [it,t] items.size (λ i v=>items[i]?=some v) (λ i h=>h.IsTupleIter it t i/\h.IsTuple t items) where
 live:=λ U U st=>let ⟨o,ho,_⟩:=st.1;⟨o,ho⟩
 frame:=λ U U U st hk=>⟨let ⟨o,ho,r⟩:=st.1;⟨o,hk it (by simp) o ho,r⟩,let ⟨o,ho,r⟩:=st.2;⟨o,hk t (by simp) o ho,r⟩⟩
 item:=λ i s Q E hi st hQ=>zBo st.1 st.2 (x:=items[i]) (by simp[hi]) λ h' hit' hs'=>hQ _ h' s.toks (by simp[hi]) ⟨hit',let ⟨o,ho,r⟩:=st.2;⟨o,hs'.extBut t o hne ho,r⟩⟩ hs'
 done:=λ s Q E st hE=>zCA hh st.1 st.2 (by simp) hE
set_option tactic.hygienic true in
theorem zFO (l:Addr) (items:Array Value) (n:Nat) (dct:Option Addr) (sl:Array (Option Value)) :
  Meets (Builtin.«enumerate.__new__» ⟨[.type "enumerate", .ref l],[]⟩) (λ U R s=>s.heap.get? l=some { cls:=.type "tuple", dict:=dct,data:=.seq items n,slots:=sl } /\
   R (.ok (.ret (.ref (s.heap.push { cls:=.type "tuple_iterator", data:=.fields #[.ref l,.int 0 0] }).objs.size)))
    { s with heap:=(s.heap.push { cls:=.type "tuple_iterator", data:=.fields #[.ref l,.int 0 0] }).push { cls:=.type "enumerate", data:=.fields #[.none,.bool false,.ref s.heap.objs.size,rawInt 0,.none,.none] } }) :=
 .of_wp λ prog w A R s h=>by
  obtain⟨hp,g,d,tk,os⟩:=s;obtain⟨hl,h⟩:=h;have hsub:=sub_enumerate;have hL:Heap.IsTuple (Shared.heap ⟨hp,g,d,tk,os⟩) l items:=⟨_,hl,rfl,n,rfl⟩
  wp_walk using AutoSeq1.wpAny_loadPart' hl
  refine wpAny_stack_any λ st=>lB ?_;split
  ·rename_i c _ _ _ _ _;cases (c == Value.type "enumerate")
   ·wp_walk using AutoSeq1.wpAny_loadPart' hl,wpAny_pyIter_tuple hL;exact⟨_,rfl,h⟩
   ·wp_walk using AutoSeq1.wpAny_loadPart' hl,wpAny_pyIter_tuple hL;exact⟨_,rfl,h⟩
  ·wp_walk using AutoSeq1.wpAny_loadPart' hl,wpAny_pyIter_tuple hL;exact⟨_,rfl,h⟩
theorem zGM {l:Addr}{items:Array Value}{Q:Value->Shared->Prop}(hL:s.heap.IsTuple l items)
  (h:∀h',IsEnum h' (s.heap.objs.size+1) s.heap.objs.size 0 .none->h'.IsTupleIter s.heap.objs.size l 0->h'.objs.size=s.heap.objs.size+2 ->
   (∀b o,s.heap.get? b=some o->h'.get? b=some o)->Q (.ref (s.heap.objs.size+1)) { s with heap:=h' }):wpAny (model prog w) A (call (.type "enumerate") [.ref l]) Q E s:=by
 obtain⟨⟨c,dct,dt,sl⟩,hl,hc,n,hd⟩:=hL;replace hc:c = .type "tuple" := hc;replace hd:dt = .seq items n:=hd;subst hc hd;refine callType_new F.called_enumerate (by decide) (F.typeCall_enumerate_1 _) (F.newCall_enumerate_1 _) (λ obj=>F.args_object_init_2 obj _) F.entry_enumerate_new (zFO l items n dct sl) ⟨hl,?_⟩;have hz:(s.heap.push { cls:=.type "tuple_iterator", data:=.fields #[.ref l,.int 0 0] }).objs.size=s.heap.objs.size+1:=Heap.size_push ..;show _/\_;rw[hz]
 have he:IsEnum ((s.heap.push { cls:=.type "tuple_iterator", data:=.fields #[.ref l,.int 0 0] }).push { cls:=.type "enumerate", data:=.fields #[.none,.bool false,.ref s.heap.objs.size,rawInt 0,.none,.none] }) (s.heap.objs.size+1) s.heap.objs.size 0 .none:=by
  have:=lH (s.heap.push { cls:=.type "tuple_iterator", data:=.fields #[.ref l,.int 0 0] }) (o:={ cls:=.type "enumerate", data:=.fields #[.none,.bool false,.ref s.heap.objs.size,rawInt 0,.none,.none] }) rfl;rw[hz] at this;exact this
 exact⟨⟨_,he,rfl⟩,h _ he ⟨_,lG _ (lH _ rfl),rfl,rfl⟩ (by rw[Heap.size_push,hz]) λ b o x=>lG _ (lG _ x)⟩
end
section
variable {X:Cx}{jP:List (Addr × Obj)}{σ:St}{H:Hp}{s:Shared}{h':Heap}
theorem Inv.turnedN {t':Nat}{ch:List Addr}(I:Inv X jP σ H s) (k:∀b o,b∉ch->s.heap.get? b=some o->h'.get? b=some o) (hf:∀b∈ch,FpOk X jP H b):Inv X jP σ H { s with heap:=h',toks:=t' }:=by
 refine I.step (g':=s.gens) (d':=s.drawn) (ch:=ch) (λ b hb=>?_) (λ b o U U hc e U=>k b o hc e) (λ b o U U hc e U=>⟨o.slots,k b o hc e⟩) (λ U U U U n=>n)
  (λ b o hc e=>⟨o,k b o hc e⟩) (λ U U e=>e) (λ U U U e=>e) (λ b ps e=>⟨#[],by rw[e];simp⟩) (λ m hm=>?_) (λ b u e=>?_) I.bare
 ·obtain⟨f0,f1,f2,f3,f4,f5⟩:=hf b hb
  exact⟨f3,f1,f4,f5⟩
 ·obtain⟨o,es,ep,ho,r⟩:=hm
  exact⟨o,es,ep,k _ o (λ z=>(hf _ z).2.1 rfl) ho,r⟩
 ·refine(I.hok b u e).stay (λ c v hc q=>k c v (λ z=>?_) q) (λ U q=>q) λ U U q=>q
  have n:=(hf c z).1;rcases hc with y|y
  ·rw[y,e] at n;cases n
  ·rw[y] at n;cases n
theorem Inv.turnedL {t':Nat}{ch:List Addr}{a:Addr}{o:HO}(I:Inv X jP σ H s) (k:∀b o,b∉ch->s.heap.get? b=some o->h'.get? b=some o) (hf:∀b∈ch,FpOk X jP H b) (hp:s.heap.objs.size<=a)
  (new:ObjOk X.prog X.w (upd H a o) h' a o):Inv X jP σ (upd H a o) { s with heap:=h',toks:=t' }:=by
 have hn:H a=none:=I.hok.fresh hp;have ne:∀b u,s.heap.get? b=some u->b≠a:=λ b u e=>lT (mB (lI e) hp)
 refine I.step (g':=s.gens) (d':=s.drawn) (ch:=ch) (λ b hb=>?_) (λ b o U U hc e U=>k b o hc e) (λ b o U U hc e U=>⟨o.slots,k b o hc e⟩) (λ b u U e n=>by rw[zAW (ne b u e)];exact n)
  (λ b o hc e=>⟨o,k b o hc e⟩) (λ b xs q=>by rw[zAW (zAT q hn)];exact q) (λ b u xs q=>by rw[zAW (zAT q hn)];exact q) (λ b ps q=>⟨#[],by rw[zAW (zAT q hn),q];simp⟩) (λ m hm=>?_) (λ b u e=>?_) I.bare
 ·obtain⟨f0,f1,f2,f3,f4,f5⟩:=hf b hb
  exact⟨f3,f1,f4,f5⟩
 ·obtain⟨o,es,ep,ho,r⟩:=hm
  exact⟨o,es,ep,k _ o (λ z=>(hf _ z).2.1 rfl) ho,r⟩
 ·by_cases hb:b=a
  ·subst hb
   rw[zAB] at e;cases e;exact new
  ·rw[zAW hb] at e
   refine(I.hok b u e).stay (λ c v hc q=>k c v (λ z=>?_) q) (λ c q=>by rw[zAW (zAT q hn)];exact q) λ c xs q=>by rw[zAW (zAT q hn)];exact q
   have n:=(hf c z).1;rcases hc with y|y
   ·rw[y,e] at n;cases n
   ·rw[y] at n;cases n
end
noncomputable def Ite (K:W.Frag) (a:Addr):It :=
 ⟨λ i H=>∃xs x,SqT K H a xs/\xs[i]?=some x,λ i H x H'=>∃T y,H T=none/\x = .ref T/\H'=upd H T (.tup [.int i,y])/\∀xs,SqT K H a xs->xs[i]?=some y,λ i H=>∃xs,SqT K H a xs/\xs.length<=i⟩
theorem zJC {P:Program}{w:World}{K:W.Frag}{es:List Expr}{k:Nat}{pos:Pos}(a e it:Addr) (hei:e≠it) :
  Turn P w K (.Tuple es k pos) (Ite K a) [e,it] e (λ i h=>(∃old,IsEnum h e it i old)/\h.IsTupleIter it a i) where
 mem:=by simp
 obj:=λ i h st b hb=>by
  obtain⟨⟨old,z⟩,o,e',c,d⟩:=st;rcases lP.mp hb with y|y
  ·subst y;exact⟨_,z,λ v q=>by have q':Data.fields _=Data.cell v:=q;cases q'⟩
  ·cases List.mem_singleton.mp y
   exact⟨o,e',λ v q=>by rw[d] at q;cases q⟩
 keep:=λ i h h' st k=>by
  obtain⟨⟨old,z⟩,o,e',r⟩:=st;exact⟨⟨old,k e (by simp) _ z⟩,o,k it (by simp) o e',r⟩
 item:=by
  intro X hP hw hK hc i jP s σ H E I hf st hg;subst hP hw hK;obtain⟨xs,x,hq,hx⟩:=hg;obtain⟨its,rv,p,hz⟩:=I.tuple hq;obtain⟨u,hu,ru⟩:=rv.get hx;obtain⟨⟨old,he⟩,hit⟩:=st;have p':s.heap.IsTuple a its.toArray:=p
  have hai:a≠it:=λ z=>by
   obtain⟨o1,q1,c1,_⟩:=p';obtain⟨o2,q2,c2,_⟩:=hit;rw[z,q2] at q1;cases q1;rw[c2] at c1;injection c1 with c3;exact absurd c3 (by decide)
  have hae:a≠e:=λ z=>by
   obtain⟨o1,q1,c1,_⟩:=p';rw[z] at q1;have he':s.heap.get? e=some _:=he;rw[he'] at q1;cases q1;injection c1 with c3;exact absurd c3 (by decide)
  have hilt:i<its.toArray.size:=by
   have:=(lJ.mp hu).1;simpa using this
  refine wpAny_pyNext_enum_itemD (zHh (A:=X.A.in1) (I.ok.hd hc) it a hai its.toArray) he ⟨hit,p'⟩ hilt hei (by simp[hei,Ne.symm hae]) λ y h1 tk hy ho hst hT hsz hk=>?_
  have hyu:y=u:=by
   have:(its.toArray)[i]?=some u:=by simpa using hu
   rw[hy] at this;exact mG this
  subst hyu;refine⟨_,rfl,?_⟩;have hn:H s.heap.objs.size=none:=I.fresh
  have I1:Inv X jP σ (upd H s.heap.objs.size (.tup [.int i,x])) { s with heap:=h1,toks:=tk+1 }:=I.turnedL (ch:=[e,it]) (λ b o hb q=>hk b o (λ z=>hb (by simp[z])) (λ z=>hb (by simp[z])) q) hf (lS _)
   ⟨Nat.le_of_lt (zAQ (show 2<=1000 by decide)),[.int i tk,y],.cons ⟨_,rfl⟩ (.cons ru .nil),_,hT,rfl,_,rfl⟩
  have neT:∀b∈[e,it],b≠s.heap.objs.size:=λ b hb=>by
   rcases lP.mp hb with z|z
   ·subst z;exact lT (lI (show s.heap.get? b=some _ from he))
   ·cases List.mem_singleton.mp z
    obtain⟨o2,q2,_⟩:=hit;exact lT (lI q2)
  refine wpAny_letOwnedTupleGo_enum (s:={ s with heap:=h1,toks:=tk+1 }) ho λ h2 he2 hs2=>⟨.ref s.heap.objs.size,_,?_,rfl,⟨_,x,hn,rfl,rfl,λ ys hy'=>by rw[I.tuple_inj hy' hq];exact hx⟩,⟨⟨_,he2⟩,?_⟩,λ b hb=>?_⟩
  ·refine I1.turnedN (t':=tk+1) (ch:=[e]) (λ b o hb q=>(hs2.2 b (λ z=>hb (by simp[z]))).trans q) λ b hb=>?_
   have eb:=List.mem_singleton.mp hb;subst eb;obtain⟨f0,f⟩:=hf b (by simp);exact⟨by rw[zAW (neT b (by simp))];exact f0,f⟩
  ·obtain⟨o2,q2,r2⟩:=hst.1
   exact⟨o2,(hs2.2 it hei.symm).trans q2,r2⟩
  ·rw[zAW (neT b hb)];exact(hf b hb).1
 done:=by
  intro X hP hw hK hc i jP s σ H E I hf st hg;subst hP hw hK;obtain⟨xs,hq,hx⟩:=hg;obtain⟨its,rv,p,hz⟩:=I.tuple hq;obtain⟨⟨old,he⟩,hit⟩:=st;have p':s.heap.IsTuple a its.toArray:=p
  have hai:a≠it:=λ z=>by
   obtain⟨o1,q1,c1,_⟩:=p';obtain⟨o2,q2,c2,_⟩:=hit;rw[z,q2] at q1;cases q1;rw[c2] at c1;injection c1 with c3;exact absurd c3 (by decide)
  have hl:=rv.length;have hT:s.TypeIs (.ref e) "enumerate" := ⟨_,he,rfl⟩;unfold pyNext;refine lA (wpAny_attempt (wpAny_callSpecial?_slot (name:=Str.ofString "__next__") hT F.slot_enumerate_next (wpAny_call_entry F.slot_enumerate_next hT F.entry_enumerate_next ?_ (F.args_enumerate_next_1 _))));show wpAny _ _ (field (.ref e) 2 >>= _) _ _ _;refine lA (wpAny_field he rfl (x:=.ref it) rfl ?_);refine lA (zCA (I.ok.hd hc) hit p' (by simp;omega) λ h1 x hx1 ⟨o,ho,hc'⟩=>?_);refine lA (wpAny_isInstance (T := "StopIteration") (b:=true) ⟨o,ho,hc'⟩ isSubtype_stop ?_);exact lB ⟨rfl,I.turnedN (t':=s.toks) (ch:=[it]) (λ b o hb q=>hx1 b o (λ z=>hb (by simp[z])) q) λ b hb=>hf b (by simp at hb ⊢;exact .inr hb)⟩
 self:=λ U U U U U st h=>let ⟨⟨_,he⟩,_⟩:=st;wpAny_pyIter_enum he h
noncomputable def iEnum (K:W.Frag) (ta:TA):TI:=λ σ H R=>ta σ H λ vs H1=>∃a,vs=[.ref a]/\(∃xs,SqT K H1 a xs)/\R (Ite K a) H1
theorem zJf {X:Cx}{es:List Expr}{k:Nat}{tpos:Pos}{a:Expr}{ta:TA}{p pos:Pos}(hg:Gl X "enumerate") (hm:X.mg "enumerate" = none) (ha:PA X [a] ta) (hs:starEach [a] X.env=[(false,eval a X.env)]:=by rfl) :
  PI X (.Tuple es k tpos) (.Call (.Name "enumerate" p) [a] [] pos) (iEnum X.K ta):=by
 intro jP s σ H R I h;refine Call_ (zCr I hg hm boot_enumerate (PyProof.Rows.callWith_type1 (thn (ha pos jP s σ H _ I h) λ us s1 ⟨vs,H1,I1,r1,q1⟩=>?_) hs rfl));obtain⟨b,e,⟨xs,hq⟩,q⟩:=q1;subst e;obtain⟨u,rfl,ru⟩:=vals1 r1;cases ru;obtain⟨its,rv,tp,hz⟩:=I1.tuple hq;refine zGM (show s1.heap.IsTuple b its.toArray from tp) λ h' he hit hsz hk=>?_;refine wpAny_pyIter_enum he ⟨_,[s1.heap.objs.size+1,s1.heap.objs.size],_,_,H1,rfl,I1.kept (t':=s1.toks) hk,zJC b _ _ (Nat.succ_ne_self _),⟨⟨_,he⟩,hit⟩,λ c hc=>?_,q⟩
 have ge:s1.heap.objs.size<=c:=by
  rcases lP.mp hc with z|z
  ·rw[z];exact Nat.le_succ _
  ·rw[List.mem_singleton.mp z];exact lS _
 exact I1.fpOk ge (I1.hok.fresh ge)
theorem zIP {K:W.Frag}{a:Addr}{xs:List V}{g:TG}{tb:TS}{D:Ends}{σ:St}{H:Hp}(Pv:Nat->St->Hp->Prop) (h0:Pv 0 σ H) (hl:∀i σ H,i<=xs.length->Pv i σ H->SqT K H a xs)
  (hs:∀i x T σ H,xs[i]?=some x->Pv i σ H->H T=none->g (.ref T) σ (upd H T (.tup [.int i,x])) λ σ2 H2=>tb { D with nx:=Pv (i+1),ct:=Pv (i+1),bk:=D.nx } σ2 H2) (hd:∀σ H,Pv xs.length σ H->D.nx σ H) :
  ∃W:Nat->Nat->St->Hp->Prop,(∃m,W 0 m σ H)/\∀i m σ H,W i m σ H ->
   ((Ite K a).stop i H/\D.nx σ H)\/((Ite K a).go i H/\∃N:St->Hp->Prop,(∀σ' H',N σ' H'->∃m',m'<m/\W (i+1) m' σ' H')/\∀x H',(Ite K a).yld i H x H'->g x σ H' λ σ2 H2=>tb { D with nx:=N,ct:=N,bk:=D.nx } σ2 H2):=by
 refine⟨λ i m σ H=>m=xs.length - i/\i<=xs.length/\Pv i σ H,⟨xs.length,by simp,lZ _,h0⟩,?_⟩;rintro i m σ H ⟨rfl,hi,p⟩;have q:=hl i σ H hi p
 by_cases hlt:i<xs.length
 ·refine .inr ⟨⟨xs,xs[i],q,by simp[hlt]⟩,Pv (i+1),λ σ' H' p'=>⟨xs.length - (i+1),by omega,rfl,hlt,p'⟩,λ x H' y=>?_⟩
  obtain⟨T,z,hT,ex,eH,y⟩:=y;subst ex eH;exact hs i z T σ H (y xs q) p hT
 ·have e:i=xs.length:=by omega
  subst e;exact .inl ⟨⟨xs,q,lS _⟩,hd σ H p⟩
section
variable {X:Cx}
theorem zAC {H:Hp}{p:Addr}{o:HO}(h:H p=none):Same H (upd H p o):=λ b u q=>by rw[zAW (zAT q h)];exact q
noncomputable def rIsi (K:W.Frag):List V->Hp->VK->Prop:=λ xs H Q=>∃x T t b,xs=[x,.ty T]/\TyOf K H x t/\W.kitOne K t (.type T)=some b/\Q (.bl b) H
theorem zBp:CallR X (.builtin "isinstance") (rIsi X.K):=by
 intro jP s σ H xs us Q I r h;obtain⟨x,T,t,b,rfl,ty,e,q⟩:=h;obtain⟨u,w',rfl,ru,rw'⟩:=vals2 r;cases rw';exact zKJ I ru ty e λ tk=>⟨.bl b,H,I.tok tk,rfl,q⟩
theorem zKY (a b:Str):eqV (.str a) (.str b)=true↔a=b:=by
 constructor
 ·intro h;simpa[eqV] using h
 ·intro h;subst h;simp[eqV]
theorem zFA (xs:List Str):(xs.map V.str).all flatV=true:=by
 rw[List.all_eq_true];intro x hx;obtain⟨y,_,rfl⟩:=mE.mp hx;rfl
noncomputable def zNu:List V->Hp->VK->Prop:=λ xs H Q=>∃(d:Addr) (kvs:List (Key × V)) (ks:List Str),xs=[.ref d]/\H d=some (.dK kvs)/\kvs.map (·.1)=ks.map Sum.inr/\ks.length<64 /\
 ∀(l:Addr) (ss:List Str),H l=none->ss.Perm ks->ss.Pairwise (λ a b=>ltCps b.cps.toList a.cps.toList=false)->Q (.ref l) (upd H l (.lst (ss.map V.str)))
theorem zJL {P:Program}{w:World}:∀{vs:List (Key × Value)}{ks:List Str}{us:List Value},vs.map (·.1)=ks.map Sum.inr->us.length=vs.length ->
  (∀(j:Nat) (v:Value),us[j]?=some v->∃k x,vs[j]?=some (k,x)/\(zAg P w).is k v=true)->StrsAre us ks
 |[],[],[],_,_,_=>.nil
 | (k,x)::vs,y::ks,u::us,e,hl,h=>by
  have e1:k=Sum.inr y:=(List.cons.inj e).1;have e2:vs.map (·.1)=ks.map Sum.inr:=(List.cons.inj e).2;obtain⟨k',x',q,m⟩:=h 0 u rfl;have q':(k,x)=(k',x'):=mG q;cases q';subst e1;rcases zAy (show keyIs (Sum.inr y) u=true from m) with ⟨i,t,z,_⟩|⟨z,t,z1,z2⟩
  ·cases z
  ·cases z1
   subst z2;exact .cons _ t (zJL e2 (by simpa using hl) λ j v hv=>h (j+1) v (by simpa using hv))
 |[],_::_,_,e,_,_=>nomatch e
 |_::_,[],_,e,_,_=>nomatch e
 |[],[],_::_,_,e,_=>nomatch e
 |_::_,_::_,[],_,e,_=>nomatch e
theorem zGN {us:List Value}{ks:List Str}(h:StrsAre us ks):Vals (ks.map V.str) us:=by
 induction h with
 |nil=>exact .nil
 |cons y t r ih=>exact .cons ⟨t,rfl⟩ ih
theorem zKj {a b c:Str}(h1:ltCps b.cps.toList a.cps.toList=false) (h2:ltCps c.cps.toList b.cps.toList=false):ltCps c.cps.toList a.cps.toList=false:=by
 rw[ltCps_eq,decide_eq_false_iff_not] at *;exact List.le_trans (l₁:=a.cps.toList) (l₂:=b.cps.toList) (l₃:=c.cps.toList) h1 h2
theorem zFW:∀(p:Str) (l:List Str),risingS p l=true->(p::l).Pairwise (λ a b=>ltCps b.cps.toList a.cps.toList=false)
 |p,[],_=>by simp
 |p,x::r,h=>by
  have h':(!ltCps x.cps.toList p.cps.toList && risingS x r)=true:=h;rw[Bool.and_eq_true] at h';have h1:ltCps x.cps.toList p.cps.toList=false:=by simpa using h'.1
  have ih:=zFW x r h'.2;refine List.pairwise_cons.mpr ⟨λ y hy=>?_,ih⟩;rcases lP.mp hy with z|z
  ·subst z;exact h1
  ·exact zKj h1 ((List.pairwise_cons.mp ih).1 y z)
theorem zEs:∀{l:List Str},sortedS l=true->l.Pairwise (λ a b=>ltCps b.cps.toList a.cps.toList=false)
 |[],_=>.nil
 |x::r,h=>zFW x r h
theorem zNK {kvs:List (Key × V)}{vs:List (Key × Value)}(h:KV kvs vs):kvs.map (·.1)=vs.map (·.1):=by
 unfold KV at h
 induction h with
 |nil=>rfl
 |cons r _ ih=>simp[r.1,ih]
theorem zC9 (hc:X.calm=true):CallR X (.builtin "sorted") zNu:=by
 intro jP s σ H xs us Q I r h;obtain⟨d,kvs,ks,rfl,hd,hk,h64,q⟩:=h;obtain⟨u,rfl,ru⟩:=vals1 r;cases ru;obtain⟨hz,hsm,vs,kv,hdo⟩:=(show ObjOk X.prog X.w H s.heap d (.dK kvs) from I.hok d _ hd);obtain⟨ep,hat⟩:=hdo.dictAt;have hks:vs.map (·.1)=ks.map Sum.inr:=by rw[←zNK kv];exact hk
 have hn:vs.length=ks.length:=by have:=congrArg List.length hks;simpa using this
 have line:vs.length<=sizeLine:=Nat.le_of_lt (zAQ (by omega));refine Calls.call_function_entry kind_sorted plain_sorted entry_sorted (args_sorted1 _) ?_;unfold Builtin.«sorted»;refine lA (m:=checkCount "sorted" 1 1 _) (lB ?_);refine lA (W.kdu_collect (A:=X.A.in1) (W.kdl_dict (knd:=zAg X.prog X.w) (kvs:=vs) (ep:=ep) hsm) (I.ok.hd hc) hat line λ h1 tk acc hk1 hacc=>?_);have la:acc.toList.length=vs.length:=by rw[Array.length_toList];exact hacc.1
 have hS:StrsAre acc.toList ks:=zJL (P:=X.prog) (w:=X.w) hks la λ j v hv=>hacc.2 j v (by rw[←Array.getElem?_toList];exact hv);have I1:Inv X jP σ H { s with heap:=h1,toks:=tk }:=I.kept hk1;refine lA (wpAny_newList ?_ (by rw[la];exact line));have hoL:(h1.push { cls:=.type "list", data:=.seq acc.toList.toArray }).get? h1.objs.size=some (seqObj "list" acc.toList.toArray 0):=lH _ rfl;refine lA (lE (wpAny_call_entry slot_list_sort ⟨_,hoL,rfl⟩ entry_list_sort (list_sort_treeK strKind_oneLt hoL hS.keysOf (λ a b rest e=>keyKind_strs (ss:=ks) (by rw[←e];exact hS)) (by rw[la,hn];exact h64) λ st' a1 a2=>⟨_,rfl,?_⟩) (args_list_sort _)));obtain⟨ss,b1,b2,b3⟩:=sorted_out_str hS a1 a2;obtain⟨e,he⟩:∃e,(sortedHeap (h1.push { cls:=.type "list", data:=.seq acc.toList.toArray }) h1.objs.size acc.toList ((arrOf st').map (·.2))).get? h1.objs.size=some (seqObj "list" ((arrOf st').map (·.2)) e):=sortedHeap_at hoL;refine lB ⟨_,rfl,⟨.ref h1.objs.size,upd H h1.objs.size (.lst (ss.map V.str)),I1.laid (t':=tk) (a:=h1.objs.size) (o:=.lst (ss.map V.str)) (λ b o hb=>?_) (lS _) ⟨?_,_,e,zGN b1,?_⟩,rfl,q _ ss (I1.hok.fresh (lS _)) b2 (zEs b3)⟩⟩
 ·rw[sortedHeap_old (Nat.ne_of_lt (Heap.lt_size hb)) (by rw[Heap.size_push];exact Nat.lt_succ_of_lt (lI hb))]
  exact lG _ hb
 ·rw[List.length_map,b2.length_eq]
  exact Nat.le_of_lt (zAQ (by omega))
 ·rw[he]
end
structure FnB (P:Program) (w:World) (K:W.Frag) (mg:Str->Option Value) (base:Heap) (k:Nat) (x:Str) (f:Addr) (fd:FuncData) (ps:List Str) (sp:Sp):Prop where
 ok:FnOk P w K mg base CX0 k f fd ps sp
 bd:Binds K fd ps []
 kp:W.keepIn K (.ref f)=true
 gl:mg x=some (.ref f)
theorem pe_cl {X:Cx}{k:Nat}{x:Str}{f:Addr}{fd:FuncData}{ps:List Str}{sp:Sp}{e:Expr}{es:List Expr}{t:TA}{p pos:Pos}(G:FnB X.prog X.w X.K X.mg X.base k x f fd ps sp) (hr:Room k X.A) (ha:PA X (e::es) t) (hg:Gl X x:=by rfl) (hdb:(x==("__debug__":Str))=false:=by decide) (he:starEach (e::es) X.env=(false,eval e X.env)::starEach es X.env:=by rfl) (hpl:(backTo pos (starEach es X.env)).any (·.1)=false:=by rfl):PE X (.Call (.Name x p) (e::es) [] pos) (tCall sp [] E0 t):=zM2 G.ok hr hg G.gl G.kp G.bd .nil pass0 ha hdb he hpl
theorem iC {X:Cx}{r:R2}{a:Expr}{ta:TE}{i j p2 pos} (hr:IxR X r) (ha:PE X a ta):PE X (.Subscript a (.Constant (.int i) j p2) pos) (tOp r ta (tC (.int i))):=pe_ix hr ha zAG (λ U U=>rfl)
theorem FnB.up {P:Program}{w:World}{K:W.Frag}{mg:Str->Option Value}{base:Heap}{j k:Nat}{x:Str}{f:Addr}{fd:FuncData}{ps:List Str}{sp:Sp}(F:FnB P w K mg base j x f fd ps sp) (h:j<=k):FnB P w K mg base k x f fd ps sp :=
 ⟨F.ok.mono h,F.bd,F.kp,F.gl⟩
noncomputable def Tk (H H':Hp):Prop:=∀b xs,H b=some (.tup xs)->H' b=some (.tup xs)
theorem Tk.refl (H:Hp):Tk H H:=λ U U h=>h
theorem Tk.trans {H H1 H2:Hp}(a:Tk H H1) (b:Tk H1 H2):Tk H H2:=λ c xs h=>b c xs (a c xs h)
theorem Same.tk {H H':Hp}(h:Same H H'):Tk H H':=λ b xs e=>h b _ e
theorem Tk.lst {H:Hp}{p:Addr}{xs:List V}{o:HO}(h:H p=some (.lst xs)):Tk H (upd H p o):=λ b ys e=>by
 rw[zAW (λ z=>by subst z;rw[h] at e;cases e)];exact e
theorem Tk.dk {H:Hp}{p:Addr}{kvs:List (Key × V)}{o:HO}(h:H p=some (.dK kvs)):Tk H (upd H p o):=λ b ys e=>by
 rw[zAW (λ z=>by subst z;rw[h] at e;cases e)];exact e
section
variable {X:Cx}
noncomputable def rCatV:R2:=λ x y H Q=>∃a b xs ys,x = .ref a/\y = .ref b/\H a=some (.tup xs)/\H b=some (.tup ys)/\xs.length+ys.length<=sizeLine /\
 ∀p H',Same H H'->H' p=some (.tup (xs++ys))->Q (.ref p) H'
theorem zHU:OpR X (binaryOp .Add) rCatV:=by
 intro jP s σ H x y v u Q I rx ry h;obtain⟨a,b,xs,ys,rfl,rfl,ha,hb,hz,q⟩:=h
 by_cases hx:xs=[]
 ·subst hx
  cases rx;cases ry;obtain⟨its,r1,p1,_⟩:=I.tuple (SqT.of ha);obtain⟨its2,r2,p2,_⟩:=I.tuple (SqT.of hb);have e0:its=[]:=r1.nil_iff.mpr rfl;subst e0;obtain⟨⟨cls,dd,data,sl⟩,ho,hc,n,hd⟩:=id p1;obtain⟨⟨cls2,dd2,data2,sl2⟩,ho2,hc2,n2,hd2⟩:=id p2;simp only at hc hd hc2 hd2;subst hc hd hc2 hd2;exact concat_meets ⟨_,ho,rfl⟩ ⟨_,ho2,rfl⟩ noFill_tuple_add seq_tuple_add PySem.F.slot_tuple_add PySem.F.entry_tuple_add (PySem.F.args_tuple_add_2 _ _) (tuple_addW0 a b _ _ n n2 dd dd2 sl sl2 rfl) ⟨ho,ho2,⟨.ref b,H,I,rfl,q b H (.refl H) hb⟩⟩
 ·refine zM9 jP s σ H (.ref a) (.ref b) v u Q I rx ry ⟨a,b,xs,ys,rfl,rfl,SqT.of ha,SqT.of hb,hx,hz,λ e=>?_,λ e p hp=>?_⟩
  ·subst e
   exact q a H (.refl H) (by rw[List.append_nil];exact ha)
  ·exact q p _ (zAC hp) zAB
noncomputable def rSlV:V->Option Int->Option Int->Hp->VK->Prop:=λ x lo hi H Q=>∃a xs,x = .ref a/\H a=some (.tup xs) /\
 ¬(HT.sIx xs.length 0 lo=0/\HT.sIx xs.length xs.length hi=xs.length)/\∀p H',Same H H'->H' p=some (.tup (cutV xs lo hi))->Q (.ref p) H'
theorem zEB:SlR X rSlV:=by
 intro jP s σ H x v vl vu lo hi sl Q I rx hs pl pu h;obtain⟨a,xs,rfl,ha,hw,q⟩:=h;exact zJQ jP s σ H (.ref a) v vl vu lo hi sl Q I rx hs pl pu ⟨a,xs,rfl,SqT.of ha,hw,λ p hp=>q p _ (zAC hp) zAB⟩
end
inductive Atom where
 |name (x:Str)|num (n:Int)|gap (g:Str)
inductive Bin where
 |add|sub|mul|thn
noncomputable def Bin.s:Bin->Str
 |.add => "add" |.sub => "sub" |.mul => "mul" |.thn => "then"
inductive Tr where
 |num (n:Int)|name (x:Str)|ask (x:Str)|stop (x:Str)|gap (g:Str) (as:List Atom)
 |say (a:Tr)|bin (o:Bin) (a b:Tr)|ite (a b c:Tr)|lett (x:Str) (a b:Tr)
noncomputable def AtRep (H:Hp):Atom->V->Prop
 |.name x,v=>∃a,v = .ref a/\H a=some (.tup [.str "name", .str x])
 |.num n,v=>∃a,v = .ref a/\H a=some (.tup [.str "num", .int n])
 |.gap g,v=>∃a b,v = .ref a/\H a=some (.tup [.str "gap", .str g,.ref b])/\H b=some (.tup [])
noncomputable def Rep (H:Hp):Tr->V->Prop
 |.num n,v=>∃a,v = .ref a/\H a=some (.tup [.str "num", .int n])
 |.name x,v=>∃a,v = .ref a/\H a=some (.tup [.str "name", .str x])
 |.ask x,v=>∃a,v = .ref a/\H a=some (.tup [.str "ask", .str x])
 |.stop x,v=>∃a,v = .ref a/\H a=some (.tup [.str "stop", .str x])
 |.gap g as,v=>∃a b us,v = .ref a/\H a=some (.tup [.str "gap", .str g,.ref b])/\H b=some (.tup us)/\us.length<=1000/\Paired (AtRep H) as us
 |.say t,v=>∃a u,v = .ref a/\H a=some (.tup [.str "say", u])/\Rep H t u
 |.bin o s t,v=>∃a u w,v = .ref a/\H a=some (.tup [.str o.s,u,w])/\Rep H s u/\Rep H t w
 |.ite r s t,v=>∃a u w z,v = .ref a/\H a=some (.tup [.str "if", u,w,z])/\Rep H r u/\Rep H s w/\Rep H t z
 |.lett x s t,v=>∃a u w,v = .ref a/\H a=some (.tup [.str "let", .str x,u,w])/\Rep H s u/\Rep H t w
theorem AtRep.mono {H H':Hp}(k:Tk H H'):∀{t:Atom}{v:V},AtRep H t v->AtRep H' t v
 |.name _,_,⟨a,e,h⟩=>⟨a,e,k _ _ h⟩
 |.num _,_,⟨a,e,h⟩=>⟨a,e,k _ _ h⟩
 |.gap _,_,⟨a,b,e,h,h'⟩=>⟨a,b,e,k _ _ h,k _ _ h'⟩
theorem Rep.mono {H H':Hp}(k:Tk H H'):∀{t:Tr}{v:V},Rep H t v->Rep H' t v
 |.num _,_,⟨a,e,h⟩=>⟨a,e,k _ _ h⟩
 |.name _,_,⟨a,e,h⟩=>⟨a,e,k _ _ h⟩
 |.ask _,_,⟨a,e,h⟩=>⟨a,e,k _ _ h⟩
 |.stop _,_,⟨a,e,h⟩=>⟨a,e,k _ _ h⟩
 |.gap _ _,_,⟨a,b,us,e,h,h',n,p⟩=>⟨a,b,us,e,k _ _ h,k _ _ h',n,Paired.mapP p λ U U z=>z.mono k⟩
 |.say _,_,⟨a,u,e,h,r⟩=>⟨a,u,e,k _ _ h,r.mono k⟩
 |.bin _ _ _,_,⟨a,u,w,e,h,r,s⟩=>⟨a,u,w,e,k _ _ h,r.mono k,s.mono k⟩
 |.ite _ _ _,_,⟨a,u,w,z,e,h,r,s,t⟩=>⟨a,u,w,z,e,k _ _ h,r.mono k,s.mono k,t.mono k⟩
 |.lett _ _ _,_,⟨a,u,w,e,h,r,s⟩=>⟨a,u,w,e,k _ _ h,r.mono k,s.mono k⟩
inductive Kd where
 |num|name|ask|stop|gap|say|add|sub|mul|thn|ite|lett
 deriving DecidableEq
noncomputable def Kd.s:Kd->Str
 |.num => "num" |.name => "name" |.ask => "ask" |.stop => "stop" |.gap => "gap"
 |.say => "say" |.add => "add" |.sub => "sub" |.mul => "mul" |.thn => "then" |.ite => "if" |.lett => "let"
noncomputable def Kd.leaf:Kd->Bool
 |.num=>true|.name=>true|.ask=>true|.stop=>true|.gap=>true
 |_=>false
theorem Kd.inj {a b:Kd}(h:a.s=b.s):a=b:=by
 revert h;cases a<;>cases b<;>first|(intro _;rfl)|(intro h;exact absurd h (by decide +kernel))
theorem Kd.eq_iff {a b:Kd}:(V.str a.s=V.str b.s)↔a=b:=⟨λ h=>Kd.inj (V.str.inj h),λ h=>by rw[h]⟩
noncomputable def Bin.kd:Bin->Kd
 |.add=>.add|.sub=>.sub|.mul=>.mul|.thn=>.thn
noncomputable def Tr.kd:Tr->Kd
 |.num _=>.num|.name _=>.name|.ask _=>.ask|.stop _=>.stop|.gap _ _=>.gap
 |.say _=>.say|.bin o _ _=>o.kd|.ite _ _ _=>.ite|.lett _ _ _=>.lett
noncomputable def Tr.sign (t:Tr):Str:=t.kd.s
theorem Bin.kd_s (o:Bin):o.kd.s=o.s:=by cases o<;>rfl
noncomputable def Tr.parts:Tr->List Tr
 |.say a=>[a]|.bin _ a b=>[a,b]|.ite a b c=>[a,b,c]|.lett _ a b=>[a,b]
 |_=>[]
noncomputable def Tr.head:Tr->Nat
 |.gap _ _=>3|.say _=>1|.bin _ _ _=>1|.ite _ _ _=>1
 |_=>2
theorem Rep.all {H:Hp}:∀{t:Tr}{v:V},Rep H t v->∃a hs us,v = .ref a/\H a=some (.tup (.str t.sign::hs++us))/\hs.length+1=t.head/\Paired (Rep H) t.parts us
 |.num n,_,⟨a,e,h⟩=>⟨a,[.int n],[],e,h,rfl,.nil⟩
 |.name x,_,⟨a,e,h⟩=>⟨a,[.str x],[],e,h,rfl,.nil⟩
 |.ask x,_,⟨a,e,h⟩=>⟨a,[.str x],[],e,h,rfl,.nil⟩
 |.stop x,_,⟨a,e,h⟩=>⟨a,[.str x],[],e,h,rfl,.nil⟩
 |.gap g _,_,⟨a,b,us,e,h,h',_,p⟩=>⟨a,[.str g,.ref b],[],e,h,rfl,.nil⟩
 |.say _,_,⟨a,u,e,h,r⟩=>⟨a,[],[u],e,h,rfl,.cons r .nil⟩
 |.bin o _ _,_,⟨a,u,w,e,h,r,s⟩=>⟨a,[],[u,w],e,(by show _=some (HO.tup [V.str o.kd.s,u,w]);rw[Bin.kd_s];exact h),rfl,.cons r (.cons s .nil)⟩
 |.ite _ _ _,_,⟨a,u,w,z,e,h,r,s,t⟩=>⟨a,[],[u,w,z],e,h,rfl,.cons r (.cons s (.cons t .nil))⟩
 |.lett x _ _,_,⟨a,u,w,e,h,r,s⟩=>⟨a,[.str x],[u,w],e,h,rfl,.cons r (.cons s .nil)⟩
noncomputable def Tr.size:Tr->Nat
 |.say a=>a.size+1|.bin _ a b=>a.size+b.size+1|.ite a b c=>a.size+b.size+c.size+1|.lett _ a b=>a.size+b.size+1
 |_=>1
theorem zAR {α:Type}{F:α->V->Prop}{as:List α}{us:List V}{i:Nat}{u:V}(h:Paired F as us):us[i]?=some u->∃a,as[i]?=some a/\F a u:=by
 induction h generalizing i with
 |nil=>exact λ e=>nomatch e
 |cons h t ih=>cases i with
  |zero=>exact λ e=>⟨_,rfl,by cases e;exact h⟩
  |succ i=>exact λ e=>ih (i:=i) (by simpa using e)
theorem zAO {H H':Hp}{p:Addr}{o:HO}(g:Same H H') (h:H p=none):Same H (upd H' p o):=λ b u q=>by rw[zAW (zAT q h)];exact g b u q
theorem zAM {α:Type}{as:List α}{i:Nat}{a:α}(h:as[i]?=some a):as.take (i+1)=as.take i++[a]:=by
 rw[List.take_add_one,h];rfl
noncomputable def Atom.names:Atom->List Str
 |.name x=>[x]
 |_=>[]
noncomputable def Tr.names:Tr->List Str
 |.name x=>[x]
 |.gap _ as=>as.flatMap Atom.names
 |_=>[]
theorem iteY {c:Prop} [Decidable c] {A B:Prop}(hc:c) (h:A):if decide c=true then A else B:=by rw[if_pos (decide_eq_true hc)];exact h
theorem iteN {c:Prop} [Decidable c] {A B:Prop}(hc:¬c) (h:B):if decide c=true then A else B:=by rw[if_neg (by rw[decide_eq_false hc];exact lY)];exact h
theorem zAe {n:Nat}(h:n<=1000):n<=sizeLine:=Nat.le_of_lt (zAQ h)
noncomputable def zDg:List Expr->Option (List V)
 |[]=>some []
 |.Constant (.str x) _ _::r=>(zDg r).map λ l=>V.str x::l
 |.Constant (.int i) _ _::r=>(zDg r).map λ l=>V.int i::l
 |_=>none
noncomputable def tRow (vs:List V):TA:=λ U H Q=>Q vs H
theorem zMJ {X:Cx}{es:List Expr}:∀(vs:List V),zDg es=some vs->PA X es (tRow vs):=by
 induction es with
 |nil=>intro vs h;cases h;exact zAD
 |cons e r ih =>
  intro vs h;cases e with
  |Constant c j p =>
   cases c with
   |str x =>
    obtain⟨l,hl,e⟩:=lW.mp (show (zDg r).map (λ l=>V.str x::l)=some vs from h);subst e;exact zAA zAd (ih l hl)
   |int x =>
    obtain⟨l,hl,e⟩:=lW.mp (show (zDg r).map (λ l=>V.int x::l)=some vs from h);subst e;exact zAA zAG (ih l hl)
   |_=>cases h
  |_=>cases h
noncomputable def rowT:Expr->Option (List V)
 |.Tuple es _ _=>zDg es
 |_=>none
noncomputable def rowL:Expr->Option (List V)
 |.List es _=>zDg es
 |_=>none
theorem zF3 {X:Cx}{e:Expr}(vs:List V) (h:rowT e=some vs):PE X e (tTup (tRow vs)):=by
 unfold rowT at h;split at h
 ·exact zAj (zMJ vs h)
 ·cases h
theorem zJi {X:Cx}{e:Expr}(vs:List V) (h:rowL e=some vs):PE X e (tLst (tRow vs)):=by
 unfold rowL at h;split at h
 ·exact zA2 (zMJ vs h)
 ·cases h
end L2
namespace L2
open PySem
abbrev DRow:=Str × (Str ⊕ Int)
abbrev En:=Str->Int
abbrev Res:=List DRow × (Int ⊕ Str)
noncomputable def askR (x:Str):DRow:=("ask", .inl x)
noncomputable def sayR (n:Int):DRow:=("say", .inr n)
noncomputable def Bin.op:Bin->Int->Int->Int
 |.add,m,n=>(m+n) % 10 ^ 30
 |.sub,m,n=>(m - n) % 10 ^ 30
 |.mul,m,n=>(m * n) % 10 ^ 30
 |.thn,_,n=>n
noncomputable def En.set (e:En) (x:Str) (n:Int):En:=λ y=>if y=x then n else e y
noncomputable def pre (D:List DRow) (o:Option Res):Option Res:=o.map λ q=>(D++q.1,q.2)
noncomputable def seqR (r:Option Res) (k:Int->Option Res):Option Res:=r.bind λ r=>match r.2 with
 |.inr w=>some (r.1,.inr w)
 |.inl n=>pre r.1 (k n)
noncomputable def ev (a:En):Tr->En->Option Res
 |.num n,_=>some ([],.inl n)
 |.name x,e=>some ([],.inl (e x))
 |.ask x,_=>some ([askR x],.inl (a x))
 |.stop x,_=>some ([],.inr x)
 |.gap _ _,_=>none
 |.say t,e=>seqR (ev a t e) λ n=>some ([sayR n],.inl n)
 |.bin o s t,e=>seqR (ev a s e) λ m=>seqR (ev a t e) λ n=>some ([],.inl (o.op m n))
 |.ite c s t,e=>seqR (ev a c e) λ n=>if n=0 then ev a t e else ev a s e
 |.lett x s t,e=>seqR (ev a s e) λ n=>ev a t (e.set x n)
noncomputable def aft (a:En) (t:Tr) (e:En) (E:List Int):Option (Option Res × List Int) :=
 match t with
 |.say _=>match E with
  |n::E=>some (some ([sayR n],.inl n),E)
  |_=>none
 |.bin .thn _ t=>match E with
  |_::E=>some (ev a t e,E)
  |_=>none
 |.bin o _ _=>match E with
  |n::m::E=>some (some ([],.inl (o.op m n)),E)
  |_=>none
 |.ite _ s t=>match E with
  |n::E=>some (if n=0 then ev a t e else ev a s e,E)
  |_=>none
 |.lett x _ t=>match E with
  |n::E=>some (ev a t (e.set x n),E)
  |_=>none
 |_=>none
abbrev Item:=Tr × En × Bool
noncomputable def cont (a:En):List Item->List Int->Option Res
 |[],[]=>none
 |[],n::_=>some ([],.inl n)
 | (t,e,false)::W,E=>seqR (ev a t e) λ n=>cont a W (n::E)
 | (t,e,true)::W,E=>(aft a t e E).bind λ p=>seqR p.1 λ n=>cont a W (n::p.2)
section
variable {a e:En}{W:List Item}{E:List Int}
end
end L2
namespace L2
open PySem PySem.Spec PyProof.Rows
noncomputable def tOrT (K:W.Frag) (ta tb:TE):TE:=λ σ H Q=>ta σ H λ x H1=>∃k,TruV K x H1 k/\if k=true then Q x H1 else tb σ H1 Q
theorem zN4 {X:Cx}{a b:Expr}{rest:List Expr}{pos:Pos}{ta tb:TE}(ha:PE X a ta) (hb:PE X (.BoolOp .Or (b::rest) pos) tb):PE X (.BoolOp .Or (a::b::rest) pos) (tOrT X.K ta tb):=by
 intro jP s σ H Q I h;refine BoolOp_or (thn (ha jP s σ H _ I h) λ v s1 ⟨x,H1,I1,r1,k,e1,q1⟩=>?_);refine thn (zMD jP s1 σ H1 x v (λ c H2=>if c=true then Q x H2 else tb σ H2 Q) I1 r1 ⟨k,e1,q1⟩) λ c s2 ⟨H2,I2,q2⟩=>?_;cases c with
 |true=>exact⟨x,H2,I2,r1,q2⟩
 |false=>exact hb jP s2 σ H2 Q I2 q2
theorem zI4 {X:Cx}:CallR X (.type "dict") (λ xs H Q=>∃a kvs,xs=[V.ref a]/\H a=some (.dK kvs)/\∀p,H p=none->Q (.ref p) (upd H p (.dK kvs))):=by
 intro jP s σ H xs us Q I r h;obtain⟨a,kvs,rfl,ha,q⟩:=h;obtain⟨u,rfl,ru⟩:=vals1 r;cases ru;exact zL3 I (.inl ha) λ p s' hp I'=>⟨.ref p,_,I',rfl,q p hp⟩
section
variable {P:Program}{w:World}{K:W.Frag}{mg:Str->Option Value}{base:Heap}
end
section
variable {prog:Program}{w:World}{A:Around}{E:Value->Shared->Prop}{s:Shared}
end
section
variable {aA dl el wl:Addr}
end
section
variable {C:Addr}{H H':Hp}{p aA dl el wl:Addr}{ds es ws:List V}
end
theorem zAP {α:Type}{F:α->V->Prop}{as bs:List α}{us vs:List V}(h:Paired F as us) (k:Paired F bs vs):Paired F (as++bs) (us++vs):=by
 induction h with
 |nil=>exact k
 |cons r t ih=>exact .cons r ih
section
variable {C:Addr}{H H':Hp}{p aA dl el wl:Addr}{a:En}{W:List Item}{E:List Int}{D:List DRow}
end
theorem zAH {α:Type}{F:α->V->Prop}{as:List α}{us:List V}(h:Paired F as us):us.length=as.length:=h.length.symm
theorem zGW:∀{ys:List Str}{us:List Value},Vals (ys.map V.str) us->StrsAre us ys
 |[],_,h=>by cases h;exact .nil
 |y::ys,_,h=>by
  cases h with
  |cons r t =>
   obtain⟨tk,rfl⟩:=r;exact .cons y tk (zGW t)
theorem zCm {lo:Int}{n:Nat}{acc:Addr}{g:TG}{tt:TT}{te:TE}{σ:L2.St}{H:Hp}{R:Hp->Prop}(Pv:Nat->Hp->Prop) (h0:Pv 0 (upd H acc (.lst [])))
  (hs:∀i H,i<n->Pv i H->g (.int (lo+i)) σ H λ σ2 H4=>Ext σ σ2/\tt σ2 H4 λ b H5 =>
   if b=true then te σ2 H5 λ y H6=>∃zs,H6 acc=some (.lst zs)/\zs.length<sizeLine/\Pv (i+1) (upd H6 acc (.lst (zs++[y]))) else Pv (i+1) H5) (hd:∀H,Pv n H->R H) :
  ∃W:Nat->Nat->Hp->Prop,(∃m,W 0 m (upd H acc (.lst [])))/\∀i m H2,W i m H2 ->
   ((Itr lo n).stop i H2/\R H2)\/((Itr lo n).go i H2/\∃N:Hp->Prop,(∀H',N H'->∃m',m'<m/\W (i+1) m' H')/\∀x H3,(Itr lo n).yld i H2 x H3->g x σ H3 λ σ2 H4=>Ext σ σ2/\tt σ2 H4 λ b H5 =>
    if b=true then te σ2 H5 λ y H6=>∃zs,H6 acc=some (.lst zs)/\zs.length<sizeLine/\N (upd H6 acc (.lst (zs++[y])))
    else N H5):=zI3 (Q:=λ U H=>R H) Pv h0 hs hd
theorem zBZ {K:W.Frag}{a:Addr}{xs:List V}{acc:Addr}{g:TG}{tt:TT}{te:TE}{σ:L2.St}{H:Hp}{R:Hp->Prop}(Pv:Nat->Hp->Prop) (h0:Pv 0 (upd H acc (.lst []))) (hl:∀i H,i<=xs.length->Pv i H->SqL K H a xs)
  (hs:∀i x H,xs[i]?=some x->Pv i H->g x σ H λ σ2 H4=>Ext σ σ2/\tt σ2 H4 λ b H5 =>
   if b=true then te σ2 H5 λ y H6=>∃zs,H6 acc=some (.lst zs)/\zs.length<sizeLine/\Pv (i+1) (upd H6 acc (.lst (zs++[y]))) else Pv (i+1) H5) (hd:∀H,Pv xs.length H->R H) :
  ∃W:Nat->Nat->Hp->Prop,(∃m,W 0 m (upd H acc (.lst [])))/\∀i m H2,W i m H2 ->
   ((Itl K a).stop i H2/\R H2)\/((Itl K a).go i H2/\∃N:Hp->Prop,(∀H',N H'->∃m',m'<m/\W (i+1) m' H')/\∀x H3,(Itl K a).yld i H2 x H3->g x σ H3 λ σ2 H4=>Ext σ σ2/\tt σ2 H4 λ b H5 =>
    if b=true then te σ2 H5 λ y H6=>∃zs,H6 acc=some (.lst zs)/\zs.length<sizeLine/\N (upd H6 acc (.lst (zs++[y])))
    else N H5):=by
 refine⟨λ i m H=>m=xs.length - i/\i<=xs.length/\Pv i H,⟨xs.length,by simp,lZ _,h0⟩,?_⟩;rintro i m H2 ⟨rfl,hi,p⟩;have q:=hl i H2 hi p
 by_cases hlt:i<xs.length
 ·refine .inr ⟨⟨xs,xs[i],q,by simp[hlt]⟩,Pv (i+1),λ H' p'=>⟨xs.length - (i+1),by omega,rfl,hlt,p'⟩,λ x H' y=>?_⟩
  obtain⟨e,y⟩:=y;subst e;exact hs i x _ (y xs q) p
 ·have e:i=xs.length:=by omega
  subst e;exact .inl ⟨⟨xs,q,lS _⟩,hd H2 p⟩
theorem zGr:∀{ns:List Int}{us:List Value},Vals (ns.map V.int) us->IntsAre us ns
 |[],_,h=>by cases h;exact .nil
 |n::ns,_,h=>by
  cases h with
  |cons r t =>
   obtain⟨tk,rfl⟩:=r;exact .cons n tk (zGr t)
theorem zMm {n d:Nat}{k:Nat}(hk:0<k) (h:k<=n):HT.sIx n d (some (-(k:Int)))=n - k:=by
 show (if -(k:Int)<0 then (-(k:Int)+n).toNat else _)=_;rw[if_pos (by omega)];omega
section
variable {prog:Program}{w:World}
open AutoSeq1 (wpAny_loadPart')
open MeetsSeq MeetsSeq2 MeetsSeq3 SeqAt
end
end L2
set_option maxHeartbeats 1000000
namespace L2
open PySem PySem.Spec PyProof.Rows
section
variable {X:Cx}
theorem zMv {elt tg iter:Expr}{y:Str}{py spos:Pos}{jj:Nat}{ifs:List Expr}{sc:Scope}{pos:Pos}{wi:TI}{g:TG}{tt:TT}{te:TE}(N:List Str) (cap:List (Option Nat)) (hc:X.calm=true) (hi:PI X tg iter wi)
    (hg:∀cl s H C ex,PG (X.block sc cl N s H C ex) tg g) (ht:∀cl s H C ex,PTs (X.block sc cl N s H C ex) ifs tt) (he:∀cl s H C ex,PE (X.block sc cl N s H C ex) elt te)
    (hk:sc.kind = .function) (nc:∀y∈sc.names,y.2 ≠ .cell) (hnames:∀y∈sc.names,y.2 = .local->sc.names.lookup y.1=some .local)
    (hfree:∀n,(n,NameKind.free)∈sc.names->X.env.kindOf n=some .cell)
    (hcap:∀(i j:Nat),cap[i]?=some (some j)->∃x,N[i]?=some x/\X.N[j]?=some x/\sc.names.lookup x=some .free) (hlen:cap.length=N.length)
    (hN:X.N.Nodup) (hjj:X.N[jj]?=some y) (hxx:Loc X.env.scope y) (hf:X.fn y=true\/X.env.scope.names.lookup y=some .local)
    (hsw:swapsWith (.ListComp elt [⟨tg,iter,ifs,0⟩] sc pos) (some (.Name y py)) spos.line X.env=pure true)
    (hs:∀x,foldedSetIterable iter X.env x=pure x:=by intro _;rfl):PS X (.Assign [.Name y py] (.ListComp elt [⟨tg,iter,ifs,0⟩] sc pos) spos) (tAsg (tComp cap wi g tt te) (gName jj)):=by
  intro jP s σ H D I h;obtain⟨cl,hclos,c1,c2⟩:=zFl (sc:=sc) (env:=X.env) λ n hn=>I.ok.has n (.inl (hfree n hn));rw[exec_Assign_Name_used _ _ _ _ hsw];refine lA (wpAny_standAt (lA ?_));show wpAny _ X.A (do let _ ← comprehension (.ListComp elt [⟨tg,iter,ifs,0⟩] sc pos) sc X.env _ (newList []) false (eval iter X.env) (some (assign (.Name y py) X.env))) _ _ s;refine lA (wpAny_mono (wpAny_comprehension_free (use:=some (assign (.Name y py) X.env)) (Q:=λ U s'=>SP X jP D .next s') rfl hs hclos hk hnames ?_) (λ U s' hq=>lB (lB hq)) λ U U e=>e);refine thn (hi jP s σ H _ I h) λ v s1 h1=>thn h1 λ itv s2 h2=>?_;obtain⟨it,fp,tn,J,H2,e,I2,T,st2,f2,q2⟩:=h2;subst e;have hfr:H2 s2.heap.objs.size=none:=I2.fresh;obtain⟨W,⟨m0,w0⟩,turn⟩:=q2 s2.heap.objs.size hfr;have I3:=I2.lnew (ys:=[]) (its:=[]) (t':=s2.toks) .nil (lZ _);have hacc:H2 s2.heap.objs.size=none:=hfr;refine wpAny_newObj_type (wpAny_newFunctionEnv nc (by intro y hy;simp at hy) (λ h4 hns hsb=>?_) hk);generalize hs3:({ s2 with heap:=s2.heap.push { cls:=.type "list", data:=.seq ([]:List Value).toArray } }:Shared)=s3 at hns hsb I3 ⊢;have hheap:s3.heap=s2.heap.push { cls:=.type "list", data:=.seq ([]:List Value).toArray }:=by rw[←hs3]
  generalize hH3:upd H2 s2.heap.objs.size (.lst [])=H3 at I3 w0;have up2:∀b o,s2.heap.get? b=some o->s3.heap.get? b=some o:=λ b o q=>by rw[hheap];exact lG _ q
  have neA:∀b∈fp,b≠s2.heap.objs.size:=λ b hb=>by
    obtain⟨o,q,_⟩:=T.obj _ _ st2 b hb;exact lT (lI q)
  have f3:∀b∈fp,FpOk X jP H3 b:=λ b hb=>⟨by rw[←hH3,zAW (neA b hb)];exact(f2 b hb).1,(f2 b hb).2⟩
  have o3:∀b∈fp,∃o,s3.heap.get? b=some o:=λ b hb=>by
    obtain⟨o,q,_⟩:=T.obj _ _ st2 b hb;exact⟨o,up2 b o q⟩
  have ok':=zIX (N:=N) (C:=s3.heap.objs.size) I3 hk nc (lS _) f3 o3 c1 c2;generalize hC:s3.heap.objs.size=C at hns hsb ok' ⊢;have ltC:∀b o,s3.heap.get? b=some o->b≠C:=λ b o q=>by rw[←hC];exact lT (lI q)
  have up4:∀b o,s3.heap.get? b=some o->h4.get? b=some o:=λ b o q=>hsb.extBut b o (ltC b o q) (lG _ q);have st4:tn 0 h4:=T.keep _ _ _ st2 λ b hb o q=>up4 b o (up2 b o q)
  have I4:Inv (X.block sc cl N s3 H3 C fp) [] (capSt cap σ) H3 { s3 with heap:=h4,toks:=s3.toks+([]:List (Str × Value)).length }:=by
    refine⟨ok',rfl,I3.bare,Un.kept up4,⟨_,hns,λ i x v e1 e2 e3=>?_⟩,λ x c q=>?_,?_,λ x c q=>I3.freeC x c (c1 x c q),λ p hp=>(nomatch hp),I3.hok.kept up4,?_⟩
    · have ee:∃j,cap[i]?=some (some j)/\σ[j]?=some (some v):=by
        unfold capSt at e2;rw[List.getElem?_map] at e2;cases q:cap[i]? with
        |none=>rw[q] at e2;cases e2
        |some o =>
          rw[q] at e2;cases o with
          |none=>cases e2
          |some j =>
            refine⟨j,rfl,?_⟩;have e2':some ((σ[j]?).join)=some (some v):=e2;cases z:σ[j]? with
            |none=>rw[z] at e2';cases e2'
            |some o' =>
              rw[z] at e2';have e2'':o'=some v:=mG e2';rw[e2'']
      obtain⟨j,ej,es⟩:=ee;obtain⟨x',n1,n2,n3⟩:=hcap i j ej;have e1':N[i]?=some x:=e1;rw[n1] at e1';cases e1';have hfr':(x,NameKind.free)∈sc.names:=zEG n3;have kc:=hfree x hfr';obtain⟨m,_,hl⟩:=I3.loc;obtain⟨u,r,l⟩:=hl j x v n2 es (.inr (.inl kc));refine⟨u,r,?_⟩;rcases l with ⟨l,_⟩|⟨_,c,ec,z⟩
      · rw[kc] at l;cases l
      · obtain⟨c',ec'⟩:=c2 x hfr'
        have:=c1 x c' ec';rw[ec] at this;cases this;obtain⟨oc,q1,q2⟩:=z;exact .inr ⟨zBM (sc:=sc) n3,c,ec',oc,up4 _ _ q1,q2⟩
    · obtain⟨v,oc,q1,q2⟩:=I3.cell x c (c1 x c q)
      exact⟨v,oc,up4 _ _ q1,q2⟩
    · exact I3.hok.fresh (by rw[hC];exact lS _)
    · show (capSt cap σ).length=N.length
      unfold capSt;rw[List.length_map,hlen]
  have loop:codeAny (model X.prog X.w) X.A (.compLoop (.ListComp elt [⟨tg,iter,ifs,0⟩] sc pos) 0 (.ref it) (.ref s2.heap.objs.size) (compEnvC sc cl C X.env)) (compPost (model X.prog X.w) X.A X.xe (some (assign (.Name y py) X.env)) (λ U s'=>SP X jP D .next s') (.ref s2.heap.objs.size) C)
      { s3 with heap:=h4,toks:=s3.toks+([]:List (Str × Value)).length }:=by
    have stat:∀{H':Hp},(∀b∈fp,H' b=none)->∀b∈fp,FpOk (X.block sc cl N s3 H3 C fp) [] H' b:=λ hn b hb =>
      ⟨hn b hb,(ok'.exf b hb).1,ok'.exfs b hb,.inl hb,(ok'.exf b hb).2,λ p hp=>(nomatch hp)⟩
    refine zGy (λ n s'=>∃i H',Inv (X.block sc cl N s3 H3 C fp) [] (capSt cap σ) H' s'/\tn i s'.heap/\(∀b∈fp,H' b=none)/\W i n H') ?_ m0 ⟨0,H3,I4,st4,λ b hb=>(f3 b hb).1,w0⟩;rintro n s5 ⟨i,H5,I5,st5,fr5,w5⟩;rcases turn i n H5 w5 with ⟨stop,qn⟩|⟨go,N',hN',step⟩
    · refine thn (T.done (X.block sc cl N s3 H3 C fp) rfl rfl rfl hc i [] s5 _ H5 NoX I5 (stat fr5) st5 stop) λ r s6 ⟨hr,I6⟩=>?_
      subst hr;obtain⟨m,hm,_⟩:=I6.loc
      have I7:Inv X jP σ H5 s6:=by
        refine I3.call' (s':=s6) (ch:=fp) I6.os I6.base I6.hok I6.bare λ b hb=>?_;obtain⟨g0,g1,g2,g3,g4,g5⟩:=f3 b hb;exact⟨g3,g1,g4,g5⟩
      have hCl:X.env.locals≠C:=by
        obtain⟨_,hn3,_⟩:=I3.loc;rw[←hC];exact lT hn3.lt
      have hCc:∀x c,X.env.cells.lookup x=some c->c≠C:=λ x c q=>by
        obtain⟨v,oc,q1,q2⟩:=I3.cell x c q;exact ltC _ _ q1
      refine wpAny_assign_Name (zGX I7 hN hjj hxx (v:=.ref s2.heap.objs.size) rfl (λ s9 I9 ⟨a9,sb9,ha9⟩=>?_) hf)
      have hCa:a9≠C:=by
        rcases ha9 with rfl|z
        · exact hCl
        · exact hCc _ _ z
      refine⟨m,hm.sameBut sb9 (Ne.symm hCa),λ h' sb=>⟨_,H5,?_,qn⟩⟩;refine I9.call' (s':={ s9 with heap:=h' }) (ch:=[C]) rfl ?_ (I9.hok.but I6.free sb) I9.bare λ b hb=>?_
      · have st:∀b o,s9.heap.get? b=some o->b∉[C]->h'.get? b=some o:=λ b o q hx=>(sb.2 b (λ z=>hx (by rw[z];exact List.mem_singleton.mpr rfl))).trans q
        exact⟨λ b o q U U hx=>st b o q hx,λ b o q U U hx=>⟨o.slots,st b o q hx⟩,λ b o q n U=>n,λ b o q hx=>⟨o,st b o q hx⟩,λ U U q=>q,λ U U U q=>q,λ b ps q=>⟨#[],by simpa using q⟩⟩
      · rw[List.mem_singleton.mp hb]
        exact⟨.inr (by rw[←hC];exact I3.sz),Ne.symm hCl,hCc,λ p hp=>ltC _ _ (I3.pin p hp).1⟩
    · refine thn (T.item (X.block sc cl N s3 H3 C fp) rfl rfl rfl hc i [] s5 _ H5 NoX I5 (stat fr5) st5 go) λ r s6 ⟨u,hr,h6⟩=>?_
      subst hr;refine thn h6 λ _ s7 ⟨x,H7,I7,r7,y7,st7,fr7⟩=>?_;have I7':=I7.pinned (stat fr7) (T.obj _ _ st7)
      have again:∀{σ8:St}{H8:Hp}{s8:Shared},Inv (X.block sc cl N s3 H3 C fp) ([]++zFY fp s7.heap) σ8 H8 s8->Ext (capSt cap σ) σ8->N' H8 ->
          ∃m,m<n/\∃i H',Inv (X.block sc cl N s3 H3 C fp) [] (capSt cap σ) H' s8/\tn i s8.heap/\(∀b∈fp,H' b=none)/\W i m H':=λ{σ8 H8 s8} I8 ex n8=>by
        obtain⟨m',hm,w8⟩:=hN' H8 n8;have I8':=I8.unpinned.weak ex.len ex.get;refine⟨m',hm,i+1,H8,I8',T.keep _ _ _ st7 λ b hb o q=>(I8.pin (b,o) (mC _ (mC _ (zBq hb q)))).1,λ b hb=>?_,w8⟩;obtain⟨o,q,d⟩:=T.obj _ _ st7 b hb;exact(I8.pin (b,o) (mC _ (mC _ (zBq hb q)))).2.1
      refine thn (hg cl s3 H3 C fp _ s7 _ H7 x u _ I7' r7 (step x H7 y7)) λ _ s8 ⟨σ8,H8,I8,ex8,q8⟩=>?_;refine thn (ht cl s3 H3 C fp _ s8 σ8 H8 _ I8 q8) λ b s9 ⟨H9,I9,q9⟩=>?_;cases b with
      |false=>exact again I9 ex8 q9
      |true =>
        rw[if_pos rfl] at q9 ⊢;refine thn (he cl s3 H3 C fp _ s9 σ8 H9 _ I9 q9) λ yv s10 ⟨y,H10,I10,r10,zs,e10,l10,q10⟩=>?_;refine thn (zA8 (X:=X.block sc cl N s3 H3 C fp) _ s10 σ8 H10 (.ref s2.heap.objs.size) [y] (.ref s2.heap.objs.size) [yv] (λ U H'=>N' H') I10 rfl (.cons r10 .nil) ⟨_,zs,y,rfl,rfl,e10,l10,q10⟩) λ _ s11 ⟨_,H11,I11,_,q11⟩=>?_;exact again I11 ex8 q11
  exact codeAny_compStart_list loop (T.self X.A 0 _ _ _ st4 loop)
theorem zH9 {elt tg iter:Expr}{y:Str}{py spos:Pos}{jj:Nat}{ifs:List Expr}{sc:Scope}{pos:Pos}{wi:TI}{g:TG}{tt:TT}{te:TE}(N:List Str) (cap:List (Option Nat)) (hc:X.calm=true) (hi:PI X tg iter wi)
  (hg:∀cl s H C ex,PG (X.block sc cl N s H C ex) tg g) (ht:∀cl s H C ex,PTs (X.block sc cl N s H C ex) ifs tt) (he:∀cl s H C ex,PE (X.block sc cl N s H C ex) elt te)
  (ck:zIV sc X.env X.N N cap=true) (hN:X.N.Nodup) (hjj:X.N[jj]?=some y) (hxx:Loc X.env.scope y) (hf:X.fn y=true\/X.env.scope.names.lookup y=some .local)
  (hsw:swapsWith (.ListComp elt [⟨tg,iter,ifs,0⟩] sc pos) (some (.Name y py)) spos.line X.env=pure true:=by rfl) (hs:∀x,foldedSetIterable iter X.env x=pure x:=by intro _;rfl):PS X (.Assign [.Name y py] (.ListComp elt [⟨tg,iter,ifs,0⟩] sc pos) spos) (tAsg (tComp cap wi g tt te) (gName jj)):=by
 unfold zIV at ck;simp only[Bool.and_eq_true] at ck;obtain⟨⟨⟨⟨⟨k1,k2⟩,k3⟩,k4⟩,k5⟩,k6⟩:=ck;refine zMv N cap hc hi hg ht he (by simpa using k1) (λ y hy=>?_) (λ y hy z=>?_) (λ n hn=>?_) (λ i j e=>?_) (by simpa using k6) hN hjj hxx hf hsw hs
 ·have:=List.all_eq_true.mp k2 y hy
  simpa using this
 ·have:=List.all_eq_true.mp k3 y hy
  rw[z] at this;simpa using this
 ·have:=List.all_eq_true.mp k4 _ hn
  simpa using this
 ·have hi:i<cap.length:=(lJ.mp e).1
  have:=List.all_eq_true.mp k5 i (List.mem_range.mpr hi);rw[e] at this;dsimp only at this;cases q:N[i]? with
  |none=>rw[q] at this;cases this
  |some x =>
   rw[q] at this;dsimp only at this;rw[Bool.and_eq_true] at this;exact⟨x,rfl,by simpa using this.1,by simpa using this.2⟩
end
end L2
set_option maxHeartbeats 4000000
namespace L2
open PySem PySem.Spec PyProof.Rows
inductive Dt where
 |int (i:Int)|str (x:Str)|tup (ds:List Dt)
mutual
def Dt.beq:Dt->Dt->Bool
 |.int i,.int j=>decide (i=j)
 |.str x,.str y=>decide (x=y)
 |.tup ds,.tup es=>Dt.beqs ds es
 |_,_=>false
def Dt.beqs:List Dt->List Dt->Bool
 |[],[]=>true
 |d::ds,e::es=>Dt.beq d e && Dt.beqs ds es
 |_,_=>false
end
mutual
theorem Dt.beq_iff:∀{d e:Dt},Dt.beq d e=true↔d=e
 |.int i,.int j=>by simp[Dt.beq]
 |.str x,.str y=>by simp[Dt.beq]
 |.tup ds,.tup es=>by
  have:=Dt.beqs_iff (ds:=ds) (es:=es);simp[Dt.beq,this]
 |.int _,.str _=>by simp[Dt.beq]
 |.int _,.tup _=>by simp[Dt.beq]
 |.str _,.int _=>by simp[Dt.beq]
 |.str _,.tup _=>by simp[Dt.beq]
 |.tup _,.int _=>by simp[Dt.beq]
 |.tup _,.str _=>by simp[Dt.beq]
theorem Dt.beqs_iff:∀{ds es:List Dt},Dt.beqs ds es=true↔ds=es
 |[],[]=>by simp[Dt.beqs]
 |[],_::_=>by simp[Dt.beqs]
 |_::_,[]=>by simp[Dt.beqs]
 |d::ds,e::es=>by
  have h1:=Dt.beq_iff (d:=d) (e:=e);have h2:=Dt.beqs_iff (ds:=ds) (es:=es);simp[Dt.beqs,h1,h2]
end
mutual
noncomputable def Dt.deep:Dt->Nat
 |.tup ds=>Dt.deeps ds+1
 |_=>0
noncomputable def Dt.deeps:List Dt->Nat
 |[]=>0
 |d::ds=>max (Dt.deep d) (Dt.deeps ds)
end
mutual
inductive DR (H:Hp):Dt->V->Prop
 |int (i:Int):DR H (.int i) (.int i)
 |str (x:Str):DR H (.str x) (.str x)
 |tup {a:Addr}{xs:List V}{ds:List Dt}:H a=some (.tup xs)->DRs H ds xs->DR H (.tup ds) (.ref a)
inductive DRs (H:Hp):List Dt->List V->Prop
 |nil:DRs H [] []
 |cons {d:Dt}{v:V}{ds:List Dt}{vs:List V}:DR H d v->DRs H ds vs->DRs H (d::ds) (v::vs)
end
theorem DRs.length {H:Hp}:∀{ds:List Dt}{vs:List V},DRs H ds vs->ds.length=vs.length
 |_,_,.nil=>rfl
 |_,_,.cons _ t=>congrArg (· + 1) t.length
mutual
theorem DR.inj {H:Hp}:∀{d e:Dt}{v:V},DR H d v->DR H e v->d=e
 |_,_,_,.int _,.int _=>rfl
 |_,_,_,.str _,.str _=>rfl
 |_,_,_,.tup h r,.tup h' r'=>by
  rw[h] at h';cases h';rw[DRs.inj r r']
theorem DRs.inj {H:Hp}:∀{ds es:List Dt}{vs:List V},DRs H ds vs->DRs H es vs->ds=es
 |_,_,_,.nil,.nil=>rfl
 |_,_,_,.cons r t,.cons r' t'=>by rw[DR.inj r r',DRs.inj t t']
end
theorem DRs.get {H:Hp}:∀{ds:List Dt}{vs:List V}{j:Nat}{v:V},DRs H ds vs->vs[j]?=some v->∃d,ds[j]?=some d/\DR H d v
 |_,_,_,_,.nil,e=>by simp at e
 |_,_,0,_,.cons r _,e=>by simp at e;subst e;exact⟨_,rfl,r⟩
 |_,_,j+1,v,.cons _ t,e=>by
  obtain⟨d,h1,h2⟩:=DRs.get (j:=j) (v:=v) t (by simpa using e);exact⟨d,by simpa using h1,h2⟩
theorem zIT:∀{ds:List Dt}{j:Nat}{d:Dt},ds[j]?=some d->d.deep<=Dt.deeps ds
 |[],_,_,h=>by simp at h
 |e::ds,0,d,h=>by simp at h;subst h;simp[Dt.deeps];omega
 |e::ds,j+1,d,h=>by
  have:=zIT (ds:=ds) (j:=j) (d:=d) (by simpa using h);simp[Dt.deeps];omega
theorem zL5:∀(ds es:List Dt),Dt.beqs ds es=((List.range (min ds.length es.length)).all (λ j=>match ds[j]?,es[j]? with|some d,some e=>Dt.beq d e|_,_=>false) && ds.length == es.length):=by
 intro ds es;rw[Bool.eq_iff_iff,Dt.beqs_iff,Bool.and_eq_true,List.all_eq_true];constructor
 ·rintro rfl
  refine⟨λ j hj=>?_,by simp⟩;have hj':j<ds.length:=by simpa using List.mem_range.mp hj
  simp[List.getElem?_eq_getElem hj',Dt.beq_iff]
 ·rintro⟨h,hl⟩
  have hl':ds.length=es.length:=by simpa using hl
  refine List.ext_getElem hl' λ j h1 h2=>?_;have:=h j (List.mem_range.mpr (by omega));simpa[List.getElem?_eq_getElem h1,List.getElem?_eq_getElem h2,Dt.beq_iff] using this
section
variable {X:Cx}{jP:List (Addr × Obj)}{σ:St}{H:Hp}{s:Shared}
theorem zNR (I:Inv X jP σ H s):∀(n:Nat) (A:Around) {d e:Dt}{v z:V}{u y:Value},d.deep<=n->DR H d v->DR H e z->RelV v u->RelV z y->A.units+n<cLine->SeqAt.EqAt A s u y (Dt.beq d e):=by
 intro n
 induction n with
 |zero =>
  intro A d e v z u y hn rd re ru ry hu;cases rd with
  |int i =>
   obtain⟨t,rfl⟩:=ru;cases re with
   |int j=>obtain⟨t',rfl⟩:=ry;rw[show Dt.beq (.int i) (.int j)=(i == j) by simp[Dt.beq,Bool.beq_eq_decide_eq]];exact SeqAt.EqAt.int_int i t j t'
   |str x=>obtain⟨t',rfl⟩:=ry;exact SeqAt.EqAt.int_str i t x t'
   |tup h r =>
    cases ry;obtain⟨its,rv,p,_⟩:=I.tuple (SqT.of h);exact SeqAt.EqAt.int_tuple i t (show s.heap.IsTuple _ its.toArray from p) (by omega)
  |str x =>
   obtain⟨t,rfl⟩:=ru;cases re with
   |int j=>obtain⟨t',rfl⟩:=ry;exact SeqAt.EqAt.str_int x t j t'
   |str w'=>obtain⟨t',rfl⟩:=ry;rw[show Dt.beq (.str x) (.str w')=(x == w') by simp[Dt.beq,Bool.beq_eq_decide_eq]];exact SeqAt.EqAt.str_str x t w' t'
   |tup h r =>
    cases ry;obtain⟨its,rv,p,_⟩:=I.tuple (SqT.of h);exact SeqAt.EqAt.str_tuple x t (show s.heap.IsTuple _ its.toArray from p) (by omega)
  |tup h r=>simp[Dt.deep] at hn
 |succ n ih =>
  intro A d e v z u y hn rd re ru ry hu;cases rd with
  |int i =>
   obtain⟨t,rfl⟩:=ru;cases re with
   |int j=>obtain⟨t',rfl⟩:=ry;rw[show Dt.beq (.int i) (.int j)=(i == j) by simp[Dt.beq,Bool.beq_eq_decide_eq]];exact SeqAt.EqAt.int_int i t j t'
   |str x=>obtain⟨t',rfl⟩:=ry;exact SeqAt.EqAt.int_str i t x t'
   |tup h r =>
    cases ry;obtain⟨its,rv,p,_⟩:=I.tuple (SqT.of h);exact SeqAt.EqAt.int_tuple i t (show s.heap.IsTuple _ its.toArray from p) (by omega)
  |str x =>
   obtain⟨t,rfl⟩:=ru;cases re with
   |int j=>obtain⟨t',rfl⟩:=ry;exact SeqAt.EqAt.str_int x t j t'
   |str w'=>obtain⟨t',rfl⟩:=ry;rw[show Dt.beq (.str x) (.str w')=(x == w') by simp[Dt.beq,Bool.beq_eq_decide_eq]];exact SeqAt.EqAt.str_str x t w' t'
   |tup h r =>
    cases ry;obtain⟨its,rv,p,_⟩:=I.tuple (SqT.of h);exact SeqAt.EqAt.str_tuple x t (show s.heap.IsTuple _ its.toArray from p) (by omega)
  | @tup a xs ds ha rs =>
   cases ru;obtain⟨its,rv,p,_⟩:=I.tuple (SqT.of ha);have hn':Dt.deeps ds<=n:=by simpa[Dt.deep] using hn
   cases re with
   |int j=>obtain⟨t',rfl⟩:=ry;exact SeqAt.EqAt.tuple_int j t' (show s.heap.IsTuple _ its.toArray from p) (by omega)
   |str w'=>obtain⟨t',rfl⟩:=ry;exact SeqAt.EqAt.tuple_str w' t' (show s.heap.IsTuple _ its.toArray from p) (by omega)
   | @tup b ys es hb rs' =>
    cases ry
    by_cases hab:a=b
    ·subst hab
     rw[ha] at hb;cases hb;have:ds=es:=DRs.inj rs rs';subst this;rw[show Dt.beq (.tup ds) (.tup ds)=true from Dt.beq_iff.mpr rfl];exact SeqAt.EqAt.same _
    ·obtain⟨its2,rv2,p2,_⟩:=I.tuple (SqT.of hb)
     refine SeqAt.EqAt.of_refs hab ?_;have l1:=rv.length;have l2:=rv2.length;have m1:=rs.length;have m2:=rs'.length
     have key:=SeqAt.RcAt.tuples (A:=A) (s:=s) (e:=λ j=>match ds[j]?,es[j]? with|some d,some e=>Dt.beq d e|_,_=>false) (show s.heap.IsTuple _ its.toArray from p) (show s.heap.IsTuple _ its2.toArray from p2) (by omega) λ j h1 h2=>by
      have g1:j<xs.length:=by rw[l1];simpa using h1
      have g2:j<ys.length:=by rw[l2];simpa using h2
      obtain⟨u1,eu,r1⟩:=rv.get (lX g1);obtain⟨u2,ev,r2⟩:=rv2.get (lX g2);obtain⟨d1,ed,rd1⟩:=rs.get (lX g1);obtain⟨d2,ed2,rd2⟩:=rs'.get (lX g2);have e1:its.toArray[j]=u1:=by obtain⟨_,q⟩:=lJ.mp eu;simpa using q
      have e2:its2.toArray[j]=u2:=by obtain⟨_,q⟩:=lJ.mp ev;simpa using q
      simp only[ed,ed2,e1,e2];exact ih A.in1 (mI (zIT ed) hn') rd1 rd2 r1 r2 (by rw[show A.in1.units=A.units+1 from rfl];omega)
     have ez:Dt.beq (.tup ds) (.tup es)=((List.range (min its.toArray.size its2.toArray.size)).all (λ j=>match ds[j]?,es[j]? with|some d,some e=>Dt.beq d e|_,_=>false) && its.toArray.size == its2.toArray.size):=by
      rw[show Dt.beq (.tup ds) (.tup es)=Dt.beqs ds es by simp[Dt.beq],zL5];have a1:its.toArray.size=ds.length:=by simp;omega
      have a2:its2.toArray.size=es.length:=by simp;omega
      rw[a1,a2]
     rw[ez];exact key
theorem hu150 {k:Nat}{A:Around}(hr:Room k A):A.units+150<cLine:=by have:=hr.un;omega
end
theorem itB {h h':Heap}{a b t:Addr}{i:Nat}(x:h.IsTupleIter a t i) (e:Heap.SameBut b h h') (n:a≠b):h'.IsTupleIter a t i:=x.extBut e.extBut n
theorem tpB {h h':Heap}{a b:Addr}{xs:Array Value}(x:h.IsTuple a xs) (e:Heap.SameBut b h h') (n:a≠b):h'.IsTuple a xs:=let ⟨o,ho,r⟩:=x;⟨o,e.extBut a o n ho,r⟩
section
variable {prog:Program}{w:World}{A:Around}{E:Value->Shared->Prop}{s:Shared}
theorem zI8 {z TI TO i1 i2 l1 l2:Addr}{k:Nat}{xs ys:Array Value}{x y a b:Value}{Q:Option Value->Shared->Prop}(D:ZipApart z TI TO i1 i2 l1 l2)
  (hz:IsZip s.heap z TI TO .none) (hTI:IsPair s.heap TI (.ref i1) (.ref i2)) (hTO:IsPair s.heap TO a b) (h1:s.heap.IsTupleIter i1 l1 k) (h2:s.heap.IsTupleIter i2 l2 k)
  (hl1:s.heap.IsTuple l1 xs) (hl2:s.heap.IsTuple l2 ys) (hx:xs[k]?=some x) (hy:ys[k]?=some y)
  (hQ:∀h',IsZip h' z TI TO (rawInt s.heap.objs.size)->IsPair h' TO x y->h'.IsTupleIter i1 l1 (k+1)->h'.IsTupleIter i2 l2 (k+1)->IsPair h' s.heap.objs.size x y ->
   (∀c o,c≠z->c≠TO->c≠i1->c≠i2->s.heap.get? c=some o->h'.get? c=some o)->Q (some (.ref s.heap.objs.size)) { s with heap:=h' }):wpAny (model prog w) A (pyNext (.ref z)) Q E s:=by
 have hT:s.TypeIs (.ref z) "zip" := ⟨_,hz,rfl⟩;unfold pyNext;refine lA (wpAny_attempt (wpAny_callSpecial?_slot (name:=Str.ofString "__next__") hT F.slot_zip_next (wpAny_call_entry F.slot_zip_next hT F.entry_zip_next ?_ (F.args_zip_next_1 _))));show wpAny _ _ (field (.ref z) 2 >>= _) _ _ _;refine lA (wpAny_field hz rfl (x:=.bool false) rfl ?_);show wpAny _ _ (field (.ref z) 3 >>= _) _ _ _;refine lA (wpAny_field hz rfl (x:=.ref TI) rfl ?_);refine lA (wpAny_seqItems hTI rfl ?_);show wpAny _ _ (Builtin.SmallTypes.ownedTupleIsFree (.ref z) >>= _) _ _ _;refine lA ?_;unfold Builtin.SmallTypes.ownedTupleIsFree;refine lA (wpAny_field hz rfl (x:=.none) rfl (lB ?_));simp only[if_true];refine lA (wpAny_rule ?_);refine lA (wpAny_field hz rfl (x:=.ref TO) rfl ?_);refine lA (wpAny_setField_rec hz (by simp) λ q1 hz1 hs1=>?_);replace hz1:IsZip q1 z TI TO .ellipsis:=hz1;refine lA ?_;simp only[List.zipIdx_cons,List.zipIdx_nil,List.forIn_cons,List.forIn_nil];refine lA (lA (wpAny_onRaise ?_));show wpAny _ _ (Builtin.SmallTypes.nextOf (.ref i1) >>= _) _ _ _;refine lA (zBo (itB h1 hs1 D.i1z) (tpB hl1 hs1 D.l1z) hx λ q2 j1 hs2=>lB ?_);have hTO2:IsPair q2 TO a b:=hs2.extBut _ _ D.TOi1 (hs1.extBut _ _ D.TOz hTO);refine lA (wpAny_seqItems hTO2 rfl ?_);refine lA (wpAny_updateSeq_pair hTO2 λ q3 hTO3 hs3=>?_);replace hTO3:IsPair q3 TO x b:=hTO3;refine lA (wpAny_letGo (lB ?_));refine lA (lA (wpAny_onRaise ?_));show wpAny _ _ (Builtin.SmallTypes.nextOf (.ref i2) >>= _) _ _ _;refine lA (zBo (itB (itB (itB h2 hs1 D.i2z) hs2 D.i12.symm) hs3 D.TOi2.symm) (tpB (tpB (tpB hl2 hs1 D.l2z) hs2 D.l2i1) hs3 D.l2TO) hy λ q4 j2 hs4=>lB ?_);have hTO4:IsPair q4 TO x b:=hs4.extBut _ _ D.TOi2 hTO3;refine lA (wpAny_seqItems hTO4 rfl ?_);refine lA (wpAny_updateSeq_pair hTO4 λ q5 hTO5 hs5=>?_);replace hTO5:IsPair q5 TO x y:=hTO5;refine lA (wpAny_letGo (lB (lB ?_)));refine lA (wpAny_seqItems hTO5 rfl ?_);refine lA (wpAny_newTuple ?_);have hsz:q5.objs.size=s.heap.objs.size:=by rw[hs5.1,hs4.1,hs3.1,hs2.1,hs1.1]
 have hz5:IsZip q5 z TI TO .ellipsis:=hs5.extBut _ _ D.TOz.symm (hs4.extBut _ _ D.i2z.symm (hs3.extBut _ _ D.TOz.symm (hs2.extBut _ _ D.i1z.symm hz1)));have hk5:∀c o,c≠z->c≠TO->c≠i1->c≠i2->s.heap.get? c=some o->q5.get? c=some o:=λ c o c1 c2 c3 c4 e=>hs5.extBut _ _ c2 (hs4.extBut _ _ c4 (hs3.extBut _ _ c2 (hs2.extBut _ _ c3 (hs1.extBut _ _ c1 e))));have j15:q5.IsTupleIter i1 l1 (k+1):=itB (itB (itB j1 hs3 D.TOi1.symm) hs4 D.i12) hs5 D.TOi1.symm;have j25:q5.IsTupleIter i2 l2 (k+1):=itB j2 hs5 D.TOi2.symm;have hzlt:z<q5.objs.size:=lI hz5;show wpAny _ _ (Builtin.SmallTypes.ownedTupleHandOut (.ref z) (.ref q5.objs.size) >>= _) _ _ _;refine lA ?_;unfold Builtin.SmallTypes.ownedTupleHandOut;have hz6:IsZip (q5.push { cls:=.type "tuple", data:=.seq #[x,y] }) z TI TO .ellipsis:=lG _ hz5;refine lA (wpAny_setField_rec hz6 (by simp) λ q7 hz7 hs7=>?_);replace hz7:IsZip q7 z TI TO (rawInt q5.objs.size):=hz7;refine wpAny_setField_rec hz7 (by simp) λ q8 hz8 hs8=>?_;replace hz8:IsZip q8 z TI TO (rawInt q5.objs.size):=hz8;have up:∀c o,c≠z->q5.get? c=some o->q8.get? c=some o:=λ c o c1 e=>hs8.extBut _ _ c1 (hs7.extBut _ _ c1 (lG _ e));have hT8:IsPair q8 q5.objs.size x y:=hs8.extBut _ _ (Nat.ne_of_gt hzlt) (hs7.extBut _ _ (Nat.ne_of_gt hzlt) (lH _ rfl));rw[hsz] at hz8 hT8;refine lB ⟨_,rfl,lB ?_⟩;show Q (some (.ref q5.objs.size)) _;rw[hsz];exact hQ q8 hz8 (up _ _ D.TOz hTO5) (let ⟨o,e,r⟩:=j15;⟨o,up _ o D.i1z e,r⟩) (let ⟨o,e,r⟩:=j25;⟨o,up _ o D.i2z e,r⟩) hT8 λ c o c1 c2 c3 c4 e=>up c o c1 (hk5 c o c1 c2 c3 c4 e)
theorem zKz {z TI TO i1 i2 l1 l2:Addr}{k:Nat}{xs ys:Array Value}{a b:Value}{Q:Option Value->Shared->Prop}(hh:A.handled=none) (D:ZipApart z TI TO i1 i2 l1 l2)
    (hz:IsZip s.heap z TI TO .none) (hTI:IsPair s.heap TI (.ref i1) (.ref i2)) (hTO:IsPair s.heap TO a b) (h1:s.heap.IsTupleIter i1 l1 k) (h2:s.heap.IsTupleIter i2 l2 k)
    (hl1:s.heap.IsTuple l1 xs) (hl2:s.heap.IsTuple l2 ys) (hend:xs[k]?=none\/ys[k]?=none)
    (hQ:∀h',(∀c o,c≠z->c≠TO->c≠i1->c≠i2->s.heap.get? c=some o->h'.get? c=some o)->Q none { s with heap:=h' }):wpAny (model prog w) A (pyNext (.ref z)) Q E s:=by
  have hT:s.TypeIs (.ref z) "zip" := ⟨_,hz,rfl⟩;unfold pyNext
  have fin:∀(h':Heap) (e:Addr),(∀c o,c≠z->c≠TO->c≠i1->c≠i2->s.heap.get? c=some o->h'.get? c=some o)->(∃o,h'.get? e=some o/\o.cls = .type "StopIteration") ->
      wpAny (model prog w) A (do if ← isInstance (.ref e) (.type "StopIteration") then pure none else throw (.ref e)) Q E { s with heap:=h' }:=λ h' e hk ⟨o,ho,hc⟩ =>
    lA (wpAny_isInstance (T := "StopIteration") (b:=true) ⟨o,ho,hc⟩ isSubtype_stop (lB (hQ _ hk)))
  refine lA (wpAny_attempt (wpAny_callSpecial?_slot (name:=Str.ofString "__next__") hT F.slot_zip_next (wpAny_call_entry F.slot_zip_next hT F.entry_zip_next ?_ (F.args_zip_next_1 _))));show wpAny _ _ (field (.ref z) 2 >>= _) _ _ _;refine lA (wpAny_field hz rfl (x:=.bool false) rfl ?_);show wpAny _ _ (field (.ref z) 3 >>= _) _ _ _;refine lA (wpAny_field hz rfl (x:=.ref TI) rfl ?_);refine lA (wpAny_seqItems hTI rfl ?_);show wpAny _ _ (Builtin.SmallTypes.ownedTupleIsFree (.ref z) >>= _) _ _ _;refine lA ?_;unfold Builtin.SmallTypes.ownedTupleIsFree;refine lA (wpAny_field hz rfl (x:=.none) rfl (lB ?_));simp only[if_true];refine lA (wpAny_rule ?_);refine lA (wpAny_field hz rfl (x:=.ref TO) rfl ?_);refine lA (wpAny_setField_rec hz (by simp) λ q1 hz1 hs1=>?_);replace hz1:IsZip q1 z TI TO .ellipsis:=hz1;refine lA ?_;simp only[List.zipIdx_cons,List.zipIdx_nil,List.forIn_cons,List.forIn_nil];refine lA (lA (wpAny_onRaise ?_));show wpAny _ _ (Builtin.SmallTypes.nextOf (.ref i1) >>= _) _ _ _;cases hx:xs[k]? with
  |none =>
    refine lA (zCA hh (itB h1 hs1 D.i1z) (tpB hl1 hs1 D.l1z) hx λ q2 e hs2 he=>?_);obtain⟨oe,hoe,hce⟩:=he;have hz2:IsZip q2 z TI TO .ellipsis:=hs2 _ _ D.i1z.symm hz1;have hez:e≠z:=λ x=>by subst x;rw[hz2] at hoe;cases hoe;simp at hce
    exact wpAny_setField_rec hz2 (by simp) λ q3 U hs3=>fin q3 e (λ c o c1 U c3 U x=>hs3.extBut _ _ c1 (hs2 _ _ c3 (hs1.extBut _ _ c1 x))) ⟨oe,hs3.extBut _ _ hez hoe,hce⟩
  |some x =>
    have hy:ys[k]?=none:=by rcases hend with h|h;rw[hx] at h;cases h;exact h
    refine lA (zBo (itB h1 hs1 D.i1z) (tpB hl1 hs1 D.l1z) hx λ q2 j1 hs2=>lB ?_);have hTO2:IsPair q2 TO a b:=hs2.extBut _ _ D.TOi1 (hs1.extBut _ _ D.TOz hTO);refine lA (wpAny_seqItems hTO2 rfl ?_);refine lA (wpAny_updateSeq_pair hTO2 λ q3 hTO3 hs3=>?_);refine lA (wpAny_letGo (lB ?_));refine lA (lA (wpAny_onRaise ?_));show wpAny _ _ (Builtin.SmallTypes.nextOf (.ref i2) >>= _) _ _ _;refine lA (zCA hh (itB (itB (itB h2 hs1 D.i2z) hs2 D.i12.symm) hs3 D.TOi2.symm) (tpB (tpB (tpB hl2 hs1 D.l2z) hs2 D.l2i1) hs3 D.l2TO) hy λ q4 e hs4 he=>?_);obtain⟨oe,hoe,hce⟩:=he;have hz4:IsZip q4 z TI TO .ellipsis:=hs4 _ _ D.i2z.symm (hs3.extBut _ _ D.TOz.symm (hs2.extBut _ _ D.i1z.symm hz1));have hez:e≠z:=λ x=>by subst x;rw[hz4] at hoe;cases hoe;simp at hce
    exact wpAny_setField_rec hz4 (by simp) λ q5 U hs5=>fin q5 e (λ c o c1 c2 c3 c4 x=>hs5.extBut _ _ c1 (hs4 _ _ c4 (hs3.extBut _ _ c2 (hs2.extBut _ _ c3 (hs1.extBut _ _ c1 x))))) ⟨oe,hs5.extBut _ _ hez hoe,hce⟩
end
theorem zIw (l1 l2:Addr) (xs ys:Array Value) :
    Meets (Builtin.«zip.__new__» ⟨[.type "zip", .ref l1,.ref l2],[]⟩) (λ U R s=>s.heap.IsTuple l1 xs/\s.heap.IsTuple l2 ys /\
      ∀(h':Heap) (z TI TO i1 i2:Addr),(∀c o,s.heap.get? c=some o->h'.get? c=some o)->s.heap.objs.size<=z->s.heap.objs.size<=TI->s.heap.objs.size<=TO->s.heap.objs.size<=i1->s.heap.objs.size<=i2 ->
        (TI≠z/\TO≠z/\i1≠z/\i2≠z/\TI≠TO/\TI≠i1/\TI≠i2/\TO≠i1/\TO≠i2/\i1≠i2)->IsZip h' z TI TO .none->IsPair h' TI (.ref i1) (.ref i2)->IsPair h' TO .none .none->h'.IsTupleIter i1 l1 0->h'.IsTupleIter i2 l2 0 ->
        R (.ok (.ret (.ref z))) { s with heap:=h' }) :=
  .of_wp λ prog w A R s h=>by
    obtain⟨hp,g,d,tk,os⟩:=s;obtain⟨hl1,hl2,h⟩:=h;have hsub:=sub_zip;have hL1:Heap.IsTuple (Shared.heap ⟨hp,g,d,tk,os⟩) l1 xs:=hl1;have hL2:Heap.IsTuple (Shared.heap ⟨hp.push { cls:=.type "tuple_iterator", data:=.fields #[.ref l1,.int 0 0] },g,d,tk,os⟩) l2 ys:=let ⟨o,ho,r⟩:=hl2;⟨o,lG _ ho,r⟩
    wp_walk using wpAny_pyIter_tuple hL1,wpAny_pyIter_tuple hL2
    refine⟨_,rfl,h _ _ _ _ _ _ (λ c o e=>lG _ (lG _ (lG _ (lG _ (lG _ e))))) ?_ ?_ ?_ ?_ ?_ ?_ (lH _ rfl) (lG _ (lG _ (lH _ rfl))) (lG _ (lH _ rfl))
      ⟨_,lG _ (lG _ (lG _ (lG _ (lH _ rfl)))),rfl,rfl⟩ ⟨_,lG _ (lG _ (lG _ (lH _ rfl))),rfl,rfl⟩⟩
    all_goals simp only[Heap.size_push]
    all_goals first
      |omega
      | (refine⟨?_,?_,?_,?_,?_,?_,?_,?_,?_,?_⟩<;>(intro e;have e' : @Eq Nat _ _:=e;omega))
section
variable {prog:Program}{w:World}{A:Around}{E:Value->Shared->Prop}{s:Shared}
theorem zKn {l1 l2:Addr}{xs ys:Array Value}{Q:Value->Shared->Prop}(hl1:s.heap.IsTuple l1 xs) (hl2:s.heap.IsTuple l2 ys)
  (h:∀(h':Heap) (z TI TO i1 i2:Addr),(∀c o,s.heap.get? c=some o->h'.get? c=some o)->s.heap.objs.size<=z->s.heap.objs.size<=TI->s.heap.objs.size<=TO->s.heap.objs.size<=i1->s.heap.objs.size<=i2 ->
    (TI≠z/\TO≠z/\i1≠z/\i2≠z/\TI≠TO/\TI≠i1/\TI≠i2/\TO≠i1/\TO≠i2/\i1≠i2)->IsZip h' z TI TO .none->IsPair h' TI (.ref i1) (.ref i2)->IsPair h' TO .none .none->h'.IsTupleIter i1 l1 0->h'.IsTupleIter i2 l2 0->Q (.ref z) { s with heap:=h' }) :
  wpAny (model prog w) A (call (.type "zip") [.ref l1,.ref l2]) Q E s:=by
 refine callType_new F.called_zip (by decide) (F.typeCall_zip_2 _ _) (F.newCall_zip_2 _ _) (λ obj=>F.args_object_init_3 obj _ _) F.entry_zip_new (zIw l1 l2 xs ys) ⟨hl1,hl2,λ h' z TI TO i1 i2 a0 a1 a2 a3 a4 a5 a6 a7 a8 a9 b1 b2=>?_⟩;exact⟨⟨_,a7,rfl⟩,h h' z TI TO i1 i2 a0 a1 a2 a3 a4 a5 a6 a7 a8 a9 b1 b2⟩
end
noncomputable def Itz (a b:Addr):It :=
 ⟨λ i H=>∃xs ys x y,H a=some (.tup xs)/\H b=some (.tup ys)/\xs[i]?=some x/\ys[i]?=some y,
 λ i H v H'=>∃T x y,H T=none/\v = .ref T/\H'=upd H T (.tup [x,y])/\(∀xs,H a=some (.tup xs)->xs[i]?=some x)/\∀ys,H b=some (.tup ys)->ys[i]?=some y,
 λ i H=>∃xs ys,H a=some (.tup xs)/\H b=some (.tup ys)/\(xs.length<=i\/ys.length<=i)⟩
theorem zK1 {P:Program}{w:World}{K:W.Frag}{es:List Expr}{kk:Nat}{pos:Pos}(a b z TI TO i1 i2:Addr)
  (ap:TI≠z/\TO≠z/\i1≠z/\i2≠z/\TI≠TO/\TI≠i1/\TI≠i2/\TO≠i1/\TO≠i2/\i1≠i2) :
  Turn P w K (.Tuple es kk pos) (Itz a b) [z,TI,TO,i1,i2] z (λ i h=>IsZip h z TI TO .none/\IsPair h TI (.ref i1) (.ref i2)/\(∃p q,IsPair h TO p q)/\h.IsTupleIter i1 a i/\h.IsTupleIter i2 b i) where
 mem:=by simp
 obj:=λ i h st c hc=>by
  obtain⟨hz,hTI,⟨p,q,hTO⟩,⟨o1,e1,c1,d1⟩,o2,e2,c2,d2⟩:=st;simp only[List.mem_cons,List.not_mem_nil,or_false] at hc;rcases hc with rfl|rfl|rfl|rfl|rfl
  ·exact⟨_,hz,λ v z=>by have z':Data.fields _=Data.cell v:=z;cases z'⟩
  ·exact⟨_,hTI,λ v z=>by have z':Data.seq _ _=Data.cell v:=z;cases z'⟩
  ·exact⟨_,hTO,λ v z=>by have z':Data.seq _ _=Data.cell v:=z;cases z'⟩
  ·exact⟨o1,e1,λ v z=>by rw[d1] at z;cases z⟩
  ·exact⟨o2,e2,λ v z=>by rw[d2] at z;cases z⟩
 keep:=λ i h h' st k=>by
  obtain⟨hz,hTI,⟨p,q,hTO⟩,⟨o1,e1,r1⟩,o2,e2,r2⟩:=st;exact⟨k z (by simp) _ hz,k TI (by simp) _ hTI,⟨p,q,k TO (by simp) _ hTO⟩,⟨o1,k i1 (by simp) _ e1,r1⟩,o2,k i2 (by simp) _ e2,r2⟩
 item:=by
  intro X hP hw hK hc i jP s σ H E I hf st hg;subst hP hw hK;obtain⟨xs,ys,x,y,ha,hb,hx,hy⟩:=hg;obtain⟨hz,hTI,⟨p,q,hTO⟩,h1,h2⟩:=st;obtain⟨its,rv,t1,_⟩:=I.tuple (SqT.of ha);obtain⟨its2,rv2,t2,_⟩:=I.tuple (SqT.of hb);obtain⟨u,hu,ru⟩:=rv.get hx;obtain⟨u2,hu2,ru2⟩:=rv2.get hy;obtain⟨n1,n2,n3,n4,n5,n6,n7,n8,n9,n10⟩:=ap;have ne:∀{c d:Addr}{o:HO},H c=some o->d∈[z,TI,TO,i1,i2]->c≠d:=λ e hd=>zAT e (hf _ hd).1;have D:ZipApart z TI TO i1 i2 a b:=⟨n1,n2,n3,n4,n5,n6,n7,n8,n9,n10,ne ha (by simp),ne ha (by simp),ne ha (by simp),ne ha (by simp),ne hb (by simp),ne hb (by simp),ne hb (by simp),ne hb (by simp)⟩;refine zI8 D hz hTI hTO h1 h2 (show s.heap.IsTuple a its.toArray from t1) (show s.heap.IsTuple b its2.toArray from t2) (by simpa using hu) (by simpa using hu2) λ q1 hz1 hTO1 j1 j2 hT hk=>⟨_,rfl,?_⟩;have hn:H s.heap.objs.size=none:=I.fresh;have hT1:IsPair q1 TI (.ref i1) (.ref i2):=hk _ _ n1 n5 n6 n7 hTI
  have neT:∀c∈[z,TI,TO,i1,i2],c≠s.heap.objs.size:=λ c hc=>by
   simp only[List.mem_cons,List.not_mem_nil,or_false] at hc;rcases hc with rfl|rfl|rfl|rfl|rfl
   ·exact lT (lI (show s.heap.get? _=some _ from hz))
   ·exact lT (lI (show s.heap.get? _=some _ from hTI))
   ·exact lT (lI (show s.heap.get? _=some _ from hTO))
   ·obtain⟨_,e,_⟩:=h1;exact lT (lI e)
   ·obtain⟨_,e,_⟩:=h2;exact lT (lI e)
  have I1:Inv X jP σ (upd H s.heap.objs.size (.tup [x,y])) { s with heap:=q1,toks:=s.toks }:=I.turnedL (ch:=[z,TO,i1,i2]) (λ c o hc e=>hk c o (λ q=>hc (by simp[q])) (λ q=>hc (by simp[q])) (λ q=>hc (by simp[q])) (λ q=>hc (by simp[q])) e)
   (λ c hc=>hf c (by simp at hc ⊢;rcases hc with r|r|r|r<;>simp[r])) (lS _) ⟨Nat.le_of_lt (zAQ (show 2<=1000 by decide)),[u,u2],.cons ru (.cons ru2 .nil),_,hT,rfl,_,rfl⟩
  refine wpAny_letOwnedTupleGo_zip (s:={ s with heap:=q1 }) hz1 λ q2 hz2 hs2=>⟨.ref s.heap.objs.size,_,?_,rfl,⟨_,x,y,hn,rfl,rfl,λ ws e=>by rw[ha] at e;cases e;exact hx,λ ws e=>by rw[hb] at e;cases e;exact hy⟩,⟨hz2,hs2.extBut _ _ n1 hT1,⟨_,_,hs2.extBut _ _ n2 hTO1⟩,itB j1 hs2 n3,itB j2 hs2 n4⟩,λ c hc=>?_⟩
  ·refine I1.turnedN (t':=s.toks) (ch:=[z]) (λ c o hc e=>(hs2.2 c (λ q=>hc (by simp[q]))).trans e) λ c hc=>?_
   have ec:=List.mem_singleton.mp hc;subst ec;obtain⟨f0,f⟩:=hf c (by simp);exact⟨by rw[zAW (neT c (by simp))];exact f0,f⟩
  ·rw[zAW (neT c hc)];exact(hf c hc).1
 done:=by
  intro X hP hw hK hc i jP s σ H E I hf st hg;subst hP hw hK;obtain⟨xs,ys,ha,hb,hend⟩:=hg;obtain⟨hz,hTI,⟨p,q,hTO⟩,h1,h2⟩:=st;obtain⟨its,rv,t1,_⟩:=I.tuple (SqT.of ha);obtain⟨its2,rv2,t2,_⟩:=I.tuple (SqT.of hb);have l1:=rv.length;have l2:=rv2.length;obtain⟨n1,n2,n3,n4,n5,n6,n7,n8,n9,n10⟩:=ap;have ne:∀{c d:Addr}{o:HO},H c=some o->d∈[z,TI,TO,i1,i2]->c≠d:=λ e hd=>zAT e (hf _ hd).1;have D:ZipApart z TI TO i1 i2 a b:=⟨n1,n2,n3,n4,n5,n6,n7,n8,n9,n10,ne ha (by simp),ne ha (by simp),ne ha (by simp),ne ha (by simp),ne hb (by simp),ne hb (by simp),ne hb (by simp),ne hb (by simp)⟩;refine zKz (I.ok.hd hc) D hz hTI hTO h1 h2 (show s.heap.IsTuple a its.toArray from t1) (show s.heap.IsTuple b its2.toArray from t2) ?_ λ q1 hk=>⟨rfl,?_⟩
  ·rcases hend with h|h
   ·exact .inl (by simp;omega)
   ·exact .inr (by simp;omega)
  ·exact I.turnedN (t':=s.toks) (ch:=[z,TO,i1,i2]) (λ c o hc e=>hk c o (λ q=>hc (by simp[q])) (λ q=>hc (by simp[q])) (λ q=>hc (by simp[q])) (λ q=>hc (by simp[q])) e) (λ c hc=>hf c (by simp at hc ⊢;rcases hc with r|r|r|r<;>simp[r]))
 self:=λ U U U U U st h=>wpAny_pyIter_zip st.1 h
theorem zG3:bootBuiltins "zip" = some (.type "zip"):=by decide +kernel
noncomputable def iZip (ta:TA):TI:=λ σ H R=>ta σ H λ vs H1=>∃a b xs ys,vs=[.ref a,.ref b]/\H1 a=some (.tup xs)/\H1 b=some (.tup ys)/\R (Itz a b) H1
theorem zN0 {X:Cx}{es:List Expr}{k:Nat}{tpos:Pos}{a b:Expr}{ta:TA}{p pos:Pos}(hg:Gl X "zip") (hm:X.mg "zip" = none) (ha:PA X [a,b] ta) (hs:starEach [a,b] X.env=[(false,eval a X.env),(false,eval b X.env)]:=by rfl) (hs2:starEach [b] X.env=[(false,eval b X.env)]:=by rfl) :
  PI X (.Tuple es k tpos) (.Call (.Name "zip" p) [a,b] [] pos) (iZip ta):=by
 intro jP s σ H R I h;refine Call_ (zCr I hg hm zG3 (PyProof.Rows.callWith_type1 (thn (ha pos jP s σ H _ I h) λ us s1 ⟨vs,H1,I1,r1,q1⟩=>?_) (by rw[hs,hs2]) (by rw[hs2];rfl)));obtain⟨l1,l2,xs,ys,e,h1,h2,q⟩:=q1;subst e;obtain⟨u,w',rfl,ru,rw'⟩:=vals2 r1;cases ru;cases rw';obtain⟨its,rv,t1,_⟩:=I1.tuple (SqT.of h1);obtain⟨its2,rv2,t2,_⟩:=I1.tuple (SqT.of h2);refine zKn (show s1.heap.IsTuple l1 its.toArray from t1) (show s1.heap.IsTuple l2 its2.toArray from t2) λ h' z TI TO i1 i2 a0 a1 a2 a3 a4 a5 a6 a7 a8 a9 b1 b2=>?_;refine wpAny_pyIter_zip a7 ⟨_,[z,TI,TO,i1,i2],_,_,H1,rfl,I1.kept (t':=s1.toks) a0,zK1 l1 l2 z TI TO i1 i2 a6,⟨a7,a8,⟨_,_,a9⟩,b1,b2⟩,λ c hc=>?_,q⟩
 have ge:s1.heap.objs.size<=c:=by
  simp only[List.mem_cons,List.not_mem_nil,or_false] at hc;rcases hc with rfl|rfl|rfl|rfl|rfl<;>assumption
 exact I1.fpOk ge (I1.hok.fresh ge)
theorem itL {h h':Heap}{a b t:Addr}{i:Nat}(x:h.IsListIter a t i) (e:Heap.SameBut b h h') (n:a≠b):h'.IsListIter a t i:=let ⟨o,ho,r⟩:=x;⟨o,e.extBut a o n ho,r⟩
noncomputable def Itzl (K:W.Frag) (a b:Addr):It :=
 ⟨λ i H=>∃xs ys x y,H a=some (.lst xs)/\H b=some (.lst ys)/\xs[i]?=some x/\ys[i]?=some y,
 λ i H v H'=>∃T x y,H T=none/\v = .ref T/\H'=upd H T (.tup [x,y])/\(∀xs,H a=some (.lst xs)->xs[i]?=some x)/\∀ys,H b=some (.lst ys)->ys[i]?=some y,
 λ i H=>∃xs ys,H a=some (.lst xs)/\H b=some (.lst ys)/\(xs.length<=i\/ys.length<=i)⟩
theorem zJA {P:Program}{w:World}{K:W.Frag}{es:List Expr}{kk:Nat}{pos:Pos}(a b z TI TO i1 i2:Addr)
  (ap:TI≠z/\TO≠z/\i1≠z/\i2≠z/\TI≠TO/\TI≠i1/\TI≠i2/\TO≠i1/\TO≠i2/\i1≠i2) :
  Turn P w K (.Tuple es kk pos) (Itzl K a b) [z,TI,TO,i1,i2] z (λ i h=>IsZip h z TI TO .none/\IsPair h TI (.ref i1) (.ref i2)/\(∃p q,IsPair h TO p q)/\h.IsListIter i1 a i/\h.IsListIter i2 b i) where
 mem:=by simp
 obj:=λ i h st c hc=>by
  obtain⟨hz,hTI,⟨p,q,hTO⟩,⟨o1,e1,c1,d1⟩,o2,e2,c2,d2⟩:=st;simp only[List.mem_cons,List.not_mem_nil,or_false] at hc;rcases hc with rfl|rfl|rfl|rfl|rfl
  ·exact⟨_,hz,λ v z=>by have z':Data.fields _=Data.cell v:=z;cases z'⟩
  ·exact⟨_,hTI,λ v z=>by have z':Data.seq _ _=Data.cell v:=z;cases z'⟩
  ·exact⟨_,hTO,λ v z=>by have z':Data.seq _ _=Data.cell v:=z;cases z'⟩
  ·exact⟨o1,e1,λ v z=>by rw[d1] at z;cases z⟩
  ·exact⟨o2,e2,λ v z=>by rw[d2] at z;cases z⟩
 keep:=λ i h h' st k=>by
  obtain⟨hz,hTI,⟨p,q,hTO⟩,⟨o1,e1,r1⟩,o2,e2,r2⟩:=st;exact⟨k z (by simp) _ hz,k TI (by simp) _ hTI,⟨p,q,k TO (by simp) _ hTO⟩,⟨o1,k i1 (by simp) _ e1,r1⟩,o2,k i2 (by simp) _ e2,r2⟩
 item:=by
  intro X hP hw hK hc i jP s σ H E I hf st hg;subst hP hw hK;obtain⟨xs,ys,x,y,ha,hb,hx,hy⟩:=hg;obtain⟨hz,hTI,⟨p,q,hTO⟩,h1,h2⟩:=st;obtain⟨its,rv,t1,_⟩:=I.list (SqL.of ha);obtain⟨its2,rv2,t2,_⟩:=I.list (SqL.of hb);obtain⟨u,hu,ru⟩:=rv.get hx;obtain⟨u2,hu2,ru2⟩:=rv2.get hy;obtain⟨n1,n2,n3,n4,n5,n6,n7,n8,n9,n10⟩:=ap;have ne:∀{c d:Addr}{o:HO},H c=some o->d∈[z,TI,TO,i1,i2]->c≠d:=λ e hd=>zAT e (hf _ hd).1;have D:ZipApart z TI TO i1 i2 a b:=⟨n1,n2,n3,n4,n5,n6,n7,n8,n9,n10,ne ha (by simp),ne ha (by simp),ne ha (by simp),ne ha (by simp),ne hb (by simp),ne hb (by simp),ne hb (by simp),ne hb (by simp)⟩;refine wpAny_pyNext_zip_item D hz hTI hTO h1 h2 t1.isList t2.isList (by simpa using hu) (by simpa using hu2) λ q1 hz1 hTO1 j1 j2 hT hsz hk=>⟨_,rfl,?_⟩;have hn:H s.heap.objs.size=none:=I.fresh;have hT1:IsPair q1 TI (.ref i1) (.ref i2):=hk _ _ n1 n5 n6 n7 hTI
  have neT:∀c∈[z,TI,TO,i1,i2],c≠s.heap.objs.size:=λ c hc=>by
   simp only[List.mem_cons,List.not_mem_nil,or_false] at hc;rcases hc with rfl|rfl|rfl|rfl|rfl
   ·exact lT (lI (show s.heap.get? _=some _ from hz))
   ·exact lT (lI (show s.heap.get? _=some _ from hTI))
   ·exact lT (lI (show s.heap.get? _=some _ from hTO))
   ·obtain⟨_,e,_⟩:=h1;exact lT (lI e)
   ·obtain⟨_,e,_⟩:=h2;exact lT (lI e)
  have I1:Inv X jP σ (upd H s.heap.objs.size (.tup [x,y])) { s with heap:=q1,toks:=s.toks }:=I.turnedL (ch:=[z,TO,i1,i2]) (λ c o hc e=>hk c o (λ q=>hc (by simp[q])) (λ q=>hc (by simp[q])) (λ q=>hc (by simp[q])) (λ q=>hc (by simp[q])) e)
   (λ c hc=>hf c (by simp at hc ⊢;rcases hc with r|r|r|r<;>simp[r])) (lS _) ⟨Nat.le_of_lt (zAQ (show 2<=1000 by decide)),[u,u2],.cons ru (.cons ru2 .nil),_,hT,rfl,_,rfl⟩
  refine wpAny_letOwnedTupleGo_zip (s:={ s with heap:=q1 }) hz1 λ q2 hz2 hs2=>⟨.ref s.heap.objs.size,_,?_,rfl,⟨_,x,y,hn,rfl,rfl,λ ws e=>by rw[ha] at e;cases e;exact hx,λ ws e=>by rw[hb] at e;cases e;exact hy⟩,⟨hz2,hs2.extBut _ _ n1 hT1,⟨_,_,hs2.extBut _ _ n2 hTO1⟩,itL j1 hs2 n3,itL j2 hs2 n4⟩,λ c hc=>?_⟩
  ·refine I1.turnedN (t':=s.toks) (ch:=[z]) (λ c o hc e=>(hs2.2 c (λ q=>hc (by simp[q]))).trans e) λ c hc=>?_
   have ec:=List.mem_singleton.mp hc;subst ec;obtain⟨f0,f⟩:=hf c (by simp);exact⟨by rw[zAW (neT c (by simp))];exact f0,f⟩
  ·rw[zAW (neT c hc)];exact(hf c hc).1
 done:=by
  intro X hP hw hK hc i jP s σ H E I hf st hg;subst hP hw hK;obtain⟨xs,ys,ha,hb,hend⟩:=hg;obtain⟨hz,hTI,⟨p,q,hTO⟩,h1,h2⟩:=st;obtain⟨its,rv,t1,_⟩:=I.list (SqL.of ha);obtain⟨its2,rv2,t2,_⟩:=I.list (SqL.of hb);have l1:=rv.length;have l2:=rv2.length;obtain⟨n1,n2,n3,n4,n5,n6,n7,n8,n9,n10⟩:=ap;have ne:∀{c d:Addr}{o:HO},H c=some o->d∈[z,TI,TO,i1,i2]->c≠d:=λ e hd=>zAT e (hf _ hd).1;have D:ZipApart z TI TO i1 i2 a b:=⟨n1,n2,n3,n4,n5,n6,n7,n8,n9,n10,ne ha (by simp),ne ha (by simp),ne ha (by simp),ne ha (by simp),ne hb (by simp),ne hb (by simp),ne hb (by simp),ne hb (by simp)⟩;refine wpAny_pyNext_zip_end (I.ok.hd hc) D hz hTI hTO h1 h2 t1.isList t2.isList ?_ λ q1 hk=>⟨rfl,?_⟩
  ·rcases hend with h|h
   ·exact .inl (by simp;omega)
   ·exact .inr (by simp;omega)
  ·exact I.turnedN (t':=s.toks) (ch:=[z,TO,i1,i2]) (λ c o hc e=>hk c o (λ q=>hc (by simp[q])) (λ q=>hc (by simp[q])) (λ q=>hc (by simp[q])) (λ q=>hc (by simp[q])) e) (λ c hc=>hf c (by simp at hc ⊢;rcases hc with r|r|r|r<;>simp[r]))
 self:=λ U U U U U st h=>wpAny_pyIter_zip st.1 h
noncomputable def iZipL (K:W.Frag) (ta:TA):TI:=λ σ H R=>ta σ H λ vs H1=>∃a b xs ys,vs=[.ref a,.ref b]/\H1 a=some (.lst xs)/\H1 b=some (.lst ys)/\R (Itzl K a b) H1
theorem zMw {X:Cx}{es:List Expr}{k:Nat}{tpos:Pos}{a b:Expr}{ta:TA}{p pos:Pos}(hg:Gl X "zip") (hm:X.mg "zip" = none) (ha:PA X [a,b] ta) (hs:starEach [a,b] X.env=[(false,eval a X.env),(false,eval b X.env)]:=by rfl) (hs2:starEach [b] X.env=[(false,eval b X.env)]:=by rfl) :
  PI X (.Tuple es k tpos) (.Call (.Name "zip" p) [a,b] [] pos) (iZipL X.K ta):=by
 intro jP s σ H R I h;refine Call_ (zCr I hg hm zG3 (PyProof.Rows.callWith_type1 (thn (ha pos jP s σ H _ I h) λ us s1 ⟨vs,H1,I1,r1,q1⟩=>?_) (by rw[hs,hs2]) (by rw[hs2];rfl)));obtain⟨l1,l2,xs,ys,e,h1,h2,q⟩:=q1;subst e;obtain⟨u,w',rfl,ru,rw'⟩:=vals2 r1;cases ru;cases rw';obtain⟨its,rv,t1,_⟩:=I1.list (SqL.of h1);obtain⟨its2,rv2,t2,_⟩:=I1.list (SqL.of h2);refine call_zip_2 t1.isList t2.isList λ h' a7 a8 a9 b1 b2 hz hk=>?_;refine wpAny_pyIter_zip a7 ⟨_,[s1.heap.objs.size+4,s1.heap.objs.size+2,s1.heap.objs.size+3,s1.heap.objs.size,s1.heap.objs.size+1],_,_,H1,rfl,I1.kept (t':=s1.toks) hk,zJA l1 l2 _ _ _ _ _ ?_,⟨a7,a8,⟨_,_,a9⟩,b1,b2⟩,λ c hc=>?_,q⟩
 ·refine⟨?_,?_,?_,?_,?_,?_,?_,?_,?_,?_⟩<;>(intro e;have e' : @Eq Nat _ _:=e;omega)
 ·have ge:s1.heap.objs.size<=c:=by
   simp only[List.mem_cons,List.not_mem_nil,or_false] at hc;rcases hc with rfl|rfl|rfl|rfl|rfl
   ·exact Nat.le_add_right _ _
   ·exact Nat.le_add_right _ _
   ·exact Nat.le_add_right _ _
   ·exact lS _
   ·exact Nat.le_add_right _ _
  exact I1.fpOk ge (I1.hok.fresh ge)
theorem zLr {K:W.Frag}{a b:Addr}{xs ys:List V}{g:TG}{tb:TS}{D:Ends}{σ:L2.St}{H:Hp}(Pv:Nat->L2.St->Hp->Prop) (h0:Pv 0 σ H) (hl:∀i σ H,i<=min xs.length ys.length->Pv i σ H->H a=some (.lst xs)/\H b=some (.lst ys))
  (hs:∀i x y T σ H,xs[i]?=some x->ys[i]?=some y->Pv i σ H->H T=none->g (.ref T) σ (upd H T (.tup [x,y])) λ σ2 H2=>tb { D with nx:=Pv (i+1),ct:=Pv (i+1),bk:=D.nx } σ2 H2) (hd:∀σ H,Pv (min xs.length ys.length) σ H->D.nx σ H) :
  ∃W:Nat->Nat->L2.St->Hp->Prop,(∃m,W 0 m σ H)/\∀i m σ H,W i m σ H ->
   ((Itzl K a b).stop i H/\D.nx σ H)\/((Itzl K a b).go i H/\∃N:L2.St->Hp->Prop,(∀σ' H',N σ' H'->∃m',m'<m/\W (i+1) m' σ' H')/\∀x H',(Itzl K a b).yld i H x H'->g x σ H' λ σ2 H2=>tb { D with nx:=N,ct:=N,bk:=D.nx } σ2 H2):=by
 refine⟨λ i m σ H=>m=min xs.length ys.length - i/\i<=min xs.length ys.length/\Pv i σ H,⟨min xs.length ys.length,by simp,lZ _,h0⟩,?_⟩;rintro i m σ H ⟨rfl,hi,p⟩;obtain⟨ha,hb⟩:=hl i σ H hi p
 by_cases hlt:i<min xs.length ys.length
 ·have hx:i<xs.length:=by omega
  have hy:i<ys.length:=by omega
  refine .inr ⟨⟨xs,ys,xs[i],ys[i],ha,hb,by simp[hx],by simp[hy]⟩,Pv (i+1),λ σ' H' p'=>⟨min xs.length ys.length - (i+1),by omega,rfl,hlt,p'⟩,λ x H' y=>?_⟩;obtain⟨T,u,v,hT,ex,eH,e1,e2⟩:=y;subst ex eH;exact hs i u v T σ H (e1 xs ha) (e2 ys hb) p hT
 ·have e:i=min xs.length ys.length:=by omega
  subst e;exact .inl ⟨⟨xs,ys,ha,hb,by omega⟩,hd σ H p⟩
theorem zKk {a b:Addr}{xs ys:List V}{acc:Addr}{g:TG}{tt:TT}{te:TE}{σ:L2.St}{H:Hp}{R:Hp->Prop}(Pv:Nat->Hp->Prop) (h0:Pv 0 (upd H acc (.lst []))) (hl:∀i H,i<=min xs.length ys.length->Pv i H->H a=some (.tup xs)/\H b=some (.tup ys))
  (hs:∀i x y T H,xs[i]?=some x->ys[i]?=some y->Pv i H->H T=none->g (.ref T) σ (upd H T (.tup [x,y])) λ σ2 H4=>Ext σ σ2/\tt σ2 H4 λ b H5 =>
   if b=true then te σ2 H5 λ y H6=>∃zs,H6 acc=some (.lst zs)/\zs.length<sizeLine/\Pv (i+1) (upd H6 acc (.lst (zs++[y]))) else Pv (i+1) H5) (hd:∀H,Pv (min xs.length ys.length) H->R H) :
  ∃W:Nat->Nat->Hp->Prop,(∃m,W 0 m (upd H acc (.lst [])))/\∀i m H2,W i m H2 ->
   ((Itz a b).stop i H2/\R H2)\/((Itz a b).go i H2/\∃N:Hp->Prop,(∀H',N H'->∃m',m'<m/\W (i+1) m' H')/\∀x H3,(Itz a b).yld i H2 x H3->g x σ H3 λ σ2 H4=>Ext σ σ2/\tt σ2 H4 λ b H5 =>
    if b=true then te σ2 H5 λ y H6=>∃zs,H6 acc=some (.lst zs)/\zs.length<sizeLine/\N (upd H6 acc (.lst (zs++[y])))
    else N H5):=by
 refine⟨λ i m H=>m=min xs.length ys.length - i/\i<=min xs.length ys.length/\Pv i H,⟨min xs.length ys.length,by simp,lZ _,h0⟩,?_⟩;rintro i m H2 ⟨rfl,hi,p⟩;obtain⟨ha,hb⟩:=hl i H2 hi p
 by_cases hlt:i<min xs.length ys.length
 ·have hx:i<xs.length:=by omega
  have hy:i<ys.length:=by omega
  refine .inr ⟨⟨xs,ys,xs[i],ys[i],ha,hb,by simp[hx],by simp[hy]⟩,Pv (i+1),λ H' p'=>⟨min xs.length ys.length - (i+1),by omega,rfl,hlt,p'⟩,λ x H' y=>?_⟩;obtain⟨T,u,v,hT,ex,eH,e1,e2⟩:=y;subst ex eH;exact hs i u v T H2 (e1 xs ha) (e2 ys hb) p hT
 ·have e:i=min xs.length ys.length:=by omega
  subst e;exact .inl ⟨⟨xs,ys,ha,hb,by omega⟩,hd H2 p⟩
theorem zNs {k:Key}{u:Value}(h:keyIs k u=true):RelV (kV k) u:=by
 rcases zAy h with ⟨i,t,rfl,rfl⟩|⟨x,t,rfl,rfl⟩
 ·exact⟨t,rfl⟩
 ·exact⟨t,rfl⟩
theorem zMP {kvs:List (Key × V)}{vs:List (Key × Value)}{i:Nat}{p:Key × V}(h:KV kvs vs):kvs[i]?=some p->∃v,vs[i]?=some (p.1,v):=by
 induction h generalizing i with
 |nil=>exact λ e=>nomatch e
 | @cons a b _ _ r t ih=>cases i with
  |zero=>intro e;have e':a=p:=by simpa using e
         subst e';exact⟨b.2,by rw[r.1];rfl⟩
  |succ i=>exact λ e=>ih (i:=i) (by simpa using e)
noncomputable def Itd (o:Obj) (a:Addr) (kvs:List (Key × V)):It :=
 ⟨λ i H=>H a=some (.frz o (.dK kvs))/\i<kvs.length,λ i H x H'=>H'=H/\∃p,kvs[i]?=some p/\x=kV p.1,λ i H=>H a=some (.frz o (.dK kvs))/\kvs.length<=i⟩
theorem zMX {X:Cx}{jP:List (Addr × Obj)}{σ:L2.St}{H:Hp}{s:Shared}{a:Addr}{o:Obj}{kvs:List (Key × V)}{es:Array DictEntry}{ep:Nat}(I:Inv X jP σ H s) (ha:H a=some (.frz o (.dK kvs))) (hd:o.data = .dict es ep) :
  ∃vs,KV kvs vs/\kvs.length=vs.length/\s.heap.DictAt (zAg X.prog X.w) a vs ep:=by
 obtain⟨e,z,sy,vs,r,o',es',ep',h1,c1,d1,rest⟩:=(show ObjOk X.prog X.w H s.heap a (.frz o (.dK kvs)) from I.hok a _ ha);rw[e] at h1;cases h1;rw[hd] at d1;cases d1;exact⟨vs,r,Paired.length r,o,es,e,c1,hd,rest⟩
theorem zGR {P:Program}{w:World}{K:W.Frag}{tg:Expr}(a it:Addr) (o:Obj) (kvs:List (Key × V)):Turn P w K tg (Itd o a kvs) [it] it (λ i h=>∃es ep,o.data = .dict es ep/\h.IsKeyIter it a i kvs.length ep) where
 mem:=by simp
 obj:=λ i h st b hb=>by
  have e:b=it:=by simpa using hb
  subst e;obtain⟨_,_,_,ob,e,c,d⟩:=st;exact⟨ob,e,λ v z=>by rw[d] at z;cases z⟩
 keep:=λ i h h' st k=>by
  obtain⟨es,ep,hd,ob,e,r⟩:=st;exact⟨es,ep,hd,ob,k it (by simp) ob e,r⟩
 item:=by
  intro X hP hw hK hc i jP s σ H E I hf st hg;subst hP hw hK;obtain⟨ha,hi⟩:=hg;obtain⟨es,ep,hd,hit⟩:=st;obtain⟨vs,r,hl,hm⟩:=zMX I ha hd;obtain⟨v,hv⟩:=zMP r (lX hi);obtain⟨f0,f1,f2,f3,f4,f5⟩:=hf it (by simp);rw[hl] at hit;refine wpAny_pyNext_dict_item hit hm hv λ key h' hk hit' sb=>?_;have I1:Inv X jP σ H { s with heap:=h' }:=I.turned (t':=s.toks) (λ b o hb e=>(sb.2 b hb).trans e) f0 f1 f3 f4 f5;obtain⟨ob,e,c,d⟩:=id hit';rw[←hl] at hit';exact⟨key,rfl,go_of (s:={ s with heap:=h' }) e c d (by decide) ⟨_,H,I1,zNs hk,⟨rfl,_,lX hi,rfl⟩,⟨es,ep,hd,hit'⟩,λ b hb=>(hf b hb).1⟩⟩
 done:=by
  intro X hP hw hK hc i jP s σ H E I hf st hg;subst hP hw hK;obtain⟨ha,hi⟩:=hg;obtain⟨es,ep,hd,hit⟩:=st;obtain⟨vs,r,hl,hm⟩:=zMX I ha hd;obtain⟨f0,f1,f2,f3,f4,f5⟩:=hf it (by simp);rw[hl] at hit;exact wpAny_pyNext_dict_end (I.ok.hd hc) hit hm (List.getElem?_eq_none (by omega)) λ h' eb=>⟨rfl,I.turned (t':=s.toks) (λ b o hb e=>eb b o hb e) f0 f1 f3 f4 f5⟩
 self:=λ A i s Q E st h=>by
  obtain⟨es,ep,hd,hit⟩:=st;refine wpAny_pyIter_slot hit.typeIs F.slot_dict_keyiterator_iter (wpAny_call_entry F.slot_dict_keyiterator_iter hit.typeIs F.entry_dict_keyiterator_iter ?_ (F.args_dict_keyiterator_iter_1 _));show wpAny _ _ (ret (.ref it)) _ _ s;exact lB ⟨_,rfl, "dict_keyiterator", _,hit.typeIs,F.slot_dict_keyiterator_next.lookup,h⟩
noncomputable def iDict (tl:TE):TI:=λ σ H R=>tl σ H λ x H1=>∃a kvs,x = .ref a/\((∃o,H1 a=some (.frz o (.dK kvs))/\R (Itd o a kvs) H1)\/(H1 a=some (.dK kvs)/\∀o,R (Itd o a kvs) (upd H1 a (.frz o (.dK kvs)))))
theorem zHR {X:Cx}{tg l:Expr}{tl:TE}(hl:PE X l tl):PI X tg l (iDict tl):=by
 intro jP s σ H R I h;refine thn (hl jP s σ H _ I h) λ v s1 ⟨x,H1,I1,r1,q1⟩=>?_;obtain⟨a,kvs,e,q⟩:=q1;subst e;cases r1;rcases q with ⟨o,ha,q⟩|⟨ha,q⟩
 ·obtain⟨e,z,sy,vs,r,o',es',ep',h1,c1,d1,rest⟩:=(show ObjOk X.prog X.w H1 s1.heap a (.frz o (.dK kvs)) from I1.hok a _ ha)
  rw[e] at h1;cases h1;refine wpAny_pyIter_dict (knd:=zAg X.prog X.w) (kvs:=vs) (ep:=ep') sy ⟨o,es',e,c1,d1,rest⟩ ?_;refine⟨s1.heap.objs.size,[s1.heap.objs.size],_,_,H1,rfl,I1.kept (t':=s1.toks) λ b o e=>lG _ e,zGR a _ o kvs,⟨es',ep',d1,_,lH _ rfl,rfl,by rw[Paired.length r];rfl⟩,λ b hb=>?_,q⟩;have e:b=s1.heap.objs.size:=by simpa using hb
  subst e;exact I1.fpOk (lS _) (I1.hok.fresh (lS _))
 ·obtain⟨z,sy,vs,r,o,es',ep',e,c1,d1,rest⟩:=(show ObjOk X.prog X.w H1 s1.heap a (.dK kvs) from I1.hok a _ ha)
  refine wpAny_pyIter_dict (knd:=zAg X.prog X.w) (kvs:=vs) (ep:=ep') sy ⟨o,es',e,c1,d1,rest⟩ ?_;have lt:=lI e;refine⟨s1.heap.objs.size,[s1.heap.objs.size],_,_,upd H1 a (.frz o (.dK kvs)),rfl,I1.write (t':=s1.toks) (x:=a) (e:=a) (by rw[ha];exact True.intro) (.inl rfl) (λ b o U e=>lG _ e) ⟨o,lG _ e⟩ ?_,zGR a _ o kvs,⟨es',ep',d1,_,lH _ rfl,rfl,by rw[Paired.length r];rfl⟩,λ b hb=>?_,q o⟩
  ·exact⟨lG _ e,z,sy,vs,r,o,es',ep',lG _ e,c1,d1,rest⟩
  ·have e:b=s1.heap.objs.size:=by simpa using hb
   subst e;exact I1.fpOk (lS _) (by rw[zAW (Nat.ne_of_gt lt)];exact I1.hok.fresh (lS _))
theorem zIQ {o:Obj}{a:Addr}{kvs:List (Key × V)}{g:TG}{tb:TS}{D:Ends}{σ:L2.St}{H:Hp}(Pv:Nat->L2.St->Hp->Prop) (h0:Pv 0 σ H) (hl:∀i σ H,i<=kvs.length->Pv i σ H->H a=some (.frz o (.dK kvs)))
  (hs:∀i p σ H,kvs[i]?=some p->Pv i σ H->g (kV p.1) σ H λ σ2 H2=>tb { D with nx:=Pv (i+1),ct:=Pv (i+1),bk:=D.nx } σ2 H2) (hd:∀σ H,Pv kvs.length σ H->D.nx σ H) :
  ∃W:Nat->Nat->L2.St->Hp->Prop,(∃m,W 0 m σ H)/\∀i m σ H,W i m σ H ->
   ((Itd o a kvs).stop i H/\D.nx σ H)\/((Itd o a kvs).go i H/\∃N:L2.St->Hp->Prop,(∀σ' H',N σ' H'->∃m',m'<m/\W (i+1) m' σ' H')/\∀x H',(Itd o a kvs).yld i H x H'->g x σ H' λ σ2 H2=>tb { D with nx:=N,ct:=N,bk:=D.nx } σ2 H2):=by
 refine⟨λ i m σ H=>m=kvs.length - i/\i<=kvs.length/\Pv i σ H,⟨kvs.length,by simp,lZ _,h0⟩,?_⟩;rintro i m σ H ⟨rfl,hi,p⟩;have q:=hl i σ H hi p
 by_cases hlt:i<kvs.length
 ·refine .inr ⟨⟨q,hlt⟩,Pv (i+1),λ σ' H' p'=>⟨kvs.length - (i+1),by omega,rfl,hlt,p'⟩,λ x H' y=>?_⟩
  obtain⟨e,p',hp',ex⟩:=y;subst e ex;exact hs i p' σ _ hp' p
 ·have e:i=kvs.length:=by omega
  subst e;exact .inl ⟨⟨q,lS _⟩,hd σ H p⟩
theorem zB4 {K:W.Frag}{a:Addr}{xs:List V}{acc:Addr}{g:TG}{tt:TT}{te:TE}{σ:L2.St}{H:Hp}{R:Hp->Prop}(Pv:Nat->Hp->Prop) (h0:Pv 0 (upd H acc (.lst []))) (hl:∀i H,i<=xs.length->Pv i H->SqT K H a xs)
  (hs:∀i x H,xs[i]?=some x->Pv i H->g x σ H λ σ2 H4=>Ext σ σ2/\tt σ2 H4 λ b H5 =>
   if b=true then te σ2 H5 λ y H6=>∃zs,H6 acc=some (.lst zs)/\zs.length<sizeLine/\Pv (i+1) (upd H6 acc (.lst (zs++[y]))) else Pv (i+1) H5) (hd:∀H,Pv xs.length H->R H) :
  ∃W:Nat->Nat->Hp->Prop,(∃m,W 0 m (upd H acc (.lst [])))/\∀i m H2,W i m H2 ->
   ((Itt K a).stop i H2/\R H2)\/((Itt K a).go i H2/\∃N:Hp->Prop,(∀H',N H'->∃m',m'<m/\W (i+1) m' H')/\∀x H3,(Itt K a).yld i H2 x H3->g x σ H3 λ σ2 H4=>Ext σ σ2/\tt σ2 H4 λ b H5 =>
    if b=true then te σ2 H5 λ y H6=>∃zs,H6 acc=some (.lst zs)/\zs.length<sizeLine/\N (upd H6 acc (.lst (zs++[y])))
    else N H5):=by
 refine⟨λ i m H=>m=xs.length - i/\i<=xs.length/\Pv i H,⟨xs.length,by simp,lZ _,h0⟩,?_⟩;rintro i m H2 ⟨rfl,hi,p⟩;have q:=hl i H2 hi p
 by_cases hlt:i<xs.length
 ·refine .inr ⟨⟨xs,xs[i],q,by simp[hlt]⟩,Pv (i+1),λ H' p'=>⟨xs.length - (i+1),by omega,rfl,hlt,p'⟩,λ x H' y=>?_⟩
  obtain⟨e,y⟩:=y;subst e;exact hs i x _ (y xs q) p
 ·have e:i=xs.length:=by omega
  subst e;exact .inl ⟨⟨xs,q,lS _⟩,hd H2 p⟩
theorem zCj {α β:Type}{F:α->β->Prop}{as:List α}{us:List β}{i:Nat}{u:β}(h:Paired F as us):us[i]?=some u->∃a,as[i]?=some a/\F a u:=by
 induction h generalizing i with
 |nil=>exact λ e=>nomatch e
 |cons h t ih=>cases i with
  |zero=>exact λ e=>⟨_,rfl,by cases e;exact h⟩
  |succ i=>exact λ e=>ih (i:=i) (by simpa using e)
theorem zB0 {α β:Type}{F:α->β->Prop}{as bs:List α}{us vs:List β}(h:Paired F as us) (k:Paired F bs vs):Paired F (as++bs) (us++vs):=by
 induction h with
 |nil=>exact k
 |cons r t ih=>exact .cons r ih
theorem zEW {α:Type}:∀{l:List α},l.Nodup->∀{i j:Nat}{a:α},l[i]?=some a->l[j]?=some a->i=j
 |[],_,i,j,a,h,_=>by simp at h
 |x::l,nd,0,0,a,_,_=>rfl
 |x::l,nd,0,j+1,a,h1,h2=>by
  rw[List.nodup_cons] at nd;have e:x=a:=by simpa using h1
  exact absurd (e▸lN (show l[j]?=some a by simpa using h2)) nd.1
 |x::l,nd,i+1,0,a,h1,h2=>by
  rw[List.nodup_cons] at nd;have e:x=a:=by simpa using h2
  exact absurd (e▸lN (show l[i]?=some a by simpa using h1)) nd.1
 |x::l,nd,i+1,j+1,a,h1,h2=>by
  rw[List.nodup_cons] at nd;rw[zEW nd.2 (i:=i) (j:=j) (a:=a) (by simpa using h1) (by simpa using h2)]
theorem zHm:∀{kvs:List (Key × V)},(kvs.map (·.1)).Nodup->∀{i:Nat}{p:Key × V},kvs[i]?=some p->valV kvs p.1=some p.2
 |[],_,i,p,h=>by simp at h
 |a::kvs,nd,0,p,h=>by
  have e:a=p:=by simpa using h
  subst e;exact zBD rfl
 |a::kvs,nd,i+1,p,h=>by
  have h':kvs[i]?=some p:=by simpa using h
  rw[List.map_cons,List.nodup_cons] at nd;have ne:¬a.1=p.1:=λ z=>nd.1 (by rw[z];exact List.mem_map_of_mem (lN h'));rw[zBE ne];exact zHm nd.2 h'
theorem zF2 {X:Cx}{K:W.Frag}{es:List Expr}{k:Nat}{t:TGs}{n:Nat}{pos:Pos}(hK:X.K=K) (hc:X.calm=true) (h:PGs X es t)
  (hn:(assignEach es X.env).length=n:=by rfl) (hst:(assignEach es X.env).findIdx? (·.1)=none:=by rfl):PG X (.Tuple es k pos) (gTup K n t):=hK▸zB7 hc h hn hst
section
variable {X:Cx}
theorem zKs:bootBuiltins "sum" = some (.builtin "sum"):=by decide +kernel
theorem zKo (hc:X.calm=true):CallR X (.builtin "sum") (λ xs H Q=>∃(l:Addr) (ns:List Int),xs=[.ref l]/\H l=some (.lst (ns.map V.int))/\Q (.int ns.sum) H):=by
 intro jP s σ H xs us Q I r h;obtain⟨l,ns,rfl,hl,q⟩:=h;obtain⟨u,rfl,ru⟩:=vals1 r;cases ru;obtain⟨_,its,n,rv,le,e⟩:=I.lstM hl;have L1:s.heap.IsList l its.toArray:=⟨_,e,rfl,_,rfl⟩;have hi:=zGr rv;obtain⟨xs,hx⟩:=hi.allInts.items;have hl':s.heap.IsList l (intItems xs):=hx▸L1;refine sum_intListG (I.ok.hd hc) hl' λ h' tk t' hk=>?_
 have e1:ns=xs.toList.map (·.1):=by
  rw[←nums_intItems,←hx];exact(show numsOf its.toArray.toList=ns from hi.numsOf).symm
 have e2:preSum (numAt xs) xs.size=ns.sum:=by
  rw[preSum_eq,List.take_of_length_le (by simp),e1]
 rw[e2];exact⟨.int ns.sum,H,I.kept hk,⟨_,rfl⟩,q⟩
theorem zEJ:∀{bs:List Bool}{us:List Value},Vals (bs.map V.bl) us->LSm.BoolsAre us bs
 |[],_,h=>by cases h;exact .nil
 |b::bs,_,h=>by
  cases h with
  |cons r t =>
   cases r;exact .cons b (zEJ t)
theorem zG2 (hc:X.calm=true):CallR X (.builtin "all") (λ xs H Q=>∃(l:Addr) (bs:List Bool),xs=[.ref l]/\H l=some (.lst (bs.map V.bl))/\Q (.bl (bs.all id)) H):=by
 intro jP s σ H xs us Q I r h;obtain⟨l,bs,rfl,hl,q⟩:=h;obtain⟨u,rfl,ru⟩:=vals1 r;cases ru;obtain⟨_,its,n,rv,le,e⟩:=I.lstM hl;have L1:s.heap.IsList l its.toArray:=⟨_,e,rfl,_,rfl⟩;have hb:=zEJ rv;have hlt:l<s.heap.objs.size:=lI e;refine call_all_walk (wpAny_pyIter_list L1 ?_)
 refine⟨s.heap.objs.size,[s.heap.objs.size,l],[s.heap.objs.size],its.toArray.size,_,_,λ i=>(bs[i]?).getD true,rfl,Walks.list (A:=X.A.in1) (I.ok.hd hc) _ l (lT hlt) its.toArray,
  ⟨⟨_,lH _ rfl,rfl,rfl⟩,L1.push _⟩,λ i v s' Q' E' hP hQ=>?_,λ h' tk hk=>?_⟩
 ·obtain⟨b,e,rfl⟩:=hb.get i v (by simpa using hP)
  simp only[e,Option.getD_some] at hQ;exact wpAny_truthy_bool hQ
 ·have e:((List.range its.toArray.size).all λ i=>(bs[i]?).getD true)=bs.all id:=by
   rw[List.size_toArray,hb.length];exact LSm.range_all bs
  rw[e];exact⟨.bl (bs.all id),H,I.kept (LSm.kept_iter hk),rfl,q⟩
theorem zKt {k:Int}(h:k.natAbs<2 ^ 500):Builtin.Int.intBits k<=500:=by
 unfold Builtin.Int.intBits;split
 ·exact lZ _
 ·have:k.natAbs.log2<500:=by
   rcases Nat.eq_zero_or_pos k.natAbs with h0|hp
   ·rw[h0];decide
   ·exact(Nat.log2_lt (Nat.ne_of_gt hp)).mpr h
  omega
noncomputable def CMulC (i j:Int):Prop:=i.natAbs<2 ^ 500/\j.natAbs<2 ^ 500
theorem zHT:OpR X (binaryOp .Mult) (rI CMulC λ i j=>.int (i * j)):=opI λ U U U U U U U hc q=>mul_int q (IntMulOk.of_le (zKt hc.1) (zKt hc.2) (by decide))
theorem zIG (hu:X.A.units+1<cLine):OpR X (compareOp .In) (λ x y H Q=>∃(a:Addr) (o:Option V),y = .ref a/\DGet H a x o/\Q (.bl o.isSome) H):=by
 intro jP s σ H x y v u Q I rx ry h;obtain⟨a,o,rfl,g,q⟩:=h;cases ry;exact d_in hu I g rx λ s' I'=>⟨.bl o.isSome,H,I',rfl,q⟩
structure KDic (K:W.Frag) (P:Params) (d:Addr):Prop where
 ex:∃(es:Array DictEntry) (n:Nat),K.lookup d=some ⟨.type "dict", none,.dict es n,#[]⟩/\W.KeysLit P es.toList
 sy:(d == sysModules)=false
noncomputable def zMp (d:Addr):R2:=λ x y H Q=>∃(z:Str) (r:Option Value),x = .str z/\y = .ref d/\W.nsIn X.K d z=some r/\Q (.bl (!r.isSome)) H
theorem zJk {d:Addr}(k:KDic X.K X.w.params d):OpR X (compareOp .NotIn) (zMp (X:=X) d):=by
 intro jP s σ H x y v u Q I rx ry h;obtain⟨z,r,rfl,rfl,e,q⟩:=h;obtain⟨t,rfl⟩:=rx;cases ry;obtain⟨es,n,hl,hk⟩:=k.ex;have hm:=W.mapOf_K (prog:=X.prog) (w:=X.w) I.kIn hl hk;refine wpAny_notIn_of (strKind_is X.prog X.w z t) k.sy hm ?_;rw[W.find_K hl e];exact⟨.bl (!r.isSome),H,I.tok _,rfl,q⟩
noncomputable def rIxK (d:Addr):R2:=λ x y H Q=>∃(z:Str) (r:Value) (v:V),x = .ref d/\y = .str z/\W.nsIn X.K d z=some (some r)/\RelV v r/\Q v H
theorem ix_kd {d:Addr}(k:KDic X.K X.w.params d):IxR X (rIxK (X:=X) d):=by
 intro value slice jP s σ H x y v u Q I rx ry h hs;obtain⟨z,r,vv,rfl,rfl,e,rv,q⟩:=h;cases rx;obtain⟨t,rfl⟩:=ry;obtain⟨es,n,hl,hk⟩:=k.ex;have hm:=W.mapOf_K (prog:=X.prog) (w:=X.w) I.kIn hl hk;exact tail_any hm.typeIs slot_dict_getitem.lookup (wpAny_getItem_of (strKind_is X.prog X.w z t) hm (W.find_K hl e) ⟨vv,H,I.tok _,rv,q⟩) hs
theorem zGt {A:Around}{s:Shared}{kb:List (Key × V)}{vb:List (Key × Value)}(rb:KV kb vb):∀{ka:List (Key × V)}{va:List (Key × Value)},KV ka va->(∀p∈ka,valV kb p.1=some p.2)->(∀p∈ka,∃b,p.2=V.ref b)->W.KeqHits A s vb va true
 |[],_,r,_,_=>by
  cases r;exact .nil
 | (k,x)::ka,_,r,f,fr=>by
  cases r with
  | @cons _ q _ qs h t =>
   obtain⟨k',v⟩:=q;obtain⟨hk,hv⟩:=h;dsimp only at hk hv;subst hk;have ih:=zGt (A:=A) (s:=s) rb t (λ p hp=>f p (lR _ hp)) λ p hp=>fr p (lR _ hp);have ro:=rb.val k;rw[f _ List.mem_cons_self] at ro;obtain⟨b,eb⟩:=fr _ lQ;dsimp only at eb;subst eb;cases e3:valueAt vb k with
   |none=>rw[e3] at ro;exact(show False from ro).elim
   |some z =>
    rw[e3] at ro;cases hv;have ez:z = .ref b:=ro;subst ez;exact .hit (e:=true) e3 (SeqAt.EqAt.same _) ih
theorem zKr:CallR X (.builtin "isinstance") (λ xs H Q=>∃(a:Addr) (kvs:List (Key × V)) (T:String) (b:Bool),xs=[.ref a,.ty T]/\Rd H a (.dK kvs)/\W.kitOne X.K (.type "dict") (.type T)=some b/\Q (.bl b) H):=by
 intro jP s σ H xs us Q I r h;obtain⟨a,kvs,T,b,rfl,e,hk,q⟩:=h;obtain⟨u,w',rfl,ru,rw'⟩:=vals2 r;cases ru;cases rw';obtain⟨_,_,vs,_,o,es,ep,h1,h2,_⟩:=dk_rd I.hok e;exact W.kia_one W.kitx_dict I.kIn ⟨o,h1,h2.1⟩ hk (λ z=>nomatch z) λ tk=>⟨.bl b,H,I.tok tk,rfl,q⟩
theorem zMN (hu:X.A.units<cLine):OpR X (compareOp .Eq) (λ x y H Q=>∃(a b:Addr) (xs:List V),x = .ref a/\y = .ref b/\H a=some (.tup xs)/\H b=some (.tup [])/\Q (.bl (xs.length == 0)) H):=by
 intro jP s σ H x y v u Q I rx ry h;obtain⟨a,b,xs,rfl,rfl,ha,hb,q⟩:=h;cases rx;cases ry;obtain⟨its,rv,p,_⟩:=I.tuple (SqT.of ha);obtain⟨its2,rv2,p2,_⟩:=I.tuple (SqT.of hb);have l1:=rv.length;have l2:=rv2.length;have z2:its2.toArray.size=0:=by rw[List.size_toArray];exact l2.symm
 refine SeqAt.eq_tupleAt (e:=λ U=>true) (show s.heap.IsTuple a its.toArray from p) (show s.heap.IsTuple b its2.toArray from p2) hu (λ j U h2=>absurd h2 (by omega)) ?_
 have e:((List.range (min its.toArray.size its2.toArray.size)).all (λ U=>true) && its.toArray.size == its2.toArray.size)=(xs.length == 0):=by
  rw[z2,List.size_toArray,←l1];simp
 rw[e];exact⟨.bl (xs.length == 0),H,I,rfl,q⟩
theorem zM7 (hu:X.A.units<cLine):OpR X (compareOp .Eq) (λ x y H Q=>∃(a b:Addr) (xs:List V),x = .ref a/\y = .ref b/\H a=some (.lst xs)/\H b=some (.lst [])/\Q (.bl (xs.length == 0)) H):=by
 intro jP s σ H x y v u Q I rx ry h;obtain⟨a,b,xs,rfl,rfl,ha,hb,q⟩:=h;cases rx;cases ry;obtain⟨_,its,n,r1,l1,e1⟩:=I.lstM ha;obtain⟨_,its2,n2,r2,l2,e2⟩:=I.lstM hb;have L1:s.heap.IsList a its.toArray:=⟨_,e1,rfl,_,rfl⟩;have L2:s.heap.IsList b its2.toArray:=⟨_,e2,rfl,_,rfl⟩;have z2:its2.toArray.size=0:=by rw[List.size_toArray];exact l2.symm
 by_cases hl:xs.length=0
 ·refine SeqAt.eq_listAt (e:=λ U=>true) L1 L2 (by rw[z2,List.size_toArray];omega) hu (λ j U h2=>absurd h2 (by omega)) ?_
  have e:(List.range its.toArray.size).all (λ U=>true)=(xs.length == 0):=by rw[hl];simp
  rw[e];exact⟨.bl (xs.length == 0),H,I,rfl,q⟩
 ·refine SeqAt.eq_list_lengthsAt L1 L2 (by rw[z2,List.size_toArray,bne_iff_ne];omega) hu ⟨.bl false,H,I,rfl,?_⟩
  have e:(xs.length == 0)=false:=by simpa using hl
  rw[e] at q;exact q
end
structure Sd (p:Prop):Prop where
 un:p
section
variable {X:Cx}{st:Stmt}{rest:List Stmt}{t u:TS}{e a b:Expr}{es:List Expr}{te ta tb:TE}{tA:TA}{pos:Pos}
theorem zAw (h1:Sd (PS X st t)) (h2:Sd (PSs X rest u)):Sd (PSs X (st::rest) (tSeq t u)):=⟨zAE h1.un h2.un⟩
theorem zBS (h1:Sd (PS X st t)):Sd (PSs X [st] t):=⟨zAF h1.un⟩
theorem zGi {c:Expr}{x y:List Stmt}{tc:TT}(hc:Sd (PT X c tc)) (ha:Sd (PSs X x t)) (hb:Sd (PSs X y u)):Sd (PS X (.If c x y pos) (tIfS tc t u)):=⟨ps_if hc.un ha.un hb.un⟩
theorem zCJ (he:Sd (PE X e te)):Sd (PS X (.Return (some e) pos) (tRet te)):=⟨zAS he.un⟩
theorem zEm {i:Nat}{x:Str}{pos':Pos}(hN:X.N.Nodup) (hi:X.N[i]?=some x) (hx:Loc X.env.scope x) (he:Sd (PE X e te)) (hs:swapsWith e (some (.Name x pos')) pos.line X.env=pure false:=by rfl) (hf:X.fn x=true\/X.env.scope.names.lookup x=some .local:=by first|exact .inl rfl|exact .inr rfl|assumption) :
  Sd (PS X (.Assign [.Name x pos'] e pos) (tAsg te (gName i))):=⟨zAV hN hi hx he.un hs hf⟩
theorem zBT {k:Nat}(h:Sd (PA X es tA)):Sd (PE X (.Tuple es k pos) (tTup tA)):=⟨zAj h.un⟩
theorem zJh (h:Sd (PA X es tA)):Sd (PE X (.List es pos) (tLst tA)):=⟨zA2 h.un⟩
theorem zAb (ha:Sd (PE X e te)) (hr:Sd (PA X es tA)) (hs:starEach (e::es) X.env=(false,eval e X.env)::starEach es X.env:=by rfl):Sd (PA X (e::es) (tCons te tA)):=⟨zAA ha.un hr.un hs⟩
theorem zDQ {r:R2}(hr:IxR X r) (ha:Sd (PE X a ta)) (hb:Sd (PE X b tb)) (hs:zKx b):Sd (PE X (.Subscript a b pos) (tOp r ta tb)):=⟨pe_ix hr ha.un hb.un hs⟩
end
section
variable {prog:Program}{w:World}{A:Around}{E:Value->Shared->Prop}{s:Shared}
end
section
variable {X:Cx}
end
section
variable {prog:Program}{w:World}{A:Around}{E:Value->Shared->Prop}{s:Shared}
end
section
variable {X:Cx}
theorem zIj (bs:List Bool):((List.range bs.length).any λ i=>(bs[i]?).getD false)=bs.any id:=by
 rw[Bool.eq_iff_iff,List.any_eq_true,List.any_eq_true];constructor
 ·rintro⟨i,hi,h⟩
  have hl:=List.mem_range.mp hi;rw[List.getElem?_eq_getElem hl] at h;exact⟨bs[i],List.getElem_mem hl,h⟩
 ·rintro⟨b,hb,h⟩
  obtain⟨i,hl,e⟩:=List.getElem_of_mem hb;exact⟨i,List.mem_range.mpr hl,by rw[List.getElem?_eq_getElem hl,e];exact h⟩
theorem zCT (hc:X.calm=true):CallR X (.builtin "any") (λ xs H Q=>∃(l:Addr) (bs:List Bool),xs=[.ref l]/\H l=some (.lst (bs.map V.bl))/\Q (.bl (bs.any id)) H):=by
 intro jP s σ H xs us Q I r h;obtain⟨l,bs,rfl,hl,q⟩:=h;obtain⟨u,rfl,ru⟩:=vals1 r;cases ru;obtain⟨_,its,n,rv,le,e⟩:=I.lstM hl;have L1:s.heap.IsList l its.toArray:=⟨_,e,rfl,_,rfl⟩;have hb:=zEJ rv;have hlt:l<s.heap.objs.size:=lI e;refine call_any_walk (wpAny_pyIter_list L1 ?_)
 refine⟨s.heap.objs.size,[s.heap.objs.size,l],[s.heap.objs.size],its.toArray.size,_,_,λ i=>(bs[i]?).getD false,rfl,Walks.list (A:=X.A.in1) (I.ok.hd hc) _ l (lT hlt) its.toArray,
  ⟨⟨_,lH _ rfl,rfl,rfl⟩,L1.push _⟩,λ i v s' Q' E' hP hQ=>?_,λ h' tk hk=>?_⟩
 ·obtain⟨b,e,rfl⟩:=hb.get i v (by simpa using hP)
  simp only[e,Option.getD_some] at hQ;exact wpAny_truthy_bool hQ
 ·have e:((List.range its.toArray.size).any λ i=>(bs[i]?).getD false)=bs.any id:=by
   rw[List.size_toArray,hb.length];exact zIj bs
  rw[e];exact⟨.bl (bs.any id),H,I.kept (LSm.kept_iter hk),rfl,q⟩
end
section
variable {X:Cx}
noncomputable def rInD (X:Cx) (neg:Bool):R2:=λ x y H Q=>∃(p:Addr) (xs:List V) (ds:List Dt) (dx:Dt),y = .ref p/\SqT X.K H p xs/\DRs H ds xs/\DR H dx x/\Dt.deeps ds<=100/\Q (.bl (if neg then !ds.any (λ d=>Dt.beq d dx) else ds.any (λ d=>Dt.beq d dx))) H
theorem zLB {x y:V}{u:Value}{H:Hp}{d e:Dt}(rx:RelV x u) (ry:RelV y u) (hx:DR H d x) (hy:DR H e y):d=e:=by
 have:x=y:=by
  cases hx with
  |int i=>obtain⟨t,rfl⟩:=rx;cases hy with
   |int j=>obtain⟨t',h⟩:=ry;cases h;rfl
   |str j=>obtain⟨t',h⟩:=ry;cases h
   |tup h _=>cases ry
  |str i=>obtain⟨t,rfl⟩:=rx;cases hy with
   |int j=>obtain⟨t',h⟩:=ry;cases h
   |str j=>obtain⟨t',h⟩:=ry;cases h;rfl
   |tup h _=>cases ry
  |tup h r=>cases rx;cases hy with
   |int j=>obtain⟨t',h⟩:=ry;cases h
   |str j=>obtain⟨t',h⟩:=ry;cases h
   |tup h' _=>cases ry;rfl
 subst this;exact DR.inj hx hy
open Classical in
noncomputable def eqW (H:Hp) (dx:Dt) (w:Value):Bool:=decide (∃x d,RelV x w/\DR H d x/\Dt.beq d dx=true)
theorem zMa {H:Hp}{dx d:Dt}{x:V}{w:Value}(r:RelV x w) (h:DR H d x):eqW H dx w=Dt.beq d dx:=by
 unfold eqW;rw[Bool.eq_iff_iff,@decide_eq_true_iff _ (Classical.propDecidable _)];constructor
 ·rintro⟨y,e,ry,he,hb⟩
  rw[zLB r ry h he];exact hb
 ·intro hb
  exact⟨x,d,r,h,hb⟩
theorem zKu {H:Hp}{dx:Dt}{ds:List Dt}{xs:List V}{us:List Value}(z:DRs H ds xs) (y:Vals xs us):us.any (eqW H dx)=ds.any λ d=>Dt.beq d dx:=by
 induction y generalizing ds with
 |nil=>cases z;rfl
 |cons r rs ih =>
  cases z with|cons h t=>rw[List.any_cons,List.any_cons,zMa r h,ih t]
theorem zJ4 {jP:List (Addr × Obj)}{σ:L2.St}{H:Hp}{s:Shared}{A:Around}{dx:Dt}{x:V}{v:Value}(I:Inv X jP σ H s) (rx:RelV x v) (hx:DR H dx x) (hu:A.units+100<cLine){ds:List Dt}{xs:List V}{us:List Value}(z:DRs H ds xs) (y:Vals xs us):Dt.deeps ds<=100->∀u∈us,SeqAt.EqAt A s u v (eqW H dx u):=by
 induction y generalizing ds with
 |nil=>exact λ U u hu=>nomatch hu
 |cons r rs ih =>
  cases z with|cons h t =>
  intro hd u' hu';simp only[Dt.deeps] at hd;rcases lP.mp hu' with rfl|hu'
  ·rw[zMa r h]
   exact zNR I 100 A (by omega) h hx r rx hu
  ·exact ih t (by omega) u' hu'
theorem zIn (hu:X.A.units+150<cLine):OpR X (compareOp .NotIn) (rInD X true):=by
 intro jP s σ H x y v u Q I rx ry h;obtain⟨p,xs,ds,dx,rfl,hp,hds,hx,hd,q⟩:=h;cases ry;obtain⟨its,r,pl,hz⟩:=I.tuple hp;refine SeqAt.notIn_tupleAt (eqW H dx) pl (λ w hw=>zJ4 I rx hx (by first|(show X.A.in1.units+100<cLine;rw[show X.A.in1.units=X.A.units+1 from rfl];omega)|(show X.A.in1.in1.units+100<cLine;rw[show X.A.in1.in1.units=X.A.units+2 from rfl];omega)|omega) hds r hd w (by simpa using hw)) ⟨.bl _,H,I,rfl,?_⟩;rw[show its.toArray.any (eqW H dx)=its.any (eqW H dx) by simp,zKu hds r];exact q
end
end L2
namespace PySem
open Sem (wp)
namespace F
theorem dul_entry:entryFor table "dict.update.loop" = some Builtin.«dict.update.loop»:=entryFor_of_tree (by kernel_rfl)
theorem dul_plain:plainId "dict.update.loop" = true:=by decide +kernel
theorem tuple_no_keys:typeLookup (.type "tuple") "keys" = pure none:=am_miss_of_fast (by decide +kernel)
end F
theorem zD3 {prog:Program}{w:World}{A:Around}{E:Value->Shared->Prop}{s:Shared}{a:Addr}{o:Obj}{xs:Array Value}{k:Nat}{name:Str}{Q:Option Value->Shared->Prop}
  (hx:s.heap.get? a=some o) (hc:o.cls = .type "tuple") (hdat:o.data = .seq xs k) (hd:o.dict=none) (hmiss:typeLookup (.type "tuple") name=pure none)
  (hname:(["__module__", "__name__", "__qualname__", "__doc__", "__annotations__"]:List Str).contains name=false) (hA:A.handled=none) (hsz:name.length+100<=sizeLine)
  (h:∀h' tk,(∀b ob,s.heap.get? b=some ob->h'.get? b=some ob)->Q none { s with heap:=h',toks:=tk }):wpAny (model prog w) A (getAttr? (.ref a) name) Q E s:=by
 obtain⟨c,dct,dat,sl⟩:=o;simp only at hc hdat hd;subst hc hdat hd;obtain⟨hp,g,d,tk,os⟩:=s;have hT:∀tk',(⟨hp,g,d,tk',os⟩:Shared).TypeIs (.ref a) "tuple" := λ U=>⟨_,hx,rfl⟩;have f1:=sub_AttributeError;have f3:=F.slot_tuple_getattribute.lookup;have f4:=F.slot_tuple_getattribute.bind (.ref a);have f5:=am_tuple_getattr_none;unfold getAttr? getAttrBy? getAttrBy
 repeat (any_goals (first|assumption|exact hT _|((with_reducible show wpAny _ _ (call (Value.builtin "tuple.__getattribute__") _ _) _ _ _);refine call_meets F.slot_tuple_getattribute (hT _) am_entry_tuple_getattribute (F.args_tuple_getattribute_2 _ _) (meets_getattribute_miss_tuple a xs k sl name _ hmiss hname hsz) ⟨hx,hA,λ h' tk' e hx'=>?_⟩)|wp_step))
 obtain⟨t',u',he⟩:=hx'.there;show wpAny _ _ (getattributeRaised _ _ _ _ _ _ _) _ _ _;unfold getattributeRaised
 repeat (any_goals (first|assumption|wp_step))
 all_goals first
  |exact h _ _ hx'.keeps
  |skip
section
variable {prog:Program}{w:World}{K:Type} [DecidableEq K] {knd:KeyKind prog w K}{A:Around}{R:Result->Shared->Prop}{E:Value->Shared->Prop}
noncomputable def zHk (knd:KeyKind prog w K) (h:Heap) (its:List Value) (prs:List (K × Value)):Prop :=
 its.length=prs.length/\∀(i:Nat) (x:Value),its[i]?=some x->∃(pa:Addr) (key:Value) (kv:K × Value),x=Value.ref pa/\prs[i]?=some kv/\h.IsTuple pa #[key,kv.2]/\knd.is kv.1 key=true
theorem Heap.IsTuple.kept {h h':Heap}{a:Addr}{xs:Array Value}(x:h.IsTuple a xs) (k:∀b o,h.get? b=some o->h'.get? b=some o):h'.IsTuple a xs :=
 let ⟨o,ho,r⟩:=x;⟨o,k a o ho,r⟩
theorem zLw {h0:Heap}{d it t:Addr}{items:Array Value}{prs:List (K × Value)}(hA:A.handled=none) (hld:h0.objs.size<=d) (hli:h0.objs.size<=it) (hne:d≠it)
  (ht:h0.IsTuple t items) (hp:zHk knd h0 items.toList prs) (hsz:prs.length<=sizeLine) :
  ∀(n i:Nat) (s:Shared),items.size - i=n->i<=items.size->(∀b o,h0.get? b=some o->s.heap.get? b=some o)->s.heap.IsTupleIter it t i->s.heap.DictOf knd d (merged [] (prs.take i)) ->
   (∀h' tk,(∀b o,h0.get? b=some o->h'.get? b=some o)->h'.DictOf knd d (merged [] prs)->R (.ok (.ret .none)) { s with heap:=h',toks:=tk }) ->
   codeAny (model prog w) A (.builtin "dict.update.loop" ⟨[.ref d,.ref it,.int (i:Int) 0,.none],[]⟩) R s:=by
 have hlen:items.size=prs.length:=by rw[←hp.1];simp
 intro n
 induction n with
 |zero =>
  intro i s hn hi kp hit hd hR;have e:i=items.size:=by omega
  subst e;refine codeAny_builtin F.dul_entry ?_;rw[Around.under_plainId F.dul_plain _];refine lA (wpAny_pyNext_tuple_end (show A.in1.handled=none from hA) hit (ht.kept kp) (by simp) λ h' he=>?_);show wpAny _ _ (Builtin.Dict.addKeywords d [] >>= _) _ _ _;refine lA (lB (lB (hR h' s.toks (λ b o hb=>he b o (lT (mB (lI hb) hli)) (kp b o hb)) ?_)));rw[hlen,List.take_length] at hd;obtain⟨o,es,ep,ho,rest⟩:=hd;exact⟨o,es,ep,he d o hne ho,rest⟩
 |succ n ih =>
  intro i s hn hi kp hit hd hR;have hlt:i<items.size:=by omega
  obtain⟨pa,key,kv,ex,ekv,htp,hkey⟩:=hp.2 i items[i] (by simp[hlt]);refine codeAny_builtin F.dul_entry ?_;rw[Around.under_plainId F.dul_plain _];refine lA (wpAny_pyNext_tuple_item hit (ht.kept kp) (x:=items[i]) (by simp[hlt]) λ h1 hit1 hs1=>?_);have kp1:∀b o,h0.get? b=some o->h1.get? b=some o:=λ b o hb=>hs1.extBut b o (lT (mB (lI hb) hli)) (kp b o hb);rw[ex];have htp1:=htp.kept kp1;refine lA (lE (lA (wpAny_tryCatch ?_)));unfold Builtin.Dict.pairItems;refine lA (wpAny_typeOf (s:={ s with heap:=h1 }) (v:=.ref pa) (T := "tuple") htp1.typeIs ?_);rw[if_pos (by decide)];obtain⟨o2,ho2,hc2,n2,hd2⟩:=htp1;refine lA (wpAny_seqItems ho2 hd2 (lB ?_))
  have hd1:h1.DictOf knd d (merged [] (prs.take i)):=by
   obtain⟨o,es,ep,ho,rest⟩:=hd;exact⟨o,es,ep,hs1.extBut d o hne ho,rest⟩
  have hml:(merged [] (prs.take i)).length<=sizeLine:=by
   have e1:=merged_length_le ([]:List (K × Value)) (prs.take i);rw[List.length_nil,List.length_take] at e1;omega
  show wpAny _ _ (holding [key,kv.2] (dictSet d key kv.2)) _ _ _;refine lE (wpAny_dictSet_pairs (hsz:=hml) hkey hd1 λ h2 hd2 hs2=>?_);refine lB ⟨plainId_quiet F.dul_plain _,?_⟩;refine ih (i+1) _ (by omega) hlt (λ b o hb=>hs2.extBut b o (lT (mB (lI hb) hld)) (kp1 b o hb)) (hit1.extBut hs2.extBut (Ne.symm hne)) ?_ λ h' tk k' d'=>hR h' tk k' d';rw[merged_take_succ [] prs i kv ekv];exact hd2
theorem zFE {s:Shared}{t:Addr}{o:Obj}{items:Array Value}{n:Nat}{prs:List (K × Value)}{Q:Value->Shared->Prop}(hA:A.handled=none) (hx:s.heap.get? t=some o) (hc:o.cls = .type "tuple") (hdat:o.data = .seq items n) (hdn:o.dict=none)
  (hp:zHk knd s.heap items.toList prs) (hsz:prs.length<=sizeLine)
  (h:∀h' tk,(∀b o,s.heap.get? b=some o->h'.get? b=some o)->h'.DictOf knd s.heap.objs.size (merged [] prs)->Q (.ref s.heap.objs.size) { s with heap:=h',toks:=tk }) :
  wpAny (model prog w) A (call (.type "dict") [.ref t]) Q E s:=by
 refine callType_codes (Q₁:=λ obj s₁=>obj = .ref s.heap.objs.size/\s₁={ s with heap:=s.heap.push { cls:=.type "dict", data:=.dict #[] } }) F.kt_called_dict (F.kt_typeCall_dict_1 _) F.entry_dict_init (kt_code_dict_new _ ⟨rfl,rfl⟩) ?_;rintro obj s₁ ⟨rfl,rfl⟩;have hnew:(s.heap.push { cls:=.type "dict", data:=.dict #[] }).DictOf knd s.heap.objs.size []:=Heap.DictOf.new s.heap;have kp0:∀b o,s.heap.get? b=some o->(s.heap.push { cls:=.type "dict", data:=.dict #[] }).get? b=some o:=λ b o hb=>lG _ hb;have ht0:s.heap.IsTuple t items:=⟨o,hx,hc,n,hdat⟩;refine⟨hnew.typeIs,F.args_dict_init_2 _ _,?_⟩;unfold Builtin.«dict.__init__»;refine lA ?_;unfold Builtin.Dict.selfAndRest;refine lA (wpAny_notOrdered_dict hnew.typeIs ?_);show wpAny _ _ (pure (s.heap.objs.size,[Value.ref t])) _ _ _;refine lB ?_;show wpAny _ _ (Builtin.Dict.updateFrom "dict.__init__" s.heap.objs.size (.ref t) [] .none) _ _ _;unfold Builtin.Dict.updateFrom;refine lA (wpAny_typeOf (v:=.ref t) (T := "tuple") (ht0.kept kp0).typeIs ?_);rw[if_pos (by decide)];refine lA (zD3 (kp0 _ _ hx) hc hdat hdn F.tuple_no_keys (by decide +kernel) hA (by size_fits) λ h1 tk kp1=>?_);rw[if_pos (show (Option.none:Option Value).isNone=true from rfl)];have kp01:∀b o,s.heap.get? b=some o->h1.get? b=some o:=λ b o hb=>kp1 b o (kp0 b o hb);refine lA (wpAny_rule ?_);refine lA (wpAny_pyIter_tuple (ht0.kept kp01) ?_)
 have hd1:h1.DictOf knd s.heap.objs.size []:=by
  obtain⟨o,es,ep,ho,rest⟩:=hnew;exact⟨o,es,ep,kp1 _ _ ho,rest⟩
 have hsd:s.heap.objs.size<h1.objs.size:=let ⟨_,_,_,ho,_⟩:=hd1;lI ho;refine lB ⟨plainId_quiet F.dul_plain _,?_⟩;refine zLw (h0:=s.heap) (knd:=knd) (A:=A.in1) hA (lS _) (Nat.le_of_lt hsd) (lT hsd) ht0 hp hsz items.size 0 _ (by omega) (lZ _) (λ b o hb=>lG _ (kp01 b o hb)) ⟨_,lH _ rfl,rfl,rfl⟩ (hd1.push _) λ h' tk' k' d'=>?_;exact⟨rfl,h h' tk' k' d'⟩
end
end PySem
namespace L2
open PySem PySem.Spec PyProof.Rows
section
variable {X:Cx}
theorem zJl (hu:X.A.units<cLine):OpR X (compareOp .NotEq) (λ x y H Q=>∃(a b:Addr) (xs:List V),x = .ref a/\y = .ref b/\H a=some (.lst xs)/\H b=some (.lst [])/\Q (.bl (!(xs.length == 0))) H):=by
 intro jP s σ H x y v u Q I rx ry h;obtain⟨a,b,xs,rfl,rfl,ha,hb,q⟩:=h;cases rx;cases ry;obtain⟨_,its,n,r1,l1,e1⟩:=I.lstM ha;obtain⟨_,its2,n2,r2,l2,e2⟩:=I.lstM hb;have L1:s.heap.IsList a its.toArray:=⟨_,e1,rfl,_,rfl⟩;have L2:s.heap.IsList b its2.toArray:=⟨_,e2,rfl,_,rfl⟩;have z2:its2.toArray.size=0:=by rw[List.size_toArray];exact l2.symm
 by_cases hl:xs.length=0
 ·have e0:its.toArray.size=0:=by rw[List.size_toArray];omega
  refine SeqAt.RcNeAt.lists (e:=λ U=>true) L1 L2 (by omega) hu (λ j U h2=>absurd h2 (by omega)) _ _ _ _ ?_;rw[e0];rw[hl] at q;exact⟨.bl false,H,I,rfl,q⟩
 ·have e:(xs.length == 0)=false:=by simpa using hl
  rw[e] at q;exact SeqAt.RcNeAt.lists_lengths L1 L2 (by rw[z2,List.size_toArray,bne_iff_ne];omega) hu _ _ _ _ ⟨.bl true,H,I,rfl,q⟩
noncomputable def rDUpd:V->List V->Hp->VK->Prop:=λ x vs H Q=>∃(a b:Addr) (ka kb:List (Key × V)),x = .ref a/\vs=[.ref b]/\a≠b/\H a=some (.dK ka)/\H b=some (.dK kb)/\ka.length+kb.length<=sizeLine/\Q .non (upd H a (.dK (zAf ka kb)))
theorem zIv:MtM X "dict.update" rDUpd:=by
 intro jP s σ H x vs v us Q I rx rv h;obtain⟨a,b,ka,kb,rfl,rfl,hne,ha,hb,hz,q⟩:=h;cases rx;obtain⟨u,rfl,ru⟩:=rv.one;cases ru;obtain⟨z1,sa,va,ra,da⟩:=dk_of I.hok ha;obtain⟨z2,sb,vb,rb,db⟩:=dk_of I.hok hb;have hl:va.length+vb.length<=sizeLine:=by rw[←ra.length,←rb.length];exact hz
 refine call_meetsIn PySem.F.slot_dict_update da.typeIs PySem.F.entry_dict_update (PySem.F.args_dict_update_2 _ _) (meets_dict_update (zAg X.prog X.w) a b hne sb) ⟨va,vb,da,db,hl,λ h' d1 d2 hs=>?_⟩;have he:∃q,h'.get? a=some q:=let ⟨q,_,_,hq,_⟩:=d1;⟨q,hq⟩;have hm:(zAf ka kb).length<=sizeLine:=by have:=zBV kb ka;omega
 exact⟨.non,_,zFC (t':=s.toks) I (by rw[ha];exact True.intro) hs he (zFj hm sa (rb.merge ra) d1),rfl,q⟩
theorem zDh:CallR X (.type "tuple") (λ xs H Q=>∃p ys,xs=[.ref p]/\SqL X.K H p ys/\∀(l:Addr) (o:Obj),H l=none->o.dict=none->Q (.ref l) (upd H l (.frz o (.tup ys)))):=by
 intro jP s σ H xs us Q I r h;obtain⟨p,ys,rfl,hq,q⟩:=h;obtain⟨u,rfl,rx⟩:=vals1 r;cases rx;obtain⟨its,r',pl,hz⟩:=I.list hq;have hlen:=r'.length;refine call_tuple_list pl.isList (λ h' kp=>?_) (by simp only[List.size_toArray]<;>omega);have I1:Inv X jP σ H { s with heap:=h' }:=I.kept (t':=s.toks) kp;have I2:=I1.laid (o:=.frz { cls:=.type "tuple", data:=.seq its.toArray } (.tup ys)) (t':=s.toks) (h':=h'.push { cls:=.type "tuple", data:=.seq its.toArray }) (λ b o e=>lG _ e) (lS h'.objs.size) ⟨lH _ rfl,hz,its,r',IsTup.new _ _⟩;exact⟨.ref h'.objs.size,_,I2,rfl,q _ _ (I1.hok.fresh (lS _)) rfl⟩
noncomputable def PrV (H:Hp) (y:V) (kv:Key × V):Prop:=∃b,y = .ref b/\H b=some (.tup [kV kv.1,kv.2])
set_option tactic.hygienic true in
theorem zMI {P:Program}{w:World}{H:Hp}{h:Heap}(ok:HOk P w H h):∀{ys:List V}{kvs:List (Key × V)},Paired (PrV H) ys kvs->∀{its:List Value},Vals ys its->∃prs,zHk (zAg P w) h its prs/\KV kvs prs
 |_,_,.nil,its,r=>by
  cases r;exact⟨[],⟨rfl,λ i x hx=>by simp at hx⟩,.nil⟩
 |_,_,.cons (b:=kv) hy hr,its,r=>by
  cases r with
  |cons r1 r2 =>
   obtain⟨prs,⟨pl,pp⟩,k⟩:=zMI ok hr r2;obtain⟨b,rfl,hb⟩:=hy;cases r1;obtain⟨_,its2,rv,tp⟩:=(show ObjOk P w H h b (.tup [kV kv.1,kv.2]) from ok b _ hb);cases rv with
   |cons q1 rv=>cases rv with
    |cons q2 rv =>
     cases rv;rename_i key val;refine⟨(kv.1,val)::prs,⟨by simp[pl],λ i x hx=>?_⟩,.cons ⟨rfl,q2⟩ k⟩;cases i with
     |zero =>
      simp at hx;exact⟨b,key,(kv.1,val),hx.symm,rfl,tp,kV_is q1⟩
     |succ i =>
      simp at hx;obtain⟨pa,key',kv',h1,h2,h3,h4⟩:=pp i x hx;exact⟨pa,key',kv',h1,by simpa using h2,h3,h4⟩
noncomputable def zNv:List V->Hp->VK->Prop:=λ xs H Q=>∃(a:Addr) (o:Obj) (ys:List V) (kvs:List (Key × V)),xs=[.ref a]/\H a=some (.frz o (.tup ys))/\o.dict=none/\Paired (PrV H) ys kvs/\kvs.length<=1000/\∀p,H p=none->Q (.ref p) (upd H p (.dK (zAf [] kvs)))
theorem zFn (hc:X.calm=true):CallR X (.type "dict") zNv:=by
 intro jP s σ H xs us Q I r h;obtain⟨a,o,ys,kvs,rfl,ha,hdn,hp,hl,q⟩:=h;obtain⟨u,rfl,ru⟩:=vals1 r;cases ru;obtain⟨hx,hz,its,rv,o',ho',hcl,n,hdat⟩:=(show ObjOk X.prog X.w H s.heap a (.frz o (.tup ys)) from I.hok a _ ha);rw[hx] at ho';cases ho';obtain⟨prs,hpi,k⟩:=zMI I.hok hp rv;have hkl:prs.length<=sizeLine:=by rw[←k.length];exact zAe hl
 have hm:(zAf [] kvs).length<=sizeLine:=by
  have:=zBV kvs [];rw[List.length_nil] at this;exact zAe (by omega)
 refine zFE (knd:=zAg X.prog X.w) (I.ok.hd hc) hx hcl hdat hdn (by simpa using hpi) hkl λ h' tk kp d'=>?_;have hn:=I.hok.fresh (lS s.heap.objs.size);refine⟨.ref s.heap.objs.size,_,I.laid (a:=s.heap.objs.size) (o:=.dK (zAf [] kvs)) (t':=tk) kp (lS _) (zFj hm (beq_eq_false_iff_ne.mpr (Ne.symm (lT I.big))) (k.merge .nil) d'),rfl,q _ hn⟩
end
theorem zFk {o:Obj}{a:Addr}{kvs:List (Key × V)}{acc:Addr}{g:TG}{tt:TT}{te:TE}{σ:L2.St}{H:Hp}{R:Hp->Prop}(Pv:Nat->Hp->Prop) (h0:Pv 0 (upd H acc (.lst []))) (hl:∀i H,i<=kvs.length->Pv i H->H a=some (.frz o (.dK kvs)))
  (hs:∀i p H,kvs[i]?=some p->Pv i H->g (kV p.1) σ H λ σ2 H4=>Ext σ σ2/\tt σ2 H4 λ b H5 =>
   if b=true then te σ2 H5 λ y H6=>∃zs,H6 acc=some (.lst zs)/\zs.length<sizeLine/\Pv (i+1) (upd H6 acc (.lst (zs++[y]))) else Pv (i+1) H5) (hd:∀H,Pv kvs.length H->R H) :
  ∃W:Nat->Nat->Hp->Prop,(∃m,W 0 m (upd H acc (.lst [])))/\∀i m H2,W i m H2 ->
   ((Itd o a kvs).stop i H2/\R H2)\/((Itd o a kvs).go i H2/\∃N:Hp->Prop,(∀H',N H'->∃m',m'<m/\W (i+1) m' H')/\∀x H3,(Itd o a kvs).yld i H2 x H3->g x σ H3 λ σ2 H4=>Ext σ σ2/\tt σ2 H4 λ b H5 =>
    if b=true then te σ2 H5 λ y H6=>∃zs,H6 acc=some (.lst zs)/\zs.length<sizeLine/\N (upd H6 acc (.lst (zs++[y])))
    else N H5):=by
 refine⟨λ i m H=>m=kvs.length - i/\i<=kvs.length/\Pv i H,⟨kvs.length,by simp,lZ _,h0⟩,?_⟩;rintro i m H2 ⟨rfl,hi,p⟩;have q:=hl i H2 hi p
 by_cases hlt:i<kvs.length
 ·refine .inr ⟨⟨q,hlt⟩,Pv (i+1),λ H' p'=>⟨kvs.length - (i+1),by omega,rfl,hlt,p'⟩,λ x H' y=>?_⟩
  obtain⟨e,p',hp',ex⟩:=y;subst e ex;exact hs i p' _ hp' p
 ·have e:i=kvs.length:=by omega
  subst e;exact .inl ⟨⟨q,lS _⟩,hd H2 p⟩
theorem zFQ:∀(more kvs:List (Key × V)) (k:Key),valV (zAf kvs more) k=match valV more.reverse k with|some v=>some v|none=>valV kvs k
 |[],kvs,k=>rfl
 |p::more,kvs,k=>by
  show valV (zAf (putK kvs p.1 p.2) more) k=_;rw[zFQ more,zDB,List.reverse_cons];unfold valV;rw[List.find?_append];cases e:List.find? (λ kv:Key × V=>decide (kv.1=k)) more.reverse with
  |some z=>simp
  |none =>
   by_cases h:k=p.1
   ·simp[h]
   ·have h':¬p.1=k:=λ z=>h z.symm
    simp[h,h']
end L2
namespace L2
open PySem PySem.W PyProof.Rows
noncomputable def Ev (r:Nat->Nat->Bool) (n:Nat) {α:Type}:KasT α->(α->Prop)->Prop
 |.ret a,Q=>Q a
 |.ask i j k,Q=>i<n/\j<n/\i≠j/\Ev r n (k (r i j)) Q
theorem Ev.bind {r:Nat->Nat->Bool}{n:Nat}{α β:Type}{f:α->KasT β}{Q:β->Prop}:∀{t:KasT α},Ev r n t (λ a=>Ev r n (f a) Q)->Ev r n (t.bind f) Q
 |.ret _,h=>h
 |.ask i j k,h=>⟨h.1,h.2.1,h.2.2.1,Ev.bind (t:=k (r i j)) h.2.2.2⟩
theorem Ev.mono {r:Nat->Nat->Bool}{n:Nat}{α:Type}{Q R:α->Prop}(hq:∀a,Q a->R a):∀{t:KasT α},Ev r n t Q->Ev r n t R
 |.ret a,h=>hq a h
 |.ask i j k,h=>⟨h.1,h.2.1,h.2.2.1,Ev.mono hq (t:=k (r i j)) h.2.2.2⟩
theorem Ev.wp {r:Nat->Nat->Bool}{n:Nat}{cmp:Nat->Nat->(Bool->Shared->Prop)->Shared->Prop}{St:Shared->Prop}(hc:∀i j C s,i<n->j<n->i≠j->St s->(∀s',St s'->C (r i j) s')->cmp i j C s) {α:Type}{Q:α->Prop}{G:α->Shared->Prop}(hG:∀a s,Q a->St s->G a s) :
  ∀{t:KasT α}{s:Shared},Ev r n t Q->St s->t.kasWp cmp G s
 |.ret a,s,h,hs=>hG a s h hs
 |.ask i j k,s,h,hs=>hc i j _ s h.1 h.2.1 h.2.2.1 hs λ s' hs'=>Ev.wp hc hG (t:=k (r i j)) h.2.2.2 hs'
structure Ord (n:Nat) (r:Nat->Nat->Bool):Prop where
 tot:∀i j,i<n->j<n->i≠j->r i j=false->r j i=true
 asym:∀i j,i<n->j<n->r i j=true->r j i=false
 trans:∀i j k,i<n->j<n->k<n->r i j=true->r j k=true->r i k=true
section
variable {n:Nat}{r:Nat->Nat->Bool}
abbrev lt (r:Nat->Nat->Bool) (p:Array Nat) (i j:Nat):Bool:=r (p.getD i 0) (p.getD j 0)
noncomputable def PermN (n:Nat) (p:Array Nat):Prop:=p.toList.Perm (List.range n)
theorem PermN.size {p:Array Nat}(h:PermN n p):p.size=n:=by have:=h.length_eq;simpa using this
theorem PermN.lt {p:Array Nat}(h:PermN n p) {i:Nat}(hi:i<n):p.getD i 0<n:=by
 have hs:=h.size;have e:p.getD i 0=p[i]'(by omega):=by simp[Array.getD,hs,hi]
 rw[e];have:p[i]'(by omega)∈p.toList:=by simp
 exact List.mem_range.mp (h.mem_iff.mp this)
theorem PermN.ne {p:Array Nat}(h:PermN n p) {i j:Nat}(hi:i<n) (hj:j<n) (ne:i≠j):p.getD i 0≠p.getD j 0:=by
 have hs:=h.size;have e1:p.getD i 0=p.toList[i]'(by simp;omega):=by simp[Array.getD,hs,hi]
 have e2:p.getD j 0=p.toList[j]'(by simp;omega):=by simp[Array.getD,hs,hj]
 have nd:p.toList.Nodup:=h.nodup_iff.mpr List.nodup_range;rw[e1,e2];intro z;exact ne ((List.getElem_inj nd).mp z)
noncomputable def Asc (r:Nat->Nat->Bool) (p:Array Nat) (k:Nat):Prop:=∀i j,i<j->j<k->lt r p i j=true
noncomputable def Dsc (r:Nat->Nat->Bool) (p:Array Nat) (k:Nat):Prop:=∀i j,i<j->j<k->lt r p j i=true
theorem Asc.more (o:Ord n r) {p:Array Nat}(hp:PermN n p) {k:Nat}(h1:1<=k) (hk:k<n) (h:Asc r p k) (hl:lt r p (k - 1) k=true):Asc r p (k+1):=λ i j hij hj=>by
 by_cases e:j=k
 ·subst e
  by_cases e2:i=j - 1
  ·rw[e2];exact hl
  ·exact o.trans _ _ _ (hp.lt (by omega)) (hp.lt (by omega)) (hp.lt hk) (h i (j - 1) (by omega) (by omega)) hl
 ·exact h i j hij (by omega)
theorem Dsc.more (o:Ord n r) {p:Array Nat}(hp:PermN n p) {k:Nat}(h1:1<=k) (hk:k<n) (h:Dsc r p k) (hl:lt r p k (k - 1)=true):Dsc r p (k+1):=λ i j hij hj=>by
 by_cases e:j=k
 ·subst e
  by_cases e2:i=j - 1
  ·rw[e2];exact hl
  ·exact o.trans _ _ _ (hp.lt hk) (hp.lt (by omega)) (hp.lt (by omega)) hl (h i (j - 1) (by omega) (by omega))
 ·exact h i j hij (by omega)
theorem zKX (o:Ord n r) {p:Array Nat}(hp:PermN n p):∀(f k:Nat),1<=k->k+f<=n->Asc r p k->Ev r n (kas_asc p f k) (λ m=>k<=m/\m<=k+f/\Asc r p m/\(m<k+f->lt r p m (m - 1)=true))
 |0,k,h1,hk,h=>⟨lS _,lS _,h,λ z=>by omega⟩
 |f+1,k,h1,hk,h=>by
  refine⟨hp.lt (by omega),hp.lt (by omega),hp.ne (by omega) (by omega) (by omega),?_⟩;cases e:r (p.getD k 0) (p.getD (k - 1) 0) with
  |true=>exact⟨lS _,by omega,h,λ U=>e⟩
  |false =>
   have hl:=o.tot _ _ (hp.lt (i:=k) (by omega)) (hp.lt (i:=k - 1) (by omega)) (hp.ne (by omega) (by omega) (by omega)) e;exact Ev.mono (λ m hm=>⟨by omega,by omega,hm.2.2.1,λ z=>hm.2.2.2 (by omega)⟩) (zKX o hp f (k+1) (by omega) (by omega) (h.more o hp h1 (by omega) hl))
theorem zKW (o:Ord n r) {p:Array Nat}(hp:PermN n p):∀(f k:Nat),1<=k->k+f<=n->Dsc r p k->Ev r n (kas_desc f p k 0) (λ z=>z.1=p/\k<=z.2.1/\z.2.1<=k+f/\z.2.2=0/\Dsc r p z.2.1)
 |0,k,h1,hk,h=>⟨rfl,lS _,lS _,rfl,h⟩
 |f+1,k,h1,hk,h=>by
  refine⟨hp.lt (by omega),hp.lt (by omega),hp.ne (by omega) (by omega) (by omega),?_⟩;cases e:r (p.getD k 0) (p.getD (k - 1) 0) with
  |true =>
   exact Ev.mono (λ z hz=>⟨hz.1,by omega,by omega,hz.2.2.2.1,hz.2.2.2.2⟩) (zKW o hp f (k+1) (by omega) (by omega) (h.more o hp h1 (by omega) e))
  |false =>
   have hl:=o.tot _ _ (hp.lt (i:=k) (by omega)) (hp.lt (i:=k - 1) (by omega)) (hp.ne (by omega) (by omega) (by omega)) e;refine⟨hp.lt (by omega),hp.lt (by omega),hp.ne (by omega) (by omega) (by omega),?_⟩;rw[hl];exact⟨rfl,lS _,(by show k<=k+(f+1);omega),rfl,h⟩
theorem zGF {p q:Array Nat}{i j:Nat}(h:p[i]?=q[j]?):p.getD i 0=q.getD j 0:=by
 rw[Array.getD_eq_getD_getElem?,Array.getD_eq_getD_getElem?,h]
theorem PermN.of {p q:Array Nat}(h:q.Perm p) (hp:PermN n p):PermN n q:=(Array.perm_iff_toList_perm.mp h).trans hp
theorem zMn {p:Array Nat}(hp:PermN n p) {k:Nat}(hk:k<=n) (h:Dsc r p k):PermN n (kas_rev p 0 k)/\Asc r (kas_rev p 0 k) k:=by
 refine⟨hp.of (mirror_perm _ _ _ _),λ i j hij hj=>?_⟩
 have e:∀i,i<k->(kas_rev p 0 k).getD i 0=p.getD (k - 1 - i) 0:=λ i hi=>by
  refine zGF ?_;have:=getElem?_mirror_all (xs:=p) (i:=0) (j:=k) (by rw[hp.size];exact hk) i;unfold kas_rev;rw[this,if_pos ⟨Nat.zero_le _,hi⟩,Nat.zero_add]
 unfold lt;rw[e i (by omega),e j hj];exact h (k - 1 - j) (k - 1 - i) (by omega) (by omega)
theorem zLu (o:Ord n r) {p:Array Nat}(hp:PermN n p) {k:Nat}(h1:1<=k) (hk:k<=n) (h:Dsc r p k):Ev r n (kas_tail3 k n p) (λ z=>PermN n z.2/\1<=z.1/\z.1<=n/\Asc r z.2 z.1):=by
 obtain⟨q1,q2⟩:=zMn hp hk h;exact Ev.bind (Ev.mono (λ m hm=>⟨q1,by omega,by omega,hm.2.2.1⟩) (zKX o q1 (n - k) k h1 (by omega) q2))
theorem zHg (o:Ord n r) {p:Array Nat}(hp:PermN n p) (h2:2<=n) (h:lt r p 1 0=true):Ev r n (kas_descPart 1 n p) (λ z=>PermN n z.2/\1<=z.1/\z.1<=n/\Asc r z.2 z.1):=by
 have d2:Dsc r p 2:=λ i j hij hj=>by
  have:i=0:=by omega
  have:j=1:=by omega
  subst i j;exact h
 refine Ev.bind (Ev.mono (λ z hz=>?_) (zKW o hp (n - 2) 2 (by omega) (by omega) d2));obtain⟨p',m,q⟩:=z;obtain⟨e1,e2,e3,e4,e5⟩:=hz;dsimp only at e1 e2 e3 e4 e5;subst e1 e4;have e3':m<=2+(n - 2):=e3;have e2':2<=m:=e2;exact zLu o hp (k:=m) (by omega) (by omega) e5
theorem zLv (o:Ord n r) {p:Array Nat}(hp:PermN n p) (h2:2<=n):Ev r n (kas_count n p) (λ z=>PermN n z.2/\1<=z.1/\z.1<=n/\Asc r z.2 z.1):=by
 refine Ev.bind (Ev.mono (λ m hm=>?_) (zKX o hp (n - 1) 1 (lS _) (by omega) (λ i j hij hj=>by omega)));obtain⟨h1,hmn,ha,hl⟩:=hm
 by_cases e:m=n
 ·subst e
  rw[if_pos (by simp)];exact⟨hp,h1,lS _,ha⟩
 ·rw[if_neg (by simpa using e)]
  by_cases e1:m > 1
  ·rw[if_pos e1]
   refine⟨hp.lt (by omega),hp.lt (by omega),hp.ne (by omega) (by omega) (by omega),?_⟩;have:r (p.getD 0 0) (p.getD (m - 1) 0)=true:=ha 0 (m - 1) (by omega) (by omega);rw[this];exact⟨hp,h1,by dsimp only;omega,ha⟩
  ·rw[if_neg e1]
   have:m=1:=by omega
   subst this;exact zHg o hp h2 (hl (by omega))
theorem zGI (o:Ord n r) {p:Array Nat}(hp:PermN n p) {k:Nat}(hk:k<n) (ha:Asc r p k):∀(f l u:Nat),l<=u->u<=k->u - l<=f->(∀i,i<l->lt r p i k=true)->(∀i,u<=i->i<k->lt r p k i=true) ->
  Ev r n (kas_place p k f l u) (λ m=>m<=k/\(∀i,i<m->lt r p i k=true)/\(∀i,m<=i->i<k->lt r p k i=true))
 |0,l,u,hl,hu,hf,h1,h2=>⟨by omega,h1,λ i hi hik=>h2 i (by omega) hik⟩
 |f+1,l,u,hl,hu,hf,h1,h2=>by
  unfold kas_place
  by_cases e:l ≥ u
  ·rw[if_pos e]
   exact⟨by omega,h1,λ i hi hik=>h2 i (by omega) hik⟩
  ·rw[if_neg e]
   refine⟨hp.lt hk,hp.lt (by omega),hp.ne (by omega) (by omega) (by omega),?_⟩;cases c:r (p.getD k 0) (p.getD ((l+u) / 2) 0) with
   |true =>
    refine zGI o hp hk ha f l ((l+u) / 2) (by omega) (by omega) (by omega) h1 λ i hi hik=>?_
    by_cases z:i=(l+u) / 2
    ·rw[z];exact c
    ·exact o.trans _ _ _ (hp.lt hk) (hp.lt (by omega)) (hp.lt (by omega)) c (ha _ i (by omega) hik)
   |false =>
    have hl':=o.tot _ _ (hp.lt hk) (hp.lt (i:=(l+u) / 2) (by omega)) (hp.ne hk (by omega) (by omega)) c;refine zGI o hp hk ha f ((l+u) / 2+1) u (by omega) hu (by omega) (λ i hi=>?_) h2
    by_cases z:i=(l+u) / 2
    ·rw[z];exact hl'
    ·exact o.trans _ _ _ (hp.lt (by omega)) (hp.lt (by omega)) (hp.lt hk) (ha i _ (by omega) (by omega)) hl'
theorem zI5 {p:Array Nat}(hp:PermN n p) {k m:Nat}(hk:k<n) (hm:m<=k) (ha:Asc r p k) (h1:∀i,i<m->lt r p i k=true) (h2:∀i,m<=i->i<k->lt r p k i=true):PermN n (bubble p k (k - m))/\Asc r (bubble p k (k - m)) (k+1):=by
 refine⟨hp.of (bubble_perm _ _ _),λ i j hij hj=>?_⟩
 have e:∀i,(bubble p k (k - m)).getD i 0=if i=m then p.getD k 0 else if m<i/\i<=k then p.getD (i - 1) 0 else p.getD i 0:=λ i=>by
  have:=getElem?_bubble (xs:=p) (src:=k) (by rw[hp.size];exact hk) (k - m) (by omega) i;rw[show k - (k - m)=m by omega] at this
  by_cases c1:i=m
  ·rw[if_pos c1] at this ⊢;exact zGF this
  ·rw[if_neg c1] at this ⊢
   by_cases c2:m<i/\i<=k
   ·rw[if_pos c2] at this ⊢;exact zGF this
   ·rw[if_neg c2] at this ⊢;exact zGF this
 unfold lt;rw[e i,e j]
 by_cases i1:i=m
 ·rw[if_pos i1,if_neg (by omega),if_pos ⟨by omega,by omega⟩]
  exact h2 (j - 1) (by omega) (by omega)
 ·rw[if_neg i1]
  by_cases j1:j=m
  ·rw[if_pos j1,if_neg (by omega)]
   exact h1 i (by omega)
  ·rw[if_neg j1]
   by_cases i2:m<i/\i<=k
   ·rw[if_pos i2,if_pos ⟨by omega,by omega⟩]
    exact ha (i - 1) (j - 1) (by omega) (by omega)
   ·rw[if_neg i2]
    by_cases j2:m<j/\j<=k
    ·rw[if_pos j2]
     exact ha i (j - 1) (by omega) (by omega)
    ·rw[if_neg j2]
     exact ha i j hij (by omega)
theorem zMZ (o:Ord n r):∀(f:Nat) {p:Array Nat}(k:Nat),PermN n p->k+f=n->Asc r p k->Ev r n (kas_bin f p k) (λ q=>PermN n q/\Asc r q n)
 |0,p,k,hp,hk,ha=>⟨hp,by have:k=n:=hk;rw[←this];exact ha⟩
 |f+1,p,k,hp,hk,ha=>by
  refine Ev.bind (Ev.mono (λ m hm=>?_) (zGI o hp (by omega) ha k 0 k (lZ _) (lS _) (by omega) (λ i hi=>by omega) (λ i hi hik=>by omega)));obtain⟨q1,q2⟩:=zI5 hp (by omega) hm.1 ha hm.2.1 hm.2.2;exact zMZ o f (k+1) q1 (by omega) q2
theorem zNQ (o:Ord n r) (h2:2<=n):Ev r n (kas_sort n) (λ q=>PermN n q/\Asc r q n):=by
 have hp:PermN n (List.toArray (List.range n)):=by unfold PermN;simp
 refine Ev.bind (Ev.mono (λ z hz=>?_) (zLv o hp h2));obtain⟨m,q⟩:=z;obtain⟨q1,q2,q3,q4⟩:=hz;dsimp only at q1 q2 q3 q4 ⊢
 by_cases e:m<n
 ·rw[if_pos e,show max m 1=m by omega]
  exact zMZ o (n - m) m q1 (by omega) q4
 ·rw[if_neg e]
  have:m=n:=by omega
  rw[this] at q4;exact⟨q1,q4⟩
end
end L2
namespace L2
noncomputable def lexB:List Int->List Int->Bool
 |_,[]=>false
 |[],_::_=>true
 |a::as,b::bs=>if a=b then lexB as bs else decide (a<b)
theorem zEy:∀as:List Int,lexB as as=false
 |[]=>rfl
 |a::as=>by rw[lexB,if_pos rfl];exact zEy as
theorem zIK:∀{as bs:List Int},as≠bs->lexB as bs=false->lexB bs as=true
 |[],[],h,_=>absurd rfl h
 |[],_::_,_,h=>by cases h
 |_::_,[],_,_=>rfl
 |a::as,b::bs,h,k=>by
  rw[lexB] at k ⊢
  by_cases e:a=b
  ·subst e
   rw[if_pos rfl] at k ⊢;exact zIK (λ z=>h (by rw[z])) k
  ·rw[if_neg e] at k
   rw[if_neg (Ne.symm e)];have:=of_decide_eq_false k;exact lV (by omega)
theorem zEz:∀{as bs:List Int},lexB as bs=true->lexB bs as=false
 |[],[],h=>by cases h
 |[],_::_,_=>rfl
 |_::_,[],h=>by cases h
 |a::as,b::bs,k=>by
  rw[lexB] at k ⊢
  by_cases e:a=b
  ·subst e
   rw[if_pos rfl] at k ⊢;exact zEz k
  ·rw[if_neg e] at k
   rw[if_neg (Ne.symm e)];have:=lU k;exact decide_eq_false (by omega)
theorem zFe:∀{as bs cs:List Int},lexB as bs=true->lexB bs cs=true->lexB as cs=true
 |_,_,[],_,h=>by cases ‹List Int›<;>cases h
 |[],_,_::_,_,_=>rfl
 |_::_,[],_::_,h,_=>by cases h
 |a::as,b::bs,c::cs,h,k=>by
  rw[lexB] at h k ⊢
  by_cases e1:a=b
  ·subst e1
   rw[if_pos rfl] at h
   by_cases e2:a=c
   ·subst e2
    rw[if_pos rfl] at k ⊢;exact zFe h k
   ·rw[if_neg e2] at k ⊢
    exact k
  ·rw[if_neg e1] at h
   have h':=lU h
   by_cases e2:b=c
   ·subst e2
    rw[if_neg e1];exact h
   ·rw[if_neg e2] at k
    have k':=lU k;rw[if_neg (by omega)];exact lV (by omega)
end L2
namespace PySem
open PySem.Calls PyProof.Rows PySem.W L2
open AutoSeq1 (wpAny_loadPart')
theorem zGB {vs:List Value}{ns:List Int}(h:IntsAre vs ns):vs.length=ns.length:=by
 induction h with
 |nil=>rfl
 |cons n t _ ih=>simp[ih]
theorem zLi {ns ms:List Int}{i:Nat}(h:i=min ns.length ms.length):lexB (ns.drop i) (ms.drop i)=decide (ns.length<ms.length):=by
 by_cases c:ns.length<ms.length
 ·have e1:ns.drop i=[]:=List.drop_of_length_le (by omega)
  have e2:i<ms.length:=by omega
  rw[e1,List.drop_eq_getElem_cons e2,decide_eq_true c];rfl
 ·have e1:ms.drop i=[]:=List.drop_of_length_le (by omega)
  rw[e1,decide_eq_false c];cases ns.drop i<;>rfl
theorem zId (l b:Addr) (items items2:Array Value) (n n2:Nat) (dd dd2:Option Addr) (sl sl2:Array (Option Value)) (ns ms:List Int) (hi1:IntsAre items.toList ns) (hi2:IntsAre items2.toList ms) :
  Meets (Builtin.«tuple.__lt__» ⟨[.ref l,.ref b],[]⟩)
   (λ A R s=>s.heap.get? l=some { cls:=.type "tuple", dict:=dd,data:=.seq items n,slots:=sl }/\s.heap.get? b=some { cls:=.type "tuple", dict:=dd2,data:=.seq items2 n2,slots:=sl2 } /\
    R (.ok (.ret (.bool (lexB ns ms)))) s) :=
 .of_wp λ prog w A R s h=>by
  obtain⟨hp,g,d,tk,os⟩:=s;obtain⟨hl,hb,h⟩:=h;have f2:=AutoSeq1.sub_tuple_tuple;have l1:items.size=ns.length:=by have:=zGB hi1;simpa using this
  have l2:items2.size=ms.length:=by have:=zGB hi2;simpa using this
  have hZ:(items.toList.zip items2.toList).length=min items.size items2.size:=by simp
  wp_walk using wpAny_loadPart' hl,wpAny_loadPart' hb,wpAny_forIn_list _ (λ rest b s'=>b.1=none/\s'=⟨hp,g,d,tk,os⟩/\∃i,rest=(items.toList.zip items2.toList).drop i/\i<=min items.size items2.size /\
   R (.ok (.ret (.bool (lexB (ns.drop i) (ms.drop i))))) ⟨hp,g,d,tk,os⟩) _
  case turn =>
   rintro⟨y,x⟩ rest b s' ⟨hb',rfl,i,hz,him,hR⟩
   have hlt:i<(items.toList.zip items2.toList).length:=by
    rcases Nat.lt_or_ge i (items.toList.zip items2.toList).length with h'|h'
    ·exact h'
    ·rw[List.drop_of_length_le h'] at hz;cases hz
   have hm:i<min items.size items2.size:=hZ▸hlt;have h1:i<items.size:=mB hm (Nat.min_le_left _ _);have h2:i<items2.size:=mB hm (Nat.min_le_right _ _);rw[List.drop_eq_getElem_cons hlt] at hz;injection hz with hyx hrest
   have hy:y=items[i]:=by have:=congrArg Prod.fst hyx;simpa using this
   have hx:x=items2[i]:=by have:=congrArg Prod.snd hyx;simpa using this
   subst hy hx;obtain⟨t1,e1⟩:=hi1.int_at i items[i] (by simp[h1]);obtain⟨t2,e2⟩:=hi2.int_at i items2[i] (by simp[h2]);rw[e1,e2]
   have d1:ns.drop i=ns.getD i 0::ns.drop (i+1):=by
    rw[List.drop_eq_getElem_cons (by omega)];congr 1;simp[show i<ns.length by omega]
   have d2:ms.drop i=ms.getD i 0::ms.drop (i+1):=by
    rw[List.drop_eq_getElem_cons (by omega)];congr 1;simp[show i<ms.length by omega]
   rw[d1,d2,lexB] at hR;refine lA (SeqAt.EqAt.int_int _ t1 _ t2 prog w _ _ ?_);cases hy:(ns.getD i 0 == ms.getD i 0) with
   |true =>
    rw[if_pos (by simpa using hy)] at hR
    wp_walk
    exact⟨rfl,rfl,i+1,hrest,by omega,hR⟩
   |false =>
    rw[if_neg (by simpa using hy)] at hR;rw[if_pos (by rfl)];refine lA (wpAny_rule (lA (PyProof.Rows.lt_int ?_)))
    wp_walk
    exact⟨_,rfl,hR⟩
  case fin =>
   rintro⟨b1,b2⟩ s' ⟨hb',rfl,i,hz,him,hR⟩;simp only at hb';subst hb'
   have hge:min items.size items2.size<=i:=by
    rcases Nat.lt_or_ge i (items.toList.zip items2.toList).length with h'|h'
    ·rw[List.drop_eq_getElem_cons h'] at hz;cases hz
    ·exact hZ▸h'
   rw[zLi (by omega)] at hR
   wp_walk
   exact⟨_,rfl,by simpa[Builtin.Tuple.tupleCompareSizes,l1,l2] using hR⟩
  case h =>
   exact⟨rfl,rfl,0,rfl,lZ _,by simpa using h⟩
section
variable {prog:Program}{w:World}{A:Around}{E:Value->Shared->Prop}{s:Shared}
theorem zLG {l b:Addr}{items items2:Array Value}{ns ms:List Int}{Q:Value->Shared->Prop}(hl:s.heap.IsTuple l items) (hb:s.heap.IsTuple b items2) (h1:IntsAre items.toList ns) (h2:IntsAre items2.toList ms) (hu:A.units<cLine)
  (h:Q (.bool (lexB ns ms)) s):wpAny (model prog w) A (compareOp .Lt (.ref l) (.ref b)) Q E s:=by
 obtain⟨⟨cls,dd,data,sl⟩,ho,hc,n,hd⟩:=id hl;obtain⟨⟨cls2,dd2,data2,sl2⟩,ho2,hc2,n2,hd2⟩:=id hb;simp only at hc hd hc2 hd2;subst hc hd hc2 hd2
 exact richCompare_meets_room (op:=.Lt) ⟨_,ho,rfl⟩ ⟨_,ho2,rfl⟩ F.slot_tuple_lt F.entry_tuple_lt (F.args_tuple_lt_2 _ _) (zId l b items items2 n n2 dd dd2 sl sl2 ns ms h1 h2)
  ⟨ho,ho2,show Value.bool (lexB ns ms)≠Value.notImplemented/\Q (.bool (lexB ns ms)) s from⟨(λ x=>nomatch x),h⟩⟩ hu
theorem zL9:∀{ns ms:List Int},((List.range (min ns.length ms.length)).all (λ j=>ns.getD j 0 == ms.getD j 0) && ns.length == ms.length)=true->ns=ms:=by
 intro ns ms h;rw[Bool.and_eq_true,List.all_eq_true] at h;have hl:ns.length=ms.length:=by simpa using h.2
 refine List.ext_getElem hl λ i h1 h2=>?_;have:=h.1 i (List.mem_range.mpr (by omega));simpa[h1,h2] using this
theorem zLF {l b:Addr}{items items2:Array Value}{ns ms:List Int}(hl:s.heap.IsTuple l items) (hb:s.heap.IsTuple b items2) (h1:IntsAre items.toList ns) (h2:IntsAre items2.toList ms) (hu:A.units<cLine) (hne:ns≠ms):SeqAt.EqAt A s (.ref l) (.ref b) false:=by
 have e1:items.size=ns.length:=by have:=zGB h1;simpa using this
 have e2:items2.size=ms.length:=by have:=zGB h2;simpa using this
 have hne':l≠b:=λ z=>by
  subst z;obtain⟨o,ho,hc,n,hd⟩:=hl;obtain⟨o',ho',hc',n',hd'⟩:=hb;rw[ho] at ho';cases ho';rw[hd] at hd';cases hd';refine hne ?_;have:=h1.nums;rw[h2.nums] at this;exact this.symm
 have key:=SeqAt.RcAt.tuples (A:=A) (e:=λ j=>ns.getD j 0 == ms.getD j 0) hl hb hu λ j j1 j2=>by
  obtain⟨t1,q1⟩:=h1.int_at j items[j] (by simp[j1]);obtain⟨t2,q2⟩:=h2.int_at j items2[j] (by simp[j2]);rw[q1,q2];exact SeqAt.EqAt.int_int _ _ _ _
 rw[e1,e2] at key
 have:((List.range (min ns.length ms.length)).all (λ j=>ns.getD j 0 == ms.getD j 0) && ns.length == ms.length)=false:=by
  cases h:((List.range (min ns.length ms.length)).all (λ j=>ns.getD j 0 == ms.getD j 0) && ns.length == ms.length) with
  |false=>rfl
  |true=>exact absurd (zL9 h) hne
 rw[this] at key;exact SeqAt.EqAt.of_refs hne' key
noncomputable def PlcAt (h:Heap) (v:Value) (ns:List Int):Prop:=∃(a c:Addr) (u:Value) (its:Array Value),v = .ref a/\h.IsTuple a #[.ref c,u]/\h.IsTuple c its/\IntsAre its.toList ns
theorem PlcAt.kept {h h':Heap}{v:Value}{ns:List Int}(k:∀b o,o.cls = .type "tuple" -> h.get? b=some o->h'.get? b=some o):PlcAt h v ns->PlcAt h' v ns
 |⟨a,c,u,its,e,⟨o,ho,hc,r⟩,⟨o',ho',hc',r'⟩,i⟩=>⟨a,c,u,its,e,⟨o,k _ _ hc ho,hc,r⟩,⟨o',k _ _ hc' ho',hc',r'⟩,i⟩
theorem zEo {h h':Heap}(k:∀b o,o.cls = .type "tuple" -> h.get? b=some o->h'.get? b=some o){vs:List Value}{ps:List (List Int)}(z:Paired (PlcAt h) vs ps):Paired (PlcAt h') vs ps:=by
 induction z with
 |nil=>exact .nil
 |cons r q ih=>exact .cons (r.kept k) ih
theorem zJe {h:Heap}{vs:List Value}{ps:List (List Int)}(z:Paired (PlcAt h) vs ps):∀{i:Nat},i<vs.length->PlcAt h (vs.getD i Value.none) (ps.getD i []):=by
 induction z with
 |nil=>exact λ h=>absurd h (Nat.not_lt_zero _)
 |cons r q ih =>
  intro i hi;cases i with
  |zero=>exact r
  |succ i=>have:=ih (i:=i) (by simpa using hi);simpa using this
theorem zNz {x y:Value}{ns ms:List Int}{Q:Bool->Shared->Prop}(hx:PlcAt s.heap x ns) (hy:PlcAt s.heap y ms) (hne:ns≠ms) (hu:A.units<cLine) (h:Q (lexB ns ms) s):wpAny (model prog w) A (keyLt' (tuples' false) x y) Q E s:=by
 obtain⟨a,c,u,its,rfl,⟨o,ho,hc,n,hd⟩,hp,hi⟩:=hx;obtain⟨a',c',u',its',rfl,⟨o',ho',hc',n',hd'⟩,hp',hi'⟩:=hy;refine kat_lt ho hd ho' hd' ?_;show KatLex prog w A false _ Q [(.ref c,.ref c'),(u,u')] 0 s;refine kat_cons (zLF hp hp' hi hi' hu hne prog w _ _ (kat_no ?_));refine kat_one _ _ (zLG hp hp' hi hi' hu ?_);exact h
theorem zIB:∀{vs:List Value}{ps:List (List Int)}{h:Heap},Paired (PlcAt h) vs ps->∃fs,KatTups h vs fs/\fs.length=vs.length/\∀v∈fs,Looks (model prog w) h (typeOf v) (.type "tuple")
 |_,_,_,.nil=>⟨[],trivial,rfl,λ v hv=>nomatch hv⟩
 |_,_,h,.cons r q=>by
  obtain⟨fs,h1,h2,h3⟩:=zIB q;obtain⟨a,c,u,its,rfl,⟨o,ho,hc,n,hd⟩,⟨o',ho',hc',r'⟩,hi⟩:=r;refine⟨.ref c::fs,KatTups.cons ho hc hd rfl h1,by simp[h2],λ v hv=>?_⟩;rcases lP.mp hv with rfl|hv
  ·have:=(show Looks (model prog w) h (typeOf (.ref c)) o'.cls from(Looks.ld ho').andThen .now)
   rw[hc'] at this;exact this
  ·exact h3 v hv
theorem zK6:∀{vs:List Value},vs.length<2->(vs.toArray.zip vs.toArray).map (·.2)=List.toArray ((List.toArray (List.range vs.length)).toList.map λ i=>vs.getD i Value.none)
 |[],_=>by simp
 |[x],_=>by simp[List.range_succ]
 |_::_::_,h=>by simp at h;omega
theorem zF9 {a:Addr}{vs:List Value}{ps:List (List Int)}{n:Nat}{P:PySem.Fin->Shared->Prop}(ho:s.heap.get? a=some (seqObj "list" vs.toArray n)) (hp:Paired (PlcAt s.heap) vs ps) (nd:ps.Nodup) (h64:vs.length<64) (hu:A.units<cLine)
  (h:∀p:Array Nat,PermN vs.length p->Asc (λ i j=>lexB (ps.getD i []) (ps.getD j [])) p vs.length->P (.done (.ret .none)) { s with heap:=sortedHeap s.heap a vs (List.toArray (p.toList.map λ i=>vs.getD i Value.none)) }) :
  wpAny (model prog w) A (Builtin.«list.sort» ⟨[.ref a],[]⟩) P E s:=by
 rw[list_sort_plain];have hlp:vs.length=ps.length:=hp.length;have ha:a<s.heap.objs.size:=lI ho;refine lA (listItems_at ho rfl ?_);refine lA (listUpdate_at ho rfl ?_ (by rw[List.size_toArray,sizeLine_eq];omega) (lZ _));obtain⟨e1,ho1⟩:∃e1,(s.heap.update a (Obj.mapSeq λ U=>#[])).get? a=some (seqObj "list" #[] e1):=⟨_,get?_update_seq ho (λ U=>#[])⟩;refine lA (seqEpoch_at ho1 rfl ?_);refine lA (wpAny_newTuple ?_ (by show vs.length<=_;rw[sizeLine_eq];omega));refine lA (wpAny_newList ?_ (lZ _));refine lE ?_
 have ho6:(((s.heap.update a (Obj.mapSeq λ U=>#[])).push (seqObj "tuple" vs.toArray 0)).push (seqObj "list" #[] 0)).get? a=some (seqObj "list" #[] e1):=by
  rw[Heap.get?_push_ne _ _ _ (by rw[size_push',Heap.size_update];exact lT (Nat.lt_succ_of_lt ha)),Heap.get?_push_ne _ _ _ (by rw[Heap.size_update];exact lT ha)];exact ho1
 have keep:∀b o,o.cls = .type "tuple" -> s.heap.get? b=some o->(((s.heap.update a (Obj.mapSeq λ U=>#[])).push (seqObj "tuple" vs.toArray 0)).push (seqObj "list" #[] 0)).get? b=some o:=λ b o hc hb=>by
  have hne:b≠a:=λ z=>by
   rw[z,ho] at hb;cases hb;injection hc with hh
   exact absurd hh (by decide)
  exact lG _ (lG _ (by rw[Heap.get?_update_ne _ _ _ _ hne];exact hb))
 have hp6:=zEo keep hp;show wpAny (model prog w) A _ P E { s with heap:=((s.heap.update a (Obj.mapSeq λ U=>#[])).push (seqObj "tuple" vs.toArray 0)).push (seqObj "list" #[] 0) };dsimp only
 by_cases h2:vs.toArray.size<2
 ·rw[if_pos h2,if_pos h2]
  refine lA (lB ?_);rw[StateT.run_pure];refine lA (lB ?_);dsimp only;have h2':vs.length<2:=by simpa using h2
  have hid:(arrOf (SortSt.mk' general' (vs.toArray.zip vs.toArray) #[] 7 none)).map (·.2)=List.toArray ((List.toArray (List.range vs.length)).toList.map λ i=>vs.getD i Value.none):=by
   show (vs.toArray.zip vs.toArray).map (·.2)=_;exact zK6 h2'
  refine lA (seqEpoch_at ho6 rfl ?_);refine lA (listUpdate_at ho6 rfl ?_ (lZ _) (by rw[Array.size_map];show (vs.toArray.zip vs.toArray).size<=_;rw[sizeLine_eq];simp;omega));simp only[bne_self_eq_false,Bool.false_eq_true,if_false];refine lB ?_;have fin:=h (List.toArray (List.range vs.length)) (by unfold PermN;simp) (λ i j hij hj=>by omega);rw[←hid] at fin;exact fin
 ·rw[if_neg h2,if_neg h2]
  have h2':2<=vs.length:=by simpa using h2
  obtain⟨fs,t1,t2,t3⟩:=zIB (prog:=prog) (w:=w) hp6;refine lA (kat_kind (T:=.type "tuple") t1 (by omega) t3 (by decide) ?_);show wpAny (model prog w) A ((sortRuns').run (SortSt.mk' (tuples' false) (vs.toArray.zip vs.toArray) #[] 7 none) >>= _) P E _
  have o:Ord vs.length (λ i j=>lexB (ps.getD i []) (ps.getD j [])):=by
   have inj:∀i j,i<vs.length->j<vs.length->i≠j->ps.getD i []≠ps.getD j []:=λ i j hi hj ne e=>by
    have e1:ps.getD i []=ps[i]'(by omega):=by simp[show i<ps.length by omega]
    have e2:ps.getD j []=ps[j]'(by omega):=by simp[show j<ps.length by omega]
    rw[e1,e2] at e;exact ne ((List.getElem_inj nd).mp e)
   exact⟨λ i j hi hj ne k=>zIK (inj i j hi hj ne) k,λ i j U U k=>zEz k,λ i j k U U U a b=>zFe a b⟩
  refine lA (wpAny_mono (kat_run (Q:=λ st' s'=>∃p:Array Nat,PermN vs.length p/\Asc (λ i j=>lexB (ps.getD i []) (ps.getD j [])) p vs.length/\s'={ s with heap:=((s.heap.update a (Obj.mapSeq λ U=>#[])).push (seqObj "tuple" vs.toArray 0)).push (seqObj "list" #[] 0) }/\arrOf st'=p.map (kas_item (vs.toArray.zip vs.toArray))/\failedOf st'=none)
   (G:=λ p s'=>(PermN vs.length p/\Asc (λ i j=>lexB (ps.getD i []) (ps.getD j [])) p vs.length)/\s'={ s with heap:=((s.heap.update a (Obj.mapSeq λ U=>#[])).push (seqObj "tuple" vs.toArray 0)).push (seqObj "list" #[] 0) })
   rfl h2' h64 (λ p' st' s' a1 a2 a3 a4=>⟨p',a4.1.1,a4.1.2,a4.2,a2,a3⟩) ?_) ?_ λ U U e=>e)
  ·refine Ev.wp (St:=λ s'=>s'={ s with heap:=((s.heap.update a (Obj.mapSeq λ U=>#[])).push (seqObj "tuple" vs.toArray 0)).push (seqObj "list" #[] 0) }) (λ i j C s' hi hj hij hs hC=>?_) (λ p s' q hs=>⟨q,hs⟩) (zNQ o h2') rfl
   subst hs;unfold kas_ask;refine zNz (zJe hp6 hi) (zJe hp6 hj) ?_ hu (hC _ rfl);intro e;have:=o.tot i j hi hj hij (by rw[e];exact zEy _);rw[e,zEy] at this;cases this
  ·rintro⟨⟨⟩,st'⟩ s' ⟨p,pm,asc,rfl,har,hf⟩
   dsimp only;have hout:=kat_snds rfl har;rw[hout];have hsz:(List.toArray (p.toList.map λ i=>vs.getD i Value.none)).size=vs.length:=by rw[List.size_toArray,List.length_map,Array.length_toList,pm.size]
   refine lA (seqEpoch_at ho6 rfl ?_);refine lA (listUpdate_at ho6 rfl ?_ (lZ _) (mI (Nat.le_of_eq hsz) (by rw[sizeLine_eq];omega)));rw[hf];simp only[bne_self_eq_false,Bool.false_eq_true,if_false];exact lB (h p pm asc)
end
end PySem
namespace L2
open PySem PySem.Spec PyProof.Rows PySem.W
noncomputable def PlV (H:Hp) (p:List Int × V) (v:V):Prop:=∃(b c:Addr),v = .ref b/\H b=some (.tup [.ref c,p.2])/\H c=some (.tup (p.1.map V.int))
theorem PlV.mono {H H':Hp}(k:Tk H H') {p:List Int × V}{v:V}:PlV H p v->PlV H' p v
 |⟨b,c,e,h1,h2⟩=>⟨b,c,e,k _ _ h1,k _ _ h2⟩
theorem zKL:∀{ns:List Int}{us:List Value},Vals (ns.map V.int) us->IntsAre us ns
 |[],_,h=>by
  cases h;exact .nil
 |n::ns,_,h=>by
  rw[List.map_cons] at h;cases h with
  |cons r q =>
   obtain⟨t,rfl⟩:=r;exact .cons n t (zKL q)
theorem zNy {P:Program}{w:World}{H:Hp}{h:Heap}(ok:HOk P w H h) {p:List Int × V}{v:V}{u:Value}(hp:PlV H p v) (r:RelV v u):PlcAt h u p.1:=by
 obtain⟨b,c,rfl,h1,h2⟩:=hp;cases r;obtain⟨_,its,rv,tp⟩:=(show ObjOk P w H h b (.tup [.ref c,p.2]) from ok b _ h1);obtain⟨_,its2,rv2,tp2⟩:=(show ObjOk P w H h c (.tup (p.1.map V.int)) from ok c _ h2);cases rv with
 |cons q1 rv=>cases rv with
  |cons q2 rv =>
   cases rv;cases q1;exact⟨b,c,_,its2.toArray,rfl,tp,tp2,by simpa using zKL rv2⟩
theorem zJd {P:Program}{w:World}{H:Hp}{h:Heap}(ok:HOk P w H h){ps:List (List Int × V)}{vs:List V}{us:List Value}(z:Paired (PlV H) ps vs):Vals vs us->Paired (PlcAt h) us (ps.map (·.1)):=by
 induction z generalizing us with
 |nil=>intro r;cases r;exact .nil
 |cons hp q ih =>
  intro r;cases r with
  |cons r1 r2=>exact .cons (zNy ok hp r1) (ih r2)
theorem zGO {vs:List V}{us:List Value}(r:Vals vs us):∀(ix:List Nat),(∀i∈ix,i<vs.length)->Vals (ix.map λ i=>vs.getD i .non) (ix.map λ i=>us.getD i Value.none)
 |[],_=>.nil
 |i::ix,h=>by
  refine .cons ?_ (zGO r ix λ j hj=>h j (lR _ hj));have hi:=h i lQ
  have key:∀{vs:List V}{us:List Value},Vals vs us->∀{i:Nat},i<vs.length->RelV (vs.getD i .non) (us.getD i Value.none):=by
   intro vs us r
   induction r with
   |nil=>intro i hi;simp at hi
   |cons q _ ih =>
    intro i hi;cases i with
    |zero=>exact q
    |succ i=>exact ih (by simpa using hi)
  exact key r hi
theorem zEt {ps:List (List Int × V)}{vs:List V}{H:Hp}(h:Paired (PlV H) ps vs):∀(ix:List Nat),(∀i∈ix,i<vs.length)->Paired (PlV H) (ix.map λ i=>ps.getD i ([],.non)) (ix.map λ i=>vs.getD i .non)
 |[],_=>.nil
 |i::ix,hx=>by
  refine .cons ?_ (zEt h ix λ j hj=>hx j (lR _ hj));have hi:=hx i lQ;obtain⟨p,hp,q⟩:=zAR h (lX hi);have e1:ps.getD i ([],.non)=p:=by rw[List.getD_eq_getElem?_getD,hp];rfl
  have e2:vs.getD i .non=vs[i]:=by simp[hi]
  dsimp only;rw[e1,e2];exact q
theorem zJg {α:Type}(d:α) (ps:List α) {ix:List Nat}(h:ix.Perm (List.range ps.length)):(ix.map λ i=>ps.getD i d).Perm ps:=by
 refine(h.map _).trans ?_
 have:(List.range ps.length).map (λ i=>ps.getD i d)=ps:=by
  apply List.ext_getElem
  ·simp
  ·intro i h1 h2
   simp[h2]
 rw[this]
section
variable {X:Cx}
noncomputable def zNt:List V->Hp->VK->Prop:=λ xs H Q=>∃(l:Addr) (vs:List V) (ps:List (List Int × V)),xs=[.ref l]/\H l=some (.lst vs)/\Paired (PlV H) ps vs/\(ps.map (·.1)).Nodup/\ps.length<64 /\
 ∀(l':Addr) (ws:List V) (qs:List (List Int × V)),H l'=none->Paired (PlV H) qs ws->qs.Perm ps->qs.Pairwise (λ a b=>lexB a.1 b.1=true)->Q (.ref l') (upd H l' (.lst ws))
theorem zGz (hu:X.A.units+150<cLine):CallR X (.builtin "sorted") zNt:=by
 intro jP s σ H xs us Q I r h;obtain⟨l,vs,ps,rfl,hl,hp,nd,h64,q⟩:=h;obtain⟨u,rfl,ru⟩:=vals1 r;cases ru;obtain⟨_,its,n0,rv,hlen,el⟩:=I.lstM hl;have hlv:its.length=vs.length:=rv.length.symm;have hlp:ps.length=vs.length:=Paired.length hp;have line:its.length<=sizeLine:=Nat.le_of_lt (zAQ (by omega));refine Calls.call_function_entry kind_sorted plain_sorted entry_sorted (args_sorted1 _) ?_;unfold Builtin.«sorted»;refine lA (m:=checkCount "sorted" 1 1 _) (lB ?_);have hL:s.heap.IsList l its.toArray:=⟨_,el,rfl,_,rfl⟩;refine lA (collect_list hL ?_ (by simpa using line));refine lA (wpAny_newList ?_ (by simpa using line))
 have keep1:∀b o,s.heap.get? b=some o->((s.heap.push (seqObj "list" #[] 0)).update s.heap.objs.size (Obj.mapSeq (·++its.toArray))).get? b=some o:=λ b o q=>by
  have hlt:b<s.heap.objs.size:=lI q;rw[Heap.get?_update_ne _ _ _ _ (Nat.ne_of_lt hlt)];exact lG _ q
 show wpAny _ _ _ _ _ { s with heap:=((s.heap.push (seqObj "list" #[] 0)).update s.heap.objs.size (Obj.mapSeq (·++its.toArray))).push { cls:=.type "list", data:=.seq its.toArray } };generalize (s.heap.push (seqObj "list" #[] 0)).update s.heap.objs.size (Obj.mapSeq (·++its.toArray))=h1 at keep1 ⊢;have I1:Inv X jP σ H { s with heap:=h1 }:=I.kept (t':=s.toks) keep1;have hoL:(h1.push { cls:=.type "list", data:=.seq its.toArray }).get? h1.objs.size=some (seqObj "list" its.toArray 0):=lH _ rfl;have hplc:Paired (PlcAt (h1.push { cls:=.type "list", data:=.seq its.toArray })) its (ps.map (·.1)):=zEo (λ b o U e=>lG _ e) (zJd I1.hok hp rv);refine lA (lE (wpAny_call_entry slot_list_sort ⟨_,hoL,rfl⟩ entry_list_sort (zF9 hoL hplc nd (by omega) (by show X.A.units+1+1<cLine;omega) λ p pm asc=>⟨_,rfl,?_⟩) (args_list_sort _)));have pm':p.toList.Perm (List.range ps.length):=by have:=pm;unfold PermN at this;rw[hlv,←hlp] at this;exact this
 have hix:∀i∈p.toList,i<vs.length:=λ i hi=>by
  have:=List.mem_range.mp (pm'.mem_iff.mp hi);omega
 obtain⟨e,he⟩:∃e,(sortedHeap (h1.push { cls:=.type "list", data:=.seq its.toArray }) h1.objs.size its (List.toArray (p.toList.map λ i=>its.getD i Value.none))).get? h1.objs.size=some (seqObj "list" (List.toArray (p.toList.map λ i=>its.getD i Value.none)) e):=sortedHeap_at hoL;have hn1:=I1.hok.fresh (lS h1.objs.size);refine lB ⟨_,rfl,⟨.ref h1.objs.size,upd H h1.objs.size (.lst (p.toList.map λ i=>vs.getD i .non)),I1.laid (t':=s.toks) (a:=h1.objs.size) (o:=.lst (p.toList.map λ i=>vs.getD i .non)) (λ b o hb=>?_) (lS _) ⟨?_,_,e,zGO rv p.toList hix,?_⟩,rfl,q _ _ (p.toList.map λ i=>ps.getD i ([],.non)) hn1 (zEt hp p.toList hix) (zJg _ ps pm') ?_⟩⟩
 ·rw[sortedHeap_old (Nat.ne_of_lt (Heap.lt_size hb)) (by rw[Heap.size_push];exact Nat.lt_succ_of_lt (lI hb))]
  exact lG _ hb
 ·rw[List.length_map,pm'.length_eq,List.length_range]
  exact Nat.le_of_lt (zAQ (by omega))
 ·rw[he]
 ·rw[List.pairwise_map]
  rw[List.pairwise_iff_getElem];intro i j hi hj hij;have hs:p.toList.length=ps.length:=by rw[pm'.length_eq,List.length_range]
  have ea:=asc i j hij (by omega)
  have g:∀k,(hk:k<p.toList.length)->p.getD k 0=p.toList[k]:=λ k hk=>by
   have:k<p.size:=by simpa using hk
   simp[Array.getD,this]
  have m:∀k,k<ps.length->(ps.map (·.1)).getD k []=(ps.getD k ([],.non)).1:=λ k hk=>by simp[hk]
  unfold lt at ea;rw[g i hi,g j hj] at ea;have hi':p.toList[i]<ps.length:=by have:=hix _ (List.getElem_mem hi);omega
  have hj':p.toList[j]<ps.length:=by have:=hix _ (List.getElem_mem hj);omega
  have ea':lexB ((ps.map (·.1)).getD p.toList[i] []) ((ps.map (·.1)).getD p.toList[j] [])=true:=ea;rw[m _ hi',m _ hj'] at ea';exact ea'
end
end L2
namespace PySem
open AutoSeq1
set_option maxRecDepth 8000 in
theorem zGH (l:Addr) (items:Array Value) (n:Nat) (b:Addr) (items2:Array Value) (n2:Nat) (dd:Option Addr) (sl:Array (Option Value)) (hs0:¬(!items.isEmpty && Builtin.List.listTooLong (items.size+items2.size))=true) (hs1:items.size<=sizeLine) (hs2:items.size+items2.size<=sizeLine+1) :
  Meets (Builtin.«list.extend» ⟨[.ref l,.ref b],[]⟩) (λ U R s=>s.heap.get? l=some { cls:=.type "list", dict:=none,data:=.seq items n,slots:=#[] }/\s.heap.get? b=some { cls:=.type "tuple", dict:=dd,data:=.seq items2 n2,slots:=sl }/\R (.ok (.ret Value.none)) { s with heap:=s.heap.update l (Obj.mapSeq λ x=>x++items2),toks:=s.toks }) :=
 .of_wp λ prog w A R s h=>by
  obtain⟨hp,g,d,tk,os⟩:=s;obtain⟨hl,hb,h⟩:=h;have f1:=idx_int;have f2:=sub_tuple_tuple;have f3:=sub_list_list;have f4:=sub_tuple_list;have f5:=sub_list_tuple;have hz':(items++items2).size<=sizeLine+1:=by rw[Array.size_append];exact hs2
  wp_walk using (wpAny_updateSeq hl rfl (hz:=hs1) (_hz':=hz')),wpAny_loadPart' hl,wpAny_loadPart' hb
  exact⟨_,rfl,h⟩
end PySem
namespace L2
open PySem PySem.Spec PyProof.Rows
section
variable {X:Cx}
noncomputable def zLC (K:W.Frag):V->List V->Hp->VK->Prop:=λ x vs H Q=>∃l b xs zs,x = .ref l/\vs=[.ref b]/\H l=some (.lst xs)/\SqT K H b zs/\xs.length+zs.length<=sizeLine/\Q .non (upd H l (.lst (xs++zs)))
theorem zIu:MtM X "list.extend" (zLC X.K):=by
 intro jP s σ H x vs v us Q I rx rv h;obtain⟨l,b,xs,zs,rfl,rfl,hH,hB,hz,q⟩:=h;cases rx;obtain⟨u,rfl,ru⟩:=rv.one;cases ru;obtain⟨z,its,n,r,hl,e⟩:=I.lstM hH;obtain⟨its2,r2,p2,z2⟩:=I.tuple hB;obtain⟨⟨cls,dd,data,sl⟩,e2,hc,n2,hd⟩:=id p2;simp only at hc hd;subst hc hd;have hl2:=r2.length;have hsz:its.toArray.size+its2.toArray.size<=sizeLine:=by rw[List.size_toArray,List.size_toArray];omega
 have hlong:¬(!its.toArray.isEmpty && Builtin.List.listTooLong (its.toArray.size+its2.toArray.size))=true:=by
  rw[zIH hsz,Bool.and_false];exact lY
 refine call_meets F.slot_list_extend ⟨_,e,rfl⟩ F.entry_list_extend (F.args_list_extend_2 _ _)
  (zGH l its.toArray n b its2.toArray n2 dd sl hlong (by rw[List.size_toArray];omega) (by omega)) ⟨e,e2,?_⟩
 refine⟨.non,_,I.lset (its':=its++its2) hH e (by simp) (r.append r2) ?_,rfl,q⟩;rw[List.length_append];omega
noncomputable def zMo:V->List V->Hp->VK->Prop:=λ x vs H Q=>∃(a:Addr) (kvs:List (Key × V)) (k:Key) (y:V),x = .ref a/\vs=[kV k,y]/\H a=some (.dK kvs)/\kvs.length<1000/\(∀z,valV kvs k=some z->Q z H)/\(valV kvs k=none->Q y (upd H a (.dK (putK kvs k y))))
theorem zDy:MtM X "dict.setdefault" zMo:=by
 intro jP s σ H x vs v us Q I rx rv h;obtain⟨a,kvs,k,y,rfl,rfl,ha,hl,q1,q2⟩:=h;cases rx;obtain⟨u1,u2,rfl,r1,r2⟩:=vals2 rv;obtain⟨z,hs,vs,rel,dd⟩:=dk_of I.hok ha;have hz:vs.length<=sizeLine:=by rw[←rel.length];exact z
 have hm:(putK kvs k y).length<=sizeLine:=by have:=zAx kvs k y;exact zAe (by omega)
 refine call_meetsIn PySem.F.slot_dict_setdefault dd.typeIs PySem.F.entry_dict_setdefault (PySem.F.args_dict_setdefault_3 _ _ _) (kt_meets_setdefault (zAg X.prog X.w) a (kV_is r1) hs u2) ⟨vs,dd,hz,λ w' e=>?_,λ e h' d1 hs1=>?_⟩
 ·have ro:=rel.val k
  rw[e] at ro;cases e2:valV kvs k with
  |none=>rw[e2] at ro;exact(show False from ro).elim
  |some y' =>
   rw[e2] at ro;exact⟨y',H,I.tok _,ro,q1 y' e2⟩
 ·have ro:=rel.val k
  rw[e] at ro
  have e2:valV kvs k=none:=by
   cases e2:valV kvs k with
   |none=>rfl
   |some y'=>rw[e2] at ro;exact(show False from ro).elim
  have he:∃q,h'.get? a=some q:=let ⟨q,_,_,hq,_⟩:=d1;⟨q,hq⟩;exact⟨y,_,zFC (t':=s.toks+1) I (by rw[ha];exact True.intro) hs1 he (zFj hm hs (rel.put k r2) d1),r2,q2 e2⟩
noncomputable def tTupF (t:TA):TE:=λ σ H Q=>t σ H λ xs H1=>xs.length<=sizeLine/\∀(p:Addr) (o:Obj),H1 p=none->o.dict=none->Q (.ref p) (upd H1 p (.frz o (.tup xs)))
theorem zMy {es:List Expr}{t:TA}{x1} {pos:Pos}(h:PA X es t):PE X (.Tuple es x1 pos) (tTupF t):=by
 intro jP s σ H Q I hq;refine wpAny_Tuple_spliced (thn (h pos jP s σ H _ I hq) λ us s1 ⟨xs,H1,I1,r,z,q⟩=>⟨by rw[←r.length];exact z,?_⟩);have hf:H1 s1.heap.objs.size=none:=I1.hok.fresh (lS _);refine⟨.ref s1.heap.objs.size,_,I1.laid (o:=.frz { cls:=.type "tuple", data:=.seq us.toArray } (.tup xs)) (t':=s1.toks) (λ b u e=>lG _ e) (lS _) ?_,rfl,q _ _ hf rfl⟩;exact⟨lH _ rfl,z,us,r,⟨_,lH _ rfl,rfl,_,rfl⟩⟩
theorem zEu (hu:X.A.units+1<cLine):OpR X (compareOp .NotIn) (λ x y H Q=>∃(a:Addr) (o:Option V),y = .ref a/\DGet H a x o/\Q (.bl (!o.isSome)) H):=by
 intro jP s σ H x y v u Q I rx ry h;obtain⟨a,o,rfl,g,q⟩:=h;cases ry;exact zNX hu I g rx λ s' I'=>⟨.bl (!o.isSome),H,I',rfl,q⟩
end
end L2
namespace L2
open PySem
noncomputable def zCp:List V:=[.str "num", .str "name", .str "ask", .str "stop", .str "gap"]
noncomputable def zFI (K:W.Frag) (lv:Addr):Prop:=∃(o:Obj) (its:Array Value) (n:Nat),K.lookup lv=some o/\o.cls = .type "tuple" /\ o.data = .seq its n/\its.size<=sizeLine/\Vals zCp its.toList
theorem zGC (k:Kd):inV (.str k.s) zCp=k.leaf:=by cases k<;>decide +kernel
theorem zLq (t:Tr):1<=t.head:=by cases t<;>simp[Tr.head]
theorem zIJ:∀{ts:List Tr}{t:Tr},t∈ts->t.size<=(ts.map Tr.size).sum
 |a::ts,t,h=>by
  rw[List.map_cons,List.sum_cons];rcases lP.mp h with rfl|h
  ·omega
  ·have:=zIJ h
   omega
theorem zBX (t:Tr):(t.parts.map Tr.size).sum+1=t.size:=by
 cases t<;>simp[Tr.parts,Tr.size]<;>omega
theorem zBC {t p:Tr}(h:p∈t.parts):p.size+1<=t.size:=by
 have:=zIJ h;have:=zBX t;omega
theorem zAi (t:Tr):1<=t.size:=by cases t<;>simp[Tr.size]
noncomputable def szT (ts:List Tr):Nat:=(ts.map Tr.size).sum
theorem zBr (a b:List Tr):szT (a++b)=szT a+szT b:=by simp[szT]
theorem zA0 (a:Tr) (b:List Tr):szT (a::b)=a.size+szT b:=by simp[szT]
theorem zCV:szT []=0:=rfl
theorem zD6:∀ts:List Tr,ts.length<=szT ts
 |[]=>lS _
 |t::ts=>by
  rw[zA0,List.length_cons];have:=zD6 ts;have:=zAi t;omega
theorem zHo (L:List Tr) (i:Nat):szT (L.take i)<=szT L:=by
 have e:szT L=szT (L.take i)+szT (L.drop i):=by rw[←zBr,List.take_append_drop]
 omega
theorem zJI (t:Tr):szT t.parts+1=t.size:=zBX t
noncomputable def Tr.subs:Tr->List Tr
 |.say a=>.say a::a.subs
 |.bin o a b=>.bin o a b::(a.subs++b.subs)
 |.ite a b c=>.ite a b c::(a.subs++(b.subs++c.subs))
 |.lett x a b=>.lett x a b::(a.subs++b.subs)
 |t=>[t]
theorem zCB (t:Tr):t.subs=t::t.parts.flatMap Tr.subs:=by
 cases t<;>simp[Tr.subs,Tr.parts]
theorem zDk:∀L:List Tr,szT (L.flatMap Tr.parts)+L.length=szT L
 |[]=>rfl
 |t::L=>by
  have ih:=zDk L;have:=zJI t;rw[List.flatMap_cons,zBr,zA0,List.length_cons];omega
theorem zFZ:∀L:List Tr,(L.flatMap Tr.subs).Perm (L++(L.flatMap Tr.parts).flatMap Tr.subs)
 |[]=>.refl _
 |t::L=>by
  rw[List.flatMap_cons,zCB t,List.cons_append,List.cons_append,List.flatMap_cons,List.flatMap_append];refine .cons _ ?_;refine((zFZ L).append_left _).trans ?_;rw[←List.append_assoc,←List.append_assoc];exact List.perm_append_comm.append_right _
abbrev PlT:=List Int × Tr
noncomputable def kidsP (x:PlT):List PlT:=x.2.parts.zipIdx.map λ q=>(x.1++[(q.2:Int)],q.1)
noncomputable def psub:List Int->Tr->List PlT
 |pl,.say a=>(pl,.say a)::psub (pl++[0]) a
 |pl,.bin o a b=>(pl,.bin o a b)::(psub (pl++[0]) a++psub (pl++[1]) b)
 |pl,.ite a b c=>(pl,.ite a b c)::(psub (pl++[0]) a++(psub (pl++[1]) b++psub (pl++[2]) c))
 |pl,.lett x a b=>(pl,.lett x a b)::(psub (pl++[0]) a++psub (pl++[1]) b)
 |pl,.num n=>[(pl,.num n)]
 |pl,.name n=>[(pl,.name n)]
 |pl,.ask n=>[(pl,.ask n)]
 |pl,.stop n=>[(pl,.stop n)]
 |pl,.gap n as=>[(pl,.gap n as)]
theorem zMs (pl:List Int) (t:Tr):psub pl t=(pl,t)::(kidsP (pl,t)).flatMap λ x=>psub x.1 x.2:=by
 cases t<;>simp[psub,kidsP,Tr.parts,List.zipIdx]
theorem zBl:∀(t:Tr) (pl:List Int),(psub pl t).map (·.2)=t.subs
 |.say a,pl=>by simp[psub,Tr.subs,zBl a]
 |.bin o a b,pl=>by simp[psub,Tr.subs,zBl a,zBl b]
 |.ite a b c,pl=>by simp[psub,Tr.subs,zBl a,zBl b,zBl c]
 |.lett x a b,pl=>by simp[psub,Tr.subs,zBl a,zBl b]
 |.num _,_=>rfl
 |.name _,_=>rfl
 |.ask _,_=>rfl
 |.stop _,_=>rfl
 |.gap _ _,_=>rfl
theorem zBc:∀(t:Tr) (pl:List Int),(psub pl t).length=t.size
 |.say a,pl=>by simp[psub,Tr.size,zBc a]
 |.bin o a b,pl=>by simp[psub,Tr.size,zBc a,zBc b]
 |.ite a b c,pl=>by simp[psub,Tr.size,zBc a,zBc b,zBc c];omega
 |.lett x a b,pl=>by simp[psub,Tr.size,zBc a,zBc b]
 |.num _,_=>rfl
 |.name _,_=>rfl
 |.ask _,_=>rfl
 |.stop _,_=>rfl
 |.gap _ _,_=>rfl
theorem zDJ:∀(t:Tr) (pl:List Int),∀p∈(psub pl t).map (·.1),∃r,p=pl++r:=by
 have one:∀{pl p:List Int}{i:Int},(∃r,p=pl++[i]++r)->∃r,p=pl++r:=λ{pl p i} h=>by
  obtain⟨r,e⟩:=h;exact⟨[i]++r,by rw[e,List.append_assoc]⟩
 intro t
 induction t with
 |say a ih =>
  intro pl p hp;simp only[psub,List.map_cons] at hp;rcases lP.mp hp with rfl|hp
  ·exact⟨[],by simp⟩
  ·exact one (ih _ p hp)
 |bin o a b iha ihb =>
  intro pl p hp;simp only[psub,List.map_cons,List.map_append] at hp;rcases lP.mp hp with rfl|hp
  ·exact⟨[],by simp⟩
  ·rcases lK.mp hp with hp|hp
   ·exact one (iha _ p hp)
   ·exact one (ihb _ p hp)
 |ite a b c iha ihb ihc =>
  intro pl p hp;simp only[psub,List.map_cons,List.map_append] at hp;rcases lP.mp hp with rfl|hp
  ·exact⟨[],by simp⟩
  ·rcases lK.mp hp with hp|hp
   ·exact one (iha _ p hp)
   ·rcases lK.mp hp with hp|hp
    ·exact one (ihb _ p hp)
    ·exact one (ihc _ p hp)
 |lett x a b iha ihb =>
  intro pl p hp;simp only[psub,List.map_cons,List.map_append] at hp;rcases lP.mp hp with rfl|hp
  ·exact⟨[],by simp⟩
  ·rcases lK.mp hp with hp|hp
   ·exact one (iha _ p hp)
   ·exact one (ihb _ p hp)
 |_ =>
  intro pl p hp;simp[psub] at hp;exact⟨[],by simp[hp]⟩
theorem zDr {t u:Tr}{pl:List Int}{i j:Int}(ne:i≠j):∀p∈(psub (pl++[i]) t).map (·.1),∀q∈(psub (pl++[j]) u).map (·.1),p≠q:=λ p hp q hq e=>by
 obtain⟨r,rfl⟩:=zDJ t _ p hp;obtain⟨r',e'⟩:=zDJ u _ q hq;rw[e'] at e;rw[List.append_assoc,List.append_assoc] at e;have:=List.append_cancel_left e;simp at this;exact ne this.1
theorem zB6 {t:Tr}{pl:List Int}{i:Int}:pl∉(psub (pl++[i]) t).map (·.1):=λ h=>by
 obtain⟨r,e⟩:=zDJ t _ _ h;have:=congrArg List.length e;simp at this
theorem zCi:∀(t:Tr) (pl:List Int),((psub pl t).map (·.1)).Nodup
 |.say a,pl=>by
  simp only[psub,List.map_cons,List.nodup_cons];exact⟨zB6,zCi a _⟩
 |.bin o a b,pl=>by
  simp only[psub,List.map_cons,List.nodup_cons,List.map_append,List.nodup_append,List.mem_append,not_or];exact⟨⟨zB6,zB6⟩,zCi a _,zCi b _,zDr (by decide)⟩
 |.lett x a b,pl=>by
  simp only[psub,List.map_cons,List.nodup_cons,List.map_append,List.nodup_append,List.mem_append,not_or];exact⟨⟨zB6,zB6⟩,zCi a _,zCi b _,zDr (by decide)⟩
 |.ite a b c,pl=>by
  simp only[psub,List.map_cons,List.nodup_cons,List.map_append,List.nodup_append,List.mem_append,not_or];refine⟨⟨zB6,zB6,zB6⟩,zCi a _,⟨zCi b _,zCi c _,zDr (by decide)⟩,λ p hp q hq=>?_⟩;rcases hq with hq|hq
  ·exact zDr (by decide) p hp q hq
  ·exact zDr (by decide) p hp q hq
 |.num _,_=>by simp[psub]
 |.name _,_=>by simp[psub]
 |.ask _,_=>by simp[psub]
 |.stop _,_=>by simp[psub]
 |.gap _ _,_=>by simp[psub]
noncomputable def allP (L:List PlT):List PlT:=L.flatMap λ x=>psub x.1 x.2
theorem zFq:∀L:List PlT,(allP L).Perm (L++allP (L.flatMap kidsP))
 |[]=>.nil
 |x::L=>by
  have ih:=zFq L;unfold allP at ih ⊢;rw[List.flatMap_cons,zMs,List.flatMap_cons,List.flatMap_append,List.cons_append,List.cons_append];refine List.Perm.cons _ ?_;refine(ih.append_left _).trans ?_;rw[←List.append_assoc,←List.append_assoc];exact List.Perm.append_right _ List.perm_append_comm
theorem zKG {pl:List Int}{t:Tr}{j:Nat}{c:Tr}(h:t.parts[j]?=some c):(kidsP (pl,t))[j]?=some (pl++[(j:Int)],c):=by
 unfold kidsP;rw[List.getElem?_map,List.getElem?_zipIdx];simp[h]
theorem zKF (pl:List Int) (t:Tr):(kidsP (pl,t)).length=t.parts.length:=by simp[kidsP]
noncomputable def szP (L:List PlT):Nat:=szT (L.map (·.2))
theorem zKE (x:PlT):(kidsP x).map (·.2)=x.2.parts:=by
 unfold kidsP;rw[List.map_map];have:((λ x:PlT=>x.2) ∘ λ q:Tr × Nat=>(x.1++[(q.2:Int)],q.1))=Prod.fst:=rfl;rw[this,List.zipIdx_map_fst]
theorem zGS (L:List PlT):szP (L.flatMap kidsP)+L.length=szP L:=by
 have:=zDk (L.map (·.2));unfold szP;rw[List.map_flatMap]
 have e:(L.flatMap λ x=>(kidsP x).map (·.2))=(L.map (·.2)).flatMap Tr.parts:=by
  rw[List.flatMap_map];congr 1;funext x;exact zKE x
 rw[e];rw[List.length_map] at this;exact this
theorem zMk (L:List PlT):L.length<=szP L:=by have:=zD6 (L.map (·.2));rw[List.length_map] at this;exact this
theorem zGl (t:Tr):t.parts.length<=3:=by cases t<;>simp[Tr.parts]
theorem zMA (L:List PlT):(allP L).length=szP L:=by
 induction L with
 |nil=>rfl
 |cons x L ih =>
  unfold allP at ih ⊢;unfold szP at ih ⊢;rw[List.flatMap_cons,List.length_append,ih,List.map_cons,zA0,zBc]
theorem zIL:∀(pl:List Int) (i:Int) (r:List Int),lexB pl (pl++i::r)=true
 |[],_,_=>rfl
 |a::pl,i,r=>by rw[List.cons_append,lexB,if_pos rfl];exact zIL pl i r
theorem zGn:∀(pl:List Int) {i j:Int}(r r':List Int),i<j->lexB (pl++i::r) (pl++j::r')=true
 |[],i,j,r,r',h=>by
  rw[List.nil_append,List.nil_append,lexB,if_neg (by omega)];exact lV h
 |a::pl,i,j,r,r',h=>by rw[List.cons_append,List.cons_append,lexB,if_pos rfl];exact zGn pl r r' h
theorem zDA {t:Tr}{pl:List Int}{i:Int}:∀p∈(psub (pl++[i]) t).map (·.1),lexB pl p=true:=λ p hp=>by
 obtain⟨r,rfl⟩:=zDJ t _ p hp;rw[List.append_assoc];exact zIL pl i r
theorem zFG {t u:Tr}{pl:List Int}{i j:Int}(h:i<j):∀p∈(psub (pl++[i]) t).map (·.1),∀q∈(psub (pl++[j]) u).map (·.1),lexB p q=true:=λ p hp q hq=>by
 obtain⟨r,rfl⟩:=zDJ t _ p hp;obtain⟨r',rfl⟩:=zDJ u _ q hq;rw[List.append_assoc,List.append_assoc];exact zGn pl r r' h
theorem zBm:∀(t:Tr) (pl:List Int),((psub pl t).map (·.1)).Pairwise λ a b=>lexB a b=true
 |.say a,pl=>by
  simp only[psub,List.map_cons,List.pairwise_cons];exact⟨zDA,zBm a _⟩
 |.bin o a b,pl=>by
  simp only[psub,List.map_cons,List.pairwise_cons,List.map_append,List.pairwise_append];exact⟨λ p hp=>(lK.mp hp).elim (zDA p) (zDA p),zBm a _,zBm b _,zFG (by decide)⟩
 |.lett x a b,pl=>by
  simp only[psub,List.map_cons,List.pairwise_cons,List.map_append,List.pairwise_append];exact⟨λ p hp=>(lK.mp hp).elim (zDA p) (zDA p),zBm a _,zBm b _,zFG (by decide)⟩
 |.ite a b c,pl=>by
  simp only[psub,List.map_cons,List.pairwise_cons,List.map_append,List.pairwise_append];refine⟨λ p hp=>(lK.mp hp).elim (zDA p) λ hp=>(lK.mp hp).elim (zDA p) (zDA p),zBm a _,⟨zBm b _,zBm c _,zFG (by decide)⟩,λ p hp q hq=>?_⟩;exact(lK.mp hq).elim (zFG (by decide) p hp q) (zFG (by decide) p hp q)
 |.num _,_=>by simp[psub]
 |.name _,_=>by simp[psub]
 |.ask _,_=>by simp[psub]
 |.stop _,_=>by simp[psub]
 |.gap _ _,_=>by simp[psub]
end L2
namespace PySem
open Sem (wp)
section
variable {prog:Program}{w:World}{A:Around}{E:Value->Shared->Prop}{s:Shared}{d it:Addr}{e:Int × Value}{ep i:Nat}{t:SetTable}
end
end PySem
namespace PySem.W
open PySem
end PySem.W
namespace PySem
open Sem (wp)
section
variable {prog:Program}{w:World}{A:Around}{E:Value->Shared->Prop}{s:Shared}
theorem zEQ (a:Value) {Q₁:Value->Shared->Prop}(h:Q₁ (.ref s.heap.objs.size) { s with heap:=s.heap.push { cls:=.type "set", data:=.set #[] 0 (SetTable.fresh 0 0 (!w.params.followText "set-order")) } }) :
  codeAny (model prog w) A (.call (.builtin "set.__new__") ⟨[.type "set", a],[]⟩) (wants Q₁ E) s:=by
 refine codeAny_of_tree ?_;show wpAny _ _ (checkBuiltinCall "set.__new__" _ >>= _) _ _ _;refine lA (wpAny_of_eq (F.newCall_set_1 a) (lB ⟨plainId_quiet F.plain_set_new _,codeAny_builtin F.entry_set_new ?_⟩));rw[Around.under_plainId F.plain_set_new _];have hsub:=sub_set_self;obtain⟨hp,g,d,tk,os⟩:=s;unfold Builtin.«set.__new__»;refine lA ?_;unfold Builtin.Frozenset.newClass;dsimp only;refine lA (wpAny_of_eq (a:=true) rfl ?_);refine lD (by rfl) ?_;refine lA (wpAny_of_eq hsub (lD (by rfl) (lB ?_)));refine lA ?_;unfold newSet;refine lA (m:=setsByText) (lA (wpAny_askSetting (lB ?_)));dsimp only;refine wpAny_newObj_type ?_ (by size_fits);exact lB h
theorem zCD (b:Bool):(SetTable.fresh 0 0 b).fits 0=true:=by cases b<;>rfl
noncomputable def zBd (es:Array (Int × Value)) (ep:Nat) (t:SetTable):Obj:={ cls:=.type "set", data:=.set es ep t }
end
section
variable {prog:Program}{w:World}{A:Around}{E:Value->Shared->Prop}{s:Shared}
noncomputable def SetN (h:Heap) (d:Addr) (es:Array (Int × Value)) (ep:Nat) (t:SetTable):Prop:=h.get? d=some (zBd es ep t)
structure TabN (w:World) (es:Array (Int × Value)) (t:SetTable):Prop where
 ft:t.fits es.size=true
 ld:w.params.followText "set-order" = false->t.led=true
 pl:1<=es.size->t.plain=false
noncomputable def strOf:Value->Str
 |.str x _=>x
 |_=>⟨#[]⟩
structure EsOk (es:Array (Int × Value)) (ks:List Str):Prop where
 tx:∀e∈es.toList,∃x t,e.2 = .str x t
 pm:(es.toList.map λ e=>strOf e.2).Perm ks
theorem zGm (t:SetTable) (n:Nat):(t.orStandIn n).led=t.led/\(t.plain=false->(t.orStandIn n).plain=false):=by
 unfold SetTable.orStandIn;split
 ·exact⟨rfl,λ h=>h⟩
 ·exact⟨rfl,λ U=>rfl⟩
theorem zLj (t:SetTable) (es:Array (Int × Value)) (h:Int) (x:Value):(layNew t es h x).2.1.led=t.led/\(t.plain=false->(layNew t es h x).2.1.plain=false):=by
 unfold layNew;cases e:t.freeSlot h with
 |none=>exact⟨rfl,λ U=>rfl⟩
 |some q =>
  obtain⟨j,wd⟩:=q;exact zGm (t.put j).1 (SetTable.insertAt es (t.put j).2 (h,x)).size
theorem zIh (t:SetTable) (es:Array (Int × Value)) (n:Nat):(relayAll t es n).2.1.led=t.led/\(t.plain=false->(relayAll t es n).2.1.plain=false):=by
 unfold relayAll;cases e:t.relaid (es.map (·.1)) n with
 |none=>exact⟨rfl,λ U=>rfl⟩
 |some q =>
  obtain⟨t',order⟩:=q
  have ht:t'.led=t.led/\t'.plain=t.plain:=by
   unfold SetTable.relaid SetTable.laid at e;cases e2:SetTable.layClean (SetTable.sizeAbove n - 1) (es.map (·.1)) with
   |none=>rw[e2] at e;cases e
   |some owner =>
    rw[e2] at e;have e3:=congrArg (Option.map (·.1)) e;have e4:some _=some t':=e3;injection e4 with e4
    rw[←e4];exact⟨rfl,rfl⟩
  dsimp only;split
  ·exact⟨ht.1,λ h=>by rw[ht.2];exact h⟩
  ·exact⟨rfl,λ U=>rfl⟩
theorem EsOk.mem {es:Array (Int × Value)}{ks:List Str}(h:EsOk es ks) (x:Str):x∈ks↔∃e∈es.toList,e.2.isStr x=true:=by
 rw[←h.pm.mem_iff,List.mem_map];constructor
 ·rintro⟨e,he,rfl⟩
  obtain⟨y,t,ey⟩:=h.tx e he;exact⟨e,he,by rw[ey];simp[strOf,Value.isStr]⟩
 ·rintro⟨e,he,hs⟩
  obtain⟨y,t,ey⟩:=h.tx e he;refine⟨e,he,?_⟩;rw[ey] at hs ⊢;simpa[Value.isStr,strOf] using hs
theorem zHH {d:Addr}{x:Str}{tk:Tok}{h0:Int}{es:Array (Int × Value)}{ep:Nat}{t:SetTable}{ks:List Str}{Q:Bool->Shared->Prop}(hd:SetN s.heap d es ep t) (ht:TabN w es t) (he:EsOk es ks) (hsz:es.size<200)
  (hQ0:x∈ks->Q false s) (hQ1:x∉ks->∀h' es' ep' t',SetN h' d es' ep' t'->TabN w es' t'->EsOk es' (ks++[x])->es'.size=es.size+1->Heap.SameBut d s.heap h'->Q true { s with heap:=h' }):wpAny (model prog w) A (setAddHashed d (.str x tk) h0) Q E s:=by
 have hall:(es.all λ e=>isExactStrKey e.2)=true:=by
  rw[Array.all_eq_true_iff_forall_mem];intro e hm;obtain⟨y,t,ey⟩:=he.tx e (by simpa using hm);rw[ey];rfl
 have hscan:(es.all λ e=>e.2.scannable)=true:=by
  rw[Array.all_eq_true_iff_forall_mem];intro e hm;obtain⟨y,t,ey⟩:=he.tx e (by simpa using hm);rw[ey];rfl
 have hbd:es.size<scanBound:=Nat.lt_trans hsz (by decide);unfold setAddHashed;refine lE ?_;rw[setAddHashedIn.eq_def];dsimp only;refine lA (wpAny_setState_of hd rfl ht.ft ?_);dsimp only;refine wpAny_ite_true (by unfold byScan;rw[hscan];simp[Value.scannable,hbd]) ?_;refine lA ?_;unfold setAddByScan;refine lA (wpAny_rule ?_);unfold setScan;dsimp only;rw[if_pos hall];unfold setScanStrs;cases hf:es.findIdx? (λ e=>e.2.isStr x) with
 |some i =>
  obtain⟨hi,hp,_⟩:=Array.findIdx?_eq_some_iff_getElem.mp hf;have hm:es[i]∈es.toList:=by simp
  have hk:x∈ks:=(he.mem x).mpr ⟨es[i],hm,hp⟩;obtain⟨y,ty,ey⟩:=he.tx es[i] hm;have exy:y=x:=by rw[ey] at hp;simpa[Value.isStr] using hp
  subst exy;dsimp only;rw[Array.getElem?_eq_getElem hi];have e1:es[i]=(es[i].1,Value.str y ty):=by rw[←ey]
  rw[e1];dsimp only;refine lA (lA (wpAny_setEpoch_of hd rfl ht.ft ?_));refine lA ((strKind prog w).eqBool (a:=y) (b:=y) (by simp[strKind,Value.isStrOf]) (by simp[strKind,Value.isStrOf]) ?_);refine wpAny_ite_true (by simp) (lB (lB (lB (hQ0 hk))))
 |none =>
  have hk:x∉ks:=λ z=>by
   obtain⟨e,hm,hp⟩:=(he.mem x).mp z;have:=Array.findIdx?_eq_none_iff.mp hf e (by simpa using hm);rw[this] at hp;cases hp
  dsimp only;refine lA (lB ?_);have kp:=zLj t es h0 (.str x tk);have pm:=layNew_perm t es h0 (.str x tk);have ft:=layNew_fits t es h0 (.str x tk);generalize layNew t es h0 (.str x tk)=L at kp pm ft ⊢;obtain⟨es1,t1,wd,gv⟩:=L;dsimp only at kp pm ft ⊢
  have s1:es1.size=es.size+1:=by
   have:=pm.length_eq;simpa using this
  have e1:EsOk es1 (ks++[x]):=by
   refine⟨λ e hm=>?_,?_⟩
   ·have hm2:=pm.mem_iff.mp hm
    rw[Array.toList_push] at hm2;rcases lK.mp hm2 with h|h
    ·exact he.tx e h
    ·rw[List.mem_singleton.mp h]
     exact⟨x,tk,rfl⟩
   ·refine(pm.map _).trans ?_
    rw[Array.toList_push,List.map_append];exact he.pm.append (List.Perm.refl _)
  have fin:∀(t2:SetTable) (Kf:Bool->Sem Unit),(∀(p:Bool) (s₁:Shared) (Q':Unit->Shared->Prop),Q' () s₁->wpAny (model prog w) A (Kf p) Q' E s₁)->t2.led=t.led->t2.plain=false->t2.fits es1.size=true->wpAny (model prog w) A (storeSet d es1 t2 >>= λ U=>if (!wd && t2.tooFull)=true then (Kf (relayAll t2 es1 (SetTable.grown es1.size)).2.2 >>= λ U=>storeSet d (relayAll t2 es1 (SetTable.grown es1.size)).1 (relayAll t2 es1 (SetTable.grown es1.size)).2.1 >>= λ U=>pure (some true)) else pure (some true)) (λ a s'=>wpAny (model prog w) A (match a with|some added=>pure added|none=>setAddHashedIn d (Value.str x tk) h0 99999) Q E s') E s:=by
   intro t2 Kf hK p1 p2 p3;refine lA (wpAny_storeSet_of hd rfl ?_ (mI (by omega:es1.size<=1000) (by decide)));have n1:SetN (s.heap.update d (Obj.putSet es1 t2)) d es1 (ep+1) t2:=mK _ hd (by rfl);have tn:TabN w es1 t2:=⟨p3,λ z=>by rw[p1];exact ht.ld z,λ U=>p2⟩
   by_cases hu:(!wd && t2.tooFull)=true
   ·refine wpAny_ite_true (lV hu) ?_
    refine lA (hK _ _ _ ?_);have kp2:=zIh t2 es1 (SetTable.grown es1.size);have pm2:=relayAll_perm t2 es1 (SetTable.grown es1.size);have ft2:=relayAll_fits t2 es1 (SetTable.grown es1.size);generalize relayAll t2 es1 (SetTable.grown es1.size)=L2 at kp2 pm2 ft2 ⊢;obtain⟨es2,t3,gv2⟩:=L2;dsimp only at kp2 pm2 ft2 ⊢;have s2:es2.size=es1.size:=by simpa using pm2.length_eq
    refine lA (wpAny_storeSet_of (s:={ s with heap:=s.heap.update d (Obj.putSet es1 t2) }) n1 rfl ?_ (mI (by omega:es2.size<=1000) (by decide)));refine lB (lB (hQ1 hk _ es2 (ep+1+1) t3 (mK _ n1 (by rfl)) ⟨ft2,λ z=>by rw[kp2.1,p1];exact ht.ld z,λ U=>kp2.2 p2⟩ ⟨λ e hm=>e1.tx e (pm2.mem_iff.mp hm),(pm2.map _).trans e1.pm⟩ (by omega) ((Heap.SameBut.update ..).trans (Heap.SameBut.update ..))))
   ·refine lD (decide_eq_false hu) ?_
    exact lB (lB (hQ1 hk _ es1 (ep+1) t2 n1 tn e1 s1 (Heap.SameBut.update ..)))
  refine lA ?_;cases gv
  ·first|refine lB ?_|refine wpAny_rule ?_
   by_cases hp:t1.plain=true
   ·refine wpAny_ite_true (lV hp) (lA (wpAny_of_eq (hashByValue.eq_5 _ _ _) ?_))
    exact fin { t1 with plain:=false } _ (λ b s₁ Q' h=>by cases b;(first|exact lB h|exact wpAny_rule h);(first|exact wpAny_rule h|exact lB h)) kp.1 rfl ft
   ·refine lD (decide_eq_false hp) (lA (lB ?_))
    exact fin t1 _ (λ b s₁ Q' h=>by cases b;(first|exact lB h|exact wpAny_rule h);(first|exact wpAny_rule h|exact lB h)) kp.1 (Bool.eq_false_iff.mpr hp) ft
  ·first|refine wpAny_rule ?_|refine lB ?_
   by_cases hp:t1.plain=true
   ·refine wpAny_ite_true (lV hp) (lA (wpAny_of_eq (hashByValue.eq_5 _ _ _) ?_))
    exact fin { t1 with plain:=false } _ (λ b s₁ Q' h=>by cases b;(first|exact lB h|exact wpAny_rule h);(first|exact wpAny_rule h|exact lB h)) kp.1 rfl ft
   ·refine lD (decide_eq_false hp) (lA (lB ?_))
    exact fin t1 _ (λ b s₁ Q' h=>by cases b;(first|exact lB h|exact wpAny_rule h);(first|exact wpAny_rule h|exact lB h)) kp.1 (Bool.eq_false_iff.mpr hp) ft
noncomputable def ddS (ks:List Str) (x:Str):List Str:=if x∈ks then ks else ks++[x]
noncomputable def dd (xs:List Str):List Str:=xs.foldl ddS []
theorem zKe (xs:List Str) (x:Str):dd (xs++[x])=ddS (dd xs) x:=by unfold dd;rw[List.foldl_append];rfl
theorem zHr {us:List Value}{xs:List Str}{i:Nat}{x:Str}(z:PyProof.Rows.StrsAre us xs):xs[i]?=some x->∃tk,us[i]?=some (.str x tk):=by
 induction z generalizing i with
 |nil=>exact λ e=>nomatch e
 |cons y tk r ih=>cases i with
  |zero=>exact λ e=>⟨tk,by cases e;rfl⟩
  |succ i=>exact λ e=>ih (i:=i) (by simpa using e)
theorem zGf {d it l:Addr}{vs:Array Value}{xs:List Str}{R:Result->Shared->Prop}(hh:A.handled=none) (hv:PyProof.Rows.StrsAre vs.toList xs) (n1:d≠it) (n2:l≠it) (n3:l≠d) (hlen:xs.length<=100) :
  ∀(m i:Nat) (s:Shared) (es:Array (Int × Value)) (ep:Nat) (t:SetTable),vs.size - i=m->i<=vs.size->s.heap.IsListIter it l i->s.heap.IsList l vs->SetN s.heap d es ep t->TabN w es t->EsOk es (dd (xs.take i))->es.size<=i ->
  (∀h' es' ep' t' tk',SetN h' d es' ep' t'->TabN w es' t'->EsOk es' (dd xs)->es'.size<=100->(∀b o,b≠d->b≠it->s.heap.get? b=some o->h'.get? b=some o)->R (.ok (.ret .none)) { s with heap:=h',toks:=tk' }) ->
  codeAny (model prog w) A (.builtin "set.update.loop" ⟨[.ref d,.ref it],[]⟩) R s:=by
 have hl:vs.size=xs.length:=by have:=hv.length;simpa using this
 intro m
 induction m with
 |zero =>
  intro i s es ep t hm hi hit hL hd ht he hes hR;have ei:i=vs.size:=by omega
  subst ei;refine codeAny_builtin PyProof.Rows.F.entry_set_update_loop ?_;rw[Around.under_plainId PyProof.Rows.F.plain_set_update_loop _];unfold Builtin.«set.update.loop»;dsimp only;refine lA (wpAny_pyNext_list_end (show A.in1.handled=none from hh) hit hL (by simp) λ h3 he3=>?_);rw[hl,List.take_length] at he;exact lB (hR h3 es ep t s.toks (he3 d _ n1 hd) ht he (by omega) λ b o nb ni e=>he3 b o ni e)
 |succ m ih =>
  intro i s es ep t hm hi hit hL hd ht he hes hR;have hlt:i<vs.size:=by omega
  obtain⟨x,hx⟩:∃x,xs[i]?=some x:=⟨_,lX (by omega)⟩
  obtain⟨tk,hvx⟩:∃tk,vs[i]?=some (.str x tk):=by
   obtain⟨tk,h⟩:=zHr hv hx;exact⟨tk,by rw[←Array.getElem?_toList];exact h⟩
  refine codeAny_builtin PyProof.Rows.F.entry_set_update_loop ?_;rw[Around.under_plainId PyProof.Rows.F.plain_set_update_loop _];unfold Builtin.«set.update.loop»;dsimp only;refine lA (wpAny_pyNext_list_item hit hL (x:=.str x tk) hvx λ h1 hit1 hs1=>?_);dsimp only;refine lA (lE ?_);unfold setAdd;refine lE (lA ((strKind prog w).pyHash (k:=x) (v:=.str x tk) (by simp[strKind,Value.isStrOf]) ?_));have etk:xs.take (i+1)=xs.take i++[x]:=by rw[List.take_add_one,hx];rfl
  have hL1:∀h2,Heap.SameBut d h1 h2\/h2=h1->h2.IsList l vs:=λ h2 hs2=>by
   obtain⟨o,ho,r⟩:=hL;rcases hs2 with hs2|rfl
   ·exact⟨o,hs2.extBut l o n3 (hs1.extBut l o n2 ho),r⟩
   ·exact⟨o,hs1.extBut l o n2 ho,r⟩
  refine zHH (s:={ s with heap:=h1,toks:=s.toks+1 }) (hs1.extBut d _ n1 hd) ht he (by omega) (λ hin=>?_) (λ hnin h2 es2 ep2 t2 hd2 ht2 he2 hz2 hs2=>?_)
  ·refine lB ⟨plainId_quiet PyProof.Rows.F.plain_set_update_loop _,?_⟩
   refine ih (i+1) _ es ep t (by omega) hlt hit1 (hL1 h1 (.inr rfl)) (hs1.extBut d _ n1 hd) ht (by rw[etk,zKe,ddS,if_pos hin];exact he) (by omega) λ h' es' ep' t' tk' a b c d' k=>?_;exact hR h' es' ep' t' tk' a b c d' λ b o nb ni e=>k b o nb ni (hs1.extBut b o ni e)
  ·refine lB ⟨plainId_quiet PyProof.Rows.F.plain_set_update_loop _,?_⟩
   refine ih (i+1) _ es2 ep2 t2 (by omega) hlt (hit1.extBut hs2.extBut (Ne.symm n1)) (hL1 h2 (.inl hs2)) hd2 ht2 (by rw[etk,zKe,ddS,if_neg hnin];exact he2) (by omega) λ h' es' ep' t' tk' a b c d' k=>?_;exact hR h' es' ep' t' tk' a b c d' λ b o nb ni e=>k b o nb ni (hs2.extBut b o nb (hs1.extBut b o ni e))
theorem zG0 {l:Addr}{vs:Array Value}{xs:List Str}{Q:Value->Shared->Prop}(hh:A.handled=none) (hl:s.heap.IsList l vs) (hv:PyProof.Rows.StrsAre vs.toList xs) (hlen:xs.length<=100)
  (h:∀h' es ep t tk',SetN h' s.heap.objs.size es ep t->TabN w es t->EsOk es (dd xs)->es.size<=100->(∀b o,s.heap.get? b=some o->h'.get? b=some o)->Q (.ref s.heap.objs.size) { s with heap:=h',toks:=tk' }) :
  wpAny (model prog w) A (call (.type "set") [.ref l]) Q E s:=by
 obtain⟨c,tl,hmro⟩:=F.called_set.mro;have hmade:=F.called_set.made;have hsub:=F.called_set.sub;refine wpAny_call (codeAny_of_tree ?_);refine lB ⟨Code.quiet_builtin _ (by decide +kernel),codeAny_builtin F.entry_type_call ?_⟩;rw[Around.under_plain (weight_type_call_type "set" [.ref l] []) rfl];have h1:=F.called_set.notType;have h2:=F.called_set.canCreate;have hct:=F.typeCall_set_1 (.ref l);unfold Builtin.«type.__call__»;dsimp only;refine lD (decide_eq_false (by rw[h1];exact lY)) ?_;refine lD (decide_eq_false (by rw[h2];exact lY)) ?_;refine lA (wpAny_of_eq hct (lA (wpAny_of_eq hmro ?_)));refine lD (by rfl) ?_;refine lA (wpAny_of_eq hmade ?_);dsimp only;refine lA (lB ?_);refine lA (lE (wpAny_call (codeAny_mono (zEQ (E:=E) (Q₁:=λ obj s₁=>obj = .ref s.heap.objs.size/\s₁={ s with heap:=s.heap.push (zBd #[] 0 (SetTable.fresh 0 0 (!w.params.followText "set-order"))) }) (.ref l) ⟨rfl,rfl⟩) λ r s₁ hr=>?_)));rcases r with e|f
 ·exact hr
 cases f with
 |ret v=>?_
 |_=>exact hr
 obtain⟨rfl,rfl⟩:=hr;have hd:=lH (h:=s.heap) (o:=zBd #[] 0 (SetTable.fresh 0 0 (!w.params.followText "set-order"))) rfl;have hT:(⟨s.heap.push (zBd #[] 0 (SetTable.fresh 0 0 (!w.params.followText "set-order"))),s.gens,s.drawn,s.toks,s.os⟩:Shared).TypeIs (.ref s.heap.objs.size) "set" := ⟨_,hd,rfl⟩;refine lA (wpAny_isInstance hT hsub (lD (by rfl) ?_));refine lA (lE (wpAny_callSpecial?_slot (name:=Str.ofString "__init__") hT F.called_set.init (wpAny_call (codeAny_call_builtin F.called_set.init.plain F.entry_set_init (check_set_init_1 hT ?_)))));have kp0:∀b o,s.heap.get? b=some o->(s.heap.push (zBd #[] 0 (SetTable.fresh 0 0 (!w.params.followText "set-order")))).get? b=some o:=λ b o hb=>lG _ hb
 have hl0:(s.heap.push (zBd #[] 0 (SetTable.fresh 0 0 (!w.params.followText "set-order")))).IsList l vs:=by
  obtain⟨o,ho,r⟩:=hl;exact⟨o,kp0 l o ho,r⟩
 have lt:l<s.heap.objs.size:=let ⟨o,ho,_⟩:=hl;lI ho;unfold Builtin.«set.__init__»;refine lA (wpAny_of_eq (a:=()) (by rfl) ?_);dsimp only;have hsl:=F.sub_list_set;have hsf:=F.sub_list_frozenset;refine lA ?_;unfold typeNameOfCut;have hTl:(⟨s.heap.push (zBd #[] 0 (SetTable.fresh 0 0 (!w.params.followText "set-order"))),s.gens,s.drawn,s.toks,s.os⟩:Shared).TypeIs (.ref l) "list" := let ⟨o,ho,hc,_⟩:=hl0;⟨o,ho,hc⟩
 repeat (any_goals (first|assumption|exact hT|(with_reducible refine wpAny_isInstance hTl hsl ?_)|(with_reducible refine wpAny_isInstance hTl hsf ?_)|(with_reducible refine wpAny_pyIter_list hl0 ?_)|(with_reducible refine wpAny_typeOf hTl ?_)|(with_reducible refine wpAny_runValue ?_)|wp_step))
 have ltp:s.heap.objs.size<(s.heap.push (zBd #[] 0 (SetTable.fresh 0 0 (!w.params.followText "set-order")))).objs.size:=by rw[Heap.size_push];exact Nat.lt_succ_self _
 have hd2:=lG { cls:=Value.type "list_iterator", data:=Data.fields #[Value.ref l,Value.int 0 0] } hd
 have hl2:((s.heap.push (zBd #[] 0 (SetTable.fresh 0 0 (!w.params.followText "set-order")))).push { cls:=Value.type "list_iterator", data:=Data.fields #[Value.ref l,Value.int 0 0] }).IsList l vs:=by
  obtain⟨o,ho,r⟩:=hl0;exact⟨o,lG _ ho,r⟩
 refine zGf (vs:=vs) (xs:=xs) (show A.in1.in1.handled=none from hh) hv (lT ltp) (lT (Nat.lt_trans lt ltp)) (lT lt) hlen vs.size 0 _ #[] 0 _ (by omega) (lZ _) ⟨_,lH _ rfl,rfl,rfl⟩ hl2 hd2 ⟨zCD _,(λ z=>by rw[z];rfl),λ z=>absurd z (by decide)⟩ ⟨(λ e h=>by simp at h),List.Perm.refl _⟩ (lS _) λ h' es ep t tk' e1 e2 e3 e4 kp=>?_;refine lB (lB ?_);refine lD (by rfl) (lB ?_);refine h h' es ep t tk' e1 e2 e3 e4 λ b o e=>?_;have lb:=lI e;exact kp b o (lT lb) (lT (Nat.lt_trans lb ltp)) (lG _ (kp0 b o e))
end
section
variable {prog:Program}{w:World}{A:Around}{E:Value->Shared->Prop}{s:Shared}{d it:Addr}{es:Array (Int × Value)}{ep i:Nat}{t:SetTable}
end
end PySem
namespace L2
open PySem PySem.W PyProof.Rows
section
variable {n:Nat}{r:Nat->Nat->Bool}
end
end L2
namespace L2
open PySem PySem.Spec PyProof.Rows PySem.W
instance:DecidableEq Dt:=λ d e=>decidable_of_iff (Dt.beq d e=true) Dt.beq_iff
mutual
inductive DA (h:Heap):Dt->Value->Prop
 |int (i:Int) (t:Tok):DA h (.int i) (.int i t)
 |str (x:Str) (t:Tok):DA h (.str x) (.str x t)
 |tup {a:Addr}{items:Array Value}{ds:List Dt}:h.IsTuple a items->DAs h ds items.toList->DA h (.tup ds) (.ref a)
inductive DAs (h:Heap):List Dt->List Value->Prop
 |nil:DAs h [] []
 |cons {d:Dt}{u:Value}{ds:List Dt}{us:List Value}:DA h d u->DAs h ds us->DAs h (d::ds) (u::us)
end
mutual
theorem DA.kept {h h':Heap}(k:∀b x,h.IsTuple b x->h'.IsTuple b x):∀{d:Dt}{u:Value},DA h d u->DA h' d u
 |_,_,.int _ _=>.int _ _
 |_,_,.str _ _=>.str _ _
 |_,_,.tup h r=>.tup (k _ _ h) (DAs.kept k r)
theorem DAs.kept {h h':Heap}(k:∀b x,h.IsTuple b x->h'.IsTuple b x):∀{d:List Dt}{u:List Value},DAs h d u->DAs h' d u
 |_,_,.nil=>.nil
 |_,_,.cons r q=>.cons (DA.kept k r) (DAs.kept k q)
end
theorem DAs.length {h:Heap}:∀{ds:List Dt}{us:List Value},DAs h ds us->ds.length=us.length
 |_,_,.nil=>rfl
 |_,_,.cons _ q=>by simp[DAs.length q]
section
variable {P:Program}{w:World}{H:Hp}{h:Heap}
mutual
theorem DR.da (ok:HOk P w H h):∀{d:Dt}{v:V}{u:Value},DR H d v->RelV v u->DA h d u
 |_,_,_,.int i,r=>by obtain⟨t,rfl⟩:=r;exact .int _ _
 |_,_,_,.str x,r=>by obtain⟨t,rfl⟩:=r;exact .str _ _
 |_,_,_,.tup (a:=a) ha q,r=>by
  cases r;obtain⟨_,its,rv,p⟩:=ok a _ ha;exact .tup p (by rw[List.toList_toArray];exact DRs.da ok q rv)
theorem DRs.da (ok:HOk P w H h):∀{d:List Dt}{v:List V}{u:List Value},DRs H d v->Vals v u->DAs h d u
 |_,_,_,.nil,.nil=>.nil
 |_,_,_,.cons r q,.cons a b=>.cons (DR.da ok r a) (DRs.da ok q b)
end
end
section
variable {s:Shared}
end
mutual
noncomputable def Dt.hsh (w:World):Dt->Int
 |.int i=>hashInt i
 |.str x=>hashStr w x
 |.tup ds=>reduceHash (Builtin.Tuple.tupleHashOf (Dt.hshs w ds))
noncomputable def Dt.hshs (w:World):List Dt->List Int
 |[]=>[]
 |d::ds=>Dt.hsh w d::Dt.hshs w ds
end
mutual
noncomputable def Dt.draws:Dt->Nat
 |.int _=>1
 |.str _=>1
 |.tup ds=>Dt.drawss ds+1
noncomputable def Dt.drawss:List Dt->Nat
 |[]=>0
 |d::ds=>Dt.draws d+Dt.drawss ds
end
theorem zGD (w:World):∀(a b:List Dt),Dt.hshs w (a++b)=Dt.hshs w a++Dt.hshs w b
 |[],b=>rfl
 |d::a,b=>by simp[Dt.hshs,zGD w a b]
theorem zEH:∀(a b:List Dt),Dt.drawss (a++b)=Dt.drawss a+Dt.drawss b
 |[],b=>by simp[Dt.drawss]
 |d::a,b=>by simp[Dt.drawss,zEH a b];omega
theorem zGx:∀(a b:List Dt),Dt.deeps (a++b)=max (Dt.deeps a) (Dt.deeps b)
 |[],b=>by simp[Dt.deeps]
 |d::a,b=>by simp[Dt.deeps,zGx a b,Nat.max_assoc]
section
variable {prog:Program}{w:World}{E:Value->Shared->Prop}
theorem zNO:∀(n:Nat) (A:Around) (s:Shared) {E:Value->Shared->Prop}{d:Dt}{u:Value}{Q:Int->Shared->Prop},d.deep<=n->DA s.heap d u->A.units+n<cLine->Q (d.hsh w) { s with toks:=s.toks+d.draws } ->
  wpAny (model prog w) A (pyHash u) Q E s:=by
 intro n
 induction n with
 |zero =>
  intro A s E d u Q hn hd hu h;cases hd with
  |int i t=>exact(zAg prog w).pyHash (k:=.inl i) (zE6 i t) h
  |str x t=>exact(zAg prog w).pyHash (k:=.inr x) (zE5 x t) h
  |tup _ _=>simp[Dt.deep] at hn
 |succ n ih =>
  intro A s E d u Q hn hd hu h;cases hd with
  |int i t=>exact(zAg prog w).pyHash (k:=.inl i) (zE6 i t) h
  |str x t=>exact(zAg prog w).pyHash (k:=.inr x) (zE5 x t) h
  | @tup a items ds ha hi =>
   have hn':Dt.deeps ds<=n:=by simpa[Dt.deep] using hn
   obtain⟨o,ho,hc,m,hd⟩:=ha;have hT:s.TypeIs (.ref a) "tuple" := ⟨o,ho,hc⟩;unfold pyHash
   first|unfold pyHashByItsType|skip
   first|refine lA (wpAny_cRoomFor_or (.inr (by omega)) ?_)|skip
   refine lA (wpAny_specialOf hT F.slot_tuple_hash.lookup ?_);show wpAny _ _ (if (some (Value.builtin "tuple.__hash__") == some Value.none)=true then _ else _) Q E s;rw[if_neg (by rw[beq_builtin_none];exact lY)];refine lA (wpAny_specialOf hT F.slot_tuple_hash.lookup ?_);show wpAny _ _ (callSpecialIfBoundUnlessNone? (.ref a) "__hash__" _ >>= _) Q E s;refine lA (wpAny_callSpecialIfBoundUnlessNone?_slot hT F.slot_tuple_hash (wpAny_call_entry F.slot_tuple_hash hT F.entry_tuple_hash ?_ (F.args_tuple_hash_1 _)));show wpAny _ _ (Builtin.Tuple.tupleItemsOf (.ref a) >>= _) _ _ s;refine lA (wpAny_tupleItemsOf ho hd ?_);refine lA ?_;rw[←Array.forIn_toList]
   refine wpAny_forIn_list _
    (λ rest (b:Array Int) s'=>∃done left,ds=done++left/\DAs s.heap left rest/\b.toList=Dt.hshs w done/\s'={ s with toks:=s.toks+Dt.drawss done })
    _ ?_ ?_ _ _ ⟨[],ds,rfl,hi,rfl,rfl⟩
   ·rintro x rest b s' ⟨done,left,rfl,hl,hb,rfl⟩
    cases hl with
    | @cons k _ ks' _ h1 hl' =>
     have hk:k.deep<=n:=by
      rw[zGx,Dt.deeps] at hn';omega
     refine lA (ih _ _ hk h1 (by show A.units+1+n<cLine;omega) ?_)
     first
      |exact lB ⟨done++[k],ks',by simp,hl',by simp[hb,zGD,Dt.hshs],by simp[zEH,Dt.drawss,Nat.add_assoc]⟩
      |exact lA (lB (lB ⟨done++[k],ks',by simp,hl',by simp[hb,zGD,Dt.hshs],by simp[zEH,Dt.drawss,Nat.add_assoc]⟩))
   ·rintro b s' ⟨done,left,rfl,hl,hb,rfl⟩
    cases hl;rw[List.append_nil] at h;show wpAny _ _ (retInt (Builtin.Tuple.tupleHashOf b.toList)) _ _ _;rw[hb];refine wpAny_ret_mkInt ?_;show wpAny _ _ (if (decide (-(2:Int) ^ 63<=Builtin.Tuple.tupleHashOf (Dt.hshs w done)) && decide (Builtin.Tuple.tupleHashOf (Dt.hshs w done)<2 ^ 63))=true then _ else _) Q E _;unfold Dt.hsh reduceHash Dt.draws at h
    by_cases hr:(decide (-(2:Int) ^ 63<=Builtin.Tuple.tupleHashOf (Dt.hshs w done)) && decide (Builtin.Tuple.tupleHashOf (Dt.hshs w done)<2 ^ 63))=true
    ·rw[if_pos hr]
     rw[if_pos hr] at h;exact lB (by simpa[Nat.add_assoc] using h)
    ·rw[if_neg hr]
     rw[if_neg hr] at h;exact lA (wpAny_rule (lB (by simpa[Nat.add_assoc] using h)))
end
noncomputable def strLt (x y:Str):Bool:=decide (x.cps.toList<y.cps.toList)
mutual
noncomputable def Dt.lt:Dt->Dt->Bool
 |.int i,.int j=>decide (i<j)
 |.str x,.str y=>strLt x y
 |.tup ds,.tup es=>Dt.lts ds es
 |.int _,.str _=>true
 |.int _,.tup _=>true
 |.str _,.tup _=>true
 |.str _,.int _=>false
 |.tup _,.int _=>false
 |.tup _,.str _=>false
noncomputable def Dt.lts:List Dt->List Dt->Bool
 |[],[]=>false
 |[],_::_=>true
 |_::_,[]=>false
 |d::ds,e::es=>if Dt.beq d e=true then Dt.lts ds es else Dt.lt d e
end
inductive Ty where
 |int|str|many (t:Ty)|two (a b:Ty)
mutual
noncomputable def Dt.has:Ty->Dt->Bool
 |.int,.int _=>true
 |.str,.str _=>true
 |.many t,.tup ds=>Dt.hass t ds
 |.two a b,.tup ds=>Dt.hasp a b ds
 |_,_=>false
noncomputable def Dt.hass:Ty->List Dt->Bool
 |_,[]=>true
 |t,d::ds=>Dt.has t d && Dt.hass t ds
noncomputable def Dt.hasp:Ty->Ty->List Dt->Bool
 |a,b,d::es=>Dt.has a d && Dt.hasq b es
 |_,_,_=>false
noncomputable def Dt.hasq:Ty->List Dt->Bool
 |b,e::es=>Dt.has b e && (es.length == 0)
 |_,_=>false
end
mutual
noncomputable def Dt.cmp:Dt->Dt->Bool
 |.int _,.int _=>true
 |.str _,.str _=>true
 |.tup ds,.tup es=>Dt.cmps ds es
 |_,_=>false
noncomputable def Dt.cmps:List Dt->List Dt->Bool
 |[],_=>true
 |_::_,[]=>true
 |d::ds,e::es=>if Dt.beq d e=true then Dt.cmps ds es else Dt.cmp d e
end
end L2
namespace L2
open PySem PySem.Calls PySem.Spec PyProof.Rows PySem.W
open AutoSeq1 (wpAny_loadPart')
section
variable {prog:Program}{w:World}{A:Around}{E:Value->Shared->Prop}{s:Shared}
end
section
variable {prog:Program}{w:World}{A:Around}{E:Value->Shared->Prop}{s:Shared}
end
end L2
namespace L2
open PySem PySem.W PyProof.Rows
structure LtE (M:Model) (A:Around) (E:Value->Shared->Prop) (s:Shared) (κ:SortKind) (G:Keyed->Prop) (R:Keyed->Keyed->Bool):Prop where
 lt:∀x y,G x->G y->∀(st:SortSt) (Q:Option Bool->SortSt->Prop),kindOf st=κ->Q (some (R x y)) st->wpS M A E s (lt' x y) Q st
 asym:∀x y,G x->G y->R x y=true->R y x=false
 tr:∀x y z,G x->G y->G z->R x y=false->R y z=false->R x z=false
section
variable {M:Model}{A:Around}{E:Value->Shared->Prop}{s:Shared}{κ:SortKind}{G:Keyed->Prop}{R:Keyed->Keyed->Bool}
end
section
variable {R:Keyed->Keyed->Bool}{A B o as bs p:List Keyed}
end
section
variable {M:Model}{A:Around}{E:Value->Shared->Prop}{s:Shared}{κ:SortKind}{G:Keyed->Prop}{R:Keyed->Keyed->Bool}
abbrev d0:Keyed:=(.none,.none)
section
variable {a b o:Array Keyed}{ia ib k:Nat}
end
end
section
variable {M:Model}{A:Around}{E:Value->Shared->Prop}{s:Shared}{κ:SortKind}{G:Keyed->Prop}{R:Keyed->Keyed->Bool}
end
section
variable {M:Model}{A:Around}{E:Value->Shared->Prop}{s:Shared}{κ:SortKind}{G:Keyed->Prop}{R:Keyed->Keyed->Bool}
section
variable {a b o:Array Keyed}{na nb k:Nat}
end
end
section
variable {M:Model}{A:Around}{E:Value->Shared->Prop}{s:Shared}{κ:SortKind}{G:Keyed->Prop}{R:Keyed->Keyed->Bool}
end
section
variable {M:Model}{A:Around}{E:Value->Shared->Prop}{s:Shared}{κ:SortKind}{G:Keyed->Prop}{R:Keyed->Keyed->Bool}
end
section
variable {M:Model}{A:Around}{E:Value->Shared->Prop}{s:Shared}{κ:SortKind}{G:Keyed->Prop}{R:Keyed->Keyed->Bool}{a₀:Array Keyed}
end
end L2
namespace L2
open PySem PySem.Calls PySem.W PyProof.Rows
section
variable {prog:Program}{w:World}{A:Around}{E:Value->Shared->Prop}{s:Shared}{κ:SortKind}{G:Keyed->Prop}{R:Keyed->Keyed->Bool}
end
end L2
namespace L2
open PySem PySem.Calls PySem.Spec PySem.W PyProof.Rows
open Classical in
noncomputable def dtOf (h:Heap) (v:Value):Dt:=if e:∃d,DA h d v then e.choose else .tup []
section
variable {prog:Program}{w:World}{A:Around}{E:Value->Shared->Prop}{s:Shared}
end
end L2
namespace L2
open PySem PySem.Calls PySem.Spec PyProof.Rows PySem.W
section
variable {X:Cx}
end
abbrev XN:=List (Dt × Addr × V)
noncomputable def prs (xs:XN):List (Dt × V):=xs.map λ x=>(x.1,x.2.2)
section
variable {P:Program}{w:World}{H H':Hp}{h:Heap}{a:Addr}{kvs:List (Dt × V)}
end
section
variable {X:Cx}{jP:List (Addr × Obj)}{σ:L2.St}{H:Hp}{s:Shared}{a b:Addr}{k:Dt}{kvs:List (Dt × V)}{v:V}{A:Around}{E:Value->Shared->Prop}
end
end L2
namespace PySem
open Sem (wp)
section
variable {prog:Program}{w:World}{A:Around}{E:Value->Shared->Prop}{s:Shared}{d it:Addr}{es:Array DictEntry}{ep i:Nat}
end
end PySem
namespace PySem.W
open PySem
section
variable {prog:Program}{w:World}{d r:Addr}{es:Array DictEntry}{ep:Nat}
end
end PySem.W
namespace PySem.W
open PySem PySem.Spec PySem.Calls PyProof.Rows
noncomputable def ExAt (x D:Addr) (h:Heap):Prop:=∃o vs,h.get? x=some o/\o.cls = .ref D/\o.data = .fields vs
theorem ExAt.ty {x D:Addr}{h:Heap}(p:ExAt x D h) (M:Model):Looks M h (typeOf (.ref x)) (.ref D):=by
 obtain⟨o,vs,h1,h2,_⟩:=p;exact h2▸(Looks.ld h1).andThen .now
section
variable {prog:Program}{w:World}{A:Around}{E:Value->Shared->Prop}{K:Frag}{x D:Addr}{h:Heap}{g:Array GenState}{d:Drawn}{t:Nat}{os:OsState}
end
structure ExCls (K:Frag) (D:Addr):Prop where
 ga:findIn K (.ref D) "__getattribute__" = some (some (.builtin "BaseException.__getattribute__"))
 gt:findIn K (.ref D) "__getattr__" = some none
 bs:mroIn K D (.type "BaseException")=some true
 cl:findIn K (.ref D) "__class__" = some (some (.builtin "object.__class__"))
 ob:mroIn K D (.type "object")=some true
 ic:(clsIn K D).isSome=true
end PySem.W
namespace L2
open PySem PySem.Spec PyProof.Rows
section
variable {P:Program}{w:World}{H H':Hp}{h h' g:Heap}{a:Addr}{o:HO}
theorem ObjOk.there (x:ObjOk P w H h a o):∃ob,h.get? a=some ob:=by
 cases o with
 |lst xs=>obtain⟨_,_,_,_,e⟩:=x;exact⟨_,e⟩
 |tup xs=>obtain⟨_,_,_,ob,e,_⟩:=x;exact⟨_,e⟩
 |dK kvs=>obtain⟨_,_,_,_,o,_,_,e,_⟩:=x;exact⟨_,e⟩
 |dT kvs=>obtain⟨_,_,_,_,o,_,_,e,_⟩:=x;exact⟨_,e⟩
 |set S n=>obtain⟨o,_,_,_,e,_⟩:=x;exact⟨_,e⟩
 |ins C dx fs=>obtain⟨_,_,_,e,_⟩:=x;exact⟨_,e⟩
 |own y=>exact x
 |xd fs=>obtain⟨_,⟨_,_,_,e,_⟩,_⟩:=x;exact⟨_,e⟩
 |rng lo hi=>obtain⟨_,_,_,e⟩:=x;exact⟨_,e⟩
 |frz ob u=>obtain⟨e,_⟩:=x;exact⟨_,e⟩
 |tbl ps=>exact⟨_,(show h.get? a=some _ from x)⟩
 |met f y=>exact⟨_,(show h.get? a=some _ from x)⟩
 |ext φ=>obtain⟨_,e,_⟩:=x;exact e
noncomputable def Cov (fs:List Addr) (H':Hp) (h g B:Heap):Prop:=∀b o,g.get? b=some o->b∉fs->((∃o0,h.get? b=some o0)\/H' b≠none)->B.get? b=some o
theorem moved {fs:List Addr}{B:Heap}(un:Un fs [] H H' h g) (hok:HOk P w H' g) (cov:Cov fs H' h g B) (hfd:∀b∈fs,H' b=none/\∃o,g.get? b=some o/\∀vs,o.data ≠ .fields vs)
  (st:B.StaysIn h') (sm:g.UpToSlots h'):Un fs [] H H' h h'/\HOk P w H' h'/\Cov fs H' h h' B:=by
 refine⟨⟨λ b o q n nb U=>?_,λ b o q n hb U=>?_,un.free,λ b o q U=>?_,un.tups,un.frzs,un.tbls⟩,λ b u e=>?_,λ b o e nb hz=>?_⟩
 ·exact st b o (cov b o (un.keep b o q n nb (by simp)) nb (.inl ⟨o,q⟩))
 ·obtain⟨sl,e⟩:=un.slot b o q n hb (by simp)
  obtain⟨_,o',e',d⟩:=hfd b hb;rw[e] at e';cases e';obtain⟨sl',e2⟩:=sm b _ e d;exact⟨sl',e2⟩
 ·by_cases hb:b∈fs
  ·obtain⟨_,o',e',d⟩:=hfd b hb
   obtain⟨sl',e2⟩:=sm b _ e' d;exact⟨_,e2⟩
  ·obtain⟨o',e⟩:=un.there b o q (by simp)
   exact⟨o',st b o' (cov b o' e hb (.inl ⟨o,q⟩))⟩
 ·refine(hok b u e).stay (λ c v hc q=>?_) (λ U q=>q) λ U U q=>q
  have hn:H' c≠none:=by
   rcases hc with z|z
   ·rw[z,e];intro y;cases y
   ·rw[z];intro y;cases y
  exact st c v (cov c v q (λ z=>hn (hfd c z).1) (.inr hn))
 ·have:∃o',g.get? b=some o':=by
   rcases hz with ⟨o0,z⟩|z
   ·exact un.there b o0 z (by simp)
   ·cases q:H' b with
    |none=>exact absurd q z
    |some u=>exact(hok b u q).there
  obtain⟨o',e'⟩:=this;have c:=cov b o' e' nb hz;have:=st b o' c;rw[e] at this;cases this;exact c
end
structure Flew (P:Program) (w:World) (stk:List Env) (H:Hp) (s:Shared) (H':Hp) (ea C:Addr) (s':Shared):Prop where
 os:s'.os=s.os
 bare:AllBare s'.gens
 un:Un (frs stk) [] H H' s.heap s'.heap
 hok:HOk P w H' s'.heap
 new:s.heap.get? ea=none
 hn:H' ea=none
 fly:∃(B:Heap) (a0:Value),Heap.FlyingW B stk ea (.ref C) a0 s'.heap/\Cov (frs stk) H' s.heap s'.heap B
section
variable {X:Cx}{jP:List (Addr × Obj)}{σ:St}{H H':Hp}{s s':Shared}{ea C:Addr}
theorem Flew.frd (F:Flew X.prog X.w X.stack H s H' ea C s') (I:Inv X jP σ H s) {B:Heap}{a0:Value}(hfl:Heap.FlyingW B X.stack ea (.ref C) a0 s'.heap):∀b∈frs X.stack,H' b=none/\∃o,s'.heap.get? b=some o/\∀vs,o.data ≠ .fields vs:=λ b hb=>by
 obtain⟨_,o,e,d⟩:=I.stack.mem hb;exact⟨F.un.free b o e (I.stkFree b hb) (by simp),(hfl.2.2.1.mem hb).2⟩
theorem Flew.on (F:Flew X.prog X.w X.stack H s H' ea C s') (I:Inv X jP σ H s) {B:Heap}{a0:Value}{h':Heap}(hfl:Heap.FlyingW B X.stack ea (.ref C) a0 s'.heap) (cov:Cov (frs X.stack) H' s.heap s'.heap B)
  (hfl':Heap.FlyingW B X.stack ea (.ref C) a0 h') (sm:s'.heap.UpToSlots h'):Flew X.prog X.w X.stack H s H' ea C { s' with heap:=h' }:=by
 obtain⟨u,k,c⟩:=moved F.un F.hok cov (F.frd I hfl) hfl'.1 sm;exact⟨F.os,F.bare,u,k,F.new,F.hn,B,a0,hfl',c⟩
theorem Flew.inv (F:Flew X.prog X.w X.stack H s H' ea C s') (I:Inv X jP σ H s):Inv X jP σ H' s':=I.call' (ch:=[]) F.os F.un F.hok F.bare (λ b z=>absurd z (by simp))
end
section
variable {P:Program}{w:World}{K:W.Frag}{mg:Str->Option Value}{base:Heap}{N:List Str}{qual:Str}{scope:Scope}{f:Addr}{cd:Value}{A:Around}{outer:List Env}{s:Shared}{H:Hp}{E:XK}
end
end L2
namespace PySem.W
open PySem PySem.Spec PySem.Calls PyProof.Rows
section
variable {M:Model}{A:Around}{E:Value->Shared->Prop}{K:Frag}{x C D:Addr}{b:Bool}{h:Heap}{g:Array GenState}{d:Drawn}{t:Nat}{os:OsState}
set_option tactic.hygienic true in
theorem ex_matches {Q:Bool->Shared->Prop}(X:K.In h) (p:ExAt x C h) (tD:typeIn K (.ref D)=some (.type "type")) (bD:mroIn K D (.type "BaseException")=some true) (cD:(clsIn K D).isSome=true) (e:mroIn K C (.ref D)=some b) (hq:Q b ⟨h,g,d,t,os⟩) :
  wpAny M A (excMatches (.ref x) (.ref D)) Q E ⟨h,g,d,t,os⟩:=by
 have L0:=p.ty M;have L1:=looks_typeIn (M:=M) X tD;have L2:=looks_mroIn (M:=M) X bD;have L3:=looks_mroIn (M:=M) X e
 have L4:Looks M h (isType (.ref D)) true:=by
  unfold clsIn at cD;split at cD
  ·rename_i c' d' cd' sl' ho
   intro A' Q' E' s' k q;unfold isType loadHead;exact lA (wpAny_loadPart (k _ _ (X _ _ ho)) (lB q))
  ·cases cD
 have f:=tc_notTuple;unfold excMatches
 repeat (first|with_reducible refine L0.at ?_|with_reducible refine L1.at ?_|with_reducible refine L4.at ?_|with_reducible refine L2.at ?_|with_reducible refine L3.at ?_|wp_step)
 cases b with
 |true=>repeat (first|exact hq|wp_step)
 |false=>repeat (first|exact hq|wp_step)
end
end PySem.W
namespace L2
open PySem PySem.Spec PyProof.Rows
structure ExC (K:W.Frag) (C:Addr):Prop extends W.ExCls K C where
 ty:W.typeIn K (.ref C)=some (.type "type")
section
variable {P:Program}{w:World}{K:W.Frag}{mg:Str->Option Value}{base:Heap}{N:List Str}{qual:Str}{scope:Scope}{f:Addr}{cd:Value}{A:Around}{outer:List Env}{s:Shared}{H:Hp}{E:XK}
end
noncomputable def exO (ea C:Addr):HO:=.ext (W.ExAt ea C)
theorem zOO {P:Program}{w:World}{H:Hp}{h:Heap}{ea C:Addr}(p:W.ExAt ea C h):ObjOk P w H h ea (exO ea C):=by
 obtain⟨o,vs,e,hc,hd⟩:=p;exact⟨⟨o,vs,e,hc,hd⟩,⟨o,e⟩,λ h1 h2 ⟨o,vs,e,hc,hd⟩ k=>⟨o,vs,k o e,hc,hd⟩⟩
abbrev HR:=Ends->Addr->St->Hp->Prop
abbrev Cx.inX (X:Cx) (ea:Addr):Cx:={ X with A:=X.A.mark (some (.ref ea)),calm:=false,xe:=λ U U=>False }
theorem Cx.Ok.inX {X:Cx}(ok:X.Ok) (ea:Addr):(X.inX ea).Ok :=
 ⟨ok.mod,ok.kind,ok.glob,ok.blt,ok.above,ok.inj,ok.has,ok.cab,λ z=>(by cases z),ok.frames,ok.stk,ok.exf,ok.bs,ok.bsz,ok.noex,ok.exfs,ok.funs,ok.frf⟩
section
variable {X:Cx}{jP:List (Addr × Obj)}{σ:St}{H H':Hp}{s s':Shared}{ea C:Addr}
theorem Inv.inX (I:Inv X jP σ H s) (ea:Addr):Inv (X.inX ea) jP σ H s:=⟨I.ok.inX ea,I.os,I.bare,I.base,I.loc,I.cell,I.free,I.freeC,I.pin,I.hok,I.len⟩
theorem Inv.outX (ok:X.Ok) (I:Inv (X.inX ea) jP σ H s):Inv X jP σ H s:=⟨ok,I.os,I.bare,I.base,I.loc,I.cell,I.free,I.freeC,I.pin,I.hok,I.len⟩
theorem Flew.caught (F:Flew X.prog X.w X.stack H s H' ea C s') (I:Inv X jP σ H s):Inv X jP σ (upd H' ea (exO ea C)) s':=by
 obtain⟨B,a0,hfl,cov⟩:=F.fly;obtain⟨oe,vs,e1,e2,e3,_⟩:=hfl.first;have ne:∀b u,H' b=some u->b≠ea:=λ b u q=>zAT q F.hn;refine I.call' (ch:=[]) F.os ⟨F.un.keep,F.un.slot,λ b o q n hx=>?_,F.un.there,λ b xs q=>?_,λ b o u q=>?_,λ b ps q=>?_⟩ (λ b u q=>?_) F.bare (λ b z=>absurd z (by simp))
 ·rw[zAW (λ z=>by rw[z,F.new] at q;cases q)]
  exact F.un.free b o q n hx
 ·have:=F.un.tups b xs q
  rw[zAW (ne b _ this)];exact this
 ·have:=F.un.frzs b o u q
  rw[zAW (ne b _ this)];exact this
 ·obtain⟨m,this⟩:=F.un.tbls b ps q
  exact⟨m,by rw[zAW (ne b _ this)];exact this⟩
 ·by_cases hb:b=ea
  ·subst hb
   rw[zAB] at q;cases q;exact zOO ⟨oe,vs,e1,e2,e3⟩
  ·rw[zAW hb] at q
   exact(F.hok b u q).stay (λ U U U z=>z) (λ c z=>by rw[zAW (ne c _ z)];exact z) λ c xs z=>by rw[zAW (ne c _ z)];exact z
end
noncomputable def Ends.less (D:Ends) (i:Nat):Ends:={ nx:=λ σ H=>D.nx (σ.set i none) H,rt:=D.rt,bk:=λ σ H=>D.bk (σ.set i none) H,ct:=λ σ H=>D.ct (σ.set i none) H }
section
variable {X:Cx}{x n:Str}{np pos:Pos}{i:Nat}{b0:Stmt}{suite:List Stmt}{rest:List ExceptHandler}{ts:TS}{r:HR}{Da:Addr}
theorem SP.outX {ea:Addr}{jP:List (Addr × Obj)}{D:Ends}{f:Flow}{s:Shared}(ok:X.Ok) (h:SP (X.inX ea) jP D f s):SP X jP D f s:=by
 cases f with
 |next=>obtain⟨σ',H',I,q⟩:=h;exact⟨_,_,Inv.outX ok I,q⟩
 |brk=>obtain⟨σ',H',I,q⟩:=h;exact⟨_,_,Inv.outX ok I,q⟩
 |cont=>obtain⟨σ',H',I,q⟩:=h;exact⟨_,_,Inv.outX ok I,q⟩
 |ret u=>obtain⟨v,σ',H',I,rv,q⟩:=h;exact⟨v,_,_,Inv.outX ok I,rv,q⟩
abbrev Cx.inTry (X:Cx) (hs:List ExceptHandler) (jP:List (Addr × Obj)) (D:Ends):Cx:={ X with pn:=X.pn++jP,xe:=λ e s1=>wpAny (model X.prog X.w) X.A (noteFrame e X.env) (λ U s2=>wpAny (model X.prog X.w) X.A (setFlight e none) (λ U s3=>wpAny (model X.prog X.w) X.A (handleBy e X.env hs) (SP X jP D) X.xe s3) X.xe s2) X.xe s1 }
theorem Cx.Ok.inTry (ok:X.Ok) (hs:List ExceptHandler) (jP:List (Addr × Obj)) (D:Ends):(X.inTry hs jP D).Ok :=
 ⟨ok.mod,ok.kind,ok.glob,ok.blt,ok.above,ok.inj,ok.has,ok.cab,ok.hd,ok.frames,ok.stk,ok.exf,ok.bs,ok.bsz,ok.noex,ok.exfs,ok.funs,ok.frf⟩
theorem Inv.inTry {jP:List (Addr × Obj)}{σ:St}{H:Hp}{s:Shared}(I:Inv X jP σ H s) (hs:List ExceptHandler) (D:Ends):Inv (X.inTry hs jP D) [] σ H s :=
 ⟨I.ok.inTry hs jP D,I.os,I.bare,I.base,I.loc,I.cell,I.free,I.freeC,λ p hp=>I.pin p (by simpa using hp),I.hok,I.len⟩
theorem Inv.outTry {jP pins':List (Addr × Obj)}{hs:List ExceptHandler}{D:Ends}{σ:St}{H:Hp}{s:Shared}(ok:X.Ok) (I:Inv (X.inTry hs jP D) pins' σ H s):Inv X jP σ H s :=
 ⟨ok,I.os,I.bare,I.base,I.loc,I.cell,I.free,I.freeC,λ p hp=>I.pin p (mH _ hp),I.hok,I.len⟩
theorem zNw {h0:ExceptHandler}{hs:List ExceptHandler}{body orelse:List Stmt}{tb:Ends->TS}{to:TS}(hb:∀jP D,PSs (X.inTry (h0::hs) jP D) body (tb D)) (ho:PSs X orelse to) :
  PS X (.Try body (h0::hs) orelse [] pos) (λ D σ H=>tb D { D with nx:=to D } σ H):=by
 intro jP s σ H D I h;refine wpAny_Try_except (wpAny_mono (hb jP D [] s σ H _ (I.inTry (h0::hs) D) h) (λ f s1 q=>?_) λ U U z=>z);cases f with
 |next =>
  obtain⟨σ',H',I',q⟩:=q;exact ho jP s1 σ' H' D (Inv.outTry I.ok I') q
 |brk=>obtain⟨σ',H',I',q⟩:=q;exact⟨σ',H',Inv.outTry I.ok I',q⟩
 |cont=>obtain⟨σ',H',I',q⟩:=q;exact⟨σ',H',Inv.outTry I.ok I',q⟩
 |ret u=>obtain⟨v,σ',H',I',rv,q⟩:=q;exact⟨v,σ',H',Inv.outTry I.ok I',rv,q⟩
end
section
variable {prog:Program}{w:World}{A:Around}{E:Value->Shared->Prop}{s:Shared}
end
section
variable {prog:Program}{w:World}{A:Around}{E:Value->Shared->Prop}{s:Shared}{R:Result->Shared->Prop}
end
section
variable {prog:Program}{w:World}{A:Around}{E:Value->Shared->Prop}{s:Shared}
end
section
variable {prog:Program}{w:World}{A:Around}{E:Value->Shared->Prop}{s:Shared}
end
noncomputable def ov (H N:Hp):Hp:=λ a=>(N a).or (H a)
theorem zOT {K:W.Frag}{C:Addr}{c0:Value}{dd:Option Addr}{cd:ClassData}{sl:Array (Option Value)}(lk:K.lookup C=some ⟨c0,dd,.cls cd,sl⟩):(W.clsIn K C).isSome=true:=by
 unfold W.clsIn;rw[lk];rfl
theorem zN6 {P:Program}{w:World}{K:W.Frag}{mg:Str->Option Value}{base:Heap}{N:List Str}{qual:Str}{scope:Scope}{f:Addr}{cd:Value}{A:Around}{outer:List Env}{s:Shared}{H:Hp}{E:XK}{CX:CXT} :
  PassesOwn (model (cxOf CX P w K mg base N qual scope f cd A outer s H E).prog (cxOf CX P w K mg base N qual scope f cd A outer s H E).w) (cxOf CX P w K mg base N qual scope f cd A outer s H E).A (cxOf CX P w K mg base N qual scope f cd A outer s H E).env (cxOf CX P w K mg base N qual scope f cd A outer s H E).xe:=PassesOwn.leaving
end L2
namespace L2
open PySem PySem.Calls PySem.Spec PyProof.Rows PySem.W
section
variable {X:Cx}{o i e f value:Expr}{pos pos' tpos apos cpos:Pos}{td ty tv tx:TE}
end
end L2
namespace L2
open PySem PySem.Spec PyProof.Rows
end L2
namespace PyProof.Rows
open PySem PySem.Calls
end PyProof.Rows
namespace L2
open PySem PySem.Calls PySem.Spec PyProof.Rows PySem.W
section
variable {X:Cx}
end
section
variable {prog:Program}{w:World}{A:Around}{E:Value->Shared->Prop}{s:Shared}
end
theorem zER (x:Str):Str.empty++x=x:=by
 show (⟨#[]++x.cps⟩:Str)=x;simp
end L2
namespace L2
open PySem PySem.Spec PyProof.Rows
noncomputable def tRevL (K:W.Frag) (te:TE) (tk:TO):TE:=λ σ H Q=>te σ H λ x H1=>tk σ H1 λ k H2=>k=some (-1)/\∃a xs,x = .ref a/\SqL K H2 a xs/\∀p,H2 p=none->Q (.ref p) (upd H2 p (.lst xs.reverse))
theorem zHl {xs:List V}{us:List Value}(h:Vals xs us):Vals xs.reverse us.reverse:=by
 induction h with
 |nil=>exact .nil
 |cons r t ih=>rw[List.reverse_cons,List.reverse_cons];exact ih.append (.cons r .nil)
theorem zMz {X:Cx}{e st:Expr}{te:TE}{tk:TO}{p2 pos:Pos}(he:PE X e te) (hk:PO X (some st) tk):PE X (.Subscript e (.Slice none none (some st) p2) pos) (tRevL X.K te tk):=by
 intro jP s σ H Q I h;refine Subscript_ (thn (he jP s σ H _ I h) λ v s1 ⟨x,H1,I1,r1,q1⟩=>?_);refine wpAny_Slice ?_;rw[evalPart_none];refine lB (lB (thn (hk jP s1 σ H1 _ I1 q1) λ vk s3 ⟨k,H3,I3,pk,q3⟩=>?_));obtain⟨rfl,a,xs,rfl,hx,q⟩:=q3;cases r1;have I4:Inv X jP σ H3 { s3 with heap:=s3.heap.push { cls:=.type "slice", data:=.fields #[.none,.none,vk] } }:=I3.kept (t':=s3.toks) λ b ob q=>lG _ q;obtain⟨its,r,ht,hz⟩:=I4.list hx;have hlen:=r.length;show wpAny (model X.prog X.w) X.A (subscriptTail e (.Slice none none (some st) p2) (.ref a) (.ref s3.heap.objs.size)) (EP X jP σ Q) X.xe { s3 with heap:=s3.heap.push { cls:=.type "slice", data:=.fields #[.none,.none,vk] } };refine tail_any (ops:=[.ref a,.ref s3.heap.objs.size]) ht.isList.typeIs slot_list_getitem.lookup ?_ (by with_unfolding_all rfl);refine wpAny_getItem_list_slice ht.isList (Heap.IsSliceOf.new ..) .none .none pk (by decide) ?_ (by rw[List.size_toArray]<;>omega);rw[W.krv_pick];refine⟨.ref _,_,I4.laid (t':=s3.toks) (o:=.lst xs.reverse) (λ b ob q=>lG _ q) (lS _) ?_,rfl,q _ (I4.hok.fresh (lS _))⟩;exact⟨by rw[List.length_reverse];exact hz,_,0,zHl r,lH _ rfl⟩
section
variable {X:Cx}
end
theorem zG4:bootBuiltins "set" = some (.type "set"):=by rfl
theorem zMd:∀(xs ks:List Str),(xs.foldl ddS ks).length<=ks.length+xs.length
 |[],ks=>lS _
 |x::xs,ks=>by
  rw[List.foldl_cons];have h:=zMd xs (ddS ks x)
  have h2:(ddS ks x).length<=ks.length+1:=by
   unfold ddS;split
   ·omega
   ·simp
  rw[List.length_cons];omega
noncomputable def zK2 (K:W.Frag) (ta:TA):TE:=λ σ H Q=>ta σ H λ vs H1=>∃(a:Addr) (xs:List Str),vs=[.ref a]/\SqL K H1 a (xs.map V.str)/\xs.length<=100/\Q (.int ((dd xs).length:Nat)) H1
theorem zFa {X:Cx}{a:Expr}{ta:TA}{p p2 pos pos2:Pos}(hc:X.calm=true) (hg:Gl X "len") (hm:X.mg "len" = none) (hg2:Gl X "set") (hm2:X.mg "set" = none) (ha:PA X [a] ta) (hs:starEach [a] X.env=[(false,eval a X.env)]:=by rfl)
  (hs3:starEach [Expr.Call (.Name "set" p2) [a] [] pos2] X.env=[(false,eval (Expr.Call (.Name "set" p2) [a] [] pos2) X.env)]:=by rfl) :
  PE X (.Call (.Name "len" p) [.Call (.Name "set" p2) [a] [] pos2] [] pos) (zK2 X.K ta):=by
 intro jP s σ H Q I h;refine wpAny_Call_Name_kw (zCr I hg hm PySem.boot_len (PyProof.Rows.callWith_builtin1 ?_ hs3 rfl));rw[hs3];show wpAny _ _ (spliced [(false,eval (Expr.Call (.Name "set" p2) [a] [] pos2) X.env)]) _ _ s;refine Calls.spliced_cons ?_;refine Call_ (zCr I hg2 hm2 zG4 (PyProof.Rows.callWith_type1 (thn (ha pos2 jP s σ H _ I h) λ us s1 ⟨vs,H1,I1,r1,q1⟩=>?_) hs rfl));obtain⟨l,xs,e,h1,hx,q⟩:=q1;subst e;obtain⟨u,rfl,ru⟩:=vals1 r1;cases ru;obtain⟨its,rv,t1,_⟩:=I1.list h1;have hv:StrsAre its xs:=zGW rv;have hL:s1.heap.IsList l its.toArray:=let ⟨o,n,ho,hc,_,r⟩:=t1;⟨o,ho,hc,n,r⟩;refine zG0 (vs:=its.toArray) (xs:=xs) (I1.ok.hd hc) hL (by simpa using hv) hx λ h2 es ep t tk' hd ht he hz kp=>?_;refine Calls.spliced_nil ?_;have I2:Inv X jP σ H1 { s1 with heap:=h2,toks:=tk' }:=I1.kept (t':=tk') kp;have ess:es.size=(dd xs).length:=by have:=he.pm.length_eq;simpa using this
 refine PySem.call_len_set (s:={ s1 with heap:=h2,toks:=tk' }) hd ⟨rfl,rfl,rfl⟩ rfl ht.ft (by omega) ?_;exact⟨.int ((dd xs).length:Nat),H1,I2.tok _,⟨_,by rw[ess]⟩,q⟩
end L2
namespace L2
open PySem
noncomputable def loudV:List V:=[.str "say", .str "ask", .str "stop"]
noncomputable def Kd.loud:Kd->Bool
 |.say=>true
 |.ask=>true
 |.stop=>true
 |_=>false
theorem zKM (k:Kd):inV (.str k.s) loudV=k.loud:=by cases k<;>decide +kernel
noncomputable def zHC (K:W.Frag) (lv:Addr):Prop:=∃(o:Obj) (its:Array Value) (n:Nat),K.lookup lv=some o/\o.cls = .type "tuple" /\ o.data = .seq its n/\its.size<=sizeLine/\Vals loudV its.toList
noncomputable def loudT (t:Tr):Prop:=∃p∈t.subs,p.kd.loud=true
theorem zCw:∀t:Tr,t.subs.length=t.size:=by
 intro t
 induction t<;>simp_all [Tr.subs,Tr.size]<;>omega
theorem zL7 {F:List Tr}{t:Tr}(h:∀p,p∈F↔p∈t.subs):(F.map λ p=>p.kd.loud).any id=true↔loudT t:=by
 rw[List.any_eq_true];constructor
 ·rintro⟨b,hb,e⟩
  obtain⟨p,hp,rfl⟩:=mE.mp hb;exact⟨p,(h p).mp hp,e⟩
 ·rintro⟨p,hp,e⟩
  exact⟨_,mE.mpr ⟨p,(h p).mpr hp,rfl⟩,e⟩
theorem dd_lt:∀(xs ks:List Str),ks.Nodup->((xs.foldl ddS ks).length<ks.length+xs.length↔¬(ks++xs).Nodup)
 |[],ks,h=>by simp[h]
 |x::xs,ks,h=>by
  rw[List.foldl_cons]
  by_cases hx:x∈ks
  ·rw[ddS,if_pos hx]
   have:=zMd xs ks;refine⟨λ U z=>(List.nodup_append.mp z).2.2 x hx x lQ rfl,λ U=>?_⟩;rw[List.length_cons];omega
  ·rw[ddS,if_neg hx]
   have nd:(ks++[x]).Nodup:=by
    rw[List.nodup_append];refine⟨h,by simp,λ a ha b hb e=>hx ?_⟩;rw[List.mem_singleton.mp hb] at e;exact e▸ha
   have:=dd_lt xs (ks++[x]) nd;rw[List.length_append,List.append_assoc] at this;rw[List.length_cons,show ks.length+(xs.length+1)=ks.length + [x].length+xs.length by simp;omega];exact this
theorem zCl (xs:List Str):(dd xs).length<xs.length↔¬xs.Nodup:=by
 have:=dd_lt xs [] List.nodup_nil;simpa[dd] using this
noncomputable def letX:Tr->Option Str
 |.lett x _ _=>some x
 |_=>none
noncomputable def letN (t:Tr):List Str:=t.subs.filterMap letX
theorem zOJ (k:Kd):k.s=Str.ofString "let" ↔ k = .lett:=by cases k<;>decide +kernel
theorem zIM (t:Tr):t.kd.s=Str.ofString "let" ↔ (letX t).isSome=true:=by
 rw[zOJ];cases t with
 |bin o a b=>cases o<;>exact⟨(λ h=>by cases h),(λ h=>by cases h)⟩
 |lett x a b=>exact⟨λ U=>rfl,λ U=>rfl⟩
 |_=>exact⟨(λ h=>by cases h),(λ h=>by cases h)⟩
end L2
namespace L2
open PySem PySem.Spec PyProof.Rows
section
variable {X:Cx}{o e:Expr}{es:List Expr}{te to:TE}{t:TA}{name x:Str}{apos cpos pos p:Pos}{T id:String}
theorem zLE (he:Sd (PE X e te)) (hs:swapsWith e none pos.line X.env=pure false:=by rfl):Sd (PS X (.Expr e pos) (tDrop te)):=⟨zAt he.un hs⟩
end
instance instDecDt:DecidableEq Dt:=λ a b=>decidable_of_iff (Dt.beq a b=true) Dt.beq_iff
noncomputable def lookB (x:Str):List Str->Option Nat
 |[]=>none
 |y::r=>if y=x then some 0 else (lookB x r).map (· + 1)
noncomputable def keyB (x:Str) (rs:List Str):Nat ⊕ Str:=match lookB x rs with
 |some k=>.inl k
 |none=>.inr x
noncomputable def keyD:Nat ⊕ Str->Dt
 |.inl k=>.tup [.str "bound", .int k]
 |.inr z=>.tup [.str "free", .str z]
noncomputable def bareN (x:Str) (bs:List Str):Dt:=keyD (keyB x bs.reverse)
noncomputable def sn (x y:Str):List (Str × Str)->Bool
 |[]=>decide (x=y)
 |p::r=>if p.1=x\/p.2=y then decide (p.1=x/\p.2=y) else sn x y r
inductive Lf where
 |name (x:Str)|num (n:Int)|gap (g:Str)|ask (x:Str)|stop (x:Str)
noncomputable def dtL:Lf->List Dt
 |.name x=>[.str "name", .str x]|.num n=>[.str "num", .int n]|.gap g=>[.str "gap", .str g,.tup []]|.ask x=>[.str "ask", .str x]|.stop x=>[.str "stop", .str x]
noncomputable def bareL (l:Lf) (bs:List Str):Dt:=match l with
 |.name x=>bareN x bs
 |l=>.tup (dtL l)
noncomputable def Atom.lf:Atom->Lf
 |.name x=>.name x|.num n=>.num n|.gap g=>.gap g
noncomputable def bareA (bs:List Str) (a:Atom):Dt:=bareL a.lf bs
noncomputable def bare:Tr->List Str->Dt
 |.num n,_=>.tup [.str "num", .int n]
 |.name x,bs=>bareN x bs
 |.ask x,_=>.tup [.str "ask", .str x]
 |.stop x,_=>.tup [.str "stop", .str x]
 |.gap g as,bs=>.tup [.str "gap", .str g,.tup (as.map (bareA bs))]
 |.say a,bs=>.tup [.str "say", bare a bs]
 |.bin o a b,bs=>.tup [.str o.s,bare a bs,bare b bs]
 |.ite a b c,bs=>.tup [.str "if", bare a bs,bare b bs,bare c bs]
 |.lett x a b,bs=>.tup [.str "let", bare a bs,bare b (bs++[x])]
noncomputable def Tr.fv:Tr->List Str->List Str
 |.say a,bs=>a.fv bs
 |.bin _ a b,bs=>a.fv bs++b.fv bs
 |.ite a b c,bs=>a.fv bs++(b.fv bs++c.fv bs)
 |.lett x a b,bs=>a.fv bs++b.fv (bs++[x])
 |t,bs=>t.names.filter λ x=>decide (x∉bs)
noncomputable def bIn (t:Tr) (i:Int) (bs:List Str):List Str:=match t with
 |.lett x _ _=>if i=1 then bs++[x] else bs
 |_=>bs
noncomputable def kids:Tr->List Str->List (Tr × List Str)
 |.say a,bs=>[(a,bs)]
 |.bin _ a b,bs=>[(a,bs),(b,bs)]
 |.ite a b c,bs=>[(a,bs),(b,bs),(c,bs)]
 |.lett x a b,bs=>[(a,bs),(b,bs++[x])]
 |_,_=>[]
theorem zLl (t:Tr) (bs:List Str):(kids t bs).length=t.parts.length:=by cases t<;>rfl
theorem zLm (t:Tr) (bs:List Str) (i:Nat) (c:Tr) (h:t.parts[i]?=some c):(kids t bs)[i]?=some (c,bIn t i bs):=by
 cases t with
 |say a=>match i,h with
  |0,h=>cases h;rfl
 |bin o a b=>match i,h with
  |0,h=>cases h;rfl
  |1,h=>cases h;rfl
 |ite a b c=>match i,h with
  |0,h=>cases h;rfl
  |1,h=>cases h;rfl
  |2,h=>cases h;rfl
 |lett x a b=>match i,h with
  |0,h=>cases h;rfl
  |1,h=>cases h;rfl
 |_=>simp[Tr.parts] at h
theorem zE3 (t:Tr) (bs:List Str) (x:Str):x∈t.fv bs↔(x∈t.names/\x∉bs)\/∃q∈kids t bs,x∈q.1.fv q.2:=by
 cases t<;>simp[Tr.fv,kids,Tr.names,List.mem_filter]
noncomputable def total (l:List (Tr × List Str)):Nat:=(l.map λ q=>q.1.size).sum
theorem zCt (a b:List (Tr × List Str)):total (a++b)=total a+total b:=by simp[total]
theorem zD5 (a:Tr × List Str) (b:List (Tr × List Str)):total (a::b)=a.1.size+total b:=by simp[total]
theorem zJD:total []=0:=rfl
theorem zH7 (t:Tr):1<=t.size:=by cases t<;>simp[Tr.size]
theorem zE1:∀l:List (Tr × List Str),l.length<=total l
 |[]=>lS _
 |a::r=>by rw[zD5,List.length_cons];have:=zE1 r;have:=zH7 a.1;omega
theorem zFg (t:Tr) (bs:List Str):total (kids t bs)+1=t.size:=by cases t<;>simp[kids,total,Tr.size]<;>omega
theorem zKD (t:Tr) (bs:List Str) (m:Nat) (h:bs.length+t.size<=m):∀q∈kids t bs,q.2.length+q.1.size<=m:=by
 cases t<;>simp[kids,Tr.size] at h ⊢<;>omega
noncomputable def kvOf (ks:List Str):List (Key × V):=ks.map λ x=>(Sum.inr x,V.bl true)
noncomputable def addK (ks:List Str) (x:Str):List Str:=if x∈ks then ks else ks++[x]
theorem zLD (ks:List Str) (x:Str):putK (kvOf ks) (Sum.inr x) (.bl true)=kvOf (addK ks x):=by
 unfold putK addK
 have e:((kvOf ks).any λ kv=>decide (kv.1=Sum.inr x))=decide (x∈ks):=by
  rw[Bool.eq_iff_iff,List.any_eq_true,decide_eq_true_iff];constructor
  ·rintro⟨p,hp,h⟩
   obtain⟨y,hy,rfl⟩:=mE.mp hp;have:(Sum.inr y:Key)=Sum.inr x:=lU h;cases this;exact hy
  ·intro h
   exact⟨_,mE.mpr ⟨x,h,rfl⟩,lV rfl⟩
 rw[e]
 by_cases h:x∈ks
 ·rw[if_pos (decide_eq_true h),if_pos h]
  unfold kvOf;rw[List.map_map];refine List.map_congr_left λ y U=>?_;show (if (Sum.inr y:Key)=Sum.inr x then ((Sum.inr y:Key),V.bl true) else (Sum.inr y,V.bl true))=(Sum.inr y,V.bl true);split<;>rfl
 ·rw[if_neg (by simpa using h),if_neg h]
  simp[kvOf]
set_option tactic.hygienic true in
theorem zI7 {ks:List Str}{x:Str}(h:ks.Nodup):(addK ks x).Nodup:=by
 unfold addK;split
 ·exact h
 ·rename_i n
  rw[List.nodup_append];refine⟨h,by simp,λ a ha b hb e=>?_⟩;rw[List.mem_singleton.mp hb] at e;exact n (e▸ha)
set_option tactic.hygienic true in
theorem zLh {ks:List Str}{x y:Str}:y∈addK ks x↔y∈ks\/y=x:=by
 unfold addK;split
 ·rename_i h
  constructor
  ·exact .inl
  ·rintro (z|z)
   ·exact z
   ·rw[z];exact h
 ·simp
theorem zEw:∀{ks ws:List Str},ks.Nodup->(∀x∈ks,x∈ws)->ks.length<=ws.length
 |[],_,_,_=>lZ _
 |k::ks,ws,hn,h=>by
  have hk:=h k lQ
  have h':∀x∈ks,x∈ws.erase k:=λ x hx=>by
   have ne:x≠k:=λ e=>(List.nodup_cons.mp hn).1 (e▸hx);exact(List.mem_erase_of_ne ne).mpr (h x (lR _ hx))
  have ih:=zEw (List.nodup_cons.mp hn).2 h';rw[List.length_erase_of_mem hk] at ih;have:0<ws.length:=List.length_pos_of_mem hk;rw[List.length_cons];omega
abbrev Told:=Str->Option Atom
noncomputable def Atom.tr:Atom->Tr
 |.name x=>.name x|.num n=>.num n|.gap g=>.gap g []
theorem zCs:∀(t:Tr) (bs:List Str) (x:Str),x∈t.fv bs↔x∈t.fv []/\x∉bs
 |.say a,bs,x=>zCs a bs x
 |.bin _ a b,bs,x=>by simp only[Tr.fv,List.mem_append];rw[zCs a bs,zCs b bs];exact or_and_right.symm
 |.ite a b c,bs,x=>by simp only[Tr.fv,List.mem_append];rw[zCs a bs,zCs b bs,zCs c bs];constructor<;>(intro h;simp only[or_and_right] at *;exact h)
 |.lett n a b,bs,x=>by
  simp only[Tr.fv,List.mem_append,List.nil_append];rw[zCs a bs,zCs b (bs++[n]),zCs b [n],lK];constructor
  ·rintro (⟨h,h'⟩|⟨h,h'⟩)
   ·exact⟨.inl h,h'⟩
   ·exact⟨.inr ⟨h,λ z=>h' (.inr z)⟩,λ z=>h' (.inl z)⟩
  ·rintro⟨h|⟨h,h'⟩,h2⟩
   ·exact .inl ⟨h,h2⟩
   ·exact .inr ⟨h,λ z=>z.elim h2 h'⟩
 |.num _,bs,x=>by simp[Tr.fv,Tr.names]
 |.name _,bs,x=>by simp[Tr.fv,Tr.names]
 |.ask _,bs,x=>by simp[Tr.fv,Tr.names]
 |.stop _,bs,x=>by simp[Tr.fv,Tr.names]
 |.gap _ _,bs,x=>by simp[Tr.fv,Tr.names]
structure Itm where
 t:Tr
 τ:Told
 bs:List Str
 cs:List Str
noncomputable def caught (τ:Told) (n:Str) (b:Tr):Prop:=∃x,x≠n/\τ x=some (.name n)/\x∈b.fv []
section
variable (G:Str->Prop)
noncomputable def Atom.good:Atom->Prop
 |.name x=>G x|.num _=>True|.gap g=>G g
noncomputable def Tr.good:Tr->Prop
 |.num _=>True|.name x=>G x|.ask x=>G x|.stop x=>G x
 |.gap g as=>G g/\as.length<=1000/\∀a∈as,a.good G
 |.say a=>a.good
 |.bin _ a b=>a.good/\b.good
 |.ite a b c=>a.good/\b.good/\c.good
 |.lett x a b=>G x/\a.good/\b.good
end
noncomputable def Tr.dp:Tr->Nat
 |.say a=>a.dp+1|.bin _ a b=>max a.dp b.dp+1|.ite a b c=>max a.dp (max b.dp c.dp)+1|.lett _ a b=>max a.dp b.dp+1
 |_=>2
noncomputable def tot (l:List Itm):Nat:=(l.map λ q=>q.t.size).sum
end L2
namespace L2
open PySem
noncomputable def zEK (H:Hp) (p:Tr × List Str) (v:V):Prop:=∃a u b,v = .ref a/\H a=some (.tup [u,.ref b])/\Rep H p.1 u/\H b=some (.tup (p.2.map V.str))
theorem zEK.mono {H H':Hp}(k:Tk H H') {p:Tr × List Str}{v:V}:zEK H p v->zEK H' p v
 |⟨a,u,b,e,h,r,z⟩=>⟨a,u,b,e,k _ _ h,r.mono k,k _ _ z⟩
theorem zLo (x:Str) (bs:List Str):inV (.str x) (bs.map V.str)=decide (x∈bs):=by
 unfold inV;rw[Bool.eq_iff_iff,List.any_eq_true,decide_eq_true_iff];constructor
 ·rintro⟨v,hv,h⟩
  obtain⟨y,hy,rfl⟩:=mE.mp hv;rw[zKY] at h;exact h▸hy
 ·intro h
  exact⟨_,mE.mpr ⟨x,h,rfl⟩,(zKY _ _).mpr rfl⟩
theorem zNP (bs:List Str):(bs.map V.str).all flatV=true:=zFA bs
theorem zIN (l:List (Tr × List Str)):total (l.flatMap λ q=>kids q.1 q.2)+l.length=total l:=by
 induction l with
 |nil=>rfl
 |cons a r ih =>
  rw[List.flatMap_cons,zCt,zD5,List.length_cons];have:=zFg a.1 a.2;omega
theorem zIe (l:List (Tr × List Str)) (i:Nat):total (l.take i)<=total l:=by
 have:=congrArg total (List.take_append_drop i l);rw[zCt] at this;omega
noncomputable def rLen (K:W.Frag):List V->Hp->VK->Prop:=λ xs H Q=>∃p ys,xs=[.ref p]/\(SqL K H p ys\/SqT K H p ys)/\Q (.int ys.length) H
theorem zKq {X:Cx}:CallR X (.builtin "len") (rLen X.K):=zAa
noncomputable def agap:Atom->List Str
 |.gap h=>[h]
 |_=>[]
noncomputable def cnt1:Tr->List (Str × Nat)
 |.gap g as=>(g,as.length)::as.flatMap λ a=>(agap a).map λ h=>(h,0)
 |_=>[]
theorem zGL {t:Tr}(h:¬t.kd = .gap):cnt1 t=[]:=by
 cases t with
 |gap x as=>exact absurd rfl h
 |_=>rfl
noncomputable def gcnt (t:Tr):List (Str × Nat):=t.subs.flatMap cnt1
noncomputable def isGap (t:Tr):Bool:=decide (t.kd = .gap)
theorem zKO (t:Tr):(t.subs.filter isGap).flatMap cnt1=gcnt t:=by
 unfold gcnt
 induction t.subs with
 |nil=>rfl
 |cons a L ih =>
  by_cases h:a.kd = .gap
  ·rw[List.filter_cons_of_pos (by exact decide_eq_true h),List.flatMap_cons,List.flatMap_cons,ih]
  ·rw[List.filter_cons_of_neg (by exact λ z=>h (of_decide_eq_true z)),List.flatMap_cons,zGL h,ih,List.nil_append]
noncomputable def zAp (L:List (Str × Nat)) (g:Str):Option Nat:=(L.find? λ x=>decide (x.1=g)).map (·.2)
theorem zFi (L M:List (Str × Nat)) (g:Str):zAp (L++M) g=(zAp L g).or (zAp M g):=by
 unfold zAp;rw[List.find?_append];cases L.find? λ x=>decide (x.1=g)<;>rfl
structure Fd1 (L:List (Str × Nat)) (kvs:List (Key × V)):Prop where
 vl:∀g,valV kvs (Sum.inr g:Key)=(zAp L g).map λ n=>V.int ((n:Nat):Int)
 ky:∀p∈kvs,∃g∈L.map (·.1),p.1=(Sum.inr g:Key)
 nd:(kvs.map (·.1)).Nodup
theorem zHf {kvs:List (Key × V)}{k:Key}{v:V}{p:Key × V}(h:p∈putK kvs k v):p=(k,v)\/p∈kvs:=by
 unfold putK at h;split at h
 ·obtain⟨q,hq,e⟩:=mE.mp h
  by_cases z:q.1=k
  ·rw[if_pos z,z] at e
   exact .inl e.symm
  ·rw[if_neg z] at e
   exact .inr (e▸hq)
 ·rcases lK.mp h with h|h
  ·exact .inr h
  ·exact .inl (List.mem_singleton.mp h)
set_option tactic.hygienic true in
theorem zJ2 {kvs:List (Key × V)}(k:Key) (v:V) (nd:(kvs.map (·.1)).Nodup):((putK kvs k v).map (·.1)).Nodup:=by
 unfold putK;split
 ·have e:(kvs.map λ kv=>if kv.1=k then (kv.1,v) else kv).map (·.1)=kvs.map (·.1):=by
   rw[List.map_map];refine List.map_congr_left λ q U=>?_;show (if q.1=k then (q.1,v) else q).1=q.1;split<;>rfl
  rw[e];exact nd
 ·rename_i h
  rw[List.map_append,List.nodup_append];refine⟨nd,by simp,λ a ha b hb e=>h ?_⟩;obtain⟨q,hq,rfl⟩:=mE.mp ha;simp at hb;rw[List.any_eq_true];exact⟨q,hq,lV (e.trans hb)⟩
theorem Fd1.nil:Fd1 [] []:=⟨λ g=>rfl,(λ p h=>nomatch h),List.nodup_nil⟩
theorem Fd1.put {L:List (Str × Nat)}{kvs:List (Key × V)}(h:Fd1 L kvs) {x:Str}{n:Nat}(e:valV kvs (Sum.inr x:Key)=none):Fd1 (L++[(x,n)]) (putK kvs (Sum.inr x:Key) (.int ((n:Nat):Int))):=by
 have e0:zAp L x=none:=by
  have:=h.vl x;rw[e] at this;cases h2:zAp L x with
  |none=>rfl
  |some m=>rw[h2] at this;cases this
 refine⟨λ g=>?_,λ p hp=>?_,zJ2 _ _ h.nd⟩
 ·rw[zDB,zFi]
  by_cases z:g=x
  ·subst z
   rw[if_pos rfl,e0];simp[zAp]
  ·have z':¬(Sum.inr g:Key)=Sum.inr x:=λ w=>z (Sum.inr.inj w)
   rw[if_neg z',h.vl g];have:zAp [(x,n)] g=none:=by simp[zAp];exact λ w=>z (Eq.symm w)
   rw[this];cases zAp L g<;>rfl
 ·rcases zHf hp with z|z
  ·exact⟨x,by simp,by rw[z]⟩
  ·obtain⟨g,hg,e⟩:=h.ky p z
   exact⟨g,by rw[List.map_append];exact mH _ hg,e⟩
theorem Fd1.same {L:List (Str × Nat)}{kvs:List (Key × V)}(h:Fd1 L kvs) {x:Str}{n:Nat}{z:V}(e:valV kvs (Sum.inr x:Key)=some z):Fd1 (L++[(x,n)]) kvs:=by
 obtain⟨m,e0⟩:∃m,zAp L x=some m:=by
  have:=h.vl x;rw[e] at this;cases h2:zAp L x with
  |none=>rw[h2] at this;cases this
  |some m=>exact⟨m,rfl⟩
 refine⟨λ g=>?_,λ p hp=>?_,h.nd⟩
 ·rw[h.vl g,zFi]
  by_cases z:g=x
  ·subst z
   rw[e0];rfl
  ·have:zAp [(x,n)] g=none:=by simp[zAp];exact λ w=>z (Eq.symm w)
   rw[this];cases zAp L g<;>rfl
 ·obtain⟨g,hg,e⟩:=h.ky p hp
  exact⟨g,by rw[List.map_append];exact mH _ hg,e⟩
noncomputable def WN (H:Hp) (x:Str × Nat) (v:V):Prop:=∃b,v = .ref b/\H b=some (.tup [.str x.1,.int ((x.2:Nat):Int)])
theorem WN.mono {H H':Hp}(k:Tk H H') {x:Str × Nat}{v:V}:WN H x v->WN H' x v
 |⟨b,e,h⟩=>⟨b,e,k _ _ h⟩
theorem AtRep.all {H:Hp}:∀{a:Atom}{v:V},AtRep H a v->∃(b:Addr) (r:List V),v = .ref b/\((∃h,a = .gap h/\H b=some (.tup (.str "gap" :: .str h::r)))\/(agap a=[]/\∃k:Str,k ≠ "gap" /\ H b=some (.tup (.str k::r))))
 |.name x,_,⟨b,e,h⟩=>⟨b,_,e,.inr ⟨rfl, "name", by decide +kernel,h⟩⟩
 |.num x,_,⟨b,e,h⟩=>⟨b,_,e,.inr ⟨rfl, "num", by decide +kernel,h⟩⟩
 |.gap x,_,⟨b,c,e,h,_⟩=>⟨b,_,e,.inl ⟨x,rfl,h⟩⟩
theorem zBY {L:List (Str × Nat)}{g:Str}:(zAp L g).isSome=true↔g∈L.map (·.1):=by
 unfold zAp;rw[Option.isSome_map,List.find?_isSome];constructor
 ·rintro⟨x,hx,e⟩
  exact mE.mpr ⟨x,hx,lU e⟩
 ·intro h
  obtain⟨x,hx,e⟩:=mE.mp h;exact⟨x,hx,lV e⟩
theorem Fd1.has {L:List (Str × Nat)}{kvs:List (Key × V)}(h:Fd1 L kvs) {g:Str}:(∃p∈kvs,p.1=(Sum.inr g:Key))↔g∈L.map (·.1):=by
 constructor
 ·rintro⟨p,hp,e⟩
  obtain⟨g',hg,e'⟩:=h.ky p hp;rw[e] at e';rw[Sum.inr.inj e'];exact hg
 ·intro hg
  have h1:=zBY.mpr hg;have h2:=h.vl g;obtain⟨n,en⟩:=Option.isSome_iff_exists.mp h1;rw[en] at h2;obtain⟨p,hp,ep⟩:=lW.mp (show (kvs.find? λ kv=>decide (kv.1=(Sum.inr g:Key))).map (·.2)=_ from h2);have hk:=List.find?_some hp;have hq:p.1=(Sum.inr g:Key):=lU hk;exact⟨p,List.mem_of_find?_eq_some hp,hq⟩
theorem Fd1.isS {L:List (Str × Nat)}{kvs:List (Key × V)}(h:Fd1 L kvs) (g:Str):(valV kvs (Sum.inr g:Key)).isSome=decide (g∈L.map (·.1)):=by
 rw[h.vl g,Option.isSome_map,Bool.eq_iff_iff,decide_eq_true_iff];exact zBY
theorem zC6 {n:Nat}(h:n<=100000):n<sizeLine:=by rw[sizeLine_eq];omega
theorem zEZ {α:Type}{bs:List Bool}{b:Bool}{P:α->Prop}{C:List α}{x:α}{i:Nat}(e:C[i]?=some x) (hb:bs.any id=true↔∃y∈C.take i,P y) (h:b=true↔P x):(bs++[b]).any id=true↔∃y∈C.take (i+1),P y:=by
 rw[List.any_append,Bool.or_eq_true,hb,zAM e];constructor
 ·rintro (⟨y,hy,z⟩|z)
  ·exact⟨y,mH _ hy,z⟩
  ·exact⟨x,mC _ lQ,h.mp (by simpa using z)⟩
 ·rintro⟨y,hy,z⟩
  rcases lK.mp hy with w|w
  ·exact .inl ⟨y,w,z⟩
  ·rw[List.mem_singleton.mp w] at z
   exact .inr (by simpa using h.mpr z)
noncomputable def zHB (L C:List (Str × Nat)):Prop:=∃x∈C,∃n,zAp L x.1=some n/\n≠x.2
noncomputable def RpK (H:Hp) (k:Str × Str) (v:V):Prop:=∃p,v = .ref p/\H p=some (.tup [.str k.1,.str k.2])
noncomputable def RpKs (H:Hp) (ks:List (Str × Str)) (v:V):Prop:=∃(p:Addr) (o:Obj) (us:List V),v = .ref p/\H p=some (.frz o (.tup us))/\o.dict=none/\Paired (RpK H) ks us
theorem RpK.mono {H H':Hp}{k:Str × Str}{v:V}(h:RpK H k v) (t:Tk H H'):RpK H' k v:=let ⟨p,e,x⟩:=h;⟨p,e,t _ _ x⟩
theorem RpKs.mono {H H':Hp}{k:List (Str × Str)}{v:V}(h:RpKs H k v) (g:Same H H'):RpKs H' k v:=let ⟨p,o,us,e,x,d,y⟩:=h;⟨p,o,us,e,g _ _ x,d,Paired.mapP y λ U U z=>z.mono g.tk⟩
noncomputable def badK (L:List (Str × Nat)) (k:Str × Str):Prop:=zAp L k.1=none\/(k.2=Str.ofString "number" /\ ∃n,zAp L k.1=some n/\0<n)
noncomputable def kdV (kds:List (Str × Str)):List (Key × V):=kds.map λ p=>((Sum.inr p.1:Key),V.str p.2)
theorem zOI:∀{kds:List (Str × Str)},(kds.map (·.1)).Nodup->∀(g:Str) (v:V),valV (kdV kds).reverse (Sum.inr g:Key)=some v↔∃k,v = .str k/\(g,k)∈kds:=by
 intro kds nd g v
 have mem:∀p:Key × V,p∈(kdV kds).reverse↔∃q∈kds,p=((Sum.inr q.1:Key),V.str q.2):=λ p=>by
  rw[List.mem_reverse];unfold kdV;rw[List.mem_map];exact⟨λ⟨q,h,e⟩=>⟨q,h,e.symm⟩,λ⟨q,h,e⟩=>⟨q,h,e.symm⟩⟩
 unfold valV;rw[Option.map_eq_some_iff];constructor
 ·rintro⟨p,hp,rfl⟩
  have h1:=List.mem_of_find?_eq_some hp;have h2:=List.find?_some hp;obtain⟨q,hq,rfl⟩:=(mem p).mp h1;have e:q.1=g:=Sum.inr.inj (lU h2);exact⟨q.2,rfl,by rw[←e];exact hq⟩
 ·rintro⟨k,rfl,hk⟩
  cases e:(kdV kds).reverse.find? λ kv=>decide (kv.1=(Sum.inr g:Key)) with
  |none =>
   have:=List.find?_eq_none.mp e _ ((mem _).mpr ⟨(g,k),hk,rfl⟩);simp at this
  |some p =>
   refine⟨p,rfl,?_⟩;have h1:=List.mem_of_find?_eq_some e;have h2:=List.find?_some e;obtain⟨q,hq,rfl⟩:=(mem p).mp h1;have e1:q.1=g:=Sum.inr.inj (lU h2)
   have e2:q=(g,k):=by
    obtain⟨i,hi⟩:=List.getElem?_of_mem hq;obtain⟨j,hj⟩:=List.getElem?_of_mem hk;have hi':(kds.map (·.1))[i]?=some g:=by rw[List.getElem?_map,hi,←e1];rfl
    have hj':(kds.map (·.1))[j]?=some g:=by rw[List.getElem?_map,hj];rfl
    have:i=j:=zEW nd hi' hj';subst this;exact mG (hi.symm.trans hj)
   rw[e2]
theorem zMS {kds:List (Str × Str)}(nd:(kds.map (·.1)).Nodup) (g:Str):∃z:V,(valV (zAf [] (kdV kds)) (Sum.inr g:Key)).getD .non=z/\scal z (.str "number")=true/\(z = .str "number" ↔ (g,("number" : Str))∈kds):=by
 rw[zFQ];have K:=zOI nd g;cases e:valV (kdV kds).reverse (Sum.inr g:Key) with
 |none =>
  refine⟨.non,rfl,rfl,(λ z=>nomatch z),λ z=>?_⟩
  have:=(K (.str "number")).mpr ⟨_,rfl,z⟩;rw[e] at this;cases this
 |some v =>
  obtain⟨k,rfl,hk⟩:=(K v).mp e;refine⟨.str k,rfl,rfl,λ z=>?_,λ z=>?_⟩
  ·rw[←V.str.inj z];exact hk
  ·have:=(K (.str "number")).mpr ⟨_,rfl,z⟩
   rw[e] at this;exact mG this
theorem zMQ {H:Hp}{ks:List (Str × Str)}{us:List V}(h:Paired (RpK H) ks us):Paired (PrV H) us (kdV ks):=by
 induction h with
 |nil=>exact .nil
 |cons r t ih=>obtain⟨p,e,h⟩:=r;exact .cons ⟨p,e,h⟩ ih
noncomputable def badA (ks:List (Str × Str)) (a:Atom):Prop:=∃h,a = .gap h/\(h,("number" : Str))∉ks
noncomputable def badP (ks:List (Str × Str)) (t:Tr):Prop:=∃g as,t = .gap g as/\∃a∈as,badA ks a
end L2
namespace L2
open PySem PySem.Spec PyProof.Rows PySem.W
section
variable {prog:Program}{w:World}{A:Around}{E:Value->Shared->Prop}{s:Shared}
theorem zOL:∀(n:Nat) {d:Dt}{u:Value}{Q:Bool->Shared->Prop},DA s.heap d u->(∀b,Q b s)->wpAny (model prog w) A (hashByValue n u) Q E s:=by
 intro n
 induction n with
 |zero =>
  intro d u Q hd h;cases hd<;>(unfold hashByValue;exact lB (h _))
 |succ n ih =>
  intro d u Q hd h;cases hd with
  |int i t=>unfold hashByValue;exact lB (h _)
  |str x t=>unfold hashByValue;exact lB (h _)
  | @tup a items ds ha hi =>
   obtain⟨o,ho,hc,m,hd⟩:=ha;have hT:s.TypeIs (.ref a) "tuple" := ⟨o,ho,hc⟩;unfold hashByValue;refine lA (wpAny_specialOf hT F.slot_tuple_hash.lookup ?_);dsimp only;refine lA (wpAny_seqItems ho hd ?_);refine lA ?_;show wpAny _ _ (forIn items _ _) _ _ s;rw[←Array.forIn_toList];refine wpAny_forIn_list _ (λ rest r s'=>r.1=none/\s'=s/\∃ds',DAs s.heap ds' rest) _ ?_ ?_ _ _ ⟨rfl,rfl,ds,hi⟩
   ·rintro v rest r s' ⟨hr,rfl,ds',hall⟩
    cases hall with
    | @cons k _ ks' _ h1 hl' =>
     refine lA (ih h1 λ b=>?_);cases b
     ·simp only[Bool.not_false,if_true]
      exact lB (lB (h _))
     ·simp only[Bool.not_true,Bool.false_eq_true,if_false]
      exact lB ⟨rfl,rfl,ks',hl'⟩
   ·rintro⟨r1,r2⟩ s' ⟨hr,rfl,_⟩
    simp only at hr;subst hr;exact lB (h _)
theorem zK7 (b:Bool) (j:Nat):(SetTable.fresh 0 0 b).slot j = .empty:=by
 unfold SetTable.slot;have h:SetTable.has #[] j=false:=by unfold SetTable.has;simp
 simp only[SetTable.fresh,h];rfl
set_option tactic.hygienic true in
theorem zHI {d x:Addr}{key:Dt}{h0:Int}{b:Bool}{Q:Bool->Shared->Prop}(hd:s.heap.get? d=some (zBd #[] 0 (SetTable.fresh 0 0 b))) (hk:DA s.heap key (.ref x))
  (h1:∀h' es' t',es'.size=1->SetN h' d es' 1 t'->t'.fits 1=true->Heap.SameBut d s.heap h'->Q true { s with heap:=h' }):wpAny (model prog w) A (setAddHashed d (.ref x) h0) Q E s:=by
 have hf:=zCD b;unfold setAddHashed;refine lE ?_;rw[setAddHashedIn.eq_def];dsimp only;refine lA (wpAny_setState_of hd rfl hf ?_);dsimp only;refine lD (by unfold byScan;simp[Value.scannable]) ?_;refine lA ?_;unfold setSearch;rw[setSearchFrom];refine lA (wpAny_setState_of hd rfl hf ?_);dsimp only;refine lD (by cases b<;>rfl) ?_
 have c2:∀(f:Nat->Int) (q:SetTable.Probe),SetTable.probe.go (SetTable.fresh 0 0 b) f h0 (10 * SetTable.turns (SetTable.fresh 0 0 b).mask) q=some (.empty q.j q.dummy):=λ f q=>by
  show SetTable.probe.go (SetTable.fresh 0 0 b) f h0 (219+1) q=_;rw[SetTable.probe.go,zK7]
 split
 ·rename_i met hmet
  have e1:some met=_:=hmet.symm.trans (c2 _ _);cases e1;dsimp only;refine lB ?_;dsimp only;refine lA (wpAny_setState_of hd rfl hf ?_);dsimp only;generalize (none.getD ((SetTable.fresh 0 0 b).probeStart h0)).j=j;have z1:(SetTable.insertAt #[] ((SetTable.fresh 0 0 b).put j).2 (h0,Value.ref x)).size=1:=by unfold SetTable.insertAt;simp
  have z2:((SetTable.fresh 0 0 b).put j).1.place.size=1:=by unfold SetTable.put SetTable.insertAt SetTable.fresh;simp
  have z3:((SetTable.fresh 0 0 b).put j).1.mask=7:=rfl
  have z4:((SetTable.fresh 0 0 b).put j).1.dummies.size=0:=by
   have h:SetTable.has #[] j=false:=by unfold SetTable.has;simp
   unfold SetTable.put SetTable.fresh;simp[h]
  generalize SetTable.insertAt #[] ((SetTable.fresh 0 0 b).put j).2 (h0,Value.ref x)=es' at z1 ⊢;generalize ((SetTable.fresh 0 0 b).put j).1=t1 at z2 z3 z4 ⊢
  have fin:∀t2:SetTable,t2.place.size=1->t2.mask=7->t2.dummies.size=0->wpAny (model prog w) A (storeSet d es' t2 >>= λ U=>if (!false && t2.tooFull)=true then (setRelay d (SetTable.grown ((#[]:Array (Int × Value)).size+1)) >>= λ U=>pure true) else pure true) Q E s:=λ t2 y2 y3 y4=>by
   have fl:t2.fill=1:=by unfold SetTable.fill;omega
   refine lA (wpAny_storeSet_of hd rfl ?_ (mI (by omega:es'.size<=1000) (by decide)));refine lD (decide_eq_false λ z=>?_) (lB ?_)
   ·unfold SetTable.tooFull at z
    rw[fl,y3] at z;simp at z
   ·refine h1 _ es' t2 z1 (mK _ hd (by rfl)) ?_ (Heap.SameBut.update ..)
    unfold SetTable.fits;rw[y2,fl,y3];rfl
  refine wpAny_ite_split (λ U=>lA (zOL 8 hk λ b=>?_)) (λ U=>lA (lB ?_))
  ·cases b
   ·exact fin _ z2 z3 z4
   ·exact fin _ z2 z3 z4
  ·exact fin _ z2 z3 z4
 ·rename_i hmet
  exact(hmet _ (c2 _ _)).elim
theorem it_ne {it l:Addr}{i:Nat}(hit:s.heap.IsTupleIter it l i) {b:Addr}{y:Array Value}(hb:s.heap.IsTuple b y):b≠it:=by
 rintro rfl;obtain⟨o,ho,hc,n,hd'⟩:=hb;obtain⟨o2,ho2,hc2,_⟩:=hit;rw[ho] at ho2;cases ho2;rw[hc] at hc2;exact absurd (Value.type.inj hc2) (by decide)
theorem zJS {d it l:Addr}{vs:Array Value}{es:Array (Int × Value)}{ep:Nat}{t:SetTable}{R:Result->Shared->Prop}(hh:A.handled=none) (n1:d≠it) (hit:s.heap.IsTupleIter it l vs.size) (hL:s.heap.IsTuple l vs) (hd:SetN s.heap d es ep t)
  (hR:∀h',SetN h' d es ep t->(∀b o,b≠d->b≠it->s.heap.get? b=some o->h'.get? b=some o)->R (.ok (.ret .none)) { s with heap:=h' }):codeAny (model prog w) A (.builtin "set.update.loop" ⟨[.ref d,.ref it],[]⟩) R s:=by
 refine codeAny_builtin PyProof.Rows.F.entry_set_update_loop ?_;rw[Around.under_plainId PyProof.Rows.F.plain_set_update_loop _];unfold Builtin.«set.update.loop»;dsimp only;refine lA (wpAny_pyNext_tuple_end (show A.in1.handled=none from hh) hit hL (by simp) λ h3 he3=>?_);exact lB (hR h3 (he3 d _ n1 hd) λ b o nb ni e=>he3 b o ni e)
theorem zJR {d it l:Addr}{vs:Array Value}{xs:List Dt}{b:Bool}{R:Result->Shared->Prop}(hh:A.handled=none) (hu:A.units+20<cLine) (n1:d≠it) (n2:l≠it) (n3:l≠d) (hlen:xs.length<=1) (hds:∀x∈xs,(∃ds,x = .tup ds)/\x.deep<=8) (hv:DAs s.heap xs vs.toList) (hit:s.heap.IsTupleIter it l 0) (hL:s.heap.IsTuple l vs) (hd:SetN s.heap d #[] 0 (SetTable.fresh 0 0 b))
  (hR:∀h' es ep t tk',SetN h' d es ep t->t.fits es.size=true->es.size=xs.length->(∀b o,b≠d->b≠it->s.heap.get? b=some o->h'.get? b=some o)->R (.ok (.ret .none)) { s with heap:=h',toks:=tk' }) :
  codeAny (model prog w) A (.builtin "set.update.loop" ⟨[.ref d,.ref it],[]⟩) R s:=by
 have hl:vs.size=xs.length:=by have:=hv.length;simpa using this.symm
 match xs,hlen with
 |[],_=>exact zJS hh n1 (by rw[hl];exact hit) hL hd λ h' e k=>hR h' _ _ _ s.toks e (zCD b) rfl k
 |[x],_ =>
  obtain⟨⟨ds,rfl⟩,dx⟩:=hds x lQ
  obtain⟨u,hux,hdx⟩:∃u,vs.toList=[u]/\DA s.heap (.tup ds) u:=by
   cases e:vs.toList with
   |nil=>rw[e] at hv;cases hv
   |cons u r =>
    rw[e] at hv;cases hv with
    |cons h t=>cases t;exact⟨u,rfl,h⟩
  obtain⟨a,rfl⟩:∃a,u = .ref a:=by cases hdx;exact⟨_,rfl⟩
  have hvx:vs[0]?=some (.ref a):=by rw[←Array.getElem?_toList,hux];rfl
  refine codeAny_builtin PyProof.Rows.F.entry_set_update_loop ?_;rw[Around.under_plainId PyProof.Rows.F.plain_set_update_loop _];unfold Builtin.«set.update.loop»;dsimp only;refine lA (wpAny_pyNext_tuple_item hit hL (x:=.ref a) hvx λ h1 hit1 hs1=>?_);dsimp only;have kp1:∀b y,s.heap.IsTuple b y->h1.IsTuple b y:=λ b y hb=>hb.extBut hs1.extBut (it_ne hit hb);refine lA (lE ?_);unfold setAdd;refine lE (lA (zNO 8 _ { s with heap:=h1 } dx (hdx.kept kp1) (by show A.units+1+8<cLine;omega) ?_));have hd1:=hs1.extBut d _ n1 hd;refine zHI (s:={ s with heap:=h1,toks:=_ }) hd1 (hdx.kept kp1) λ h2 es2 t2 z2 hd2 hf2 hs2=>?_;have nd:l≠d:=n3;refine lB ⟨plainId_quiet PyProof.Rows.F.plain_set_update_loop _,?_⟩;refine zJS (vs:=vs) hh n1 (by rw[hl];exact hit1.extBut hs2.extBut (Ne.symm n1)) ((kp1 _ _ hL).extBut hs2.extBut nd) hd2 λ h' e k=>hR h' _ _ _ _ e (by rw[z2];exact hf2) z2 λ b o nb ni e=>k b o nb ni (hs2.extBut b o nb (hs1.extBut b o ni e))
theorem zKp {l:Addr}{vs:Array Value}{xs:List Dt}{Q:Value->Shared->Prop}(hh:A.handled=none) (hu:A.units+30<cLine) (hl:s.heap.IsTuple l vs) (hv:DAs s.heap xs vs.toList) (hlen:xs.length<=1) (hds:∀x∈xs,(∃ds,x = .tup ds)/\x.deep<=8)
  (h:∀h' es ep t tk',SetN h' s.heap.objs.size es ep t->t.fits es.size=true->es.size=xs.length->(∀b o,s.heap.get? b=some o->h'.get? b=some o)->Q (.ref s.heap.objs.size) { s with heap:=h',toks:=tk' }) :
  wpAny (model prog w) A (call (.type "set") [.ref l]) Q E s:=by
 obtain⟨c,tl,hmro⟩:=F.called_set.mro;have hmade:=F.called_set.made;have hsub:=F.called_set.sub;refine wpAny_call (codeAny_of_tree ?_);refine lB ⟨Code.quiet_builtin _ (by decide +kernel),codeAny_builtin F.entry_type_call ?_⟩;rw[Around.under_plain (weight_type_call_type "set" [.ref l] []) rfl];have h1:=F.called_set.notType;have h2:=F.called_set.canCreate;have hct:=F.typeCall_set_1 (.ref l);unfold Builtin.«type.__call__»;dsimp only;refine lD (decide_eq_false (by rw[h1];exact lY)) ?_;refine lD (decide_eq_false (by rw[h2];exact lY)) ?_;refine lA (wpAny_of_eq hct (lA (wpAny_of_eq hmro ?_)));refine lD (by rfl) ?_;refine lA (wpAny_of_eq hmade ?_);dsimp only;refine lA (lB ?_);refine lA (lE (wpAny_call (codeAny_mono (zEQ (E:=E) (Q₁:=λ obj s₁=>obj = .ref s.heap.objs.size/\s₁={ s with heap:=s.heap.push (zBd #[] 0 (SetTable.fresh 0 0 (!w.params.followText "set-order"))) }) (.ref l) ⟨rfl,rfl⟩) λ r s₁ hr=>?_)));rcases r with e|f
 ·exact hr
 cases f with
 |ret v=>?_
 |_=>exact hr
 obtain⟨rfl,rfl⟩:=hr;have hd:=lH (h:=s.heap) (o:=zBd #[] 0 (SetTable.fresh 0 0 (!w.params.followText "set-order"))) rfl;have hT:(⟨s.heap.push (zBd #[] 0 (SetTable.fresh 0 0 (!w.params.followText "set-order"))),s.gens,s.drawn,s.toks,s.os⟩:Shared).TypeIs (.ref s.heap.objs.size) "set" := ⟨_,hd,rfl⟩;refine lA (wpAny_isInstance hT hsub (lD (by rfl) ?_));refine lA (lE (wpAny_callSpecial?_slot (name:=Str.ofString "__init__") hT F.called_set.init (wpAny_call (codeAny_call_builtin F.called_set.init.plain F.entry_set_init (check_set_init_1 hT ?_)))));have kp0:∀b o,s.heap.get? b=some o->(s.heap.push (zBd #[] 0 (SetTable.fresh 0 0 (!w.params.followText "set-order")))).get? b=some o:=λ b o hb=>lG _ hb;have hl0:(s.heap.push (zBd #[] 0 (SetTable.fresh 0 0 (!w.params.followText "set-order")))).IsTuple l vs:=hl.push _;have lt:l<s.heap.objs.size:=let ⟨o,ho,_⟩:=hl;lI ho;unfold Builtin.«set.__init__»;refine lA (wpAny_of_eq (a:=()) (by rfl) ?_);dsimp only;have hsl:isSubtype (.type "tuple") (.type "set")=pure false:=by first|exact F.sub_tuple_set|(rw[isSubtype_type];kernel_rfl)
 have hsf:isSubtype (.type "tuple") (.type "frozenset")=pure false:=by first|exact F.sub_tuple_frozenset|(rw[isSubtype_type];kernel_rfl)
 refine lA ?_;unfold typeNameOfCut;have hTl:(⟨s.heap.push (zBd #[] 0 (SetTable.fresh 0 0 (!w.params.followText "set-order"))),s.gens,s.drawn,s.toks,s.os⟩:Shared).TypeIs (.ref l) "tuple" := hl0.typeIs
 repeat (any_goals (first|assumption|exact hT|(with_reducible refine wpAny_isInstance hTl hsl ?_)|(with_reducible refine wpAny_isInstance hTl hsf ?_)|(with_reducible refine wpAny_pyIter_tuple hl0 ?_)|(with_reducible refine wpAny_typeOf hTl ?_)|(with_reducible refine wpAny_runValue ?_)|wp_step))
 have ltp:s.heap.objs.size<(s.heap.push (zBd #[] 0 (SetTable.fresh 0 0 (!w.params.followText "set-order")))).objs.size:=by rw[Heap.size_push];exact Nat.lt_succ_self _
 have hd2:=lG { cls:=Value.type "tuple_iterator", data:=Data.fields #[Value.ref l,Value.int 0 0] } hd;have hl2:=hl0.push { cls:=Value.type "tuple_iterator", data:=Data.fields #[Value.ref l,Value.int 0 0] };refine zJR (vs:=vs) (xs:=xs) (show A.in1.in1.handled=none from hh) (by show A.units+1+1+20<cLine;omega) (lT ltp) (lT (Nat.lt_trans lt ltp)) (lT lt) hlen hds ((hv.kept λ b y hb=>hb.push _).kept λ b y hb=>hb.push _) ⟨_,lH _ rfl,rfl,rfl⟩ hl2 hd2 λ h' es ep t tk' e1 e3 esz kp=>?_;refine lB (lB ?_);refine lD (by rfl) (lB ?_);refine h h' es ep t tk' e1 e3 esz λ b o e=>?_;have lb:=lI e;exact kp b o (lT lb) (lT (Nat.lt_trans lb ltp)) (lG _ (kp0 b o e))
end
noncomputable def zK3 (ta:TA):TE:=λ σ H Q=>ta σ H λ vs H1=>∃(a:Addr) (xs:List Dt),vs=[.ref a]/\DR H1 (.tup xs) (.ref a)/\xs.length<=1/\(∀x∈xs,(∃ds,x = .tup ds)/\x.deep<=8)/\Q (.int (xs.length:Nat)) H1
theorem zIl {X:Cx}{a:Expr}{ta:TA}{p p2 pos pos2:Pos}(hu:X.A.units+150<cLine) (hc:X.calm=true) (hg:Gl X "len") (hm:X.mg "len" = none) (hg2:Gl X "set") (hm2:X.mg "set" = none) (ha:PA X [a] ta) (hs:starEach [a] X.env=[(false,eval a X.env)]:=by rfl)
  (hs3:starEach [Expr.Call (.Name "set" p2) [a] [] pos2] X.env=[(false,eval (Expr.Call (.Name "set" p2) [a] [] pos2) X.env)]:=by rfl) :
  PE X (.Call (.Name "len" p) [.Call (.Name "set" p2) [a] [] pos2] [] pos) (zK3 ta):=by
 intro jP s σ H Q I h;refine wpAny_Call_Name_kw (zCr I hg hm PySem.boot_len (PyProof.Rows.callWith_builtin1 ?_ hs3 rfl));rw[hs3];show wpAny _ _ (spliced [(false,eval (Expr.Call (.Name "set" p2) [a] [] pos2) X.env)]) _ _ s;refine Calls.spliced_cons ?_;refine Call_ (zCr I hg2 hm2 zG4 (PyProof.Rows.callWith_type1 (thn (ha pos2 jP s σ H _ I h) λ us s1 ⟨vs,H1,I1,r1,q1⟩=>?_) hs rfl));obtain⟨l,xs,e,h1,hx,hds,q⟩:=q1;subst e;obtain⟨u,rfl,ru⟩:=vals1 r1;cases ru;have da:=DR.da I1.hok h1 rfl;cases da with
 | @tup _ its _ t1 hv =>
 refine zKp (vs:=its) (xs:=xs) (I1.ok.hd hc) (by omega) t1 hv hx hds λ h2 es ep t tk' hd hf ess kp=>?_;refine Calls.spliced_nil ?_;have I2:Inv X jP σ H1 { s1 with heap:=h2,toks:=tk' }:=I1.kept (t':=tk') kp;refine PySem.call_len_set (s:={ s1 with heap:=h2,toks:=tk' }) hd ⟨rfl,rfl,rfl⟩ rfl hf (by omega) ?_;exact⟨.int (xs.length:Nat),H1,I2.tok _,⟨_,by rw[ess]⟩,q⟩
end L2
namespace L2
open PySem
noncomputable def dtA:Atom->Dt
 |.name x=>.tup [.str "name", .str x]
 |.num n=>.tup [.str "num", .int n]
 |.gap g=>.tup [.str "gap", .str g,.tup []]
theorem AtRep.dr {H:Hp}:∀{a:Atom}{v:V},AtRep H a v->DR H (dtA a) v
 |.name _,_,⟨_,rfl,h⟩=>.tup h (.cons (.str _) (.cons (.str _) .nil))
 |.num _,_,⟨_,rfl,h⟩=>.tup h (.cons (.str _) (.cons (.int _) .nil))
 |.gap _,_,⟨_,_,rfl,h,h2⟩=>.tup h (.cons (.str _) (.cons (.str _) (.cons (.tup h2 .nil) .nil)))
theorem zMe {H:Hp}{as:List Atom}{us:List V}(h:Paired (AtRep H) as us):DRs H (as.map dtA) us:=by
 induction h with
 |nil=>exact .nil
 |cons r t ih=>exact .cons r.dr ih
theorem zNV (a:Atom):(∃ds,dtA a = .tup ds)/\(dtA a).deep<=8:=by cases a<;>exact⟨⟨_,rfl⟩,by simp[dtA,Dt.deep,Dt.deeps]⟩
noncomputable def nmA:Atom->Option Str
 |.name x=>some x
 |_=>none
noncomputable def noPc (as:List Atom):Prop:=(∃a∈as,nmA a=none)\/¬(as.filterMap nmA).Nodup
theorem zLe {as:List Atom}(h:as.length<=1):noPc as↔∃a∈as,nmA a=none:=by
 refine⟨λ z=>z.elim id λ y=>absurd ?_ y,.inl⟩
 obtain _|⟨a,_|_⟩:=as
 ·exact List.nodup_nil
 ·cases a<;>first|exact List.nodup_nil|simp[nmA]
 ·simp at h
theorem zNZ {H:Hp}{a:Atom}{v:V}(h:AtRep H a v):∃(p:Addr) (k:Str) (r:List V),v = .ref p/\H p=some (.tup (.str k::r))/\(k=Str.ofString "name" ↔ nmA a≠none):=by
 cases a with
 |name x=>obtain⟨p,rfl,h⟩:=h;exact⟨p,_,_,rfl,h,⟨λ U z=>(nomatch z),λ U=>rfl⟩⟩
 |num n=>obtain⟨p,rfl,h⟩:=h;exact⟨p,_,_,rfl,h,⟨λ z=>absurd z (by decide +kernel),λ z=>absurd rfl z⟩⟩
 |gap g=>obtain⟨p,b,rfl,h,_⟩:=h;exact⟨p,_,_,rfl,h,⟨λ z=>absurd z (by decide +kernel),λ z=>absurd rfl z⟩⟩
noncomputable def noPcT (t:Tr):Prop:=∃g as,t = .gap g as/\noPc as
end L2
namespace PySem
open Sem (wp)
noncomputable def KeepD (h h':Heap):Prop:=∀b o,h.get? b=some o->∃o',h'.get? b=some o'/\o'.dict=o.dict
theorem KeepD.refl (h:Heap):KeepD h h:=λ U o e=>⟨o,e,rfl⟩
theorem KeepD.trans {h h1 h2:Heap}(x:KeepD h h1) (y:KeepD h1 h2):KeepD h h2:=λ b o e =>
 let ⟨o1,e1,d1⟩:=x b o e;let ⟨o2,e2,d2⟩:=y b o1 e1;⟨o2,e2,d2.trans d1⟩
noncomputable def KD {α:Type}:Sem α->Prop
 |.pure _=>True
 |.raise _=>True
 |.unsupported _=>True
 |.finish _=>True
 |.rule _ k=>KD (k ())
 |.at _ k=>KD (k ())
 |.load _ _ k=>∀o,KD (k o)
 |.update _ _ f k=>(∀o,(f o).dict=o.dict/\(o.isFreed=false->(f o).isFreed=false))/\KD (k ())
 |.alloc _ k=>∀a,KD (k a)
 |.loadIfAlive _ k=>∀o,KD (k o)
 |.register _ k=>True
 |.fresh k=>∀t,KD (k t)
 |.ask k=>∀t,KD (k t)
 |.stack k=>∀l,KD (k l)
 |.handled _ k=>∀l,KD (k l)
 |.point _ k=>KD (k ())
 |_=>False
theorem KD.bind {α β:Type}{m:Sem α}{k:α->Sem β}(h1:KD m) (h2:∀a,KD (k a)):KD (m >>= k):=by
 show KD (m.bind k)
 induction m with
 |pure a=>exact h2 a
 |raise e=>trivial
 |unsupported e=>trivial
 |finish e=>trivial
 |rule t k ih=>exact ih _ h1
 | «at» p k ih=>exact ih _ h1
 |load a p k ih=>exact λ o=>ih _ (h1 o)
 |update a p f k ih=>exact⟨h1.1,ih _ h1.2⟩
 |alloc o k ih=>exact λ a=>ih _ (h1 a)
 |loadIfAlive a k ih=>exact λ o=>ih _ (h1 o)
 |register a k ih=>trivial
 |fresh k ih=>exact λ o=>ih _ (h1 o)
 |ask k ih=>exact λ o=>ih _ (h1 o)
 |stack k ih=>exact λ o=>ih _ (h1 o)
 |handled o k ih=>exact λ o=>ih _ (h1 o)
 |point l k ih=>exact ih _ h1
 |_=>exact False.elim h1
theorem KD.ite {α:Type}{c:Prop} [Decidable c] {a b:Sem α}(h1:KD a) (h2:KD b):KD (if c then a else b):=by split;exact h1;exact h2
theorem WPM {α:Type}{M:Model}{Γ:Ctx}{E:Value->Pos->Shared->Prop}{t:Sem α}{Q Q':α->Pos->Shared->Prop}{p:Pos}{s:Shared}(h:∀a p s,Q a p s->Q' a p s) (x:wp M Γ t Q E p s):wp M Γ t Q' E p s:=Sem.wp_mono M Γ t h (λ U U U z=>z) p s x
theorem kd_wp {α:Type}{M:Model}{Γ:Ctx}{E:Value->Pos->Shared->Prop}:∀{t:Sem α},KD t->∀{Q:α->Pos->Shared->Prop}(p:Pos) (s:Shared),wp M Γ t Q E p s->wp M Γ t (λ a p' s'=>Q a p' s'/\KeepD s.heap s'.heap) E p s:=by
 intro t
 induction t with
 |pure a=>intro _ Q p s h;exact⟨h,.refl _⟩
 |raise e=>intro _ Q p s h;exact h
 |unsupported e=>intro _ Q p s h;exact h
 |finish e=>intro _ Q p s h;exact h
 |rule t k ih=>intro d Q p s h;exact ih _ d p s h
 | «at» q k ih=>intro d Q p s h;exact ih _ d q s h
 |load a q k ih=>intro d Q p s h;obtain⟨o,ho,h⟩:=h;exact⟨o,ho,ih _ (d o) p s h⟩
 |update a q f k ih =>
  intro d Q p s h;refine⟨h.1,?_⟩;have:=ih _ d.2 p _ h.2
  have kk:KeepD s.heap (s.heap.update a f):=λ b o e=>by
   by_cases hb:b=a
   ·subst hb
    exact⟨f o,mK f e ((d.1 o).2 (Heap.get?_some_iff.mp e).2),(d.1 o).1⟩
   ·exact⟨o,(Heap.get?_update_ne _ _ _ _ hb).trans e,rfl⟩
  exact WPM (λ a p' s' h=>⟨h.1,kk.trans h.2⟩) this
 |alloc o k ih =>
  intro d Q p s h;have:=ih _ (d _) p _ h;have kk:KeepD s.heap (s.heap.push o):=λ b o' e=>⟨o',lG _ e,rfl⟩;exact WPM (λ a p' s' h=>⟨h.1,kk.trans h.2⟩) this
 |loadIfAlive a k ih=>intro d Q p s h;exact ih _ (d _) p s h
 |register a k ih=>intro d Q p s h;exact h
 |fresh k ih=>intro d Q p s h;exact ih _ (d _) p _ h
 |ask k ih=>intro d Q p s h;exact ih _ (d _) p s h
 |stack k ih=>intro d Q p s h;exact ih _ (d _) p s h
 |handled o k ih=>intro d Q p s h;exact ih _ (d _) p s h
 |point l k ih=>intro d Q p s h;exact ih _ d p s h
 |_=>exact λ h=>False.elim h
theorem zFr {α:Type}{M:Model}{A:Around}{t:Sem α}{Q:α->Shared->Prop}{E:Value->Shared->Prop}{s:Shared}(d:KD t) (h:wpAny M A t Q E s):wpAny M A t (λ a s'=>Q a s'/\KeepD s.heap s'.heap) E s :=
 λ Γ p hΓ=>kd_wp d p s (h Γ p hΓ)
theorem zHe (v:Value):KD (fieldsOf v):=by
 unfold fieldsOf;cases v with
 |ref a=>exact KD.bind (λ o=>trivial) λ o=>by split<;>trivial
 |_=>trivial
theorem zEY (v:Value) (i:Nat):KD (field v i):=by
 unfold field;exact KD.bind (zHe v) λ vs=>by split<;>trivial
theorem zDf (v:Value) (i:Nat) (x:Value):KD (setField v i x):=by
 unfold setField;cases v with
 |ref a =>
  unfold updateField;refine KD.bind (λ o=>trivial) λ o=>?_;split
  ·exact KD.ite ⟨λ o=>by obtain⟨c,d,dt,sl⟩:=o;cases dt<;>exact⟨rfl,λ h=>h⟩,trivial⟩ trivial
  ·trivial
 |_=>trivial
theorem zEO (e:Value) (f:Option Addr):KD (setFlight e f):=by
 unfold setFlight;exact KD.bind (zEY _ _) λ tb=>KD.ite (zDf _ _ _) trivial
theorem zDR:∀l:List Env,KD (readyFrames l)
 |[]=>trivial
 |env::outer=>by
  unfold readyFrames;split
  ·refine KD.bind (λ o=>trivial) λ o=>KD.ite trivial ?_
   refine KD.bind ?_ λ b=>?_
   ·unfold behindIsImport
    exact KD.ite trivial (KD.ite trivial (KD.bind (zEY _ _) λ U=>trivial))
   ·refine KD.bind ?_ λ bk=>?_
    ·cases outer with
     |nil =>
      unfold keptBack;refine KD.ite trivial (KD.bind ?_ λ U=>trivial);exact λ l=>trivial
     |cons=>trivial
    ·exact KD.bind ⟨λ o=>by obtain⟨c,d,dt,sl⟩:=o;cases dt<;>exact⟨rfl,λ h=>h⟩,trivial⟩ λ U=>zDR outer
  ·trivial
theorem zI1 (env:Env):KD (frameOf env):=by
 unfold frameOf;refine KD.bind (λ l=>trivial) λ l=>KD.bind ?_ λ o=>by split<;>trivial
 unfold frameObject;split
 ·trivial
 ·exact KD.bind (zDR _) λ U=>trivial
theorem zGA (f:Addr) (b:Bool):KD (entryPlaceOf f b):=by
 unfold entryPlaceOf;refine KD.bind (λ l=>trivial) λ l=>?_;split<;>trivial
theorem zGp (ty:String) (vs:List Value):KD (newFields ty vs):=by
 unfold newFields newObj;dsimp only;refine KD.ite (KD.bind trivial λ U=>?_) ?_
 all_goals
  unfold newObjAsIs;exact λ a=>trivial
set_option tactic.hygienic true in
theorem zEP (e:Value) (env:Env):KD (noteFrame e env):=by
  unfold noteFrame;split
  · rename_i L _
    refine KD.bind (zEY _ _) λ hd=>?_
    have tl:KD (do let a ← frameOf env;let pl ← entryPlaceOf L (hd != .none);let b ← EntryCells.newEntry hd a .none (rawInt L) .none pl;setField e 1 b) :=
      KD.bind (zI1 env) λ a=>KD.bind (zGA _ _) λ pl=>KD.bind (zGp _ _) λ b=>zDf _ _ _
    refine KD.ite ?_ tl;refine KD.bind (zEY _ _) λ x=>KD.ite trivial ?_;exact KD.bind (zDf _ _ _) λ U=>tl
  · trivial
theorem zI0 (env:Env) (e:Value):KD (leaving env e):=by
 unfold leaving;exact KD.bind (zEP _ _) λ U=>zEO _ _
end PySem
namespace PySem.W
open PySem PySem.Spec PySem.Calls PyProof.Rows Builtin Builtin.ObjectAttr
section
variable {prog:Program}{w:World}{A:Around}{E:Value->Shared->Prop}{K:Frag}{x D dx:Addr}{h:Heap}{g:Array GenState}{d:Drawn}{t:Nat}{os:OsState}{mA:Str->Option Value}{name:Str}{v:Value}
end
structure Exc2 (K:Frag) (D R:Addr):Prop where
 cls:∃dd cd sl,K.lookup D=some ⟨.type "type", dd,.cls cd,sl⟩/\cd.hasDict=true/\cd.mro=[.ref D,.ref R,.type "ValueError", .type "Exception", .type "BaseException", .type "object"]
 sa:findIn K (.ref D) "__setattr__" = some (some (.builtin "object.__setattr__"))
section
variable {prog:Program}{w:World}{A:Around}{E:Value->Shared->Prop}{K:Frag}{x D R:Addr}{h:Heap}{g:Array GenState}{d:Drawn}{t:Nat}{os:OsState}{name:Str}{v:Value}{o:Obj}{vs:Array Value}
noncomputable def zMf (x:Addr) (o:Obj) (name:Str) (v:Value) (h h':Heap):Prop:=∃dx,h.get? dx=none/\dx≠x/\h'.get? x=some { o with dict:=some dx }/\h'.Ns1 dx (λ y=>if y=name then some v else none)/\∀b ob,b≠x->h.get? b=some ob->h'.get? b=some ob
theorem zFP {tk:Tok}{Q:Fin->Shared->Prop}(X:K.In h) (C:Exc2 K D R) (hx:h.get? x=some o) (hc:o.cls = .ref D) (hd:o.data = .fields vs) (hn:o.dict=none) (hna:findIn K (.ref D) name=some none)
  (hq:∀h' tk',zMf x o name v h h'->Q (.done (.ret .none)) ⟨h',g,d,tk',os⟩) :
  wpAny (model prog w) A (Builtin.«object.__setattr__» ⟨[.ref x,.str name tk,v],[]⟩) Q E ⟨h,g,d,t,os⟩:=by
 have hpass:=PySem.F.store_ValueError.passes (.ref x);obtain⟨dd0,cd0,sl0,hK,hHas,hmro⟩:=C.cls;have hD:=X _ _ hK;have L1:=looks_findIn (M:=model prog w) X hna;unfold Builtin.«object.__setattr__»
 repeat (first|rw[refuse_eq]|(rw[hmro,refuseLoop_ref,refuseLoop_ref,hpass])|(with_reducible refine wpAny_loadPart_at hx ?_;rw[hc])|with_reducible refine L1.at ?_|wp_step)
 rw[hn,hd];dsimp only;refine lD (by simp[typeHasDict]) ?_;have hx1:(h.push { cls:=.type "dict", data:=.dict #[] }).get? x=some o:=lG _ hx;have hxs:x≠h.objs.size:=lT (lI hx);refine lA (wpAny_alloc' (lA (wpAny_update' hx1 (lB ?_))));have hgd:((h.push { cls:=.type "dict", data:=.dict #[] }).update x λ o=>{ o with dict:=some h.objs.size }).get? h.objs.size=some { cls:=.type "dict", data:=.dict #[] }:=(Heap.get?_update_ne _ _ _ _ hxs.symm).trans (Heap.get?_push_at rfl rfl);have hnd:((h.push { cls:=.type "dict", data:=.dict #[] }).update x λ o=>{ o with dict:=some h.objs.size }).Ns h.objs.size (λ U=>none):=⟨_,#[],_,hgd,rfl,λ e he=>absurd he (by simp),λ U=>rfl⟩;dsimp only;unfold storeInDict newKeyGuard;dsimp only;refine lA (lB (lA (wpAny_nsSet1 (Heap.Ns1.of_empty hnd) λ h' hn' hs=>?_)));obtain⟨oD,esD,epD,hoD,hdD,hcD⟩:=hn'.count (Within.cons name v Within.nil);refine lA (wpAny_lookBehind hoD (by rw[hdD];refine pastItsLine_dict (mI hcD ?_);rw[List.length_cons,List.length_nil,sizeLine_eq];omega) ?_);refine lB (hq h' _ ⟨h.objs.size,Heap.get?_none_of_le (lS _),hxs.symm,?_,hn',λ b ob hb e=>?_⟩)
 ·refine(hs.2 x hxs).trans (mK _ hx1 ?_)
  have hfr:=(Heap.get?_some_iff.mp hx).2;obtain⟨oc,od,odt,osl⟩:=o;cases odt<;>first|rfl|exact hfr
 ·exact(hs.2 b (lT (lI e))).trans ((Heap.get?_update_ne _ _ _ _ hb).trans (lG _ e))
theorem ex_store {Q:Unit->Shared->Prop}(X:K.In h) (C:Exc2 K D R) (hob:mroIn K D (.type "object")=some true) (hx:h.get? x=some o) (hc:o.cls = .ref D) (hd:o.data = .fields vs) (hn:o.dict=none) (hna:findIn K (.ref D) name=some none)
  (hq:∀h' tk',zMf x o name v h h'->Q () ⟨h',g,d,tk',os⟩):wpAny (model prog w) A (setAttr (.ref x) name v) Q E ⟨h,g,d,t,os⟩:=by
 have f3:=PySem.F.store_ValueError.slot.bind (.ref x);have L1:=looks_findIn (M:=model prog w) X C.sa;have L2:=looks_mroIn (M:=model prog w) X hob;have kd:=PySem.F.store_ValueError.kind;have sp:=PySem.F.store_ValueError.split;unfold setAttr callSpecial? specialOf
 repeat (any_goals (first|assumption|(with_reducible refine wpAny_loadPart_at hx ?_;rw[hc])|with_reducible refine L1.at ?_|wp_step))
 have chk:∀{M:Model}{A:Around}{E:Value->Shared->Prop}{tk:Tok}{t:Nat}{Q:Unit->Shared->Prop},Q () ⟨h,g,d,t,os⟩->wpAny (model prog w) A (checkBuiltinCall "object.__setattr__" ⟨[.ref x,.str name tk,v],[]⟩) Q E ⟨h,g,d,t,os⟩:=by
  intro M A E tk t Q q;have ha:=PySem.F.store_ValueError.args (.ref x) (.str name tk) v;simp only[checkBuiltinCall,kd,sp];unfold isInstance
  repeat (first|(with_reducible refine wpAny_loadPart_at hx ?_;rw[hc])|with_reducible refine L2.at ?_|wp_step)
  exact q
 refine codeAny_call_builtin PySem.F.store_ValueError.slot.plain PySem.F.store_ValueError.entry (chk (M:=model prog w) (zFP X C hx hc hd hn hna λ h' tk' S=>?_))
 repeat (any_goals (first|assumption|wp_step))
 exact hq h' tk' S
end
abbrev xdata (t:Value):Data:=.fields #[t,.none,.none,.none,.bool false,.none]
section
variable {prog:Program}{w:World}{A:Around}{E:Value->Shared->Prop}{K:Frag}{x D R:Addr}{h:Heap}{g:Array GenState}{d:Drawn}{t:Nat}{os:OsState}{tv:Value}{t0:Addr}{o:Obj}
theorem ex_init {Q:Value->Shared->Prop}(X:K.In h) (C:Exc2 K D R) (hb:mroIn K D (.type "ValueError")=some true) (hx:h.get? x=some o) (hc:o.cls = .ref D) (hd:o.data=xdata (.ref t0))
  (hq:∀h' t',h'.get? x=some { o with data:=xdata (.ref t') }->(∀b ob,b≠x->h.get? b=some ob->h'.get? b=some ob)->Q .none ⟨h',g,d,t,os⟩):wpAny (model prog w) A (call (.builtin "ValueError.__init__") [.ref x,tv]) Q E ⟨h,g,d,t,os⟩:=by
 have FF:=PySem.F.excBase_ValueError;have L2:=looks_mroIn (M:=model prog w) X hb;have hshort:=FF.noStar;obtain⟨dd0,cd0,sl0,hK,hHas,hmro⟩:=C.cls;have hD:=X _ _ hK;refine wpAny_call (codeAny_call_builtin FF.init.plain FF.initEntry ?_);simp only[checkBuiltinCall,FF.initKind,FF.initSplit,FF.initRow];unfold isInstance
 repeat (first|(with_reducible refine wpAny_loadPart_at hx ?_;rw[hc])|with_reducible refine L2.at ?_|wp_step)
 rw[hd];have hxp:=lG (h:=h) { cls:=Value.type "tuple", data:=Data.seq #[tv] } hx;refine lB (lB (lA (wpAny_setField hxp hd (by simp) ?_)))
 have hx':((h.push { cls:=Value.type "tuple", data:=Data.seq #[tv] }).update x (Obj.mapFields (·.setIfInBounds 0 (Value.ref h.objs.size)))).get? x=some { o with data:=xdata (.ref h.objs.size) }:=by
  refine(mK _ hxp ?_).trans ?_
  ·obtain⟨oc,od,odt,osl⟩:=o;simp only at hd;subst hd;rfl
  ·obtain⟨oc,od,odt,osl⟩:=o;simp only at hd;subst hd;rfl
 have fin:=hq _ _ hx' λ b ob hb e=>(Heap.get?_update_ne _ _ _ _ hb).trans (lG _ e)
 repeat (any_goals (first|assumption|exact fin|wp_step))
end
abbrev mroVE:List Value:=[.type "ValueError", .type "Exception", .type "BaseException", .type "object"]
structure Exc3 (K:Frag) (D R f:Addr):Prop extends Exc2 K D R,ExCls K D where
 obj:∃nm q N bs sn sub ab col dd k0 k1 k2 k3 k5,K.lookup D=some (excClassObj nm q D N bs (.ref R::mroVE) true sn sub ab col dd k0 k1 k2 k3 k5 "ValueError.__new__")
 tail:tailIn K mroVE (.ref R::mroVE)=true
 init:findIn K (.ref D) "__init__" = some (some (.ref f))
 fn:typeIn K (.ref f)=some (.type "function")
section
variable {prog:Program}{w:World}{A:Around}{E:Value->Shared->Prop}{K:Frag}{x D R f:Addr}{h:Heap}{g:Array GenState}{d:Drawn}{t:Nat}{os:OsState}
abbrev xObj (D t:Addr):Obj:={ cls:=.ref D,data:=xdata (.ref t) }
abbrev tObj (rest:List Value):Obj:={ cls:=.type "tuple", data:=.seq rest.toArray }
theorem ex_make {rest:List Value}{R':Result->Shared->Prop}(X:K.In h) (C:Exc3 K D R f) (hrest:rest.length<=sizeLine)
  (hq:codeAny (model prog w) (A.under (.builtin "type.__call__" ⟨.ref D::rest,[]⟩)) (.call (.ref f) ⟨.ref (h.objs.size+1)::rest,[]⟩) (InitBack (h.objs.size+1) R') ⟨(h.push (tObj rest)).push (xObj D h.objs.size),g,d,t,os⟩) :
  codeAny (model prog w) A (.call (.ref D) ⟨rest,[]⟩) R' ⟨h,g,d,t,os⟩:=by
 obtain⟨nm,q,N,bs,sn,sub,ab,col,dd,k0,k1,k2,k3,k5,hK⟩:=C.obj;have hC:=X _ _ hK;have T:=tail_of_in X C.tail;have FF:=PySem.F.excBase_ValueError;have f1:=tc_lookup;have f2:=tc_bind (.ref D);have hT:(⟨h,g,d,t,os⟩:Shared).TypeIs (.ref D) "type" := ⟨_,hC,rfl⟩;refine codeAny_of_tree ?_;show wpAny _ _ (callAny (.ref D) _) _ _ _
 repeat (any_goals (first|assumption|with_reducible refine wpAny_loadPart_at hC ?_|wp_step))
 refine⟨rfl,?_⟩;refine codeAny_call_builtin_at (Code.quiet_builtin _ (by decide +kernel)) entry_typeCall (wpAny_check_type_call_sub hC ?_)
 repeat (first|with_reducible refine wpAny_loadPart_at hC ?_|with_reducible refine wpAny_madeBy_exc hC ?_|wp_step)
 refine codeAny_call_builtin_code (Code.quiet_builtin _ FF.quiet) (wpAny_check_new_subT FF T hC ?_);refine codeAny_exc_new_subT FF T hC ?_ hrest;show wpAny _ _ _ _ _ _;have kp:∀b o,h.get? b=some o->((h.push (tObj rest)).push (xObj D h.objs.size)).get? b=some o:=λ b o e=>lG _ (lG _ e);have hget:((h.push (tObj rest)).push (xObj D h.objs.size)).get? (h.objs.size+1)=some (xObj D h.objs.size):=by heap_get
 have hC1:=kp _ _ hC;have hcC:(Value.ref D::Value.ref R::mroVE).contains (.ref D)=true:=by simp
 have i1:=(looks_findIn (M:=model prog w) X C.init).keeps kp;have b1:=(bind_fn (M:=model prog w) X (.ref (h.objs.size+1)) C.fn).keeps kp;unfold isInstance
 repeat (first|with_reducible refine wpAny_loadPart_at hget ?_|(with_reducible refine wpAny_isSubtype_exc hC1 ?_;rw[hcC])|with_reducible refine i1.at ?_|with_reducible refine b1.at ?_|wp_step)
 show wpAny _ _ (isSubtype (.ref D) (.ref D)) _ _ ⟨(h.push (tObj rest)).push (xObj D h.objs.size),g,d,t,os⟩;refine wpAny_isSubtype_exc hC1 ?_;rw[hcC];refine lD (by rfl) ?_;refine lA (lE ?_);unfold callSpecial? specialOf
 repeat (first|with_reducible refine wpAny_loadPart_at hget ?_|with_reducible refine i1.at ?_|with_reducible refine b1.at ?_|with_reducible refine wpAny_call ?_|wp_step)
 refine codeAny_mono hq λ r s' z=>?_;rcases r with e|(v|_|_|_)<;>first|exact z|exact z.elim|skip
 obtain⟨rfl,z⟩:=z;exact lB (lB z)
end
end PySem.W
namespace L2
open PySem PySem.Spec PyProof.Rows
noncomputable def exN (ea C:Addr):HO:=.ext λ h=>∃t,h.get? ea=some (W.xObj C t)
noncomputable def exW (ea C dx:Addr):HO:=.ext λ h=>∃t,h.get? ea=some { W.xObj C t with dict:=some dx }
section
variable {P:Program}{w:World}{H H':Hp}{h h':Heap}{ea C dx:Addr}
theorem zMY {t:Addr}(e:h.get? ea=some (W.xObj C t)):ObjOk P w H h ea (exN ea C):=⟨⟨t,e⟩,⟨_,e⟩,λ _ _ ⟨t,e⟩ k=>⟨t,k _ e⟩⟩
theorem zON {t:Addr}(e:h.get? ea=some { W.xObj C t with dict:=some dx }):ObjOk P w H h ea (exW ea C dx):=⟨⟨t,e⟩,⟨_,e⟩,λ _ _ ⟨t,e⟩ k=>⟨t,k _ e⟩⟩
theorem zKV (hok:HOk P w H h) (e:H ea=some (exN ea C)):∃t,h.get? ea=some (W.xObj C t):=(hok ea _ e).1
theorem zKU (hok:HOk P w H h) (e:H ea=some (exW ea C dx)):∃t,h.get? ea=some { W.xObj C t with dict:=some dx }:=(hok ea _ e).1
end
section
variable {X:Cx}{jP:List (Addr × Obj)}{σ:St}{H H':Hp}{s s':Shared}{h':Heap}{ea dx C:Addr}{φ:Heap->Prop}{o1 o2:HO}{t':Nat}
theorem Inv.two (I:Inv X jP σ H s) (he:H ea=some (.ext φ)) (hdx:s.heap.get? dx=none) (hne:dx≠ea) (k:∀b ob,b≠ea->s.heap.get? b=some ob->h'.get? b=some ob) (thr:∃u,h'.get? ea=some u)
  (n1:ObjOk X.prog X.w (upd (upd H dx o2) ea o1) h' ea o1) (n2:ObjOk X.prog X.w (upd (upd H dx o2) ea o1) h' dx o2):Inv X jP σ (upd (upd H dx o2) ea o1) { s with heap:=h',toks:=t' }:=by
 have hd0:H dx=none:=by
  cases q:H dx with
  |none=>rfl
  |some u=>obtain⟨o,z⟩:=(I.hok dx u q).there;rw[hdx] at z;cases z
 have up:∀b,b≠ea->b≠dx->(upd (upd H dx o2) ea o1) b=H b:=λ b n1 n2=>by rw[zAW n1,zAW n2]
 have nd:∀{b:Addr}{u:HO},H b=some u->b≠dx:=λ q z=>by rw[z,hd0] at q;cases q
 have ndh:∀{b:Addr}{o:Obj},s.heap.get? b=some o->b≠dx:=λ q z=>by rw[z,hdx] at q;cases q
 have nea:∀{b:Addr},H b=none->b≠ea:=λ q z=>by rw[z,he] at q;cases q
 refine I.un ⟨λ b o q n U U=>k b o (nea n) q,λ b o q n U U=>⟨o.slots,k b o (nea n) q⟩,λ b o q n U=>(up b (nea n) (ndh q)).trans n,λ b o q U=>?_,λ b xs q=>?_,λ b o u q=>?_,λ b ps q=>?_⟩ λ b u q=>?_
 ·by_cases z:b=ea
  ·rw[z];exact thr
  ·exact⟨o,k b o z q⟩
 ·exact(up b (λ z=>by rw[z,he] at q;cases q) (nd q)).trans q
 ·exact(up b (λ z=>by rw[z,he] at q;cases q) (nd q)).trans q
 ·exact⟨#[],by rw[Array.append_empty];exact(up b (λ z=>by rw[z,he] at q;cases q) (nd q)).trans q⟩
 ·by_cases z:b=ea
  ·subst z
   rw[zAB] at q;cases q;exact n1
  ·rw[zAW z] at q
   by_cases y:b=dx
   ·subst y
    rw[zAB] at q;cases q;exact n2
   ·rw[zAW y] at q
    refine(I.hok b u q).stay (λ c v hc q2=>k c v (λ x=>?_) q2) (λ c q2=>?_) λ c xs q2=>?_
    ·rcases hc with hc|hc
     ·exact z (hc.symm.trans x)
     ·rw[x,he] at hc;cases hc
    ·exact(up c (λ z=>by rw[z,he] at q2;cases q2) (nd q2)).trans q2
    ·exact(up c (λ z=>by rw[z,he] at q2;cases q2) (nd q2)).trans q2
end
structure XSup (K:W.Frag) (R:Addr):Prop where
 gt:W.specialIn K (.ref R) "__getattribute__" = some (some (.builtin "type.__getattribute__"))
 rd:∃mc,W.readsIn K R mc=true/\W.findCls K (.ref R) mc "__init__" = some (.val (.builtin "ValueError.__init__"))
noncomputable def zNe (R D:Addr) (ta:TE) (t:TA):TE:=λ σ H Q=>ta σ H λ x H1=>x = .ref R/\t σ H1 λ vs H2=>∃ea v,vs=[.ref ea,v]/\H2 ea=some (exN ea D)/\Q .non H2
theorem zLI {X:Cx}{o e:Expr}{es:List Expr}{ta:TE}{t:TA}{R D R':Addr}{apos pos:Pos}{pl:Sem Bool}
  (he:PE X o ta) (M:XSup X.K R) (C:W.Exc2 X.K D R') (hv:W.mroIn X.K D (.type "ValueError")=some true) (ha:PA X (e::es) t)
  (hst:starEach (e::es) X.env=(false,eval e X.env)::starEach es X.env:=by rfl) (hpl:(backTo pos (starEach es X.env)).any (·.1)=false:=by rfl)
  (ht:eval (.Call (.Attribute o "__init__" apos) (e::es) [] pos) X.env=(do
   let ov ← eval o X.env
   standAt apos.atName
   let (f,first) ← holding [ov] (getMethod ov "__init__" pl)
   callWith pos f first (backTo pos (starEach (e::es) X.env)) (backToKw pos (keywordEach [] X.env))):=by rfl) :
  PE X (.Call (.Attribute o "__init__" apos) (e::es) [] pos) (zNe R D ta t):=by
 intro jP s σ H Q I h;refine W.methodCall_KW (pl:=pl) (thn (he jP s σ H _ I h) λ u s1 ⟨x,H1,I1,rx,ex,q⟩=>?_) ht;subst ex;obtain rfl:u=Value.ref R:=rx;obtain⟨mc,r1,r2⟩:=M.rd;refine W.method_cls I1.kIn M.gt (W.cls_value I1.kIn r1 r2 rfl ?_);refine PyProof.Rows.callWith_builtin1 (thn (ha pos jP _ σ H1 _ (I1.tok (s1.toks+1)) q) λ us s2 ⟨vs,H2,I2,r,ea,v,ev,hea,q2⟩=>?_) hst hpl;subst ev;obtain⟨u1,u2,rfl,ru1,ru2⟩:=vals2 r;cases ru1;obtain⟨t0,ho⟩:=zKV I2.hok hea;obtain⟨hp,g,d,tk,os⟩:=s2;refine W.ex_init I2.kIn C hv ho rfl rfl λ h' t' e1 k=>?_
 have hu:upd H2 ea (exN ea D)=H2:=by
  funext b
  by_cases z:b=ea
  ·subst z;rw[zAB,hea]
  ·rw[zAW z]
 have I3:=I2.write (x:=ea) (e:=ea) (o:=exN ea D) (h':=h') (t':=tk) (by rw[hea];trivial) (.inl rfl) k ⟨_,e1⟩ (zMY e1);rw[hu] at I3;exact⟨.non,H2,I3,rfl,q2⟩
noncomputable def sXPut (D:Addr) (ta tv:TE) (f:Str):TS:=λ Ds σ H=>tv σ H λ y H1=>ta σ H1 λ x H2=>∃ea,x = .ref ea/\H2 ea=some (exN ea D)/\∀dx,H2 dx=none->dx≠ea->Ds.nx σ (upd (upd H2 dx (.xd [(f,y)])) ea (exW ea D dx))
theorem zMt {X:Cx}{o value:Expr}{f:Str}{ta tv:TE}{D R:Addr}{pos pos':Pos}(ha:PE X o ta) (hv:PE X value tv) (C:W.Exc2 X.K D R) (hob:W.mroIn X.K D (.type "object")=some true) (hna:W.findIn X.K (.ref D) f=some none)
  (hs:swapsWith value (some (.Attribute o f pos')) pos.line X.env=pure false):PS X (.Assign [.Attribute o f pos'] value pos) (sXPut D ta tv f):=by
 intro jP s σ H Ds I h;refine plainObj_wpAny_Assign_Attribute (thn (hv jP s σ H _ I h) λ u s1 ⟨y,H1,I1,ry,q⟩=>thn (ha jP s1 σ H1 _ I1 q) λ ov s2 ⟨x,H2,I2,rx,ea,ex,hea,q2⟩=>?_) hs;subst ex;obtain rfl:ov=Value.ref ea:=rx;obtain⟨t0,ho⟩:=zKV I2.hok hea;obtain⟨hp,g,d,tk,os⟩:=s2;refine W.ex_store I2.kIn C hob ho rfl rfl rfl hna λ h' tk' S=>?_;obtain⟨dx,h1,h2,h3,h4,h5⟩:=S
 have hd0:H2 dx=none:=by
  cases q:H2 dx with
  |none=>rfl
  |some u=>obtain⟨o,z⟩:=(I2.hok dx u q).there;rw[h1] at z;cases z
 refine⟨σ,_,I2.two (h':=h') (t':=tk') (o1:=exW ea D dx) (o2:=.xd [(f,y)]) hea h1 h2 h5 ⟨_,h3⟩ (zON h3) ⟨_,h4,λ z=>?_⟩,q2 dx hd0 h2⟩;show RelO (List.lookup z [(f,y)]) (if z=f then some u else none)
 by_cases e:z=f
 ·subst e
  rw[if_pos rfl,List.lookup_cons_self];exact ry
 ·rw[if_neg e,List.lookup_cons,show (z == f)=false from beq_eq_false_iff_ne.mpr e]
  trivial
noncomputable def tFStr (te:TE) (y:Str):TE:=λ σ H Q=>te σ H λ v H1=>∃x:Str,v = .str x/\y.length+x.length<=sizeLine/\Q (.str (y++x)) H1
theorem zM0 {X:Cx}{e:Expr}{te:TE}{y:Str}{j} {p1 p2 pos:Pos}(he:PE X e te) (hy:y.length<=1000:=by decide +kernel):PE X (.JoinedStr [.Constant (.str y) j p2,.FormattedValue e (-1) none p1] pos) (tFStr te y):=by
 intro jP s σ H Q I h;refine wpAny_JoinedStr ?_;show wpAny _ _ (eval (.Constant (.str y) j p2) X.env) _ _ s;have e0:Str.empty++y=y:=zER _;refine Calls.Constant_str ⟨y,_,rfl,?_,?_⟩
 ·rw[e0];exact mI hy (by decide)
 ·show wpAny _ _ (eval (.FormattedValue e (-1) none p1) X.env) _ _ _
  refine wpAny_FormattedValue_plain (thn (he jP _ σ H _ (I.tok _) h) λ v s1 ⟨u,H1,I1,r1,x,ex,hx,q⟩=>?_);subst ex;obtain⟨t,rfl⟩:=r1
  have fin:∀(t':Tok) (tk:Nat),∃z u',(Value.str x t':Value) = .str z u'/\(Str.empty++y++z).length<=sizeLine/\Joins (model X.prog X.w) X.A X.xe (evalEach [] X.env) (Str.empty++y++z) (λ out s₁=>out.length<=sizeLine/\EP X jP σ Q (.str out s₁.toks) { s₁ with toks:=s₁.toks+1 }) { s1 with toks:=tk }:=λ t' tk=>by
   refine⟨_,t',rfl,by rw[e0,strLen_append];exact hx,?_⟩;rw[e0];exact⟨by rw[strLen_append];exact hx,.str (y++x),H1,I1.tok _,⟨_,rfl⟩,q⟩
  exact wpAny_formatField_str (fin _ _) (fin _ _) (by omega)
noncomputable def DicAt (h:Heap) (ea:Addr) (dd:Option Addr):Prop:=∃o,h.get? ea=some o/\o.dict=dd
theorem DicAt.keep {h h':Heap}{ea:Addr}{dd:Option Addr}(x:DicAt h ea dd) (k:KeepD h h'):DicAt h' ea dd :=
 let ⟨o,e,d⟩:=x;let ⟨o',e',d'⟩:=k _ _ e;⟨o',e',d'.trans d⟩
noncomputable def CXG (P:Program) (w:World):CXT:=λ outer H s E e s'=>∃ea C dd H',e = .ref ea/\Flew P w outer H s H' ea C s'/\DicAt s'.heap ea dd/\E (.ref C) dd H'
noncomputable def less (H:Hp) (ea:Addr):Hp:=λ b=>if b=ea then none else H b
theorem zB3 {H:Hp}{ea b:Addr}(h:b≠ea):less H ea b=H b:=by unfold less;rw[if_neg h]
theorem zE0 {H:Hp}{ea:Addr}:less H ea ea=none:=by unfold less;rw[if_pos rfl]
section
variable {P:Program}{w:World}{K:W.Frag}{mg:Str->Option Value}{base:Heap}{N:List Str}{qual:Str}{scope:Scope}{f:Addr}{cd:Value}{A:Around}{outer:List Env}{s:Shared}{H:Hp}{E:XK}
theorem zKh {jP:List (Addr × Obj)}{σ:St}{H1:Hp}{s1:Shared}{ea C dx:Addr}(I:Inv (cxOf (CXG P w) P w K mg base N qual scope f cd A outer s H E) jP σ H1 s1) (he:H1 ea=some (exW ea C dx)) (hnew:s.heap.get? ea=none) (q:E (.ref C) (some dx) (less H1 ea)) :
  (cxOf (CXG P w) P w K mg base N qual scope f cd A outer s H E).xe (.ref ea) s1:=by
 obtain⟨t,ho⟩:=zKU I.hok he;have ba:Un (frs outer) [] H H1 s.heap s1.heap:=I.base;have ab:s.heap.objs.size<=(cxOf (CXG P w) P w K mg base N qual scope f cd A outer s H E).env.locals:=I.ok.above;have sub:=I.stkSub;have hfree:=I.stkFree;have hstk:=I.stack;have hfrL:=I.free
 have key:=zFr (zI0 (cxOf (CXG P w) P w K mg base N qual scope f cd A outer s H E).env (.ref ea)) (wpAny_leaving_firstW (M:=model P w) (A:=(cxOf (CXG P w) P w K mg base N qual scope f cd A outer s H E).A) (E:=λ U U=>False) (s:=s1) (base:=W.hideAll s1.heap (ea::frs (cxOf (CXG P w) P w K mg base N qual scope f cd A outer s H E).stack)) (a0:=.ref t)
  (Q:=λ U s'=>∃h',s'={ s1 with heap:=h' }/\Heap.LeftW (W.hideAll s1.heap (ea::frs (cxOf (CXG P w) P w K mg base N qual scope f cd A outer s H E).stack)) ((cxOf (CXG P w) P w K mg base N qual scope f cd A outer s H E).env::outer) ea (.ref C) (.ref t) s1.heap h')
  I.ok.frames (W.funFrames_hide hstk λ env he b hb=>lR _ (List.mem_filterMap.mpr ⟨env,he,hb⟩)) rfl ho (λ b o e=>W.of_hideAll _ e) (W.hideAll_none _ lQ) rfl rfl rfl λ h' hL=>⟨h',rfl,hL⟩)
 refine wpAny_mono key (λ _ s' ⟨⟨h',e,hL⟩,kd⟩=>?_) (λ U U z=>False.elim z);subst e;obtain⟨k1,⟨_,_,k2⟩,k3,k4⟩:=hL;have nea:∀{b:Addr}{u:HO},less H1 ea b=some u->b≠ea:=λ z e=>by rw[e,zE0] at z;cases z
 have eaF:∀{b:Addr}{o:Obj},s.heap.get? b=some o->b≠ea:=λ z e=>by rw[e,hnew] at z;cases z
 have U1:Un (frs outer) [] H (less H1 ea) s.heap s1.heap:=by
  refine⟨ba.keep,ba.slot,λ b o q n hx=>?_,ba.there,λ b xs q=>?_,λ b o u q=>?_,λ b ps q=>?_⟩
  ·rw[zB3 (eaF q)];exact ba.free b o q n hx
  ·have:=ba.tups b xs q
   rw[zB3 (λ z=>by rw[z,he] at this;cases this)];exact this
  ·have:=ba.frzs b o u q
   rw[zB3 (λ z=>by rw[z,he] at this;cases this)];exact this
  ·obtain⟨m,this⟩:=ba.tbls b ps q
   exact⟨m,by rw[zB3 (λ z=>by rw[z,he] at this;cases this)];exact this⟩
 have hok2:HOk P w (less H1 ea) s1.heap:=λ b u q=>by
  have nb:=nea q;rw[zB3 nb] at q;refine(I.hok b u q).stay (λ U U U z=>z) (λ c z=>?_) λ c xs z=>?_
  ·rw[zB3 (λ y=>by rw[y,he] at z;cases z)];exact z
  ·rw[zB3 (λ y=>by rw[y,he] at z;cases z)];exact z
 have cov:Cov (frs outer) (less H1 ea) s.heap s1.heap (W.hideAll s1.heap (ea::frs (cxOf (CXG P w) P w K mg base N qual scope f cd A outer s H E).stack)):=λ b o e nb hz=>by
  refine W.hideAll_get _ e λ hm=>?_
  have hb1:b≠ea:=by
   rcases hz with ⟨o0,z⟩|z
   ·exact eaF z
   ·exact λ y=>z (by rw[y];exact zE0)
  rcases lP.mp hm with y|y
  ·exact hb1 y
  ·rcases lP.mp (sub b y) with y|y
   ·rcases hz with ⟨o0,z⟩|z
    ·exact lT (mB (lI z) ab) y
    ·refine z ?_
     rw[zB3 hb1,y];exact hfrL
   ·exact nb y
 have hfd:∀b∈frs outer,less H1 ea b=none/\∃o,s1.heap.get? b=some o/\∀vs,o.data ≠ .fields vs:=λ b hb=>by
  obtain⟨_,o,e,d⟩:=I.ok.funs.mem hb;have hbH:H b=none:=I.ok.frf b hb;obtain⟨sl,e1⟩:=ba.slot b o e hbH hb (by simp);refine⟨?_,_,e1,d⟩;rw[zB3 (eaF e)];exact ba.free b o e hbH (by simp)
 obtain⟨u,k,c⟩:=moved U1 hok2 cov hfd k1 k4;exact⟨ea,C,some dx,less H1 ea,rfl,⟨I.os,I.bare,u,k,hnew,zE0,_,_,⟨k1,W.hideAll_none _ lQ,k2,k3⟩,c⟩,DicAt.keep ⟨_,ho,rfl⟩ kd,q⟩
end
section
variable {X:Cx}{jP:List (Addr × Obj)}{σ:St}{H:Hp}{s:Shared}{Q:VK}{us:List Value}{vs:List V}{D R f:Addr}{fd:FuncData}{ps:List Str}{k:Nat}{sp:Sp}
theorem zJV (M:W.Exc3 X.K D R f) (F:FnOk X.prog X.w X.K X.mg X.base CX0 k f fd ps sp) (hr:Room (k+1) X.A) (hb:Binds X.K fd ps []) (I:Inv X jP σ H s) (r:Vals vs us) (hlen:vs.length<=sizeLine)
  (h:∀ea,H ea=none->s.heap.get? ea=none->∃Q0:VK,sp (.ref ea::vs) (upd H ea (exN ea D)) Q0 E0/\∀v H2,Q0 v H2->v = .non/\Q (.ref ea) H2):wpAny (model X.prog X.w) X.A (call (.ref D) us) (EP X jP σ Q) X.xe s:=by
 obtain⟨Q0,hq,hQ0⟩:=h (s.heap.objs.size+1) (I.hok.fresh (Nat.le_succ _)) (Heap.get?_none_of_le (Nat.le_succ _));have I1:=I.kept (h':=s.heap.push (W.tObj us)) (t':=s.toks) λ b u q=>lG _ q
 have e2:((s.heap.push (W.tObj us)).push (W.xObj D s.heap.objs.size)).get? (s.heap.objs.size+1)=some (W.xObj D s.heap.objs.size):=by
  have:=lH (s.heap.push (W.tObj us)) (o:=W.xObj D s.heap.objs.size) rfl
  rwa [Heap.size_push] at this
 have I2:=I1.laid (a:=s.heap.objs.size+1) (o:=exN (s.heap.objs.size+1) D) (t':=s.toks) (λ b u q=>lG (W.xObj D s.heap.objs.size) q) (Nat.le_of_eq (Heap.size_push _ _)) (zMY e2);have r2:Vals (V.ref (s.heap.objs.size+1)::vs) (Value.ref (s.heap.objs.size+1)::us):=.cons rfl r
 have hl:(Value.ref (s.heap.objs.size+1)::us++[]).length=ps.length:=by
  have e:=r2.length;rw[F.len _ _ _ _ hq] at e;rw[List.append_nil];exact e.symm
 have hb2:=hb _ (Value.ref (s.heap.objs.size+1)::us) I2.kIn hl;rw[List.append_nil] at hb2;obtain⟨hp,g,d,tk,os⟩:=s;refine wpAny_call (W.ex_make I.kIn M (by rw[←r.length];exact hlen) (codeAny_mono (F.run _ X.stack _ _ ⟨Value.ref (hp.objs.size+1)::us,[]⟩ (Value.ref (hp.objs.size+1)::us) _ _ E0 (hr.make D us []) (I2.env0.make D us []) hb2 r2 hq) λ r s' hq'=>?_));cases r with
 |error e=>exact False.elim hq'
 |ok fl =>
  cases fl with
  |ret u =>
   obtain⟨v,H',I3,rv,q0⟩:=I2.after hq';obtain⟨ev,q3⟩:=hQ0 v H' q0;subst ev;exact⟨rv,⟨V.ref (hp.objs.size+1),H',I3,rfl,q3⟩⟩
  |next=>exact False.elim hq'
  |brk=>exact False.elim hq'
  |cont=>exact False.elim hq'
end
section
variable {P:Program}{w:World}{K:W.Frag}{mg:Str->Option Value}{base:Heap}{N:List Str}{qual:Str}{scope:Scope}{f:Addr}{cd:Value}{A:Around}{outer:List Env}{s:Shared}{H:Hp}{E:XK}
noncomputable def zMi (C:Addr) (sp:Sp) (E:XK) (t:TA):TS:=λ _ σ H=>t σ H λ vs H1=>vs.length<=sizeLine/\∀ea,H1 ea=none->sp (.ref ea::vs) (upd H1 ea (exN ea C)) (λ v H2=>v = .non/\∃dx,H2 ea=some (exW ea C dx)/\E (.ref C) (some dx) (less H2 ea)) E0
theorem zJW {x:Str}{np cpos pos:Pos}{e0:Expr}{es:List Expr}{t:TA}{C R fi:Addr}{fd:FuncData}{ps:List Str}{k:Nat}{sp:Sp}(hg:Gl (cxOf (CXG P w) P w K mg base N qual scope f cd A outer s H E) x) (hm:mg x=some (.ref C)) (M:W.Exc3 K C R fi) (F:FnOk P w K mg base CX0 k fi fd ps sp) (hr:Room (k+1) (cxOf (CXG P w) P w K mg base N qual scope f cd A outer s H E).A) (hb:Binds K fd ps []) (hkp:W.keepIn K (.ref C)=true)
  (ha:PA (cxOf (CXG P w) P w K mg base N qual scope f cd A outer s H E) (e0::es) t) (hdb:(x == ("__debug__" : Str))=false:=by decide)
  (he:starEach (e0::es) (cxOf (CXG P w) P w K mg base N qual scope f cd A outer s H E).env=(false,eval e0 (cxOf (CXG P w) P w K mg base N qual scope f cd A outer s H E).env)::starEach es (cxOf (CXG P w) P w K mg base N qual scope f cd A outer s H E).env:=by rfl)
  (hpl:(backTo cpos (starEach es (cxOf (CXG P w) P w K mg base N qual scope f cd A outer s H E).env)).any (·.1)=false:=by rfl) :
  PS (cxOf (CXG P w) P w K mg base N qual scope f cd A outer s H E) (.Raise (some (.Call (.Name x np) (e0::es) [] cpos)) none pos) (zMi C sp E t):=by
 intro jP s1 σ H1 D I h;rw[arm_exec_Raise];refine lA (wpAny_standAt ?_);unfold raiseStmt;dsimp only;refine lA (lA (wpAny_Call_Name_kw (zE2 I hg hm ?_ hdb)));refine W.callWith_K (h₀:=base) I.ok.mod.kin hkp (thn (ha cpos jP s1 σ H1 _ I h) λ us s2 ⟨vs,H2,I2,r,hl,q⟩=>⟨I2.kIn,?_⟩) he hpl;refine thn (zJV (Q:=λ v H3=>∃ea dx,v = .ref ea/\s2.heap.get? ea=none/\H3 ea=some (exW ea C dx)/\E (.ref C) (some dx) (less H3 ea)) M F hr hb I2 r hl λ ea e1 e2=>⟨_,q ea e1,λ v H3 ⟨ev,dx,a,b⟩=>⟨ev,ea,dx,rfl,e2,a,b⟩⟩) λ v s3 ⟨y,H3,I3,rx,ea,dx,ex,hnw,hea,q3⟩=>lA (wpAny_standAt (lB ?_));subst ex;obtain rfl:v=Value.ref ea:=rx;obtain⟨t0,ho⟩:=zKU I3.hok hea
 have hnew:s.heap.get? ea=none:=by
  cases z:s.heap.get? ea with
  |none=>rfl
  |some o =>
   obtain⟨o',z'⟩:=(show Un (frs outer) [] H H2 s.heap s2.heap from I2.base).there ea o z (by simp);rw[hnw] at z';cases z'
 have hE:=zKh I3 hea hnew q3;have hh:=I.ok.hd rfl;obtain⟨hp,g,d,tk,os⟩:=s3;have Lb:∀{Mo:Model},W.Looks Mo hp (isSubtype (.ref C) (.type "BaseException")) true:=λ{Mo}=>W.looks_mroIn (M:=Mo) I3.kIn M.bs;obtain⟨o,ho,hc,hdat⟩:∃o:Obj,hp.get? ea=some o/\o.cls = .ref C/\o.data=W.xdata (.ref t0):=⟨_,ho,rfl,rfl⟩
 repeat (first|(with_reducible refine wpAny_loadPart_at ho ?_;rw[hc])|with_reducible refine Lb.at ?_|wp_step)
 obtain⟨dd0,cd0,sl0,hK,_,_⟩:=M.cls;have hD:=I3.kIn _ _ hK
 repeat (first|exact wpAny_raiseNew_none hh hE|with_reducible refine wpAny_loadPart_at hD ?_|(with_reducible refine wpAny_loadPart_at ho ?_;rw[hc])|with_reducible refine Lb.at ?_|(with_reducible rw[hdat])|wp_step)
end
theorem Fun.okG {P:Program}{w:World}{K:W.Frag}{mg:Str->Option Value}{base:Heap}{x qual:Str}{st:Stmt}{f:Addr}{fd:FuncData}{N ps:List Str}{k:Nat}{sp:Sp}(F:Fun K x qual st f fd) (S:zAY N ps (zAJ st)) (len:∀vs H Q E,sp vs H Q E->vs.length=ps.length)
  (hbody:∀(cdv:Value) (A:Around) (outer:List Env) (s:Shared) (H:Hp) (vs:List V) (Q:VK) (E:XK),Room k (A.deeper (envOfC qual (zAJ st) s.heap.objs.size f cdv))->sp vs H Q E ->
   ∃t,PSs (cxOf (CXG P w) P w K mg base N qual (zAJ st) f cdv A outer s H E) (zCL st) t/\t { nx:=λ U H'=>Q .non H',rt:=Q } (start N vs) H):FnOk P w K mg base (CXG P w) (k+1) f fd ps sp:=by
 obtain⟨oc,od,kV,doc,pm,an,cdv,ct,osl,rfl,lk,hcd⟩:=F.ex;exact fn_of lk hcd S len λ A outer s H vs Q E hr hsp=>hbody cdv A outer s H vs Q E hr hsp
structure FnG (P:Program) (w:World) (K:W.Frag) (mg:Str->Option Value) (base:Heap) (k:Nat) (x:Str) (f:Addr) (fd:FuncData) (ps:List Str) (sp:Sp):Prop where
 ok:FnOk P w K mg base (CXG P w) k f fd ps sp
 bd:Binds K fd ps []
 kp:W.keepIn K (.ref f)=true
 gl:mg x=some (.ref f)
theorem FnG.up {P:Program}{w:World}{K:W.Frag}{mg:Str->Option Value}{base:Heap}{j k:Nat}{x:Str}{f:Addr}{fd:FuncData}{ps:List Str}{sp:Sp}(F:FnG P w K mg base j x f fd ps sp) (h:j<=k):FnG P w K mg base k x f fd ps sp :=
 ⟨F.ok.mono h,F.bd,F.kp,F.gl⟩
abbrev HRG:=Ends->Addr->Option Addr->St->Hp->Prop
section
variable {X:Cx}{jP:List (Addr × Obj)}{σ:St}{H H':Hp}{s s':Shared}{ea C dx:Addr}{dd:Option Addr}{r:HRG}
noncomputable def PHG (X:Cx) (hs:List ExceptHandler) (r:HRG):Prop:=∀(jP:List (Addr × Obj)) (D:Ends) (σ:St) (ea C:Addr) (dd:Option Addr) (H H0:Hp) (s s0:Shared),Inv X jP σ H0 s0->Flew X.prog X.w X.stack H0 s0 H ea C s->DicAt s.heap ea dd->r D C dd σ H ->
 wpAny (model X.prog X.w) X.A (handleBy (.ref ea) X.env hs) (SP X jP D) X.xe s
theorem zMx:PHG X [] (λ U U U U U=>False):=λ U U U U U U U U U U U U U h=>False.elim h
end
noncomputable def hPlG (K:W.Frag) (Da:Addr) (ts:TS) (r:HRG):HRG:=λ D C dd σ H=>W.ExCls K C/\∃b,W.mroIn K C (.ref Da)=some b /\
 if b=true then ∀ea,H ea=none->ts D σ (upd H ea (exO ea C)) else r D C dd σ H
section
variable {X:Cx}{x n:Str}{np pos:Pos}{i:Nat}{b0:Stmt}{suite:List Stmt}{rest:List ExceptHandler}{ts:TS}{r:HRG}{Da:Addr}
theorem zN1 (hg:Gl X x) (hm:X.mg x=some (.ref Da)) (hD:ExC X.K Da) (hs:∀ea,PSs (X.inX ea) (b0::suite) ts) (hr:PHG X rest r) (hdb:(x == ("__debug__" : Str))=false:=by decide) :
  PHG X (.ExceptHandler (some (.Name x np)) none (b0::suite) pos::rest) (hPlG X.K Da ts r):=by
 intro jP D σ ea C dd H H0 s s0 I F hdic h;obtain⟨hC,b,hb,h⟩:=h;obtain⟨B,a0,hfl,cov⟩:=F.fly;obtain⟨oe,vs,e1,e2,e3,_⟩:=hfl.first;have I1:=F.inv I;refine wpAny_handleBy_cons (codeAny_handlers_test (zE2 (X:=X.inX ea) (I1.inX ea) hg hm ?_ hdb)) (by intro q;cases q);obtain⟨hp,g,d,tk,os⟩:=s;refine W.ex_matches I1.kIn ⟨oe,vs,e1,e2,e3⟩ hD.ty hD.bs hD.ic hb ?_;cases b with
 |false=>exact hr jP D σ ea C dd H H0 _ s0 I F hdic (by simpa using h)
 |true =>
  refine codeAny_handlers_suite ?_;refine PyProof.Rows.lands_againW hfl λ h' hfl' sm=>?_;have F2:=F.on I hfl cov hfl' sm;have I2:=F2.caught I;refine wpAny_mono (hs ea jP _ _ _ _ (I2.inX ea) ((by simpa using h:∀ea,H ea=none->ts D σ (upd H ea (exO ea C))) ea F.hn)) (λ f s4 q=>?_) λ U U z=>False.elim z;exact SP.outX I.ok q
noncomputable def eTryG (r:HRG) (D:Ends) (σ:St):XK:=λ c dd H=>∃C,c = .ref C/\r D C dd σ H
theorem zN5 {hs:List ExceptHandler}{jP pins':List (Addr × Obj)}{D:Ends}{σ:St}{H:Hp}{s s':Shared}{e:Value}(ok:X.Ok) (hf:X.env.frame=some X.env.locals) (hst:X.stack=X.env::X.outer) (ph:PHG X hs r) (I:Inv (X.inTry hs jP D) pins' σ H s) (h:CXG X.prog X.w X.stack H s (eTryG r D σ) e s') :
  (X.inTry hs jP D).xe e s':=by
 obtain⟨ea,C,dd,H',rfl,F,hdic,C2,e2,q⟩:=h;cases e2;have I0:=Inv.outTry ok I;obtain⟨B,a0,hfl,cov⟩:=F.fly;have ff:=ok.frames;rw[hst] at ff;have hfl2:=hfl;rw[hst] at hfl2;obtain⟨hp,g,d,tk,os⟩:=s';refine wpAny_mono (zFr (zEP _ _) (wpAny_looks_onW (M:=model X.prog X.w) (A:=X.A) (E:=X.xe) (s:=⟨hp,g,d,tk,os⟩) (Q:=λ U s2=>∃h4,s2=(⟨h4,g,d,tk,os⟩:Shared)/\Heap.HeldW B (X.env::X.outer) ea (.ref C) a0 X.env.locals h4/\hp.UpToSlots h4) ff hf hfl2 λ h4 a b=>⟨h4,rfl,a,b⟩)) (λ _ s2 ⟨⟨h4,e4,hh4,sm4⟩,kd4⟩=>?_) λ U U z=>z;subst e4;refine wpAny_mono (zFr (zEO _ _) (wpAny_landsW (M:=model X.prog X.w) (A:=X.A) (E:=X.xe) (s:=⟨h4,g,d,tk,os⟩) (Q:=λ U s3=>∃h5,s3=(⟨h5,g,d,tk,os⟩:Shared)/\Heap.FlyingW B (X.env::X.outer) ea (.ref C) a0 h5/\h4.UpToSlots h5) hh4 λ h5 a b=>⟨h5,rfl,a,b⟩)) (λ _ s3 ⟨⟨h5,e5,hfl5,sm5⟩,kd5⟩=>?_) λ U U z=>z;subst e5;rw[←hst] at hfl5;exact ph jP D σ ea C dd H' H _ s I0 (F.on I0 hfl cov hfl5 (sm4.trans sm5)) ((hdic.keep kd4).keep kd5) q
noncomputable def zJF (sp:Sp) (dvs:List V) (r:HRG) (D:Ends) (t:TA):TE:=λ σ H Q=>t σ H λ vs H1=>sp (vs++dvs) H1 Q (eTryG r D σ)
theorem zJj {hs:List ExceptHandler}{pins0:List (Addr × Obj)}{D:Ends}{k:Nat}{f:Addr}{fd:FuncData}{ps:List Str}{sp:Sp}{dvs:List V}{ds:List Value}{p pos:Pos}{e:Expr}{es:List Expr}{t:TA}
  (hf:X.env.frame=some X.env.locals) (hst:X.stack=X.env::X.outer) (ph:PHG X hs r)
  (F:FnOk X.prog X.w X.K X.mg X.base (CXG X.prog X.w) k f fd ps sp) (hr:Room k X.A) (hg:Gl X x) (hm:X.mg x=some (.ref f)) (hk:W.keepIn X.K (.ref f)=true) (hb:Binds X.K fd ps ds) (hd:Vals dvs ds)
  (ha:PA (X.inTry hs pins0 D) (e::es) t) (hdb:(x == ("__debug__" : Str))=false:=by decide) (he:starEach (e::es) X.env=(false,eval e X.env)::starEach es X.env:=by rfl) (hpl:(backTo pos (starEach es X.env)).any (·.1)=false:=by rfl) :
  PE (X.inTry hs pins0 D) (.Call (.Name x p) (e::es) [] pos) (zJF sp dvs r D t):=by
 intro jP s σ H Q I h;have ok:X.Ok:=⟨I.ok.mod,I.ok.kind,I.ok.glob,I.ok.blt,I.ok.above,I.ok.inj,I.ok.has,I.ok.cab,I.ok.hd,I.ok.frames,I.ok.stk,I.ok.exf,I.ok.bs,I.ok.bsz,I.ok.noex,I.ok.exfs,I.ok.funs,I.ok.frf⟩;refine wpAny_Call_Name_kw (zE2 (X:=X.inTry hs pins0 D) I hg hm ?_ hdb);refine W.callWith_K (h₀:=X.base) I.ok.mod.kin hk (thn (ha pos jP s σ H _ I h) λ us s1 ⟨vs,H1,I1,rv,q⟩=>⟨I1.kIn,?_⟩) he hpl;have r2:Vals (vs++dvs) (us++ds):=rv.append hd;have hl:(us++ds).length=ps.length:=by rw[←r2.length];exact F.len _ _ _ _ q
 refine wpAny_call (codeAny_mono (F.run X.A X.stack s1 H1 ⟨us,[]⟩ (us++ds) (vs++dvs) Q _ hr I1.env0 (hb s1 us I1.kIn hl) r2 q) λ rr s' hq=>?_);cases rr with
 |error e=>exact zN5 ok hf hst ph I1 hq
 |ok fl =>
  cases fl with
  |ret u=>exact I1.after hq
  |next=>exact False.elim hq
  |brk=>exact False.elim hq
  |cont=>exact False.elim hq
end
noncomputable def zNl (P:Program) (w:World) (K:W.Frag) (mg:Str->Option Value) (base:Heap) (k:Nat) (tn:TE) (t:TA):TE:=λ σ H Q=>tn σ H λ x H1=>∃(f:Addr) (fd:FuncData) (ps:List Str) (sp:Sp),x = .ref f/\FnOk P w K mg base CX0 k f fd ps sp/\Binds K fd ps []/\W.keepIn K (.ref f)=true/\t σ H1 λ vs H2=>sp vs H2 Q E0
theorem zLK {X:Cx}{x:Str}{p pos:Pos}{tn:TE}{t:TA}{e:Expr}{es:List Expr}{k:Nat}(hn:PE X (.Name x p) tn) (hr:Room k X.A) (ha:PA X (e::es) t) (he:starEach (e::es) X.env=(false,eval e X.env)::starEach es X.env:=by rfl) (hpl:(backTo pos (starEach es X.env)).any (·.1)=false:=by rfl) :
  PE X (.Call (.Name x p) (e::es) [] pos) (zNl X.prog X.w X.K X.mg X.base k tn t):=by
 intro jP s σ H Q I h;refine wpAny_Call_Name_kw (thn (hn jP s σ H _ I h) λ u s1 z=>?_);obtain⟨y,H1,I1,ry,f,fd,ps,sp,ey,F,hb,hk,q⟩:=z;subst ey;obtain rfl:u=Value.ref f:=ry;refine W.callWith_K (h₀:=X.base) I.ok.mod.kin hk (thn (ha pos jP s1 σ H1 _ I1 q) λ us s2 ⟨vs,H2,I2,r,q2⟩=>⟨I2.kIn,?_⟩) he hpl;exact zMG (dvs:=[]) F hr hb .nil pass0 I2 r (by rw[List.append_nil];exact q2)
end L2
namespace L2
open PySem
abbrev RP:=Tr->Tr->List (Str × Str)->Prop
inductive Due (t u:Tr) (ks:List (Str × Str)):List (Str × RP)->Option Str->Prop
 |nil:Due t u ks [] none
 |yes {w:Str}{R:RP}{L:List (Str × RP)}:R t u ks->Due t u ks ((w,R)::L) (some w)
 |no {w:Str}{R:RP}{L:List (Str × RP)}{r:Option Str}:¬R t u ks->Due t u ks L r->Due t u ks ((w,R)::L) r
noncomputable def rLeaf:RP:=λ t U U=>t.kd.leaf=true
noncomputable def zEl:RP:=λ t u U=>¬(letN t).Nodup\/¬(letN u).Nodup
noncomputable def rFree:RP:=λ t u U=>t.fv []≠[]\/u.fv []≠[]
noncomputable def rTold:RP:=λ t u ks=>(∃x∈t.subs,noPcT x)\/zHB (gcnt t) (gcnt t++gcnt u)\/∃g∈u.subs.filter isGap,badP ks g
noncomputable def rGap:RP:=λ t u U=>∃g∈(gcnt u).map (·.1),g∉(gcnt t).map (·.1)
noncomputable def rKind:RP:=λ t U ks=>∃k∈ks,badK (gcnt t) k
noncomputable def rLoud:RP:=λ t u U=>loudT u/\¬loudT t
noncomputable def zAr:List (Str × RP):=[("leaf", rLeaf),("twice", zEl),("free", rFree),("told", rTold),("gap", rGap),("kind", rKind),("loud", rLoud)]
theorem zEn {α β:Type}{R:α->β->Prop}{as:List α}{bs:List β}{i:Nat}{a:α}(h:Paired R as bs):as[i]?=some a->∃b,bs[i]?=some b/\R a b:=by
 induction h generalizing i with
 |nil=>exact λ e=>nomatch e
 |cons h t ih=>cases i with
  |zero=>exact λ e=>⟨_,rfl,by cases e;exact h⟩
  |succ i=>exact λ e=>ih (i:=i) (by simpa using e)
theorem zJb {α β:Type}{R:α->β->Prop}{as:List α}{bs:List β}(h:Paired R as bs):as.length=bs.length:=by
 induction h with
 |nil=>rfl
 |cons _ t ih=>exact congrArg (·+1) ih
noncomputable def TupK (K:W.Frag) (a:Addr) (xs:List V):Prop:=∃(o:Obj) (its:Array Value) (n:Nat),K.lookup a=some o/\o.cls = .type "tuple" /\ o.data = .seq its n/\its.size<=sizeLine/\Vals xs its.toList
theorem TupK.sq {K:W.Frag}{H:Hp}{a:Addr}{xs:List V}(h:TupK K a xs):SqT K H a xs:=.inr h
noncomputable def Kd.many:Kd->Nat
 |.say=>1|.add=>2|.sub=>2|.mul=>2|.thn=>2|.ite=>3|.lett=>2
 |_=>0
abbrev Scl:=List (Kd × List Nat)
structure zDi (k:Kd) (r:List Nat):Prop where
 lf:k.leaf=false
 ln:r.length=k.many+1
 c1:1<=r.getD 0 0
 c9:r.getD 0 0<=9
 ks:∀x∈r.drop 1,1<=x/\x<=3
noncomputable def rowF (rs:Scl) (k:Kd):List Nat:=(rs.lookup k).getD [1,1,1,1]
structure GoodF (ρ:Kd->List Nat):Prop where
 one:∀k,k.leaf=true->ρ k=[1,1,1,1]
 ln:∀k,k.many+1<=(ρ k).length/\(ρ k).length<=4
 c9:∀k,(ρ k).getD 0 0<=9
 ks:∀k,∀x∈(ρ k).drop 1,1<=x/\x<=3
theorem zJ5 (k:Kd):k.many<=3:=by cases k<;>decide
theorem zEx:∀{rs:Scl},(∀p∈rs,zDi p.1 p.2)->∀{k:Kd}{r:List Nat},rs.lookup k=some r->zDi k r
 |[],_,k,r,h=>by simp at h
 | (k0,r0)::rs,g,k,r,h=>by
  rw[List.lookup_cons] at h
  by_cases e:k=k0
  ·subst e
   simp at h;subst h;exact g (k,r0) lQ
  ·have:(k == k0)=false:=by simpa using e
   rw[this] at h;exact zEx (λ p hp=>g p (lR _ hp)) h
theorem zDo {rs:Scl}(g:∀p∈rs,zDi p.1 p.2):GoodF (rowF rs):=by
 have key:∀k,rowF rs k=[1,1,1,1]\/zDi k (rowF rs k):=λ k=>by
  unfold rowF;cases e:rs.lookup k with
  |none=>exact .inl rfl
  |some r=>exact .inr (zEx g e)
 refine⟨λ k hk=>?_,λ k=>?_,λ k=>?_,λ k x hx=>?_⟩
 ·rcases key k with h|h
  ·exact h
  ·rw[h.lf] at hk;cases hk
 ·have:=zJ5 k
  rcases key k with h|h
  ·rw[h];simp;omega
  ·rw[h.ln];omega
 ·rcases key k with h|h
  ·rw[h];decide
  ·exact h.c9
 ·rcases key k with h|h
  ·rw[h] at hx
   simp at hx;omega
  ·exact h.ks x hx
noncomputable def dot:List Nat->List Nat->Nat
 |k::ks,x::xs=>k * x+dot ks xs
 |_,_=>0
noncomputable def wrt (ρ:Kd->List Nat):Tr->Nat
 |.say a=>(ρ .say).getD 0 0+dot ((ρ .say).drop 1) [wrt ρ a]
 |.bin o a b=>(ρ o.kd).getD 0 0+dot ((ρ o.kd).drop 1) [wrt ρ a,wrt ρ b]
 |.ite a b c=>(ρ .ite).getD 0 0+dot ((ρ .ite).drop 1) [wrt ρ a,wrt ρ b,wrt ρ c]
 |.lett _ a b=>(ρ .lett).getD 0 0+dot ((ρ .lett).drop 1) [wrt ρ a,wrt ρ b]
 |_=>1
theorem zC7 (ks:List Nat):dot ks []=0:=by cases ks<;>rfl
abbrev TW:=Tr × Nat
noncomputable def zBH (ρ:Kd->List Nat) (p:TW):List TW:=List.zipWith (λ t k=>(t,p.2 * k)) p.1.parts ((ρ p.1.kd).drop 1)
noncomputable def szZ (L:List TW):Nat:=(L.map λ p=>p.1.size).sum
theorem zJH (a b:List TW):szZ (a++b)=szZ a+szZ b:=by simp[szZ]
theorem zJG (w:Nat):∀(ts:List Tr) (ks:List Nat),szZ (List.zipWith (λ t k=>(t,w * k)) ts ks)<=(ts.map Tr.size).sum
 |[],ks=>by rw[List.zipWith_nil_left];exact lZ _
 |_::_,[]=>by rw[List.zipWith_nil_right];exact lZ _
 |t::ts,k::ks=>by
  have ih:=zJG w ts ks;unfold szZ at ih ⊢;rw[List.zipWith_cons_cons,List.map_cons,List.sum_cons,List.map_cons,List.sum_cons];dsimp only;omega
theorem zEa (ρ:Kd->List Nat):∀L:List TW,szZ (L.flatMap (zBH ρ))+L.length<=szZ L
 |[]=>lS _
 |p::L=>by
  have ih:=zEa ρ L;have h1:=zJG p.2 p.1.parts ((ρ p.1.kd).drop 1);have h2:=zBX p.1;rw[List.flatMap_cons,zJH];have e1:szZ (p::L)=p.1.size+szZ L:=by simp[szZ]
  rw[e1,List.length_cons];unfold zBH at h1 ih ⊢;omega
noncomputable def Wb (T:Nat) (p:TW):Prop:=p.2 * 3 ^ p.1.size<=3 ^ T
theorem Wb.child {T:Nat}{t q:Tr}{w k:Nat}(h:Wb T (t,w)) (hq:q.size+1<=t.size) (hk:k<=3):Wb T (q,w * k):=by
 unfold Wb at h ⊢;dsimp only at h ⊢;refine mI ?_ h;have e1:3 ^ (q.size+1)<=3 ^ t.size:=Nat.pow_le_pow_right (by decide) hq;rw[Nat.mul_assoc];refine Nat.mul_le_mul_left w (mI ?_ e1);rw[Nat.pow_succ,Nat.mul_comm];exact Nat.mul_le_mul_left _ hk
theorem Wb.lt {T:Nat}{p:TW}(h:Wb T p) (hT:T<=310):p.2<2 ^ 500:=by
 unfold Wb at h;have h1:p.2<=p.2 * 3 ^ p.1.size:=Nat.le_mul_of_pos_right _ (Nat.pow_pos (by decide));have h2:3 ^ T<=3 ^ 310:=Nat.pow_le_pow_right (by decide) hT;have h3:3 ^ 310<2 ^ 500:=by decide +kernel
 omega
theorem zGw {ks:List Nat}(h:∀x∈ks,x<=3):∀(xs:List Nat),dot ks xs<=3 * xs.sum
 |[]=>by rw[zC7];exact lZ _
 |x::xs=>by
  cases ks with
  |nil=>exact lZ _
  |cons k ks =>
   have ih:=zGw (ks:=ks) (λ y hy=>h y (lR _ hy)) xs;have hk:=h k lQ;have:k * x<=3 * x:=Nat.mul_le_mul_right x hk;rw[dot,List.sum_cons,Nat.mul_add];omega
theorem p16 (n:Nat) (h:1<=n):16<=16 ^ n:=by
 have:16 ^ 1<=16 ^ n:=Nat.pow_le_pow_right (by decide) h;simpa using this
theorem zDj {ρ:Kd->List Nat}(g:GoodF ρ):∀t:Tr,wrt ρ t<=16 ^ t.size
 |.num _=>by simp[wrt,Tr.size]
 |.name _=>by simp[wrt,Tr.size]
 |.ask _=>by simp[wrt,Tr.size]
 |.stop _=>by simp[wrt,Tr.size]
 |.gap _ _=>by simp[wrt,Tr.size]
 |.say a=>by
  have ih:=zDj g a;have c:=g.c9 .say;have d:=zGw (ks:=(ρ .say).drop 1) (λ x hx=>(g.ks .say x hx).2) [wrt ρ a];have pa:=p16 a.size (zAi a);simp only[List.sum_cons,List.sum_nil] at d;rw[wrt,Tr.size,Nat.pow_succ];omega
 |.bin o a b=>by
  have ih:=zDj g a;have ih2:=zDj g b;have c:=g.c9 o.kd;have d:=zGw (ks:=(ρ o.kd).drop 1) (λ x hx=>(g.ks o.kd x hx).2) [wrt ρ a,wrt ρ b];have pa:=p16 a.size (zAi a);have pb:=p16 b.size (zAi b);simp only[List.sum_cons,List.sum_nil] at d;rw[wrt,Tr.size,Nat.pow_succ,Nat.pow_add];have m1:16 ^ a.size * 16<=16 ^ a.size * 16 ^ b.size:=Nat.mul_le_mul_left _ pb;have m2:16 * 16 ^ b.size<=16 ^ a.size * 16 ^ b.size:=Nat.mul_le_mul_right _ pa;omega
 |.lett _ a b=>by
  have ih:=zDj g a;have ih2:=zDj g b;have c:=g.c9 .lett;have d:=zGw (ks:=(ρ .lett).drop 1) (λ x hx=>(g.ks .lett x hx).2) [wrt ρ a,wrt ρ b];have pa:=p16 a.size (zAi a);have pb:=p16 b.size (zAi b);simp only[List.sum_cons,List.sum_nil] at d;rw[wrt,Tr.size,Nat.pow_succ,Nat.pow_add];have m1:16 ^ a.size * 16<=16 ^ a.size * 16 ^ b.size:=Nat.mul_le_mul_left _ pb;have m2:16 * 16 ^ b.size<=16 ^ a.size * 16 ^ b.size:=Nat.mul_le_mul_right _ pa;omega
 |.ite a b e=>by
  have ih:=zDj g a;have ih2:=zDj g b;have ih3:=zDj g e;have c:=g.c9 .ite;have d:=zGw (ks:=(ρ .ite).drop 1) (λ x hx=>(g.ks .ite x hx).2) [wrt ρ a,wrt ρ b,wrt ρ e];have pa:=p16 a.size (zAi a);have pb:=p16 b.size (zAi b);have pe:=p16 e.size (zAi e);simp only[List.sum_cons,List.sum_nil] at d;rw[wrt,Tr.size,Nat.pow_succ,Nat.pow_add,Nat.pow_add];have m1:16 ^ a.size * 16<=16 ^ a.size * 16 ^ b.size:=Nat.mul_le_mul_left _ pb;have m2:16 * 16 ^ b.size<=16 ^ a.size * 16 ^ b.size:=Nat.mul_le_mul_right _ pa;have m3:16 ^ a.size * 16 ^ b.size * 16<=16 ^ a.size * 16 ^ b.size * 16 ^ e.size:=Nat.mul_le_mul_left _ pe;have m4:16 * 16 ^ e.size<=16 ^ a.size * 16 ^ b.size * 16 ^ e.size:=Nat.mul_le_mul_right _ (mI (by omega) m1);omega
theorem zL2 {ks xs:List Nat}:∀{i k x:Nat},ks[i]?=some k->xs[i]?=some x->dot (ks.take (i+1)) (xs.take (i+1))=dot (ks.take i) (xs.take i)+k * x:=by
 induction ks generalizing xs with
 |nil=>intro i k x h;simp at h
 |cons a ks ih =>
  intro i k x h1 h2;cases xs with
  |nil=>simp at h2
  |cons b xs =>
   cases i with
   |zero =>
    simp at h1 h2;subst h1 h2;simp[dot]
   |succ i =>
    simp only[List.take_succ_cons,dot];rw[ih (by simpa using h1) (by simpa using h2)];omega
theorem zNW (ks xs:List Nat):dot (ks.take xs.length) xs=dot ks xs:=by
 induction xs generalizing ks with
 |nil=>simp[zC7]
 |cons x xs ih =>
  cases ks with
  |nil=>rfl
  |cons k ks =>
   show dot (k::ks.take xs.length) (x::xs)=_;rw[dot,dot,ih]
noncomputable def natV (r:List Nat):List V:=r.map λ(n:Nat)=>V.int (n:Int)
theorem zDx (r:List Nat):(natV r).length=r.length:=by simp[natV]
theorem zLf {r:List Nat}{i n:Nat}(h:r[i]?=some n):(natV r)[i]?=some (.int (n:Int)):=by simp[natV,h]
noncomputable def Sf (H H':Hp):Prop:=∀b u,H b=some u->H' b=some u\/∃o kvs,u=HO.dK kvs/\H' b=some (.frz o (.dK kvs))
theorem Same.sf {H H':Hp}(h:Same H H'):Sf H H':=λ b u e=>.inl (h b u e)
theorem Sf.refl (H:Hp):Sf H H:=(Same.refl H).sf
theorem Sf.trans {H H1 H2:Hp}(a:Sf H H1) (b:Sf H1 H2):Sf H H2:=λ c u e=>by
 rcases a c u e with h|⟨o,kvs,rfl,h⟩
 ·exact b c u h
 ·rcases b c _ h with h|⟨o',kvs',z,h⟩
  ·exact .inr ⟨o,kvs,rfl,h⟩
  ·cases z
theorem Sf.tk {H H':Hp}(h:Sf H H'):Tk H H':=λ b xs e=>by
 rcases h b _ e with h|⟨o,kvs,z,h⟩
 ·exact h
 ·cases z
theorem Sf.rd {H H':Hp}(h:Sf H H') {b:Addr}{kvs:List (Key × V)}(e:Rd H b (.dK kvs)):Rd H' b (.dK kvs):=by
 rcases e with e|⟨o,e⟩
 ·rcases h b _ e with h|⟨o,kvs',z,h⟩
  ·exact .inl h
  ·cases z
   exact .inr ⟨o,h⟩
 ·rcases h b _ e with h|⟨o',kvs',z,h⟩
  ·exact .inr ⟨o,h⟩
  ·cases z
theorem Sf.frz {H:Hp}{d:Addr}{kvs:List (Key × V)}(o:Obj) (h:H d=some (.dK kvs)):Sf H (upd H d (.frz o (.dK kvs))):=λ b u e=>by
 by_cases z:b=d
 ·subst z
  rw[h] at e;cases e;exact .inr ⟨o,kvs,rfl,zAB⟩
 ·exact .inl (by rw[zAW z];exact e)
noncomputable def RowAt (H:Hp) (p:Kd × List Nat) (kv:Key × V):Prop:=zDi p.1 p.2/\kv.1=Sum.inr p.1.s/\∃b,kv.2 = .ref b/\H b=some (.tup (natV p.2))
theorem RowAt.mono {H H':Hp}(k:Tk H H') {p:Kd × List Nat}{kv:Key × V}:RowAt H p kv->RowAt H' p kv
 |⟨g,e,b,e2,h⟩=>⟨g,e,b,e2,k _ _ h⟩
structure ScD (H:Hp) (d:Addr) (rs:Scl) (kvs:List (Key × V)):Prop where
 rd:Rd H d (.dK kvs)
 ps:Paired (RowAt H) rs kvs
 nd:(kvs.map (·.1)).Nodup
 le:kvs.length<=7
noncomputable def ScAt (H:Hp) (d:Addr) (rs:Scl):Prop:=∃kvs,ScD H d rs kvs
theorem ScD.mono {H H':Hp}(h:Sf H H') {d:Addr}{rs:Scl}{kvs:List (Key × V)}(s:ScD H d rs kvs):ScD H' d rs kvs:=⟨h.rd s.rd,Paired.mapP s.ps λ U U z=>z.mono h.tk,s.nd,s.le⟩
theorem ScAt.mono {H H':Hp}(h:Sf H H') {d:Addr}{rs:Scl}:ScAt H d rs->ScAt H' d rs
 |⟨kvs,s⟩=>⟨kvs,s.mono h⟩
theorem zE8 {H:Hp}{rs:Scl}{kvs:List (Key × V)}(h:Paired (RowAt H) rs kvs):∀p∈rs,zDi p.1 p.2:=by
 induction h with
 |nil=>exact λ U h=>nomatch h
 |cons r q ih =>
  intro p h;rcases lP.mp h with rfl|z
  ·exact r.1
  ·exact ih p z
theorem zD4 {H:Hp}{rs:Scl}{kvs:List (Key × V)}(z:Paired (RowAt H) rs kvs) (k:Kd) :
  (rs.lookup k=none/\valV kvs (Sum.inr k.s:Key)=none)\/∃r b,rs.lookup k=some r/\valV kvs (Sum.inr k.s:Key)=some (.ref b)/\H b=some (.tup (natV r)):=by
 induction z with
 |nil=>exact .inl ⟨rfl,rfl⟩
 | @cons p kv _ _ r q ih =>
  obtain⟨k0,r0⟩:=p;obtain⟨g,e,b,e2,h⟩:=r;dsimp only at e e2 h
  by_cases z:k=k0
  ·subst z
   refine .inr ⟨r0,b,by simp[List.lookup_cons],?_,h⟩;rw[zBD e,e2]
  ·have z1:(k == k0)=false:=by simpa using z
   have z2:¬kv.1=(Sum.inr k.s:Key):=λ w=>z (Kd.inj (Sum.inr.inj (e.symm.trans w))).symm;rw[zBE z2,List.lookup_cons,z1];exact ih
noncomputable def onesV:List V:=[.int 1,.int 1,.int 1,.int 1]
noncomputable def OnesK (K:W.Frag) (a:Addr):Prop:=∃(o:Obj) (its:Array Value) (n:Nat),K.lookup a=some o/\o.cls = .type "tuple" /\ o.data = .seq its n/\its.size<=sizeLine/\Vals onesV its.toList
noncomputable def ManyK (K:W.Frag) (a:Addr):Prop:=∀k:Kd,k.leaf=false->∃t,W.nsIn K a k.s=some (some (.int (k.many:Int) t))
theorem zMH {K:W.Frag}{H:Hp}{rs:Scl}{d oa:Addr}{kvs:List (Key × V)}(s:ScD H d rs kvs) (hO:OnesK K oa) (k:Kd):∃(o:Option V) (p:Addr),DGet H d (.str k.s) o/\o.getD (.ref oa) = .ref p/\SqT K H p (natV (rowF rs k)):=by
 have g:DGet H d (.str k.s) (valV kvs (Sum.inr k.s:Key)):=.inl ⟨kvs,Sum.inr k.s,s.rd,rfl,rfl⟩;rcases zD4 s.ps k with ⟨h1,h2⟩|⟨r,b,h1,h2,h3⟩
 ·refine⟨_,oa,g,by rw[h2];rfl,?_⟩
  have e:rowF rs k=[1,1,1,1]:=by unfold rowF;rw[h1];rfl
  rw[e];exact .inr hO
 ·refine⟨_,b,g,by rw[h2];rfl,?_⟩
  have e:rowF rs k=r:=by unfold rowF;rw[h1];rfl
  rw[e];exact SqT.of h3
theorem cut1 (x:V) (xs:List V):cutV (x::xs) (some 1) none=xs:=by
 have e1:HT.sIx (x::xs).length 0 (some 1)=1:=by
  have:=HT.sIx_nat (x::xs).length 0 1;rw[show ((1:Nat):Int)=1 from rfl] at this;rw[this];simp
 unfold cutV;rw[e1,HT.sIx_none];simp
theorem zIU (x:V) (xs:List V):¬(HT.sIx (x::xs).length 0 (some 1)=0/\HT.sIx (x::xs).length (x::xs).length none=(x::xs).length):=λ h=>by
 have:=HT.sIx_nat (x::xs).length 0 1;rw[show ((1:Nat):Int)=1 from rfl,h.1] at this;simp at this
noncomputable def PWt (H:Hp) (p:TW) (v:V):Prop:=∃a u,v = .ref a/\H a=some (.tup [u,.int (p.2:Int)])/\Rep H p.1 u
theorem PWt.mono {H H':Hp}(k:Tk H H') {p:TW}{v:V}:PWt H p v->PWt H' p v
 |⟨a,u,e,h,r⟩=>⟨a,u,e,k _ _ h,r.mono k⟩
theorem zJ3 {w:Nat}{p:TW}:∀{ts:List Tr}{ks:List Nat},p∈List.zipWith (λ t k=>(t,w * k)) ts ks->∃t k,t∈ts/\k∈ks/\p=(t,w * k)
 |[],ks,h=>by rw[List.zipWith_nil_left] at h;cases h
 |_::_,[],h=>by rw[List.zipWith_nil_right] at h;cases h
 |t::ts,k::ks,h=>by
  rw[List.zipWith_cons_cons] at h;rcases lP.mp h with rfl|h
  ·exact⟨t,k,lQ,lQ,rfl⟩
  ·obtain⟨t',k',h1,h2,h3⟩:=zJ3 h
   exact⟨t',k',lR _ h1,lR _ h2,h3⟩
theorem zI9 {ρ:Kd->List Nat}(g:GoodF ρ) {T:Nat}{L:List TW}(h:∀p∈L,Wb T p):∀p∈L.flatMap (zBH ρ),Wb T p:=λ p hp=>by
 obtain⟨⟨t,w⟩,hq,hp⟩:=List.mem_flatMap.mp hp;obtain⟨t',k,h1,h2,rfl⟩:=zJ3 hp;exact(h _ hq).child (zBC h1) (g.ks _ k h2).2
theorem zHq (f:TW->Nat):∀L:List TW,(L.map λ p=>((f p:Nat):Int)).sum=(((L.map f).sum:Nat):Int)
 |[]=>rfl
 |p::L=>by
  rw[List.map_cons,List.sum_cons,zHq f L,List.map_cons,List.sum_cons];omega
theorem zLs (ρ:Kd->List Nat) (L:List TW):(L.flatMap (zBH ρ)).length<=szZ L:=by
 have h:=zEa ρ L
 have:∀M:List TW,M.length<=szZ M:=λ M=>by
  induction M with
  |nil=>exact lZ _
  |cons p M ih =>
   have e:szZ (p::M)=p.1.size+szZ M:=by simp[szZ]
   have:=zAi p.1;rw[e,List.length_cons];omega
 have:=this (L.flatMap (zBH ρ));omega
theorem zK4 (L:List TW) (i:Nat):szZ (L.take i)<=szZ L:=by
 have e:szZ L=szZ (L.take i)+szZ (L.drop i):=by rw[←zJH,List.take_append_drop]
 omega
theorem zK5 {K:W.Frag}{H H':Hp}{a:Addr}{xs:List V}(g:Same H H') (h:SqT K H a xs):SqT K H' a xs:=by
 rcases h with (h|⟨o,h⟩)|h
 ·exact .inl (.inl (g _ _ h))
 ·exact .inl (.inr ⟨o,g _ _ h⟩)
 ·exact .inr h
theorem zNJ {r:List Nat}{i:Nat}{y:V}(h:(natV r)[i]?=some y):∃n:Nat,r[i]?=some n/\y=V.int (n:Int):=by
 unfold natV at h;rw[List.getElem?_map] at h;obtain⟨n,h1,h2⟩:=lW.mp h;exact⟨n,h1,h2.symm⟩
theorem zFz {ρ:Kd->List Nat}(g:GoodF ρ) (k:Kd):∃c ks,ρ k=c::ks:=by
 have:=(g.ln k).1;cases e:ρ k with
 |nil=>rw[e] at this;simp at this
 |cons c ks=>exact⟨c,ks,rfl⟩
theorem zIa {n:Nat}(h:n<2 ^ 500):((n:Nat):Int).natAbs<2 ^ 500:=by rw[Int.natAbs_natCast];exact h
theorem zFv {n:Nat}(h:n<=9):((n:Nat):Int).natAbs<2 ^ 500:=zIa (Nat.lt_of_le_of_lt h (by decide +kernel))
noncomputable def wB (ρ:Kd->List Nat) (β:Tr->Nat):Tr->Nat
 |.say a=>β (.say a)+dot ((ρ .say).drop 1) [wB ρ β a]
 |.bin o a b=>β (.bin o a b)+dot ((ρ o.kd).drop 1) [wB ρ β a,wB ρ β b]
 |.ite a b c=>β (.ite a b c)+dot ((ρ .ite).drop 1) [wB ρ β a,wB ρ β b,wB ρ β c]
 |.lett x a b=>β (.lett x a b)+dot ((ρ .lett).drop 1) [wB ρ β a,wB ρ β b]
 |.num n=>β (.num n)
 |.name x=>β (.name x)
 |.ask x=>β (.ask x)
 |.stop x=>β (.stop x)
 |.gap g as=>β (.gap g as)
theorem wB_eq (ρ:Kd->List Nat) (β:Tr->Nat) (t:Tr):wB ρ β t=β t+dot ((ρ t.kd).drop 1) (t.parts.map (wB ρ β)):=by
 cases t with
 |say a=>rfl
 |bin o a b=>rfl
 |ite a b c=>rfl
 |lett x a b=>rfl
 |num n=>exact(congrArg (β (.num n) + ·) (zC7 _)).symm
 |name n=>exact(congrArg (β (.name n) + ·) (zC7 _)).symm
 |ask n=>exact(congrArg (β (.ask n) + ·) (zC7 _)).symm
 |stop n=>exact(congrArg (β (.stop n) + ·) (zC7 _)).symm
 |gap n as=>exact(congrArg (β (.gap n as) + ·) (zC7 _)).symm
noncomputable def own (ρ:Kd->List Nat) (t:Tr):Nat:=(ρ t.kd).getD 0 0
theorem zCo {ρ:Kd->List Nat}(g:GoodF ρ):∀t:Tr,wrt ρ t=wB ρ (own ρ) t
 |.say a=>by rw[wrt,wB,zCo g a];rfl
 |.bin o a b=>by rw[wrt,wB,zCo g a,zCo g b];rfl
 |.ite a b c=>by rw[wrt,wB,zCo g a,zCo g b,zCo g c];rfl
 |.lett x a b=>by rw[wrt,wB,zCo g a,zCo g b];rfl
 |.num n=>by show 1=(ρ .num).getD 0 0;rw[g.one .num rfl];rfl
 |.name n=>by show 1=(ρ .name).getD 0 0;rw[g.one .name rfl];rfl
 |.ask n=>by show 1=(ρ .ask).getD 0 0;rw[g.one .ask rfl];rfl
 |.stop n=>by show 1=(ρ .stop).getD 0 0;rw[g.one .stop rfl];rfl
 |.gap n as=>by show 1=(ρ .gap).getD 0 0;rw[g.one .gap rfl];rfl
theorem zFB:∀(ks xs ys:List Nat),xs.length=ys.length->dot ks (List.zipWith (· + ·) xs ys)=dot ks xs+dot ks ys
 |[],_,_,_=>by simp[dot]
 |_::_,[],[],_=>by simp[dot]
 |k::ks,x::xs,y::ys,h=>by
  have ih:=zFB ks xs ys (by simpa using h);rw[List.zipWith_cons_cons,dot,dot,dot,ih,Nat.mul_add];omega
theorem zDL (ρ:Kd->List Nat) (β γ:Tr->Nat):∀t:Tr,wB ρ (λ t=>β t+γ t) t=wB ρ β t+wB ρ γ t
 |.say a=>by
  have:=zFB ((ρ .say).drop 1) [wB ρ β a] [wB ρ γ a] rfl;simp only[List.zipWith_cons_cons,List.zipWith_nil_left] at this;rw[wB,wB,wB,zDL ρ β γ a,this];omega
 |.bin o a b=>by
  have:=zFB ((ρ o.kd).drop 1) [wB ρ β a,wB ρ β b] [wB ρ γ a,wB ρ γ b] rfl;simp only[List.zipWith_cons_cons,List.zipWith_nil_left] at this;rw[wB,wB,wB,zDL ρ β γ a,zDL ρ β γ b,this];omega
 |.ite a b c=>by
  have:=zFB ((ρ .ite).drop 1) [wB ρ β a,wB ρ β b,wB ρ β c] [wB ρ γ a,wB ρ γ b,wB ρ γ c] rfl;simp only[List.zipWith_cons_cons,List.zipWith_nil_left] at this;rw[wB,wB,wB,zDL ρ β γ a,zDL ρ β γ b,zDL ρ β γ c,this];omega
 |.lett x a b=>by
  have:=zFB ((ρ .lett).drop 1) [wB ρ β a,wB ρ β b] [wB ρ γ a,wB ρ γ b] rfl;simp only[List.zipWith_cons_cons,List.zipWith_nil_left] at this;rw[wB,wB,wB,zDL ρ β γ a,zDL ρ β γ b,this];omega
 |.num _=>rfl
 |.name _=>rfl
 |.ask _=>rfl
 |.stop _=>rfl
 |.gap _ _=>rfl
noncomputable def Tr.gps:Tr->List Str
 |.gap g _=>[g]
 |.say a=>a.gps
 |.bin _ a b=>a.gps++b.gps
 |.ite a b c=>a.gps++(b.gps++c.gps)
 |.lett _ a b=>a.gps++b.gps
 |_=>[]
noncomputable def isG (g:Str):Tr->Nat
 |.gap x _=>if x=g then 1 else 0
 |_=>0
noncomputable abbrev gw (ρ:Kd->List Nat) (g:Str) (t:Tr):Nat:=wB ρ (isG g) t
theorem zD1:∀(ks xs:List Nat),(∀x∈xs,x=0)->dot ks xs=0
 |[],_,_=>rfl
 |_::_,[],_=>rfl
 |k::ks,x::xs,h=>by
  rw[dot,h x List.mem_cons_self,zD1 ks xs (λ y hy=>h y (List.mem_cons_of_mem _ hy)),Nat.mul_zero]
theorem zCk (ρ:Kd->List Nat) {g:Str}:∀{t:Tr},g∉t.gps->gw ρ g t=0
 |.say a,h=>by
  have e:=zCk ρ (t:=a) h;rw[gw,wB,zD1 _ _ (by simp[e])];rfl
 |.bin o a b,h=>by
  have h':¬(g∈a.gps\/g∈b.gps):=λ z=>h (lK.mpr z);have e1:=zCk ρ (t:=a) (λ z=>h' (.inl z));have e2:=zCk ρ (t:=b) (λ z=>h' (.inr z));rw[gw,wB,zD1 _ _ (by simp[e1,e2])];rfl
 |.ite a b c,h=>by
  have h':¬(g∈a.gps\/g∈b.gps\/g∈c.gps):=λ z=>h (lK.mpr (z.imp id lK.mpr));have e1:=zCk ρ (t:=a) (λ z=>h' (.inl z));have e2:=zCk ρ (t:=b) (λ z=>h' (.inr (.inl z)));have e3:=zCk ρ (t:=c) (λ z=>h' (.inr (.inr z)));rw[gw,wB,zD1 _ _ (by simp[e1,e2,e3])];rfl
 |.lett x a b,h=>by
  have h':¬(g∈a.gps\/g∈b.gps):=λ z=>h (lK.mpr z);have e1:=zCk ρ (t:=a) (λ z=>h' (.inl z));have e2:=zCk ρ (t:=b) (λ z=>h' (.inr z));rw[gw,wB,zD1 _ _ (by simp[e1,e2])];rfl
 |.num _,_=>rfl
 |.name _,_=>rfl
 |.ask _,_=>rfl
 |.stop _,_=>rfl
 |.gap x as,h=>by
  have:¬x=g:=λ z=>h (by rw[←z];exact List.mem_singleton.mpr rfl);show (if x=g then 1 else 0)=0;rw[if_neg this]
noncomputable def sumSB (ρ:Kd->List Nat) (β:Tr->Nat) (L:List TW):Nat:=(L.map λ p=>p.2 * wB ρ β p.1).sum
noncomputable def sumCB (β:Tr->Nat) (L:List TW):Nat:=(L.map λ p=>p.2 * β p.1).sum
theorem zGT (ρ:Kd->List Nat) (β:Tr->Nat) (w:Nat):∀(ts:List Tr) (ks:List Nat),sumSB ρ β (List.zipWith (λ t k=>(t,w * k)) ts ks)=w * dot ks (ts.map (wB ρ β))
 |[],ks=>by rw[List.zipWith_nil_left,List.map_nil,zC7];rfl
 |_::_,[]=>by rw[List.zipWith_nil_right];rfl
 |t::ts,k::ks=>by
  have ih:=zGT ρ β w ts ks;unfold sumSB at ih ⊢;rw[List.zipWith_cons_cons,List.map_cons,List.sum_cons,ih,List.map_cons,dot,Nat.mul_add,Nat.mul_assoc]
theorem zJJ (ρ:Kd->List Nat) (β:Tr->Nat) (p:TW):p.2 * wB ρ β p.1=p.2 * β p.1+sumSB ρ β (zBH ρ p):=by
 unfold zBH;rw[zGT,wB_eq ρ β p.1,Nat.mul_add]
theorem zJK (ρ:Kd->List Nat) (β:Tr->Nat) (a b:List TW):sumSB ρ β (a++b)=sumSB ρ β a+sumSB ρ β b:=by simp[sumSB]
theorem zGU (β:Tr->Nat) (a b:List TW):sumCB β (a++b)=sumCB β a+sumCB β b:=by simp[sumCB]
theorem zEb (ρ:Kd->List Nat) (β:Tr->Nat):∀L:List TW,sumSB ρ β L=sumCB β L+sumSB ρ β (L.flatMap (zBH ρ))
 |[]=>rfl
 |p::L=>by
  have ih:=zEb ρ β L;have e:=zJJ ρ β p;rw[List.flatMap_cons,zJK];have e1:sumSB ρ β (p::L)=p.2 * wB ρ β p.1+sumSB ρ β L:=by simp[sumSB]
  have e2:sumCB β (p::L)=p.2 * β p.1+sumCB β L:=by simp[sumCB]
  omega
structure GWt (f:Str->Nat) (kvs:List (Key × V)):Prop where
 ks:∀p∈kvs,∃g:Str,p.1=(Sum.inr g:Key)
 vl:∀g:Str,valV kvs (Sum.inr g:Key)=some (.int ((f g:Nat):Int))\/(valV kvs (Sum.inr g:Key)=none/\f g=0)
theorem GWt.get {f:Str->Nat}{kvs:List (Key × V)}(h:GWt f kvs) (g:Str):(valV kvs (Sum.inr g:Key)).getD (.int 0) = .int ((f g:Nat):Int):=by
 rcases h.vl g with e|⟨e,z⟩
 ·rw[e];rfl
 ·rw[e,z];rfl
theorem GWt.congr {f f':Str->Nat}{kvs:List (Key × V)}(h:GWt f kvs) (e:∀g,f' g=f g):GWt f' kvs:=by
 have:f'=f:=funext e;rw[this];exact h
theorem zLg {kvs:List (Key × V)}{k:Key}{v:V}{p:Key × V}(h:p∈putK kvs k v):p.1=k\/∃q∈kvs,q.1=p.1:=by
 unfold putK at h;split at h
 ·obtain⟨q,hq,e⟩:=mE.mp h
  by_cases z:q.1=k
  ·rw[if_pos z] at e
   exact .inl (by rw[←e];exact z)
  ·rw[if_neg z] at e
   exact .inr ⟨q,hq,by rw[e]⟩
 ·rcases lK.mp h with h|h
  ·exact .inr ⟨p,h,rfl⟩
  ·exact .inl (by rw[List.mem_singleton.mp h])
theorem GWt.put {f f':Str->Nat}{kvs:List (Key × V)}(h:GWt f kvs) {x:Str}(e:∀g,g≠x->f' g=f g):GWt f' (putK kvs (Sum.inr x:Key) (.int ((f' x:Nat):Int))):=by
 refine⟨λ p hp=>?_,λ g=>?_⟩
 ·rcases zLg hp with z|⟨q,hq,z⟩
  ·exact⟨x,z⟩
  ·rw[←z];exact h.ks q hq
 ·rw[zDB]
  by_cases z:g=x
  ·subst z
   rw[if_pos rfl];exact .inl rfl
  ·have z':¬(Sum.inr g:Key)=Sum.inr x:=λ w=>z (Sum.inr.inj w)
   rw[if_neg z',e g z];exact h.vl g
noncomputable def fallP (ρ:Kd->List Nat) (t1 t2:Tr) (kds:List (Str × Str)):Prop:=wrt ρ t2<wrt ρ t1/\∀g,(g,("number" : Str))∉kds->gw ρ g t2<=gw ρ g t1
theorem zD7 (β:Tr->Nat) {L:List TW}{i:Nat}{p:TW}(h:L[i]?=some p):sumCB β (L.take (i+1))=sumCB β (L.take i)+p.2 * β p.1:=by
 rw[zAM h,zGU];simp[sumCB]
theorem zNL {g:Str}{t:Tr}(h:¬t.kd = .gap):isG g t=0:=by
 cases t with
 |gap x as=>exact absurd rfl h
 |_=>rfl
theorem zOU {α:Type}{xs:List α}{i:Int}(h0:0<=i) (h1:i<xs.length):∃v,v∈xs/\atI xs i=some v:=by
 have hl:i.toNat<xs.length:=by omega
 have e:((i.toNat:Nat):Int)=i:=by omega
 refine⟨xs[i.toNat],List.getElem_mem hl,?_⟩;have:=zAI (xs:=xs) (j:=i.toNat) (v:=xs[i.toNat]) (lX hl)
 rwa [e] at this
theorem zKB (x y:Str):(x++y).length=x.length+y.length:=strLen_append x y
theorem zGo {L:Str}(h:L.length=26) (z:Int):∃c:Nat,atI L.cps.toList (z % 26)=some c:=by
 have hl:((L.cps.toList).length:Int)=26:=by
  rw[Array.length_toList]
  exact_mod_cast h
 obtain⟨v,_,e⟩:=zOU (xs:=L.cps.toList) (i:=z % 26) (by omega) (by omega);exact⟨v,e⟩
noncomputable def nm (ws:List Str) (i:Int):Str:=ws.getD i.toNat ⟨#[]⟩
theorem zOQ:∀j:Nat,j<8->(0:Int)<64 * (0+(j:Int)+1) * (0+(j:Int)+2)/\64 * (0+(j:Int)+1) * (0+(j:Int)+2)<1073741824:=by decide +kernel
noncomputable def sgs:List Kd:=[.say,.add,.sub,.mul,.thn,.ite,.lett]
noncomputable def sgsV:List V:=[.str "say", .str "add", .str "sub", .str "mul", .str "then", .str "if", .str "let"]
theorem zNn {i:Nat}{x:V}(h:sgsV[i]?=some x):∃k:Kd,sgs[i]?=some k/\x = .str k.s/\k.leaf=false:=by
 have hi:i<7:=(lJ.mp h).1;have cs:i=0\/i=1\/i=2\/i=3\/i=4\/i=5\/i=6:=by omega
 rcases cs with rfl|rfl|rfl|rfl|rfl|rfl|rfl<;>(cases h;exact⟨_,rfl,rfl,rfl⟩)
theorem zNm:sgs.Nodup:=by decide
theorem zHG {i:Nat}{k:Kd}(h:sgs[i]?=some k):k∉sgs.take i:=λ z=>by
 obtain⟨j,hj⟩:=List.getElem?_of_mem z
 have hji:j<i:=by
  have:=(lJ.mp hj).1;rw[List.length_take] at this;omega
 rw[List.getElem?_take_of_lt hji] at hj;have hi:i<sgs.length:=(lJ.mp h).1;exact absurd (zEW zNm hj h) (by omega)
theorem zDK:∀{rs:Scl}{k:Kd},k∉rs.map (·.1)->rs.lookup k=none
 |[],_,_=>rfl
 | (k0,r0)::rs,k,h=>by
  rw[List.map_cons,List.mem_cons,not_or] at h;have z:(k == k0)=false:=by simpa using h.1
  rw[List.lookup_cons,z];exact zDK h.2
theorem zCR (r:List Nat) (z:Int) (h:0<=z):natV r++[V.int z]=natV (r++[z.toNat]):=by
 unfold natV;rw[List.map_append];have:((z.toNat:Nat):Int)=z:=by omega
 simp[this]
theorem zGK (us vs:List V) (n:Nat) (h0:0<n) (hn:vs.length=n):cutV (us++vs) none (some (-(n:Int)))=us:=by
 have e:HT.sIx (us++vs).length 0 none=0:=rfl;unfold cutV;rw[zMm h0 (by simp;omega),e];simp[hn]
theorem zCn (us vs:List V) {n j:Nat}{v:V}(h0:0<n) (hn:n<=vs.length) (e:vs[vs.length - n]?=some v):atI (us++vs) (-(n:Int))=some v:=by
 have e1:ixN (us++vs).length (-(n:Int))=some (us.length+(vs.length - n)):=by
  unfold ixN;rw[List.length_append,if_neg (by omega),if_pos (by omega)];congr 1;omega
 unfold atI;rw[e1];show (us++vs)[us.length+(vs.length - n)]?=some v;rw[List.getElem?_append_right (by omega),Nat.add_sub_cancel_left];exact e
theorem zLn (us:List V) (x:V):ixN (us++[x]).length (-1)=some us.length:=by
 unfold ixN;rw[List.length_append,if_neg (by decide),if_pos (by simp;omega)];congr 1;simp;omega
theorem zA7 {α:Type}{F:α->V->Prop}{as:List α}{us:List V}(p:Paired F as us):0<us.length->∃as0 us0 a u,as=as0++[a]/\us=us0++[u]/\Paired F as0 us0/\F a u:=by
 induction p with
 |nil=>exact λ h=>absurd h (Nat.lt_irrefl _)
 |cons r q ih =>
  cases q with
  |nil=>exact λ U=>⟨[],[],_,_,rfl,rfl,.nil,r⟩
  |cons r2 q=>obtain⟨as0,us0,a,u,e1,e2,p,f⟩:=ih (by simp);exact λ U=>⟨_::as0,_::us0,a,u,by rw[e1];rfl,by rw[e2];rfl,.cons r p,f⟩
noncomputable def Tr.odd:Tr->List Str
 |.name x=>[x]
 |.gap g (_::_)=>[g]
 |.say a=>a.odd
 |.bin _ a b=>a.odd++b.odd
 |.ite a b c=>a.odd++(b.odd++c.odd)
 |.lett x a b=>x::(a.odd++b.odd)
 |_=>[]
noncomputable def GS (S:List Str) (ts:List Tr):Prop:=∀t∈ts,∀g∈t.odd,g∈S
theorem GS.app {S:List Str}{a b:List Tr}(h:GS S a) (k:GS S b):GS S (a++b):=λ t ht=>by
 rcases lK.mp ht with z|z
 ·exact h t z
 ·exact k t z
theorem GS.left {S:List Str}{a b:List Tr}(h:GS S (a++b)):GS S a:=λ t ht=>h t (lK.mpr (.inl ht))
theorem GS.right {S:List Str}{a b:List Tr}(h:GS S (a++b)):GS S b:=λ t ht=>h t (lK.mpr (.inr ht))
theorem GS.one {S:List Str}{t:Tr}(h:∀g∈t.odd,g∈S):GS S [t]:=λ u hu=>by rw[List.mem_singleton.mp hu];exact h
theorem via {G:Prop}{E:Hp->Prop}{H1:Hp}(h:(∀H2,Same H1 H2->E H2)->G) (r:∀H2,Same H1 H2->E H2):G:=h r
theorem zNY (z:Int):∃o:Bin,atI [V.str "add", .str "sub", .str "mul", .str "then"] (z % 4)=some (.str o.s):=by
 have h0:=Int.emod_nonneg z (show (4:Int)≠0 by decide);have h1:=Int.emod_lt_of_pos z (show (0:Int)<4 by decide);have h:z % 4=0\/z % 4=1\/z % 4=2\/z % 4=3:=by omega
 rcases h with h|h|h|h<;>rw[h]
 ·exact⟨.add,rfl⟩
 ·exact⟨.sub,rfl⟩
 ·exact⟨.mul,rfl⟩
 ·exact⟨.thn,rfl⟩
theorem viaP {G:Prop}{E:Hp->Prop}(A:Hp->Prop) (h:(∀H2,A H2->E H2)->G) (r:∀H2,A H2->E H2):G:=h r
theorem viaS {G:Prop}{E:L2.St->Hp->Prop}(A:L2.St->Hp->Prop) (h:(∀σ H2,A σ H2->E σ H2)->G) (r:∀σ H2,A σ H2->E σ H2):G:=h r
theorem zIm (t:Tr):t.parts.length=t.kd.many:=by
 cases t with
 |bin o a b=>cases o<;>rfl
 |_=>rfl
theorem zFu {kvs:List (Key × V)}{k:Key}:(valV kvs k).isSome=true↔∃p∈kvs,p.1=k:=by
 unfold valV;rw[Option.isSome_map,List.find?_isSome];exact⟨λ⟨p,h,e⟩=>⟨p,h,lU e⟩,λ⟨p,h,e⟩=>⟨p,h,lV e⟩⟩
theorem zFU:∀(more kvs:List (Key × V)) (k:Key),(valV (zAf kvs more) k).isSome=true↔(valV kvs k).isSome=true\/(valV more k).isSome=true
 |[],kvs,k=>⟨λ h=>.inl h,λ h=>h.elim id λ z=>by cases z⟩
 |p::more,kvs,k=>by
  show (valV (zAf (putK kvs p.1 p.2) more) k).isSome=true↔_;rw[zFU more,zDB];rw[zFu (kvs:=p::more),zFu (kvs:=more)]
  by_cases h:k=p.1
  ·rw[if_pos h]
   exact⟨λ U=>.inr ⟨p,lQ,h.symm⟩,λ U=>.inl rfl⟩
  ·rw[if_neg h]
   constructor
   ·rintro (z|⟨q,hq,e⟩)
    ·exact .inl z
    ·exact .inr ⟨q,lR _ hq,e⟩
   ·rintro (z|⟨q,hq,e⟩)
    ·exact .inl z
    ·rcases lP.mp hq with rfl|hq
     ·exact absurd e.symm h
     ·exact .inr ⟨q,hq,e⟩
structure GD (S:List Str) (kvs:List (Key × V)):Prop where
 nm:∀p∈kvs,∃(g:Str) (n:Int),p=((Sum.inr g:Key),V.int n)
 vl:∀g:Str,(valV kvs (Sum.inr g:Key)).isSome=true↔g∈S
 nd:(kvs.map (·.1)).Nodup
theorem GD.nil:GD [] []:=⟨by simp,λ g=>⟨(λ z=>nomatch z),(λ z=>nomatch z)⟩,List.nodup_nil⟩
theorem GD.put {S:List Str}{kvs:List (Key × V)}(h:GD S kvs) (x:Str) (n:Int):GD (x::S) (putK kvs (Sum.inr x:Key) (.int n)):=by
 refine⟨λ p hp=>?_,λ g=>?_,zJ2 _ _ h.nd⟩
 ·rcases zHf hp with z|z
  ·exact⟨x,n,z⟩
  ·exact h.nm p z
 ·rw[zDB]
  by_cases z:g=x
  ·subst z
   rw[if_pos rfl];exact⟨λ U=>lQ,λ U=>rfl⟩
  ·have z':¬(Sum.inr g:Key)=Sum.inr x:=λ w=>z (Sum.inr.inj w)
   rw[if_neg z',h.vl g,List.mem_cons];exact⟨.inr,λ w=>w.resolve_left z⟩
theorem GD.merge {S T:List Str}{more:List (Key × V)}(k:GD T more):∀{kvs:List (Key × V)},GD S kvs->GD (S++T) (zAf kvs more):=by
 intro kvs h
 have key:∀(m:List (Key × V)) (kvs:List (Key × V)),(∀p∈m,∃(g:Str) (n:Int),p=((Sum.inr g:Key),V.int n))->(∀p∈kvs,∃(g:Str) (n:Int),p=((Sum.inr g:Key),V.int n))->(kvs.map (·.1)).Nodup ->
   (∀p∈zAf kvs m,∃(g:Str) (n:Int),p=((Sum.inr g:Key),V.int n))/\((zAf kvs m).map (·.1)).Nodup:=by
  intro m
  induction m with
  |nil=>exact λ kvs U b c=>⟨b,c⟩
  |cons q m ih =>
   intro kvs a b c;refine ih (putK kvs q.1 q.2) (λ p hp=>a p (lR _ hp)) (λ p hp=>?_) (zJ2 _ _ c);rcases zHf hp with z|z
   ·rw[z];exact a q lQ
   ·exact b p z
 obtain⟨r1,r2⟩:=key more kvs k.nm h.nm h.nd;refine⟨r1,λ g=>?_,r2⟩;rw[zFU,h.vl,k.vl,List.mem_append]
noncomputable def ownS:Tr->List Str
 |.gap g _=>[g]
 |_=>[]
theorem zGu (t:Tr):∀g,g∈t.gps↔g∈ownS t++t.parts.flatMap Tr.gps:=λ g=>by
 cases t<;>simp[Tr.gps,ownS,Tr.parts]
theorem GD.congr {S T:List Str}{kvs:List (Key × V)}(h:GD S kvs) (e:∀g,g∈T↔g∈S):GD T kvs:=⟨h.nm,λ g=>(h.vl g).trans (e g).symm,h.nd⟩
noncomputable def ownW (ρ:Kd->List Nat) (ω:Str->Nat):Tr->Nat
 |.gap g _=>ω g
 |t=>own ρ t
theorem zD2:∀(ks:List Nat) {xs ys:List Nat},xs.length=ys.length->(∀(i x y:Nat),xs[i]?=some x->ys[i]?=some y->x<=y)->dot ks xs<=dot ks ys
 |[],_,_,_,_=>lS _
 |_::_,[],[],_,_=>lS _
 |k::ks,x::xs,y::ys,h,l=>by
  have h0:=l 0 x y rfl rfl;have ih:=zD2 ks (xs:=xs) (ys:=ys) (by simpa using h) (λ i a b ha hb=>l (i+1) a b (by simpa using ha) (by simpa using hb));rw[dot,dot];have:=Nat.mul_le_mul_left k h0;omega
theorem zCU (ρ:Kd->List Nat) {β γ:Tr->Nat}(h:∀t,β t<=γ t):∀t:Tr,wB ρ β t<=wB ρ γ t
 |.say a=>by
  have e1:=zCU ρ h a
  have:=zD2 ((ρ .say).drop 1) (xs:=[wB ρ β a]) (ys:=[wB ρ γ a]) rfl (λ i x y hx hy=>by
   match i with
   |0=>cases hx;cases hy;exact e1
   |_+1=>simp at hx)
  have:=h (.say a);rw[wB,wB];omega
 |.bin o a b=>by
  have e1:=zCU ρ h a;have e2:=zCU ρ h b
  have:=zD2 ((ρ o.kd).drop 1) (xs:=[wB ρ β a,wB ρ β b]) (ys:=[wB ρ γ a,wB ρ γ b]) rfl (λ i x y hx hy=>by
   match i with
   |0=>cases hx;cases hy;exact e1
   |1=>cases hx;cases hy;exact e2
   |_+2=>simp at hx)
  have:=h (.bin o a b);rw[wB,wB];omega
 |.ite a b c=>by
  have e1:=zCU ρ h a;have e2:=zCU ρ h b;have e3:=zCU ρ h c
  have:=zD2 ((ρ .ite).drop 1) (xs:=[wB ρ β a,wB ρ β b,wB ρ β c]) (ys:=[wB ρ γ a,wB ρ γ b,wB ρ γ c]) rfl (λ i x y hx hy=>by
   match i with
   |0=>cases hx;cases hy;exact e1
   |1=>cases hx;cases hy;exact e2
   |2=>cases hx;cases hy;exact e3
   |_+3=>simp at hx)
  have:=h (.ite a b c);rw[wB,wB];omega
 |.lett s a b=>by
  have e1:=zCU ρ h a;have e2:=zCU ρ h b
  have:=zD2 ((ρ .lett).drop 1) (xs:=[wB ρ β a,wB ρ β b]) (ys:=[wB ρ γ a,wB ρ γ b]) rfl (λ i x y hx hy=>by
   match i with
   |0=>cases hx;cases hy;exact e1
   |1=>cases hx;cases hy;exact e2
   |_+2=>simp at hx)
  have:=h (.lett s a b);rw[wB,wB];omega
 |.num n=>h (.num n)
 |.name n=>h (.name n)
 |.ask n=>h (.ask n)
 |.stop n=>h (.stop n)
 |.gap n as=>h (.gap n as)
theorem wW_le {ρ:Kd->List Nat}(g:GoodF ρ) {ω:Str->Nat}(hω:∀x,ω x<=2) (t:Tr):wB ρ (ownW ρ ω) t<=2 * wrt ρ t:=by
 have h1:=zCU ρ (β:=ownW ρ ω) (γ:=λ t=>own ρ t+own ρ t) (λ t=>by
  cases t with
  |gap x as =>
   show ω x<=(ρ .gap).getD 0 0+(ρ .gap).getD 0 0;rw[g.one .gap rfl];exact hω x
  |_=>exact Nat.le_add_right _ _) t
 rw[zDL,←zCo g] at h1;omega
theorem wW_lt {ρ:Kd->List Nat}(g:GoodF ρ) {ω:Str->Nat}(hω:∀x,ω x<=2) {t:Tr}(h:t.size<=122):wB ρ (ownW ρ ω) t<2 ^ 500:=by
 have h0:=wW_le g hω t;have h1:=zDj g t;have h2:16 ^ t.size<=16 ^ 122:=Nat.pow_le_pow_right (by decide) h;have h3:2 * 16 ^ 122<2 ^ 500:=by decide +kernel
 omega
theorem zMC {ρ:Kd->List Nat}(g:GoodF ρ) (t:Tr):wB ρ (ownW ρ λ U=>1) t=wrt ρ t:=by
 rw[zCo g];congr 1;funext t;cases t with
 |gap x as =>
  show 1=(ρ .gap).getD 0 0;rw[g.one .gap rfl];rfl
 |_=>rfl
theorem zMB {ρ:Kd->List Nat}(g:GoodF ρ) (x:Str) (t:Tr):wB ρ (ownW ρ λ y=>if y=x then 2 else 1) t=wrt ρ t+gw ρ x t:=by
 rw[zCo g,←zDL];congr 1;funext t;cases t with
 |gap y as =>
  show (if y=x then 2 else 1)=(ρ .gap).getD 0 0+(if y=x then 1 else 0);rw[g.one .gap rfl];split<;>rfl
 |_=>rfl
theorem zLL {ρ:Kd->List Nat}(g:GoodF ρ) {t:Tr}(h:t.parts.length=0) (hg:¬t.kd = .gap) (ω:Str->Nat):wB ρ (ownW ρ ω) t=1:=by
 cases t with
 |num n=>show (ρ .num).getD 0 0=1;rw[g.one .num rfl];rfl
 |name n=>show (ρ .name).getD 0 0=1;rw[g.one .name rfl];rfl
 |ask n=>show (ρ .ask).getD 0 0=1;rw[g.one .ask rfl];rfl
 |stop n=>show (ρ .stop).getD 0 0=1;rw[g.one .stop rfl];rfl
 |gap n as=>exact absurd rfl hg
 |_=>simp[Tr.parts] at h
theorem zLM {ρ:Kd->List Nat}{t:Tr}(hg:¬t.kd = .gap) (ω:Str->Nat):ownW ρ ω t=own ρ t:=by
 cases t with
 |gap n as=>exact absurd rfl hg
 |_=>rfl
theorem zMu {X:Cx}{pos:Pos}{h0:ExceptHandler}{hs:List ExceptHandler}{body orelse:List Stmt}{tb:Ends->TS}{to:TS}(hb:∀jP D,Sd (PSs (X.inTry (h0::hs) jP D) body (tb D))) (ho:Sd (PSs X orelse to)) :
  Sd (PS X (.Try body (h0::hs) orelse [] pos) (λ D σ H=>tb D { D with nx:=to D } σ H)):=⟨zNw (λ jP D=>(hb jP D).un) ho.un⟩
theorem zNo {X:Cx}{st:List Stmt}{G:TS->Prop}(h:∃t,Sd (PSs X st t)/\G t):∃t,PSs X st t/\G t:=h.elim λ t ht=>⟨t,ht.1.un,ht.2⟩
theorem Due.uniq {t u:Tr}{ks:List (Str × Str)}{L:List (Str × RP)}{r r':Option Str}(h:Due t u ks L r) (h':Due t u ks L r'):r=r':=by
 induction h with
 |nil=>cases h';rfl
 |yes a =>
  cases h' with
  |yes _=>rfl
  |no n _=>exact absurd a n
 |no n _ ih =>
  cases h' with
  |yes b=>exact absurd b n
  |no _ c=>exact ih c
theorem zKA (t:Tr):letN t=(letX t).toList++t.parts.flatMap letN:=by
 unfold letN;rw[zCB,List.filterMap_cons,List.filterMap_flatMap];cases letX t<;>rfl
noncomputable def gpX (t:Tr):List Tr:=if t.kd = .gap then [t] else []
noncomputable def gpN (t:Tr):List Tr:=t.subs.filter λ x=>decide (x.kd = .gap)
theorem zMW (t:Tr):gpN t=gpX t++t.parts.flatMap gpN:=by
 unfold gpN;rw[zCB,List.filter_cons,List.filter_flatMap];unfold gpX
 by_cases h:t.kd = .gap
 ·simp[h]
 ·simp[h]
theorem zHp {L:List Tr}{i:Nat}{t:Tr}(h:L[i]?=some t):((L.take i).map Tr.size).sum+t.size<=(L.map Tr.size).sum:=by
 have e:(L.map Tr.size).sum=((L.take (i+1)).map Tr.size).sum+((L.drop (i+1)).map Tr.size).sum:=by rw[←List.sum_append,←List.map_append,List.take_append_drop]
 have e2:((L.take (i+1)).map Tr.size).sum=((L.take i).map Tr.size).sum+t.size:=by
  rw[zAM h,List.map_append,List.sum_append];simp
 omega
theorem zF8 (t:Tr):loudT t↔t.kd.loud=true\/∃p∈t.parts,loudT p:=by
 unfold loudT;rw[zCB];constructor
 ·rintro⟨x,hx,e⟩
  rcases lP.mp hx with rfl|hx
  ·exact .inl e
  ·obtain⟨p,hp,hx⟩:=List.mem_flatMap.mp hx
   exact .inr ⟨p,hp,x,hx,e⟩
 ·rintro (e|⟨p,hp,x,hx,e⟩)
  ·exact⟨t,lQ,e⟩
  ·exact⟨x,lR _ (List.mem_flatMap.mpr ⟨p,hp,hx⟩),e⟩
theorem GD.keys {S:List Str}:∀{kvs:List (Key × V)},GD S kvs->∃ks:List Str,kvs.map (·.1)=ks.map Sum.inr/\ks.Nodup/\ks.length=kvs.length/\∀g,g∈ks↔g∈S:=by
 intro kvs h
 have ex:∀l:List (Key × V),(∀p∈l,∃(g:Str) (n:Int),p=((Sum.inr g:Key),V.int n))->∃ks:List Str,l.map (·.1)=ks.map Sum.inr:=by
  intro l
  induction l with
  |nil=>exact λ U=>⟨[],rfl⟩
  |cons p l ih =>
   intro a;obtain⟨ks,e⟩:=ih λ q hq=>a q (lR _ hq);obtain⟨g,n,e2⟩:=a p lQ;exact⟨g::ks,by rw[List.map_cons,e,e2];rfl⟩
 obtain⟨ks,e⟩:=ex kvs h.nm;refine⟨ks,e,?_,?_,λ g=>?_⟩
 ·have:=h.nd
  rw[e] at this;exact(List.pairwise_map.mp this).imp λ h e=>h (congrArg _ e)
 ·have:=congrArg List.length e
  simpa using this.symm
 ·rw[←h.vl g,zFu]
  constructor
  ·intro hg
   have:(Sum.inr g:Key)∈kvs.map (·.1):=by rw[e];exact mE.mpr ⟨g,hg,rfl⟩
   obtain⟨p,hp,ep⟩:=mE.mp this;exact⟨p,hp,ep⟩
  ·rintro⟨p,hp,ep⟩
   have:(Sum.inr g:Key)∈ks.map Sum.inr:=by rw[←e];exact mE.mpr ⟨p,hp,ep⟩
   obtain⟨g',hg',eg⟩:=mE.mp this;rw[←Sum.inr.inj eg];exact hg'
theorem GD.int {S:List Str}{kvs:List (Key × V)}(h:GD S kvs) {g:Str}(hg:g∈S):∃n:Int,valV kvs (Sum.inr g:Key)=some (.int n):=by
 have:=(h.vl g).mpr hg;cases e:valV kvs (Sum.inr g:Key) with
 |none=>rw[e] at this;cases this
 |some v =>
  obtain⟨p,hp,ep⟩:=lW.mp (show (kvs.find? λ kv=>decide (kv.1=(Sum.inr g:Key))).map (·.2)=some v from e);obtain⟨g',n,e'⟩:=h.nm p (List.mem_of_find?_eq_some hp);refine⟨n,?_⟩;rw[←ep,e']
theorem zBn {H H':Hp}(k:Tk H H') {y:V}{kv:Key × V}:PrV H y kv->PrV H' y kv
 |⟨b,e,h⟩=>⟨b,e,k _ _ h⟩
theorem zJ0 {ss:List Str}(nd:ss.Nodup) {i:Nat}{g:Str}(h:ss[i]?=some g):g∉ss.take i:=λ z=>by
 obtain⟨j,hj⟩:=List.getElem?_of_mem z
 have hji:j<i:=by
  have:=(lJ.mp hj).1;rw[List.length_take] at this;omega
 rw[List.getElem?_take_of_lt hji] at hj;exact absurd (zEW nd hj h) (by omega)
noncomputable def dueP (ρ:Kd->List Nat) (t1 t2:Tr) (kds:List (Str × Str)):Prop:=wrt ρ t2<wrt ρ t1/\∀g∈t1.gps,(g,("number" : Str))∉kds->gw ρ g t2<=gw ρ g t1
theorem zLt {ρ:Kd->List Nat}{t1 t2:Tr}{kds:List (Str × Str)}(h:∀g∈t2.gps,g∈t1.gps):fallP ρ t1 t2 kds↔dueP ρ t1 t2 kds:=by
 refine and_congr Iff.rfl ⟨λ a g U hn=>a g hn,λ a g hn=>?_⟩
 by_cases z:g∈t1.gps
 ·exact a g z hn
 ·rw[zCk ρ (λ y=>z (h g y))]
  exact lZ _
noncomputable def kdD (kds:List (Str × Str)):List Dt:=kds.map λ p=>.tup [.str p.1,.str p.2]
theorem zMT {H:Hp}:∀{kds:List (Str × Str)}{ys:List V},Paired (PrV H) ys (kdV kds)->DRs H (kdD kds) ys
 |[],_,h=>by
  cases h;exact .nil
 |p::kds,_,h=>by
  cases h with
  |cons r q =>
   obtain⟨b,rfl,hb⟩:=r;exact .cons (.tup hb (.cons (.str _) (.cons (.str _) .nil))) (zMT q)
theorem zKH:∀kds:List (Str × Str),Dt.deeps (kdD kds)<=1
 |[]=>lZ _
 |p::kds=>by
  have ih:=zKH kds;show max (Dt.deep (.tup [.str p.1,.str p.2])) (Dt.deeps (kdD kds))<=1;exact Nat.max_le.mpr ⟨by simp[Dt.deep,Dt.deeps],ih⟩
theorem zMU (kds:List (Str × Str)) (g k:Str):((kdD kds).any λ d=>Dt.beq d (.tup [.str g,.str k]))=true↔(g,k)∈kds:=by
 rw[List.any_eq_true];constructor
 ·rintro⟨d,hd,e⟩
  obtain⟨p,hp,rfl⟩:=mE.mp hd;have:=Dt.beq_iff.mp e;simp at this;rw[←this.1,←this.2];exact hp
 ·intro h
  exact⟨_,mE.mpr ⟨(g,k),h,rfl⟩,Dt.beq_iff.mpr rfl⟩
theorem zNc (g x:Str):(valV (zAf [] [((Sum.inr g:Key),V.int 2)]) (Sum.inr x:Key)).getD (.int 1) = .int (((if x=g then 2 else 1:Nat)):Int):=by
 show (valV (putK [] (Sum.inr g:Key) (V.int 2)) (Sum.inr x:Key)).getD (.int 1)=_;rw[zDB]
 by_cases h:x=g
 ·rw[if_pos (by rw[h]),if_pos h];rfl
 ·rw[if_neg (λ z=>h (Sum.inr.inj z)),if_neg h];rfl
noncomputable def NmG (t:Tr):Prop:=∀x∈t.subs,∀g as,x = .gap g as->as=[]\/∃y,as=[.name y]
theorem zGV {t p x:Tr}(hp:p∈t.parts) (hx:x∈p.subs):x∈t.subs:=by
 rw[zCB];exact lR _ (List.mem_flatMap.mpr ⟨p,hp,hx⟩)
theorem NmG.part {t p:Tr}(h:NmG t) (hp:p∈t.parts):NmG p:=λ x hx=>h x (zGV hp hx)
theorem zGs (x:Str) (ws:List Str):inV (V.str x) (ws.map V.str)=true↔x∈ws:=by
 unfold inV;rw[List.any_eq_true];constructor
 ·rintro⟨v,hv,e⟩
  obtain⟨y,hy,rfl⟩:=mE.mp hv;have:y=x\/x=y:=by first|exact .inl (by simpa using e)|exact .inr (by simpa using e)|(simp[eqV] at e;first|exact .inl e|exact .inr e)
  rcases this with rfl|rfl<;>exact hy
 ·intro h
  exact⟨_,mE.mpr ⟨x,h,rfl⟩,by first|simp|simp[eqV]⟩
theorem zKS (g:Str) (as:List Atom):(Tr.gap g as).fv []=as.flatMap Atom.names:=by
 show (as.flatMap Atom.names).filter _=_;rw[List.filter_eq_self];intro a _;simp
theorem zGG {t:Tr}(h1:¬t.kd = .name) (h2:¬t.kd = .gap) (h3:¬t.kd = .lett):t.fv []=t.parts.flatMap λ p=>p.fv []:=by
 cases t with
 |name x=>exact absurd rfl h1
 |gap g as=>exact absurd rfl h2
 |lett x a b=>exact absurd rfl h3
 |_=>simp[Tr.fv,Tr.parts,Tr.names]
theorem zKR (x:Str) (a b:Tr) (bs:List Str):(∃y∈(Tr.lett x a b).fv [],y∉bs)↔(∃y∈a.fv [],y∉bs)\/∃y∈b.fv [],y∉bs++[x]:=by
 have e:(Tr.lett x a b).fv []=a.fv []++b.fv ([]++[x]):=rfl;rw[e];constructor
 ·rintro⟨y,hy,n⟩
  rcases lK.mp hy with h|h
  ·exact .inl ⟨y,h,n⟩
  ·rw[zCs] at h
   refine .inr ⟨y,h.1,λ z=>?_⟩;rcases lK.mp z with z|z
   ·exact n z
   ·exact h.2 z
 ·rintro (⟨y,hy,n⟩|⟨y,hy,n⟩)
  ·exact⟨y,mH _ hy,n⟩
  ·exact⟨y,mC _ ((zCs _ _ _).mpr ⟨hy,λ z=>n (mC _ z)⟩),λ z=>n (mH _ z)⟩
theorem viaN {D:Ends}{t1 t2:TS}{σ:L2.St}{H:Hp}(h:∀N:L2.St->Hp->Prop,(∀σ' H',t2 D σ' H'->N σ' H')->t1 { D with nx:=N } σ H):tSeq t1 t2 D σ H:=h _ λ U U z=>z
noncomputable def gN:Tr->Str × Nat
 |.gap g as=>(g,as.length)
 |_=>(⟨#[]⟩,0)
theorem zKl {x:Tr}(h:∀g as,x = .gap g as->as=[]\/∃y,as=[.name y]) (k:x.kd = .gap):cnt1 x=[gN x]:=by
 cases x with
 |gap g as=>rcases h g as rfl with rfl|⟨y,rfl⟩<;>rfl
 |bin o a b=>cases o<;>cases k
 |_=>cases k
theorem zD0 {t:Tr}(h:NmG t):gcnt t=(gpN t).map gN:=by
 unfold gcnt gpN;unfold NmG at h;revert h
 induction t.subs with
 |nil=>exact λ U=>rfl
 |cons x L ih =>
  intro h;have ih:=ih λ y hy=>h y (lR _ hy);rw[List.flatMap_cons,ih]
  by_cases k:x.kd = .gap
  ·rw[List.filter_cons_of_pos (by simpa using k),zKl (h x List.mem_cons_self) k]
   rfl
  ·rw[List.filter_cons_of_neg (by simpa using k),zGL k]
   rfl
theorem zGE {t:Tr}(h:NmG t) (g:Str):g∈t.gps↔g∈(gcnt t).map (·.1):=by
 have key:∀n,∀t:Tr,t.size<=n->NmG t->(g∈t.gps↔g∈(gcnt t).map (·.1)):=by
  intro n
  induction n with
  |zero=>exact λ t hs=>absurd hs (by have:=zAi t;omega)
  |succ n ih =>
   intro t hs h;rw[zGu,zD0 h,zMW,List.map_append,List.map_append,List.mem_append,List.mem_append];refine or_congr ?_ ?_
   ·cases t with
    |bin o a b=>cases o<;>exact Iff.rfl
    |gap x as=>simp[ownS,gpX,Tr.kd,gN]
    |_=>exact Iff.rfl
   ·rw[List.mem_flatMap,List.map_map,List.mem_map]
    constructor
    ·rintro⟨p,hp,hg⟩
     have:=(ih p (by have:=zBC hp;omega) (h.part hp)).mp hg;rw[zD0 (h.part hp),List.map_map,List.mem_map] at this;obtain⟨x,hx,e⟩:=this;exact⟨x,List.mem_flatMap.mpr ⟨p,hp,hx⟩,e⟩
    ·rintro⟨x,hx,e⟩
     obtain⟨p,hp,hx⟩:=List.mem_flatMap.mp hx;refine⟨p,hp,(ih p (by have:=zBC hp;omega) (h.part hp)).mpr ?_⟩;rw[zD0 (h.part hp),List.map_map,List.mem_map];exact⟨x,hx,e⟩
 exact key _ t (lS _) h
theorem zIR {t u:Tr}{ks:List (Str × Str)}:Due t u ks zAr none↔¬rLeaf t u ks/\¬zEl t u ks/\¬rFree t u ks/\¬rTold t u ks/\¬rGap t u ks/\¬rKind t u ks/\¬rLoud t u ks:=by
 unfold zAr;constructor
 ·intro h
  cases h with|no h1 h=>?_
  cases h with|no h2 h=>?_
  cases h with|no h3 h=>?_
  cases h with|no h4 h=>?_
  cases h with|no h5 h=>?_
  cases h with|no h6 h=>?_
  cases h with|no h7 h=>?_
  exact⟨h1,h2,h3,h4,h5,h6,h7⟩
 ·rintro⟨h1,h2,h3,h4,h5,h6,h7⟩
  exact .no h1 (.no h2 (.no h3 (.no h4 (.no h5 (.no h6 (.no h7 .nil))))))
theorem zMh {t u:Tr}{ks:List (Str × Str)}(ht:NmG t) (hu:NmG u):rTold t u ks↔zHB (gcnt t) (gcnt t++gcnt u):=by
 unfold rTold;constructor
 ·rintro (⟨x,hx,g,as,rfl,h⟩|h|⟨x,hx,g,as,rfl,a,ha,y,rfl,_⟩)
  ·rcases ht _ hx g as rfl with rfl|⟨y,rfl⟩
   ·rcases h with ⟨a,ha,_⟩|h
    ·cases ha
    ·exact absurd List.nodup_nil h
   ·rcases h with ⟨a,ha,e⟩|h
    ·rw[List.mem_singleton.mp ha] at e
     cases e
    ·exact absurd (by simp[nmA]) h
  ·exact h
  ·rcases hu _ (List.mem_filter.mp hx).1 g as rfl with rfl|⟨z,rfl⟩
   ·cases ha
   ·cases List.mem_singleton.mp ha
 ·exact λ h=>.inr (.inl h)
theorem zKw {t u:Tr}{ks:List (Str × Str)}:(∀x∈gcnt t++gcnt u,zAp (gcnt t) x.1=some x.2)↔¬zHB (gcnt t) (gcnt t++gcnt u)/\¬rGap t u ks:=by
 constructor
 ·intro h
  refine⟨λ⟨x,hx,n,e,ne⟩=>ne (mG (e.symm.trans (h x hx))),λ⟨g,hg,ng⟩=>ng ?_⟩;obtain⟨x,hx,rfl⟩:=mE.mp hg;exact zBY.mp (by rw[h x (List.mem_append_right _ hx)];rfl)
 ·rintro⟨h1,h2⟩ x hx
  cases e:zAp (gcnt t) x.1 with
  |some n=>exact congrArg some (mF λ ne=>h1 ⟨x,hx,n,e,ne⟩)
  |none =>
   have nm:x.1∉(gcnt t).map (·.1):=λ z=>by
    have:=zBY.mpr z;rw[e] at this;cases this
   rcases lK.mp hx with h|h
   ·exact absurd (mE.mpr ⟨x,h,rfl⟩) nm
   ·exact absurd ⟨x.1,mE.mpr ⟨x,h,rfl⟩,nm⟩ h2
theorem zNS {t u:Tr}{ks:List (Str × Str)}(ht:NmG t) (hu:NmG u) (hk:∀p∈ks,p.1∈(gcnt t).map (·.1)):Due t u ks zAr none ↔
  ¬t.kd.leaf=true/\((letN t).Nodup/\t.fv []=[]/\(letN u).Nodup/\u.fv []=[])/\(∀x∈gcnt t++gcnt u,zAp (gcnt t) x.1=some x.2)/\(∀k∈ks,k.2=Str.ofString "number" -> ∀n,zAp (gcnt t) k.1=some n->n=0)/\(loudT t\/¬loudT u):=by
 rw[zIR,zMh ht hu,zKw (ks:=ks)]
 have e2:¬zEl t u ks↔(letN t).Nodup/\(letN u).Nodup:=by
  unfold zEl;exact⟨λ h=>⟨mF λ z=>h (.inl z),mF λ z=>h (.inr z)⟩,λ h z=>z.elim (λ y=>y h.1) (λ y=>y h.2)⟩
 have e3:¬rFree t u ks↔t.fv []=[]/\u.fv []=[]:=by
  unfold rFree;exact⟨λ h=>⟨mF λ z=>h (.inl z),mF λ z=>h (.inr z)⟩,λ h z=>z.elim (λ y=>y h.1) (λ y=>y h.2)⟩
 have e6:¬rKind t u ks↔∀k∈ks,k.2=Str.ofString "number" -> ∀n,zAp (gcnt t) k.1=some n->n=0:=by
  unfold rKind badK;constructor
  ·intro h k hk' e n en
   refine mF λ z=>h ⟨k,hk',.inr ⟨e,n,en,by omega⟩⟩
  ·rintro h ⟨k,hk',z|⟨e,n,en,hn⟩⟩
   ·have:=zBY.mpr (hk k hk')
    rw[z] at this;cases this
   ·have:=h k hk' e n en
    omega
 have e7:¬rLoud t u ks↔loudT t\/¬loudT u:=by
  unfold rLoud
  by_cases a:loudT t<;>by_cases b:loudT u<;>simp[a,b]
 have e1:¬rLeaf t u ks↔¬t.kd.leaf=true:=Iff.rfl;rw[e1,e2,e3,e6,e7];exact⟨λ⟨a,⟨b,b'⟩,⟨c,c'⟩,d,e,f,g⟩=>⟨a,⟨b,c,b',c'⟩,⟨d,e⟩,f,g⟩,λ⟨a,⟨b,c,b',c'⟩,⟨d,e⟩,f,g⟩=>⟨a,⟨b,b'⟩,⟨c,c'⟩,d,e,f,g⟩⟩
theorem zFf (t:Tr):t.kd.leaf=true↔t.parts.length=0:=by
 cases t with
 |bin o a b=>cases o<;>simp[Tr.kd,Bin.kd,Kd.leaf,Tr.parts]
 |_=>simp[Tr.kd,Kd.leaf,Tr.parts]
end L2
namespace L2
open PySem PySem.Spec PyProof.Rows
section
variable {X:Cx}
noncomputable def SmR (K:W.Frag) (H:Hp) (u v:V):Prop:=∃c d,u = .ref c/\v = .ref d/\(c=d\/∃ys,SqT K H c ys/\SqT K H d ys/\∀y∈ys,∃b,y = .ref b)
theorem zKZ {jP:List (Addr × Obj)}{σ:St}{H:Hp}{s:Shared}(I:Inv X jP σ H s) (A:Around) {c d:Addr}{ys:List V}(h1:SqT X.K H c ys) (h2:SqT X.K H d ys) (hy:∀y∈ys,∃b,y = .ref b) (hu:A.units<cLine) (hcd:c≠d):SeqAt.EqAt A s (.ref c) (.ref d) true:=by
 obtain⟨its,rv,p,_⟩:=I.tuple h1;obtain⟨its2,rv2,p2,_⟩:=I.tuple h2;have l1:=rv.length;have l2:=rv2.length;refine SeqAt.EqAt.of_refs hcd ?_
 have key:=SeqAt.RcAt.tuples (A:=A) (s:=s) (e:=λ U=>true) (show s.heap.IsTuple _ its.toArray from p) (show s.heap.IsTuple _ its2.toArray from p2) hu λ j h1 h2=>by
  have g1:j<ys.length:=by rw[l1];simpa using h1
  obtain⟨u1,eu,r1⟩:=rv.get (lX g1);obtain⟨u2,ev,r2⟩:=rv2.get (lX g1);obtain⟨b,eb⟩:=hy _ (List.getElem_mem g1);rw[eb] at r1 r2;cases r1;cases r2;have e1:its.toArray[j] = .ref b:=by obtain⟨_,q⟩:=lJ.mp eu;simpa using q
  have e2:its2.toArray[j] = .ref b:=by obtain⟨_,q⟩:=lJ.mp ev;simpa using q
  rw[e1,e2];exact SeqAt.EqAt.same _
 have ez:((List.range (min its.toArray.size its2.toArray.size)).all (λ U=>true) && its.toArray.size == its2.toArray.size)=true:=by simp;omega
 rw[ez] at key;exact key
theorem zJZ {α β:Type}{R:α->β->Prop}:∀{xs:List α}{ys:List β},Paired R xs ys->xs.length=ys.length
 |_,_,.nil=>rfl
 |_,_,.cons _ t=>by simp[zJZ t]
theorem zJa {α β:Type}{R:α->β->Prop}{xs:List α}{ys:List β}(h:Paired R xs ys):∀(j:Nat) (g1:j<xs.length) (g2:j<ys.length),R xs[j] ys[j]:=by
 induction h with
 |nil=>exact λ U g=>absurd g (Nat.not_lt_zero _)
 |cons h _ ih=>exact λ j=>match j with|0=>λ U U=>h|j+1=>λ g1 g2=>ih j (by simpa using g1) (by simpa using g2)
theorem zM6 (hu:X.A.units+1<cLine):OpR X (compareOp .Eq) (λ x y H Q=>∃(a b:Addr) (xs ys:List V),x = .ref a/\y = .ref b/\SqT X.K H a xs/\SqT X.K H b ys/\Paired (SmR X.K H) xs ys/\Q (.bl true) H):=by
 intro jP s σ H x y v u Q I rx ry h;obtain⟨a,b,xs,ys,rfl,rfl,ha,hb,hp,q⟩:=h;cases rx;cases ry;obtain⟨its,rv,p,_⟩:=I.tuple ha;obtain⟨its2,rv2,p2,_⟩:=I.tuple hb;have l1:=rv.length;have l2:=rv2.length;have l3:=zJZ hp;refine SeqAt.eq_tupleAt (e:=λ U=>true) (show s.heap.IsTuple _ its.toArray from p) (show s.heap.IsTuple _ its2.toArray from p2) (by omega) (λ j h1 h2=>?_) ?_
 ·have g1:j<xs.length:=by rw[l1];simpa using h1
  have g2:j<ys.length:=by omega
  obtain⟨u1,eu,r1⟩:=rv.get (lX g1);obtain⟨u2,ev,r2⟩:=rv2.get (lX g2);have e1:its.toArray[j]=u1:=by obtain⟨_,q⟩:=lJ.mp eu;simpa using q
  have e2:its2.toArray[j]=u2:=by obtain⟨_,q⟩:=lJ.mp ev;simpa using q
  have sm:=zJa hp j g1 g2;obtain⟨c,d,ec,ed,z⟩:=sm;rw[ec] at r1;rw[ed] at r2;cases r1;cases r2;rw[e1,e2]
  by_cases hcd:c=d
  ·subst hcd
   exact SeqAt.EqAt.same _
  ·rcases z with z|⟨zs,q1,q2,hz⟩
   ·exact absurd z hcd
   ·exact zKZ I X.A.in1 q1 q2 hz (by rw[show X.A.in1.units=X.A.units+1 from rfl];omega) hcd
 ·have ez:((List.range (min its.toArray.size its2.toArray.size)).all (λ U=>true) && its.toArray.size == its2.toArray.size)=true:=by simp;omega
  rw[ez];exact⟨.bl true,H,I,rfl,q⟩
end
end L2
namespace L2
open PySem
noncomputable def gS (t:Tr):List Str:=(gcnt t).map (·.1)
noncomputable def kin (t:Tr) (ks:List (Str × Str)):List (Str × Str):=ks.filter λ p=>decide (p.1∈gS t)
noncomputable def fz (t:Tr):List (Str × Str)->List V->List V
 |k::ks,y::ys=>if k.1∈gS t then y::fz t ks ys else fz t ks ys
 |_,_=>[]
theorem zKQ (t:Tr):∀(ks:List (Str × Str)) (ys:List V),(fz t ks ys).length<=ks.length
 |[],_=>lZ _
 |_::_,[]=>lZ _
 |k::ks,y::ys=>by
  have:=zKQ t ks ys;unfold fz;split<;>simp<;>omega
theorem zIO (t:Tr) {z:V}:∀{ks:List (Str × Str)}{ys:List V},z∈fz t ks ys->z∈ys
 |[],_,h=>nomatch h
 |_::_,[],h=>nomatch h
 |k::ks,y::ys,h=>by
  unfold fz at h;split at h
  ·rcases lP.mp h with rfl|h
   ·exact lQ
   ·exact lR _ (zIO t h)
  ·exact lR _ (zIO t h)
theorem zE9 (t:Tr):∀{ks:List (Str × Str)}{ys:List V}{i:Nat}{k:Str × Str}{y:V},ks[i]?=some k->ys[i]?=some y->fz t (ks.take (i+1)) (ys.take (i+1))=fz t (ks.take i) (ys.take i)++if k.1∈gS t then [y] else []
 |[],_,_,_,_,e,_=>by simp at e
 |_::_,[],_,_,_,_,e=>by simp at e
 |a::ks,b::ys,0,k,y,e1,e2=>by
  simp at e1 e2;subst e1 e2;simp[fz]
 |a::ks,b::ys,i+1,k,y,e1,e2=>by
  have ih:=zE9 t (ks:=ks) (ys:=ys) (i:=i) (k:=k) (y:=y) (by simpa using e1) (by simpa using e2);show fz t (a::ks.take (i+1)) (b::ys.take (i+1))=fz t (a::ks.take i) (b::ys.take i)++_;simp only[fz];rw[ih];split<;>rfl
theorem zKP {H:Hp}(t:Tr):∀{ks:List (Str × Str)}{ys:List V},Paired (PrV H) ys (kdV ks)->Paired (PrV H) (fz t ks ys) (kdV (kin t ks))
 |[],[],_=>.nil
 |[],_::_,h=>nomatch h
 |_::_,[],h=>nomatch h
 |k::ks,y::ys,h=>by
  cases h with
  |cons r q =>
   have ih:=zKP t (ks:=ks) (ys:=ys) q;unfold fz kin
   by_cases hk:k.1∈gS t
   ·rw[if_pos hk,List.filter_cons_of_pos (by simpa using hk)]
    exact .cons r ih
   ·rw[if_neg hk,List.filter_cons_of_neg (by simpa using hk)]
    exact ih
theorem zMR {t:Tr}{ks:List (Str × Str)}(h:(ks.map (·.1)).Nodup):((kin t ks).map (·.1)).Nodup:=List.Sublist.nodup (List.Sublist.map _ List.filter_sublist) h
theorem zKC (t:Tr) (ks:List (Str × Str)):(kin t ks).length<=ks.length:=List.length_filter_le _ _
theorem zOD {t:Tr}{ks:List (Str × Str)}:∀p∈kin t ks,p.1∈(gcnt t).map (·.1):=λ p hp=>lU (List.mem_filter.mp hp).2
theorem zJX {H:Hp}:∀{ks:List (Str × Str)}{ys:List V},Paired (PrV H) ys (kdV ks)->Paired (RpK H) ks ys
 |[],[],_=>.nil
 |[],_::_,h=>nomatch h
 |_::_,[],h=>nomatch h
 |k::ks,y::ys,h=>by
  cases h with
  |cons r q=>exact .cons r (zJX q)
theorem zJY {H:Hp}{kvs:List (Key × V)}{ys:List V}(h:Paired (PrV H) ys kvs):∀y∈ys,∃b,y = .ref b:=by
 induction h with
 |nil=>exact λ U h=>nomatch h
 |cons r q ih =>
  intro y h;rcases lP.mp h with rfl|h
  ·obtain⟨b,e,_⟩:=r;exact⟨b,e⟩
  ·exact ih y h
noncomputable def MkR (ρ:Kd->List Nat) (t u:Tr) (ks:List (Str × Str)):Prop:=Due t u (kin t ks) zAr none/\dueP ρ t u (kin t ks)
noncomputable def RuAt (H:Hp) (x a b:V) (zs:List V):Prop:=∃(r k:Addr) (o:Obj),x = .ref r/\H r=some (.tup [a,b,.ref k])/\H k=some (.frz o (.tup zs))
noncomputable def MadeQ (ρ:Kd->List Nat) (H:Hp) (t u:Tr) (v1 v2:V) (ks:List (Str × Str)) (ys:List V) (x:V):Prop :=
 (MkR ρ t u ks/\RuAt H x v1 v2 (fz t ks ys))\/(¬MkR ρ t u ks/\MkR ρ u t ks/\RuAt H x v2 v1 (fz u ks ys))\/(¬MkR ρ t u ks/\¬MkR ρ u t ks/\x = .non)
noncomputable def KdsY (H:Hp) (ka:Addr) (ks:List (Str × Str)) (ys:List V):Prop:=∃o:Obj,H ka=some (.frz o (.tup ys))/\o.dict=none/\Paired (PrV H) ys (kdV ks)
theorem Sf.frzT {H H':Hp}(h:Sf H H') {a:Addr}{o:Obj}{ys:List V}(e:H a=some (.frz o (.tup ys))):H' a=some (.frz o (.tup ys)):=by
 rcases h _ _ e with h|⟨_,_,e2,_⟩
 ·exact h
 ·cases e2
theorem KdsY.mono {H H':Hp}(h:Sf H H') {ka:Addr}{ks:List (Str × Str)}{ys:List V}:KdsY H ka ks ys->KdsY H' ka ks ys
 |⟨o,e,d,p⟩=>⟨o,h.frzT e,d,Paired.mapP p λ U U z=>zBn h.tk z⟩
noncomputable def rInDk:R2:=λ x y H Q=>∃(a:Addr) (o:Option V),y = .ref a/\DGet H a x o/\Q (.bl o.isSome) H
theorem SqT.sm {K:W.Frag}{H H':Hp}{a:Addr}{xs:List V}(h:SqT K H a xs) (g:Same H H'):SqT K H' a xs:=h.elim (λ r=>.inl (r.elim (λ e=>.inl (g _ _ e)) λ⟨o,e⟩=>.inr ⟨o,g _ _ e⟩)) .inr
theorem zM5 {K:W.Frag}{i:Nat}{σ:L2.St}{H:Hp}{Q:VK}{ka:Addr}{ys:List V}(hv:σ[i]?=some (some (.ref ka))) (hk:SqT K H ka ys) (h:∀kt H',Same H H'->SqT K H' kt ys->Q (.ref kt) H'):tOrT K (tVar i) (tTupF tNil) σ H Q:=by
 refine⟨_,hv,!ys.isEmpty,Or.inr (Or.inl ⟨ys,hk,rfl⟩),?_⟩;cases ys with
 |nil=>exact⟨lZ _,λ p o hp ho=>h p _ (zAC hp) (.inl (.inr ⟨o,zAB⟩))⟩
 |cons y ys=>exact h ka H (.refl _) hk
structure Sds (t u:Tr):Prop where
 st:t.size<=40
 su:u.size<=40
 nt:NmG t
 nu:NmG u
 ws:∃ws:List Str,ws.length<64/\(∀x∈t.fv [],x∈ws)/\(∀x∈u.fv [],x∈ws)
theorem Sds.symm {t u:Tr}(h:Sds t u):Sds u t:=⟨h.su,h.st,h.nu,h.nt,let ⟨ws,a,b,c⟩:=h.ws;⟨ws,a,c,b⟩⟩
theorem NmG.cnt {t:Tr}(h:NmG t):∀p∈t.subs,(cnt1 p).length<=10:=λ p hp=>by
 by_cases k:p.kd = .gap
 ·rw[zKl (h p hp) k]
  simp
 ·rw[zGL k]
  simp
theorem NmG.h4 {t:Tr}(h:NmG t):∀x∈t.subs,∀g as,x = .gap g as->as.length<=1:=λ x hx g as e=>by
 rcases h x hx g as e with rfl|⟨y,rfl⟩<;>simp
theorem zGv {ρ:Kd->List Nat}{t u:Tr}{ks:List (Str × Str)}(h:Sds t u) (hD:Due t u ks zAr none):fallP ρ t u ks↔dueP ρ t u ks:=by
 refine zLt λ g hg=>?_;obtain⟨_,_,_,_,h5,_⟩:=zIR.mp hD;rw[zGE h.nt];rw[zGE h.nu] at hg;exact mF λ z=>h5 ⟨g,hg,z⟩
theorem zKi (x:V) (xs:List V):cutV (x::xs) (some 1) none=xs:=by
 have e1:HT.sIx (x::xs).length 0 (some 1)=1:=by
  have:=HT.sIx_nat (x::xs).length 0 1;rw[show ((1:Nat):Int)=1 from rfl] at this;rw[this];simp
 unfold cutV;rw[e1,HT.sIx_none];simp
theorem zGJ (x:V) (xs:List V):¬(HT.sIx (x::xs).length 0 (some 1)=0/\HT.sIx (x::xs).length (x::xs).length none=(x::xs).length):=λ h=>by
 have:=HT.sIx_nat (x::xs).length 0 1;rw[show ((1:Nat):Int)=1 from rfl,h.1] at this;simp at this
noncomputable def Elt (H:Hp) (t:Tr) (x:V):Prop:=(∃z,x = .str z)\/(∃i,x = .int i)\/(∃b us,x = .ref b/\H b=some (.tup us)/\us.length<=1)\/∃p∈t.parts,Rep H p x
theorem Rep.items {H:Hp}{t:Tr}{v:V}(h:Rep H t v) (hN:NmG t):∃a xs,v = .ref a/\H a=some (.tup (.str t.kd.s::xs))/\1<=xs.length/\∀x∈xs,Elt H t x:=by
 cases t with
 |num n=>obtain⟨a,e,h⟩:=h;exact⟨a,_,e,h,lS _,λ x hx=>.inr (.inl ⟨n,by simpa using hx⟩)⟩
 |name n=>obtain⟨a,e,h⟩:=h;exact⟨a,_,e,h,lS _,λ x hx=>.inl ⟨n,by simpa using hx⟩⟩
 |ask n=>obtain⟨a,e,h⟩:=h;exact⟨a,_,e,h,lS _,λ x hx=>.inl ⟨n,by simpa using hx⟩⟩
 |stop n=>obtain⟨a,e,h⟩:=h;exact⟨a,_,e,h,lS _,λ x hx=>.inl ⟨n,by simpa using hx⟩⟩
 |gap g as =>
  obtain⟨a,b,us,e,h,hb,_,p⟩:=h;refine⟨a,_,e,h,(by show 1<=2;decide),λ x hx=>?_⟩;have hx':x = .str g\/x = .ref b:=by simpa using hx
  rcases hx' with rfl|rfl
  ·exact .inl ⟨g,rfl⟩
  ·refine .inr (.inr (.inl ⟨b,us,rfl,hb,?_⟩))
   rw[zAH p];rcases hN _ (by rw[zCB];exact lQ) g as rfl with rfl|⟨y,rfl⟩<;>simp
 |say t =>
  obtain⟨a,u,e,h,r⟩:=h;refine⟨a,_,e,h,lS _,λ x hx=>.inr (.inr (.inr ⟨t,by simp[Tr.parts],?_⟩))⟩;have:x=u:=by simpa using hx
  rw[this];exact r
 |bin o s t =>
  obtain⟨a,u,w,e,h,r1,r2⟩:=h;refine⟨a,[u,w],e,by show _=some (HO.tup [V.str o.kd.s,u,w]);rw[Bin.kd_s];exact h,(by show 1<=2;decide),λ x hx=>.inr (.inr (.inr ?_))⟩;have hx':x=u\/x=w:=by simpa using hx
  rcases hx' with rfl|rfl
  ·exact⟨s,by simp[Tr.parts],r1⟩
  ·exact⟨t,by simp[Tr.parts],r2⟩
 |ite r s t =>
  obtain⟨a,u,w,z,e,h,r1,r2,r3⟩:=h;refine⟨a,[u,w,z],e,h,(by show 1<=3;decide),λ x hx=>.inr (.inr (.inr ?_))⟩;have hx':x=u\/x=w\/x=z:=by simpa using hx
  rcases hx' with rfl|rfl|rfl
  ·exact⟨r,by simp[Tr.parts],r1⟩
  ·exact⟨s,by simp[Tr.parts],r2⟩
  ·exact⟨t,by simp[Tr.parts],r3⟩
 |lett y s t =>
  obtain⟨a,u,w,e,h,r1,r2⟩:=h;refine⟨a,[.str y,u,w],e,h,(by show 1<=3;decide),λ x hx=>?_⟩;have hx':x = .str y\/x=u\/x=w:=by simpa using hx
  rcases hx' with rfl|rfl|rfl
  ·exact .inl ⟨y,rfl⟩
  ·exact .inr (.inr (.inr ⟨s,by simp[Tr.parts],r1⟩))
  ·exact .inr (.inr (.inr ⟨t,by simp[Tr.parts],r2⟩))
theorem Elt.mono {H H':Hp}(k:Tk H H') {t:Tr}{x:V}:Elt H t x->Elt H' t x
 |.inl h=>.inl h
 |.inr (.inl h)=>.inr (.inl h)
 |.inr (.inr (.inl ⟨b,us,e,h,l⟩))=>.inr (.inr (.inl ⟨b,us,e,k _ _ h,l⟩))
 |.inr (.inr (.inr ⟨p,hp,r⟩))=>.inr (.inr (.inr ⟨p,hp,r.mono k⟩))
end L2
namespace L2
open PySem PySem.Spec PySem.W PyProof.Rows
section
variable {X:Cx}
theorem zJ7 {jP:List (Addr × Obj)}{σ:L2.St}{H:Hp}{s:Shared}{xs:List V}{its:Array Value}(I:Inv X jP σ H s) (r:Vals xs its.toList) (hz:xs.length<=sizeLine) :
  Inv X jP σ (upd H s.heap.objs.size (.lst xs)) { s with heap:=s.heap.push { cls:=.type "list", data:=.seq its } } :=
 I.laid (t':=s.toks) (λ b u e=>lG _ e) (lS _) ⟨hz,its.toList,0,r,lH _ rfl⟩
theorem zJm:OpR X (binaryOp .Mult) (λ x y H Q=>∃(a:Addr) (v:V) (b:Bool),x = .ref a/\y = .int (if b then 1 else 0)/\H a=some (.lst [v])/\∀p,H p=none->Q (.ref p) (upd H p (.lst (if b then [v] else [])))):=by
 intro jP s σ H x y v u Q I rx ry h;obtain⟨a,z,b,rfl,rfl,ha,q⟩:=h;cases rx;obtain⟨t,rfl⟩:=ry;obtain⟨_,its,n,r1,l1,e1⟩:=I.lstM ha;obtain⟨u0,rfl,ru⟩:=vals1 r1;have ho:=e1;have hb:((if b=true then 1 else 0:Int)).toNat<=1:=by cases b<;>decide
 refine wpAny_binaryOp_repeat_ref (T := "list") (U := "int") (by decide) ⟨_,ho,rfl⟩ (λ s'=>typeIs_int s' _ t) noFill_list_mul F.fills_int_mul F.slot_int_rmul repeat_list F.slot_int_index.lookup
  (call_meets F.slot_int_rmul (typeIs_int s _ t) F.entry_int_rmul (F.args_int_rmul_2 _ _) (lm_int_rmul_list_any _ t a [u0].toArray n none #[])
   ⟨ho,rfl,⟨_,ho,rfl⟩,call_meets F.slot_list_mul ⟨_,ho,rfl⟩ F.entry_list_mul (F.args_list_mul_2 _ _)
    (lm_list_mul_any a [u0].toArray n none #[] _ t (by cases b<;>simp[Builtin.List.listFitsIndex]) (by cases b<;>simp) (by cases b<;>simp[Builtin.List.listTooLong,sizeLine]))
    ⟨ho,?_⟩⟩)
 have hf:H s.heap.objs.size=none:=I.fresh;cases b with
 |true=>exact⟨.ref s.heap.objs.size,_,zJ7 (xs:=[z]) I (.cons ru .nil) (by show 1<=sizeLine;decide),rfl,q _ hf⟩
 |false=>exact⟨.ref s.heap.objs.size,_,zJ7 (xs:=[]) I .nil (lZ _),rfl,q _ hf⟩
theorem zM8 (hu:X.A.units<cLine):OpR X (compareOp .Eq) (λ x y H Q=>∃(a b:Addr) (ka:List (Key × V)),x = .ref a/\y = .ref b/\Rd H a (.dK ka)/\Rd H b (.dK ka)/\(∀p∈ka,valV ka p.1=some p.2)/\(∀p∈ka,∃b,p.2=V.ref b)/\Q (.bl true) H):=by
 intro jP s σ H x y v u Q I rx ry h;obtain⟨a,b,ka,rfl,rfl,ha,hb,f,fr,q⟩:=h;cases rx;cases ry;obtain⟨z1,sa,va,ra,da⟩:=dk_rd I.hok ha;obtain⟨z2,sb,vb,rb,db⟩:=dk_rd I.hok hb;refine W.keq_eq sa sb da db hu (λ U=>zGt rb ra f fr) ?_;have e:(va.length == vb.length)=true:=by rw[←Paired.length ra,←Paired.length rb];exact beq_self_eq_true _
 rw[e];exact⟨.bl true,H,I,rfl,q⟩
end
end L2
namespace L2
open PySem
noncomputable def Pd (S:List Str) (t:Tr):Prop:=NmG t/\∀y∈t.fv [],y∈S
theorem zEX {t:Tr}(h:¬t.kd = .gap) (hp:∀p∈t.parts,NmG p):NmG t:=λ x hx g as e=>by
 rw[zCB] at hx;rcases lP.mp hx with rfl|hx
 ·rw[e] at h
  exact absurd rfl h
 ·obtain⟨p,hpt,hx⟩:=List.mem_flatMap.mp hx
  exact hp p hpt x hx g as e
theorem Pd.mono {S T:List Str}(h:∀x∈S,x∈T) {t:Tr}(p:Pd S t):Pd T t:=⟨p.1,λ y hy=>h y (p.2 y hy)⟩
theorem zF5 {S:List Str}{t:Tr}(h:¬t.kd = .gap) (hp:t.parts=[]) (hf:t.fv []=[]):Pd S t:=⟨zEX h (by rw[hp];simp),by rw[hf];simp⟩
theorem zEq {S:List Str}{x:Str}(h:x∈S):Pd S (.name x):=⟨zEX (λ z=>nomatch z) (by simp[Tr.parts]),λ y hy=>by
 have:y=x:=by simpa[Tr.fv,Tr.names] using hy
 rw[this];exact h⟩
theorem zM4 {S:List Str}(g:Str):Pd S (.gap g []):=⟨λ x hx g' as e=>by
 rw[zCB] at hx;simp[Tr.parts] at hx;rw[hx] at e;cases e;exact .inl rfl,by rw[zKS];simp⟩
theorem zM3 {S:List Str}(g:Str) {x:Str}(h:x∈S):Pd S (.gap g [.name x]):=⟨λ y hy g' as e=>by
 rw[zCB] at hy;simp[Tr.parts] at hy;rw[hy] at e;cases e;exact .inr ⟨x,rfl⟩,by
 rw[zKS];intro y hy;have:y=x:=by simpa[Atom.names] using hy
 rw[this];exact h⟩
theorem zF4 {S:List Str}{t:Tr}(h1:¬t.kd = .name) (h2:¬t.kd = .gap) (h3:¬t.kd = .lett) (hp:∀p∈t.parts,Pd S p):Pd S t:=⟨zEX h2 λ p q=>(hp p q).1,λ y hy=>by
 rw[zGG h1 h2 h3] at hy;obtain⟨p,q,hy⟩:=List.mem_flatMap.mp hy;exact(hp p q).2 y hy⟩
theorem zGk {S:List Str}{o:Bin}{a b:Tr}(ha:Pd S a) (hb:Pd S b):Pd S (.bin o a b):=zF4 (by cases o<;>exact(λ z=>nomatch z)) (by cases o<;>exact(λ z=>nomatch z)) (by cases o<;>exact(λ z=>nomatch z)) (by simp[Tr.parts];exact⟨ha,hb⟩)
theorem zEr {S:List Str}{x:Str}{a b:Tr}(ha:Pd S a) (hb:Pd S b):Pd S (.lett x a b):=⟨zEX (λ z=>nomatch z) (by simp[Tr.parts];exact⟨ha.1,hb.1⟩),λ y hy=>by
 rcases lK.mp (show y∈a.fv []++b.fv ([]++[x]) from hy) with h|h
 ·exact ha.2 y h
 ·exact hb.2 y ((zCs _ _ _).mp h).1⟩
theorem zEN:∀{t:Tr},t.odd=[]->Pd [] t
 |.num n,_=>zF5 (λ z=>nomatch z) rfl rfl
 |.ask n,_=>zF5 (λ z=>nomatch z) rfl rfl
 |.stop n,_=>zF5 (λ z=>nomatch z) rfl rfl
 |.gap g [],_=>zM4 g
 |.say a,h=>zF4 (λ z=>nomatch z) (λ z=>nomatch z) (λ z=>nomatch z) (by simp[Tr.parts];exact zEN (show a.odd=[] from h))
 |.bin o a b,h=>by
  obtain⟨h1,h2⟩:=List.append_eq_nil_iff.mp (show a.odd++b.odd=[] from h);exact zGk (zEN h1) (zEN h2)
 |.ite a b c,h=>by
  obtain⟨h1,h2⟩:=List.append_eq_nil_iff.mp (show a.odd++(b.odd++c.odd)=[] from h);obtain⟨h2,h3⟩:=List.append_eq_nil_iff.mp h2;exact zF4 (λ z=>nomatch z) (λ z=>nomatch z) (λ z=>nomatch z) (by simp[Tr.parts];exact⟨zEN h1,zEN h2,zEN h3⟩)
theorem pick2 {x0 x1:Str}(z:Int):∃y,atI [V.str x0,.str x1] (z % 2)=some (.str y)/\y∈[x0,x1]:=by
 have h0:=Int.emod_nonneg z (show (2:Int)≠0 by decide);have h1:=Int.emod_lt_of_pos z (show (0:Int)<2 by decide);have h:z % 2=0\/z % 2=1:=by omega
 rcases h with h|h<;>rw[h]
 ·exact⟨x0,rfl,by simp⟩
 ·exact⟨x1,rfl,by simp⟩
end L2
set_option maxHeartbeats 40000000
namespace L2
open PySem
theorem zNp {H:Hp}{d:Addr}{rs:Scl}{kvs:List (Key × V)}(s:ScD H d rs kvs):∀p∈kvs,valV kvs p.1=some p.2:=λ p hp=>by
 obtain⟨i,hi⟩:=List.getElem?_of_mem hp;exact zHm s.nd hi
theorem zNq {H:Hp}{d:Addr}{rs:Scl}{kvs:List (Key × V)}(s:ScD H d rs kvs):∀p∈kvs,∃b,p.2=V.ref b:=λ p hp=>by
 obtain⟨i,hi⟩:=List.getElem?_of_mem hp;obtain⟨_,_,_,_,b,e,_⟩:=zCj s.ps hi;exact⟨b,e⟩
section
variable {w0 w1 w2:Str}{m0 m1:Int}
theorem zJ6 (b:Bool):∀t∈[Tr.gap w0 [],.gap w1 [],.gap w2 [],.num m0,.num m1]++(if b=true then [Tr.ask w0] else []),t.size=1:=by
 cases b<;>simp[Tr.size]
theorem zMO (b:Bool):GS [] ([Tr.gap w0 [],.gap w1 [],.gap w2 [],.num m0,.num m1]++if b=true then [Tr.ask w0] else []):=by
 intro t ht;cases b<;>simp at ht<;>(rcases ht with rfl|rfl|rfl|rfl|rfl|rfl<;>exact(λ g hg=>nomatch hg))
theorem gd3k (w0 w1 w2:Str):(zAf [] [((Sum.inr w0:Key),V.int 0),(Sum.inr w1,V.int 0),(Sum.inr w2,V.int 0)]).length<=3/\GD [w2,w1,w0] (zAf [] [((Sum.inr w0:Key),V.int 0),(Sum.inr w1,V.int 0),(Sum.inr w2,V.int 0)]):=by
 refine⟨?_,((GD.nil.put w0 0).put w1 0).put w2 0⟩;have l1:=zAx [] (Sum.inr w0:Key) (.int 0);have l2:=zAx (putK [] (Sum.inr w0:Key) (.int 0)) (Sum.inr w1:Key) (.int 0);have l3:=zAx (putK (putK [] (Sum.inr w0:Key) (.int 0)) (Sum.inr w1:Key) (.int 0)) (Sum.inr w2:Key) (.int 0);have e0:([]:List (Key × V)).length=0:=rfl;show (putK (putK (putK [] (Sum.inr w0:Key) (.int 0)) (Sum.inr w1:Key) (.int 0)) (Sum.inr w2:Key) (.int 0)).length<=3;omega
theorem pick3 (z:Int):∃y,atI [V.str w0,.str w1,.str w2] (z % 3)=some (.str y):=by
 have h0:=Int.emod_nonneg z (show (3:Int)≠0 by decide);have h1:=Int.emod_lt_of_pos z (show (0:Int)<3 by decide);have h:z % 3=0\/z % 3=1\/z % 3=2:=by omega
 rcases h with h|h|h<;>rw[h]
 ·exact⟨w0,rfl⟩
 ·exact⟨w1,rfl⟩
 ·exact⟨w2,rfl⟩
theorem zFc {ρ:Kd->List Nat}{H H':Hp}{t u:Tr}{v1 v2 x y:V}{ks:List (Str × Str)}{ys:List V}(g:Same H H') (hS:Sds t u) (r1:Rep H' t v1) (r2:Rep H' u v2) (hy:∀y∈ys,∃b,y=V.ref b) (h:MadeQ ρ H t u v1 v2 ks ys x) (h':MadeQ ρ H' t u v1 v2 ks ys y) :
  (x = .non/\y = .non)\/∃(t u:Tr) (v1 v2:V) (zs:List V),RuAt H' x v1 v2 zs/\RuAt H' y v1 v2 zs/\Rep H' t v1/\Rep H' u v2/\Sds t u/\∀z∈zs,∃b,z = .ref b:=by
 have up:∀{a b:V}{zs:List V},RuAt H x a b zs->RuAt H' x a b zs:=λ⟨r,k,o,e,h1,h2⟩=>⟨r,k,o,e,g _ _ h1,g _ _ h2⟩;rcases h with ⟨a,b⟩|⟨a,b,c⟩|⟨a,b,c⟩<;>rcases h' with ⟨a',b'⟩|⟨a',b',c'⟩|⟨a',b',c'⟩
 ·exact .inr ⟨t,u,v1,v2,_,up b,b',r1,r2,hS,λ z hz=>hy z (zIO t hz)⟩
 ·exact absurd a a'
 ·exact absurd a a'
 ·exact absurd a' a
 ·exact .inr ⟨u,t,v2,v1,_,up c,c',r2,r1,hS.symm,λ z hz=>hy z (zIO u hz)⟩
 ·exact absurd b b'
 ·exact absurd a' a
 ·exact absurd b' b
 ·exact .inl ⟨c,c'⟩
end
end L2
set_option maxHeartbeats 4000000
namespace L2
open PySem PySem.W
set_option tactic.hygienic true in
theorem zHD {K:Frag}{R:Addr}{newId:String}(q:excIn K R mroVE newId=true):tailIn K mroVE (.ref R::mroVE)=true:=by
 unfold excIn at q;split at q
 ·rename_i dd cd sl ho
  split at q
  ·simp only[Bool.and_eq_true,beq_iff_eq,Bool.not_eq_true'] at q
   obtain⟨⟨⟨⟨_,_⟩,_⟩,hok⟩,hni⟩:=q;unfold tailIn;refine Bool.or_eq_true_iff.mpr (.inr ?_);dsimp only;rw[ho];simp only[Bool.and_eq_true,beq_iff_eq];refine⟨⟨hok,hni⟩,?_⟩;unfold tailIn;exact Bool.or_eq_true_iff.mpr (.inl (beq_self_eq_true _))
  ·cases q
 ·cases q
end L2
namespace K60
open PySem PySem.Spec L2 PyProof.Rows
section
variable {P:Program}{w:World}{K:W.Frag}{mg:Str->Option Value}{base:Heap}
def top (i:Nat):Stmt:=PySem.Challenge.pw_recastle_k60_a_rule_made.main.body.getD i (.Pass ⟨0,0,0,0⟩)
abbrev zCW:Stmt:=top 7
theorem zFJ:zAY ["tree"] ["tree"] (zAJ zCW):=by nofun
abbrev zHO:Stmt:=top 8
theorem zLA:zAY ["tree"] ["tree"] (zAJ zHO):=by nofun
abbrev zDe:Stmt:=top 9
theorem zBN:zAY ["tree", "found", "level", "deeper", "part"] ["tree"] (zAJ zDe):=by nofun
abbrev zCG:Stmt:=top 10
theorem zAk:zAY ["tree", "found", "level", "deeper", "place", "part", "number", "inner"] ["tree"] (zAJ zCG):=by nofun
noncomputable def zFF (t:Tr):Int:=t.head
noncomputable def zDM:Sp:=λ vs H Q U=>∃t v,vs=[v]/\Rep H t v/\Q (.int (zFF t)) H
theorem zFM {k:Nat}{f:Addr}{fd:FuncData}{lv:Addr}(F:Fun K "parts_begin" "parts_begin" zCW f fd) (z_len:mg "len" = none) (zOW:mg "LEAF_SIGNS" = some (.ref lv)) (hL:zFI K lv) :
  FnOk P w K mg base CX0 (k+1) f fd ["tree"] zDM:=by
 refine F.ok zFJ (λ vs H Q E h=>?_) (λ cdv A outer s H vs Q E hr h=>?_)
 ·obtain⟨t,v,rfl,_⟩:=h
  rfl
 obtain⟨t,v,rfl,hR,q⟩:=h
 refine⟨_,(zAE (ps_if (zAN (r:=rIn K false) zB1 (iC (r:=rIxT K) zAL (pv 0)) (zBz (v:=.ref _) (by rfl) zOW (by rfl)) rfl) (zAF (zAS (zAX zAa (by rfl) z_len PySem.boot_len (zAA (pv 0) zAD)))) zAU)
  (zAE (ps_if (zAN op_eq (iC (r:=rIxT K) zAL (pv 0)) zAd (zAZ _)) (zAF (zAS zAG)) zAU)
  (zAF (zAS zAG)))),?_⟩
 try dsimp only[cxOf,Cx.nox]
 obtain⟨a,hs,us,rfl,ha,hl,hp⟩:=hR.all;have h0:atI (V.str t.kd.s::hs++us) 0=some (.str t.kd.s):=zAI (j:=0) rfl;refine⟨_,rfl,a,_,0,_,rfl,rfl,SqT.of ha,h0,lv,zCp,rfl,.inr (.inr hL),rfl,rfl,_,rfl,?_⟩;show if inV (.str t.kd.s) zCp=true then _ else _
 rw[zGC];refine ite2 (λ c=>?_) (λ c=>?_)
 ·refine⟨_,rfl,a,_,rfl,.inr (SqT.of ha),?_⟩
  have e:((V.str t.sign::hs++us).length:Int)=zFF t:=by
   have hu:us.length=0:=by
    rw[←hp.length];cases t with
    |bin o a b=>cases o<;>cases c
    |_=>first|rfl|cases c
   rw[List.length_append,List.length_cons,hu];unfold zFF;omega
  rw[e];exact q
 ·refine⟨_,rfl,a,_,0,_,rfl,rfl,SqT.of ha,h0,rfl,_,rfl,?_⟩
  refine ite2 (λ d=>?_) (λ d=>?_)
  ·have z:t.kd = .lett:=Kd.eq_iff.mp (lU d)
   have e:zFF t=2:=by
    cases t with
    |lett x a b=>rfl
    |bin o a b=>cases o<;>cases z
    |_=>cases z
   rw[e] at q;exact q
  ·have e:zFF t=1:=by
    cases t with
    |lett x a b=>exact absurd rfl d
    |bin o a b=>rfl
    |ite a b c=>rfl
    |say a=>rfl
    |_=>exact absurd rfl c
   rw[e] at q;exact q
noncomputable def zAu:Sp:=λ vs H Q U=>∃t v,vs=[v]/\Rep H t v/\∀p H' us,Same H H'->H' p=some (.tup us)->Paired (Rep H') t.parts us->Q (.ref p) H'
theorem zLS {k:Nat}{f g:Addr}{fd gd:FuncData}(F:Fun K "parts" "parts" zHO f fd) (zOX:FnB P w K mg base k "parts_begin" g gd ["tree"] zDM) :
  FnOk P w K mg base CX0 (k+1) f fd ["tree"] zAu:=by
 refine F.ok zLA (λ vs H Q E h=>?_) (λ cdv A outer s H vs Q E hr h=>?_)
 ·obtain⟨t,v,rfl,_⟩:=h
  rfl
 obtain⟨t,v,rfl,hR,q⟩:=h;refine⟨_,(zAF (zAS (zBU zEB (pv 0) (zBj (pe_cl zOX hr (zAA (pv 0) zAD))) zBy))),?_⟩
 try dsimp only[cxOf,Cx.nox]
 obtain⟨a,hs,us,rfl,ha,hl,hp⟩:=hR.all;have hn:(V.str t.sign::hs++us).length=t.head+us.length:=by rw[List.length_append,List.length_cons];omega
 have h1:=zLq t
 have e1:HT.sIx (V.str t.sign::hs++us).length 0 (some (zFF t))=t.head:=by
  show HT.sIx _ 0 (some ((t.head:Nat):Int))=_;rw[HT.sIx_nat,hn];omega
 have e2:cutV (V.str t.sign::hs++us) (some (zFF t)) none=us:=by
  unfold cutV;rw[e1,HT.sIx_none,hn]
  have:(V.str t.sign::hs++us).drop t.head=us:=by
   rw[←hl];exact List.drop_left' rfl
  rw[this,List.take_of_length_le (by omega)]
 refine⟨_,rfl,_,rfl,t,_,rfl,hR,_,rfl,a,_,rfl,ha,λ z=>?_,λ p H' g e=>?_⟩
 ·rw[e1] at z
  omega
 ·rw[e2] at e
  exact q p H' us g e (Paired.mapP hp λ U U r=>r.mono g.tk)
noncomputable def zJP:Sp:=λ vs H Q U=>∃(t:Tr) (v:V),vs=[v]/\Rep H t v/\t.size<=60/\∀(l:Addr) (us:List V) (F:List Tr) (H':Hp),Same H H'->H' l=some (.lst us)->Paired (Rep H') F us->F.Perm t.subs->Q (.ref l) H'
theorem zOC {k:Nat}{f g1:Addr}{fd gd1:FuncData}(F:Fun K "all_parts" "all_parts" zDe f fd) (zOY:FnB P w K mg base k "parts" g1 gd1 ["tree"] zAu):FnOk P w K mg base CX0 (k+1) f fd ["tree"] zJP:=by
 refine F.ok zBN (λ vs H Q E h=>?_) (λ cdv A outer s H vs Q E hr h=>?_)
 ·obtain⟨t,v,rfl,_⟩:=h
  rfl
 obtain⟨t,v,rfl,hR,hsz,q⟩:=h
 refine⟨_,(zAE (zAV (i:=1) zBN.nd rfl (Or.inl rfl) (zA2 zAD:PE _ _ _))
  (zAE (zAV (i:=2) zBN.nd rfl (Or.inl rfl) (zA2 (zAA (pv 0) zAD):PE _ _ _))
  (zAE (zDs PassesOwn.never (zDp (pv 2) (λ U=>rfl)) (zAE (zAt (pe_bm PySem.F.plainAttrs_list PySem.F.slot_list_extend PySem.F.type_list_extend zB2 (pv 1) (zAA (pv 2) zAD)))
  (zAE (zAV (i:=3) zBN.nd rfl (Or.inl rfl) (zA2 zAD:PE _ _ _))
  (zAE (zAo PassesOwn.never rfl (zA4 (pv 2)) (zAK (i:=4) zBN.nd rfl (Or.inl rfl)) (zAF (zAt (pe_bm PySem.F.plainAttrs_list PySem.F.slot_list_extend PySem.F.type_list_extend zIu (pv 3) (zAA (pe_cl zOY hr (zAA (pv 4) zAD)) zAD)))))
  (zAF (zAV (i:=2) zBN.nd rfl (Or.inl rfl) (pv 3)))))))
  (zAF (zAS (pv 1)))))),?_⟩
 try dsimp only[cxOf,Cx.nox]
 refine⟨(by show 0<=sizeLine;decide),λ fo hfo=>⟨_,rfl,(by show 1<=sizeLine;decide),λ l hl=>?_⟩⟩;have g1:=zAC (o:=.lst []) hfo;have g2:=zAC (o:=.lst [v]) hl
 refine⟨λ m σ' H'=>∃(l:Addr) (ls fs:List V) (L Fd:List Tr) (s3 s4:Option V),σ'=[some v,some (.ref fo),some (.ref l),s3,s4]/\Same H H'/\H l=none/\l≠fo/\H' fo=some (.lst fs)/\H' l=some (.lst ls) /\
   Paired (Rep H') Fd fs/\Paired (Rep H') L ls/\m=szT L/\(Fd++L.flatMap Tr.subs).Perm t.subs/\Fd.length+szT L<=t.size,
  ⟨t.size,l,[v],[],[t],[],none,none,rfl,g1.trans g2,g1.free hl,Ne.symm (zAT (zAB (H:=H) (a:=fo) (o:=.lst [])) hl),g2 _ _ zAB,zAB,.nil,.cons (hR.mono (g1.trans g2).tk) .nil,by simp[szT],by simp,by simp[szT]⟩,?_⟩
 rintro m σ' Hw ⟨l,ls,fs,L,Fd,s3,s4,rfl,gw,hl,hlf,ef,el,pF,pL,rfl,hmem,hcnt⟩;have lL:ls.length=L.length:=zAH pL;have lF:fs.length=Fd.length:=zAH pF;have hZ:=zDk L;refine⟨_,rfl,_,.inl ⟨ls,SqL.of el,rfl⟩,?_⟩;refine ite2 (λ c=>?_) (λ c=>?_)
 ·refine⟨_,λ U U h=>h,?_⟩
  refine⟨_,rfl,.inl ⟨rfl,_,SqL.of ef⟩,_,rfl,fo,l,fs,ls,rfl,rfl,ef,el,zAe (by omega),?_⟩;have ef1:(upd Hw fo (.lst (fs++ls))) fo=some (.lst (fs++ls)):=zAB;have el1:(upd Hw fo (.lst (fs++ls))) l=some (.lst ls):=by rw[zAW hlf];exact el
  have gw1:Same H (upd Hw fo (.lst (fs++ls))):=zAO gw hfo;have tk1:Tk Hw (upd Hw fo (.lst (fs++ls))):=Tk.lst ef;show tSeq _ _ _ _ (upd Hw fo (.lst (fs++ls)));generalize upd Hw fo (.lst (fs++ls))=H1 at ef1 el1 gw1 tk1 ⊢;refine⟨(by show 0<=sizeLine;decide),λ dp hdp=>?_⟩;have g4:=zAC (o:=.lst []) hdp;have hdpH:H dp=none:=gw1.free hdp;have ndf:dp≠fo:=Ne.symm (zAT ef1 hdp);have ndl:dp≠l:=Ne.symm (zAT el1 hdp);refine⟨_,rfl,l,rfl,⟨ls,SqL.of (g4 _ _ el1)⟩,?_⟩;refine zA9 (xs:=ls) (λ i σ' H'=>∃(dps:List V) (s4:Option V),σ'=[some v,some (.ref fo),some (.ref l),some (.ref dp),s4]/\Same H H'/\Tk H1 H'/\H' fo=some (.lst (fs++ls))/\H' l=some (.lst ls)/\H' dp=some (.lst dps)/\Paired (Rep H') ((L.take i).flatMap Tr.parts) dps) ?_ ?_ ?_ ?_
  ·exact⟨[],s4,rfl,gw1.trans g4,g4.tk,g4 _ _ ef1,g4 _ _ el1,zAB,.nil⟩
  ·rintro i σ1 H2 _ ⟨dps,s4,rfl,g5,k5,ef5,el5,ed5,p5⟩
   exact SqL.of el5
  ·rintro i x σ1 H2 hx ⟨dps,s4,rfl,g5,k5,ef5,el5,ed5,p5⟩
   obtain⟨tq,eq,rq⟩:=zAR pL hx;refine⟨_,rfl,.inl ⟨rfl,_,SqL.of ed5⟩,_,rfl,tq,x,rfl,rq.mono (tk1.trans k5),λ pp H3 us g6 ep hus=>?_⟩
   have hflat:((L.take (i+1)).flatMap Tr.parts)=((L.take i).flatMap Tr.parts)++tq.parts:=by
    rw[zAM eq,List.flatMap_append];simp
   have hlen:dps.length+us.length<=1000:=by
    have z0:=zAH p5;have z1:=zAH hus;have z2:=zD6 ((L.take (i+1)).flatMap Tr.parts);have z3:=zDk (L.take (i+1));have z4:=zHo L (i+1);rw[hflat,List.length_append] at z2;rw[hflat] at z3;omega
   have ed6:=g6 _ _ ed5;refine⟨dp,pp,dps,us,rfl,rfl,ed6,SqT.of ep,zAe hlen,?_⟩;have tkz:Tk H3 (upd H3 dp (.lst (dps++us))):=Tk.lst ed6;refine⟨dps++us,_,rfl,zAO (g5.trans g6) hdpH,k5.trans (g6.tk.trans tkz),by rw[zAW (Ne.symm ndf)];exact g6 _ _ ef5,by rw[zAW (Ne.symm ndl)];exact g6 _ _ el5,zAB,?_⟩;rw[hflat];exact zAP (Paired.mapP p5 λ U U z=>z.mono (g6.tk.trans tkz)) (Paired.mapP hus λ U U z=>z.mono tkz)
  ·rintro σ1 H2 ⟨dps,s4,rfl,g5,k5,ef5,el5,ed5,p5⟩
   rw[List.take_of_length_le (by omega)] at p5
   have hpos:0<L.length:=by
    rw[←lL];cases ls with
    |nil=>simp at c
    |cons _ _=>simp
   refine⟨_,rfl,szT (L.flatMap Tr.parts),by omega,dp,dps,fs++ls,L.flatMap Tr.parts,Fd++L,some (.ref dp),s4,rfl,g5,hdpH,ndf,ef5,ed5,zAP (Paired.mapP pF λ U U z=>z.mono (tk1.trans k5)) (Paired.mapP pL λ U U z=>z.mono (tk1.trans k5)),p5,rfl,?_,?_⟩
   ·rw[List.append_assoc];exact((zFZ L).symm.append_left Fd).trans hmem
   ·rw[List.length_append]
    omega
 ·have e0:ls=[]:=by
   cases ls with
   |nil=>rfl
   |cons _ _=>simp at c
  have eL:L=[]:=by
   subst e0;cases L with
   |nil=>rfl
   |cons _ _=>simp at lL
  subst eL;refine⟨_,rfl,q fo fs Fd Hw gw ef pF ?_⟩;simpa using hmem
noncomputable def PPl (H:Hp) (x:PlT) (v:V):Prop:=∃u,PlV H (x.1,u) v/\Rep H x.2 u
theorem PPl.mono {H H':Hp}(k:Tk H H') {x:PlT}{v:V}:PPl H x v->PPl H' x v
 |⟨u,h,r⟩=>⟨u,h.mono k,r.mono k⟩
theorem zJ9 {α β:Type}(g:α->β):∀{qs l:List β},qs.Perm l->∀{Z:List α},Z.map g=l->∃Z':List α,Z'.Perm Z/\Z'.map g=qs:=by
 intro qs l h
 induction h with
 |nil =>
  intro Z e;have:Z=[]:=List.map_eq_nil_iff.mp e;subst this;exact⟨[],.nil,rfl⟩
 |cons x _ ih =>
  intro Z e;obtain⟨z,Z2,rfl,e1,e2⟩:=List.map_eq_cons_iff.mp e;obtain⟨Z',h1,h2⟩:=ih e2;exact⟨z::Z',h1.cons z,by simp[e1,h2]⟩
 |swap x y l =>
  intro Z e;obtain⟨z,Z2,rfl,e1,e2⟩:=List.map_eq_cons_iff.mp e;obtain⟨z2,Z3,rfl,e3,e4⟩:=List.map_eq_cons_iff.mp e2;exact⟨z2::z::Z3,.swap _ _ _,by simp[e1,e3,e4]⟩
 |trans _ _ ih1 ih2 =>
  intro Z e;obtain⟨Z1,h1,h2⟩:=ih2 e;obtain⟨Z2,h3,h4⟩:=ih1 h2;exact⟨Z2,h3.trans h1,h4⟩
theorem zGj {H:Hp}{F:List PlT}{us:List V}(h:Paired (PPl H) F us):∃Z:List (PlT × V),Z.map (·.1)=F/\Paired (PlV H) (Z.map λ z=>(z.1.1,z.2)) us/\∀z∈Z,Rep H z.1.2 z.2:=by
 induction h with
 |nil=>exact⟨[],rfl,.nil,λ z h=>nomatch h⟩
 |cons r q ih =>
  obtain⟨Z,h1,h2,h3⟩:=ih;obtain⟨u,hu,ru⟩:=r;refine⟨(_,u)::Z,by simp[h1],.cons hu h2,λ z hz=>?_⟩;rcases lP.mp hz with rfl|hz
  ·exact ru
  ·exact h3 z hz
theorem zIA {H:Hp}:∀{Z:List (PlT × V)}{us:List V},Paired (PlV H) (Z.map λ z=>(z.1.1,z.2)) us->(∀z∈Z,Rep H z.1.2 z.2)->Paired (λ x v=>∃pl,PPl H (pl,x) v) (Z.map λ z=>z.1.2) us
 |[],_,h,_=>by
  cases h;exact .nil
 |z::Z,_,h,k=>by
  rw[List.map_cons] at h ⊢;cases h with
  |cons r q=>exact .cons ⟨z.1.1,z.2,r,k z lQ⟩ (zIA q λ y hy=>k y (lR _ hy))
noncomputable def zGa:Sp:=λ vs H Q U=>∃(t:Tr) (v:V),vs=[v]/\Rep H t v/\t.size<=60/\∀(l:Addr) (us:List V) (H':Hp),Same H H'->H' l=some (.lst us)->Paired (λ x v=>∃pl,PPl H' (pl,x) v) t.subs us->Q (.ref l) H'
theorem zJp {k:Nat}{f g1:Addr}{fd gd1:FuncData}(F:Fun K "placed_parts" "placed_parts" zCG f fd) (z_enumerate:mg "enumerate" = none) (z_sorted:mg "sorted" = none) (zOY:FnB P w K mg base k "parts" g1 gd1 ["tree"] zAu):FnOk P w K mg base CX0 (k+1) f fd ["tree"] zGa:=by
 refine F.ok zAk (λ vs H Q E h=>?_) (λ cdv A outer s H vs Q E hr h=>?_)
 ·obtain⟨t,v,rfl,_⟩:=h
  rfl
 obtain⟨t,v,rfl,hR,hsz,q⟩:=h;have hu5:=hu150 hr
 refine⟨_,(zAE (zAV (i:=1) zAk.nd rfl (Or.inl rfl) (zA2 zAD:PE _ _ _))
  (zAE (zAV (i:=2) zAk.nd rfl (Or.inl rfl) (zA2 (zAA (zAj (zAA (zAj zAD:PE _ _ _) (zAA (pv 0) zAD)):PE _ _ _) zAD):PE _ _ _))
  (zAE (zDs PassesOwn.never (zDp (pv 2) (λ U=>rfl)) (zAE (zAt (pe_bm PySem.F.plainAttrs_list PySem.F.slot_list_extend PySem.F.type_list_extend zB2 (pv 1) (zAA (pv 2) zAD)))
  (zAE (zAV (i:=3) zAk.nd rfl (Or.inl rfl) (zA2 zAD:PE _ _ _))
  (zAE (zAo PassesOwn.never rfl (zA4 (pv 2)) (zB7 rfl (zAc (zAK (i:=4) zAk.nd rfl (Or.inl rfl)) (zAc (zAK (i:=5) zAk.nd rfl (Or.inl rfl)) zBB))) (zAF (zAo PassesOwn.never rfl (zJf (by rfl) z_enumerate (zAA (pe_cl zOY hr (zAA (pv 5) zAD)) zAD)) (zB7 rfl (zAc (zAK (i:=6) zAk.nd rfl (Or.inl rfl)) (zAc (zAK (i:=7) zAk.nd rfl (Or.inl rfl)) zBB))) (zAF (zAt (pe_bm PySem.F.plainAttrs_list PySem.F.slot_list_append PySem.F.type_list_append zA8 (pv 3) (zAA (zAj (zAA (pe_op zHU (pv 4) (zAj (zAA (pv 6) zAD):PE _ _ _)) (zAA (pv 7) zAD)):PE _ _ _) zAD)))))))
  (zAF (zAV (i:=2) zAk.nd rfl (Or.inl rfl) (pv 3)))))))
  (zAF (zAS (zAX (zGz hu5) (by rfl) z_sorted PyProof.Rows.boot_sorted (zAA (pv 1) zAD))))))),?_⟩
 try dsimp only[cxOf,Cx.nox]
 have d2:2<=sizeLine:=by decide
 refine⟨(by show 0<=sizeLine;decide),λ fo hfo=>⟨(by show 0<=sizeLine;decide),λ pe hpe=>⟨_,rfl,d2,λ pr hpr=>⟨(by show 1<=sizeLine;decide),λ l hl=>?_⟩⟩⟩⟩;have g1:=zAC (o:=.lst []) hfo;have g2:=zAC (o:=.tup []) hpe;have g3:=zAC (o:=.tup [.ref pe,v]) hpr;have g4:=zAC (o:=.lst [.ref pr]) hl;have g23:=g2.trans g3;have gA:=g1.trans (g23.trans g4)
 refine⟨λ m σ' H'=>∃(l:Addr) (ls fs:List V) (L Fd:List PlT) (s3 s4 s5 s6 s7:Option V),σ'=[some v,some (.ref fo),some (.ref l),s3,s4,s5,s6,s7]/\Same H H'/\H l=none/\l≠fo/\H' fo=some (.lst fs)/\H' l=some (.lst ls) /\
   Paired (PPl H') Fd fs/\Paired (PPl H') L ls/\m=szP L/\(Fd++allP L).Perm (psub [] t)/\(∀x∈L,x.1.length+x.2.size<=60),
  ⟨szP [([],t)],l,[.ref pr],[],[([],t)],[],none,none,none,none,none,rfl,gA,(g1.trans g23).free hl,?_,g4 _ _ (g23 _ _ zAB),zAB,.nil,.cons ⟨v,⟨pr,pe,rfl,g4 _ _ zAB,g4 _ _ (g3 _ _ zAB)⟩,hR.mono gA.tk⟩ .nil,rfl,by simp[allP],by simpa using hsz⟩,?_⟩
 ·exact Ne.symm (zAT (g23 _ _ (zAB (H:=H) (a:=fo) (o:=.lst []))) hl)
 rintro m σ' Hw ⟨l,ls,fs,L,Fd,s3,s4,s5,s6,s7,rfl,gw,hl,hlf,ef,el,pF,pL,rfl,hperm,hdp0⟩;have lL:ls.length=L.length:=zAH pL;have lF:fs.length=Fd.length:=zAH pF;have hZ:=zGS L
 have hcnt:Fd.length+szP L<=60:=by
  have:=hperm.length_eq;rw[List.length_append,zMA,zBc] at this;omega
 refine⟨_,rfl,_,.inl ⟨ls,SqL.of el,rfl⟩,?_⟩;refine ite2 (λ c=>?_) (λ c=>?_)
 ·refine⟨_,λ U U h=>h,?_⟩
  refine⟨_,rfl,.inl ⟨rfl,_,SqL.of ef⟩,_,rfl,fo,l,fs,ls,rfl,rfl,ef,el,zAe (by omega),?_⟩;have ef1:(upd Hw fo (.lst (fs++ls))) fo=some (.lst (fs++ls)):=zAB;have el1:(upd Hw fo (.lst (fs++ls))) l=some (.lst ls):=by rw[zAW hlf];exact el
  have gw1:Same H (upd Hw fo (.lst (fs++ls))):=zAO gw hfo;have tk1:Tk Hw (upd Hw fo (.lst (fs++ls))):=Tk.lst ef;show tSeq _ _ _ _ (upd Hw fo (.lst (fs++ls)));generalize upd Hw fo (.lst (fs++ls))=H1 at ef1 el1 gw1 tk1 ⊢;refine⟨(by show 0<=sizeLine;decide),λ dp hdp=>?_⟩;have g4:=zAC (o:=.lst []) hdp;have hdpH:H dp=none:=gw1.free hdp;have ndf:dp≠fo:=Ne.symm (zAT ef1 hdp);have ndl:dp≠l:=Ne.symm (zAT el1 hdp);refine⟨_,rfl,l,rfl,⟨ls,SqL.of (g4 _ _ el1)⟩,?_⟩;refine zA9 (xs:=ls) (λ i σ' H'=>∃(dps:List V) (s4 s5 s6 s7:Option V),σ'=[some v,some (.ref fo),some (.ref l),some (.ref dp),s4,s5,s6,s7]/\Same H H'/\Tk H1 H'/\H' fo=some (.lst (fs++ls))/\H' l=some (.lst ls)/\H' dp=some (.lst dps)/\Paired (PPl H') ((L.take i).flatMap kidsP) dps) ?_ ?_ ?_ ?_
  ·exact⟨[],s4,s5,s6,s7,rfl,gw1.trans g4,g4.tk,g4 _ _ ef1,g4 _ _ el1,zAB,.nil⟩
  ·rintro i σ1 H2 _ ⟨dps,s4,s5,s6,s7,rfl,g5,k5,ef5,el5,ed5,p5⟩
   exact SqL.of el5
  ·rintro i x σ1 H2 hx ⟨dps,s4,s5,s6,s7,rfl,g5,k5,ef5,el5,ed5,p5⟩
   obtain⟨⟨pl,tq⟩,eq,rq⟩:=zAR pL hx;obtain⟨u,⟨b,c',rfl,hb,hc'⟩,ru⟩:=rq.mono (tk1.trans k5);dsimp only at hb hc' ru;refine⟨b,_,rfl,SqT.of hb,rfl,_,_,rfl,_,_,rfl,rfl,?_⟩
   have hflat:((L.take (i+1)).flatMap kidsP)=((L.take i).flatMap kidsP)++kidsP (pl,tq):=by
    rw[zAM eq,List.flatMap_append];simp
   have hlen:((L.take i).flatMap kidsP).length+(kidsP (pl,tq)).length<=60:=by
    have z2:=zMk ((L.take (i+1)).flatMap kidsP);have z3:=zGS (L.take (i+1));have z4:szP (L.take (i+1))<=szP L:=by unfold szP;rw[List.map_take];exact zHo _ _
    rw[hflat,List.length_append] at z2;rw[hflat] at z3;omega
   refine⟨_,rfl,tq,u,rfl,ru,λ pp H3 us g6 ep hus=>⟨pp,rfl,⟨us,SqT.of ep⟩,?_⟩⟩;have lus:us.length=tq.parts.length:=zAH hus;refine zIP (xs:=us) (λ j σ' H'=>∃(dps':List V) (s6 s7:Option V),σ'=[some v,some (.ref fo),some (.ref l),some (.ref dp),some (.ref c'),some u,s6,s7]/\Same H H'/\Tk H3 H'/\H' fo=some (.lst (fs++ls))/\H' l=some (.lst ls)/\H' dp=some (.lst dps')/\Paired (PPl H') (((L.take i).flatMap kidsP)++(kidsP (pl,tq)).take j) dps') ?_ ?_ ?_ ?_
   ·refine⟨dps,s6,s7,rfl,g5.trans g6,.refl _,g6 _ _ ef5,g6 _ _ el5,g6 _ _ ed5,?_⟩
    rw[List.take_zero,List.append_nil];exact Paired.mapP p5 λ U U z=>z.mono g6.tk
   ·rintro j σ3 H5 _ ⟨dps5,s6,s7,rfl,g7,k7,ef7,el7,ed7,p7⟩
    exact SqT.of (k7 _ _ ep)
   ·rintro j x T σ3 H5 hx ⟨dps5,s6,s7,rfl,g7,k7,ef7,el7,ed7,p7⟩ hT
    have gT:=zAC (o:=.tup [.int j,x]) hT;obtain⟨cc,ec,rc⟩:=zAR hus hx;have kk:=zKG (pl:=pl) ec
    have ld:dps5.length<=60:=by
     rw[zAH p7,List.length_append,List.length_take];omega
    refine⟨T,_,rfl,SqT.of zAB,rfl,_,_,rfl,_,_,rfl,rfl,?_⟩;have ed8:=gT _ _ ed7;have hc8:(upd H5 T (.tup [.int j,x])) c'=some (.tup (pl.map V.int)):=gT.tk _ _ (k7 _ _ (g6.tk _ _ hc'));refine⟨_,rfl,.inl ⟨rfl,_,SqL.of ed8⟩,_,rfl,_,rfl,(by show 1<=sizeLine;decide),λ pj hpj=>?_⟩;have gj:=zAC (o:=.tup [.int j]) hpj
    have hpl:pl.length<=60:=by
     have h9:=hdp0 _ (lN eq);dsimp only at h9;omega
    refine⟨c',pj,_,_,rfl,rfl,gj.tk _ _ hc8,zAB,zAe (by simp;omega),λ pn H6 g9 e9=>?_⟩;refine⟨_,rfl,d2,λ pt hpt=>?_⟩;have g10:=zAC (o:=.tup [.ref pn,x]) hpt;have gB:=gT.trans (gj.trans (g9.trans g10));have ed9:=gB _ _ ed7;refine⟨dp,dps5,_,rfl,rfl,ed9,zAQ (by omega),?_⟩;have tkz:Tk _ _:=Tk.lst (o:=.lst (dps5++[.ref pt])) ed9;have e9':H6 pn=some (.tup ((pl++[(j:Int)]).map V.int)):=by rw[e9,List.map_append];rfl
    refine⟨dps5++[.ref pt],_,_,rfl,zAO (g7.trans gB) hdpH,k7.trans (gB.tk.trans tkz),by rw[zAW (Ne.symm ndf)];exact gB _ _ ef7,by rw[zAW (Ne.symm ndl)];exact gB _ _ el7,zAB,?_⟩;rw[zAM kk,←List.append_assoc];exact zAP (Paired.mapP p7 λ U U z=>z.mono (gB.tk.trans tkz)) (.cons ⟨x,⟨pt,pn,rfl,tkz _ _ zAB,tkz _ _ (g10.tk _ _ e9')⟩,rc.mono (k7.trans (gB.tk.trans tkz))⟩ .nil)
   ·rintro σ3 H5 ⟨dps5,s6,s7,rfl,g7,k7,ef7,el7,ed7,p7⟩
    have ek:(kidsP (pl,tq)).take us.length=kidsP (pl,tq):=List.take_of_length_le (by rw[zKF];omega);rw[ek,←hflat] at p7;exact⟨dps5,_,_,_,_,rfl,g7,k5.trans (g6.tk.trans k7),ef7,el7,ed7,p7⟩
  ·rintro σ1 H2 ⟨dps,s4,s5,s6,s7,rfl,g5,k5,ef5,el5,ed5,p5⟩
   rw[List.take_of_length_le (by omega)] at p5
   have hpos:0<L.length:=by
    rw[←lL];cases ls with
    |nil=>simp at c
    |cons _ _=>simp
   refine⟨_,rfl,szP (L.flatMap kidsP),by omega,dp,dps,fs++ls,L.flatMap kidsP,Fd++L,some (.ref dp),s4,s5,s6,s7,rfl,g5,hdpH,ndf,ef5,ed5,zAP (Paired.mapP pF λ U U z=>z.mono (tk1.trans k5)) (Paired.mapP pL λ U U z=>z.mono (tk1.trans k5)),p5,rfl,?_,?_⟩
   ·rw[List.append_assoc]
    exact((zFq L).symm.append_left Fd).trans hperm
   ·intro x hx
    obtain⟨y,hy,hx⟩:=List.mem_flatMap.mp hx;have h9:=hdp0 y hy;unfold kidsP at hx;obtain⟨z,hz,rfl⟩:=mE.mp hx;have h8:z.1∈y.2.parts:=List.fst_mem_of_mem_zipIdx hz;have h7:=zBC h8;simp;omega
 ·have e0:ls=[]:=by
   cases ls with
   |nil=>rfl
   |cons _ _=>simp at c
  have eL:L=[]:=by
   subst e0;cases L with
   |nil=>rfl
   |cons _ _=>simp at lL
  subst eL;have hperm':Fd.Perm (psub [] t):=by simpa[allP] using hperm
  obtain⟨Z,w1,w2,w3⟩:=zGj pF;have hfst:((Z.map λ z=>(z.1.1,z.2)).map (·.1))=Fd.map (·.1):=by rw[←w1,List.map_map,List.map_map];rfl
  have hlz:Z.length=Fd.length:=by rw[←w1,List.length_map]
  refine⟨_,rfl,fo,fs,Z.map λ z=>(z.1.1,z.2),rfl,ef,w2,?_,by rw[List.length_map];omega,λ l' zs qs hl' pq hq hasc=>?_⟩
  ·rw[hfst]
   exact(hperm'.map _).nodup_iff.mpr (zCi t [])
  ·obtain⟨Z',z1,rfl⟩:=zJ9 _ hq rfl
   have gl:=zAC (o:=.lst zs) hl'
   have e1:(Z'.map (·.1)).Perm (psub [] t):=by
    refine(z1.map _).trans ?_;rw[w1];exact hperm'
   have e2:(Z'.map (·.1)).Pairwise λ a b=>lexB a.1 b.1=true:=by
    rw[List.pairwise_map] at hasc ⊢;exact hasc
   have e3:(psub [] t).Pairwise λ a b=>lexB a.1 b.1=true:=by
    have:=zBm t []
    rwa [List.pairwise_map] at this
   have e4:Z'.map (·.1)=psub [] t:=List.Perm.eq_of_pairwise (λ a b U U h1 h2=>by rw[zEz h1] at h2;cases h2) e2 e3 e1
   have e5:(Z'.map λ z=>z.1.2)=t.subs:=by
    rw[←zBl t [],←e4,List.map_map];rfl
   have hj:=Paired.mapP (zIA pq λ z hz=>w3 z (z1.mem_iff.mp hz)) λ _ _ (⟨pl,h⟩:∃pl,PPl _ (pl,_) _)=>(⟨pl,h.mono gl.tk⟩:∃pl,PPl _ (pl,_) _);rw[e5] at hj;exact q l' zs _ (gw.trans gl) zAB hj
abbrev zEj:Stmt:=top 20
theorem zIg:zAY ["tree"] ["tree"] (zAJ zEj):=by nofun
abbrev zBP:Stmt:=top 21
theorem zDV:zAY ["rule"] ["rule"] (zAJ zBP):=by nofun
abbrev zC0:Stmt:=top 30
theorem zFy:zAY ["rule"] ["rule"] (zAJ zC0):=by nofun
noncomputable def zJN:Sp:=λ vs H Q U=>∃(t:Tr) (v:V),vs=[v]/\Rep H t v/\t.size<=60/\∀(b:Bool) (H':Hp),Same H H'->(b=true↔loudT t)->Q (.bl b) H'
theorem zNC {k:Nat}{f g1 la:Addr}{fd gd1:FuncData}(F:Fun K "is_loud" "is_loud" zEj f fd) (z_any:mg "any" = none) (zOZ:mg "LOUD_SIGNS" = some (.ref la)) (hL:zHC K la) (zOa:FnB P w K mg base k "all_parts" g1 gd1 ["tree"] zJP):FnOk P w K mg base CX0 (k+1) f fd ["tree"] zJN:=by
 refine F.ok zIg (λ vs H Q E h=>?_) (λ cdv A outer s H vs Q E hr h=>?_)
 ·obtain⟨t,v,rfl,_⟩:=h
  rfl
 obtain⟨t,v,rfl,hR,hsz,q⟩:=h;refine⟨_,(zAF (zAS (zAX (zCT rfl) (by rfl) z_any PyProof.Rows.boot_any (zAA (zAs ["part"] [none] rfl (zA4 (pe_cl zOa hr (zAA (pv 0) zAD))) (λ U U U U U=>(zAK (i:=0) (show List.Nodup (["part"]:List Str) by decide +kernel) rfl (Or.inl rfl))) (λ U U U U U=>zBQ) (λ U U U U U=>(zA6 (r:=rIn K false) zB1 (iC (r:=rIxT K) zAL (pv 0)) (zBz (v:=.ref _) (by rfl) zOZ (by rfl)) rfl)) rfl) zAD)))),?_⟩
 try dsimp only[cxOf,Cx.nox]
 refine⟨_,rfl,t,v,rfl,hR,hsz,λ l us F H1 g1 el pF hF=>⟨l,rfl,⟨us,SqL.of el⟩,λ acc hacc=>?_⟩⟩;have lu:us.length=F.length:=zAH pF;have lF:F.length=t.size:=by rw[hF.length_eq,zCw]
 refine zBZ (xs:=us) (λ i H'=>Same H1 H'/\H' acc=some (.lst (((F.take i).map λ p=>p.kd.loud).map V.bl))) ⟨zAC hacc,zAB⟩ (λ i H' U h=>SqL.of (h.1 _ _ el)) ?_ ?_
 ·rintro i x Hx hx ⟨gx,ea⟩
  obtain⟨tq,eq,ru⟩:=zAR pF hx;obtain⟨pa,hs,us',rfl,hpa,hhl,hparts⟩:=(ru.mono gx.tk).all;have at0:atI (V.str tq.kd.s::hs++us') 0=some (.str tq.kd.s):=zAI (j:=0) rfl;refine⟨.skip .nil,_,rfl,pa,_,0,_,rfl,rfl,SqT.of hpa,at0,la,loudV,rfl,.inr (.inr hL),rfl,rfl,?_⟩;refine⟨_,ea,?_,zAO gx hacc,?_⟩
  ·rw[List.length_map,List.length_map,List.length_take]
   exact zAQ (by omega)
  ·rw[zAB,zAM eq,List.map_append,List.map_append]
   show some (HO.lst (_++[V.bl (inV (.str tq.kd.s) loudV)]))=_;rw[zKM];rfl
 rintro H2 ⟨g2,ea⟩;rw[List.take_of_length_le (by omega)] at ea;exact⟨acc,_,rfl,ea,q _ H2 (g1.trans g2) (zL7 λ p=>hF.mem_iff)⟩
noncomputable def zH1:Sp:=λ vs H Q U=>∃(t:Tr) (p:Addr) (a:V) (r:List V),vs=[.ref p]/\H p=some (.tup (a::r))/\Rep H t a/\Q (.bl t.kd.leaf) H
theorem zLX {k:Nat}{f lv:Addr}{fd:FuncData}(F:Fun K "begins_with_leaf" "begins_with_leaf" zBP f fd) (zOW:mg "LEAF_SIGNS" = some (.ref lv)) (hL:zFI K lv):FnOk P w K mg base CX0 (k+1) f fd ["rule"] zH1:=by
 refine F.ok zDV (λ vs H Q E h=>?_) (λ cdv A outer s H vs Q E hr h=>?_)
 ·obtain⟨t,p,a,r,rfl,_⟩:=h
  rfl
 obtain⟨t,p,a,r,rfl,hp,hR,q⟩:=h;refine⟨_,(zAF (zAS (zA6 (r:=rIn K false) zB1 (pe_ix (r:=rIxT K) zAL (iC (r:=rIxT K) zAL (pv 0)) zAG (λ U U=>rfl)) (zBz (v:=.ref _) (by rfl) zOW (by rfl)) rfl))),?_⟩
 try dsimp only[cxOf,Cx.nox]
 obtain⟨pa,hs,us',rfl,hpa,hhl,hparts⟩:=hR.all;refine⟨_,rfl,p,_,0,_,rfl,rfl,SqT.of hp,zAI (j:=0) rfl,pa,_,0,_,rfl,rfl,SqT.of hpa,zAI (j:=0) rfl,lv,zCp,rfl,.inr (.inr hL),rfl,rfl,?_⟩;have:=zGC t.kd;show Q (.bl (inV (.str t.kd.s) zCp)) H;rw[this];exact q
noncomputable def zH4:Sp:=λ vs H Q U=>∃(t u:Tr) (p:Addr) (a b:V) (r:List V),vs=[.ref p]/\H p=some (.tup (a::b::r))/\Rep H t a/\Rep H u b/\t.size<=60/\u.size<=60/\∀(z:Bool) (H':Hp),Same H H'->(z=true↔loudT u/\¬loudT t)->Q (.bl z) H'
theorem zLZ {k:Nat}{f g1:Addr}{fd gd1:FuncData}(F:Fun K "grows_loud" "grows_loud" zC0 f fd) (zOb:FnB P w K mg base k "is_loud" g1 gd1 ["tree"] zJN):FnOk P w K mg base CX0 (k+1) f fd ["rule"] zH4:=by
 refine F.ok zFy (λ vs H Q E h=>?_) (λ cdv A outer s H vs Q E hr h=>?_)
 ·obtain⟨t,u,p,a,b,r,rfl,_⟩:=h
  rfl
 obtain⟨t,u,p,a,b,r,rfl,hp,ra,rb,st,su,q⟩:=h;refine⟨_,(zAF (zAS (zDv (pe_cl zOb hr (zAA (iC (r:=rIxT K) zAL (pv 0)) zAD)) (zCq (zIC (pe_cl zOb hr (zAA (iC (r:=rIxT K) zAL (pv 0)) zAD))))))),?_⟩
 try dsimp only[cxOf,Cx.nox]
 refine⟨_,rfl,p,_,1,_,rfl,rfl,SqT.of hp,zAI (j:=1) rfl,u,b,rfl,rb,su,λ z1 H1 g1 e1=>⟨_,rfl,ite2 (λ c=>?_) (λ c=>?_)⟩⟩
 ·refine⟨_,rfl,p,_,0,_,rfl,rfl,SqT.of (g1 _ _ hp),zAI (j:=0) rfl,t,a,rfl,ra.mono g1.tk,st,λ z2 H2 g2 e2=>⟨_,rfl,q _ H2 (g1.trans g2) ?_⟩⟩
  have h1:=e1.mp c;cases z2 with
  |false=>exact⟨λ U=>⟨h1,λ z=>absurd (e2.mpr z) (by decide)⟩,λ U=>rfl⟩
  |true=>exact⟨(λ z=>by cases z),λ z=>absurd (e2.mp rfl) z.2⟩
 ·refine q _ H1 g1 ⟨(λ z=>by cases z),λ z=>absurd (e1.mpr z.1) c⟩
abbrev zCg:Stmt:=top 22
theorem zCF:zAY ["rule", "side", "bound"] ["rule"] (zAJ zCg):=by nofun
noncomputable def zHv:Sp:=λ vs H Q U=>∃(t u:Tr) (p:Addr) (a b c:V),vs=[.ref p]/\H p=some (.tup [a,b,c])/\Rep H t a/\Rep H u b/\t.size<=60/\u.size<=60/\∀(z:Bool) (H':Hp),Same H H'->(z=true↔¬(letN t).Nodup\/¬(letN u).Nodup)->Q (.bl z) H'
theorem zLP {k:Nat}{f g1:Addr}{fd gd1:FuncData}(F:Fun K "binds_twice" "binds_twice" zCg f fd) (z_len:mg "len" = none) (z_set:mg "set" = none) (zOa:FnB P w K mg base k "all_parts" g1 gd1 ["tree"] zJP):FnOk P w K mg base CX0 (k+1) f fd ["rule"] zHv:=by
 refine F.ok zCF (λ vs H Q E h=>?_) (λ cdv A outer s H vs Q E hr h=>?_)
 ·obtain⟨t,u,p,a,b,c,rfl,_⟩:=h
  rfl
 obtain⟨t,u,p,a,b,c,rfl,hp,ra,rb,st,su,q⟩:=h
 refine⟨_,(zAE (zAo PassesOwn.never rfl (zBG (zBU zEB (pv 0) zBy (zBj zAG))) (zAK (i:=1) zCF.nd rfl (Or.inl rfl)) (zAE (zH9 (jj:=2) ["part"] [none] rfl (zA4 (pe_cl zOa hr (zAA (pv 1) zAD))) (λ U U U U U=>(zAK (i:=0) (show List.Nodup (["part"]:List Str) by decide +kernel) rfl (Or.inl rfl))) (λ U U U U U=>(zC2 (zAN op_eq (iC (r:=rIxT K) zAL (pv 0)) zAd (zAZ _)))) (λ U U U U U=>(iC (r:=rIxT K) zAL (pv 0))) rfl zCF.nd rfl (Or.inl rfl) (Or.inr rfl))
  (zAF (ps_if (zAN op_lt (zFa rfl (by rfl) z_len (by rfl) z_set (zAA (pv 2) zAD)) (zAX zAa (by rfl) z_len PySem.boot_len (zAA (pv 2) zAD)) (zAZ _)) (zAF (zAS pe_bl)) zAU))))
  (zAF (zAS pe_bl))),?_⟩
 try dsimp only[cxOf,Cx.nox]
 refine⟨_,rfl,_,rfl,p,_,rfl,hp,λ z=>?_,λ ps H1 g1 e1=>?_⟩
 ·exact absurd z (show ¬((0:Nat)=0/\(2:Nat)=3) by decide)
 have e1':H1 ps=some (.tup [a,b]):=e1;refine⟨ps,rfl,⟨_,SqT.of e1'⟩,?_⟩;refine zBW (xs:=[a,b]) (λ i σ' H'=>∃(s1 s2 s3:Option V),σ'=[some (.ref p),s1,s2]/\Same H1 H'/\∀x∈[t,u].take i,(letN x).Nodup) ⟨none,none,none,rfl,Same.refl _,by simp⟩ (λ i σ' H' _ h=>?_) ?_ ?_
 ·obtain⟨_,_,_,_,g,_⟩:=h
  exact SqT.of (g _ _ e1')
 ·rintro i x σ1 H2 hx ⟨s1,s2,s3,rfl,g2,hn⟩
  obtain⟨tq,etq,rq,sq⟩:∃tq,[t,u][i]?=some tq/\Rep H tq x/\tq.size<=60:=by
   match i,hx with
   |0,hx=>cases hx;exact⟨t,rfl,ra,st⟩
   |1,hx=>cases hx;exact⟨u,rfl,rb,su⟩
  have g12:=g1.trans g2;refine⟨_,rfl,tq,x,rfl,rq.mono g12.tk,sq,λ l us F H3 g3 el pF hF=>⟨l,rfl,⟨us,SqL.of el⟩,λ acc hacc=>?_⟩⟩;have lu:us.length=F.length:=zAH pF;have lF:F.length=tq.size:=by rw[hF.length_eq,zCw]
  refine zBZ (xs:=us) (λ i H'=>Same H3 H'/\H' acc=some (.lst (((F.take i).filterMap letX).map V.str))) ⟨zAC hacc,zAB⟩ (λ i H' U h=>SqL.of (h.1 _ _ el)) ?_ ?_
  ·rintro j y Hx hy ⟨gx,ea⟩
   obtain⟨tr,er,rr⟩:=zAR pF hy;have hj:j<F.length:=(lJ.mp er).1;obtain⟨pa,hs,us',rfl,hpa,hhl,hparts⟩:=(rr.mono gx.tk).all;have at0:atI (V.str tr.kd.s::hs++us') 0=some (.str tr.kd.s):=zAI (j:=0) rfl;refine⟨.skip .nil,_,rfl,pa,_,0,_,rfl,rfl,SqT.of hpa,at0,rfl,_,rfl,ite2 (λ c=>?_) (λ c=>?_)⟩
   ·have cs:(letX tr).isSome=true:=(zIM tr).mp (V.str.inj (lU c))
    cases tr with
    |lett y a b =>
     have at1:atI (V.str Kd.lett.s::hs++us') 1=some (.str y):=by
      obtain⟨pa2,v1,v2,e2,h2,_⟩:=rr.mono gx.tk;cases e2;rw[hpa] at h2;have h3:=HO.tup.inj (mG h2);exact(congrArg (λ l=>atI l 1) h3).trans (zAI (j:=1) rfl)
     refine⟨_,rfl,pa,_,1,_,rfl,rfl,SqT.of hpa,at1,?_⟩;refine⟨_,ea,?_,zAO gx hacc,?_⟩
     ·rw[List.length_map]
      have:=List.length_filterMap_le letX (F.take j);rw[List.length_take] at this;exact zAQ (by omega)
     ·rw[zAB,zAM er,List.filterMap_append,List.map_append]
      rfl
    |bin o a b=>cases o<;>cases cs
    |_=>cases cs
   ·have cn:letX tr=none:=by
     cases e:letX tr with
     |none=>rfl
     |some y=>exact absurd (lV (congrArg V.str ((zIM tr).mpr (by rw[e];rfl)))) c
    refine⟨gx,?_⟩;rw[ea,zAM er,List.filterMap_append];simp[cn]
  ·rintro H4 ⟨g4,ea⟩
   rw[List.take_of_length_le (by omega)] at ea;have hB:(F.filterMap letX).Perm (letN tq):=hF.filterMap letX
   have bl:(F.filterMap letX).length<=60:=by
    have:=List.length_filterMap_le letX F;omega
   refine⟨_,rfl,acc,F.filterMap letX,rfl,SqL.of ea,by omega,_,rfl,acc,_,rfl,.inl (SqL.of ea),_,_,rfl,rfl,_,rfl,ite2 (λ c=>?_) (λ c=>?_)⟩
   ·have c':(((dd (F.filterMap letX)).length:Nat):Int)<((((F.filterMap letX).map V.str).length:Nat):Int):=lU c
    rw[List.length_map] at c';have nn:¬(letN tq).Nodup:=λ z=>(zCl (F.filterMap letX)).mp (by omega) (hB.nodup_iff.mpr z);refine q true H4 (g12.trans (g3.trans g4)) ⟨λ U=>?_,λ U=>rfl⟩
    match i,etq with
    |0,e=>cases e;exact .inl nn
    |1,e=>cases e;exact .inr nn
   ·have c':¬(dd (F.filterMap letX)).length<(F.filterMap letX).length:=λ z=>c (lV (by
     show (((dd (F.filterMap letX)).length:Nat):Int)<((((F.filterMap letX).map V.str).length:Nat):Int);rw[List.length_map];omega))
    have nd:(letN tq).Nodup:=hB.nodup_iff.mp (mF λ z=>c' ((zCl _).mpr z));refine⟨_,_,none,rfl,g2.trans (g3.trans g4),λ y hy=>?_⟩;rw[zAM etq] at hy;rcases lK.mp hy with h|h
    ·exact hn y h
    ·rw[List.mem_singleton.mp h];exact nd
 ·rintro σ1 H2 ⟨s1,s2,s3,rfl,g2,hn⟩
  refine q false H2 (g1.trans g2) ⟨(λ z=>by cases z),λ z=>?_⟩;rcases z with z|z
  ·exact absurd (hn t (by simp)) z
  ·exact absurd (hn u (by simp)) z
abbrev zED:Stmt:=top 12
theorem zHJ:zAY ["part"] ["part"] (zAJ zED):=by nofun
abbrev zEF:Stmt:=top 13
theorem zHM:zAY ["part", "number", "bound"] ["part", "number", "bound"] (zAJ zEF):=by nofun
abbrev zC1:Stmt:=top 14
theorem zAq:zAY ["tree", "free", "level", "deeper", "part", "bound", "name", "number", "inner"] ["tree"] (zAJ zC1):=by nofun
abbrev zBw:Stmt:=top 23
theorem zEU:zAY ["rule"] ["rule"] (zAJ zBw):=by nofun
noncomputable def zEc:Sp:=λ vs H Q U=>∃t v,vs=[v]/\Rep H t v/\∀l H',Same H H'->H l=none->H' l=some (.lst (t.names.map V.str))->Q (.ref l) H'
theorem zHV {k:Nat}{f:Addr}{fd:FuncData}(F:Fun K "names_at" "names_at" zED f fd):FnOk P w K mg base CX0 (k+1) f fd ["part"] zEc:=by
 refine F.ok zHJ (λ vs H Q E h=>?_) (λ cdv A outer s H vs Q E hr h=>?_)
 ·obtain⟨t,v,rfl,_⟩:=h
  rfl
 obtain⟨t,v,rfl,hR,q⟩:=h
 refine⟨_,(zAE (ps_if (zAN op_eq (iC (r:=rIxT K) zAL (pv 0)) zAd (zAZ _)) (zAF (zAS (zA2 (zAA (iC (r:=rIxT K) zAL (pv 0)) zAD):PE _ _ _))) zAU)
  (zAE (ps_if (zAN op_eq (iC (r:=rIxT K) zAL (pv 0)) zAd (zAZ _)) (zAF (zAS (zAs ["atom"] [none] rfl (zBG (iC (r:=rIxT K) zAL (pv 0))) (λ U U U U U=>(zAK (i:=0) (show List.Nodup (["atom"]:List Str) by decide +kernel) rfl (Or.inl rfl))) (λ U U U U U=>(zC2 (zAN op_eq (iC (r:=rIxT K) zAL (pv 0)) zAd (zAZ _)))) (λ U U U U U=>(iC (r:=rIxT K) zAL (pv 0))) rfl))) zAU)
  (zAF (zAS (zA2 zAD:PE _ _ _))))),?_⟩
 try dsimp only[cxOf,Cx.nox]
 obtain⟨a,hs,us,rfl,ha,hl,hp⟩:=hR.all;have h0:atI (V.str t.kd.s::hs++us) 0=some (.str t.kd.s):=zAI (j:=0) rfl;refine⟨_,rfl,a,_,0,_,rfl,rfl,SqT.of ha,h0,rfl,_,rfl,?_⟩;refine ite2 (λ c=>?_) (λ c=>?_)
 ·have z:t.kd = .name:=Kd.eq_iff.mp (lU c)
  cases t with
  |name x =>
   obtain⟨a,e,ha⟩:=hR;cases e;refine⟨_,rfl,a,_,1,_,rfl,rfl,SqT.of ha,rfl,(by show 1<=sizeLine;decide),λ l hn=>?_⟩;exact q l _ (zAC hn) hn zAB
  |bin o a b=>cases o<;>cases z
  |_=>cases z
 ·refine⟨_,rfl,a,_,0,_,rfl,rfl,SqT.of ha,h0,rfl,_,rfl,?_⟩
  refine ite2 (λ d=>?_) (λ d=>?_)
  ·have z:t.kd = .gap:=Kd.eq_iff.mp (lU d)
   cases t with
   |gap g as =>
    obtain⟨a,b,vs,e,ha,hb,hz,hp⟩:=hR;cases e;refine⟨_,rfl,a,_,2,_,rfl,rfl,SqT.of ha,rfl,b,rfl,⟨_,SqT.of hb⟩,λ acc hacc=>?_⟩;refine zL4 (xs:=vs) (λ i H'=>Same H H'/\H' acc=some (.lst (((as.take i).flatMap Atom.names).map V.str))) ?_ ?_ ?_ ?_
    ·exact⟨zAC hacc,zAB⟩
    ·exact λ i H' U p=>SqT.of (p.1 _ _ hb)
    ·intro i x H1 hx ⟨g1,e1⟩
     obtain⟨at_,ea,ra⟩:=zAR hp hx;have ra:=ra.mono g1.tk;have en:=zAM ea
     have small:((as.take i).flatMap Atom.names).length<=i:=by
      have:∀l:List Atom,(l.flatMap Atom.names).length<=l.length:=by
       intro l
       induction l with
       |nil=>simp
       |cons a r ih =>
        rw[List.flatMap_cons,List.length_append,List.length_cons];have:a.names.length<=1:=by cases a<;>simp[Atom.names]
        omega
      exact mI (this _) (by rw[List.length_take];omega)
     have hi:i<vs.length:=(lJ.mp hx).1;refine⟨.skip .nil,?_⟩;cases at_ with
     |name y =>
      obtain⟨c,rfl,hc⟩:=ra;refine⟨_,rfl,c,_,0,_,rfl,rfl,SqT.of hc,rfl,rfl,_,rfl,?_⟩;refine iteY rfl ?_;refine⟨_,rfl,c,_,1,_,rfl,rfl,SqT.of hc,rfl,_,e1,?_,zAO g1 hacc,?_⟩
      ·rw[List.length_map];exact zAQ (by omega)
      ·rw[zAB,en,List.flatMap_append,List.map_append];rfl
     |num n =>
      obtain⟨c,rfl,hc⟩:=ra;refine⟨_,rfl,c,_,0,_,rfl,rfl,SqT.of hc,rfl,rfl,_,rfl,?_⟩;refine iteN (by decide +kernel) ?_;exact⟨g1,by rw[e1,en,List.flatMap_append];simp[Atom.names]⟩
     |gap n =>
      obtain⟨c,d,rfl,hc,_⟩:=ra;refine⟨_,rfl,c,_,0,_,rfl,rfl,SqT.of hc,rfl,rfl,_,rfl,?_⟩;refine iteN (by decide +kernel) ?_;exact⟨g1,by rw[e1,en,List.flatMap_append];simp[Atom.names]⟩
    ·intro H1 ⟨g1,e1⟩
     refine q acc H1 g1 hacc ?_;rw[e1,←hp.length,List.take_length];rfl
   |bin o a b=>cases o<;>cases z
   |_=>cases z
  ·refine⟨(by show 0<=sizeLine;decide),λ l hn=>?_⟩
   have e:t.names=[]:=by
    cases t with
    |name x=>exact absurd rfl c
    |gap g as=>exact absurd rfl d
    |_=>rfl
   refine q l _ (zAC hn) hn ?_;rw[e];exact zAB
noncomputable def zEe:Sp:=λ vs H Q U=>∃(t:Tr) (v:V) (i:Int) (b:Addr) (bs:List Str),vs=[v,.int i,.ref b]/\Rep H t v/\H b=some (.tup (bs.map V.str))/\bs.length<=900/\∀p H',Same H H'->H' p=some (.tup ((bIn t i bs).map V.str))->Q (.ref p) H'
theorem zHX {k:Nat}{f:Addr}{fd:FuncData}(F:Fun K "bound_in" "bound_in" zEF f fd):FnOk P w K mg base CX0 (k+1) f fd ["part", "number", "bound"] zEe:=by
 refine F.ok zHM (λ vs H Q E h=>?_) (λ cdv A outer s H vs Q E hr h=>?_)
 ·obtain⟨t,v,i,b,bs,rfl,_⟩:=h
  rfl
 obtain⟨t,v,i,b,bs,rfl,hR,hb,hlen,q⟩:=h
 refine⟨_,(zAE (ps_if (zCQ (zAN op_eq (iC (r:=rIxT K) zAL (pv 0)) zAd (zAZ _)) (zBx (zAN op_eq (pv 1) zAG (zAZ _)))).pt (zAF (zAS (pe_op zHU (pv 2) (zAj (zAA (iC (r:=rIxT K) zAL (pv 0)) zAD):PE _ _ _)))) zAU)
  (zAF (zAS (pv 2)))),?_⟩
 try dsimp only[cxOf,Cx.nox]
 obtain⟨a,hs,us,rfl,ha,hl,hp⟩:=hR.all;have h0:atI (V.str t.kd.s::hs++us) 0=some (.str t.kd.s):=zAI (j:=0) rfl;refine⟨_,rfl,a,_,0,_,rfl,rfl,SqT.of ha,h0,rfl,_,rfl,?_⟩;refine ite2 (λ c=>?_) (λ c=>?_)
 ·have z:t.kd = .lett:=Kd.eq_iff.mp (lU c)
  refine⟨_,rfl,rfl,_,rfl,?_⟩;cases t with
  |lett x s t =>
   obtain⟨a',u,w',e,ha',_⟩:=hR;cases e;refine ite2 (λ d=>?_) (λ d=>?_)
   ·have d':i=1:=V.int.inj (lU d)
    subst d';refine⟨_,rfl,_,rfl,a,_,1,_,rfl,rfl,SqT.of ha',rfl,(by show 1<=sizeLine;decide),λ p hpn=>?_⟩;refine⟨b,p,_,[.str x],rfl,rfl,zAC hpn _ _ hb,zAB,zAe (by rw[List.length_map];show bs.length+1<=1000;omega),λ r H' g e=>?_⟩;refine q r H' ((zAC hpn).trans g) ?_;rw[e];simp[bIn]
   ·have d':¬i=1:=λ z=>d (by rw[z];exact lV rfl)
    refine⟨_,rfl,q b H (.refl H) ?_⟩;rw[hb];simp[bIn,d']
  |bin o a b=>cases o<;>cases z
  |_=>cases z
 ·refine iteF ?_
  refine⟨_,rfl,q b H (.refl H) ?_⟩
  have e:bIn t i bs=bs:=by
   cases t with
   |lett x s t=>exact absurd rfl c
   |_=>rfl
  rw[hb,e]
abbrev zOV (ss:List Str):Prop:=ss.Pairwise (λ a b=>ltCps b.cps.toList a.cps.toList=false)
noncomputable def zNb (t:Tr) (H:Hp) (Q:VK):Prop:=∀(l:Addr) (H':Hp) (ss:List Str),Same H H'->H l=none->H' l=some (.lst (ss.map V.str))->ss.Nodup->zOV ss->(∀x,x∈ss↔x∈t.fv [])->Q (.ref l) H'
noncomputable def zDm:Sp:=λ vs H Q U=>∃(t:Tr) (v:V) (ws:List Str),vs=[v]/\Rep H t v/\t.size<=500/\ws.length<64/\(∀x∈t.fv [],x∈ws)/\zNb t H Q
theorem zF7 {k:Nat}{f g1 g2 g3:Addr}{fd gd1 gd2 gd3:FuncData}(F:Fun K "free_names" "free_names" zC1 f fd) (z_sorted:mg "sorted" = none) (z_enumerate:mg "enumerate" = none)
  (zOY:FnB P w K mg base k "parts" g1 gd1 ["tree"] zAu) (zOc:FnB P w K mg base k "names_at" g2 gd2 ["part"] zEc) (zOd:FnB P w K mg base k "bound_in" g3 gd3 ["part", "number", "bound"] zEe) :
  FnOk P w K mg base CX0 (k+1) f fd ["tree"] zDm:=by
 refine F.ok zAq (λ vs H Q E h=>?_) (λ cdv A outer s H vs Q E hr h=>?_)
 ·obtain⟨t,v,ws,rfl,_⟩:=h
  rfl
 obtain⟨t,v,ws,rfl,hR,hsz,hws,hsub,q⟩:=h;have hu:=hu_of hr
 refine⟨_,(zAE (zAV (i:=1) zAq.nd rfl (Or.inl rfl) zB8)
  (zAE (zAV (i:=2) zAq.nd rfl (Or.inl rfl) (zA2 (zAA (zAj (zAA (pv 0) (zAA (zAj zAD:PE _ _ _) zAD)):PE _ _ _) zAD):PE _ _ _))
  (zAE (zDs PassesOwn.never (zDp (pv 2) (λ U=>rfl)) (zAE (zAV (i:=3) zAq.nd rfl (Or.inl rfl) (zA2 zAD:PE _ _ _))
  (zAE (zAo PassesOwn.never rfl (zA4 (pv 2)) (zB7 rfl (zAc (zAK (i:=4) zAq.nd rfl (Or.inl rfl)) (zAc (zAK (i:=5) zAq.nd rfl (Or.inl rfl)) zBB))) (zAE (zAo PassesOwn.never rfl (zA4 (pe_cl zOc hr (zAA (pv 4) zAD))) (zAK (i:=6) zAq.nd rfl (Or.inl rfl)) (zAF (ps_if (zAN (r:=rIn K true) zC5 (pv 6) (pv 5) rfl) (zAF (zF1 hu (pv 1) (pv 6) pe_bl rfl)) zAU)))
  (zAF (zAo PassesOwn.never rfl (zJf (by rfl) z_enumerate (zAA (pe_cl zOY hr (zAA (pv 4) zAD)) zAD)) (zB7 rfl (zAc (zAK (i:=7) zAq.nd rfl (Or.inl rfl)) (zAc (zAK (i:=8) zAq.nd rfl (Or.inl rfl)) zBB))) (zAF (zAt (pe_bm PySem.F.plainAttrs_list PySem.F.slot_list_append PySem.F.type_list_append zA8 (pv 3) (zAA (zAj (zAA (pv 8) (zAA (pe_cl zOd hr (zAA (pv 4) (zAA (pv 7) (zAA (pv 5) zAD)))) zAD)):PE _ _ _) zAD))))))))
  (zAF (zAV (i:=2) zAq.nd rfl (Or.inl rfl) (pv 3))))))
  (zAF (zAS (zAX (zC9 rfl) (by rfl) z_sorted PyProof.Rows.boot_sorted (zAA (pv 1) zAD))))))),?_⟩
 try dsimp only[cxOf,Cx.nox]
 refine λ d hd=>⟨_,rfl,(by show 0<=sizeLine;decide),λ e he=>⟨(by show 2<=sizeLine;decide),λ pr hpr=>⟨(by show 1<=sizeLine;decide),λ l hl=>?_⟩⟩⟩;have g1:Same H (upd H d (.dK [])):=zAC hd;have g2:Same (upd H d (.dK [])) _:=zAC (o:=.tup []) he;have g3:=zAC (o:=.tup [v,.ref e]) hpr;have g4:=zAC (o:=.lst [.ref pr]) hl;have gAll:=g1.trans (g2.trans (g3.trans g4));have hld:l≠d:=Ne.symm (zAT (g3 _ _ (g2 _ _ zAB)) hl);have hlH:H l=none:=(g1.trans (g2.trans g3)).free hl
 refine⟨λ m σ' H'=>∃(l:Addr) (ps:List V) (lev:List (Tr × List Str)) (ks:List Str) (s3 s4 s5 s6 s7 s8:Option V),σ'=[some v,some (.ref d),some (.ref l),s3,s4,s5,s6,s7,s8]/\Same H H'/\H l=none/\l≠d /\
  H' d=some (.dK (kvOf ks))/\H' l=some (.lst ps)/\Paired (zEK H') lev ps/\ks.Nodup/\m=total lev/\total lev<=500/\(∀q∈lev,q.2.length+q.1.size<=500)/\(∀x,(x∈ks\/∃q∈lev,x∈q.1.fv q.2)↔x∈t.fv []),
  ⟨t.size,l,_,[(t,[])],[],none,none,none,none,none,none,rfl,gAll,hlH,hld,g4 _ _ (g3 _ _ (g2 _ _ zAB)),zAB,.cons ⟨pr,v,e,rfl,g4 _ _ zAB,hR.mono gAll.tk,g4 _ _ (g3 _ _ zAB)⟩ .nil,List.nodup_nil,by simp[total],by simpa[total] using hsz,by simpa using hsz,by simp⟩,?_⟩
 rintro m σ' Hw ⟨l,ps,lev,ks,s3,s4,s5,s6,s7,s8,rfl,gw,hl,hld,ed,el,hp,hnd,rfl,htot,hdeep,hset⟩;refine⟨_,rfl,_,.inl ⟨ps,SqL.of el,rfl⟩,?_⟩;refine ite2 (λ c=>?_) (λ c=>?_)
 ·refine⟨_,λ U U h=>h,(by show 0<=sizeLine;decide),λ dp hdp=>⟨_,rfl,l,rfl,⟨ps,SqL.of (zAC hdp _ _ el)⟩,?_⟩⟩
  have gd:=zAC (o:=.lst []) hdp;have hdpH:H dp=none:=gw.free hdp;have ndd:dp≠d:=Ne.symm (zAT ed hdp);have ndl:dp≠l:=Ne.symm (zAT el hdp)
  refine zA9 (xs:=ps) (λ i σ' H'=>∃(dps:List V) (ks':List Str) (s4 s5 s6 s7 s8:Option V),σ'=[some v,some (.ref d),some (.ref l),some (.ref dp),s4,s5,s6,s7,s8]/\Same H H'/\Tk Hw H' /\
   H' d=some (.dK (kvOf ks'))/\H' l=some (.lst ps)/\H' dp=some (.lst dps)/\Paired (zEK H') ((lev.take i).flatMap λ q=>kids q.1 q.2) dps/\ks'.Nodup/\(∀x,x∈ks'↔x∈ks\/∃q∈lev.take i,x∈q.1.names/\x∉q.2)) ?_ ?_ ?_ ?_
  ·exact⟨[],ks,s4,s5,s6,s7,s8,rfl,gw.trans gd,gd.tk,gd _ _ ed,gd _ _ el,zAB,.nil,hnd,by simp⟩
  ·rintro i σ1 H1 _ ⟨dps,ks1,s4,s5,s6,s7,s8,rfl,g1,k1,ed1,el1,edp1,hp1,n1,m1⟩
   exact SqL.of el1
  ·rintro i x σ1 H1 hx ⟨dps,ks1,s4,s5,s6,s7,s8,rfl,g1,k1,ed1,el1,edp1,hp1,n1,m1⟩
   obtain⟨⟨tq,bs⟩,eq,rq⟩:=zAR hp hx;have hmem:(tq,bs)∈lev:=lN eq;have hdq:=hdeep _ hmem;have spq:=zH7 tq;dsimp only at hdq;obtain⟨a,u,b,rfl,ha,ru,hb⟩:=rq.mono k1;refine⟨a,_,rfl,SqT.of ha,rfl,_,_,rfl,_,_,rfl,rfl,?_⟩;refine⟨_,rfl,tq,u,rfl,ru,λ ln H2 g2 hln e2=>⟨ln,rfl,⟨_,SqL.of e2⟩,?_⟩⟩;have nlnd:ln≠d:=Ne.symm (zAT ed1 hln);have nlnl:ln≠l:=Ne.symm (zAT el1 hln);have nlnp:ln≠dp:=Ne.symm (zAT edp1 hln)
   refine zA9 (xs:=tq.names.map V.str) (λ j σ' H'=>∃(ks':List Str) (s6:Option V),σ'=[some v,some (.ref d),some (.ref l),some (.ref dp),some u,some (.ref b),s6,s7,s8]/\Same H H'/\Tk H2 H' /\
    H' d=some (.dK (kvOf ks'))/\H' l=some (.lst ps)/\H' dp=some (.lst dps)/\H' ln=some (.lst (tq.names.map V.str))/\ks'.Nodup/\(∀x,x∈ks'↔x∈ks1\/(x∈tq.names.take j/\x∉bs))) ?_ ?_ ?_ ?_
   ·exact⟨ks1,s6,rfl,g1.trans g2,.refl _,g2 _ _ ed1,g2 _ _ el1,g2 _ _ edp1,e2,n1,by simp⟩
   ·rintro j σ2 H3 _ ⟨ks2,s6,rfl,g3,k3,ed3,el3,edp3,eln3,n3,m3⟩
    exact SqL.of eln3
   ·rintro j x σ2 H3 hx ⟨ks2,s6,rfl,g3,k3,ed3,el3,edp3,eln3,n3,m3⟩
    rw[List.getElem?_map] at hx;obtain⟨y,hy,rfl⟩:=lW.mp hx;have hb3:H3 b=some (.tup (bs.map V.str)):=k3 _ _ (g2.tk _ _ hb);refine⟨_,rfl,_,rfl,b,_,rfl,.inr (SqT.of hb3),rfl,zNP bs,_,rfl,?_⟩;show if (!inV (V.str y) (bs.map V.str))=true then _ else _
    rw[zLo];have et:=zAM hy
    have kle:ks2.length<=ws.length:=by
     refine zEw n3 λ z hz=>hsub z ((hset z).mp ?_);rcases (m3 z).mp hz with h|⟨h,h'⟩
     ·rcases (m1 z).mp h with h|⟨q',hq',h1,h2⟩
      ·exact .inl h
      ·exact .inr ⟨q',List.mem_of_mem_take hq',(zE3 _ _ _).mpr (.inl ⟨h1,h2⟩)⟩
     ·exact .inr ⟨(tq,bs),hmem,(zE3 _ _ _).mpr (.inl ⟨List.mem_of_mem_take h,h'⟩)⟩
    refine ite2 (λ c=>?_) (λ c=>?_)
    ·have ny:y∉bs:=by simpa using c
     refine⟨_,rfl,_,rfl,d,_,rfl,DPut.k (k:=Sum.inr y) ed3 (zAQ (by rw[show (kvOf ks2).length=ks2.length from List.length_map _];omega)),?_⟩;refine⟨addK ks2 y,some (.str y),rfl,zAO g3 hd,k3.trans (Tk.dk ed3),by rw[zAB,zLD],by rw[zAW hld];exact el3,by rw[zAW ndd];exact edp3,by rw[zAW nlnd];exact eln3,zI7 n3,λ z=>?_⟩;rw[zLh,m3,et,List.mem_append,List.mem_singleton];constructor
     ·rintro ((h|⟨h1,h2⟩)|h)
      ·exact .inl h
      ·exact .inr ⟨.inl h1,h2⟩
      ·exact .inr ⟨.inr h,h▸ny⟩
     ·rintro (h|⟨h1|h1,h2⟩)
      ·exact .inl (.inl h)
      ·exact .inl (.inr ⟨h1,h2⟩)
      ·exact .inr h1
    ·have ny:y∈bs:=by simpa using c
     refine⟨ks2,some (.str y),rfl,g3,k3,ed3,el3,edp3,eln3,n3,λ z=>?_⟩;rw[m3,et,List.mem_append,List.mem_singleton];constructor
     ·rintro (h|⟨h1,h2⟩)
      ·exact .inl h
      ·exact .inr ⟨.inl h1,h2⟩
     ·rintro (h|⟨h1|h1,h2⟩)
      ·exact .inl h
      ·exact .inr ⟨h1,h2⟩
      ·exact absurd (h1▸ny) h2
   ·rintro σ2 H3 ⟨ks2,s6,rfl,g3,k3,ed3,el3,edp3,eln3,n3,m3⟩
    rw[List.length_map,List.take_length] at m3;have k13:Tk H1 H3:=g2.tk.trans k3;have ru3:=ru.mono k13;refine⟨_,rfl,tq,u,rfl,ru3,λ pt H4 us g4 e4 hus=>⟨pt,rfl,⟨us,SqT.of e4⟩,?_⟩⟩;have hk:=zLl tq bs;have hul:us.length=(kids tq bs).length:=by rw[hk,hus.length]
    have hb4:H4 b=some (.tup (bs.map V.str)):=g4.tk _ _ (k13 _ _ hb);have ru4:=ru3.mono g4.tk
    refine zIP (xs:=us) (λ j σ' H'=>∃(dps':List V) (s7 s8:Option V),σ'=[some v,some (.ref d),some (.ref l),some (.ref dp),some u,some (.ref b),s6,s7,s8]/\Same H H'/\Tk H4 H' /\
     H' d=some (.dK (kvOf ks2))/\H' l=some (.lst ps)/\H' dp=some (.lst dps')/\Paired (zEK H') (((lev.take i).flatMap λ q=>kids q.1 q.2)++(kids tq bs).take j) dps') ?_ ?_ ?_ ?_
    ·exact⟨dps,s7,s8,rfl,g3.trans g4,.refl _,g4 _ _ ed3,g4 _ _ el3,g4 _ _ edp3,by
      rw[List.take_zero,List.append_nil];exact Paired.mapP hp1 λ U U z=>z.mono (k13.trans g4.tk)⟩
    ·rintro j σ3 H5 _ ⟨dps5,s7,s8,rfl,g5,k5,ed5,el5,edp5,hp5⟩
     exact SqT.of (k5 _ _ e4)
    ·rintro j x T σ3 H5 hx ⟨dps5,s7,s8,rfl,g5,k5,ed5,el5,edp5,hp5⟩ hT
     have gT:=zAC (o:=.tup [.int j,x]) hT;obtain⟨c,ec,rc⟩:=zAR hus hx;have kk:=zLm tq bs j c ec;have hj:j<us.length:=(lJ.mp hx).1;refine⟨T,_,rfl,SqT.of zAB,rfl,_,_,rfl,_,_,rfl,rfl,?_⟩;have edp6:=gT _ _ edp5;refine⟨_,rfl,.inl ⟨rfl,_,SqL.of edp6⟩,_,rfl,_,rfl,_,rfl,_,rfl,tq,u,j,b,bs,rfl,ru4.mono (k5.trans gT.tk),gT.tk _ _ (k5 _ _ hb4),by omega,λ p H6 g6 e6=>⟨(by show 2<=sizeLine;decide),λ pq hpq=>?_⟩⟩;have gq:=zAC (o:=.tup [x,.ref p]) hpq;have gA:=gT.trans (g6.trans gq);have edp7:=gA _ _ edp5
     have tot:dps5.length<=500:=by
      rw[←hp5.length,List.length_append,List.length_take];have l1:=zE1 ((lev.take i).flatMap λ q=>kids q.1 q.2);have l2:=zIN (lev.take i);have l3:total (lev.take (i+1))<=total lev:=zIe lev _;rw[zAM eq,zCt,zD5,zJD] at l3;have l4:=zFg tq bs;have l5:=zE1 (kids tq bs);dsimp only at l3;omega
     refine⟨dp,_,_,rfl,rfl,edp7,zAQ (by omega),?_⟩;have kset:Tk H5 (upd (upd H6 pq (.tup [x,.ref p])) dp (.lst (dps5++[.ref pq]))):=gA.tk.trans (Tk.lst edp7);refine⟨_,_,_,rfl,zAO (g5.trans gA) hdpH,k5.trans kset,by rw[zAW (Ne.symm ndd)];exact gA _ _ ed5,by rw[zAW (Ne.symm ndl)];exact gA _ _ el5,zAB,?_⟩;rw[zAM kk,←List.append_assoc];refine zAP (Paired.mapP hp5 λ U U z=>z.mono kset) (.cons ⟨pq,x,p,rfl,Tk.lst edp7 _ _ zAB,rc.mono (k5.trans kset),Tk.lst edp7 _ _ (gq _ _ e6)⟩ .nil)
    ·rintro σ3 H5 ⟨dps5,s7,s8,rfl,g5,k5,ed5,el5,edp5,hp5⟩
     refine⟨dps5,ks2,some u,some (.ref b),s6,s7,s8,rfl,g5,k1.trans (k13.trans (g4.tk.trans k5)),ed5,el5,edp5,?_,n3,λ z=>?_⟩
     ·rw[hul,List.take_length] at hp5
      rw[zAM eq,List.flatMap_append];simpa using hp5
     ·rw[m3,m1,zAM eq]
      simp only[List.mem_append,List.mem_singleton];constructor
      ·rintro ((h|⟨q',hq',h⟩)|h)
       ·exact .inl h
       ·exact .inr ⟨q',.inl hq',h⟩
       ·exact .inr ⟨(tq,bs),.inr rfl,h⟩
      ·rintro (h|⟨q',hq'|hq',h⟩)
       ·exact .inl (.inl h)
       ·exact .inl (.inr ⟨q',hq',h⟩)
       ·subst hq';exact .inr h
  ·rintro σ1 H1 ⟨dps,ks1,s4,s5,s6,s7,s8,rfl,g1,k1,ed1,el1,edp1,hp1,n1,m1⟩
   have hlen:ps.length=lev.length:=hp.length.symm;rw[hlen,List.take_length] at hp1 m1
   have pos:0<lev.length:=by
    rw[←hlen];cases ps with
    |nil=>simp at c
    |cons _ _=>simp
   have lk:=zIN lev;refine⟨_,rfl,_,?_,dp,dps,_,ks1,some (.ref dp),s4,s5,s6,s7,s8,rfl,g1,hdpH,ndd,ed1,edp1,hp1,n1,rfl,by omega,λ q' hq'=>?_,λ x=>?_⟩
   ·omega
   ·obtain⟨r,hr',hq''⟩:=List.mem_flatMap.mp hq'
    exact zKD r.1 r.2 500 (hdeep r hr') q' hq''
   ·rw[←hset,m1]
    constructor
    ·rintro ((h|⟨r,hr',h⟩)|⟨q',hq',h⟩)
     ·exact .inl h
     ·exact .inr ⟨r,hr',(zE3 _ _ _).mpr (.inl h)⟩
     ·obtain⟨r,hr',hq''⟩:=List.mem_flatMap.mp hq'
      exact .inr ⟨r,hr',(zE3 _ _ _).mpr (.inr ⟨q',hq'',h⟩)⟩
    ·rintro (h|⟨r,hr',h⟩)
     ·exact .inl (.inl h)
     ·rcases (zE3 _ _ _).mp h with h|⟨q',hq',h⟩
      ·exact .inl (.inr ⟨r,hr',h⟩)
      ·exact .inr ⟨q',List.mem_flatMap.mpr ⟨r,hr',hq'⟩,h⟩
 ·have e0:ps=[]:=by
   cases ps with
   |nil=>rfl
   |cons _ _=>exact absurd rfl c
  subst e0;cases hp;have hk:∀x,x∈ks↔x∈t.fv []:=λ x=>by rw[←hset];simp
  refine⟨_,rfl,d,kvOf ks,ks,rfl,ed,by simp[kvOf,List.map_map,Function.comp_def],?_,λ r ss hr' hperm hris=>?_⟩
  ·exact Nat.lt_of_le_of_lt (zEw hnd λ x hx=>hsub x ((hk x).mp hx)) hws
  ·exact q r _ ss (gw.trans (zAC hr')) (gw.free hr') zAB (hperm.nodup_iff.mpr hnd) hris λ x=>by rw[hperm.mem_iff,hk]
noncomputable def zFS:Sp:=λ vs H Q U=>∃(t u:Tr) (p:Addr) (a b c:V) (ws:List Str),vs=[.ref p]/\H p=some (.tup [a,b,c])/\Rep H t a/\Rep H u b/\t.size<=60/\u.size<=60/\ws.length<64/\(∀x∈t.fv [],x∈ws)/\(∀x∈u.fv [],x∈ws)/\∀(z:Bool) (H':Hp),Same H H'->(z=true↔t.fv []≠[]\/u.fv []≠[])->Q (.bl z) H'
theorem zIp {k:Nat}{f g1:Addr}{fd gd1:FuncData}(F:Fun K "has_free_name" "has_free_name" zBw f fd) (z_len:mg "len" = none) (z_any:mg "any" = none) (zOe:FnB P w K mg base k "free_names" g1 gd1 ["tree"] zDm):FnOk P w K mg base CX0 (k+1) f fd ["rule"] zFS:=by
 refine F.ok zEU (λ vs H Q E h=>?_) (λ cdv A outer s H vs Q E hr h=>?_)
 ·obtain⟨t,u,p,a,b,c,ws,rfl,_⟩:=h
  rfl
 obtain⟨t,u,p,a,b,c,ws,rfl,hp,ra,rb,st,su,hws,ft,fu,q⟩:=h;refine⟨_,(zAF (zAS (zAX (zCT rfl) (by rfl) z_any PyProof.Rows.boot_any (zAA (zAs ["side"] [none] rfl (zBG (zBU zEB (pv 0) zBy (zBj zAG))) (λ U U U U U=>(zAK (i:=0) (show List.Nodup (["side"]:List Str) by decide +kernel) rfl (Or.inl rfl))) (λ U U U U U=>zBQ) (λ U U U U U=>(zA6 op_gt (zAX (r:=rLen K) zKq (by rfl) z_len PySem.boot_len (zAA (pe_cl zOe hr (zAA (pv 0) zAD)) zAD)) zAG (zAZ _))) rfl) zAD)))),?_⟩
 try dsimp only[cxOf,Cx.nox]
 refine⟨_,rfl,_,rfl,p,_,rfl,hp,λ z=>?_,λ ps H1 g1 e1=>?_⟩
 ·exact absurd z (show ¬((0:Nat)=0/\(2:Nat)=3) by decide)
 have e1':H1 ps=some (.tup [a,b]):=e1;refine⟨ps,rfl,⟨_,SqT.of e1'⟩,λ acc hacc=>?_⟩;refine zB4 (xs:=[a,b]) (λ i H'=>Same H1 H'/\∃bs:List Bool,H' acc=some (.lst (bs.map V.bl))/\bs.length=i/\(bs.any id=true↔∃x∈[t,u].take i,x.fv []≠[])) ⟨zAC hacc,[],zAB,rfl,by simp⟩ (λ i H' U h=>SqT.of (h.1 _ _ e1')) ?_ ?_
 ·rintro i x H2 hx ⟨g2,bs,ea,lb,hb⟩
  obtain⟨tq,etq,rq,sq,fq⟩:∃tq,[t,u][i]?=some tq/\Rep H tq x/\tq.size<=60/\∀x∈tq.fv [],x∈ws:=by
   match i,hx with
   |0,hx=>cases hx;exact⟨t,rfl,ra,st,ft⟩
   |1,hx=>cases hx;exact⟨u,rfl,rb,su,fu⟩
  have g12:=g1.trans g2;have hi:i<2:=(lJ.mp hx).1;refine⟨.skip .nil,_,rfl,tq,x,ws,rfl,rq.mono g12.tk,by omega,hws,fq,λ l H3 ss g3 hln el nd rs hss=>?_⟩;refine⟨l,_,rfl,.inl (SqL.of el),_,_,rfl,rfl,?_⟩;refine⟨_,g3 _ _ ea,zAQ (by rw[List.length_map];omega),zAO (g2.trans g3) hacc,bs++[decide (0<ss.length)],?_,by simp[lb],?_⟩
  ·rw[zAB,List.map_append]
   have e9:decide ((0:Int)<(((ss.map V.str).length:Nat):Int))=decide (0<ss.length):=by
    rw[List.length_map,Bool.eq_iff_iff,decide_eq_true_iff,decide_eq_true_iff];omega
   show some (HO.lst (_++[V.bl (decide ((0:Int)<(((ss.map V.str).length:Nat):Int)))]))=_;rw[e9];rfl
  ·rw[List.any_append,Bool.or_eq_true,hb,zAM etq]
   have e8 : [decide (0<ss.length)].any id=true↔tq.fv []≠[]:=by
    simp only[List.any_cons,List.any_nil,Bool.or_false,id_eq,decide_eq_true_iff];constructor
    ·intro h z
     cases ss with
     |nil=>cases h
     |cons x ss=>have:=(hss x).mp lQ;rw[z] at this;cases this
    ·intro h
     cases e:tq.fv [] with
     |nil=>exact absurd e h
     |cons x r =>
      have:=(hss x).mpr (by rw[e];exact lQ);exact List.length_pos_of_mem this
   rw[e8];constructor
   ·rintro (⟨y,hy,h⟩|h)
    ·exact⟨y,mH _ hy,h⟩
    ·exact⟨tq,by simp,h⟩
   ·rintro⟨y,hy,h⟩
    rcases lK.mp hy with z|z
    ·exact .inl ⟨y,z,h⟩
    ·rw[List.mem_singleton.mp z] at h;exact .inr h
 ·rintro H2 ⟨g2,bs,ea,lb,hb⟩
  refine⟨acc,bs,rfl,ea,q _ H2 (g1.trans g2) (hb.trans ?_)⟩;simp
abbrev zDd:Stmt:=top 17
theorem zGh:zAY ["shape"] ["shape"] (zAJ zDd):=by nofun
abbrev zCI:Stmt:=top 18
theorem zBt:zAY ["shape", "counted", "part"] ["shape"] (zAJ zCI):=by nofun
abbrev zEk:Stmt:=top 19
theorem zDF:zAY ["shape", "first", "gap", "many"] ["shape"] (zAJ zEk):=by nofun
noncomputable def zFt:Sp:=λ vs H Q U=>∃(t:Tr) (v:V),vs=[v]/\Rep H t v/\t.size<=60/\∀(l:Addr) (us:List V) (H':Hp),Same H H'->H l=none->H' l=some (.lst us)->Paired (Rep H') (t.subs.filter isGap) us->Q (.ref l) H'
theorem zNG {k:Nat}{f g1:Addr}{fd gd1:FuncData}(F:Fun K "gap_parts" "gap_parts" zDd f fd) (zOf:FnB P w K mg base k "placed_parts" g1 gd1 ["tree"] zGa):FnOk P w K mg base CX0 (k+1) f fd ["shape"] zFt:=by
 refine F.ok zGh (λ vs H Q E h=>?_) (λ cdv A outer s H vs Q E hr h=>?_)
 ·obtain⟨t,v,rfl,_⟩:=h
  rfl
 obtain⟨t,v,rfl,hR,hsz,q⟩:=h;refine⟨_,(zAF (zAS (zAs ["place", "part"] [none,none] rfl (zA4 (pe_cl zOf hr (zAA (pv 0) zAD))) (λ U U U U U=>(zF2 (K:=K) (n:=2) rfl rfl (zAc (zAK (i:=0) (show List.Nodup (["place", "part"]:List Str) by decide +kernel) rfl (Or.inl rfl)) (zAc (zAK (i:=1) (show List.Nodup (["place", "part"]:List Str) by decide +kernel) rfl (Or.inl rfl)) zBB)))) (λ U U U U U=>(zC2 (zAN op_eq (iC (r:=rIxT K) zAL (pv 1)) zAd (zAZ _)))) (λ U U U U U=>(pv 1)) rfl))),?_⟩
 try dsimp only[cxOf,Cx.nox]
 refine⟨_,rfl,t,v,rfl,hR,hsz,λ l us H1 g1 el pF=>⟨l,rfl,⟨us,SqL.of el⟩,λ acc hacc=>?_⟩⟩;have lu:us.length=t.subs.length:=zAH pF;have ls:=zCw t;refine zBZ (xs:=us) (λ i H'=>Same H1 H'/\∃(zs:List V),H' acc=some (.lst zs)/\Paired (Rep H') ((t.subs.take i).filter isGap) zs) ⟨zAC hacc,[],zAB,.nil⟩ (λ i H' U h=>SqL.of (h.1 _ _ el)) ?_ ?_
 ·rintro i x Hx hx ⟨gx,zs,ez,pG⟩
  obtain⟨tq,eq,pl,u,⟨b,c,rfl,hb,_⟩,ru⟩:=zAR pF hx;have hi:i<us.length:=(lJ.mp hx).1;have lz:=zAH pG;have lz2:=List.length_filter_le isGap (t.subs.take i);rw[List.length_take] at lz2;have ru':=ru.mono gx.tk;dsimp only at hb ru';obtain⟨pa,hs,us',rfl,hpa,hhl,hparts⟩:=ru'.all;have at0:atI (V.str tq.kd.s::hs++us') 0=some (.str tq.kd.s):=zAI (j:=0) rfl;have htk:=zAM eq;refine⟨b,_,rfl,SqT.of (gx _ _ hb),rfl,_,_,rfl,_,_,rfl,rfl,.skip (.skip .nil),?_⟩;refine⟨_,rfl,pa,_,0,_,rfl,rfl,SqT.of hpa,at0,rfl,_,rfl,ite2 (λ c=>?_) (λ c=>?_)⟩
  ·have z:tq.kd = .gap:=Kd.eq_iff.mp (lU c)
   have tkz:Tk Hx (upd Hx acc (.lst (zs++[.ref pa]))):=Tk.lst ez;refine⟨_,rfl,zs,ez,zAQ (by omega),zAO gx hacc,zs++[.ref pa],zAB,?_⟩;rw[htk,List.filter_append,show [tq].filter isGap=[tq] by rw[List.filter_cons_of_pos (by exact decide_eq_true z)];rfl];exact zAP (Paired.mapP pG λ U U z=>z.mono tkz) (.cons (ru'.mono tkz) .nil)
  ·have z:¬tq.kd = .gap:=λ z=>c (lV (by rw[z];rfl))
   refine⟨gx,zs,ez,?_⟩;rw[htk,List.filter_append,show [tq].filter isGap=[] by rw[List.filter_cons_of_neg (by exact λ w=>z (of_decide_eq_true w))];rfl,List.append_nil];exact pG
 rintro H2 ⟨g2,zs,ez,pG⟩;rw[List.take_of_length_le (by omega)] at pG;exact q acc zs H2 (g1.trans g2) (g1.free hacc) ez pG
noncomputable def zEA:Sp:=λ vs H Q U=>∃(t:Tr) (v:V),vs=[v]/\Rep H t v/\t.size<=60/\(∀p∈t.subs,(cnt1 p).length<=10)/\∀(l:Addr) (us:List V) (H':Hp),Same H H'->H' l=some (.lst us)->Paired (WN H') (gcnt t) us->us.length<=600->Q (.ref l) H'
theorem zIq {k:Nat}{f g1:Addr}{fd gd1:FuncData}(F:Fun K "counted_gaps" "counted_gaps" zCI f fd) (z_len:mg "len" = none) (zOg:FnB P w K mg base k "gap_parts" g1 gd1 ["shape"] zFt):FnOk P w K mg base CX0 (k+1) f fd ["shape"] zEA:=by
 refine F.ok zBt (λ vs H Q E h=>?_) (λ cdv A outer s H vs Q E hr h=>?_)
 ·obtain⟨t,v,rfl,_⟩:=h
  rfl
 obtain⟨t,v,rfl,hR,hsz,h10,q⟩:=h
 refine⟨_,(Sd.un (zAw (zEm (i:=1) zBt.nd rfl (Or.inl rfl) (zJh ⟨zAD⟩))
  (zAw ⟨zAo PassesOwn.never rfl (zA4 (pe_cl zOg hr (zAA (pv 0) zAD))) (zAK (i:=2) zBt.nd rfl (Or.inl rfl)) (zAE (zAt (pe_bm PySem.F.plainAttrs_list PySem.F.slot_list_append PySem.F.type_list_append zA8 (pv 1) (zAA (zAj (zAA (iC (r:=rIxT K) zAL (pv 2)) (zAA (zAX zAa (by rfl) z_len PySem.boot_len (zAA (iC (r:=rIxT K) zAL (pv 2)) zAD)) zAD)):PE _ _ _) zAD)))
  (zAF (zAt (pe_bm PySem.F.plainAttrs_list PySem.F.slot_list_extend PySem.F.type_list_extend zB2 (pv 1) (zAA (zAs ["atom"] [none] rfl (zBG (iC (r:=rIxT K) zAL (pv 2))) (λ U U U U U=>(zAK (i:=0) (show List.Nodup (["atom"]:List Str) by decide +kernel) rfl (Or.inl rfl))) (λ U U U U U=>(zC2 (zAN op_eq (iC (r:=rIxT K) zAL (pv 0)) zAd (zAZ _)))) (λ U U U U U=>(zAj (zAA (iC (r:=rIxT K) zAL (pv 0)) (zAA zAG zAD)):PE _ _ _)) rfl) zAD)))))⟩
  (zBS (zCJ ⟨pv 1⟩))))),?_⟩
 try dsimp only[cxOf,Cx.nox]
 have d2:2<=sizeLine:=by decide
 refine⟨(by show 0<=sizeLine;decide),λ co hco=>?_⟩;have g0:=zAC (o:=.lst []) hco;have eco:(upd H co (.lst [])) co=some (.lst []):=zAB;have hR0:=hR.mono g0.tk;show tSeq _ _ _ _ (upd H co (.lst []));generalize upd H co (.lst [])=H0 at g0 eco hR0 ⊢;refine⟨_,rfl,t,v,rfl,hR0,hsz,λ l us H1 g1 hln el pF=>⟨l,rfl,⟨us,SqL.of el⟩,?_⟩⟩;have hF:∀p,p∈t.subs.filter isGap↔p∈t.subs/\p.kd = .gap:=λ p=>by rw[List.mem_filter];exact⟨λ h=>⟨h.1,lU h.2⟩,λ h=>⟨h.1,lV h.2⟩⟩
 have hl:(t.subs.filter isGap).length<=60:=by have:=List.length_filter_le isGap t.subs;have:=zCw t;omega
 have eF:=zKO t;generalize t.subs.filter isGap=F at pF hF hl eF;have lu:us.length=F.length:=zAH pF;have nlc:l≠co:=λ z=>by rw[z,eco] at hln;cases hln
 have bound:∀i,((F.take i).flatMap cnt1).length<=10 * i:=λ i=>by
  have key:∀L:List Tr,(∀p∈L,(cnt1 p).length<=10)->(L.flatMap cnt1).length<=10 * L.length:=by
   intro L
   induction L with
   |nil=>simp
   |cons a L ih =>
    intro h;have h1:=h a lQ;have h2:=ih λ p hp=>h p (lR _ hp);rw[List.flatMap_cons,List.length_append,List.length_cons];omega
  have:=key (F.take i) λ p hp=>h10 p ((hF p).mp (List.mem_of_mem_take hp)).1;rw[List.length_take] at this;omega
 refine zA9 (xs:=us) (λ i σ' H'=>∃(cs:List V) (s2:Option V),σ'=[some v,some (.ref co),s2]/\Same H H'/\Tk H1 H'/\H' l=some (.lst us)/\H' co=some (.lst cs)/\Paired (WN H') ((F.take i).flatMap cnt1) cs) ?_ ?_ ?_ ?_
 ·exact⟨[],none,rfl,g0.trans g1,.refl _,el,g1 _ _ eco,.nil⟩
 ·rintro i σ' H' _ ⟨cs,s2,rfl,g,tk,el',ec,pc⟩
  exact SqL.of el'
 ·rintro i x σ' H' hx ⟨cs,s2,rfl,g,tk,el',ec,pc⟩
  obtain⟨tq,eq,rq⟩:=zAR pF hx;have hi:i<us.length:=(lJ.mp hx).1;have lc:cs.length=((F.take i).flatMap cnt1).length:=zAH pc;have bi:=bound i;have bi1:=bound (i+1);have htk:(F.take (i+1)).flatMap cnt1=(F.take i).flatMap cnt1++cnt1 tq:=by rw[zAM eq,List.flatMap_append];simp
  rw[htk,List.length_append] at bi1;have z:=((hF tq).mp (lN eq)).2;cases tq with
  |gap gx as =>
   obtain⟨pa,b',us2,rfl,ha',hb',hl2,pas⟩:=rq.mono tk;have las:us2.length=as.length:=zAH pas;have at1:atI [V.str "gap", .str gx,.ref b'] 1=some (.str gx):=zAI (j:=1) rfl;have at2:atI [V.str "gap", .str gx,.ref b'] 2=some (.ref b'):=zAI (j:=2) rfl;refine⟨_,rfl,.inl ⟨rfl,_,SqL.of ec⟩,_,rfl,pa,_,1,_,rfl,rfl,SqT.of ha',at1,_,rfl,pa,_,2,_,rfl,rfl,SqT.of ha',at2,b',us2,rfl,.inr (SqT.of hb'),d2,λ pt hpt=>?_⟩;have k1:=zAC (o:=.tup [.str gx,.int ((us2.length:Nat):Int)]) hpt;have ec1:=k1 _ _ ec;refine⟨co,cs,_,rfl,rfl,ec1,zAQ (by omega),?_⟩;have k2:Tk (upd H' pt (.tup [.str gx,.int ((us2.length:Nat):Int)])) (upd (upd H' pt (.tup [.str gx,.int ((us2.length:Nat):Int)])) co (.lst (cs++[.ref pt]))):=Tk.lst ec1;have g2:Same H (upd (upd H' pt (.tup [.str gx,.int ((us2.length:Nat):Int)])) co (.lst (cs++[.ref pt]))):=zAO (g.trans k1) hco;have el2:(upd (upd H' pt (.tup [.str gx,.int ((us2.length:Nat):Int)])) co (.lst (cs++[.ref pt]))) l=some (.lst us):=by rw[zAW nlc];exact k1 _ _ el'
   have ec2:(upd (upd H' pt (.tup [.str gx,.int ((us2.length:Nat):Int)])) co (.lst (cs++[.ref pt]))) co=some (.lst (cs++[.ref pt])):=zAB;have tk2:=tk.trans (k1.tk.trans k2);have ha2:=(k1.tk.trans k2) _ _ ha';have hb2:=(k1.tk.trans k2) _ _ hb';have pas2:Paired (AtRep (upd (upd H' pt (.tup [.str gx,.int ((us2.length:Nat):Int)])) co (.lst (cs++[.ref pt])))) as us2:=Paired.mapP pas λ U U z=>z.mono (k1.tk.trans k2);have pc2:Paired (WN (upd (upd H' pt (.tup [.str gx,.int ((us2.length:Nat):Int)])) co (.lst (cs++[.ref pt])))) ((F.take i).flatMap cnt1++[(gx,as.length)]) (cs++[.ref pt]):=zAP (Paired.mapP pc λ U U z=>z.mono (k1.tk.trans k2)) (.cons ⟨pt,rfl,by rw[←las];exact k2 _ _ zAB⟩ .nil);generalize upd (upd H' pt (.tup [.str gx,.int ((us2.length:Nat):Int)])) co (.lst (cs++[.ref pt]))=H2 at g2 el2 ec2 tk2 ha2 hb2 pas2 pc2 ⊢;refine⟨_,rfl,.inl ⟨rfl,_,SqL.of ec2⟩,_,rfl,pa,_,2,_,rfl,rfl,SqT.of ha2,at2,b',rfl,⟨us2,SqT.of hb2⟩,λ acc hacc=>?_⟩;have b3:(cnt1 (.gap gx as)).length=1+(as.flatMap λ a=>(agap a).map λ h=>(h,0)).length:=by simp[cnt1];omega
   refine zB4 (xs:=us2) (λ j H'=>Same H2 H'/\∃zs:List V,H' acc=some (.lst zs)/\Paired (WN H') ((as.take j).flatMap λ a=>(agap a).map λ h=>(h,0)) zs/\zs.length<=j) ⟨zAC hacc,[],zAB,.nil,lS _⟩ (λ j H' U h=>SqT.of (h.1 _ _ hb2)) ?_ ?_
   ·rintro j x Hx hx ⟨gx',zs,ez,pz,lz⟩
    obtain⟨at',eat,rat⟩:=zAR pas2 hx;have hj:j<us2.length:=(lJ.mp hx).1;have htj:((as.take (j+1)).flatMap λ a=>(agap a).map λ h=>(h,0))=((as.take j).flatMap λ a=>(agap a).map λ h=>(h,0))++(agap at').map λ h=>(h,0):=by rw[zAM eat,List.flatMap_append];simp
    obtain⟨b,r,rfl,hb⟩:=(rat.mono gx'.tk).all;rcases hb with ⟨h,rfl,hb⟩|⟨hag,kk,hkk,hb⟩
    ·have a0:atI (V.str "gap" :: .str h::r) 0=some (.str "gap"):=zAI (j:=0) rfl
     have a1:atI (V.str "gap" :: .str h::r) 1=some (.str h):=zAI (j:=1) rfl;refine⟨.skip .nil,_,rfl,b,_,0,_,rfl,rfl,SqT.of hb,a0,rfl,_,rfl,ite2 (λ U=>?_) (λ c=>absurd (lV rfl) c)⟩;refine⟨_,rfl,b,_,1,_,rfl,rfl,SqT.of hb,a1,d2,λ pq hpq=>?_⟩;have k5:=zAC (o:=.tup [.str h,.int 0]) hpq;have tkz:Tk (upd Hx pq (.tup [.str h,.int 0])) (upd (upd Hx pq (.tup [.str h,.int 0])) acc (.lst (zs++[.ref pq]))):=Tk.lst (k5 _ _ ez);refine⟨zs,k5 _ _ ez,zAQ (by omega),zAO (gx'.trans k5) hacc,zs++[.ref pq],zAB,?_,by simp;omega⟩;rw[htj];exact zAP (Paired.mapP pz λ U U z=>z.mono (k5.tk.trans tkz)) (.cons ⟨pq,rfl,tkz _ _ zAB⟩ .nil)
    ·have a0:atI (V.str kk::r) 0=some (.str kk):=zAI (j:=0) rfl
     refine⟨.skip .nil,_,rfl,b,_,0,_,rfl,rfl,SqT.of hb,a0,rfl,_,rfl,ite2 (λ c=>absurd (V.str.inj (lU c)) hkk) (λ U=>?_)⟩;refine⟨gx',zs,ez,?_,by omega⟩;rw[htj,hag];simpa using pz
   ·rintro H3 ⟨g3,zs,ez,pz,lz⟩
    rw[List.take_of_length_le (by omega)] at pz;have lz2:zs.length=(as.flatMap λ a=>(agap a).map λ h=>(h,0)).length:=zAH pz;have ec3:=g3 _ _ ec2;refine⟨co,acc,cs++[.ref pt],zs,rfl,rfl,ec3,ez,zAe (by simp;omega),?_⟩;have tkz:Tk H3 (upd H3 co (.lst (cs++[.ref pt]++zs))):=Tk.lst ec3;refine⟨cs++[.ref pt]++zs,_,rfl,zAO (g2.trans g3) hco,tk2.trans (g3.tk.trans tkz),by rw[zAW nlc];exact g3 _ _ el2,zAB,?_⟩;rw[htk];have e9:(F.take i).flatMap cnt1++cnt1 (.gap gx as)=(F.take i).flatMap cnt1++[(gx,as.length)]++as.flatMap λ a=>(agap a).map λ h=>(h,0):=by simp[cnt1]
    rw[e9];exact zAP (Paired.mapP pc2 λ U U z=>z.mono (g3.tk.trans tkz)) (Paired.mapP pz λ U U z=>z.mono tkz)
  |bin o a b=>cases o<;>cases z
  |_=>cases z
 ·rintro σ' H' ⟨cs,s2,rfl,g,tk,el',ec,pc⟩
  have bi:=bound us.length;rw[List.take_of_length_le (by omega)] at pc bi;have lp:=zAH pc;rw[eF] at pc;exact⟨_,rfl,q co cs H' g ec pc (by omega)⟩
noncomputable def zCv:Sp:=λ vs H Q U=>∃(t:Tr) (v:V),vs=[v]/\Rep H t v/\t.size<=60/\(∀p∈t.subs,(cnt1 p).length<=10)/\∀(d:Addr) (kvs:List (Key × V)) (H':Hp),Same H H'->H d=none->H' d=some (.dK kvs)->Fd1 (gcnt t) kvs->kvs.length<=600->Q (.ref d) H'
theorem zJw {k:Nat}{f g1:Addr}{fd gd1:FuncData}(F:Fun K "gaps_of" "gaps_of" zEk f fd) (zOh:FnB P w K mg base k "counted_gaps" g1 gd1 ["shape"] zEA):FnOk P w K mg base CX0 (k+1) f fd ["shape"] zCv:=by
 refine F.ok zDF (λ vs H Q E h=>?_) (λ cdv A outer s H vs Q E hr h=>?_)
 ·obtain⟨t,v,rfl,_⟩:=h
  rfl
 obtain⟨t,v,rfl,hR,hsz,h10,q⟩:=h
 refine⟨_,(zAE (zAV (i:=1) zDF.nd rfl (Or.inl rfl) zB8)
  (zAE (zAo PassesOwn.never rfl (zA4 (pe_cl zOh hr (zAA (pv 0) zAD))) (zB7 rfl (zAc (zAK (i:=2) zDF.nd rfl (Or.inl rfl)) (zAc (zAK (i:=3) zDF.nd rfl (Or.inl rfl)) zBB))) (zAF (zAt (pe_bm PySem.F.plainAttrs_dict PySem.F.slot_dict_setdefault PySem.F.type_dict_setdefault zDy (pv 1) (zAA (pv 2) (zAA (pv 3) zAD))))))
  (zAF (zAS (pv 1))))),?_⟩
 try dsimp only[cxOf,Cx.nox]
 refine λ d0 hd0=>?_;have g0:=zAC (o:=.dK []) hd0;have ed0:(upd H d0 (.dK [])) d0=some (.dK []):=zAB;have hR0:=hR.mono g0.tk;show tSeq _ _ _ _ (upd H d0 (.dK []));generalize upd H d0 (.dK [])=H0 at g0 ed0 hR0 ⊢;refine⟨_,rfl,t,v,rfl,hR0,hsz,h10,λ l us H1 g1 el pC hl=>⟨l,rfl,⟨us,SqL.of el⟩,?_⟩⟩;generalize hCe:gcnt t=C at pC;have lu:us.length=C.length:=zAH pC;have nld:l≠d0:=λ z=>by rw[z,g1 _ _ ed0] at el;cases el
 refine zA9 (xs:=us) (λ i σ' H'=>∃(kvs:List (Key × V)) (s2 s3:Option V),σ'=[some v,some (.ref d0),s2,s3]/\Same H H'/\Tk H1 H'/\H' l=some (.lst us)/\H' d0=some (.dK kvs)/\Fd1 (C.take i) kvs/\kvs.length<=i) ?_ ?_ ?_ ?_
 ·exact⟨[],none,none,rfl,g0.trans g1,.refl _,el,g1 _ _ ed0,Fd1.nil,lS _⟩
 ·rintro i σ' H' _ ⟨kvs,s2,s3,rfl,g,tk,el',ed,gd,le⟩
  exact SqL.of el'
 ·rintro i x σ' H' hx ⟨kvs,s2,s3,rfl,g,tk,el',ed,gd,le⟩
  obtain⟨⟨y,n⟩,eq,rq⟩:=zAR pC hx;have hi:i<us.length:=(lJ.mp hx).1;obtain⟨b,rfl,hb⟩:=rq.mono tk;dsimp only at hb;have htk:C.take (i+1)=C.take i++[(y,n)]:=zAM eq;refine⟨b,_,rfl,SqT.of hb,rfl,_,_,rfl,_,_,rfl,rfl,?_⟩;refine⟨_,rfl,.inr (.inr (.inl ⟨rfl,.inl ⟨kvs,ed⟩⟩)),_,rfl,_,rfl,d0,kvs,Sum.inr y,_,rfl,rfl,ed,by omega,λ z hz=>?_,λ hz=>?_⟩
  ·refine⟨kvs,_,_,rfl,g,tk,el',ed,?_,by omega⟩
   rw[htk];exact gd.same hz
  ·refine⟨_,_,_,rfl,zAO g hd0,tk.trans (Tk.dk ed),by rw[zAW nld];exact el',zAB,?_,?_⟩
   ·rw[htk]
    exact gd.put hz
   ·have:=zAx kvs (Sum.inr y:Key) (.int ((n:Nat):Int))
    omega
 ·rintro σ' H' ⟨kvs,s2,s3,rfl,g,tk,el',ed,gd,le⟩
  rw[List.take_of_length_le (by omega)] at gd;exact⟨_,rfl,q d0 kvs H' g hd0 ed (hCe▸gd) (by omega)⟩
abbrev zCd:Stmt:=top 28
theorem zDO:zAY ["rule", "left"] ["rule"] (zAJ zCd):=by nofun
structure RuS (H:Hp) (p:Addr) (a b c:V) (t u:Tr):Prop where
 hp:H p=some (.tup [a,b,c])
 ra:Rep H t a
 rb:Rep H u b
 st:t.size<=60
 su:u.size<=60
 ct:∀p∈t.subs,(cnt1 p).length<=10
 cu:∀p∈u.subs,(cnt1 p).length<=10
theorem RuS.mono {H H':Hp}{p:Addr}{a b c:V}{t u:Tr}(h:RuS H p a b c t u) (k:Tk H H'):RuS H' p a b c t u:=⟨k _ _ h.hp,h.ra.mono k,h.rb.mono k,h.st,h.su,h.ct,h.cu⟩
noncomputable def zGb:Sp:=λ vs H Q U=>∃(t u:Tr) (p:Addr) (a b c:V),vs=[.ref p]/\RuS H p a b c t u/\∀(z:Bool) (H':Hp),Same H H'->(z=true↔∃g∈(gcnt u).map (·.1),g∉(gcnt t).map (·.1))->Q (.bl z) H'
theorem zJq {k:Nat}{f g1:Addr}{fd gd1:FuncData}(F:Fun K "has_new_gap" "has_new_gap" zCd f fd) (z_any:mg "any" = none) (zOi:FnB P w K mg base k "gaps_of" g1 gd1 ["shape"] zCv):FnOk P w K mg base CX0 (k+1) f fd ["rule"] zGb:=by
 refine F.ok zDO (λ vs H Q E h=>?_) (λ cdv A outer s H vs Q E hr h=>?_)
 ·obtain⟨t,u,p,a,b,c,rfl,_⟩:=h
  rfl
 obtain⟨t,u,p,a,b,c,rfl,hS,q⟩:=h;have hu:=hu_of hr
 refine⟨_,(zAE (zAV (i:=1) zDO.nd rfl (Or.inr rfl) (pe_cl zOi hr (zAA (iC (r:=rIxT K) zAL (pv 0)) zAD)))
  (zAF (zAS (zAX (zCT rfl) (by rfl) z_any PyProof.Rows.boot_any (zAA (zAs ["gap", "left"] [none,some 1] rfl (zHR (pe_cl zOi hr (zAA (iC (r:=rIxT K) zAL (pv 0)) zAD))) (λ U U U U U=>(zAK (i:=0) (show List.Nodup (["gap", "left"]:List Str) by decide +kernel) rfl (Or.inl rfl))) (λ U U U U U=>zBQ) (λ U U U U U=>(zA6 (zEu hu) (pv 0) (pv 1) rfl)) rfl) zAD))))),?_⟩
 try dsimp only[cxOf,Cx.nox]
 refine⟨_,rfl,p,_,0,_,rfl,rfl,SqT.of hS.hp,zAI (j:=0) rfl,t,a,rfl,hS.ra,hS.st,hS.ct,λ dl kl H1 g1 hdl edl fl ll=>?_⟩;refine⟨_,rfl,p,_,1,_,rfl,rfl,SqT.of (g1 _ _ hS.hp),zAI (j:=1) rfl,u,b,rfl,hS.rb.mono g1.tk,hS.su,hS.cu,λ dr kr H2 g2 hdr edr fr lr=>⟨dr,kr,rfl,.inr ⟨edr,λ ob=>?_⟩⟩⟩;have g6:Same H1 (upd H2 dr (.frz ob (.dK kr))):=zAO g2 hdr;have edr6:(upd H2 dr (.frz ob (.dK kr))) dr=some (.frz ob (.dK kr)):=zAB;generalize upd H2 dr (.frz ob (.dK kr))=H6 at g6 edr6 ⊢;have edl6:=g6 _ _ edl;refine λ acc hacc=>?_
 refine zFk (o:=ob) (a:=dr) (kvs:=kr) (λ i H'=>Same H6 H'/\∃bs:List Bool,H' acc=some (.lst (bs.map V.bl))/\bs.length<=i /\
   (bs.any id=true↔∃p∈kr.take i,∃g:Str,p.1=(Sum.inr g:Key)/\g∉(gcnt t).map (·.1))) ?_ ?_ ?_ ?_
 ·exact⟨zAC hacc,[],zAB,lS _,by simp⟩
 ·rintro i H' _ ⟨g,_⟩
  exact g _ _ edr6
 ·rintro i pr H' hpr ⟨g,bs,eb,lb,hb⟩
  obtain⟨x,hx,ex⟩:=fr.ky pr (lN hpr);have hi:i<kr.length:=(lJ.mp hpr).1;obtain⟨p1,p2⟩:=pr;dsimp only at ex;subst ex;refine⟨.skip (.keep .nil),_,rfl,_,rfl,dl,_,rfl,DGet.k (k:=Sum.inr x) (g _ _ edl6),?_⟩;rw[fl.isS x];refine⟨_,eb,zAQ (by rw[List.length_map];omega),zAO g hacc,bs++[!decide (x∈(gcnt t).map (·.1))],?_,by simp;omega,?_⟩
  ·rw[zAB,List.map_append]
   rfl
  ·rw[List.any_append,Bool.or_eq_true,hb,zAM hpr]
   constructor
   ·rintro (⟨y,hy,h⟩|h)
    ·exact⟨y,mH _ hy,h⟩
    ·exact⟨_,mC _ lQ,x,rfl,by simpa using h⟩
   ·rintro⟨y,hy,h⟩
    rcases lK.mp hy with z|z
    ·exact .inl ⟨y,z,h⟩
    ·obtain⟨g',e',n'⟩:=h
     rw[List.mem_singleton.mp z] at e';rw[←Sum.inr.inj e'] at n';exact .inr (by simpa using n')
 ·rintro H3 ⟨g3,bs,eb,lb,hb⟩
  rw[List.take_of_length_le (Nat.le_refl _)] at hb;refine⟨acc,bs,rfl,eb,q _ H3 (g1.trans (g6.trans g3)) (hb.trans ?_)⟩;constructor
  ·rintro⟨y,hy,g,e,n⟩
   exact⟨g,fr.has.mp ⟨y,hy,e⟩,n⟩
  ·rintro⟨g,hg,n⟩
   obtain⟨y,hy,e⟩:=fr.has.mpr hg;exact⟨y,hy,g,e,n⟩
abbrev zBK:Stmt:=top 25
theorem zBI:zAY ["rule", "first", "counted"] ["rule"] (zAJ zBK):=by nofun
noncomputable def zGZ:Sp:=λ vs H Q U=>∃(t u:Tr) (p:Addr) (a b c:V),vs=[.ref p]/\RuS H p a b c t u/\∀(z:Bool) (H':Hp),Same H H'->(z=true↔zHB (gcnt t) (gcnt t++gcnt u))->Q (.bl z) H'
theorem zJo {k:Nat}{f g1 g2:Addr}{fd gd1 gd2:FuncData}(F:Fun K "has_unlike_counts" "has_unlike_counts" zBK f fd) (z_any:mg "any" = none) (zOi:FnB P w K mg base k "gaps_of" g1 gd1 ["shape"] zCv) (zOh:FnB P w K mg base k "counted_gaps" g2 gd2 ["shape"] zEA):FnOk P w K mg base CX0 (k+1) f fd ["rule"] zGZ:=by
 refine F.ok zBI (λ vs H Q E h=>?_) (λ cdv A outer s H vs Q E hr h=>?_)
 ·obtain⟨t,u,p,a,b,c,rfl,_⟩:=h
  rfl
 obtain⟨t,u,p,a,b,c,rfl,hS,q⟩:=h;have hu:=hu_of hr
 refine⟨_,(zAE (zAV (i:=1) zBI.nd rfl (Or.inr rfl) (pe_cl zOi hr (zAA (iC (r:=rIxT K) zAL (pv 0)) zAD)))
  (zAE (zAV (i:=2) zBI.nd rfl (Or.inl rfl) (pe_op zDw (pe_cl zOh hr (zAA (iC (r:=rIxT K) zAL (pv 0)) zAD)) (pe_cl zOh hr (zAA (iC (r:=rIxT K) zAL (pv 0)) zAD))))
  (zAF (zAS (zAX (zCT rfl) (by rfl) z_any PyProof.Rows.boot_any (zAA (zAs ["gap", "many", "first"] [none,none,some 1] rfl (zA4 (pv 2)) (λ U U U U U=>(zF2 (K:=K) (n:=2) rfl rfl (zAc (zAK (i:=0) (show List.Nodup (["gap", "many", "first"]:List Str) by decide +kernel) rfl (Or.inl rfl)) (zAc (zAK (i:=1) (show List.Nodup (["gap", "many", "first"]:List Str) by decide +kernel) rfl (Or.inl rfl)) zBB)))) (λ U U U U U=>zBQ) (λ U U U U U=>(zDv (zA6 (zIG hu) (pv 0) (pv 2) rfl) (zCq (zA6 op_ne (zC4 hu (pv 2) (pv 0) (λ U U=>rfl)) (pv 1) (zAZ _))))) rfl) zAD)))))),?_⟩
 try dsimp only[cxOf,Cx.nox]
 refine⟨_,rfl,p,_,0,_,rfl,rfl,SqT.of hS.hp,zAI (j:=0) rfl,t,a,rfl,hS.ra,hS.st,hS.ct,λ d kv H1 g1 hd ed fd ld=>?_⟩;have hS1:=hS.mono g1.tk;refine⟨_,rfl,p,_,0,_,rfl,rfl,SqT.of hS1.hp,zAI (j:=0) rfl,t,a,rfl,hS1.ra,hS.st,hS.ct,λ l1 us1 H2 g2 e1 p1 n1=>?_⟩;have hS2:=hS1.mono g2.tk;refine⟨_,rfl,p,_,1,_,rfl,rfl,SqT.of hS2.hp,zAI (j:=1) rfl,u,b,rfl,hS2.rb,hS.su,hS.cu,λ l2 us2 H3 g3 e2 p2 n2=>⟨l1,l2,us1,us2,rfl,rfl,g3 _ _ e1,e2,Nat.le_of_lt (zC6 (by omega)),λ l hl=>?_⟩⟩;have k4:=zAC (o:=.lst (us1++us2)) hl;have el:(upd H3 l (.lst (us1++us2))) l=some (.lst (us1++us2)):=zAB;have pC:Paired (WN (upd H3 l (.lst (us1++us2)))) (gcnt t++gcnt u) (us1++us2):=zAP (Paired.mapP p1 λ U U z=>z.mono (g3.trans k4).tk) (Paired.mapP p2 λ U U z=>z.mono k4.tk);have g14:=g2.trans (g3.trans k4);generalize upd H3 l (.lst (us1++us2))=H4 at el pC k4 g14 ⊢;have ed4:=g14 _ _ ed;have lC:=zAH pC;rw[List.length_append] at lC;refine⟨_,rfl,l,rfl,⟨_,SqL.of el⟩,λ acc hacc=>?_⟩;refine zBZ (xs:=us1++us2) (λ i H'=>Same H4 H'/\∃bs:List Bool,H' acc=some (.lst (bs.map V.bl))/\bs.length<=i/\(bs.any id=true↔∃x∈(gcnt t++gcnt u).take i,∃n,zAp (gcnt t) x.1=some n/\n≠x.2)) ⟨zAC hacc,[],zAB,lS _,by simp⟩ (λ i H' U h=>SqL.of (h.1 _ _ el)) ?_ ?_
 ·rintro i x H' hx ⟨g,bs,eb,lb,hb⟩
  obtain⟨⟨y,n⟩,ey,bp,rfl,hbp⟩:=zAR pC hx;dsimp only at hbp;have hi:i<(us1++us2).length:=(lJ.mp hx).1;rw[List.length_append] at hi;refine⟨bp,_,rfl,SqT.of (g _ _ hbp),rfl,_,_,rfl,_,_,rfl,rfl,.skip (.skip (.keep .nil)),?_⟩;refine⟨_,rfl,_,rfl,d,_,rfl,DGet.k (k:=Sum.inr y) (g _ _ ed4),_,rfl,?_⟩;have hv:=fd.vl y;cases e0:zAp (gcnt t) y with
  |none =>
   rw[e0] at hv;rw[hv];refine iteF ⟨_,eb,zC6 (by rw[List.length_map];omega),zAO g hacc,bs++[false],?_,by simp;omega,zEZ ey hb ⟨(λ z=>by cases z),λ z=>?_⟩⟩
   ·rw[zAB,List.map_append];rfl
   ·obtain⟨m,em,_⟩:=z
    rw[e0] at em;cases em
  |some m =>
   rw[e0] at hv;rw[hv];refine iteT ⟨_,rfl,_,rfl,d,_,rfl,hv▸DGet.k (k:=Sum.inr y) (g _ _ ed4),_,rfl,rfl,?_⟩;refine⟨_,eb,zC6 (by rw[List.length_map];omega),zAO g hacc,bs++[!decide (V.int ((m:Nat):Int)=V.int ((n:Nat):Int))],?_,by simp;omega,zEZ ey hb ?_⟩
   ·rw[zAB,List.map_append];rfl
   ·rw[Bool.not_eq_true',decide_eq_false_iff_not]
    constructor
    ·intro z
     exact⟨m,e0,λ w=>z (by rw[w])⟩
    ·rintro⟨m',em,hm⟩ z
     rw[e0] at em;cases em;exact hm (Int.ofNat.inj (V.int.inj z))
 ·rintro H5 ⟨g5,bs,eb,lb,hb⟩
  rw[List.take_of_length_le (by rw[←lC,List.length_append];exact lS _)] at hb;exact⟨acc,bs,rfl,eb,q _ H5 (g1.trans (g14.trans g5)) hb⟩
abbrev zBi:Stmt:=top 29
theorem zBF:zAY ["rule", "left", "gap", "kind"] ["rule"] (zAJ zBi):=by nofun
noncomputable def zGY:Sp:=λ vs H Q U=>∃(t u:Tr) (ks:List (Str × Str)) (p:Addr) (a b c:V),vs=[.ref p]/\RuS H p a b c t u/\RpKs H ks c/\∀(z:Bool) (H':Hp),Same H H'->(z=true↔∃k∈ks,badK (gcnt t) k)->Q (.bl z) H'
theorem zJn {k:Nat}{f g1:Addr}{fd gd1:FuncData}(F:Fun K "has_wrong_kind" "has_wrong_kind" zBi f fd) (zOi:FnB P w K mg base k "gaps_of" g1 gd1 ["shape"] zCv):FnOk P w K mg base CX0 (k+1) f fd ["rule"] zGY:=by
 refine F.ok zBF (λ vs H Q E h=>?_) (λ cdv A outer s H vs Q E hr h=>?_)
 ·obtain⟨t,u,ks,p,a,b,c,rfl,_⟩:=h
  rfl
 obtain⟨t,u,ks,p,a,b,c,rfl,hS,hK,q⟩:=h;have hu:=hu_of hr
 refine⟨_,(zAE (zAV (i:=1) zBF.nd rfl (Or.inl rfl) (pe_cl zOi hr (zAA (iC (r:=rIxT K) zAL (pv 0)) zAD)))
  (zAE (zAo PassesOwn.never rfl (zBG (iC (r:=rIxT K) zAL (pv 0))) (zB7 rfl (zAc (zAK (i:=2) zBF.nd rfl (Or.inl rfl)) (zAc (zAK (i:=3) zBF.nd rfl (Or.inl rfl)) zBB))) (zAF (ps_if (pw_or (zAN (zEu hu) (pv 2) (pv 1) rfl) (zFX (zCQ (zAN op_eq (pv 3) zAd (zAZ _)) (zBx (zAN op_gt (zC4 hu (pv 1) (pv 2) (λ U U=>rfl)) zAG (zAZ _)))).pt)).pt (zAF (zAS pe_bl)) zAU)))
  (zAF (zAS pe_bl)))),?_⟩
 try dsimp only[cxOf,Cx.nox]
 refine⟨_,rfl,p,_,0,_,rfl,rfl,SqT.of hS.hp,zAI (j:=0) rfl,t,a,rfl,hS.ra,hS.st,hS.ct,λ d kv H1 g1 hd ed fd ld=>?_⟩;obtain⟨pc,o,us,rfl,hpc,hod,hus⟩:=hK.mono g1;have luk:us.length=ks.length:=zAH hus;refine⟨_,rfl,p,_,2,_,rfl,rfl,SqT.of (g1 _ _ hS.hp),zAI (j:=2) rfl,pc,rfl,⟨_,.inl (.inr ⟨o,hpc⟩)⟩,?_⟩;refine zBW (xs:=us) (λ i σ' H'=>∃(s2 s3:Option V),σ'=[some (.ref p),some (.ref d),s2,s3]/\Same H1 H'/\∀k∈ks.take i,¬badK (gcnt t) k) ⟨none,none,rfl,Same.refl _,by simp⟩ (λ i σ' H' _ h=>?_) ?_ ?_
 ·obtain⟨_,_,_,g,_⟩:=h
  exact .inl (.inr ⟨o,g _ _ hpc⟩)
 ·rintro i x σ1 H2 hx ⟨s2,s3,rfl,g2,hn⟩
  obtain⟨kd,ek,pk,rfl,hpk⟩:=zAR hus hx;have fin:badK (gcnt t) kd->Q (.bl true) H2:=λ h=>q true H2 (g1.trans g2) ⟨λ U=>⟨kd,lN ek,h⟩,λ U=>rfl⟩
  have next:¬badK (gcnt t) kd->∀k∈ks.take (i+1),¬badK (gcnt t) k:=λ h k hk=>by
   rw[zAM ek] at hk;rcases lK.mp hk with z|z
   ·exact hn k z
   ·rw[List.mem_singleton.mp z];exact h
  refine⟨pk,_,rfl,SqT.of (g2 _ _ hpk),rfl,_,_,rfl,_,_,rfl,rfl,?_⟩;refine⟨_,rfl,_,rfl,d,_,rfl,DGet.k (k:=Sum.inr kd.1) (g2 _ _ ed),_,rfl,?_⟩;have hv:=fd.vl kd.1;cases e0:zAp (gcnt t) kd.1 with
  |none =>
   rw[e0] at hv;rw[hv];exact iteT (iteT (fin (.inl e0)))
  |some m =>
   rw[e0] at hv;rw[hv];refine iteF ⟨_,rfl,rfl,_,rfl,ite2 (λ c1=>?_) (λ c1=>?_)⟩
   ·have e1:kd.2=Str.ofString "number" := V.str.inj (lU c1)
    refine⟨_,rfl,_,rfl,d,_,rfl,hv▸DGet.k (k:=Sum.inr kd.1) (g2 _ _ ed),_,_,rfl,rfl,_,rfl,ite2 (λ c2=>?_) (λ c2=>?_)⟩
    ·have c2':(0:Int)<((m:Nat):Int):=lU c2
     exact fin (.inr ⟨e1,m,e0,by omega⟩)
    ·refine⟨_,_,rfl,g2,next λ z=>?_⟩
     rcases z with z|⟨_,n,en,hn0⟩
     ·rw[e0] at z;cases z
     ·rw[e0] at en
      cases en;exact c2 (lV (by show (0:Int)<((m:Nat):Int);omega))
   ·refine iteF ⟨_,_,rfl,g2,next λ z=>?_⟩
    rcases z with z|⟨e1,_⟩
    ·rw[e0] at z;cases z
    ·exact c1 (lV (congrArg V.str e1))
 ·rintro σ1 H2 ⟨s2,s3,rfl,g2,hn⟩
  rw[List.take_of_length_le (by omega)] at hn;exact q false H2 (g1.trans g2) ⟨(λ z=>by cases z),λ⟨k,hk,hb⟩=>absurd hb (hn k hk)⟩
abbrev zBJ:Stmt:=top 26
theorem zA1:zAY ["rule", "kinds", "part", "atom"] ["rule"] (zAJ zBJ):=by nofun
noncomputable def zHy:Sp:=λ vs H Q U=>∃(t u:Tr) (ks:List (Str × Str)) (p:Addr) (a b c:V),vs=[.ref p]/\RuS H p a b c t u/\RpKs H ks c/\(ks.map (·.1)).Nodup/\ks.length<=60/\∀(z:Bool) (H':Hp),Same H H'->(z=true↔∃g∈u.subs.filter isGap,badP ks g)->Q (.bl z) H'
theorem zLT {k:Nat}{f g1:Addr}{fd gd1:FuncData}(F:Fun K "has_no_number_atom" "has_no_number_atom" zBJ f fd) (z_dict:mg "dict" = none) (zOg:FnB P w K mg base k "gap_parts" g1 gd1 ["shape"] zFt):FnOk P w K mg base CX0 (k+1) f fd ["rule"] zHy:=by
 refine F.ok zA1 (λ vs H Q E h=>?_) (λ cdv A outer s H vs Q E hr h=>?_)
 ·obtain⟨t,u,ks,p,a,b,c,rfl,_⟩:=h
  rfl
 obtain⟨t,u,ks,p,a,b,c,rfl,hS,hK,nd,lk,q⟩:=h;have hu:=hu_of hr
 refine⟨_,(zAE (zAV (i:=1) zA1.nd rfl (Or.inl rfl) (zBg (zFn rfl) (by rfl) z_dict PyProof.Rows.boot_dict (zAA (iC (r:=rIxT K) zAL (pv 0)) zAD)))
  (zAE (zAo PassesOwn.never rfl (zA4 (pe_cl zOg hr (zAA (iC (r:=rIxT K) zAL (pv 0)) zAD))) (zAK (i:=2) zA1.nd rfl (Or.inl rfl)) (zAF (zAo PassesOwn.never rfl (zBG (iC (r:=rIxT K) zAL (pv 2))) (zAK (i:=3) zA1.nd rfl (Or.inl rfl)) (zAF (ps_if (zCQ (zAN op_eq (iC (r:=rIxT K) zAL (pv 3)) zAd (zAZ _)) (zBx (zAN op_ne (zIE hu (pv 1) (iC (r:=rIxT K) zAL (pv 3)) ⟨rfl,rfl,rfl,rfl⟩) zAd (zAZ _)))).pt (zAF (zAS pe_bl)) zAU)))))
  (zAF (zAS pe_bl)))),?_⟩
 try dsimp only[cxOf,Cx.nox]
 obtain⟨pc,o,us,rfl,hpc,hod,hus⟩:=id hK;refine⟨_,rfl,p,_,2,_,rfl,rfl,SqT.of hS.hp,zAI (j:=2) rfl,pc,o,us,kdV ks,rfl,hpc,hod,zMQ hus,by unfold kdV;rw[List.length_map];omega,λ dk hdk=>?_⟩;have g1:=zAC (o:=.dK (zAf [] (kdV ks))) hdk;have edk:(upd H dk (.dK (zAf [] (kdV ks)))) dk=some (.dK (zAf [] (kdV ks))):=zAB;have hS1:=hS.mono g1.tk;show tSeq _ _ _ _ (upd H dk (.dK (zAf [] (kdV ks))));generalize upd H dk (.dK (zAf [] (kdV ks)))=H1 at g1 edk hS1 ⊢;refine⟨_,rfl,p,_,1,_,rfl,rfl,SqT.of hS1.hp,zAI (j:=1) rfl,u,b,rfl,hS1.rb,hS.su,λ l vs H2 g2 hln el pF=>⟨l,rfl,⟨vs,SqL.of el⟩,?_⟩⟩;have edk2:=g2 _ _ edk;have lv:vs.length=(u.subs.filter isGap).length:=zAH pF;refine zA9 (xs:=vs) (λ i σ' H'=>∃(s2 s3:Option V),σ'=[some (.ref p),some (.ref dk),s2,s3]/\H'=H2/\∀x∈(u.subs.filter isGap).take i,¬badP ks x) ⟨none,none,rfl,rfl,by simp⟩ (λ i σ' H' _ h=>?_) ?_ ?_
 ·obtain⟨_,_,_,rfl,_⟩:=h
  exact SqL.of el
 ·rintro i x σ1 H3 hx ⟨s2,s3,rfl,rfl,hn⟩
  obtain⟨tq,eq,rq⟩:=zAR pF hx;have hgap:tq.kd = .gap:=lU (List.mem_filter.mp (lN eq)).2;cases tq with
  |gap gx as =>
   obtain⟨pa,b',us2,rfl,ha',hb',hl2,pas⟩:=rq;have las:us2.length=as.length:=zAH pas;refine⟨_,rfl,pa,_,2,_,rfl,rfl,SqT.of ha',zAI (j:=2) rfl,b',rfl,⟨us2,SqT.of hb'⟩,?_⟩;refine zBW (xs:=us2) (λ j σ' H'=>∃(s3:Option V),σ'=[some (.ref p),some (.ref dk),some (.ref pa),s3]/\H'=H3/\∀y∈as.take j,¬badA ks y) ⟨s3,rfl,rfl,by simp⟩ (λ j σ' H' _ h=>?_) ?_ ?_
   ·obtain⟨_,_,rfl,_⟩:=h
    exact SqT.of hb'
   ·rintro j y σ2 H4 hy ⟨s4,rfl,rfl,hm⟩
    obtain⟨at',eat,rat⟩:=zAR pas hy;obtain⟨b2,r,rfl,hb2⟩:=rat.all
    have next:¬badA ks at'->∀y∈as.take (j+1),¬badA ks y:=λ h y hy=>by
     rw[zAM eat] at hy;rcases lK.mp hy with z|z
     ·exact hm y z
     ·rw[List.mem_singleton.mp z];exact h
    rcases hb2 with ⟨h,rfl,hb2⟩|⟨hag,kk,hkk,hb2⟩
    ·obtain⟨z,ez,sz,hz⟩:=zMS nd h
     refine⟨_,rfl,b2,_,0,_,rfl,rfl,SqT.of hb2,zAI (j:=0) rfl,rfl,_,rfl,ite2 (λ U=>?_) (λ c=>absurd (lV rfl) c)⟩;refine⟨_,rfl,dk,rfl,.inl ⟨_,.inl edk2⟩,_,rfl,b2,_,1,_,rfl,rfl,SqT.of hb2,zAI (j:=1) rfl,_,DGet.k (k:=Sum.inr h) edk2,?_⟩;rw[ez];refine⟨sz,_,rfl,ite2 (λ c=>?_) (λ c=>?_)⟩
     ·have nk:(h,("number" : Str))∉ks:=λ w=>by
       rw[hz.mpr w] at c;simp at c
      exact q true H4 (g1.trans g2) ⟨λ U=>⟨_,lN eq,gx,as,rfl,_,lN eat,h,rfl,nk⟩,λ U=>rfl⟩
     ·refine⟨_,rfl,rfl,next λ w=>?_⟩
      obtain⟨h',e',n'⟩:=w;cases e';refine c ?_;rw[Bool.not_eq_true',decide_eq_false_iff_not];exact λ w=>n' (hz.mp w)
    ·refine⟨_,rfl,b2,_,0,_,rfl,rfl,SqT.of hb2,zAI (j:=0) rfl,rfl,_,rfl,ite2 (λ c=>absurd (V.str.inj (lU c)) hkk) (λ U=>iteF ⟨_,rfl,rfl,next λ w=>?_⟩)⟩
     obtain⟨h',e',_⟩:=w;rw[e'] at hag;cases hag
   ·rintro σ2 H4 ⟨s4,rfl,rfl,hm⟩
    rw[List.take_of_length_le (by omega)] at hm;refine⟨_,_,rfl,rfl,λ y hy=>?_⟩;rw[zAM eq] at hy;rcases lK.mp hy with z|z
    ·exact hn y z
    ·rw[List.mem_singleton.mp z]
     rintro⟨g',as',e',a',ha,hb⟩;cases e';exact hm a' ha hb
  |bin o a b=>cases o<;>cases hgap
  |_=>cases hgap
 ·rintro σ1 H3 ⟨s2,s3,rfl,rfl,hn⟩
  rw[List.take_of_length_le (by omega)] at hn;exact q false H3 (g1.trans g2) ⟨(λ z=>by cases z),λ⟨k,hk,hb⟩=>absurd hb (hn k hk)⟩
abbrev zBh:Stmt:=top 24
theorem zEC:zAY ["gap"] ["gap"] (zAJ zBh):=by nofun
abbrev zBv:Stmt:=top 27
theorem zET:zAY ["rule"] ["rule"] (zAJ zBv):=by nofun
noncomputable def zME:Sp:=λ vs H Q U=>∃(g:Str) (as:List Atom) (v:V),vs=[v]/\Rep H (.gap g as) v/\as.length<=1/\∀(z:Bool) (H':Hp),Same H H'->(z=true↔noPc as)->Q (.bl z) H'
theorem zN7 {k:Nat}{f:Addr}{fd:FuncData}(F:Fun K "tells_no_piece" "tells_no_piece" zBh f fd) (z_any:mg "any" = none) (z_len:mg "len" = none) (z_set:mg "set" = none):FnOk P w K mg base CX0 (k+1) f fd ["gap"] zME:=by
 refine F.ok zEC (λ vs H Q E h=>?_) (λ cdv A outer s H vs Q E hr h=>?_)
 ·obtain⟨g,as,v,rfl,_⟩:=h
  rfl
 obtain⟨g,as,v,rfl,hR,hl,q⟩:=h;have hu9:=hu150 hr;refine⟨_,(zAF (zAS (pe_or (zA6 op_lt (zIl hu9 rfl (by rfl) z_len (by rfl) z_set (zAA (iC (r:=rIxT K) zAL (pv 0)) zAD)) (zAX zAa (by rfl) z_len PySem.boot_len (zAA (iC (r:=rIxT K) zAL (pv 0)) zAD)) (zAZ _)) (zCq (zAX (zCT rfl) (by rfl) z_any PyProof.Rows.boot_any (zAA (zAs ["atom"] [none] rfl (zBG (iC (r:=rIxT K) zAL (pv 0))) (λ U U U U U=>(zAK (i:=0) (show List.Nodup (["atom"]:List Str) by decide +kernel) rfl (Or.inl rfl))) (λ U U U U U=>zBQ) (λ U U U U U=>(zA6 op_ne (iC (r:=rIxT K) zAL (pv 0)) zAd (zAZ _))) rfl) zAD)))))),?_⟩
 try dsimp only[cxOf,Cx.nox]
 obtain⟨pa,b',us2,rfl,ha',hb',hl2,pas⟩:=hR;have las:us2.length=as.length:=zAH pas;refine⟨_,rfl,pa,_,2,_,rfl,rfl,SqT.of ha',zAI (j:=2) rfl,b',as.map dtA,rfl,.tup hb' (zMe pas),by rw[List.length_map];exact hl,λ x hx=>?_,_,rfl,pa,_,2,_,rfl,rfl,SqT.of ha',zAI (j:=2) rfl,b',_,rfl,.inr (SqT.of hb'),_,_,rfl,rfl,?_⟩
 ·obtain⟨a,_,rfl⟩:=mE.mp hx
  exact zNV a
 refine⟨_,rfl,ite2 (λ c=>?_) (λ c=>?_)⟩
 ·have:=lU c
  rw[List.length_map] at this;omega
 ·refine⟨_,rfl,pa,_,2,_,rfl,rfl,SqT.of ha',zAI (j:=2) rfl,b',rfl,⟨us2,SqT.of hb'⟩,λ acc hacc=>?_⟩
  refine zB4 (xs:=us2) (λ i H'=>Same H H'/\∃bs:List Bool,H' acc=some (.lst (bs.map V.bl))/\bs.length<=i/\(bs.any id=true↔∃a∈as.take i,nmA a=none)) ⟨zAC hacc,[],zAB,lS _,by simp⟩ (λ i H' U h=>SqT.of (h.1 _ _ hb')) ?_ ?_
  ·rintro i x H' hx ⟨g',bs,eb,lb,hb⟩
   obtain⟨at',eat,rat⟩:=zAR pas hx;have hi:i<us2.length:=(lJ.mp hx).1;obtain⟨p2,kk,r,rfl,hp2,hkk⟩:=zNZ rat;refine⟨.skip .nil,_,rfl,p2,_,0,_,rfl,rfl,SqT.of (g' _ _ hp2),zAI (j:=0) rfl,rfl,?_⟩;refine⟨_,eb,zC6 (by rw[List.length_map];omega),zAO g' hacc,bs++[!decide (V.str kk=V.str "name")],?_,by simp;omega,zEZ eat hb ?_⟩
   ·rw[zAB,List.map_append];rfl
   ·rw[Bool.not_eq_true',decide_eq_false_iff_not]
    constructor
    ·intro z
     exact mF λ y=>z (congrArg V.str (hkk.mpr y))
    ·intro z y
     exact hkk.mp (V.str.inj y) z
  ·rintro H5 ⟨g5,bs,eb,lb,hb⟩
   rw[List.take_of_length_le (by omega)] at hb;refine⟨acc,bs,rfl,eb,q _ H5 g5 (hb.trans ?_)⟩;rw[zLe hl]
noncomputable def zJM:Sp:=λ vs H Q U=>∃(t u:Tr) (ks:List (Str × Str)) (p:Addr) (a b c:V),vs=[.ref p]/\RuS H p a b c t u/\(∀x∈t.subs,∀g as,x = .gap g as->as.length<=1)/\RpKs H ks c/\(ks.map (·.1)).Nodup/\ks.length<=60 /\
 ∀(z:Bool) (H':Hp),Same H H'->(z=true↔(∃x∈t.subs,noPcT x)\/zHB (gcnt t) (gcnt t++gcnt u)\/∃g∈u.subs.filter isGap,badP ks g)->Q (.bl z) H'
theorem zNA {k:Nat}{f g1 g2 g3 g4:Addr}{fd gd1 gd2 gd3 gd4:FuncData}(F:Fun K "is_told_wrong" "is_told_wrong" zBv f fd) (z_any:mg "any" = none) (zOg:FnB P w K mg base k "gap_parts" g1 gd1 ["shape"] zFt) (zOj:FnB P w K mg base k "tells_no_piece" g2 gd2 ["gap"] zME)
  (zOk:FnB P w K mg base k "has_unlike_counts" g3 gd3 ["rule"] zGZ) (zOl:FnB P w K mg base k "has_no_number_atom" g4 gd4 ["rule"] zHy):FnOk P w K mg base CX0 (k+1) f fd ["rule"] zJM:=by
 refine F.ok zET (λ vs H Q E h=>?_) (λ cdv A outer s H vs Q E hr h=>?_)
 ·obtain⟨t,u,ks,p,a,b,c,rfl,_⟩:=h
  rfl
 obtain⟨t,u,ks,p,a,b,c,rfl,hS,h4,hK,nd,lk,q⟩:=h;have hu:=hu_of hr
 refine⟨_,(zAE (ps_if (zBR (zAX (zCT rfl) (by rfl) z_any PyProof.Rows.boot_any (zAA (zAs ["part"] [none] rfl (zA4 (pe_cl zOg hr (zAA (iC (r:=rIxT K) zAL (pv 0)) zAD))) (λ U U U U U=>(zAK (i:=0) (show List.Nodup (["part"]:List Str) by decide +kernel) rfl (Or.inl rfl))) (λ U U U U U=>zBQ) (λ U U U U U=>(pe_cl zOj hr (zAA (pv 0) zAD))) rfl) zAD))) (zAF (zAS pe_bl)) zAU)
  (zAF (zAS (pe_or (pe_cl zOk hr (zAA (pv 0) zAD)) (zCq (pe_cl zOl hr (zAA (pv 0) zAD))))))),?_⟩
 try dsimp only[cxOf,Cx.nox]
 refine⟨_,rfl,p,_,0,_,rfl,rfl,SqT.of hS.hp,zAI (j:=0) rfl,t,a,rfl,hS.ra,hS.st,λ l vs H2 g2 hln el pF=>⟨l,rfl,⟨vs,SqL.of el⟩,λ acc hacc=>?_⟩⟩;have lv:vs.length=(t.subs.filter isGap).length:=zAH pF
 have lf:(t.subs.filter isGap).length<=60:=by
  have:=List.length_filter_le isGap t.subs;rw[zCw] at this;have:=hS.st;omega
 refine zBZ (xs:=vs) (λ i H'=>Same H2 H'/\∃bs:List Bool,H' acc=some (.lst (bs.map V.bl))/\bs.length<=i/\(bs.any id=true↔∃x∈(t.subs.filter isGap).take i,noPcT x)) ⟨zAC hacc,[],zAB,lS _,by simp⟩ (λ i H' U h=>SqL.of (h.1 _ _ el)) ?_ ?_
 ·rintro i x H' hx ⟨g',bs,eb,lb,hb⟩
  obtain⟨tq,eq,rq⟩:=zAR pF hx;have hi:i<vs.length:=(lJ.mp hx).1;have hmem:=List.mem_filter.mp (lN eq);have hgap:tq.kd = .gap:=lU hmem.2;cases tq with
  |gap gx as =>
   refine⟨.skip .nil,_,rfl,gx,as,x,rfl,rq.mono g'.tk,h4 _ hmem.1 gx as rfl,λ z H6 g6 hz=>?_⟩;have g7:=g'.trans g6;refine⟨_,g6 _ _ eb,zC6 (by rw[List.length_map];omega),zAO g7 hacc,bs++[z],?_,by simp;omega,zEZ eq hb (hz.trans ?_)⟩
   ·rw[zAB,List.map_append];rfl
   ·exact⟨λ h=>⟨gx,as,rfl,h⟩,λ⟨_,_,e,h⟩=>by cases e;exact h⟩
  |bin o a b=>cases o<;>cases hgap
  |_=>cases hgap
 ·rintro H5 ⟨g5,bs,eb,lb,hb⟩
  rw[List.take_of_length_le (by omega)] at hb;have hb':bs.any id=true↔∃x∈t.subs,noPcT x:=hb.trans ⟨λ⟨x,hx,h⟩=>⟨x,(List.mem_filter.mp hx).1,h⟩,λ⟨x,hx,h⟩=>⟨x,List.mem_filter.mpr ⟨hx,by obtain⟨g,as,rfl,_⟩:=h;exact lV rfl⟩,h⟩⟩;have g25:=g2.trans g5;refine⟨acc,bs,rfl,eb,_,rfl,ite2 (λ c1=>?_) (λ c1=>?_)⟩
  ·exact q true H5 g25 ⟨λ U=>.inl (hb'.mp c1),λ U=>rfl⟩
  ·have hS5:=hS.mono g25.tk
   refine⟨_,rfl,t,u,p,a,b,c,rfl,hS5,λ z H6 g6 hz=>⟨_,rfl,ite2 (λ c2=>?_) (λ c2=>?_)⟩⟩
   ·exact q _ H6 (g25.trans g6) ⟨λ U=>.inr (.inl (hz.mp c2)),λ U=>rfl⟩
   ·refine⟨_,rfl,t,u,ks,p,a,b,c,rfl,hS5.mono g6.tk,hK.mono (g25.trans g6),nd,lk,λ z2 H7 g7 hz2=>q _ H7 (g25.trans (g6.trans g7)) (hz2.trans ⟨λ h=>.inr (.inr h),λ h=>?_⟩)⟩
    rcases h with h|h|h
    ·exact absurd (hb'.mpr h) c1
    ·exact absurd (hz.mpr h) c2
    ·exact h
noncomputable abbrev zAv:Stmt:=zNN (top 2) 0
theorem zDn:zAY ["self", "why"] ["self", "why"] (zAJ zAv):=by nofun
abbrev zJU:Stmt:=top 32
theorem zHL:zAY ["rule", "why", "is_due"] ["rule"] (zAJ zJU):=by nofun
noncomputable def zMF (D:Addr):Sp:=λ vs H Q U=>∃(ea:Addr) (x:Str),vs=[.ref ea,.str x]/\H ea=some (exN ea D)/\x.length<=1000/\∀dx,H dx=none->dx≠ea->Q .non (upd (upd H dx (.xd [("why", .str x)])) ea (exW ea D dx))
theorem zN8 {k:Nat}{f D R:Addr}{fd:FuncData}(F:Fun K "__init__" "NoRule.__init__" zAv f fd) (zOm:mg "RecastError" = some (.ref R)) (XS:XSup K R) (C:W.Exc3 K D R f) (hv:W.mroIn K D (.type "ValueError")=some true) (hna:W.findIn K (.ref D) "why" = some none) :
  FnOk P w K mg base CX0 (k+1) f fd ["self", "why"] (zMF D):=by
 refine F.ok zDn (λ vs H Q E h=>?_) (λ cdv A outer s H vs Q E hr h=>?_)
 ·obtain⟨ea,x,rfl,_⟩:=h
  rfl
 obtain⟨ea,x,rfl,hea,hx,q⟩:=h;refine⟨_,(zAE (zAt (zLI (zBz (v:=.ref _) (by rfl) zOm (by rfl)) XS C.toExc2 hv (zAA (pv 0) (zAA (zM0 (pv 1)) zAD)))) (zAF (zMt (pv 0) (pv 1) C.toExc2 C.ob hna rfl))),?_⟩;refine⟨rfl,_,rfl,_,rfl,x,rfl,mI (Nat.add_le_add (show ((Str.ofString "this is no rule: ").length<=1000) by decide +kernel) hx) (by decide),ea,_,rfl,hea,?_⟩;exact⟨_,rfl,_,rfl,ea,rfl,hea,λ dx h1 h2=>q dx h1 h2⟩
structure RuR (H:Hp) (p:Addr) (t u:Tr) (ks:List (Str × Str)):Prop where
 ru:∃a b c,RuS H p a b c t u/\RpKs H ks c
 h4:∀x∈t.subs,∀g as,x = .gap g as->as.length<=1
 nd:(ks.map (·.1)).Nodup
 lk:ks.length<=60
 ws:∃ws:List Str,ws.length<64/\(∀x∈t.fv [],x∈ws)/\(∀x∈u.fv [],x∈ws)
theorem RuR.mono {H H':Hp}{p:Addr}{t u:Tr}{ks:List (Str × Str)}(h:RuR H p t u ks) (g:Same H H'):RuR H' p t u ks :=
 ⟨let ⟨a,b,c,x,y⟩:=h.ru;⟨a,b,c,x.mono g.tk,y.mono g⟩,h.h4,h.nd,h.lk,h.ws⟩
noncomputable def zEL (R:RP):Sp:=λ vs H Q U=>∃(p:Addr) (t u:Tr) (ks:List (Str × Str)),vs=[.ref p]/\RuR H p t u ks/\∀(z:Bool) (H':Hp),Same H H'->(z=true↔R t u ks)->Q (.bl z) H'
structure DueF (P:Program) (w:World) (K:W.Frag) (mg:Str->Option Value) (base:Heap) (k:Nat) (f:Addr) (R:RP):Prop where
 ok:∃fd,FnOk P w K mg base CX0 k f fd ["rule"] (zEL R)/\Binds K fd ["rule"] []
 kp:W.keepIn K (.ref f)=true
noncomputable def zHE (D:Addr):Sp:=λ vs H Q E=>∃(p:Addr) (t u:Tr) (ks:List (Str × Str)),vs=[.ref p]/\RuR H p t u ks/\∀r,Due t u ks zAr r ->
 match r with
 |none=>∀H',Same H H'->Q .non H'
 |some x=>∀dx H',Same H H'->H' dx=some (.xd [("why", .str x)])->E (.ref D) (some dx) H'
theorem zNH {k:Nat}{f fi D R la:Addr}{fd fdi:FuncData}{as fs:List Addr}(F:Fun K "form" "form" zJU f fd) (zOn:mg "REASONS" = some (.ref la)) (zOo:mg "NoRule" = some (.ref D)) (hL:TupK K la (as.map V.ref)) (hin:Paired (λ(a:Addr) (q:(Str × RP) × Addr)=>TupK K a [.str q.1.1,.ref q.2]) as (zAr.zip fs)) (hfs:fs.length=7)
  (hdue:∀q∈zAr.zip fs,DueF P w K mg base k q.2 q.1.2) (C:W.Exc3 K D R fi) (hkp:W.keepIn K (.ref D)=true) (zOp:∃j,j+1=k/\FnOk P w K mg base CX0 j fi fdi ["self", "why"] (zMF D)) (hbi:Binds K fdi ["self", "why"] []) :
  FnOk P w K mg base (CXG P w) (k+1) f fd ["rule"] (zHE D):=by
 refine F.okG zHL (λ vs H Q E h=>?_) (λ cdv A outer s H vs Q E hr h=>?_)
 ·obtain⟨p,t,u,ks,rfl,_⟩:=h
  rfl
 obtain⟨p,t,u,ks,rfl,hR,q⟩:=h;obtain⟨j,rfl,hI⟩:=zOp
 refine⟨_,(zAF (zAo zN6 rfl (zBG (zBz (v:=.ref _) (by rfl) zOn (by rfl))) (zB7 rfl (zAc (zAK (i:=1) zHL.nd rfl (Or.inl rfl)) (zAc (zAK (i:=2) zHL.nd rfl (Or.inl rfl)) zBB)))
  (zAF (ps_if (zBR (zLK (pv 2) hr (zAA (pv 0) zAD))) (zAF (zJW (by rfl) zOo C hI hr hbi hkp (zAA (pv 1) zAD))) zAU)))),?_⟩
 refine⟨la,rfl,⟨_,hL.sq⟩,?_⟩;have lz:(zAr.zip fs).length=7:=by rw[List.length_zip,hfs];rfl
 have las:as.length=7:=by rw[zJb hin,lz]
 refine zBW (xs:=as.map V.ref) (λ i σ' H'=>∃(s1 s2:Option V),σ'=[some (.ref p),s1,s2]/\Same H H'/\∀r,Due t u ks (zAr.drop i) r->Due t u ks zAr r) ⟨none,none,rfl,Same.refl _,λ r h=>h⟩ (λ i σ' H' _ h=>hL.sq) ?_ ?_
 ·rintro i x σ1 H1 hx ⟨s1,s2,rfl,g1,hd⟩
  rw[List.getElem?_map] at hx;obtain⟨ai,ha,rfl⟩:=lW.mp hx;obtain⟨qi,hq,hT⟩:=zEn hin ha;obtain⟨⟨wy,Rp⟩,fi2⟩:=qi
  have hq1:zAr[i]?=some (wy,Rp):=by
   rw[List.getElem?_zip_eq_some] at hq;exact hq.1
  have hdrop:zAr.drop i=(wy,Rp)::zAr.drop (i+1):=by
   have hi:=(lJ.mp hq1);rw[List.drop_eq_getElem_cons hi.1,hi.2]
  obtain⟨⟨fdd,hF,hB⟩,hk2⟩:=hdue _ (lN hq)
  have hwl:wy.length<=1000:=by
   have hm:=lN hq1;simp only[zAr,List.mem_cons,List.mem_nil_iff,or_false,Prod.mk.injEq] at hm;rcases hm with ⟨rfl,_⟩|⟨rfl,_⟩|⟨rfl,_⟩|⟨rfl,_⟩|⟨rfl,_⟩|⟨rfl,_⟩|⟨rfl,_⟩<;>decide +kernel
  refine⟨ai,_,rfl,hT.sq,rfl,_,_,rfl,_,_,rfl,rfl,?_⟩;refine⟨_,rfl,fi2,fdd,["rule"],_,rfl,hF,hB,hk2,_,rfl,p,t,u,ks,rfl,hR.mono g1,λ z H2 g2 hz=>⟨_,rfl,ite2 (λ c=>?_) (λ c=>?_)⟩⟩
  ·have hdue2:=hd (some wy) (by rw[hdrop];exact .yes (hz.mp c))
   have hE:=q (some wy) hdue2;refine⟨_,rfl,(show 1<=sizeLine by decide),λ ea hea=>⟨ea,wy,rfl,zAB,hwl,λ dx h1 h2=>⟨rfl,dx,zAB,hE dx _ ?_ ?_⟩⟩⟩
   ·intro b o e
    have e2:=(g1.trans g2) b o e;have nb:b≠ea:=λ z=>by rw[z,hea] at e2;cases e2
    rw[zAW h2] at h1;have nd:b≠dx:=λ z=>by rw[z,h1] at e2;cases e2
    rw[zB3 nb,zAW nb,zAW nd,zAW nb];exact e2
   ·rw[zB3 h2,zAW h2,zAB]
  ·exact⟨_,_,rfl,g1.trans g2,λ r h=>hd r (by rw[hdrop];exact .no (λ y=>c (hz.mpr y)) h)⟩
 ·rintro σ1 H1 ⟨s1,s2,rfl,g1,hd⟩
  have:=hd none (by rw[List.length_map,las];exact .nil);exact q none this H1 g1
abbrev zEE:Stmt:=top 6
theorem zHK:zAY ["value"] ["value"] (zAJ zEE):=by nofun
abbrev zCz:Stmt:=top 38
theorem zFx:zAY ["value", "most"] ["value", "most"] (zAJ zCz):=by nofun
abbrev zCH:Stmt:=top 39
theorem zEg:zAY ["row", "many"] ["row", "many"] (zAJ zCH):=by nofun
abbrev zCf:Stmt:=top 40
theorem zDP:zAY ["scale", "sign"] ["scale"] (zAJ zCf):=by nofun
noncomputable def zEd:Sp:=λ vs H Q U=>∃i:Int,vs=[.int i]/\Q (.bl true) H
theorem zHW {k:Nat}{f:Addr}{fd:FuncData}(F:Fun K "is_whole" "is_whole" zEE f fd) (z_isinstance:mg "isinstance" = none) (z_int:mg "int" = none) (z_bool:mg "bool" = none):FnOk P w K mg base CX0 (k+1) f fd ["value"] zEd:=by
 refine F.ok zHK (λ vs H Q E h=>?_) (λ cdv A outer s H vs Q E hr h=>?_)
 ·obtain⟨i,rfl,_⟩:=h
  rfl
 obtain⟨i,rfl,q⟩:=h;refine⟨_,(zAF (zAS (zDv (zAX zBp (by rfl) z_isinstance PyProof.Rows.boot_isinstance (zAA (pv 0) (zAA (zCK (v:=.ty _) (by rfl) z_int PyProof.Rows.boot_int (by rfl)) zAD))) (zCq (zIC (zAX zBp (by rfl) z_isinstance PyProof.Rows.boot_isinstance (zAA (pv 0) (zAA (zCK (v:=.ty _) (by rfl) z_bool PyProof.Rows.boot_bool (by rfl)) zAD)))))))),?_⟩
 try dsimp only[cxOf,Cx.nox]
 refine⟨_,rfl,_, "int", _,true,rfl,.int i,rfl,true,rfl,?_⟩;exact⟨_,rfl,_, "bool", _,false,rfl,.int i,rfl,false,rfl,q⟩
noncomputable def zDl:Sp:=λ vs H Q U=>∃i m:Int,vs=[.int i,.int m]/\1<=i/\i<=m/\Q (.bl true) H
theorem zF6 {k:Nat}{f g1:Addr}{fd gd1:FuncData}(F:Fun K "is_between" "is_between" zCz f fd) (zOq:FnB P w K mg base k "is_whole" g1 gd1 ["value"] zEd):FnOk P w K mg base CX0 (k+1) f fd ["value", "most"] zDl:=by
 refine F.ok zFx (λ vs H Q E h=>?_) (λ cdv A outer s H vs Q E hr h=>?_)
 ·obtain⟨i,m,rfl,_⟩:=h
  rfl
 obtain⟨i,m,rfl,h1,h2,q⟩:=h;refine⟨_,(zAF (zAS (zDv (pe_cl zOq hr (zAA (pv 0) zAD)) (zCq (zLJ op_le op_le zAG (pv 0) (pv 1)))))),?_⟩
 try dsimp only[cxOf,Cx.nox]
 refine⟨_,rfl,i,rfl,true,rfl,?_⟩;refine⟨_,rfl,_,_,rfl,rfl,_,rfl,iteY h1 ?_⟩;refine⟨_,rfl,_,_,rfl,rfl,?_⟩;show Q (.bl (decide (i<=m))) H;rw[decide_eq_true h2];exact q
noncomputable def zCu:Sp:=λ vs H Q U=>∃(a:Addr) (k:Kd) (r:List Nat),vs=[.ref a,.int (k.many:Int)]/\H a=some (.tup (natV r))/\zDi k r/\∀H',Same H H'->Q (.bl true) H'
theorem zL8 (n:Nat):(List.replicate n true).all id=true:=by simp
theorem zEv {k:Nat}{f g1:Addr}{fd gd1:FuncData}{t1 t2:Tok}(F:Fun K "is_scale_row" "is_scale_row" zCH f fd) (z_isinstance:mg "isinstance" = none) (z_tuple:mg "tuple" = none) (z_len:mg "len" = none) (z_all:mg "all" = none)
  (zOr:mg "MOST_OWN" = some (.int 9 t1)) (zOs:mg "MOST_TIMES" = some (.int 3 t2)) (zOt:FnB P w K mg base k "is_between" g1 gd1 ["value", "most"] zDl):FnOk P w K mg base CX0 (k+1) f fd ["row", "many"] zCu:=by
 refine F.ok zEg (λ vs H Q E h=>?_) (λ cdv A outer s H vs Q E hr h=>?_)
 ·obtain⟨a,kd,r,rfl,_⟩:=h
  rfl
 obtain⟨a,kd,r,rfl,ha,gr,q⟩:=h
 refine⟨_,(zAE (ps_if (pw_or (zDq (zBR (zAX zBp (by rfl) z_isinstance PyProof.Rows.boot_isinstance (zAA (pv 0) (zAA (zCK (v:=.ty _) (by rfl) z_tuple PyProof.Rows.boot_tuple (by rfl)) zAD))))) (zFX (zAN op_ne (zAX zAa (by rfl) z_len PySem.boot_len (zAA (pv 0) zAD)) (pe_op zB9 (pv 1) zAG) (zAZ _)))).pt (zAF (zAS pe_bl)) zAU)
  (zAF (zAS (zDv (pe_cl zOt hr (zAA (iC (r:=rIxT K) zAL (pv 0)) (zAA (zBz (v:=.int 9) (by rfl) zOr ⟨_,rfl⟩) zAD))) (zCq (zAX (zG2 rfl) (by rfl) z_all PyProof.Rows.boot_all (zAA (zAs ["times"] [none] rfl (zBG (zBU (r:=rSlT K) zJQ (pv 0) (zBj zAG) zBy)) (λ U U U U U=>(zAK (i:=0) (show List.Nodup (["times"]:List Str) by decide +kernel) rfl (Or.inl rfl))) (λ U U U U U=>zBQ) (λ U U U U U=>(pe_cl zOt hr (zAA (pv 0) (zAA (zBz (v:=.int 3) (by rfl) zOs ⟨_,rfl⟩) zAD)))) rfl) zAD))))))),?_⟩
 try dsimp only[cxOf,Cx.nox]
 obtain⟨c,ks,rfl⟩:∃c ks,r=c::ks:=by
  cases r with
  |nil=>have:=gr.ln;simp at this
  |cons c ks=>exact⟨c,ks,rfl⟩
 have hln:ks.length=kd.many:=by have:=gr.ln;simpa using this
 have ha':H a=some (.tup (V.int (c:Int)::natV ks)):=ha;refine⟨_,rfl,_, "tuple", _,true,rfl,.tup ha',rfl,_,rfl,iteF ?_⟩;refine⟨_,rfl,a,_,rfl,.inr (SqT.of ha'),_,rfl,_,_,rfl,rfl,rfl,_,rfl,iteNS ?_ ?_⟩
 ·rw[List.length_cons,zDx,hln]
  rfl
 have c1:(1:Int)<=(c:Int):=by have:=gr.c1;simp at this;omega
 have c9:(c:Int)<=9:=by have:=gr.c9;simp at this;omega
 refine⟨_,rfl,a,_,0,_,rfl,rfl,SqT.of ha',zAI (j:=0) rfl,_,_,rfl,c1,c9,true,rfl,?_⟩;refine⟨_,rfl,1,rfl,a,_,rfl,SqT.of ha',zIU _ _,λ p hp=>?_⟩;rw[cut1];refine⟨p,rfl,⟨_,SqT.of zAB⟩,λ acc hacc=>?_⟩;have g1:=zAC (o:=.tup (natV ks)) hp;have ep:(upd H p (.tup (natV ks))) p=some (.tup (natV ks)):=zAB;generalize upd H p (.tup (natV ks))=H1 at g1 ep hacc ⊢;refine zB4 (xs:=natV ks) (λ i H'=>Same H1 H'/\H' acc=some (.lst ((List.replicate i true).map V.bl))) ⟨zAC hacc,zAB⟩ (λ i H' U h=>SqT.of (h.1 _ _ ep)) ?_ ?_
 ·rintro i x Hx hx ⟨gx,ex⟩
  obtain⟨n,hn,rfl⟩:∃n,ks[i]?=some n/\x=V.int (n:Int):=by
   unfold natV at hx;rw[List.getElem?_map] at hx;obtain⟨n,h1,h2⟩:=lW.mp hx;exact⟨n,h1,h2.symm⟩
  have hb:=gr.ks n (by simpa using lN hn);have hi:i<ks.length:=(lJ.mp hn).1;have hm3:=zJ5 kd;refine⟨.skip .nil,_,rfl,_,_,rfl,by omega,by omega,_,ex,zAQ (by simp;omega),zAO gx hacc,?_⟩;rw[zAB,List.replicate_succ',List.map_append];rfl
 rintro H2 ⟨g2,e2⟩;refine⟨acc,_,rfl,e2,?_⟩;rw[zL8];exact q H2 (g1.trans g2)
noncomputable def zCC:Sp:=λ vs H Q U=>∃(d:Addr) (rs:Scl),vs=[.ref d]/\ScAt H d rs/\∀H',Sf H H'->Q .non H'
theorem zFN {k:Nat}{f g1 md:Addr}{fd gd1:FuncData}(F:Fun K "check_scale" "check_scale" zCf f fd) (z_isinstance:mg "isinstance" = none) (z_dict:mg "dict" = none)
  (zOu:mg "MANY_PARTS" = some (.ref md)) (h_MANY_PARTS:KDic K w.params md) (hM:ManyK K md) (zOv:FnB P w K mg base k "is_scale_row" g1 gd1 ["row", "many"] zCu):FnOk P w K mg base CX0 (k+1) f fd ["scale"] zCC:=by
 refine F.ok zDP (λ vs H Q E h=>?_) (λ cdv A outer s H vs Q E hr h=>?_)
 ·obtain⟨d,rs,rfl,_⟩:=h
  rfl
 obtain⟨d,rs,rfl,⟨kvs,sc⟩,q⟩:=h;have hu:=hu_of hr
 refine⟨_,(zAE (ps_if (zDq (zBR (zAX zKr (by rfl) z_isinstance PyProof.Rows.boot_isinstance (zAA (pv 0) (zAA (zCK (v:=.ty _) (by rfl) z_dict PyProof.Rows.boot_dict (by rfl)) zAD))))) (zAF zF0) zAU)
  (zAF (zAo PassesOwn.never rfl (zHR (pv 0)) (zAK (i:=1) zDP.nd rfl (Or.inl rfl)) (zAE (ps_if (zAN (zJk h_MANY_PARTS) (pv 1) (zBz (v:=.ref _) (by rfl) zOu (by rfl)) rfl) (zAF zF0) zAU)
  (zAF (ps_if (zDq (zBR (pe_cl zOv hr (zAA (zC4 hu (pv 0) (pv 1) (λ U U=>rfl)) (zAA (pe_ix (ix_kd h_MANY_PARTS) (zBz (v:=.ref _) (by rfl) zOu (by rfl)) (pv 1) (λ U U=>rfl)) zAD))))) (zAF zF0) zAU)))))),?_⟩
 try dsimp only[cxOf,Cx.nox]
 refine⟨_,rfl,d,kvs, "dict", true,rfl,sc.rd,rfl,_,rfl,iteF ?_⟩;refine⟨_,rfl,d,kvs,rfl,?_⟩;have hrd:=sc.rd;rcases hrd with e|⟨o,e⟩
 ·refine .inr ⟨e,λ o=>?_⟩
  have gf:=Sf.frz o e;have ef:(upd H d (.frz o (.dK kvs))) d=some (.frz o (.dK kvs)):=zAB;generalize upd H d (.frz o (.dK kvs))=H1 at gf ef ⊢;have sc1:=sc.mono gf;refine zIQ (o:=o) (a:=d) (kvs:=kvs) (λ i σ' H'=>∃s1,σ'=[some (.ref d),s1]/\Same H1 H') ⟨none,rfl,.refl _⟩ ?_ ?_ ?_
  ·rintro i σ' H' _ ⟨s1,rfl,g⟩
   exact g _ _ ef
  ·rintro i p σ' H' hp ⟨s1,rfl,g⟩
   have sc2:=sc1.mono g.sf;obtain⟨⟨kd,r⟩,hr2,gr,e1,b,e2,hb⟩:=zCj sc2.ps hp;obtain⟨p1,p2⟩:=p;dsimp only at e1 e2 gr hb;subst e1 e2;obtain⟨tk,hm⟩:=hM kd gr.lf;have gv:DGet H' d (.str kd.s) (some (.ref b)):=.inl ⟨kvs,Sum.inr kd.s,sc2.rd,rfl,(zHm sc2.nd hp).symm⟩;refine⟨_,rfl,kd.s,_,rfl,rfl,hm,_,rfl,iteF ?_⟩;refine⟨_,rfl,_,rfl,d,_,rfl,gv,?_⟩;refine⟨_,rfl,kd.s,_,.int (kd.many:Int),rfl,rfl,hm,⟨tk,rfl⟩,b,kd,r,rfl,hb,gr,λ H2 g2=>⟨_,rfl,iteF ⟨_,rfl,g.trans g2⟩⟩⟩
  ·rintro σ' H' ⟨s1,rfl,g⟩
   exact q H' (gf.trans g.sf)
 ·refine .inl ⟨o,e,?_⟩
  have gf:=Sf.refl H;have ef:=e;have sc1:=sc.mono gf;refine zIQ (o:=o) (a:=d) (kvs:=kvs) (λ i σ' H'=>∃s1,σ'=[some (.ref d),s1]/\Same H H') ⟨none,rfl,.refl _⟩ ?_ ?_ ?_
  ·rintro i σ' H' _ ⟨s1,rfl,g⟩
   exact g _ _ ef
  ·rintro i p σ' H' hp ⟨s1,rfl,g⟩
   have sc2:=sc1.mono g.sf;obtain⟨⟨kd,r⟩,hr2,gr,e1,b,e2,hb⟩:=zCj sc2.ps hp;obtain⟨p1,p2⟩:=p;dsimp only at e1 e2 gr hb;subst e1 e2;obtain⟨tk,hm⟩:=hM kd gr.lf;have gv:DGet H' d (.str kd.s) (some (.ref b)):=.inl ⟨kvs,Sum.inr kd.s,sc2.rd,rfl,(zHm sc2.nd hp).symm⟩;refine⟨_,rfl,kd.s,_,rfl,rfl,hm,_,rfl,iteF ?_⟩;refine⟨_,rfl,_,rfl,d,_,rfl,gv,?_⟩;refine⟨_,rfl,kd.s,_,.int (kd.many:Int),rfl,rfl,hm,⟨tk,rfl⟩,b,kd,r,rfl,hb,gr,λ H2 g2=>⟨_,rfl,iteF ⟨_,rfl,g.trans g2⟩⟩⟩
  ·rintro σ' H' ⟨s1,rfl,g⟩
   exact q H' (gf.trans g.sf)
abbrev zBu:Stmt:=top 41
theorem zAl:zAY ["tree", "scale", "found", "level", "deeper", "part", "weight", "row"] ["tree", "scale"] (zAJ zBu):=by nofun
abbrev zHN:Stmt:=top 42
theorem zK9:zAY ["tree", "scale"] ["tree", "scale"] (zAJ zHN):=by nofun
noncomputable def zD8:Sp:=λ vs H Q U=>∃(t:Tr) (v:V) (d:Addr) (rs:Scl),vs=[v,.ref d]/\Rep H t v/\ScAt H d rs/\t.size<=300 /\
 ∀(l:Addr) (us:List V) (F:List TW) (H':Hp),Same H H'->H' l=some (.lst us)->Paired (PWt H') F us->(∀β,sumCB β F=wB (rowF rs) β t)->F.length<=300->(∀p∈F,Wb 300 p)->Q (.ref l) H'
theorem zIo {k:Nat}{f g1 oa:Addr}{fd gd1:FuncData}(F:Fun K "weighed_parts" "weighed_parts" zBu f fd) (z_zip:mg "zip" = none) (zOw:mg "ONES" = some (.ref oa)) (hO:OnesK K oa)
  (zOY:FnB P w K mg base k "parts" g1 gd1 ["tree"] zAu):FnOk P w K mg base CX0 (k+1) f fd ["tree", "scale"] zD8:=by
 refine F.ok zAl (λ vs H Q E h=>?_) (λ cdv A outer s H vs Q E hr h=>?_)
 ·obtain⟨t,v,d,rs,rfl,_⟩:=h
  rfl
 obtain⟨t,v,d,rs,rfl,hR,⟨kvs,sc⟩,hsz,q⟩:=h;have hu:=hu_of hr;have gF:GoodF (rowF rs):=zDo (zE8 sc.ps)
 refine⟨_,(zAE (zAV (i:=2) zAl.nd rfl (Or.inl rfl) (zA2 zAD:PE _ _ _))
  (zAE (zAV (i:=3) zAl.nd rfl (Or.inl rfl) (zA2 (zAA (zAj (zAA (pv 0) (zAA zAG zAD)):PE _ _ _) zAD):PE _ _ _))
  (zAE (zDs PassesOwn.never (zDp (pv 3) (λ U=>rfl)) (zAE (zAt (pe_bm PySem.F.plainAttrs_list PySem.F.slot_list_extend PySem.F.type_list_extend zB2 (pv 2) (zAA (pv 3) zAD)))
  (zAE (zAV (i:=4) zAl.nd rfl (Or.inl rfl) (zA2 zAD:PE _ _ _))
  (zAE (zAo PassesOwn.never rfl (zA4 (pv 3)) (zB7 rfl (zAc (zAK (i:=5) zAl.nd rfl (Or.inl rfl)) (zAc (zAK (i:=6) zAl.nd rfl (Or.inr rfl)) zBB))) (zAE (zAV (i:=7) zAl.nd rfl (Or.inl rfl) (zDu hu (pv 1) (iC (r:=rIxT K) zAL (pv 5)) (zBz (v:=.ref _) (by rfl) zOw (by rfl)) ⟨rfl,rfl,rfl,rfl⟩))
  (zAF (zAt (pe_bm PySem.F.plainAttrs_list PySem.F.slot_list_extend PySem.F.type_list_extend zB2 (pv 4) (zAA (zAs ["inner", "times", "weight"] [none,none,some 6] rfl (zN0 (by rfl) z_zip (zAA (pe_cl zOY hr (zAA (pv 5) zAD)) (zAA (zBU (r:=rSlT K) zJQ (pv 7) (zBj zAG) zBy) zAD))) (λ U U U U U=>(zF2 (K:=K) (n:=2) rfl rfl (zAc (zAK (i:=0) (show List.Nodup (["inner", "times", "weight"]:List Str) by decide +kernel) rfl (Or.inl rfl)) (zAc (zAK (i:=1) (show List.Nodup (["inner", "times", "weight"]:List Str) by decide +kernel) rfl (Or.inl rfl)) zBB)))) (λ U U U U U=>zBQ) (λ U U U U U=>(zAj (zAA (pv 0) (zAA (pe_op zHT (pv 2) (pv 1)) zAD)):PE _ _ _)) rfl) zAD))))))
  (zAF (zAV (i:=3) zAl.nd rfl (Or.inl rfl) (pv 4)))))))
  (zAF (zAS (pv 2)))))),?_⟩
 try dsimp only[cxOf,Cx.nox]
 have d2:2<=sizeLine:=by decide
 refine⟨(by show 0<=sizeLine;decide),λ fo hfo=>⟨_,rfl,d2,λ pr hpr=>⟨(by show 1<=sizeLine;decide),λ l hl=>?_⟩⟩⟩;have g1:=zAC (o:=.lst []) hfo;have g2:=zAC (o:=.tup [v,.int 1]) hpr;have g3:=zAC (o:=.lst [.ref pr]) hl;have gA:=g1.trans (g2.trans g3);have hlH:H l=none:=(g1.trans g2).free hl;have hlf:l≠fo:=Ne.symm (zAT (g2 _ _ zAB) hl)
 refine⟨λ m σ' H'=>∃(l:Addr) (ls fs:List V) (L Fd:List TW) (s4 s5 s6 s7:Option V),σ'=[some v,some (.ref d),some (.ref fo),some (.ref l),s4,s5,s6,s7]/\Same H H'/\H l=none/\l≠fo/\H' fo=some (.lst fs)/\H' l=some (.lst ls) /\
   Paired (PWt H') Fd fs/\Paired (PWt H') L ls/\m=szZ L/\(∀β,sumCB β Fd+sumSB (rowF rs) β L=wB (rowF rs) β t)/\Fd.length+szZ L<=t.size/\(∀p∈Fd,Wb 300 p)/\(∀p∈L,Wb 300 p),
  ⟨t.size,l,[.ref pr],[],[(t,1)],[],none,none,none,none,rfl,gA,hlH,hlf,g3 _ _ (g2 _ _ zAB),zAB,.nil,.cons ⟨pr,v,rfl,g3 _ _ zAB,hR.mono gA.tk⟩ .nil,by simp[szZ],by intro β;simp[sumCB,sumSB],by simp[szZ],by simp,?_⟩,?_⟩
 ·intro p hp
  have e:=List.mem_singleton.mp hp;subst e;unfold Wb;rw[Nat.one_mul];exact Nat.pow_le_pow_right (by decide) hsz
 rintro m σ' Hw ⟨l,ls,fs,L,Fd,s4,s5,s6,s7,rfl,gw,hl,hlf,ef,el,pF,pL,rfl,hsum,hcnt,wF,wL⟩;have lL:ls.length=L.length:=zAH pL;have lF:fs.length=Fd.length:=zAH pF;have hZ:=zEa (rowF rs) L;refine⟨_,rfl,_,.inl ⟨ls,SqL.of el,rfl⟩,?_⟩;refine ite2 (λ c=>?_) (λ c=>?_)
 ·refine⟨_,λ U U h=>h,?_⟩
  refine⟨_,rfl,.inl ⟨rfl,_,SqL.of ef⟩,_,rfl,fo,l,fs,ls,rfl,rfl,ef,el,zAe (by omega),?_⟩;have ef1:(upd Hw fo (.lst (fs++ls))) fo=some (.lst (fs++ls)):=zAB;have el1:(upd Hw fo (.lst (fs++ls))) l=some (.lst ls):=by rw[zAW hlf];exact el
  have gw1:Same H (upd Hw fo (.lst (fs++ls))):=zAO gw hfo;have tk1:Tk Hw (upd Hw fo (.lst (fs++ls))):=Tk.lst ef;show tSeq _ _ _ _ (upd Hw fo (.lst (fs++ls)));generalize upd Hw fo (.lst (fs++ls))=H1 at ef1 el1 gw1 tk1 ⊢;refine⟨(by show 0<=sizeLine;decide),λ dp hdp=>?_⟩;have g4:=zAC (o:=.lst []) hdp;have hdpH:H dp=none:=gw1.free hdp;have ndf:dp≠fo:=Ne.symm (zAT ef1 hdp);have ndl:dp≠l:=Ne.symm (zAT el1 hdp);refine⟨_,rfl,l,rfl,⟨ls,SqL.of (g4 _ _ el1)⟩,?_⟩
  refine zA9 (xs:=ls) (λ i σ' H'=>∃(dps:List V) (s5 s6 s7:Option V),σ'=[some v,some (.ref d),some (.ref fo),some (.ref l),some (.ref dp),s5,s6,s7]/\Same H H'/\Tk H1 H' /\
   H' fo=some (.lst (fs++ls))/\H' l=some (.lst ls)/\H' dp=some (.lst dps)/\Paired (PWt H') ((L.take i).flatMap (zBH (rowF rs))) dps) ?_ ?_ ?_ ?_
  ·exact⟨[],s5,s6,s7,rfl,gw1.trans g4,g4.tk,g4 _ _ ef1,g4 _ _ el1,zAB,.nil⟩
  ·rintro i σ1 H2 _ ⟨dps,s5,s6,s7,rfl,g5,k5,ef5,el5,ed5,p5⟩
   exact SqL.of el5
  ·rintro i x σ1 H2 hx ⟨dps,s5,s6,s7,rfl,g5,k5,ef5,el5,ed5,p5⟩
   obtain⟨⟨tq,wq⟩,eq,rq⟩:=zAR pL hx;have hmem:(tq,wq)∈L:=lN eq;obtain⟨a,u,rfl,ha,ru⟩:=rq.mono (tk1.trans k5);dsimp only at ha ru;have sc5:=sc.mono g5.sf;obtain⟨o,rp,gv,eo,hrow⟩:=zMH sc5 hO tq.kd;obtain⟨c0,ks,er⟩:=zFz gF tq.kd;obtain⟨pa,hs,us,rfl,hpa,hhl,hparts⟩:=ru.all;have at0:atI (V.str tq.kd.s::hs++us) 0=some (.str tq.kd.s):=zAI (j:=0) rfl;refine⟨a,_,rfl,SqT.of ha,rfl,_,_,rfl,_,_,rfl,rfl,?_⟩;refine⟨_,rfl,d,rfl,.inl ⟨kvs,sc5.rd⟩,_,rfl,pa,_,0,_,rfl,rfl,SqT.of hpa,at0,o,gv,?_⟩;rw[eo];rw[er] at hrow;have hrow':SqT K H2 rp (V.int (c0:Int)::natV ks):=hrow;refine⟨_,rfl,.inl ⟨rfl,_,SqL.of ed5⟩,?_⟩;refine⟨_,rfl,tq,_,rfl,ru,λ pp H3 us3 g6 e6 hus=>?_⟩;have hrow6:SqT K H3 rp (V.int (c0:Int)::natV ks):=zK5 g6 hrow';refine⟨_,rfl,1,rfl,rp,_,rfl,hrow6,zIU _ _,λ pz hpz=>?_⟩;rw[cut1];have g7:=zAC (o:=.tup (natV ks)) hpz;have ez:(upd H3 pz (.tup (natV ks))) pz=some (.tup (natV ks)):=zAB;have ep7:=g7 _ _ e6;have hus7:Paired (Rep (upd H3 pz (.tup (natV ks)))) tq.parts us3:=Paired.mapP hus λ U U z=>z.mono g7.tk;have g57:=g6.trans g7;generalize upd H3 pz (.tup (natV ks))=H4 at g57 ez ep7 hus7 ⊢;refine⟨pp,pz,us3,natV ks,rfl,ep7,ez,λ acc hacc=>?_⟩;have lus:us3.length=tq.parts.length:=zAH hus7
   have lch:(zBH (rowF rs) (tq,wq)).length=min us3.length (natV ks).length:=by
    unfold zBH;rw[List.length_zipWith,lus,zDx];dsimp only;rw[er];rfl
   have wq0:=(wL _ hmem);refine zKk (xs:=us3) (ys:=natV ks) (λ i H'=>Same H4 H'/\∃zs,H' acc=some (.lst zs)/\Paired (PWt H') ((zBH (rowF rs) (tq,wq)).take i) zs) ⟨zAC hacc,[],zAB,by rw[List.take_zero];exact .nil⟩ (λ i H' U h=>⟨h.1 _ _ ep7,h.1 _ _ ez⟩) ?_ ?_
   ·rintro j x y T Hx hx2 hy2 ⟨gx,zs,ezs,pz⟩ hT
    obtain⟨ti,eti,rti⟩:=zAR hus7 hx2;obtain⟨kn,ekn,rfl⟩:=zNJ hy2;have hkn:kn∈(rowF rs tq.kd).drop 1:=by rw[er];exact lN ekn
    have hk3:=(gF.ks _ kn hkn).2;have g8:=zAC (o:=.tup [x,.int (kn:Int)]) hT
    have hj:j<(zBH (rowF rs) (tq,wq)).length:=by
     rw[lch];have a1:=(lJ.mp hx2).1;have a2:=(lJ.mp hy2).1;omega
    have lzs:zs.length<=j:=by rw[zAH pz,List.length_take];omega
    have echild:(zBH (rowF rs) (tq,wq))[j]?=some (ti,wq * kn):=by
     have ekn':((rowF rs tq.kd).drop 1)[j]?=some kn:=by rw[er];exact ekn
     unfold zBH;rw[List.getElem?_zipWith];dsimp only;rw[eti,ekn']
    have hk9:kn<=9:=by omega
    refine⟨T,_,rfl,SqT.of zAB,rfl,_,_,rfl,_,_,rfl,rfl,.skip (.skip (.keep .nil)),?_⟩;refine⟨_,rfl,_,rfl,_,rfl,_,_,rfl,rfl,⟨zIa (wq0.lt (by decide)),zFv hk9⟩,d2,λ pt hpt=>?_⟩;have g9:=zAC (o:=.tup [x,.int ((wq:Int) * (kn:Int))]) hpt;have gz:=gx.trans (g8.trans g9);refine⟨zs,g9 _ _ (g8 _ _ ezs),zAQ (by have:=lus;have hp3:tq.parts.length<=3:=zGl tq;omega),zAO gz hacc,_,zAB,?_⟩;rw[zAM echild];have tk9:Tk Hx _:=g8.tk.trans (g9.tk.trans (Tk.lst (o:=.lst (zs++[.ref pt])) (g9 _ _ (g8 _ _ ezs))));have tk8:Tk _ _:=(Tk.lst (o:=.lst (zs++[.ref pt])) (g9 _ _ (g8 _ _ ezs)));refine zAP (Paired.mapP pz λ U U z=>z.mono tk9) (.cons ⟨pt,x,rfl,tk8 _ _ ?_,rti.mono (gx.tk.trans tk9)⟩ .nil);rw[zAB,Int.natCast_mul]
   rintro H5 ⟨g8,zs,ezs,pz⟩;rw[List.take_of_length_le (by omega)] at pz;have g58:=g57.trans g8;have ed8:=g58 _ _ ed5;have lz:zs.length=(zBH (rowF rs) (tq,wq)).length:=zAH pz;have ldp:dps.length=((L.take i).flatMap (zBH (rowF rs))).length:=zAH p5
   have hflat:((L.take (i+1)).flatMap (zBH (rowF rs)))=((L.take i).flatMap (zBH (rowF rs)))++zBH (rowF rs) (tq,wq):=by
    rw[zAM eq,List.flatMap_append];simp
   have hlen:dps.length+zs.length<=1000:=by
    have z1:=zLs (rowF rs) (L.take (i+1));rw[hflat,List.length_append] at z1;have z2:=zK4 L (i+1);omega
   refine⟨dp,acc,dps,zs,rfl,rfl,ed8,ezs,zAe hlen,?_⟩;have tkz:Tk H5 (upd H5 dp (.lst (dps++zs))):=Tk.lst ed8;refine⟨dps++zs,_,_,_,rfl,zAO (g5.trans g58) hdpH,k5.trans (g58.tk.trans tkz),by rw[zAW (Ne.symm ndf)];exact g58 _ _ ef5,by rw[zAW (Ne.symm ndl)];exact g58 _ _ el5,zAB,?_⟩;rw[hflat];exact zAP (Paired.mapP p5 λ U U z=>z.mono (g58.tk.trans tkz)) (Paired.mapP pz λ U U z=>z.mono tkz)
  ·rintro σ1 H2 ⟨dps,s5,s6,s7,rfl,g5,k5,ef5,el5,ed5,p5⟩
   rw[List.take_of_length_le (by omega)] at p5
   have hpos:0<L.length:=by
    rw[←lL];cases ls with
    |nil=>simp at c
    |cons _ _=>simp
   refine⟨_,rfl,szZ (L.flatMap (zBH (rowF rs))),by omega,dp,dps,fs++ls,L.flatMap (zBH (rowF rs)),Fd++L,some (.ref dp),s5,s6,s7,rfl,g5,hdpH,ndf,ef5,ed5,zAP (Paired.mapP pF λ U U z=>z.mono (tk1.trans k5)) (Paired.mapP pL λ U U z=>z.mono (tk1.trans k5)),p5,rfl,?_,?_,?_,zI9 gF wL⟩
   ·intro β
    have:=zEb (rowF rs) β L;have:=hsum β;rw[zGU];omega
   ·rw[List.length_append]
    omega
   ·intro p hp
    rcases lK.mp hp with h|h
    ·exact wF p h
    ·exact wL p h
 ·have e0:ls=[]:=by
   cases ls with
   |nil=>rfl
   |cons _ _=>simp at c
  have eL:L=[]:=by
   subst e0;cases L with
   |nil=>rfl
   |cons _ _=>simp at lL
  subst eL;refine⟨_,rfl,q fo fs Fd Hw gw ef pF (λ β=>?_) (by omega) wF⟩;have:=hsum β;have:sumSB (rowF rs) β []=0:=rfl;omega
noncomputable def zHt:Sp:=λ vs H Q U=>∃(t:Tr) (v:V) (d:Addr) (rs:Scl),vs=[v,.ref d]/\Rep H t v/\ScAt H d rs/\t.size<=300/\∀H':Hp,Sf H H'->Q (.int ((wrt (rowF rs) t:Nat):Int)) H'
theorem zLN {k:Nat}{f g1 g2 oa:Addr}{fd gd1 gd2:FuncData}(F:Fun K "worth" "worth" zHN f fd) (z_sum:mg "sum" = none) (zOw:mg "ONES" = some (.ref oa)) (hO:OnesK K oa)
  (zOx:FnB P w K mg base k "check_scale" g1 gd1 ["scale"] zCC) (zOy:FnB P w K mg base k "weighed_parts" g2 gd2 ["tree", "scale"] zD8):FnOk P w K mg base CX0 (k+1) f fd ["tree", "scale"] zHt:=by
 refine F.ok zK9 (λ vs H Q E h=>?_) (λ cdv A outer s H vs Q E hr h=>?_)
 ·obtain⟨t,v,d,rs,rfl,_⟩:=h
  rfl
 obtain⟨t,v,d,rs,rfl,hR,hsc,hsz,q⟩:=h;have hu:=hu_of hr
 refine⟨_,(zAE (zAt (pe_cl zOx hr (zAA (pv 1) zAD)))
  (zAF (zAS (zAX (zKo rfl) (by rfl) z_sum zKs (zAA (zAs ["part", "weight", "scale"] [none,none,some 1] rfl (zA4 (pe_cl zOy hr (zAA (pv 0) (zAA (pv 1) zAD)))) (λ U U U U U=>(zF2 (K:=K) (n:=2) rfl rfl (zAc (zAK (i:=0) (show List.Nodup (["part", "weight", "scale"]:List Str) by decide +kernel) rfl (Or.inl rfl)) (zAc (zAK (i:=1) (show List.Nodup (["part", "weight", "scale"]:List Str) by decide +kernel) rfl (Or.inl rfl)) zBB)))) (λ U U U U U=>zBQ) (λ U U U U U=>(pe_op zHT (pv 1) (pe_ix (r:=rIxT K) zAL (zDu hu (pv 2) (iC (r:=rIxT K) zAL (pv 0)) (zBz (v:=.ref _) (by rfl) zOw (by rfl)) ⟨rfl,rfl,rfl,rfl⟩) zAG (λ U U=>rfl)))) rfl) zAD))))),?_⟩
 try dsimp only[cxOf,Cx.nox]
 refine⟨_,rfl,d,rs,rfl,hsc,λ H1 gf=>?_⟩;have sc1:=hsc.mono gf;refine⟨_,rfl,_,rfl,t,v,d,rs,rfl,hR.mono gf.tk,sc1,hsz,λ l us L H2 g2 el pL hC hlen hW=>⟨l,rfl,⟨us,SqL.of el⟩,λ acc hacc=>?_⟩⟩;obtain⟨kvs,sc2⟩:=sc1.mono g2.sf;have gF:GoodF (rowF rs):=zDo (zE8 sc2.ps);refine zBZ (xs:=us) (λ i H'=>Same H2 H'/\H' acc=some (.lst (((L.take i).map λ p=>((p.2 * (rowF rs p.1.kd).getD 0 0:Nat):Int)).map V.int))) ⟨zAC hacc,zAB⟩ (λ i H' U h=>SqL.of (h.1 _ _ el)) ?_ ?_
 ·rintro i x Hx hx ⟨gx,ex⟩
  obtain⟨⟨tq,wq⟩,eq,rq⟩:=zAR pL hx;have hi:i<us.length:=(lJ.mp hx).1;have lu:=zAH pL;obtain⟨a,u,rfl,ha,ru⟩:=rq.mono gx.tk;dsimp only at ha ru;have sc3:=sc2.mono gx.sf;obtain⟨o,rp,gv,eo,hrow⟩:=zMH sc3 hO tq.kd;obtain⟨c0,ks,er⟩:=zFz gF tq.kd;obtain⟨pa,hs,us',rfl,hpa,hhl,hparts⟩:=ru.all;have at0:atI (V.str tq.kd.s::hs++us') 0=some (.str tq.kd.s):=zAI (j:=0) rfl;have c9:c0<=9:=by have:=gF.c9 tq.kd;rw[er] at this;simpa using this
  rw[er] at hrow;refine⟨a,_,rfl,SqT.of ha,rfl,_,_,rfl,_,_,rfl,rfl,.skip (.skip (.keep .nil)),?_⟩;refine⟨_,rfl,_,rfl,d,rfl,.inl ⟨kvs,sc3.rd⟩,_,rfl,pa,_,0,_,rfl,rfl,SqT.of hpa,at0,o,gv,?_⟩;refine⟨rp,_,0,_,eo,rfl,hrow,zAI (j:=0) rfl,_,_,rfl,rfl,⟨zIa ((hW _ (lN eq)).lt (by decide)),zFv c9⟩,_,ex,zAQ (by simp;omega),zAO gx hacc,?_⟩;rw[zAB,zAM eq,List.map_append,List.map_append];have e1:(rowF rs tq.kd).getD 0 0=c0:=by rw[er];rfl
  simp only[List.map_cons,List.map_nil,e1,Int.natCast_mul]
 rintro H3 ⟨g3,e3⟩;rw[List.take_of_length_le (by rw[zAH pL];exact lS _)] at e3;refine⟨acc,_,rfl,e3,?_⟩;rw[zHq (λ p=>p.2 * (rowF rs p.1.kd).getD 0 0)]
 have e:(L.map λ p=>p.2 * (rowF rs p.1.kd).getD 0 0).sum=wrt (rowF rs) t:=by
  rw[zCo gF t];exact hC (own (rowF rs))
 rw[e];exact q H3 (gf.trans (g2.trans g3).sf)
abbrev zCe:Stmt:=top 43
theorem zBa:zAY ["shape", "scale", "weights", "part", "weight"] ["shape", "scale"] (zAJ zCe):=by nofun
abbrev zHP:Stmt:=top 44
theorem zEV:zAY ["rule", "scale", "kinds", "left", "right"] ["rule", "scale"] (zAJ zHP):=by nofun
noncomputable def zJO:Sp:=λ vs H Q U=>∃(t:Tr) (v:V) (d:Addr) (rs:Scl),vs=[v,.ref d]/\Rep H t v/\ScAt H d rs/\t.size<=300 /\
 ∀(e:Addr) (kvs:List (Key × V)) (H':Hp),Same H H'->H' e=some (.dK kvs)->GWt (λ g=>gw (rowF rs) g t) kvs->kvs.length<=300->Q (.ref e) H'
theorem zNE {k:Nat}{f g1:Addr}{fd gd1:FuncData}(F:Fun K "gap_weights" "gap_weights" zCe f fd)
  (zOy:FnB P w K mg base k "weighed_parts" g1 gd1 ["tree", "scale"] zD8):FnOk P w K mg base CX0 (k+1) f fd ["shape", "scale"] zJO:=by
 refine F.ok zBa (λ vs H Q E h=>?_) (λ cdv A outer s H vs Q E hr h=>?_)
 ·obtain⟨t,v,d,rs,rfl,_⟩:=h
  rfl
 obtain⟨t,v,d,rs,rfl,hR,hsc,hsz,q⟩:=h;have hu:=hu_of hr
 refine⟨_,(zAE (zAV (i:=2) zBa.nd rfl (Or.inl rfl) zB8)
  (zAE (zAo PassesOwn.never rfl (zA4 (pe_cl zOy hr (zAA (pv 0) (zAA (pv 1) zAD)))) (zB7 rfl (zAc (zAK (i:=3) zBa.nd rfl (Or.inl rfl)) (zAc (zAK (i:=4) zBa.nd rfl (Or.inl rfl)) zBB))) (zAF (ps_if (zAN op_eq (iC (r:=rIxT K) zAL (pv 3)) zAd (zAZ _)) (zAF (zF1 hu (pv 2) (iC (r:=rIxT K) zAL (pv 3)) (pe_op zB9 (zDu hu (pv 2) (iC (r:=rIxT K) zAL (pv 3)) zAG ⟨rfl,rfl,rfl,rfl⟩) (pv 4)) rfl)) zAU)))
  (zAF (zAS (pv 2))))),?_⟩
 try dsimp only[cxOf,Cx.nox]
 refine λ dw hdw=>?_;have g1:=zAC (o:=.dK []) hdw;refine⟨_,rfl,_,rfl,t,v,d,rs,rfl,hR.mono g1.tk,hsc.mono g1.sf,hsz,λ l us L H2 g2 el pL hC hlen hW=>⟨l,rfl,⟨us,SqL.of el⟩,?_⟩⟩;have lu:us.length=L.length:=zAH pL;have edw:H2 dw=some (.dK []):=g2 _ _ zAB;have nld:l≠dw:=λ z=>by rw[z,edw] at el;cases el
 refine zA9 (xs:=us) (λ i σ' H'=>∃(kvs:List (Key × V)) (s3 s4:Option V),σ'=[some v,some (.ref d),some (.ref dw),s3,s4]/\Same H H'/\Tk H2 H'/\H' l=some (.lst us)/\H' dw=some (.dK kvs)/\GWt (λ g=>sumCB (isG g) (L.take i)) kvs/\kvs.length<=i) ?_ ?_ ?_ ?_
 ·exact⟨[],none,none,rfl,g1.trans g2,.refl _,el,edw,⟨by simp,λ g=>.inr ⟨rfl,rfl⟩⟩,lS _⟩
 ·rintro i σ' H' _ ⟨kvs,s3,s4,rfl,g,tk,el',ed,gt,le⟩
  exact SqL.of el'
 ·rintro i x σ' H' hx ⟨kvs,s3,s4,rfl,g,tk,el',ed,gt,le⟩
  obtain⟨⟨tq,wq⟩,eq,rq⟩:=zAR pL hx;have hi:i<us.length:=(lJ.mp hx).1;obtain⟨a,u,rfl,ha,ru⟩:=rq.mono tk;dsimp only at ha ru;obtain⟨pa,hs,us',rfl,hpa,hhl,hparts⟩:=ru.all;have at0:atI (V.str tq.kd.s::hs++us') 0=some (.str tq.kd.s):=zAI (j:=0) rfl;refine⟨a,_,rfl,SqT.of ha,rfl,_,_,rfl,_,_,rfl,rfl,?_⟩;refine⟨_,rfl,pa,_,0,_,rfl,rfl,SqT.of hpa,at0,rfl,_,rfl,ite2 (λ c=>?_) (λ c=>?_)⟩
  ·have z:tq.kd = .gap:=Kd.eq_iff.mp (lU c)
   cases tq with
   |gap x as =>
    obtain⟨a',b',us2,e,ha',_⟩:=ru;cases e;have at1:atI [V.str "gap", .str x,.ref b'] 1=some (.str x):=zAI (j:=1) rfl;have gv:DGet H' dw (.str x) (valV kvs (Sum.inr x:Key)):=.inl ⟨kvs,Sum.inr x,.inl ed,rfl,rfl⟩;refine⟨_,rfl,dw,rfl,.inl ⟨kvs,.inl ed⟩,_,rfl,pa,_,1,_,rfl,rfl,SqT.of ha',at1,_,gv,?_⟩;have gx:=gt.get x;rw[gx];refine⟨_,rfl,_,_,rfl,rfl,_,rfl,_,rfl,pa,_,1,_,rfl,rfl,SqT.of ha',at1,dw,_,rfl,DPut.k (k:=Sum.inr x) ed (zAQ (by omega)),?_⟩
    have e1:((sumCB (isG x) (L.take i):Nat):Int)+(wq:Int)=((sumCB (isG x) (L.take (i+1)):Nat):Int):=by
     rw[zD7 _ eq,show isG x (Tr.gap x as)=1 from if_pos rfl];simp
    show Ends.nx _ _ (upd H' dw (.dK (putK kvs (Sum.inr x) (V.int (((sumCB (isG x) (L.take i):Nat):Int)+(wq:Int))))));rw[e1];have tkd:Tk H' (upd H' dw (.dK (putK kvs (Sum.inr x:Key) (.int ((sumCB (isG x) (L.take (i+1)):Nat):Int))))):=Tk.dk ed;refine⟨_,_,_,rfl,zAO g hdw,tk.trans tkd,by rw[zAW nld];exact el',zAB,?_,?_⟩
    ·refine GWt.put (f':=λ g=>sumCB (isG g) (L.take (i+1))) gt (x:=x) λ g hg=>?_
     have e0:isG g (Tr.gap x as)=0:=if_neg (λ z=>hg z.symm);show sumCB (isG g) (L.take (i+1))=sumCB (isG g) (L.take i);rw[zD7 _ eq,e0,Nat.mul_zero,Nat.add_zero]
    ·have:=zAx kvs (Sum.inr x:Key) (.int ((sumCB (isG x) (L.take (i+1)):Nat):Int))
     omega
   |bin o a b=>cases o<;>cases z
   |_=>cases z
  ·have z:¬tq.kd = .gap:=λ z=>c (lV (by rw[z];rfl))
   refine⟨kvs,_,_,rfl,g,tk,el',ed,gt.congr λ g=>?_,by omega⟩;rw[zD7 _ eq,zNL z,Nat.mul_zero,Nat.add_zero]
 ·rintro σ' H' ⟨kvs,s3,s4,rfl,g,tk,el',ed,gt,le⟩
  rw[List.take_of_length_le (by omega)] at gt;exact⟨_,rfl,q dw kvs H' g ed (gt.congr λ g=>(hC (isG g)).symm) (by omega)⟩
noncomputable def zMg (H:Hp) (r:Addr) (t1 t2:Tr) (kds:List (Str × Str)):Prop:=∃(u1 u2:V) (ka:Addr) (o:Obj) (ys:List V),H r=some (.tup [u1,u2,.ref ka])/\Rep H t1 u1/\Rep H t2 u2/\H ka=some (.frz o (.tup ys))/\o.dict=none/\Paired (PrV H) ys (kdV kds)
theorem zOM {H H':Hp}(g:Sf H H') {a:Addr}{o:Obj}{u:HO}(h:H a=some (.frz o u)):H' a=some (.frz o u):=by
 rcases g a _ h with h|⟨_,_,z,_⟩
 ·exact h
 ·cases z
noncomputable def zH5:Sp:=λ vs H Q U=>∃(r d:Addr) (t1 t2:Tr) (kds:List (Str × Str)) (rs:Scl),vs=[.ref r,.ref d]/\zMg H r t1 t2 kds/\t1.size<=122/\t2.size<=122/\(kds.map (·.1)).Nodup/\kds.length<=300/\ScAt H d rs /\
 ∀(b:Bool) (H':Hp),Sf H H'->(b=true↔fallP (rowF rs) t1 t2 kds)->Q (.bl b) H'
theorem zLa {k:Nat}{f g1 g2:Addr}{fd gd1 gd2:FuncData}(F:Fun K "falls" "falls" zHP f fd) (z_dict:mg "dict" = none) (z_all:mg "all" = none)
  (zOz:FnB P w K mg base k "worth" g1 gd1 ["tree", "scale"] zHt) (zO0:FnB P w K mg base k "gap_weights" g2 gd2 ["shape", "scale"] zJO):FnOk P w K mg base CX0 (k+1) f fd ["rule", "scale"] zH5:=by
 refine F.ok zEV (λ vs H Q E h=>?_) (λ cdv A outer s H vs Q E hr h=>?_)
 ·obtain⟨r,d,t1,t2,kds,rs,rfl,_⟩:=h
  rfl
 obtain⟨r,d,t1,t2,kds,rs,rfl,hR,hs1,hs2,nd,hkl,hsc,q⟩:=h;have hu:=hu_of hr
 refine⟨_,(zAE (ps_if (zAN op_le (pe_cl zOz hr (zAA (iC (r:=rIxT K) zAL (pv 0)) (zAA (pv 1) zAD))) (pe_cl zOz hr (zAA (iC (r:=rIxT K) zAL (pv 0)) (zAA (pv 1) zAD))) (zAZ _)) (zAF (zAS pe_bl)) zAU)
  (zAE (zAV (i:=2) zEV.nd rfl (Or.inr rfl) (zBg (zFn rfl) (by rfl) z_dict PyProof.Rows.boot_dict (zAA (iC (r:=rIxT K) zAL (pv 0)) zAD)))
  (zAE (zAV (i:=3) zEV.nd rfl (Or.inr rfl) (pe_cl zO0 hr (zAA (iC (r:=rIxT K) zAL (pv 0)) (zAA (pv 1) zAD))))
  (zAE (zAV (i:=4) zEV.nd rfl (Or.inr rfl) (pe_cl zO0 hr (zAA (iC (r:=rIxT K) zAL (pv 0)) (zAA (pv 1) zAD))))
  (zAF (zAS (zAX (zG2 rfl) (by rfl) z_all PyProof.Rows.boot_all (zAA (zAs ["gap", "right", "left", "kinds"] [none,some 4,some 3,some 2] rfl (zHR (pv 4)) (λ U U U U U=>(zAK (i:=0) (show List.Nodup (["gap", "right", "left", "kinds"]:List Str) by decide +kernel) rfl (Or.inl rfl))) (λ U U U U U=>(zC2 (zAN op_ne (zIE hu (pv 3) (pv 0) ⟨rfl,rfl,rfl,rfl⟩) zAd (zAZ _)))) (λ U U U U U=>(zA6 op_ge (zDu hu (pv 2) (pv 0) zAG ⟨rfl,rfl,rfl,rfl⟩) (zC4 hu (pv 1) (pv 0) (λ U U=>rfl)) (zAZ _))) rfl) zAD)))))))),?_⟩
 try dsimp only[cxOf,Cx.nox]
 obtain⟨u1,u2,ka,o,ys,er,r1,r2,ek,hdn,pk⟩:=hR;have at0:atI [u1,u2,V.ref ka] 0=some u1:=zAI (j:=0) rfl;have at1:atI [u1,u2,V.ref ka] 1=some u2:=zAI (j:=1) rfl;have at2:atI [u1,u2,V.ref ka] 2=some (.ref ka):=zAI (j:=2) rfl;refine⟨_,rfl,r,_,0,_,rfl,rfl,SqT.of er,at0,_,rfl,t1,u1,d,rs,rfl,r1,hsc,by omega,λ H1 f1=>?_⟩;refine⟨_,rfl,r,_,1,_,rfl,rfl,SqT.of (f1.tk _ _ er),at1,_,rfl,t2,u2,d,rs,rfl,r2.mono f1.tk,hsc.mono f1,by omega,λ H2 f2=>?_⟩;have f12:=f1.trans f2;refine⟨_,_,rfl,rfl,_,rfl,ite2 (λ c=>?_) (λ c=>?_)⟩
 ·have c':((wrt (rowF rs) t1:Nat):Int)<=((wrt (rowF rs) t2:Nat):Int):=lU c
  refine q false H2 f12 ⟨(λ z=>nomatch z),λ z=>?_⟩
  have:=z.1;omega
 have c':¬((wrt (rowF rs) t1:Nat):Int)<=((wrt (rowF rs) t2:Nat):Int):=λ z=>c (lV z);have pk2:Paired (PrV H2) ys (kdV kds):=Paired.mapP pk λ _ _ ⟨b,e,hb⟩=>⟨b,e,f12.tk _ _ hb⟩;refine⟨_,rfl,r,_,2,_,rfl,rfl,SqT.of (f12.tk _ _ er),at2,ka,o,ys,kdV kds,rfl,zOM f12 ek,hdn,pk2,by unfold kdV;rw[List.length_map];omega,λ dk hdk=>?_⟩;have g3:=zAC (o:=.dK (zAf [] (kdV kds))) hdk;have edk:(upd H2 dk (.dK (zAf [] (kdV kds)))) dk=some (.dK (zAf [] (kdV kds))):=zAB;generalize upd H2 dk (.dK (zAf [] (kdV kds)))=H3 at g3 edk ⊢;have f13:=f12.trans g3.sf;refine⟨_,rfl,r,_,0,_,rfl,rfl,SqT.of (f13.tk _ _ er),at0,_,rfl,t1,u1,d,rs,rfl,r1.mono f13.tk,hsc.mono f13,by omega,λ dl kl H4 g4 edl gl hl=>?_⟩;have f14:=f13.trans g4.sf;refine⟨_,rfl,r,_,1,_,rfl,rfl,SqT.of (f14.tk _ _ er),at1,_,rfl,t2,u2,d,rs,rfl,r2.mono f14.tk,hsc.mono f14,by omega,λ dr kr H5 g5 edr gr hlr=>?_⟩;have f15:=f14.trans g5.sf;have edk5:=g5 _ _ (g4 _ _ edk);have edl5:=g5 _ _ edl;refine⟨_,rfl,dr,kr,rfl,.inr ⟨edr,λ ob=>?_⟩⟩;have f56:=Sf.frz ob edr;have edr6:(upd H5 dr (.frz ob (.dK kr))) dr=some (.frz ob (.dK kr)):=zAB;generalize upd H5 dr (.frz ob (.dK kr))=H6 at f56 edr6 ⊢;have rdk:Rd H6 dk (.dK (zAf [] (kdV kds))):=f56.rd (.inl edk5);have rdl:Rd H6 dl (.dK kl):=f56.rd (.inl edl5);refine λ acc hacc=>?_
 refine zFk (o:=ob) (a:=dr) (kvs:=kr) (λ i H'=>Same H6 H'/\∃bs:List Bool,H' acc=some (.lst (bs.map V.bl))/\bs.length<=i /\
   ((∀b∈bs,b=true)↔∀p∈kr.take i,∀g:Str,p.1=(Sum.inr g:Key)->(g,("number" : Str))∉kds->gw (rowF rs) g t2<=gw (rowF rs) g t1)) ?_ ?_ ?_ ?_
 ·exact⟨zAC hacc,[],zAB,lS _,by simp⟩
 ·rintro i H' _ ⟨g,_⟩
  exact g _ _ edr6
 ·rintro i p H' hp ⟨g,bs,eb,lb,hb⟩
  obtain⟨x,ex⟩:=gr.ks p (lN hp);have hi:i<kr.length:=(lJ.mp hp).1;obtain⟨p1,p2⟩:=p;dsimp only at ex;subst ex;obtain⟨z,ez,sz,hz⟩:=zMS nd x;have rdk':=g.sf.rd rdk;have rdl':=g.sf.rd rdl;have rdr':Rd H' dr (.dK kr):=.inr ⟨ob,g _ _ edr6⟩;refine⟨.skip (.keep (.keep (.keep .nil))),_,rfl,dk,rfl,.inl ⟨_,rdk'⟩,_,rfl,_,.inl ⟨_,Sum.inr x,rdk',rfl,rfl⟩,?_⟩;rw[ez];refine⟨sz,_,rfl,?_⟩;have take1:=zAM hp;refine ite2 (λ c=>?_) (λ c=>?_)
  ·have nn:(x,("number" : Str))∉kds:=λ w=>by
    have:=hz.mpr w;rw[this] at c;simp at c
   have gvl:DGet H' dl (.str x) (valV kl (Sum.inr x:Key)):=.inl ⟨kl,Sum.inr x,rdl',rfl,rfl⟩
   have evr:valV kr (Sum.inr x:Key)=some (.int ((gw (rowF rs) x t2:Nat):Int)):=by
    rcases gr.vl x with h|⟨h,_⟩
    ·exact h
    ·exfalso
     have:(kr.find? λ kv=>decide (kv.1=(Sum.inr x:Key)))=none:=by
      unfold valV at h;exact Option.map_eq_none_iff.mp h
     have:=List.find?_eq_none.mp this _ (lN hp);simp at this
   have gvr:DGet H' dr (.str x) (some (.int ((gw (rowF rs) x t2:Nat):Int))):=.inl ⟨kr,Sum.inr x,rdr',rfl,evr.symm⟩;refine⟨_,rfl,dl,rfl,.inl ⟨kl,rdl'⟩,_,rfl,_,gvl,?_⟩;rw[gl.get x];refine⟨_,rfl,_,rfl,dr,_,rfl,gvr,_,_,rfl,rfl,_,eb,zAQ (by rw[List.length_map];omega),zAO g hacc,bs++[decide (((gw (rowF rs) x t2:Nat):Int)<=((gw (rowF rs) x t1:Nat):Int))],?_,by simp;omega,?_⟩
   ·rw[zAB,List.map_append]
    rfl
   ·rw[take1]
    constructor
    ·intro hall p hpm g0 eg0 hn
     rcases lK.mp hpm with h|h
     ·exact hb.mp (λ b hbm=>hall b (lK.mpr (.inl hbm))) p h g0 eg0 hn
     ·have e:=List.mem_singleton.mp h
      subst e;have:=Sum.inr.inj eg0;subst this;have:=lU (hall _ (lK.mpr (.inr (List.mem_singleton.mpr rfl))));omega
    ·intro hall b hbm
     rcases lK.mp hbm with h|h
     ·exact hb.mpr (λ p hp'=>hall p (lK.mpr (.inl hp'))) b h
     ·rw[List.mem_singleton.mp h]
      have:=hall _ (lK.mpr (.inr (List.mem_singleton.mpr rfl))) x rfl nn;exact lV (by omega)
  ·have nn:(x,("number" : Str))∈kds:=by
    refine hz.mp ?_;have:decide (z=V.str "number")=true:=by simpa using c
    exact lU this
   refine⟨g,bs,eb,by omega,?_⟩;rw[take1];constructor
   ·intro hall p hpm g0 eg0 hn
    rcases lK.mp hpm with h|h
    ·exact hb.mp hall p h g0 eg0 hn
    ·have e:=List.mem_singleton.mp h
     subst e;have:=Sum.inr.inj eg0;subst this;exact absurd nn hn
   ·intro hall
    exact hb.mpr λ p hp'=>hall p (lK.mpr (.inl hp'))
 ·rintro H7 ⟨g,bs,eb,lb,hb⟩
  rw[List.take_length] at hb;refine⟨acc,bs,rfl,eb,q _ H7 (f15.trans (f56.trans g.sf)) ?_⟩;rw[List.all_eq_true];constructor
  ·intro hall
   refine⟨by omega,λ g0 hn=>?_⟩;rcases gr.vl g0 with h|⟨_,h⟩
   ·obtain⟨p,hp,_⟩:=lW.mp (show (kr.find? λ kv=>decide (kv.1=(Sum.inr g0:Key))).map (·.2)=_ from h)
    exact hb.mp (λ b hb'=>hall b hb') p (List.mem_of_find?_eq_some hp) g0 (by have hk:=List.find?_some hp;exact lU hk) hn
   ·omega
  ·intro hf b hbm
   exact hb.mpr (λ p U g0 U hn=>hf.2 g0 hn) b hbm
abbrev zCc:Stmt:=top 49
theorem zFL:zAY ["_law_script", "_law_k"] ["_law_script", "_law_k"] (zAJ zCc):=by nofun
abbrev zDX:Stmt:=top 50
theorem zAm:zAY ["_law_cell", "_law_many", "_law_letters", "_law_long", "_law_at", "_law_found", "_law_k", "_law_word", "_law_j", "_law_number"] ["_law_cell", "_law_many"] (zAJ zDX):=by nofun
abbrev zDZ:Stmt:=top 51
theorem zAn:zAY ["_law_cells", "_law_scale_here", "_law_sign", "_law_cell", "_law_many", "_law_row", "_law_rest", "_law_k"] ["_law_cells"] (zAJ zDZ):=by nofun
noncomputable def zFT (K:W.Frag):Sp:=λ vs H Q U=>∃(a:Addr) (ns:List Int) (k:Int),vs=[.ref a,.int k]/\SqL K H a (ns.map V.int)/\0<=k/\Q (.int (ns.getD k.toNat 0)) H
theorem zIr {k:Nat}{f:Addr}{fd:FuncData}(F:Fun K "_law_cell_at" "_law_cell_at" zCc f fd) (z_len:mg "len" = none):FnOk P w K mg base CX0 (k+1) f fd ["_law_script", "_law_k"] (zFT K):=by
 refine F.ok zFL (λ vs H Q E h=>?_) (λ cdv A outer s H vs Q E hr h=>?_)
 ·obtain⟨a,ns,k,rfl,_⟩:=h
  rfl
 obtain⟨a,ns,k,rfl,hS,h0,q⟩:=h
 refine⟨_,(zAE (ps_if (zAN op_lt (pv 1) (zAX zAa (by rfl) z_len PySem.boot_len (zAA (pv 0) zAD)) (zAZ _)) (zAF (zAS (pe_ix (r:=rIxL K) zAh (pv 0) (pv 1) (λ U U=>rfl)))) zAU)
  (zAF (zAS zAG))),?_⟩
 try dsimp only[cxOf,Cx.nox]
 refine⟨_,rfl,_,rfl,a,_,rfl,.inl hS,_,_,rfl,rfl,_,rfl,?_⟩;refine ite2 (λ c=>?_) (λ c=>?_)
 ·have c':k<((ns.map V.int).length:Int):=lU c
  rw[List.length_map] at c';have hl:k.toNat<ns.length:=by omega
  have e:((k.toNat:Nat):Int)=k:=by omega
  have at_:=zAI (xs:=ns.map V.int) (j:=k.toNat) (v:=.int ns[k.toNat]) (by simp[hl]);rw[e] at at_;refine⟨_,rfl,_,rfl,a,_,k,_,rfl,rfl,hS,at_,?_⟩;have e2:ns.getD k.toNat 0=ns[k.toNat]:=by rw[List.getD_eq_getElem?_getD,List.getElem?_eq_getElem hl,Option.getD_some]
  rw[←e2];exact q
 ·have c':¬k<((ns.map V.int).length:Int):=λ z=>c (lV z)
  rw[List.length_map] at c'
  have e2:ns.getD k.toNat 0=0:=by
   rw[List.getD_eq_getElem?_getD,List.getElem?_eq_none (by omega)];rfl
  rw[e2] at q;exact q
noncomputable def zHu:Sp:=λ vs H Q U=>∃(c:Int) (mw:Nat),vs=[.int c,.int (mw:Int)]/\mw<=3/\∀(l:Addr) (H':Hp) (ws:List Str),Same H H'->H' l=some (.lst (ws.map V.str))->ws.length=mw->Q (.ref l) H'
theorem zLO {k:Nat}{f:Addr}{fd:FuncData}(F:Fun K "_law_words" "_law_words" zDX f fd) (z_range:mg "range" = none):FnOk P w K mg base CX0 (k+1) f fd ["_law_cell", "_law_many"] zHu:=by
 refine F.ok zAm (λ vs H Q E h=>?_) (λ cdv A outer s H vs Q E hr h=>?_)
 ·obtain⟨c,mw,rfl,_⟩:=h
  rfl
 obtain⟨c,mw,rfl,hmw,q⟩:=h
 refine⟨_,(zAE (zAV (i:=2) zAm.nd rfl (Or.inl rfl) zAd)
  (zAE (zAV (i:=3) zAm.nd rfl (Or.inl rfl) (pe_op zB9 zAG (pe_op zBO (pv 0) zAG)))
  (zAE (zAV (i:=4) zAm.nd rfl (Or.inl rfl) (pe_op zBO (pe_op zBL (pv 0) zAG) (pv 3)))
  (zAE (zAV (i:=5) zAm.nd rfl (Or.inl rfl) (zA2 zAD:PE _ _ _))
  (zAE (zAo PassesOwn.never rfl (zC3 (by rfl) z_range (zAA (pv 1) zAD)) (zAK (i:=6) zAm.nd rfl (Or.inl rfl)) (zAE (zAV (i:=7) zAm.nd rfl (Or.inl rfl) zAd)
  (zAE (zAo PassesOwn.never rfl (zC3 (by rfl) z_range (zAA (pv 3) zAD)) (zAK (i:=8) zAm.nd rfl (Or.inl rfl)) (zAE (zAV (i:=9) zAm.nd rfl (Or.inl rfl) (pe_op zB9 (pe_op zBL (pv 0) (pe_op zIF (pe_op zIF zAG (pe_op zB9 (pv 8) zAG)) (pe_op zB9 (pv 8) zAG))) (pe_op zIF (pv 8) (pv 8))))
  (zAE (ps_if (zAN op_eq (pv 8) (pv 4) (zAZ _)) (zAF (zAV (i:=9) zAm.nd rfl (Or.inl rfl) (pe_op zB9 (pv 9) (pe_op zIF zAG (pv 6))))) zAU)
  (zAF (zAV (i:=7) zAm.nd rfl (Or.inl rfl) (pe_op zFb (pv 7) (pe_ix zOK (pv 2) (pe_op zBO (pv 9) zAG) (λ U U=>rfl))))))))
  (zAE (ps_if (zAN (r:=rIn K false) zB1 (pv 7) (zF3 [.str "let", .str "in", .str "if", .str "then", .str "else", .str "say", .str "ask", .str "stop", .str "where", .str "quiet", .str "number"] (by rfl):PE _ _ _) rfl) (zAF (zAV (i:=7) zAm.nd rfl (Or.inl rfl) (pe_op zFb (pv 7) zAd))) zAU)
  (zAF (zAt (pe_bm PySem.F.plainAttrs_list PySem.F.slot_list_append PySem.F.type_list_append zA8 (pv 5) (zAA (pv 7) zAD))))))))
  (zAF (zAS (pv 5)))))))),?_⟩
 try dsimp only[cxOf,Cx.nox]
 generalize hL:Str.ofString "abcdefghijklmnopqrstuvwxyz" = L;have hLlen:L.length=26:=by rw[←hL];decide +kernel
 have n0:=Int.emod_nonneg c (show (8:Int)≠0 by decide);have n1:=Int.emod_lt_of_pos c (show (0:Int)<8 by decide);refine⟨_,rfl,_,_,rfl,rfl,(show (0:Int)<8 by decide),_,_,rfl,rfl,?_⟩;refine⟨_,rfl,_,_,rfl,rfl,⟨(show (0:Int)<8 by decide),(show (8:Int)<1073741824 by decide)⟩,_,rfl,_,_,rfl,rfl,(show (0:Int)<1+c % 8 by omega),?_⟩;dsimp only;generalize c / 8 % (1+c % 8)=at_;generalize hN:1+c % 8=N;have N1:1<=N:=by omega
 have N8:N<=8:=by omega
 refine⟨(by show 0<=sizeLine;decide),λ lw hlw=>?_⟩;refine⟨_,rfl,(mw:Int),rfl,by omega,by omega,?_⟩;refine zCS (n:=((mw:Nat):Int).toNat) (λ i σ' H'=>∃(ws:List Str) (s6 s7 s8 s9:Option V),σ'=[some (.int c),some (.int (mw:Int)),some (.str L),some (.int N),some (.int at_),some (.ref lw),s6,s7,s8,s9]/\Same H H'/\H' lw=some (.lst (ws.map V.str))/\ws.length=i) ⟨[],none,none,none,none,rfl,zAC hlw,zAB,rfl⟩ ?_ ?_
 ·rintro i σ1 H1 hi ⟨ws,s6,s7,s8,s9,rfl,g1,ew,l1⟩
  have hi3q:i<mw:=by simpa using hi
  have hi3:i<3:=by omega
  refine⟨_,rfl,N,rfl,by omega,by omega,?_⟩;refine zCS (n:=N.toNat) (λ j σ' H'=>∃(x:Str) (s8 s9:Option V),σ'=[some (.int c),some (.int (mw:Int)),some (.str L),some (.int N),some (.int at_),some (.ref lw),some (.int (0+(i:Int))),some (.str x),s8,s9]/\H'=H1/\x.length<=j) ⟨_,s8,s9,rfl,rfl,by decide +kernel⟩ ?_ ?_
  ·rintro j σ2 H2 hj ⟨x,s8,s9,rfl,rfl,hx⟩
   have hj8:j<8:=by omega
   obtain⟨dv1,dv2⟩:=zOQ j hj8;have s64:(-(2 ^ 64):Int)<64/\(64:Int)<2 ^ 64:=⟨by decide,by decide⟩;refine⟨_,rfl,_,rfl,_,_,rfl,rfl,_,_,rfl,rfl,.inl s64,_,rfl,_,_,rfl,rfl,_,_,rfl,rfl,.inr ⟨by omega,by omega⟩,_,_,rfl,rfl,⟨dv1,dv2⟩,_,rfl,_,rfl,_,_,rfl,rfl,.inl ⟨by omega,by omega⟩,_,_,rfl,rfl,?_⟩;refine⟨_,rfl,_,rfl,rfl,_,rfl,?_⟩;refine ite2 (λ U=>?_) (λ U=>?_)
   ·refine⟨_,rfl,_,rfl,_,_,rfl,rfl,.inl ⟨by decide,by decide⟩,_,_,rfl,rfl,?_⟩
    obtain⟨cc,ec⟩:=zGo hLlen (c / (64 * (0+(j:Int)+1) * (0+(j:Int)+2))+(0+(j:Int)) * (0+(j:Int))+5 * (0+(i:Int)));refine⟨_,rfl,_,rfl,_,rfl,_,_,rfl,rfl,(show (0:Int)<26 by decide),L,_,_,rfl,rfl,zAe (by rw[hLlen];decide),ec,_,_,rfl,rfl,zAe (by show x.length+1<=1000;omega),_,_,_,rfl,rfl,?_⟩;rw[zKB];show x.length+1<=j+1;omega
   ·obtain⟨cc,ec⟩:=zGo hLlen (c / (64 * (0+(j:Int)+1) * (0+(j:Int)+2))+(0+(j:Int)) * (0+(j:Int)))
    refine⟨_,rfl,_,rfl,_,rfl,_,_,rfl,rfl,(show (0:Int)<26 by decide),L,_,_,rfl,rfl,zAe (by rw[hLlen];decide),ec,_,_,rfl,rfl,zAe (by show x.length+1<=1000;omega),_,_,_,rfl,rfl,?_⟩;rw[zKB];show x.length+1<=j+1;omega
  ·rintro σ2 H2 ⟨x,s8,s9,rfl,rfl,hx⟩
   refine⟨_,rfl,(by show 11<=sizeLine;decide),λ p hp=>⟨p,_,rfl,.inr (SqT.of zAB),rfl,rfl,_,rfl,?_⟩⟩;have g2:=zAC (o:=.tup [.str "let", .str "in", .str "if", .str "then", .str "else", .str "say", .str "ask", .str "stop", .str "where", .str "quiet", .str "number"]) hp;have gA:=g1.trans g2;have ew2:=g2 _ _ ew;generalize upd H2 p (.tup [.str "let", .str "in", .str "if", .str "then", .str "else", .str "say", .str "ask", .str "stop", .str "where", .str "quiet", .str "number"])=H3 at gA ew2 ⊢;refine ite2 (λ U=>?_) (λ U=>?_)
   ·refine⟨_,rfl,_,_,rfl,rfl,zAe (by show x.length+1<=1000;omega),?_⟩
    refine⟨_,rfl,.inl ⟨rfl,_,SqL.of ew2⟩,_,rfl,lw,_,_,rfl,rfl,ew2,zAQ (by rw[List.length_map];omega),?_⟩;refine⟨ws++[x++Str.ofString "z"],_,_,_,_,rfl,zAO gA hlw,?_,by simp[l1]⟩;rw[zAB,List.map_append];rfl
   ·refine⟨_,rfl,.inl ⟨rfl,_,SqL.of ew2⟩,_,rfl,lw,_,_,rfl,rfl,ew2,zAQ (by rw[List.length_map];omega),?_⟩
    refine⟨ws++[x],_,_,_,_,rfl,zAO gA hlw,?_,by simp[l1]⟩;rw[zAB,List.map_append];rfl
 ·rintro σ1 H1 ⟨ws,s6,s7,s8,s9,rfl,g1,ew,l1⟩
  exact⟨_,rfl,q lw H1 ws g1 ew (by rw[l1];simp)⟩
noncomputable def zHx:Sp:=λ vs H Q U=>∃(a:Addr) (cs:List Int),vs=[.ref a]/\H a=some (.lst (cs.map V.int))/\cs.length=7/\∀(d:Addr) (rs:Scl) (kvs:List (Key × V)) (H':Hp),Same H H'->H' d=some (.dK kvs)->ScD H' d rs kvs->Q (.ref d) H'
theorem zLR {k:Nat}{f:Addr}{fd:FuncData}(F:Fun K "_law_scale" "_law_scale" zDZ f fd) (z_range:mg "range" = none) (z_zip:mg "zip" = none):FnOk P w K mg base CX0 (k+1) f fd ["_law_cells"] zHx:=by
 refine F.ok zAn (λ vs H Q E h=>?_) (λ cdv A outer s H vs Q E hr h=>?_)
 ·obtain⟨a,cs,rfl,_⟩:=h
  rfl
 obtain⟨a,cs,rfl,ha,hcs,q⟩:=h;have hu:=hu_of hr
 refine⟨_,(zAE (zAV (i:=1) zAn.nd rfl (Or.inl rfl) zB8)
  (zAE (zAo PassesOwn.never rfl (zMw (by rfl) z_zip (zAA (zJi [.str "say", .str "add", .str "sub", .str "mul", .str "then", .str "if", .str "let"] (by rfl):PE _ _ _) (zAA (pv 0) zAD))) (zB7 rfl (zAc (zAK (i:=2) zAn.nd rfl (Or.inl rfl)) (zAc (zAK (i:=3) zAn.nd rfl (Or.inl rfl)) zBB))) (zAE (zAV (i:=4) zAn.nd rfl (Or.inl rfl) zAG)
  (zAE (ps_if (zAN op_eq (pv 2) zAd (zAZ _)) (zAF (zAV (i:=4) zAn.nd rfl (Or.inl rfl) zAG)) zAU)
  (zAE (ps_if (zAN op_eq (pv 2) zAd (zAZ _)) (zAF (zAV (i:=4) zAn.nd rfl (Or.inl rfl) zAG)) zAU)
  (zAF (ps_if (zAN op_gt (pe_op zBO (pv 3) zAG) zAG (zAZ _)) (zAE (zAV (i:=5) zAn.nd rfl (Or.inl rfl) (zAj (zAA (pe_op zB9 zAG (pe_op zBO (pe_op zBL (pv 3) zAG) zAG)) zAD):PE _ _ _))
  (zAE (zAV (i:=6) zAn.nd rfl (Or.inl rfl) (pe_op zBL (pv 3) zAG))
  (zAE (zAo PassesOwn.never rfl (zC3 (by rfl) z_range (zAA (pv 4) zAD)) (zAK (i:=7) zAn.nd rfl (Or.inl rfl)) (zAE (zAV (i:=5) zAn.nd rfl (Or.inl rfl) (pe_op zHU (pv 5) (zAj (zAA (pe_op zB9 zAG (pe_op zBO (pv 6) zAG)) zAD):PE _ _ _)))
  (zAF (zAV (i:=6) zAn.nd rfl (Or.inl rfl) (pe_op zBL (pv 6) zAG)))))
  (zAF (zF1 hu (pv 1) (pv 2) (pv 5) rfl))))) zAU))))))
  (zAF (zAS (pv 1))))),?_⟩
 try dsimp only[cxOf,Cx.nox]
 have d1:1<=sizeLine:=by decide
 refine λ d hd=>⟨(by show 7<=sizeLine;decide),λ ls hls=>⟨_,rfl,ls,a,sgsV,cs.map V.int,rfl,zAB,?_,?_⟩⟩
 ·exact zAC hls _ _ (zAC hd _ _ ha)
 have g0:=(zAC (o:=.dK []) hd).trans (zAC (o:=.lst [.str "say", .str "add", .str "sub", .str "mul", .str "then", .str "if", .str "let"]) hls);have ea0:(upd (upd H d (.dK [])) ls (.lst [.str "say", .str "add", .str "sub", .str "mul", .str "then", .str "if", .str "let"])) a=some (.lst (cs.map V.int)):=g0 _ _ ha;have ed0:(upd (upd H d (.dK [])) ls (.lst [.str "say", .str "add", .str "sub", .str "mul", .str "then", .str "if", .str "let"])) d=some (.dK []):=zAC (o:=.lst [.str "say", .str "add", .str "sub", .str "mul", .str "then", .str "if", .str "let"]) hls _ _ zAB;have el0:(upd (upd H d (.dK [])) ls (.lst [.str "say", .str "add", .str "sub", .str "mul", .str "then", .str "if", .str "let"])) ls=some (.lst sgsV):=zAB;have nld:ls≠d:=Ne.symm (zAT (zAB (H:=H) (a:=d) (o:=.dK [])) hls);have nad:a≠d:=zAT ha hd;show ∃W,_;generalize upd (upd H d (.dK [])) ls (.lst [.str "say", .str "add", .str "sub", .str "mul", .str "then", .str "if", .str "let"])=H0 at g0 ea0 ed0 el0 ⊢;have lcs:min sgsV.length (cs.map V.int).length=7:=by rw[List.length_map,hcs];rfl
 refine zLr (xs:=sgsV) (ys:=cs.map V.int) (λ i σ' H'=>∃(rs:Scl) (kvs:List (Key × V)) (s2 s3 s4 s5 s6 s7:Option V),σ'=[some (.ref a),some (.ref d),s2,s3,s4,s5,s6,s7]/\Same H H'/\H' a=some (.lst (cs.map V.int))/\H' ls=some (.lst sgsV) /\
  H' d=some (.dK kvs)/\Paired (RowAt H') rs kvs/\(kvs.map (·.1)).Nodup/\kvs.length<=i/\(∀p∈rs,p.1∈sgs.take i)) ⟨[],[],none,none,none,none,none,none,rfl,g0,ea0,el0,ed0,.nil,List.nodup_nil,lS _,by simp⟩ ?_ ?_ ?_
 ·rintro i σ' H' _ ⟨rs,kvs,s2,s3,s4,s5,s6,s7,rfl,g,ea,el,ed,ps,nd,le,hin⟩
  exact⟨el,ea⟩
 ·rintro i x y T σ' H' hx hy ⟨rs,kvs,s2,s3,s4,s5,s6,s7,rfl,g,ea,el,ed,ps,nd,le,hin⟩ hT
  obtain⟨kd,hkd,rfl,hlf⟩:=zNn hx
  obtain⟨c,hc,rfl⟩:∃c,cs[i]?=some c/\y=V.int c:=by
   rw[List.getElem?_map] at hy;obtain⟨c,h1,h2⟩:=lW.mp hy;exact⟨c,h1,h2.symm⟩
  have hi7:i<7:=by
   have:=(lJ.mp hx).1;exact this
  have gT:=zAC (o:=.tup [.str kd.s,.int c]) hT;have etk:=zAM hkd
  have fin0:∀p∈rs,p.1∈sgs.take (i+1):=λ p hp=>by
   rw[etk];exact lK.mpr (.inl (hin p hp))
  refine⟨T,_,rfl,SqT.of zAB,rfl,_,_,rfl,_,_,rfl,rfl,?_⟩;have gA:=g.trans gT;have ea1:=gT _ _ ea;have el1:=gT _ _ el;have ed1:=gT _ _ ed;have ps1:Paired (RowAt (upd H' T (.tup [.str kd.s,.int c]))) rs kvs:=Paired.mapP ps λ U U z=>z.mono gT.tk;show tSeq _ _ _ _ (upd H' T (.tup [.str kd.s,.int c]));generalize upd H' T (.tup [.str kd.s,.int c])=H1 at gA ea1 el1 ed1 ps1 ⊢;refine⟨_,rfl,rfl,_,rfl,ite2 (λ c1=>?_) (λ c1=>?_)⟩
  ·have ek:kd = .say:=Kd.eq_iff.mp (lU c1)
   have hm:kd.many=1:=by rw[ek];rfl
   refine⟨_,rfl,rfl,_,rfl,iteN (by rw[ek];decide +kernel) ?_⟩;refine⟨_,rfl,_,_,rfl,rfl,(show (0:Int)<3 by decide),_,_,rfl,rfl,_,rfl,ite2 (λ U=>?_) (λ U=>?_)⟩
   ·have m0:=Int.emod_nonneg (c / 3) (show (9:Int)≠0 by decide)
    have m1:=Int.emod_lt_of_pos (c / 3) (show (0:Int)<9 by decide);refine⟨_,rfl,_,_,rfl,rfl,⟨(show (0:Int)<3 by decide),(show (3:Int)<1073741824 by decide)⟩,_,_,rfl,rfl,(show (0:Int)<9 by decide),_,_,rfl,rfl,d1,λ p1 hp1=>?_⟩;refine⟨_,rfl,_,_,rfl,rfl,⟨(show (0:Int)<27 by decide),(show (27:Int)<1073741824 by decide)⟩,?_⟩;dsimp only;generalize hc1:1+c / 3 % 9=c1v at hp1 ⊢;have gp:=zAC (o:=.tup [.int c1v]) hp1;refine⟨_,rfl,1,rfl,by decide,by decide,?_⟩;refine zCS (n:=(1:Int).toNat) (λ j σ' H'=>∃(r:List Nat) (p:Addr) (z:Int) (s7:Option V),σ'=[some (.ref a),some (.ref d),some (.str kd.s),some (.int c),some (.int 1),some (.ref p),some (.int z),s7]/\Same H1 H'/\H' p=some (.tup (natV r))/\r.length=j+1/\1<=r.getD 0 0/\r.getD 0 0<=9/\∀x∈r.drop 1,1<=x/\x<=3) ?_ ?_ ?_
    ·refine⟨[c1v.toNat],p1,_,s7,rfl,gp,?_,rfl,?_,?_,by simp⟩
     ·rw[zAB]
      exact congrArg (λ x=>some (HO.tup x)) (zCR [] c1v (by omega))
     ·show 1<=c1v.toNat
      omega
     ·show c1v.toNat<=9
      omega
    ·rintro j σ2 H2 hj ⟨r,p,z,s7,rfl,g2,ep,lr,b1,b9,bk⟩
     have hj3:j<1:=by simpa using hj
     have z0:=Int.emod_nonneg z (show (3:Int)≠0 by decide);have z1:=Int.emod_lt_of_pos z (show (0:Int)<3 by decide);refine⟨_,rfl,_,rfl,_,_,rfl,rfl,(show (0:Int)<3 by decide),_,_,rfl,rfl,d1,λ pt hpt=>?_⟩;have g3:=zAC (o:=.tup [.int (1+z % 3)]) hpt;refine⟨p,pt,_,_,rfl,rfl,g3 _ _ ep,zAB,zAe (by rw[zDx];simp;omega),λ p' H3 g4 e4=>?_⟩;refine⟨_,rfl,_,_,rfl,rfl,⟨(show (0:Int)<3 by decide),(show (3:Int)<1073741824 by decide)⟩,?_⟩;rw[zCR r (1+z % 3) (by omega)] at e4
     obtain⟨r0,rt,er⟩:∃r0 rt,r=r0::rt:=by
      cases r with
      |nil=>simp at lr
      |cons r0 rt=>exact⟨r0,rt,rfl⟩
     subst er;refine⟨(r0::rt)++[(1+z % 3).toNat],p',_,_,rfl,g2.trans (g3.trans g4),e4,by simp at lr ⊢;omega,b1,b9,?_⟩;intro x hx;have hx':x∈rt++[(1+z % 3).toNat]:=hx;rcases lK.mp hx' with h|h
     ·exact bk x h
     ·have:=List.mem_singleton.mp h
      omega
    ·rintro σ2 H2 ⟨r,p,z,s7,rfl,g2,ep,lr,b1,b9,bk⟩
     have ed2:=g2 _ _ ed1
     have nv:valV kvs (Sum.inr kd.s:Key)=none:=by
      rcases zD4 ps1 kd with ⟨_,h⟩|⟨r',b,h,_⟩
      ·exact h
      ·rw[zDK (rs:=rs) (k:=kd) ?_] at h
       ·cases h
       ·intro z
        obtain⟨p0,hp0,ez⟩:=mE.mp z;exact zHG hkd (ez▸hin p0 hp0)
     refine⟨_,rfl,_,rfl,_,rfl,d,_,rfl,DPut.k (k:=Sum.inr kd.s) ed2 (zAQ (by omega)),?_⟩;have tkd:Tk H2 (upd H2 d (.dK (putK kvs (Sum.inr kd.s:Key) (.ref p)))):=Tk.dk ed2;refine⟨rs++[(kd,r)],putK kvs (Sum.inr kd.s:Key) (.ref p),_,_,_,_,_,_,rfl,zAO (gA.trans g2) hd,by rw[zAW nad];exact g2 _ _ ea1,by rw[zAW nld];exact g2 _ _ el1,zAB,?_,zHa _ nd nv,?_,?_⟩
     ·have pz:Paired (RowAt (upd H2 d (.dK (putK kvs (Sum.inr kd.s:Key) (.ref p))))) (rs++[(kd,r)]) (kvs++[((Sum.inr kd.s:Key),V.ref p)]):=zB0 (Paired.mapP ps1 λ U U z=>z.mono (g2.tk.trans tkd)) (.cons ⟨⟨hlf,by rw[lr,hm];rfl,b1,b9,bk⟩,rfl,p,rfl,tkd _ _ ep⟩ .nil)
      rw[←zCh (V.ref p) nv] at pz;exact pz
     ·rw[zCh _ nv,List.length_append]
      show kvs.length+1<=i+1;omega
     ·intro p0 hp0
      rcases lK.mp hp0 with h|h
      ·exact fin0 p0 h
      ·rw[List.mem_singleton.mp h,etk]
       exact lK.mpr (.inr (by simp))
   ·exact⟨rs,kvs,_,_,_,_,_,_,rfl,gA,ea1,el1,ed1,ps1,nd,by omega,fin0⟩
  ·refine⟨_,rfl,rfl,_,rfl,ite2 (λ c2=>?_) (λ c2=>?_)⟩
   ·have ek:kd = .ite:=Kd.eq_iff.mp (lU c2)
    have hm:kd.many=3:=by rw[ek];rfl
    refine⟨_,rfl,_,_,rfl,rfl,(show (0:Int)<3 by decide),_,_,rfl,rfl,_,rfl,ite2 (λ U=>?_) (λ U=>?_)⟩
    ·have m0:=Int.emod_nonneg (c / 3) (show (9:Int)≠0 by decide)
     have m1:=Int.emod_lt_of_pos (c / 3) (show (0:Int)<9 by decide);refine⟨_,rfl,_,_,rfl,rfl,⟨(show (0:Int)<3 by decide),(show (3:Int)<1073741824 by decide)⟩,_,_,rfl,rfl,(show (0:Int)<9 by decide),_,_,rfl,rfl,d1,λ p1 hp1=>?_⟩;refine⟨_,rfl,_,_,rfl,rfl,⟨(show (0:Int)<27 by decide),(show (27:Int)<1073741824 by decide)⟩,?_⟩;dsimp only;generalize hc1:1+c / 3 % 9=c1v at hp1 ⊢;have gp:=zAC (o:=.tup [.int c1v]) hp1;refine⟨_,rfl,3,rfl,by decide,by decide,?_⟩;refine zCS (n:=(3:Int).toNat) (λ j σ' H'=>∃(r:List Nat) (p:Addr) (z:Int) (s7:Option V),σ'=[some (.ref a),some (.ref d),some (.str kd.s),some (.int c),some (.int 3),some (.ref p),some (.int z),s7]/\Same H1 H'/\H' p=some (.tup (natV r))/\r.length=j+1/\1<=r.getD 0 0/\r.getD 0 0<=9/\∀x∈r.drop 1,1<=x/\x<=3) ?_ ?_ ?_
     ·refine⟨[c1v.toNat],p1,_,s7,rfl,gp,?_,rfl,?_,?_,by simp⟩
      ·rw[zAB]
       exact congrArg (λ x=>some (HO.tup x)) (zCR [] c1v (by omega))
      ·show 1<=c1v.toNat
       omega
      ·show c1v.toNat<=9
       omega
     ·rintro j σ2 H2 hj ⟨r,p,z,s7,rfl,g2,ep,lr,b1,b9,bk⟩
      have hj3:j<3:=by simpa using hj
      have z0:=Int.emod_nonneg z (show (3:Int)≠0 by decide);have z1:=Int.emod_lt_of_pos z (show (0:Int)<3 by decide);refine⟨_,rfl,_,rfl,_,_,rfl,rfl,(show (0:Int)<3 by decide),_,_,rfl,rfl,d1,λ pt hpt=>?_⟩;have g3:=zAC (o:=.tup [.int (1+z % 3)]) hpt;refine⟨p,pt,_,_,rfl,rfl,g3 _ _ ep,zAB,zAe (by rw[zDx];simp;omega),λ p' H3 g4 e4=>?_⟩;refine⟨_,rfl,_,_,rfl,rfl,⟨(show (0:Int)<3 by decide),(show (3:Int)<1073741824 by decide)⟩,?_⟩;rw[zCR r (1+z % 3) (by omega)] at e4
      obtain⟨r0,rt,er⟩:∃r0 rt,r=r0::rt:=by
       cases r with
       |nil=>simp at lr
       |cons r0 rt=>exact⟨r0,rt,rfl⟩
      subst er;refine⟨(r0::rt)++[(1+z % 3).toNat],p',_,_,rfl,g2.trans (g3.trans g4),e4,by simp at lr ⊢;omega,b1,b9,?_⟩;intro x hx;have hx':x∈rt++[(1+z % 3).toNat]:=hx;rcases lK.mp hx' with h|h
      ·exact bk x h
      ·have:=List.mem_singleton.mp h
       omega
     ·rintro σ2 H2 ⟨r,p,z,s7,rfl,g2,ep,lr,b1,b9,bk⟩
      have ed2:=g2 _ _ ed1
      have nv:valV kvs (Sum.inr kd.s:Key)=none:=by
       rcases zD4 ps1 kd with ⟨_,h⟩|⟨r',b,h,_⟩
       ·exact h
       ·rw[zDK (rs:=rs) (k:=kd) ?_] at h
        ·cases h
        ·intro z
         obtain⟨p0,hp0,ez⟩:=mE.mp z;exact zHG hkd (ez▸hin p0 hp0)
      refine⟨_,rfl,_,rfl,_,rfl,d,_,rfl,DPut.k (k:=Sum.inr kd.s) ed2 (zAQ (by omega)),?_⟩;have tkd:Tk H2 (upd H2 d (.dK (putK kvs (Sum.inr kd.s:Key) (.ref p)))):=Tk.dk ed2;refine⟨rs++[(kd,r)],putK kvs (Sum.inr kd.s:Key) (.ref p),_,_,_,_,_,_,rfl,zAO (gA.trans g2) hd,by rw[zAW nad];exact g2 _ _ ea1,by rw[zAW nld];exact g2 _ _ el1,zAB,?_,zHa _ nd nv,?_,?_⟩
      ·have pz:Paired (RowAt (upd H2 d (.dK (putK kvs (Sum.inr kd.s:Key) (.ref p))))) (rs++[(kd,r)]) (kvs++[((Sum.inr kd.s:Key),V.ref p)]):=zB0 (Paired.mapP ps1 λ U U z=>z.mono (g2.tk.trans tkd)) (.cons ⟨⟨hlf,by rw[lr,hm];rfl,b1,b9,bk⟩,rfl,p,rfl,tkd _ _ ep⟩ .nil)
       rw[←zCh (V.ref p) nv] at pz;exact pz
      ·rw[zCh _ nv,List.length_append]
       show kvs.length+1<=i+1;omega
      ·intro p0 hp0
       rcases lK.mp hp0 with h|h
       ·exact fin0 p0 h
       ·rw[List.mem_singleton.mp h,etk]
        exact lK.mpr (.inr (by simp))
    ·exact⟨rs,kvs,_,_,_,_,_,_,rfl,gA,ea1,el1,ed1,ps1,nd,by omega,fin0⟩
   ·have hm:kd.many=2:=by
     cases kd with
     |say=>exact absurd rfl c1
     |ite=>exact absurd rfl c2
     |num=>cases hlf
     |name=>cases hlf
     |ask=>cases hlf
     |stop=>cases hlf
     |gap=>cases hlf
     |_=>rfl
    refine⟨_,rfl,_,_,rfl,rfl,(show (0:Int)<3 by decide),_,_,rfl,rfl,_,rfl,ite2 (λ U=>?_) (λ U=>?_)⟩
    ·have m0:=Int.emod_nonneg (c / 3) (show (9:Int)≠0 by decide)
     have m1:=Int.emod_lt_of_pos (c / 3) (show (0:Int)<9 by decide);refine⟨_,rfl,_,_,rfl,rfl,⟨(show (0:Int)<3 by decide),(show (3:Int)<1073741824 by decide)⟩,_,_,rfl,rfl,(show (0:Int)<9 by decide),_,_,rfl,rfl,d1,λ p1 hp1=>?_⟩;refine⟨_,rfl,_,_,rfl,rfl,⟨(show (0:Int)<27 by decide),(show (27:Int)<1073741824 by decide)⟩,?_⟩;dsimp only;generalize hc1:1+c / 3 % 9=c1v at hp1 ⊢;have gp:=zAC (o:=.tup [.int c1v]) hp1;refine⟨_,rfl,2,rfl,by decide,by decide,?_⟩;refine zCS (n:=(2:Int).toNat) (λ j σ' H'=>∃(r:List Nat) (p:Addr) (z:Int) (s7:Option V),σ'=[some (.ref a),some (.ref d),some (.str kd.s),some (.int c),some (.int 2),some (.ref p),some (.int z),s7]/\Same H1 H'/\H' p=some (.tup (natV r))/\r.length=j+1/\1<=r.getD 0 0/\r.getD 0 0<=9/\∀x∈r.drop 1,1<=x/\x<=3) ?_ ?_ ?_
     ·refine⟨[c1v.toNat],p1,_,s7,rfl,gp,?_,rfl,?_,?_,by simp⟩
      ·rw[zAB]
       exact congrArg (λ x=>some (HO.tup x)) (zCR [] c1v (by omega))
      ·show 1<=c1v.toNat
       omega
      ·show c1v.toNat<=9
       omega
     ·rintro j σ2 H2 hj ⟨r,p,z,s7,rfl,g2,ep,lr,b1,b9,bk⟩
      have hj3:j<2:=by simpa using hj
      have z0:=Int.emod_nonneg z (show (3:Int)≠0 by decide);have z1:=Int.emod_lt_of_pos z (show (0:Int)<3 by decide);refine⟨_,rfl,_,rfl,_,_,rfl,rfl,(show (0:Int)<3 by decide),_,_,rfl,rfl,d1,λ pt hpt=>?_⟩;have g3:=zAC (o:=.tup [.int (1+z % 3)]) hpt;refine⟨p,pt,_,_,rfl,rfl,g3 _ _ ep,zAB,zAe (by rw[zDx];simp;omega),λ p' H3 g4 e4=>?_⟩;refine⟨_,rfl,_,_,rfl,rfl,⟨(show (0:Int)<3 by decide),(show (3:Int)<1073741824 by decide)⟩,?_⟩;rw[zCR r (1+z % 3) (by omega)] at e4
      obtain⟨r0,rt,er⟩:∃r0 rt,r=r0::rt:=by
       cases r with
       |nil=>simp at lr
       |cons r0 rt=>exact⟨r0,rt,rfl⟩
      subst er;refine⟨(r0::rt)++[(1+z % 3).toNat],p',_,_,rfl,g2.trans (g3.trans g4),e4,by simp at lr ⊢;omega,b1,b9,?_⟩;intro x hx;have hx':x∈rt++[(1+z % 3).toNat]:=hx;rcases lK.mp hx' with h|h
      ·exact bk x h
      ·have:=List.mem_singleton.mp h
       omega
     ·rintro σ2 H2 ⟨r,p,z,s7,rfl,g2,ep,lr,b1,b9,bk⟩
      have ed2:=g2 _ _ ed1
      have nv:valV kvs (Sum.inr kd.s:Key)=none:=by
       rcases zD4 ps1 kd with ⟨_,h⟩|⟨r',b,h,_⟩
       ·exact h
       ·rw[zDK (rs:=rs) (k:=kd) ?_] at h
        ·cases h
        ·intro z
         obtain⟨p0,hp0,ez⟩:=mE.mp z;exact zHG hkd (ez▸hin p0 hp0)
      refine⟨_,rfl,_,rfl,_,rfl,d,_,rfl,DPut.k (k:=Sum.inr kd.s) ed2 (zAQ (by omega)),?_⟩;have tkd:Tk H2 (upd H2 d (.dK (putK kvs (Sum.inr kd.s:Key) (.ref p)))):=Tk.dk ed2;refine⟨rs++[(kd,r)],putK kvs (Sum.inr kd.s:Key) (.ref p),_,_,_,_,_,_,rfl,zAO (gA.trans g2) hd,by rw[zAW nad];exact g2 _ _ ea1,by rw[zAW nld];exact g2 _ _ el1,zAB,?_,zHa _ nd nv,?_,?_⟩
      ·have pz:Paired (RowAt (upd H2 d (.dK (putK kvs (Sum.inr kd.s:Key) (.ref p))))) (rs++[(kd,r)]) (kvs++[((Sum.inr kd.s:Key),V.ref p)]):=zB0 (Paired.mapP ps1 λ U U z=>z.mono (g2.tk.trans tkd)) (.cons ⟨⟨hlf,by rw[lr,hm];rfl,b1,b9,bk⟩,rfl,p,rfl,tkd _ _ ep⟩ .nil)
       rw[←zCh (V.ref p) nv] at pz;exact pz
      ·rw[zCh _ nv,List.length_append]
       show kvs.length+1<=i+1;omega
      ·intro p0 hp0
       rcases lK.mp hp0 with h|h
       ·exact fin0 p0 h
       ·rw[List.mem_singleton.mp h,etk]
        exact lK.mpr (.inr (by simp))
    ·exact⟨rs,kvs,_,_,_,_,_,_,rfl,gA,ea1,el1,ed1,ps1,nd,by omega,fin0⟩
 ·rintro σ' H' ⟨rs,kvs,s2,s3,s4,s5,s6,s7,rfl,g,ea,el,ed,ps,nd,le,hin⟩
  rw[lcs] at le;exact⟨_,rfl,q d rs kvs H' g ed ⟨.inl ed,ps,nd,le⟩⟩
abbrev zDY:Stmt:=top 56
theorem zA5:zAY ["_law_cells", "_law_leaves", "_law_loud", "_law_stack", "_law_cell", "_law_way", "_law_number"] ["_law_cells", "_law_leaves", "_law_loud"] (zAJ zDY):=by nofun
noncomputable def zHw (K:W.Frag):Sp:=λ vs H Q U=>∃(a b:Addr) (lo:Bool) (cs:List Int) (us:List V) (lv:List Tr) (S:List Str),vs=[.ref a,.ref b,.bl lo]/\SqL K H a (cs.map V.int)/\cs.length<=20/\H b=some (.lst us)/\Paired (Rep H) lv us/\1<=lv.length/\lv.length<=100/\(∀t∈lv,t.size=1)/\GS S lv /\
 ∀(t:Tr) (v:V) (H':Hp),Same H H'->Rep H' t v->t.size<=2 * cs.length+1->(∀g∈t.odd,g∈S)->Q v H'
noncomputable def Ws (H0:Hp) (S:List Str) (n:Nat) (av bv lv:V) (m:Nat) (σ:L2.St) (H:Hp):Prop:=∃(r:Addr) (us:List V) (ts:List Tr) (s4 s5 s6:Option V),σ=[some av,some bv,some lv,some (.ref r),s4,s5,s6]/\Same H0 H/\H r=some (.lst us)/\Paired (Rep H) ts us/\ts.length=m/\szT ts+ts.length<=2 * n/\GS S ts
set_option pp.all false in
theorem zLQ {k:Nat}{f:Addr}{fd:FuncData}(F:Fun K "_law_shape" "_law_shape" zDY f fd) (z_len:mg "len" = none):FnOk P w K mg base CX0 (k+1) f fd ["_law_cells", "_law_leaves", "_law_loud"] (zHw K):=by
 refine F.ok zA5 (λ vs H Q E h=>?_) (λ cdv A outer s H vs Q E hr h=>?_)
 ·obtain⟨a,b,lo,cs,us,lv,S,rfl,_⟩:=h
  rfl
 obtain⟨a,b,lo,cs,lus,lv,S,rfl,hS,hcs,hb,pl,hl1,hl2,hlf,hgs,q⟩:=h;have hu0:=Nat.lt_of_succ_lt (hu_of hr)
 refine⟨_,(Sd.un (zAw (zEm (i:=3) zA5.nd rfl (Or.inl rfl) (zJh ⟨zAD⟩))
  (zAw ⟨zAo PassesOwn.never rfl (zA4 (pv 0)) (zAK (i:=4) zA5.nd rfl (Or.inl rfl)) (zAE (zAV (i:=5) zA5.nd rfl (Or.inl rfl) (pe_op zBO (pv 4) zAG))
  (zAE (zAV (i:=6) zA5.nd rfl (Or.inl rfl) (pe_op zBL (pv 4) zAG))
  (zAF (ps_if (zCQ (zAN op_eq (pv 5) zAG (zAZ _)) (zCQ (zDp (pv 2) (λ U=>rfl)) (zBx (zAN (zJl hu0) (pv 3) (zA2 zAD:PE _ _ _) (zAZ _))))).pt (zAF (zNx (zAj (zAA zAd (zAA (pe_ix (r:=rIxL K) zAh (pv 3) (pe_un zCM zAG) (λ U U=>rfl)) zAD)):PE _ _ _) (zN2 (pv 3) (pe_un zCM zAG) zK8))) (zAF (ps_if (zCQ (zAN op_eq (pv 5) zAG (zAZ _)) (zBx (zAN op_gt (zAX zAa (by rfl) z_len PySem.boot_len (zAA (pv 3) zAD)) zAG (zAZ _)))).pt (zAF (zAV (i:=3) zA5.nd rfl (Or.inl rfl) (pe_op zDw (zBU (r:=rSlL K) zHF (pv 3) zBy (zBj (pe_un zCM zAG))) (zA2 (zAA (zAj (zAA zAd (zAA (pe_ix (r:=rIxL K) zAh (pv 3) (pe_un zCM zAG) (λ U U=>rfl)) (zAA (pe_ix (r:=rIxL K) zAh (pv 3) (pe_un zCM zAG) (λ U U=>rfl)) (zAA (pe_ix (r:=rIxL K) zAh (pv 3) (pe_un zCM zAG) (λ U U=>rfl)) zAD)))):PE _ _ _) zAD):PE _ _ _)))) (zAF (ps_if (zCQ (zAN (r:=rIn K false) zB1 (pv 5) (zAj (zAA zAG (zAA zAG zAD)):PE _ _ _) rfl) (zBx (zAN op_gt (zAX zAa (by rfl) z_len PySem.boot_len (zAA (pv 3) zAD)) zAG (zAZ _)))).pt (zAF (zAV (i:=3) zA5.nd rfl (Or.inl rfl) (pe_op zDw (zBU (r:=rSlL K) zHF (pv 3) zBy (zBj (pe_un zCM zAG))) (zA2 (zAA (zAj (zAA (pe_ix (r:=rIxL K) zAh (zJi [.str "add", .str "sub", .str "mul", .str "then"] (by rfl):PE _ _ _) (pe_op zBO (pv 6) zAG) (λ U U=>rfl)) (zAA (pe_ix (r:=rIxL K) zAh (pv 3) (pe_un zCM zAG) (λ U U=>rfl)) (zAA (pe_ix (r:=rIxL K) zAh (pv 3) (pe_un zCM zAG) (λ U U=>rfl)) zAD))):PE _ _ _) zAD):PE _ _ _)))) (zAF (ps_if (zAN op_eq (pe_op zBO (pv 6) (pe_op zB9 (zAX zAa (by rfl) z_len PySem.boot_len (zAA (pv 1) zAD)) zAG)) (zAX zAa (by rfl) z_len PySem.boot_len (zAA (pv 1) zAD)) (zAZ _)) (zAF (zAt (pe_bm PySem.F.plainAttrs_list PySem.F.slot_list_append PySem.F.type_list_append zA8 (pv 3) (zAA (zAj (zAA zAd (zAA (pe_op zBO (pe_op zBL (pv 6) (pe_op zB9 (zAX zAa (by rfl) z_len PySem.boot_len (zAA (pv 1) zAD)) zAG)) (pe_op zML zAG zAG)) zAD)):PE _ _ _) zAD)))) (zAF (zAt (pe_bm PySem.F.plainAttrs_list PySem.F.slot_list_append PySem.F.type_list_append zA8 (pv 3) (zAA (pe_ix (r:=rIxL K) zAh (pv 1) (pe_op zBO (pv 6) (pe_op zB9 (zAX zAa (by rfl) z_len PySem.boot_len (zAA (pv 1) zAD)) zAG)) (λ U U=>rfl)) zAD))))))))))))))⟩
  (zAw ⟨zDs PassesOwn.never (zAN op_gt (zAX zAa (by rfl) z_len PySem.boot_len (zAA (pv 3) zAD)) zAG (zAZ _)) (zAF (zAV (i:=3) zA5.nd rfl (Or.inl rfl) (pe_op zDw (zBU (r:=rSlL K) zHF (pv 3) zBy (zBj (pe_un zCM zAG))) (zA2 (zAA (zAj (zAA zAd (zAA (pe_ix (r:=rIxL K) zAh (pv 3) (pe_un zCM zAG) (λ U U=>rfl)) (zAA (pe_ix (r:=rIxL K) zAh (pv 3) (pe_un zCM zAG) (λ U U=>rfl)) zAD))):PE _ _ _) zAD):PE _ _ _))))⟩
  (zAw (zGi ⟨zAN (zM7 hu0) (pv 3) (zA2 zAD:PE _ _ _) (zAZ _)⟩ (zBS (zCJ (zDQ (r:=rIxL K) zAh ⟨pv 1⟩ ⟨zAG⟩ (λ U U=>rfl)))) ⟨zAU⟩)
  (zBS (zCJ (zDQ (r:=rIxL K) zAh ⟨pv 3⟩ ⟨zAG⟩ (λ U U=>rfl))))))))),?_⟩
 try dsimp only[cxOf,Cx.nox]
 have d1:1<=sizeLine:=by decide
 have d2:2<=sizeLine:=by decide
 have d3:3<=sizeLine:=by decide
 have d4:4<=sizeLine:=by decide
 have llu:lus.length=lv.length:=zAH pl;refine⟨(by show 0<=sizeLine;decide),λ r0 hr0=>?_⟩;have g0:=zAC (o:=.lst []) hr0;refine⟨_,rfl,a,rfl,⟨_,g0.seq hS⟩,?_⟩;refine zA9 (xs:=cs.map V.int) (λ i σ' H'=>∃(r:Addr) (us:List V) (ts:List Tr) (s4 s5 s6:Option V),σ'=[some (.ref a),some (.ref b),some (.bl lo),some (.ref r),s4,s5,s6]/\Same H H'/\H r=none/\H' r=some (.lst us)/\Paired (Rep H') ts us/\szT ts<=i/\GS S ts) ?_ ?_ ?_ ?_
 ·exact⟨r0,[],[],none,none,none,rfl,g0,hr0,zAB,.nil,lS _,λ t ht=>by cases ht⟩
 ·rintro i σ1 H1 _ ⟨r,us,ts,s4,s5,s6,rfl,g1,_⟩
  exact g1.seq hS
 ·rintro i x σ1 H1 hx ⟨r,us,ts,s4,s5,s6,rfl,g1,hrn,er,pr,sz,gs⟩
  rw[List.getElem?_map] at hx;obtain⟨c,hc,rfl⟩:=lW.mp hx;have hi:i<cs.length:=(lJ.mp hc).1;have lu:us.length=ts.length:=zAH pr;have lt:=zD6 ts;refine⟨_,rfl,_,_,rfl,rfl,(show (0:Int)<8 by decide),?_⟩;refine⟨_,rfl,_,_,rfl,rfl,⟨(show (0:Int)<8 by decide),(show (8:Int)<1073741824 by decide)⟩,?_⟩;dsimp only;generalize c % 8=way;generalize c / 8=num;apply via (H1:=H1)
  ·intro rest
   refine⟨_,rfl,rfl,_,rfl,ite2 (λ U=>⟨_,rfl,_,rfl,ite2 (λ U=>?_) (λ U=>iteF (rest H1 (.refl _)))⟩) (λ U=>iteF (rest H1 (.refl _)))⟩;refine⟨_,rfl,(by show 0<=sizeLine;decide),λ pe hpe=>⟨r,pe,us,rfl,rfl,zAC hpe _ _ er,zAB,_,rfl,ite2 (λ c3=>?_) (λ U=>rest _ (zAC hpe))⟩⟩
   have hne:0<us.length:=by
    rcases Nat.eq_zero_or_pos us.length with h|h
    ·rw[h] at c3;simp at c3
    ·exact h
   obtain⟨ts0,us0,t,u,rfl,rfl,p0,rt⟩:=zA7 pr hne;have g2:=zAC (o:=.lst []) hpe;have at1:atI (us0++[u]) (-1)=some u:=zL6 _ _;refine⟨_,rfl,_,rfl,r,_,_,_,rfl,rfl,SqL.of (g2 _ _ er),at1,d2,λ pt hpt=>?_⟩;have g3:=zAC (o:=.tup [.str "say", u]) hpt;have er3:=g3 _ _ (g2 _ _ er);refine⟨_,rfl,_,rfl,r,_,_,us0.length,rfl,rfl,er3,zLn us0 u,?_⟩;have es:(us0++[u]).set us0.length (.ref pt)=us0++[.ref pt]:=by simp
   rw[es];have tk:Tk H1 _:=(g2.trans g3).tk.trans (Tk.lst (o:=.lst (us0++[.ref pt])) er3);refine⟨r,us0++[.ref pt],ts0++[.say t],_,_,_,rfl,zAO (g1.trans (g2.trans g3)) hrn,hrn,zAB,zAP (Paired.mapP p0 λ U U z=>z.mono tk) (.cons (show Rep _ (.say t) (.ref pt) from⟨pt,u,rfl,(Tk.lst (o:=.lst (us0++[.ref pt])) er3) _ _ zAB,rt.mono tk⟩) .nil),?_,gs.left.app (.one ?_)⟩
   ·rw[zBr,zA0,zCV] at sz ⊢
    show szT ts0+(t.size+1+0)<=i+1;omega
   ·exact gs.right t (List.mem_singleton.mpr rfl)
  intro H2 g2;apply via (H1:=H2)
  ·intro rest
   refine⟨_,rfl,rfl,_,rfl,ite2 (λ U=>?_) (λ U=>iteF (rest H2 (.refl _)))⟩;refine⟨_,rfl,r,_,rfl,.inl (SqL.of (g2 _ _ er)),_,_,rfl,rfl,_,rfl,ite2 (λ c3=>?_) (λ U=>rest H2 (.refl _))⟩;have c3':(2:Int)<(us.length:Int):=lU c3;obtain⟨ts1,us1,t3,u3,rfl,rfl,p1,r3⟩:=zA7 pr (by omega);obtain⟨ts2,us2,t2,u2,rfl,rfl,p2,r2⟩:=zA7 p1 (by simp at c3';omega);obtain⟨ts3,us3,t1,u1,rfl,rfl,p3,r1⟩:=zA7 p2 (by simp at c3';omega);have eu:us3++[u1]++[u2]++[u3]=us3++[u1,u2,u3]:=by simp
   have et:ts3++[t1]++[t2]++[t3]=ts3++[t1,t2,t3]:=by simp
   rw[eu] at er lu;rw[et] at gs sz lt lu;have a1:atI (us3++[u1,u2,u3]) (-1)=some u3:=zCn us3 [u1,u2,u3] (n:=1) (j:=0) (by decide) (by simp) rfl;have a2:atI (us3++[u1,u2,u3]) (-2)=some u2:=zCn us3 [u1,u2,u3] (n:=2) (j:=0) (by decide) (by simp) rfl;have a3:atI (us3++[u1,u2,u3]) (-3)=some u1:=zCn us3 [u1,u2,u3] (n:=3) (j:=0) (by decide) (by simp) rfl;have cb:cutV (us3++[u1,u2,u3]) none (some (-3))=us3:=zGK us3 [u1,u2,u3] 3 (by decide) rfl;refine⟨_,rfl,_,rfl,_,rfl,r,_,rfl,SqL.of (g2 _ _ er),λ ps hps=>?_⟩;rw[cb];have g3:=zAC (o:=.lst us3) hps;have e3:(upd H2 ps (.lst us3)) ps=some (.lst us3):=zAB;have er3:=g3 _ _ (g2 _ _ er);generalize upd H2 ps (.lst us3)=H3 at g3 e3 er3 ⊢;refine⟨_,rfl,_,rfl,r,_,_,_,rfl,rfl,SqL.of er3,a3,_,rfl,_,rfl,r,_,_,_,rfl,rfl,SqL.of er3,a2,_,rfl,_,rfl,r,_,_,_,rfl,rfl,SqL.of er3,a1,d4,λ pt hpt=>⟨d1,λ pb hpb=>?_⟩⟩;have g4:=zAC (o:=.tup [.str "if", u1,u2,u3]) hpt;have g5:=zAC (o:=.lst [.ref pt]) hpb;refine⟨ps,pb,us3,[.ref pt],rfl,rfl,g5 _ _ (g4 _ _ e3),zAB,zAe (by have h9:=lt;have h8:=zAH p3;rw[List.length_append] at h9;simp;omega),λ px hpx=>?_⟩;have g6:=zAC (o:=.lst (us3++[.ref pt])) hpx;have G:=g2.trans (g3.trans (g4.trans (g5.trans g6)));refine⟨px,us3++[.ref pt],ts3++[.ite t1 t2 t3],_,_,_,rfl,g1.trans G,(g1.trans (g2.trans (g3.trans (g4.trans g5)))).free hpx,zAB,zAP (Paired.mapP p3 λ U U z=>z.mono G.tk) (.cons (show Rep _ (.ite t1 t2 t3) (.ref pt) from⟨pt,u1,u2,u3,rfl,g6 _ _ (g5 _ _ zAB),r1.mono G.tk,r2.mono G.tk,r3.mono G.tk⟩) .nil),?_,gs.left.app (.one λ g hg=>?_)⟩
   ·rw[zBr,zA0,zA0,zA0,zCV] at sz
    rw[zBr,zA0,zCV];show szT ts3+(t1.size+t2.size+t3.size+1+0)<=i+1;omega
   ·rcases lK.mp hg with h|h
    ·exact gs.right t1 (by simp) g h
    ·rcases lK.mp h with h|h
     ·exact gs.right t2 (by simp) g h
     ·exact gs.right t3 (by simp) g h
  intro H3 g3;have g13:=g2.trans g3;apply via (H1:=H3)
  ·intro rest
   refine⟨_,rfl,d2,λ pq hpq=>⟨pq,_,rfl,.inr (SqT.of zAB),rfl,rfl,_,rfl,ite2 (λ U=>?_) (λ U=>iteF (rest _ (zAC hpq)))⟩⟩;have g4:=g13.trans (zAC (o:=.tup [.int 4,.int 5]) hpq);refine⟨_,rfl,r,_,rfl,.inl (SqL.of (g4 _ _ er)),_,_,rfl,rfl,_,rfl,ite2 (λ c3=>?_) (λ U=>rest _ (zAC hpq))⟩;have c3':(1:Int)<(us.length:Int):=lU c3;obtain⟨ts1,us1,t2,u2,rfl,rfl,p1,r2⟩:=zA7 pr (by omega);obtain⟨ts2,us2,t1,u1,rfl,rfl,p2,r1⟩:=zA7 p1 (by simp at c3';omega);have eu:us2++[u1]++[u2]=us2++[u1,u2]:=by simp
   have et:ts2++[t1]++[t2]=ts2++[t1,t2]:=by simp
   rw[eu] at er lu;rw[et] at gs sz lt lu;have a1:atI (us2++[u1,u2]) (-1)=some u2:=zCn us2 [u1,u2] (n:=1) (j:=0) (by decide) (by simp) rfl;have a2:atI (us2++[u1,u2]) (-2)=some u1:=zCn us2 [u1,u2] (n:=2) (j:=0) (by decide) (by simp) rfl;have cb:cutV (us2++[u1,u2]) none (some (-2))=us2:=zGK us2 [u1,u2] 2 (by decide) rfl;obtain⟨o,eo⟩:=zNY num;have er4:=g4 _ _ er;generalize upd H3 pq (.tup [.int 4,.int 5])=H4 at g4 er4 ⊢;refine⟨_,rfl,_,rfl,_,rfl,r,_,rfl,SqL.of er4,λ ps hps=>?_⟩;rw[cb];have g5:=zAC (o:=.lst us2) hps;have e5:(upd H4 ps (.lst us2)) ps=some (.lst us2):=zAB;have er5:=g5 _ _ er4;generalize upd H4 ps (.lst us2)=H5 at g5 e5 er5 ⊢;refine⟨(by show 4<=sizeLine;decide),λ pw hpw=>?_⟩;have g6:=zAC (o:=.lst [.str "add", .str "sub", .str "mul", .str "then"]) hpw;have e6:=g6 _ _ e5;have er6:=g6 _ _ er5;have ew:(upd H5 pw (.lst [.str "add", .str "sub", .str "mul", .str "then"])) pw=some (.lst [.str "add", .str "sub", .str "mul", .str "then"]):=zAB;generalize upd H5 pw (.lst [.str "add", .str "sub", .str "mul", .str "then"])=H6 at g6 e6 er6 ew ⊢;refine⟨_,rfl,_,_,rfl,rfl,(show (0:Int)<4 by decide),pw,_,_,_,rfl,rfl,SqL.of ew,eo,?_⟩;refine⟨_,rfl,_,rfl,r,_,_,_,rfl,rfl,SqL.of er6,a2,_,rfl,_,rfl,r,_,_,_,rfl,rfl,SqL.of er6,a1,d3,λ pt hpt=>⟨d1,λ pb hpb=>?_⟩⟩;have g7:=zAC (o:=.tup [.str o.s,u1,u2]) hpt;have g8:=zAC (o:=.lst [.ref pt]) hpb;refine⟨ps,pb,us2,[.ref pt],rfl,rfl,g8 _ _ (g7 _ _ e6),zAB,zAe (by have h9:=lt;have h8:=zAH p2;rw[List.length_append] at h9;simp;omega),λ px hpx=>?_⟩;have g9:=zAC (o:=.lst (us2++[.ref pt])) hpx;have G8:=g4.trans (g5.trans (g6.trans (g7.trans g8)));have G:=G8.trans g9;refine⟨px,us2++[.ref pt],ts2++[.bin o t1 t2],_,_,_,rfl,g1.trans G,(g1.trans G8).free hpx,zAB,zAP (Paired.mapP p2 λ U U z=>z.mono G.tk) (.cons (show Rep _ (.bin o t1 t2) (.ref pt) from⟨pt,u1,u2,rfl,g9 _ _ (g8 _ _ zAB),r1.mono G.tk,r2.mono G.tk⟩) .nil),?_,gs.left.app (.one λ g hg=>?_)⟩
   ·rw[zBr,zA0,zA0,zCV] at sz
    rw[zBr,zA0,zCV];show szT ts2+(t1.size+t2.size+1+0)<=i+1;omega
   ·rcases lK.mp hg with h|h
    ·exact gs.right t1 (by simp) g h
    ·exact gs.right t2 (by simp) g h
  intro H4 g4;have g14:=g13.trans g4;have hb4:H4 b=some (.lst lus):=(g1.trans g14) _ _ hb;have er4:=g14 _ _ er;have m0:=Int.emod_nonneg num (show ((lus.length:Int)+1)≠0 by omega);have m1:=Int.emod_lt_of_pos num (show (0:Int)<(lus.length:Int)+1 by omega);refine⟨_,rfl,_,rfl,b,_,rfl,.inl (SqL.of hb4),_,_,rfl,rfl,_,_,rfl,rfl,(show (0:Int)<(lus.length:Int)+1 by omega),_,rfl,b,_,rfl,.inl (SqL.of hb4),rfl,_,rfl,ite2 (λ c4=>?_) (λ c4=>?_)⟩
  ·refine⟨_,rfl,.inl ⟨rfl,_,SqL.of er4⟩,_,rfl,_,rfl,b,_,rfl,.inl (SqL.of hb4),_,_,rfl,rfl,_,_,rfl,rfl,⟨(show (0:Int)<(lus.length:Int)+1 by omega),(show (lus.length:Int)+1<1073741824 by omega)⟩,_,_,rfl,rfl,⟨by decide,by decide,by decide⟩,_,_,rfl,rfl,(show (0:Int)<10 ^ 30 by decide),d2,λ pt hpt=>?_⟩
   have g5:=zAC (o:=.tup [.str "num", .int (num / ((lus.length:Int)+1) % 10 ^ (30:Int).toNat)]) hpt;have er5:=g5 _ _ er4;have ep:(upd H4 pt (.tup [.str "num", .int (num / ((lus.length:Int)+1) % 10 ^ (30:Int).toNat)])) pt=some (.tup [.str "num", .int (num / ((lus.length:Int)+1) % 10 ^ (30:Int).toNat)]):=zAB;refine⟨r,us,.ref pt,rfl,rfl,er5,zAQ (by omega),?_⟩;generalize upd H4 pt (.tup [.str "num", .int (num / ((lus.length:Int)+1) % 10 ^ (30:Int).toNat)])=H5 at g5 er5 ep ⊢;have tk:Tk H5 (upd H5 r (.lst (us++[.ref pt]))):=Tk.lst er5;have tk1:Tk H1 (upd H5 r (.lst (us++[.ref pt]))):=(g14.trans g5).tk.trans tk;refine⟨r,us++[.ref pt],ts++[.num (num / ((lus.length:Int)+1) % 10 ^ (30:Int).toNat)],_,_,_,rfl,zAO (g1.trans (g14.trans g5)) hrn,hrn,zAB,zAP (Paired.mapP pr λ U U z=>z.mono tk1) (.cons (show Rep _ (.num _) (.ref pt) from⟨pt,rfl,tk _ _ ep⟩) .nil),?_,gs.app (.one λ g hg=>by cases hg)⟩;rw[zBr,zA0,zCV];show szT ts+(1+0)<=i+1;omega
  ·have c4':¬num % ((lus.length:Int)+1)=(lus.length:Int):=λ z=>c4 (lV (by show V.int _=V.int _;rw[z]))
   obtain⟨kx,ekx⟩:∃kx:Nat,(kx:Int)=num % ((lus.length:Int)+1):=⟨(num % ((lus.length:Int)+1)).toNat,by omega⟩;have hkx:kx<lus.length:=by omega
   obtain⟨u,hu⟩:∃u,lus[kx]?=some u:=⟨_,lX hkx⟩;obtain⟨t,ht,rt⟩:=zAR pl hu;have hmem:=lN ht;have atk:atI lus (num % ((lus.length:Int)+1))=some u:=by rw[←ekx];exact zAI hu
   refine⟨_,rfl,.inl ⟨rfl,_,SqL.of er4⟩,_,rfl,_,rfl,_,rfl,b,_,rfl,.inl (SqL.of hb4),_,_,rfl,rfl,_,_,rfl,rfl,(show (0:Int)<(lus.length:Int)+1 by omega),b,_,_,_,rfl,rfl,SqL.of hb4,atk,?_⟩;refine⟨r,us,u,rfl,rfl,er4,zAQ (by omega),?_⟩;have tk:Tk H4 (upd H4 r (.lst (us++[u]))):=Tk.lst er4;have tk1:Tk H1 (upd H4 r (.lst (us++[u]))):=g14.tk.trans tk;refine⟨r,us++[u],ts++[t],_,_,_,rfl,zAO (g1.trans g14) hrn,hrn,zAB,zAP (Paired.mapP pr λ U U z=>z.mono tk1) (.cons (rt.mono (g1.tk.trans tk1)) .nil),?_,gs.app (.one λ g hg=>hgs t hmem g hg)⟩;rw[zBr,zA0,zCV,hlf t hmem];omega
 rintro σ1 H1 ⟨r,us,ts,s4,s5,s6,rfl,g1,hrn,er,pr,sz,gs⟩;rw[List.length_map] at sz;have lt:=zD6 ts;refine⟨Ws H S cs.length (.ref a) (.ref b) (.bl lo),⟨_,r,us,ts,_,_,_,rfl,g1,er,pr,rfl,by omega,gs⟩,?_⟩;clear pr er gs sz lt hrn g1;rintro m σ2 H2 ⟨r,us,ts,s4,s5,s6,rfl,g2,er,pr,lm,bd,gs⟩;have lu:us.length=ts.length:=zAH pr;have lt:=zD6 ts;refine⟨_,rfl,r,_,rfl,.inl (SqL.of er),_,_,rfl,rfl,_,rfl,ite2 (λ c1=>?_) (λ c1=>?_)⟩
 ·have c1':(1:Int)<(us.length:Int):=lU c1
  refine⟨λ σ' H'=>∃m',m'<m/\Ws H S cs.length (.ref a) (.ref b) (.bl lo) m' σ' H',λ σ' H' z=>z,?_⟩;obtain⟨ts1,us1,t2,u2,rfl,rfl,p1,r2⟩:=zA7 pr (by omega);obtain⟨ts2,us2,t1,u1,rfl,rfl,p2,r1⟩:=zA7 p1 (by simp at c1';omega);have eu:us2++[u1]++[u2]=us2++[u1,u2]:=by simp
  have et:ts2++[t1]++[t2]=ts2++[t1,t2]:=by simp
  rw[eu] at er lu;rw[et] at gs bd lt lu lm;have a1:atI (us2++[u1,u2]) (-1)=some u2:=zCn us2 [u1,u2] (n:=1) (j:=0) (by decide) (by simp) rfl;have a2:atI (us2++[u1,u2]) (-2)=some u1:=zCn us2 [u1,u2] (n:=2) (j:=0) (by decide) (by simp) rfl;have cb:cutV (us2++[u1,u2]) none (some (-2))=us2:=zGK us2 [u1,u2] 2 (by decide) rfl;refine⟨_,rfl,_,rfl,_,rfl,r,_,rfl,SqL.of er,λ ps hps=>?_⟩;rw[cb];have g5:=zAC (o:=.lst us2) hps;have e5:(upd H2 ps (.lst us2)) ps=some (.lst us2):=zAB;have er5:=g5 _ _ er;generalize upd H2 ps (.lst us2)=H5 at g5 e5 er5 ⊢;refine⟨_,rfl,_,rfl,r,_,_,_,rfl,rfl,SqL.of er5,a2,_,rfl,_,rfl,r,_,_,_,rfl,rfl,SqL.of er5,a1,d3,λ pt hpt=>⟨d1,λ pb hpb=>?_⟩⟩;have g7:=zAC (o:=.tup [.str "add", u1,u2]) hpt;have g8:=zAC (o:=.lst [.ref pt]) hpb;refine⟨ps,pb,us2,[.ref pt],rfl,rfl,g8 _ _ (g7 _ _ e5),zAB,zAe (by have h9:=lt;have h8:=zAH p2;rw[List.length_append] at h9;simp;omega),λ px hpx=>?_⟩;have g9:=zAC (o:=.lst (us2++[.ref pt])) hpx;have G:=g5.trans (g7.trans (g8.trans g9));refine⟨ts2.length+1,by simp at lm;omega,px,us2++[.ref pt],ts2++[.bin .add t1 t2],_,_,_,rfl,g2.trans G,zAB,zAP (Paired.mapP p2 λ U U z=>z.mono G.tk) (.cons (show Rep _ (.bin .add t1 t2) (.ref pt) from⟨pt,u1,u2,rfl,g9 _ _ (g8 _ _ zAB),r1.mono G.tk,r2.mono G.tk⟩) .nil),by simp,?_,gs.left.app (.one λ g hg=>?_)⟩
  ·rw[zBr,zA0,zA0,zCV,List.length_append] at bd
   rw[zBr,zA0,zCV,List.length_append];simp only[List.length_cons,List.length_nil] at bd ⊢;show szT ts2+(t1.size+t2.size+1+0)+_<=_;omega
  ·rcases lK.mp hg with h|h
   ·exact gs.right t1 (by simp) g h
   ·exact gs.right t2 (by simp) g h
 ·have c1':¬(1:Int)<(us.length:Int):=λ z=>c1 (lV z)
  refine⟨_,rfl,(by show 0<=sizeLine;decide),λ pe hpe=>⟨r,pe,us,rfl,rfl,zAC hpe _ _ er,zAB,_,rfl,ite2 (λ c3=>?_) (λ c3=>?_)⟩⟩
  ·have gp:=zAC (o:=.lst []) hpe
   obtain⟨u,hu⟩:∃u,lus[0]?=some u:=⟨_,lX (by omega)⟩;obtain⟨t,ht,rt⟩:=zAR pl hu;have hmem:=lN ht;exact⟨_,rfl,b,_,0,u,rfl,rfl,SqL.of ((g2.trans gp) _ _ hb),zAI (j:=0) hu,q t u _ (g2.trans gp) (rt.mono (g2.trans gp).tk) (by rw[hlf t hmem];omega) λ g hg=>hgs t hmem g hg⟩
  ·have c3':us.length≠0:=λ z=>c3 (by rw[z];rfl)
   obtain⟨x,hx⟩:∃x,us[0]?=some x:=⟨_,lX (by omega)⟩;obtain⟨tx,ex,rx⟩:=zAR pr hx;have hmem:=lN ex
   have sx:tx.size<=szT ts:=by
    match ts,ex with
    |t::r,ex =>
     have:t=tx:=mG ex;rw[zA0,this];omega
   have gp:=zAC (o:=.lst []) hpe;exact⟨_,rfl,r,_,0,x,rfl,rfl,SqL.of (gp _ _ er),zAI (j:=0) hx,q tx x _ (g2.trans gp) (rx.mono gp.tk) (by omega) λ g hg=>gs tx hmem g hg⟩
abbrev zDa:Stmt:=top 52
theorem zGg:zAY ["_law_tree"] ["_law_tree"] (zAJ zDa):=by nofun
abbrev zDH:Stmt:=top 54
theorem zDU:zAY ["_law_shape_here", "_law_found", "_law_part"] ["_law_shape_here"] (zAJ zDH):=by nofun
abbrev zBk:Stmt:=top 55
theorem zDN:zAY ["_law_shape_here", "_law_part"] ["_law_shape_here"] (zAJ zBk):=by nofun
abbrev zCX:Stmt:=top 53
theorem zBA:zAY ["_law_tree", "_law_scale_here", "_law_worths", "_law_some", "_law_row", "_law_found", "_law_k"] ["_law_tree", "_law_scale_here", "_law_worths"] (zAJ zCX):=by nofun
theorem zJt {k:Nat}{f:Addr}{fd:FuncData}(F:Fun K "_law_parts" "_law_parts" zDa f fd):FnOk P w K mg base CX0 (k+1) f fd ["_law_tree"] zAu:=by
 refine F.ok zGg (λ vs H Q E h=>?_) (λ cdv A outer s H vs Q E hr h=>?_)
 ·obtain⟨t,v,rfl,_⟩:=h
  rfl
 obtain⟨t,v,rfl,hR,q⟩:=h
 refine⟨_,(zAE (ps_if (zAN (r:=rIn K false) zB1 (iC (r:=rIxT K) zAL (pv 0)) (zF3 [.str "num", .str "name", .str "ask", .str "stop", .str "gap"] (by rfl):PE _ _ _) rfl) (zAF (zAS (zAj zAD:PE _ _ _))) zAU)
  (zAE (ps_if (zAN op_eq (iC (r:=rIxT K) zAL (pv 0)) zAd (zAZ _)) (zAF (zAS (zBU zEB (pv 0) (zBj zAG) zBy))) zAU)
  (zAF (zAS (zBU zEB (pv 0) (zBj zAG) zBy))))),?_⟩
 try dsimp only[cxOf,Cx.nox]
 have hR0:=hR;obtain⟨a,hs,us,rfl,ha,hl,hp⟩:=hR.all;have h0:atI (V.str t.kd.s::hs++us) 0=some (.str t.kd.s):=zAI (j:=0) rfl;refine⟨_,rfl,a,_,0,_,rfl,rfl,SqT.of ha,h0,(by show 5<=sizeLine;decide),λ pl hpl=>⟨pl,zCp,rfl,.inr (SqT.of zAB),rfl,rfl,_,rfl,?_⟩⟩;have g1:=zAC (o:=.tup zCp) hpl;have ha1:=g1 _ _ ha;have hR1:=hR0.mono g1.tk;show if inV (.str t.kd.s) zCp=true then _ else _
 rw[zGC];show if t.kd.leaf=true then tRet _ _ _ (upd H pl (.tup zCp)) else tNext _ _ (upd H pl (.tup zCp))
 generalize upd H pl (.tup zCp)=H1 at g1 ha1 hR1 ⊢;refine ite2 (λ c=>?_) (λ c=>?_)
 ·refine⟨(by show 0<=sizeLine;decide),λ p hp=>q p _ [] (g1.trans (zAC hp)) zAB ?_⟩
  have e:t.parts=[]:=by
   cases t with
   |bin o a b=>cases o<;>cases c
   |_=>first|rfl|cases c
  rw[e];exact .nil
 ·refine⟨_,rfl,a,_,0,_,rfl,rfl,SqT.of ha1,h0,rfl,_,rfl,?_⟩
  refine ite2 (λ d=>?_) (λ d=>?_)
  ·have z:t.kd = .lett:=Kd.eq_iff.mp (lU d)
   cases t with
   |lett x s b =>
    obtain⟨a',u,w',e,ha',r1,r2⟩:=hR1;cases e;refine⟨_,rfl,2,rfl,a,_,rfl,ha',λ z=>absurd z.1 (show ¬(2:Nat)=0 by decide),λ p H' g e=>?_⟩;exact q p H' [u,w'] (g1.trans g) e (.cons (r1.mono g.tk) (.cons (r2.mono g.tk) .nil))
   |bin o a b=>cases o<;>cases z
   |_=>cases z
  ·cases t with
   |say s =>
    obtain⟨a',u,e,ha',r1⟩:=hR1;cases e;refine⟨_,rfl,1,rfl,a,_,rfl,ha',λ z=>absurd z.1 (show ¬(1:Nat)=0 by decide),λ p H' g e=>?_⟩;exact q p H' [u] (g1.trans g) e (.cons (r1.mono g.tk) .nil)
   |bin o s b =>
    obtain⟨a',u,w',e,ha',r1,r2⟩:=hR1;cases e;refine⟨_,rfl,1,rfl,a,_,rfl,ha',λ z=>absurd z.1 (show ¬(1:Nat)=0 by decide),λ p H' g e=>?_⟩;exact q p H' [u,w'] (g1.trans g) e (.cons (r1.mono g.tk) (.cons (r2.mono g.tk) .nil))
   |ite c s b =>
    obtain⟨a',u,w',z',e,ha',r1,r2,r3⟩:=hR1;cases e;refine⟨_,rfl,1,rfl,a,_,rfl,ha',λ z=>absurd z.1 (show ¬(1:Nat)=0 by decide),λ p H' g e=>?_⟩;exact q p H' [u,w',z'] (g1.trans g) e (.cons (r1.mono g.tk) (.cons (r2.mono g.tk) (.cons (r3.mono g.tk) .nil)))
   |lett x s b=>exact absurd rfl d
   |num n=>exact absurd rfl c
   |name n=>exact absurd rfl c
   |ask n=>exact absurd rfl c
   |stop n=>exact absurd rfl c
   |gap n as=>exact absurd rfl c
noncomputable def zDS (n:Nat):Sp:=λ vs H Q U=>∃(t:Tr) (v:V),vs=[v]/\t.size<=n/\t.size<=122/\Rep H t v/\∀(d:Addr) (kvs:List (Key × V)) (H':Hp),Same H H'->H d=none->H' d=some (.dK kvs)->GD t.gps kvs->kvs.length<=t.size->Q (.ref d) H'
theorem zNF {k n:Nat}{f g1:Addr}{fd gd1:FuncData}(F:Fun K "_law_gaps" "_law_gaps" zDH f fd) (z_len:mg "len" = none) (zO1:FnB P w K mg base k "_law_parts" g1 gd1 ["_law_tree"] zAu)
  (zO2:FnB P w K mg base k "_law_gaps" f fd ["_law_shape_here"] (zDS n)):FnOk P w K mg base CX0 (k+1) f fd ["_law_shape_here"] (zDS (n+1)):=by
 refine F.ok zDU (λ vs H Q E h=>?_) (λ cdv A outer s H vs Q E hr h=>?_)
 ·obtain⟨t,v,rfl,_⟩:=h
  rfl
 obtain⟨t,v,rfl,hn,h122,hR,q⟩:=h;have hu:=hu_of hr
 refine⟨_,(zAE (zAV (i:=1) zDU.nd rfl (Or.inl rfl) zB8)
  (zAE (ps_if (zAN op_eq (iC (r:=rIxT K) zAL (pv 0)) zAd (zAZ _)) (zAF (zF1 hu (pv 1) (iC (r:=rIxT K) zAL (pv 0)) (zAX zAa (by rfl) z_len PySem.boot_len (zAA (iC (r:=rIxT K) zAL (pv 0)) zAD)) rfl)) zAU)
  (zAE (zAo PassesOwn.never rfl (zBG (pe_cl zO1 hr (zAA (pv 0) zAD))) (zAK (i:=2) zDU.nd rfl (Or.inl rfl)) (zAF (zAt (pe_bm PySem.F.plainAttrs_dict PySem.F.slot_dict_update PySem.F.type_dict_update zIv (pv 1) (zAA (pe_cl zO2 hr (zAA (pv 2) zAD)) zAD)))))
  (zAF (zAS (pv 1)))))),?_⟩
 try dsimp only[cxOf,Cx.nox]
 refine λ d0 hd0=>?_;have g0:=zAC (o:=.dK []) hd0;have ed0:(upd H d0 (.dK [])) d0=some (.dK []):=zAB;have hR0:=hR.mono g0.tk;show tSeq _ _ _ _ (upd H d0 (.dK []));generalize upd H d0 (.dK [])=H0 at g0 ed0 hR0 ⊢;have hR00:=hR0;obtain⟨pa,hs,us',rfl,hpa,hhl,hparts⟩:=hR0.all;have at0:atI (V.str t.kd.s::hs++us') 0=some (.str t.kd.s):=zAI (j:=0) rfl;apply viaP (λ H1=>∃kvs:List (Key × V),Same H H1/\Tk H0 H1/\H1 d0=some (.dK kvs)/\GD (ownS t) kvs/\kvs.length<=1)
 ·intro rest
  refine⟨_,rfl,pa,_,0,_,rfl,rfl,SqT.of hpa,at0,rfl,_,rfl,ite2 (λ c=>?_) (λ c=>rest H0 ⟨[],g0,.refl _,ed0,?_,lZ _⟩)⟩
  ·have z:t.kd = .gap:=Kd.eq_iff.mp (lU c)
   cases t with
   |gap x as =>
    obtain⟨a',b',us2,e,ha',hb',hl2,_⟩:=hR00;cases e;have at1:atI [V.str "gap", .str x,.ref b'] 1=some (.str x):=zAI (j:=1) rfl;have at2:atI [V.str "gap", .str x,.ref b'] 2=some (.ref b'):=zAI (j:=2) rfl;refine⟨_,rfl,pa,_,2,_,rfl,rfl,SqT.of ha',at2,b',us2,rfl,.inr (SqT.of hb'),_,rfl,_,rfl,pa,_,1,_,rfl,rfl,SqT.of ha',at1,d0,_,rfl,DPut.k (k:=Sum.inr x) ed0 (zAQ (by decide)),?_⟩;refine rest _ ⟨_,zAO g0 hd0,Tk.dk ed0,zAB,GD.nil.put x _,?_⟩;exact zAx [] (Sum.inr x:Key) _
   |bin o a b=>cases o<;>cases z
   |_=>cases z
  ·have z:¬t.kd = .gap:=λ z=>c (lV (by rw[z];rfl))
   cases t with
   |gap x as=>exact absurd rfl z
   |_=>exact GD.nil
 rintro H1 ⟨kvs,g1,tk1,ed1,gd1',le1⟩;refine⟨_,rfl,t,_,rfl,hR00.mono tk1,λ pp H2 us g2 ep hus=>⟨pp,rfl,⟨us,SqT.of ep⟩,?_⟩⟩;have lus:us.length=t.parts.length:=zAH hus;refine zBW (xs:=us) (λ i σ' H'=>∃(kvs:List (Key × V)) (s2:Option V),σ'=[some (.ref pa),some (.ref d0),s2]/\Same H H'/\Tk H2 H'/\H' d0=some (.dK kvs)/\GD (ownS t++(t.parts.take i).flatMap Tr.gps) kvs/\kvs.length<=1+((t.parts.take i).map Tr.size).sum) ?_ ?_ ?_ ?_
 ·exact⟨kvs,none,rfl,g1.trans g2,.refl _,g2 _ _ ed1,by simpa using gd1',by simpa using le1⟩
 ·rintro i σ1 H3 _ ⟨kvs,s2,rfl,g3,tk3,ed3,gd3,le3⟩
  exact SqT.of (tk3 _ _ ep)
 ·rintro i x σ1 H3 hx ⟨kvs,s2,rfl,g3,tk3,ed3,gd3,le3⟩
  obtain⟨ti,eti,rti⟩:=zAR hus hx;have hsz:=zBC (lN eti)
  have hsum:((t.parts.take (i+1)).map Tr.size).sum=((t.parts.take i).map Tr.size).sum+ti.size:=by
   rw[zAM eti,List.map_append,List.sum_append];simp
  have hall:((t.parts.take (i+1)).map Tr.size).sum<=(t.parts.map Tr.size).sum:=by
   have e:(t.parts.map Tr.size).sum=((t.parts.take (i+1)).map Tr.size).sum+((t.parts.drop (i+1)).map Tr.size).sum:=by rw[←List.sum_append,←List.map_append,List.take_append_drop]
   omega
  have hps:=zBX t;refine⟨_,rfl,.inr (.inr (.inl ⟨rfl,.inl ⟨kvs,ed3⟩⟩)),_,rfl,ti,x,rfl,by omega,by omega,rti.mono tk3,λ d' kvs' H5 g5 hd' ed' gd' le'=>?_⟩;have hne:d0≠d':=λ z=>by rw[←z,ed3] at hd';cases hd'
  refine⟨d0,d',kvs,kvs',rfl,rfl,hne,g5 _ _ ed3,ed',zAe (by omega),?_⟩;refine⟨zAf kvs kvs',_,rfl,zAO (g3.trans g5) hd0,tk3.trans (g5.tk.trans (Tk.dk (g5 _ _ ed3))),zAB,?_,?_⟩
  ·refine(gd'.merge gd3).congr λ g=>?_
   rw[zAM eti,List.flatMap_append];simp[or_assoc]
  ·have:=zBV kvs' kvs
   omega
 ·rintro σ1 H3 ⟨kvs,s2,rfl,g3,tk3,ed3,gd3,le3⟩
  rw[List.take_of_length_le (by omega)] at gd3 le3;have hps:=zBX t;exact⟨_,rfl,q d0 kvs H3 g3 hd0 ed3 (gd3.congr (zGu t)) (by omega)⟩
theorem zJz {k:Nat}{f:Addr}{fd:FuncData}:FnOk P w K mg base CX0 k f fd ["_law_shape_here"] (zDS 0):=by
 have no:∀vs H Q E,¬zDS 0 vs H Q E:=λ vs H Q E h=>by
  obtain⟨t,v,_,hn,_⟩:=h;have:=zAi t;omega
 exact⟨λ vs H Q E h=>absurd h (no vs H Q E),λ A outer s H args us vs Q E U U U U h=>absurd h (no vs H Q E)⟩
theorem zIZ {k:Nat}{f g1:Addr}{fd gd1:FuncData}(F:Fun K "_law_gaps" "_law_gaps" zDH f fd) (b:Binds K fd ["_law_shape_here"] []) (m:mg "_law_gaps" = some (.ref f)) (z_len:mg "len" = none)
  (G:FnB P w K mg base k "_law_parts" g1 gd1 ["_law_tree"] zAu):∀n:Nat,FnB P w K mg base (k+n) "_law_gaps" f fd ["_law_shape_here"] (zDS n)
 |0=>⟨zJz,b,F.kp,m⟩
 |n+1=>⟨zNF F z_len (G.up (Nat.le_add_right _ _)) (zIZ F b m z_len G n),b,F.kp,m⟩
noncomputable def zCN (n:Nat):Sp:=λ vs H Q U=>∃(t:Tr) (v:V) (d e:Addr) (rs:Scl) (we:List (Key × V)) (ω:Str->Nat),vs=[v,.ref d,.ref e]/\t.size<=n/\t.size<=122/\Rep H t v/\ScAt H d rs/\H e=some (.dK we)/\(∀g,(valV we (Sum.inr g:Key)).getD (.int 1) = .int ((ω g:Nat):Int))/\(∀g,ω g<=2) /\
 ∀H',Same H H'->Q (.int ((wB (rowF rs) (ownW (rowF rs) ω) t:Nat):Int)) H'
theorem zJr {k n:Nat}{f g1:Addr}{fd gd1:FuncData}(F:Fun K "_law_worth" "_law_worth" zCX f fd) (z_len:mg "len" = none) (z_range:mg "range" = none) (zO1:FnB P w K mg base k "_law_parts" g1 gd1 ["_law_tree"] zAu)
  (zO3:FnB P w K mg base k "_law_worth" f fd ["_law_tree", "_law_scale_here", "_law_worths"] (zCN n)):FnOk P w K mg base CX0 (k+1) f fd ["_law_tree", "_law_scale_here", "_law_worths"] (zCN (n+1)):=by
 refine F.ok zBA (λ vs H Q E h=>?_) (λ cdv A outer s H vs Q E hr h=>?_)
 ·obtain⟨t,v,d,e,rs,we,ω,rfl,_⟩:=h
  rfl
 obtain⟨t,v,d,e,rs,we,ω,rfl,hn,h122,hR,⟨kvs,sc⟩,he,hwe,hω,q⟩:=h;have hu:=hu_of hr;have hu0:=Nat.lt_of_succ_lt (hu_of hr);have gF:GoodF (rowF rs):=zDo (zE8 sc.ps)
 refine⟨_,(zAE (ps_if (zAN op_eq (iC (r:=rIxT K) zAL (pv 0)) zAd (zAZ _)) (zAF (zAS (zDu hu (pv 2) (iC (r:=rIxT K) zAL (pv 0)) zAG ⟨rfl,rfl,rfl,rfl⟩))) zAU)
  (zAE (zAV (i:=3) zBA.nd rfl (Or.inl rfl) (pe_cl zO1 hr (zAA (pv 0) zAD)))
  (zAE (ps_if (zAN (zMN hu0) (pv 3) (zAj zAD:PE _ _ _) (zAZ _)) (zAF (zAS zAG)) zAU)
  (zAE (zAV (i:=4) zBA.nd rfl (Or.inl rfl) (zF3 [.int 1,.int 1,.int 1,.int 1] (by rfl):PE _ _ _))
  (zAE (ps_if (zAN (zIG hu) (iC (r:=rIxT K) zAL (pv 0)) (pv 1) rfl) (zAF (zAV (i:=4) zBA.nd rfl (Or.inl rfl) (zC4 hu (pv 1) (iC (r:=rIxT K) zAL (pv 0)) (λ U U=>rfl)))) zAU)
  (zAE (zAV (i:=5) zBA.nd rfl (Or.inl rfl) (iC (r:=rIxT K) zAL (pv 4)))
  (zAE (zAo PassesOwn.never rfl (zC3 (by rfl) z_range (zAA (zAX zAa (by rfl) z_len PySem.boot_len (zAA (pv 3) zAD)) zAD)) (zAK (i:=6) zBA.nd rfl (Or.inl rfl)) (zAF (zAV (i:=5) zBA.nd rfl (Or.inl rfl) (pe_op zB9 (pv 5) (pe_op zHT (pe_ix (r:=rIxT K) zAL (pv 4) (pe_op zB9 (pv 6) zAG) (λ U U=>rfl)) (pe_cl zO3 hr (zAA (pe_ix (r:=rIxT K) zAL (pv 3) (pv 6) (λ U U=>rfl)) (zAA (pv 1) (zAA (pv 2) zAD)))))))))
  (zAF (zAS (pv 5)))))))))),?_⟩
 try dsimp only[cxOf,Cx.nox]
 have hR0:=hR;obtain⟨a,hs,us',rfl,ha,hl,hp⟩:=hR.all;have h0:atI (V.str t.kd.s::hs++us') 0=some (.str t.kd.s):=zAI (j:=0) rfl;refine⟨_,rfl,a,_,0,_,rfl,rfl,SqT.of ha,h0,rfl,_,rfl,ite2 (λ c=>?_) (λ c=>?_)⟩
 ·have z:t.kd = .gap:=Kd.eq_iff.mp (lU c)
  cases t with
  |gap x as =>
   obtain⟨a',b',us2,e',ha',_⟩:=hR0;cases e';have at1:atI [V.str "gap", .str x,.ref b'] 1=some (.str x):=zAI (j:=1) rfl;refine⟨_,rfl,e,rfl,.inl ⟨we,.inl he⟩,_,rfl,a,_,1,_,rfl,rfl,SqT.of ha',at1,_,.inl ⟨we,Sum.inr x,.inl he,rfl,rfl⟩,?_⟩;rw[hwe x];exact q H (.refl _)
  |bin o a b=>cases o<;>cases z
  |_=>cases z
 have hng:¬t.kd = .gap:=λ z=>c (lV (by rw[z];rfl));refine⟨_,rfl,t,_,rfl,hR0,λ pp H1 us g1 ep hus=>?_⟩;have lus:us.length=t.parts.length:=zAH hus;refine⟨_,rfl,(by show 0<=sizeLine;decide),λ pe hpe=>⟨pp,pe,us,rfl,rfl,zAC hpe _ _ ep,zAB,_,rfl,ite2 (λ c=>?_) (λ c=>?_)⟩⟩
 ·have e0:us.length=0:=by simpa using c
  rw[zLL gF (by omega) hng ω] at q;exact q _ (g1.trans (zAC hpe))
 have g2:=zAC (o:=.tup []) hpe;refine⟨(by show 4<=sizeLine;decide),λ po hpo=>?_⟩;have g3:=zAC (o:=.tup onesV) hpo;have gQ:=g1.trans (g2.trans g3);have eo:(upd (upd H1 pe (.tup [])) po (.tup onesV)) po=some (.tup onesV):=zAB;have epQ:=g3 _ _ (g2 _ _ ep);have husQ:Paired (Rep (upd (upd H1 pe (.tup [])) po (.tup onesV))) t.parts us:=Paired.mapP hus λ U U z=>z.mono (g2.trans g3).tk;have scQ':=sc.mono gQ.sf;have haQ:=gQ _ _ ha;show tSeq _ _ _ _ (upd (upd H1 pe (.tup [])) po (.tup onesV));generalize upd (upd H1 pe (.tup [])) po (.tup onesV)=HQ at gQ eo epQ husQ scQ' haQ ⊢;have scQ:ScAt HQ d rs:=⟨kvs,scQ'⟩;have gv:DGet HQ d (.str t.kd.s) (valV kvs (Sum.inr t.kd.s:Key)):=.inl ⟨kvs,Sum.inr t.kd.s,scQ'.rd,rfl,rfl⟩
 have row:∃rp:Addr,HQ rp=some (.tup (natV (rowF rs t.kd)))/\((rp=po/\valV kvs (Sum.inr t.kd.s:Key)=none)\/valV kvs (Sum.inr t.kd.s:Key)=some (.ref rp)):=by
  rcases zD4 scQ'.ps t.kd with ⟨h1,h2⟩|⟨r,b,h1,h2,h3⟩
  ·refine⟨po,?_,.inl ⟨rfl,h2⟩⟩
   rw[eo];unfold rowF;rw[h1];rfl
  ·refine⟨b,?_,.inr h2⟩
   rw[h3];unfold rowF;rw[h1];rfl
 obtain⟨rp,hrow,way⟩:=row;apply viaS (λ σ' H'=>H'=HQ/\σ'=[some (.ref a),some (.ref d),some (.ref e),some (.ref pp),some (.ref rp),none,none])
 ·intro rest
  refine⟨_,rfl,a,_,0,_,rfl,rfl,SqT.of haQ,h0,_,rfl,d,_,rfl,gv,_,rfl,?_⟩;rcases way with ⟨rfl,h2⟩|h2
  ·rw[h2]
   exact iteF (rest _ HQ ⟨rfl,rfl⟩)
  ·rw[h2]
   rw[h2] at gv;refine iteT ?_;exact⟨_,rfl,_,rfl,a,_,0,_,rfl,rfl,SqT.of haQ,h0,d,_,rfl,gv,rest _ HQ ⟨rfl,rfl⟩⟩
 rintro σ' H' ⟨eH,eσ⟩;subst eH eσ;obtain⟨c0,ks,er⟩:=zFz gF t.kd;have hp3:=zGl t;have hrow':H' rp=some (.tup (V.int (c0:Int)::natV ks)):=by rw[hrow,er];rfl
 refine⟨_,rfl,rp,_,0,_,rfl,rfl,SqT.of hrow',zAI (j:=0) rfl,?_⟩;refine⟨_,rfl,pp,_,rfl,.inr (SqT.of epQ),(us.length:Int),rfl,by omega,by omega,?_⟩;have hk3:ks.length<=3:=by have h9:=(gF.ln t.kd).2;rw[er,List.length_cons] at h9;omega
 have hks:∀x∈ks,1<=x/\x<=3:=λ x hx=>gF.ks t.kd x (by rw[er];exact hx);have hmk:t.parts.length<=ks.length:=by have h9:=(gF.ln t.kd).1;rw[er,List.length_cons] at h9;have h8:=zIm t;omega
 obtain⟨wf,hwf⟩:∃wf,wf=wB (rowF rs) (ownW (rowF rs) ω):=⟨_,rfl⟩;rw[←hwf] at q;refine zCS (n:=((us.length:Nat):Int).toNat) (λ i σ' H2=>∃(s5:Option V),σ'=[some (.ref a),some (.ref d),some (.ref e),some (.ref pp),some (.ref rp),some (.int ((c0+dot (ks.take i) ((t.parts.map wf).take i):Nat):Int)),s5]/\Same H' H2) ?_ ?_ ?_
 ·exact⟨none,rfl,.refl _⟩
 ·rintro i σ1 H5 hi ⟨s5,rfl,g5⟩
  have hi':i<us.length:=by simpa using hi
  obtain⟨ui,eui⟩:∃ui,us[i]?=some ui:=⟨_,lX hi'⟩;obtain⟨ti,eti,rti⟩:=zAR husQ eui;obtain⟨kn,ekn⟩:∃kn,ks[i]?=some kn:=⟨_,lX (by omega)⟩;have hsz:=zBC (lN eti);have i0:(0:Int)+(i:Int)=((i:Nat):Int):=by omega
  have i1:(0:Int)+(i:Int)+1=((i+1:Nat):Int):=by omega
  have atk:atI (V.int (c0:Int)::natV ks) (0+(i:Int)+1)=some (.int (kn:Int)):=by rw[i1];exact zAI (j:=i+1) (zLf ekn)
  have atu:atI us (0+(i:Int))=some ui:=by rw[i0];exact zAI eui
  have kb:=hks kn (lN ekn);refine⟨_,rfl,_,rfl,_,rfl,_,_,rfl,rfl,rp,_,_,_,rfl,rfl,SqT.of (g5 _ _ hrow'),atk,_,rfl,_,rfl,pp,_,_,_,rfl,rfl,SqT.of (g5 _ _ epQ),atu,_,rfl,_,rfl,ti,ui,d,e,rs,we,ω,rfl,by omega,by omega,rti.mono g5.tk,scQ.mono g5.sf,g5 _ _ (gQ _ _ he),hwe,hω,λ H6 g6=>?_⟩;rw[←hwf];have hlt:wf ti<2 ^ 500:=by rw[hwf];exact wW_lt gF hω (by omega)
  refine⟨_,_,rfl,rfl,⟨zFv (by omega),zIa hlt⟩,_,_,rfl,rfl,some (.int (0+(i:Int))),?_,g5.trans g6⟩;have ex:(t.parts.map wf)[i]?=some (wf ti):=by rw[List.getElem?_map,eti];rfl
  have e2:((c0+dot (ks.take i) ((t.parts.map wf).take i):Nat):Int)+(kn:Int) * ((wf ti:Nat):Int)=((c0+dot (ks.take (i+1)) ((t.parts.map wf).take (i+1)):Nat):Int):=by
   rw[zL2 ekn ex,←Nat.add_assoc,Int.natCast_add _ (kn * _),Int.natCast_mul]
  rw[←e2];rfl
 ·rintro σ1 H5 ⟨s5,rfl,g5⟩
  have e3:wf t=c0+dot (ks.take us.length) ((t.parts.map wf).take us.length):=by
   have e4:(t.parts.map wf).take t.parts.length=t.parts.map wf:=List.take_of_length_le (by simp);have e5:=zNW ks (t.parts.map wf);rw[List.length_map] at e5;rw[lus,e4,e5,hwf,wB_eq,zLM hng];unfold own;rw[er];rfl
  refine⟨_,rfl,?_⟩;rw[show ((us.length:Nat):Int).toNat=us.length from Int.toNat_natCast _,←e3];exact q H5 (gQ.trans g5)
theorem zHY {k:Nat}{f:Addr}{fd:FuncData}:FnOk P w K mg base CX0 k f fd ["_law_tree", "_law_scale_here", "_law_worths"] (zCN 0):=by
 have no:∀vs H Q E,¬zCN 0 vs H Q E:=λ vs H Q E h=>by
  obtain⟨t,v,d,e,rs,we,ω,_,hn,_⟩:=h;have:=zAi t;omega
 exact⟨λ vs H Q E h=>absurd h (no vs H Q E),λ A outer s H args us vs Q E U U U U h=>absurd h (no vs H Q E)⟩
theorem zFo {k:Nat}{f g1:Addr}{fd gd1:FuncData}(F:Fun K "_law_worth" "_law_worth" zCX f fd) (b:Binds K fd ["_law_tree", "_law_scale_here", "_law_worths"] []) (m:mg "_law_worth" = some (.ref f)) (z_len:mg "len" = none) (z_range:mg "range" = none)
  (G:FnB P w K mg base k "_law_parts" g1 gd1 ["_law_tree"] zAu):∀n:Nat,FnB P w K mg base (k+n) "_law_worth" f fd ["_law_tree", "_law_scale_here", "_law_worths"] (zCN n)
 |0=>⟨zHY,b,F.kp,m⟩
 |n+1=>⟨zJr F z_len z_range (G.up (Nat.le_add_right _ _)) (zFo F b m z_len z_range G n),b,F.kp,m⟩
abbrev zEi:Stmt:=top 46
theorem zIf:zAY ["rule"] ["rule"] (zAJ zEi):=by nofun
noncomputable def zGd:Sp:=λ vs H Q U=>∃(p:Addr) (t u:Tr) (ks:List (Str × Str)),vs=[.ref p]/\RuR H p t u ks/\∀(r:Option Str) H',Same H H'->Due t u ks zAr r->Q (.bl r.isNone) H'
theorem zJv {k:Nat}{f g1 cD:Addr}{fd gd1:FuncData}(F:Fun K "is_rule" "is_rule" zEi f fd) (zOo:mg "NoRule" = some (.ref cD)) (zO4:ExC K cD) (nD:W.mroIn K cD (.ref cD)=some true) (zO5:FnG P w K mg base k "form" g1 gd1 ["rule"] (zHE cD)) :
  FnOk P w K mg base CX0 (k+1) f fd ["rule"] zGd:=by
 refine F.ok zIf (λ vs H Q E h=>?_) (λ cdv A outer s H vs Q E hr h=>?_)
 ·obtain⟨p,t,u,ks,rfl,_⟩:=h
  rfl
 obtain⟨p,t,u,ks,rfl,hR,q⟩:=h
 refine zNo ⟨_,(zAw (zMu (tb:=λ D=>(tDrop (zJF _ _ _ D _))) (λ U D=>(zBS (zLE ⟨zJj rfl rfl (zN1 (by rfl) zOo zO4 (λ U=>(zAF (zAS pe_bl))) zMx) zO5.ok hr (by rfl) zO5.gl zO5.kp zO5.bd .nil (zAA (pv 0) zAD)⟩))) ⟨zAU⟩)
  (zBS (zCJ ⟨pe_bl⟩))),?_⟩
 try dsimp only[cxOf,Cx.nox]
 refine⟨_,rfl,p,t,u,ks,rfl,hR,λ r hD=>?_⟩;cases r with
 |none=>exact λ H1 g1=>q none H1 g1 hD
 |some x=>exact λ dx H1 g1 hdx=>⟨cD,rfl,zO4.toExCls,true,nD,iteT λ ea hea=>q (some x) _ (g1.trans (zAC hea)) hD⟩
abbrev zDG:Stmt:=top 60
theorem zDT:zAY ["_law_shape_here", "_law_found", "_law_part"] ["_law_shape_here"] (zAJ zDG):=by nofun
abbrev zCa:Stmt:=top 62
theorem zCy:zAY ["_law_shape_here", "_law_found", "_law_part"] ["_law_shape_here"] (zAJ zCa):=by nofun
noncomputable def zD9 (n:Nat):Sp:=λ vs H Q U=>∃(t:Tr) (v:V),vs=[v]/\t.size<=n/\t.size<=122/\Rep H t v/\∀(l:Addr) (H':Hp),Same H H'->H l=none->H' l=some (.lst ((letN t).map V.str))->(letN t).length<=t.size->Q (.ref l) H'
theorem zND {k n:Nat}{f g1:Addr}{fd gd1:FuncData}(F:Fun K "_law_lets" "_law_lets" zDG f fd) (zO1:FnB P w K mg base k "_law_parts" g1 gd1 ["_law_tree"] zAu)
  (zO6:FnB P w K mg base k "_law_lets" f fd ["_law_shape_here"] (zD9 n)):FnOk P w K mg base CX0 (k+1) f fd ["_law_shape_here"] (zD9 (n+1)):=by
 refine F.ok zDT (λ vs H Q E h=>?_) (λ cdv A outer s H vs Q E hr h=>?_)
 ·obtain⟨t,v,rfl,_⟩:=h
  rfl
 obtain⟨t,v,rfl,hn,h122,hR,q⟩:=h
 refine⟨_,(zAE (zAV (i:=1) zDT.nd rfl (Or.inl rfl) (zA2 zAD:PE _ _ _))
  (zAE (ps_if (zAN op_eq (iC (r:=rIxT K) zAL (pv 0)) zAd (zAZ _)) (zAF (zAt (pe_bm PySem.F.plainAttrs_list PySem.F.slot_list_append PySem.F.type_list_append zA8 (pv 1) (zAA (iC (r:=rIxT K) zAL (pv 0)) zAD)))) zAU)
  (zAE (zAo PassesOwn.never rfl (zBG (pe_cl zO1 hr (zAA (pv 0) zAD))) (zAK (i:=2) zDT.nd rfl (Or.inl rfl)) (zAF (zAt (pe_bm PySem.F.plainAttrs_list PySem.F.slot_list_extend PySem.F.type_list_extend zB2 (pv 1) (zAA (pe_cl zO6 hr (zAA (pv 2) zAD)) zAD)))))
  (zAF (zAS (pv 1)))))),?_⟩
 try dsimp only[cxOf,Cx.nox]
 refine⟨lZ _,λ lo hlo=>?_⟩;have g0:=zAC (o:=.lst []) hlo;have e0:(upd H lo (.lst [])) lo=some (.lst []):=zAB;generalize upd H lo (.lst [])=H0 at g0 e0 ⊢;have hR0:=hR.mono g0.tk;have hR00:=hR0;obtain⟨pa,hs,us',rfl,hpa,hhl,hparts⟩:=hR0.all;have at0:atI (V.str t.kd.s::hs++us') 0=some (.str t.kd.s):=zAI (j:=0) rfl;apply viaP (λ H1=>Same H H1/\Tk H0 H1/\H1 lo=some (.lst ((letX t).toList.map V.str)))
 ·intro rest
  refine⟨_,rfl,pa,_,0,_,rfl,rfl,SqT.of hpa,at0,rfl,_,rfl,ite2 (λ c=>?_) (λ c=>rest H0 ⟨g0,.refl _,?_⟩)⟩
  ·have cs:(letX t).isSome=true:=(zIM t).mp (V.str.inj (lU c))
   cases t with
   |lett y a b =>
    obtain⟨pa2,v1,v2,e2,h2,_⟩:=hR00;cases e2;refine⟨_,rfl,.inl ⟨rfl,_,SqL.of e0⟩,_,rfl,pa,_,1,_,rfl,rfl,SqT.of h2,zAI (j:=1) rfl,lo,_,_,rfl,rfl,e0,zAQ (by simp),rest _ ⟨zAO g0 hlo,Tk.lst e0,?_⟩⟩;rw[zAB];rfl
   |bin o a b=>cases o<;>cases cs
   |_=>cases cs
  ·have cn:letX t=none:=by
    cases e:letX t with
    |none=>rfl
    |some y=>exact absurd (lV (congrArg V.str ((zIM t).mpr (by rw[e];rfl)))) c
   rw[cn];exact e0
 rintro H1 ⟨g1,tk1,e1⟩;refine⟨_,rfl,t,_,rfl,hR00.mono tk1,λ pp H2 us g2 ep hus=>⟨pp,rfl,⟨us,SqT.of ep⟩,?_⟩⟩;have lus:us.length=t.parts.length:=zAH hus;have hps:=zBX t;have lx:(letX t).toList.length<=1:=by cases letX t<;>simp
 refine zBW (xs:=us) (λ i σ' H'=>∃(s2:Option V),σ'=[some (.ref pa),some (.ref lo),s2]/\Same H H'/\Tk H2 H'/\H' lo=some (.lst (((letX t).toList++(t.parts.take i).flatMap letN).map V.str))/\((t.parts.take i).flatMap letN).length<=((t.parts.take i).map Tr.size).sum) ?_ ?_ ?_ ?_
 ·exact⟨none,rfl,g1.trans g2,.refl _,by simpa using g2 _ _ e1,by simp⟩
 ·rintro i σ1 H3 _ ⟨s2,rfl,g3,tk3,e3,l3⟩
  exact SqT.of (tk3 _ _ ep)
 ·rintro i x σ1 H3 hx ⟨s2,rfl,g3,tk3,e3,l3⟩
  obtain⟨ti,eti,rti⟩:=zAR hus hx;have hsz:=zBC (lN eti);have hsum:=zHp eti;refine⟨_,rfl,.inl ⟨rfl,_,SqL.of e3⟩,_,rfl,ti,x,rfl,by omega,by omega,rti.mono tk3,λ l' H5 g5 hl' el' ll'=>?_⟩;refine⟨lo,l',_,_,rfl,rfl,g5 _ _ e3,el',zAe (by simp only[List.length_map,List.length_append];omega),_,rfl,zAO (g3.trans g5) hlo,tk3.trans (g5.tk.trans (Tk.lst (g5 _ _ e3))),?_,?_⟩
  ·rw[zAB,zAM eti,List.flatMap_append]
   simp
  ·rw[zAM eti,List.flatMap_append,List.map_append,List.sum_append,List.length_append]
   simp only[List.flatMap_cons,List.flatMap_nil,List.append_nil,List.map_cons,List.map_nil,List.sum_cons,List.sum_nil];omega
 ·rintro σ1 H3 ⟨s2,rfl,g3,tk3,e3,l3⟩
  rw[List.take_of_length_le (by omega)] at e3 l3;rw[←zKA] at e3;refine⟨_,rfl,q lo H3 g3 hlo e3 ?_⟩;rw[zKA,List.length_append];omega
theorem zJy {k:Nat}{f:Addr}{fd:FuncData}:FnOk P w K mg base CX0 k f fd ["_law_shape_here"] (zD9 0):=by
 have no:∀vs H Q E,¬zD9 0 vs H Q E:=λ vs H Q E h=>by
  obtain⟨t,v,_,hn,_⟩:=h;have:=zAi t;omega
 exact⟨λ vs H Q E h=>absurd h (no vs H Q E),λ A outer s H args us vs Q E U U U U h=>absurd h (no vs H Q E)⟩
theorem zIY {k:Nat}{f g1:Addr}{fd gd1:FuncData}(F:Fun K "_law_lets" "_law_lets" zDG f fd) (b:Binds K fd ["_law_shape_here"] []) (m:mg "_law_lets" = some (.ref f))
  (G:FnB P w K mg base k "_law_parts" g1 gd1 ["_law_tree"] zAu):∀n:Nat,FnB P w K mg base (k+n) "_law_lets" f fd ["_law_shape_here"] (zD9 n)
 |0=>⟨zJy,b,F.kp,m⟩
 |n+1=>⟨zND F (G.up (Nat.le_add_right _ _)) (zIY F b m G n),b,F.kp,m⟩
noncomputable def zDE (n:Nat):Sp:=λ vs H Q U=>∃(t:Tr) (v:V),vs=[v]/\t.size<=n/\t.size<=122/\Rep H t v/\∀(l:Addr) (us:List V) (H':Hp),Same H H'->H l=none->H' l=some (.lst us)->Paired (Rep H') (gpN t) us->us.length<=t.size->Q (.ref l) H'
theorem zLb {k n:Nat}{f g1:Addr}{fd gd1:FuncData}(F:Fun K "_law_every" "_law_every" zCa f fd) (zO1:FnB P w K mg base k "_law_parts" g1 gd1 ["_law_tree"] zAu)
  (zO7:FnB P w K mg base k "_law_every" f fd ["_law_shape_here"] (zDE n)):FnOk P w K mg base CX0 (k+1) f fd ["_law_shape_here"] (zDE (n+1)):=by
 refine F.ok zCy (λ vs H Q E h=>?_) (λ cdv A outer s H vs Q E hr h=>?_)
 ·obtain⟨t,v,rfl,_⟩:=h
  rfl
 obtain⟨t,v,rfl,hn,h122,hR,q⟩:=h
 refine⟨_,(zAE (zAV (i:=1) zCy.nd rfl (Or.inl rfl) (zA2 zAD:PE _ _ _))
  (zAE (ps_if (zAN op_eq (iC (r:=rIxT K) zAL (pv 0)) zAd (zAZ _)) (zAF (zAt (pe_bm PySem.F.plainAttrs_list PySem.F.slot_list_append PySem.F.type_list_append zA8 (pv 1) (zAA (pv 0) zAD)))) zAU)
  (zAE (zAo PassesOwn.never rfl (zBG (pe_cl zO1 hr (zAA (pv 0) zAD))) (zAK (i:=2) zCy.nd rfl (Or.inl rfl)) (zAF (zAt (pe_bm PySem.F.plainAttrs_list PySem.F.slot_list_extend PySem.F.type_list_extend zB2 (pv 1) (zAA (pe_cl zO7 hr (zAA (pv 2) zAD)) zAD)))))
  (zAF (zAS (pv 1)))))),?_⟩
 try dsimp only[cxOf,Cx.nox]
 refine⟨lZ _,λ lo hlo=>?_⟩;have g0:=zAC (o:=.lst []) hlo;have e0:(upd H lo (.lst [])) lo=some (.lst []):=zAB;generalize upd H lo (.lst [])=H0 at g0 e0 ⊢;have hR0:=hR.mono g0.tk;have hR00:=hR0;obtain⟨pa,hs,us',rfl,hpa,hhl,hparts⟩:=hR0.all;have at0:atI (V.str t.kd.s::hs++us') 0=some (.str t.kd.s):=zAI (j:=0) rfl;apply viaP (λ H1=>∃ws:List V,Same H H1/\Tk H0 H1/\H1 lo=some (.lst ws)/\Paired (Rep H1) (gpX t) ws/\ws.length<=1)
 ·intro rest
  refine⟨_,rfl,pa,_,0,_,rfl,rfl,SqT.of hpa,at0,rfl,_,rfl,ite2 (λ c=>?_) (λ c=>rest H0 ⟨[],g0,.refl _,e0,?_,lZ _⟩)⟩
  ·have z:t.kd = .gap:=Kd.eq_iff.mp (lU c)
   refine⟨_,rfl,.inl ⟨rfl,_,SqL.of e0⟩,_,rfl,lo,_,_,rfl,rfl,e0,zAQ (by simp),rest _ ⟨[.ref pa],zAO g0 hlo,Tk.lst e0,zAB,?_,lS _⟩⟩;unfold gpX;rw[if_pos z];exact .cons (hR00.mono (Tk.lst e0)) .nil
  ·have z:¬t.kd = .gap:=λ z=>c (lV (by rw[z];rfl))
   unfold gpX;rw[if_neg z];exact .nil
 rintro H1 ⟨ws,g1,tk1,e1,p1,lw1⟩;refine⟨_,rfl,t,_,rfl,hR00.mono tk1,λ pp H2 us g2 ep hus=>⟨pp,rfl,⟨us,SqT.of ep⟩,?_⟩⟩;have lus:us.length=t.parts.length:=zAH hus;have hps:=zBX t;refine zBW (xs:=us) (λ i σ' H'=>∃(s2:Option V) (zs:List V),σ'=[some (.ref pa),some (.ref lo),s2]/\Same H H'/\Tk H2 H'/\H' lo=some (.lst zs)/\Paired (Rep H') (gpX t++(t.parts.take i).flatMap gpN) zs/\zs.length<=1+((t.parts.take i).map Tr.size).sum) ?_ ?_ ?_ ?_
 ·exact⟨none,ws,rfl,g1.trans g2,.refl _,g2 _ _ e1,by simpa using Paired.mapP p1 λ U U z=>z.mono g2.tk,by simpa using lw1⟩
 ·rintro i σ1 H3 _ ⟨s2,zs,rfl,g3,tk3,e3,p3,l3⟩
  exact SqT.of (tk3 _ _ ep)
 ·rintro i x σ1 H3 hx ⟨s2,zs,rfl,g3,tk3,e3,p3,l3⟩
  obtain⟨ti,eti,rti⟩:=zAR hus hx;have hsz:=zBC (lN eti);have hsum:=zHp eti;refine⟨_,rfl,.inl ⟨rfl,_,SqL.of e3⟩,_,rfl,ti,x,rfl,by omega,by omega,rti.mono tk3,λ l' us' H5 g5 hl' el' p' ll'=>?_⟩;have tk5:Tk H5 (upd H5 lo (.lst (zs++us'))):=Tk.lst (g5 _ _ e3);refine⟨lo,l',_,_,rfl,rfl,g5 _ _ e3,el',zAe (by omega),_,zs++us',rfl,zAO (g3.trans g5) hlo,tk3.trans (g5.tk.trans tk5),zAB,?_,?_⟩
  ·rw[zAM eti,List.flatMap_append,←List.append_assoc]
   simp only[List.flatMap_cons,List.flatMap_nil,List.append_nil];exact zAP (Paired.mapP p3 λ U U z=>z.mono (g5.tk.trans tk5)) (Paired.mapP p' λ U U z=>z.mono tk5)
  ·rw[zAM eti,List.map_append,List.sum_append,List.length_append]
   simp only[List.map_cons,List.map_nil,List.sum_cons,List.sum_nil];omega
 ·rintro σ1 H3 ⟨s2,zs,rfl,g3,tk3,e3,p3,l3⟩
  rw[List.take_of_length_le (by omega)] at p3 l3;rw[←zMW] at p3;exact⟨_,rfl,q lo zs H3 g3 hlo e3 p3 (by omega)⟩
theorem zIt {k:Nat}{f:Addr}{fd:FuncData}:FnOk P w K mg base CX0 k f fd ["_law_shape_here"] (zDE 0):=by
 have no:∀vs H Q E,¬zDE 0 vs H Q E:=λ vs H Q E h=>by
  obtain⟨t,v,_,hn,_⟩:=h;have:=zAi t;omega
 exact⟨λ vs H Q E h=>absurd h (no vs H Q E),λ A outer s H args us vs Q E U U U U h=>absurd h (no vs H Q E)⟩
theorem zHA {k:Nat}{f g1:Addr}{fd gd1:FuncData}(F:Fun K "_law_every" "_law_every" zCa f fd) (b:Binds K fd ["_law_shape_here"] []) (m:mg "_law_every" = some (.ref f))
  (G:FnB P w K mg base k "_law_parts" g1 gd1 ["_law_tree"] zAu):∀n:Nat,FnB P w K mg base (k+n) "_law_every" f fd ["_law_shape_here"] (zDE n)
 |0=>⟨zIt,b,F.kp,m⟩
 |n+1=>⟨zLb F (G.up (Nat.le_add_right _ _)) (zHA F b m G n),b,F.kp,m⟩
noncomputable def zFR (n:Nat):Sp:=λ vs H Q U=>∃(t:Tr) (v:V),vs=[v]/\t.size<=n/\Rep H t v/\∀(b:Bool) (H':Hp),Same H H'->(b=true↔loudT t)->Q (.bl b) H'
theorem zN9 {k n:Nat}{f g1:Addr}{fd gd1:FuncData}(F:Fun K "_law_is_loud" "_law_is_loud" zBk f fd) (zO1:FnB P w K mg base k "_law_parts" g1 gd1 ["_law_tree"] zAu)
  (zO8:FnB P w K mg base k "_law_is_loud" f fd ["_law_shape_here"] (zFR n)):FnOk P w K mg base CX0 (k+1) f fd ["_law_shape_here"] (zFR (n+1)):=by
 refine F.ok zDN (λ vs H Q E h=>?_) (λ cdv A outer s H vs Q E hr h=>?_)
 ·obtain⟨t,v,rfl,_⟩:=h
  rfl
 obtain⟨t,v,rfl,hn,hR,q⟩:=h
 refine⟨_,(zAE (ps_if (zAN (r:=rIn K false) zB1 (iC (r:=rIxT K) zAL (pv 0)) (zF3 [.str "say", .str "ask", .str "stop"] (by rfl):PE _ _ _) rfl) (zAF (zAS pe_bl)) zAU)
  (zAE (zAo PassesOwn.never rfl (zBG (pe_cl zO1 hr (zAA (pv 0) zAD))) (zAK (i:=1) zDN.nd rfl (Or.inl rfl)) (zAF (ps_if (zBR (pe_cl zO8 hr (zAA (pv 1) zAD))) (zAF (zAS pe_bl)) zAU)))
  (zAF (zAS pe_bl)))),?_⟩
 try dsimp only[cxOf,Cx.nox]
 have hR00:=hR;obtain⟨pa,hs,us',rfl,hpa,hhl,hparts⟩:=hR.all;have at0:atI (V.str t.kd.s::hs++us') 0=some (.str t.kd.s):=zAI (j:=0) rfl;refine⟨_,rfl,pa,_,0,_,rfl,rfl,SqT.of hpa,at0,(by show 3<=sizeLine;decide),λ pl hpl=>⟨pl,loudV,rfl,.inr (SqT.of zAB),rfl,rfl,_,rfl,?_⟩⟩;have g1:=zAC (o:=.tup loudV) hpl;show if inV (.str t.kd.s) loudV=true then tRet _ _ _ (upd H pl (.tup loudV)) else tNext _ _ (upd H pl (.tup loudV))
 rw[zKM];generalize upd H pl (.tup loudV)=H1 at g1 ⊢;refine ite2 (λ c=>q true _ g1 ⟨λ U=>(zF8 t).mpr (.inl c),λ U=>rfl⟩) (λ c=>?_);refine⟨_,rfl,t,_,rfl,hR00.mono g1.tk,λ pp H2 us g2 ep hus=>⟨pp,rfl,⟨us,SqT.of ep⟩,?_⟩⟩;have lus:us.length=t.parts.length:=zAH hus;refine zBW (xs:=us) (λ i σ' H'=>∃(s1:Option V),σ'=[some (.ref pa),s1]/\Same H H'/\Same H2 H'/\∀p∈t.parts.take i,¬loudT p) ?_ ?_ ?_ ?_
 ·exact⟨none,rfl,g1.trans g2,.refl _,by simp⟩
 ·rintro i σ1 H3 _ ⟨s1,rfl,g3,g4,hp⟩
  exact SqT.of (g4 _ _ ep)
 ·rintro i x σ1 H3 hx ⟨s1,rfl,g3,g4,hp⟩
  obtain⟨ti,eti,rti⟩:=zAR hus hx;have hsz:=zBC (lN eti);refine⟨_,rfl,ti,x,rfl,by omega,rti.mono g4.tk,λ b H5 g5 hb=>⟨b,rfl,ite2 (λ e=>?_) (λ e=>?_)⟩⟩
  ·exact q true _ (g3.trans g5) ⟨λ U=>(zF8 t).mpr (.inr ⟨ti,lN eti,hb.mp e⟩),λ U=>rfl⟩
  ·refine⟨_,rfl,g3.trans g5,g4.trans g5,λ p hm=>?_⟩
   rw[zAM eti] at hm;rcases lK.mp hm with z|z
   ·exact hp p z
   ·rw[List.mem_singleton.mp z]
    exact λ y=>e (hb.mpr y)
 ·rintro σ1 H3 ⟨s1,rfl,g3,g4,hp⟩
  rw[List.take_of_length_le (by omega)] at hp;refine q false _ g3 ⟨(λ z=>nomatch z),λ z=>?_⟩
  rcases (zF8 t).mp z with z|⟨p,hm,z⟩
  ·exact absurd z c
  ·exact absurd z (hp p hm)
theorem zLd {k:Nat}{f:Addr}{fd:FuncData}:FnOk P w K mg base CX0 k f fd ["_law_shape_here"] (zFR 0):=by
 have no:∀vs H Q E,¬zFR 0 vs H Q E:=λ vs H Q E h=>by
  obtain⟨t,v,_,hn,_⟩:=h;have:=zAi t;omega
 exact⟨λ vs H Q E h=>absurd h (no vs H Q E),λ A outer s H args us vs Q E U U U U h=>absurd h (no vs H Q E)⟩
theorem zKv {k:Nat}{f g1:Addr}{fd gd1:FuncData}(F:Fun K "_law_is_loud" "_law_is_loud" zBk f fd) (b:Binds K fd ["_law_shape_here"] []) (m:mg "_law_is_loud" = some (.ref f))
  (G:FnB P w K mg base k "_law_parts" g1 gd1 ["_law_tree"] zAu):∀n:Nat,FnB P w K mg base (k+n) "_law_is_loud" f fd ["_law_shape_here"] (zFR n)
 |0=>⟨zLd,b,F.kp,m⟩
 |n+1=>⟨zN9 F (G.up (Nat.le_add_right _ _)) (zKv F b m G n),b,F.kp,m⟩
abbrev zDb:Stmt:=top 57
theorem zBf:zAY ["_law_there", "_law_cell", "_law_kinds_here", "_law_gap", "_law_kind"] ["_law_there", "_law_cell"] (zAJ zDb):=by nofun
noncomputable def KdsAt (H:Hp) (ka:Addr) (kds:List (Str × Str)):Prop:=∃(o:Obj) (ys:List V),H ka=some (.frz o (.tup ys))/\o.dict=none/\Paired (PrV H) ys (kdV kds)
noncomputable def zH3:Sp:=λ vs H Q U=>∃(d:Addr) (c:Int) (S:List Str) (kvs:List (Key × V)),vs=[.ref d,.int c]/\H d=some (.dK kvs)/\GD S kvs/\kvs.length<60 /\
 ∀(ka:Addr) (kds:List (Str × Str)) (H':Hp),Same H H'->KdsAt H' ka kds->(kds.map (·.1)).Nodup->kds.length<=kvs.length->Q (.ref ka) H'
theorem zLY {k:Nat}{f:Addr}{fd:FuncData}(F:Fun K "_law_kinds" "_law_kinds" zDb f fd) (z_sorted:mg "sorted" = none) (z_tuple:mg "tuple" = none):FnOk P w K mg base CX0 (k+1) f fd ["_law_there", "_law_cell"] zH3:=by
 refine F.ok zBf (λ vs H Q E h=>?_) (λ cdv A outer s H vs Q E hr h=>?_)
 ·obtain⟨d,c,S,kvs,rfl,_⟩:=h
  rfl
 obtain⟨d,c,S,kvs,rfl,hd,gd,hlen,q⟩:=h;have hu:=hu_of hr
 refine⟨_,(zAE (zAV (i:=2) zBf.nd rfl (Or.inl rfl) (zA2 zAD:PE _ _ _))
  (zAE (zAo PassesOwn.never rfl (zA4 (zAX (zC9 rfl) (by rfl) z_sorted PyProof.Rows.boot_sorted (zAA (pv 0) zAD))) (zAK (i:=3) zBf.nd rfl (Or.inl rfl)) (zAE (zAV (i:=4) zBf.nd rfl (Or.inl rfl) (pe_op zBO (pv 1) zAG))
  (zAE (zAV (i:=1) zBf.nd rfl (Or.inl rfl) (pe_op zBL (pv 1) zAG))
  (zAE (ps_if (zAN op_eq (pv 4) zAG (zAZ _)) (zAF (zAt (pe_bm PySem.F.plainAttrs_list PySem.F.slot_list_append PySem.F.type_list_append zA8 (pv 2) (zAA (zAj (zAA (pv 3) (zAA zAd zAD)):PE _ _ _) zAD)))) zAU)
  (zAF (ps_if (zCQ (zAN op_eq (pv 4) zAG (zAZ _)) (zBx (zAN op_eq (zC4 hu (pv 0) (pv 3) (λ U U=>rfl)) zAG (zAZ _)))).pt (zAF (zAt (pe_bm PySem.F.plainAttrs_list PySem.F.slot_list_append PySem.F.type_list_append zA8 (pv 2) (zAA (zAj (zAA (pv 3) (zAA zAd zAD)):PE _ _ _) zAD)))) zAU))))))
  (zAF (zAS (zBg zDh (by rfl) z_tuple PyProof.Rows.boot_tuple (zAA (pv 2) zAD)))))),?_⟩
 try dsimp only[cxOf,Cx.nox]
 have d2:2<=sizeLine:=by decide
 obtain⟨ks,ek,ndk,lk,mk⟩:=gd.keys;refine⟨(by show 0<=sizeLine;decide),λ lo hlo=>?_⟩;have g1:=zAC (o:=.lst []) hlo;have elo:(upd H lo (.lst [])) lo=some (.lst []):=zAB;generalize upd H lo (.lst [])=H1 at g1 elo ⊢;refine⟨_,rfl,d,kvs,ks,rfl,g1 _ _ hd,ek,by omega,λ l ss hl pm U=>?_⟩;have g2:=zAC (o:=.lst (ss.map V.str)) hl;have el:(upd H1 l (.lst (ss.map V.str))) l=some (.lst (ss.map V.str)):=zAB;have elo2:=g2 _ _ elo;generalize upd H1 l (.lst (ss.map V.str))=H2 at g2 el elo2 ⊢;have nds:ss.Nodup:=pm.nodup_iff.mpr ndk;have lss:ss.length=ks.length:=pm.length_eq;have nll:l≠lo:=λ z=>by rw[z,elo] at hl;cases hl
 refine⟨l,rfl,⟨_,SqL.of el⟩,?_⟩
 refine zA9 (xs:=ss.map V.str) (λ i σ' H'=>∃(c:Int) (ys:List V) (kds:List (Str × Str)) (s3 s4:Option V),σ'=[some (.ref d),some (.int c),some (.ref lo),s3,s4]/\Same H H'/\H' l=some (.lst (ss.map V.str))/\H' lo=some (.lst ys)/\Paired (PrV H') ys (kdV kds) /\
  (∀p∈kds,p.1∈ss.take i)/\(kds.map (·.1)).Nodup/\kds.length<=i) ?_ ?_ ?_ ?_
 ·exact⟨c,[],[],none,none,rfl,g1.trans g2,el,elo2,.nil,(λ p hp=>nomatch hp),List.nodup_nil,lS _⟩
 ·rintro i σ' H' _ ⟨c,ys,kds,s3,s4,rfl,g,el',_⟩
  exact SqL.of el'
 ·rintro i x σ' H' hx ⟨c,ys,kds,s3,s4,rfl,g,el',elo',pk,hin,nd,le⟩
  rw[List.getElem?_map] at hx;obtain⟨y,hy,rfl⟩:=lW.mp hx;have hi:i<ss.length:=(lJ.mp hy).1;have hnew:=zJ0 nds hy;have htk:=zAM hy;have lys:ys.length=kds.length:=by have:=Paired.length pk;rw[this];unfold kdV;simp
  have hin':∀p∈kds,p.1∈ss.take (i+1):=λ p hp=>by rw[htk];exact lK.mpr (.inl (hin p hp))
  have more:∀(H3:Hp) (kd:Str) (p:Addr),H3=H'->H3 p=none->∃H4,H4=upd (upd H3 p (.tup [.str y,.str kd])) lo (.lst (ys++[.ref p]))/\Same H H4/\H4 l=some (.lst (ss.map V.str))/\H4 lo=some (.lst (ys++[.ref p]))/\Paired (PrV H4) (ys++[.ref p]) (kdV (kds++[(y,kd)])) /\
    (∀p∈kds++[(y,kd)],p.1∈ss.take (i+1))/\((kds++[(y,kd)]).map (·.1)).Nodup/\(kds++[(y,kd)]).length<=i+1/\(upd H3 p (.tup [.str y,.str kd])) lo=some (.lst ys):=by
   rintro H3 kd p rfl hp;have k1:=zAC (o:=.tup [.str y,.str kd]) hp;have e1:=k1 _ _ elo';have tk:Tk (upd H3 p (.tup [.str y,.str kd])) (upd (upd H3 p (.tup [.str y,.str kd])) lo (.lst (ys++[.ref p]))):=Tk.lst e1;refine⟨_,rfl,zAO (g.trans k1) hlo,by rw[zAW nll];exact k1 _ _ el',zAB,?_,?_,?_,?_,e1⟩
   ·unfold kdV
    rw[List.map_append];exact zB0 (Paired.mapP pk λ U U z=>zBn (k1.tk.trans tk) z) (.cons ⟨p,rfl,tk _ _ zAB⟩ .nil)
   ·intro p hp
    rcases lK.mp hp with h|h
    ·exact hin' p h
    ·rw[List.mem_singleton.mp h,htk]
     exact lK.mpr (.inr (List.mem_singleton.mpr rfl))
   ·rw[List.map_append,List.nodup_append]
    refine⟨nd,by simp,λ a ha b hb e=>?_⟩;obtain⟨p,hp,rfl⟩:=mE.mp ha;simp at hb;have:=hin p hp;rw[show p.1=y from e.trans hb] at this;exact hnew this
   ·simp
    exact le
  refine⟨_,rfl,_,_,rfl,rfl,(show (0:Int)<3 by decide),?_⟩;refine⟨_,rfl,_,_,rfl,rfl,⟨(show (0:Int)<3 by decide),(show (3:Int)<1073741824 by decide)⟩,?_⟩;dsimp only;generalize c % 3=kk;generalize c / 3=cc;refine⟨_,rfl,rfl,_,rfl,ite2 (λ c1=>?_) (λ c1=>?_)⟩
  ·have hk1:kk=1:=V.int.inj (lU c1)
   refine⟨_,rfl,.inl ⟨rfl,_,SqL.of elo'⟩,_,rfl,d2,λ p hp=>?_⟩;obtain⟨H4,eH4,m1,m2,m3,m4,m5,m6,m7,m8⟩:=more H' "quiet" p rfl hp;refine⟨lo,ys,_,rfl,rfl,m8,zAQ (by omega),?_⟩;rw[←eH4];refine⟨_,rfl,rfl,_,rfl,ite2 (λ c2=>?_) (λ U=>iteF ?_)⟩
   ·have hk2:kk=2:=V.int.inj (lU c2)
    omega
   ·exact⟨_,_,_,_,_,rfl,m1,m2,m3,m4,m5,m6,m7⟩
  ·refine⟨_,rfl,rfl,_,rfl,ite2 (λ c2=>?_) (λ U=>iteF ?_)⟩
   ·obtain⟨n,hn⟩:=gd.int ((mk y).mp (pm.mem_iff.mp (lN hy)))
    have gv:DGet H' d (.str y) (some (.int n)):=.inl ⟨kvs,Sum.inr y,.inl (g _ _ hd),rfl,hn.symm⟩;refine⟨_,rfl,_,rfl,d,_,rfl,gv,rfl,_,rfl,ite2 (λ c3=>?_) (λ U=>?_)⟩
    ·refine⟨_,rfl,.inl ⟨rfl,_,SqL.of elo'⟩,_,rfl,d2,λ p hp=>?_⟩
     obtain⟨H4,eH4,m1,m2,m3,m4,m5,m6,m7,m8⟩:=more H' "number" p rfl hp;refine⟨lo,ys,_,rfl,rfl,m8,zAQ (by omega),?_⟩;rw[←eH4];exact⟨_,_,_,_,_,rfl,m1,m2,m3,m4,m5,m6,m7⟩
    ·exact⟨_,_,_,_,_,rfl,g,el',elo',pk,hin',nd,by omega⟩
   ·exact⟨_,_,_,_,_,rfl,g,el',elo',pk,hin',nd,by omega⟩
 ·rintro σ' H' ⟨c,ys,kds,s3,s4,rfl,g,el',elo',pk,hin,nd,le⟩
  rw[List.length_map] at le;refine⟨_,rfl,lo,ys,rfl,SqL.of elo',λ ka o hka hdn=>?_⟩;have k1:=zAC (o:=.frz o (.tup ys)) hka;exact q ka kds _ (g.trans k1) ⟨o,ys,zAB,hdn,Paired.mapP pk λ U U z=>zBn k1.tk z⟩ nd (by omega)
abbrev zDc:Stmt:=top 58
theorem zB5:zAY ["_law_rule", "_law_scale_here", "_law_spare", "_law_gap", "_law_more"] ["_law_rule", "_law_scale_here"] (zAJ zDc):=by nofun
noncomputable def zGc:Sp:=λ vs H Q U=>∃(r d:Addr) (t1 t2:Tr) (kds:List (Str × Str)) (rs:Scl),vs=[.ref r,.ref d]/\zMg H r t1 t2 kds/\t1.size<=40/\t2.size<=40/\ScAt H d rs /\
 ∀(b:Bool) (H':Hp),Same H H'->(b=true↔dueP (rowF rs) t1 t2 kds)->Q (.bl b) H'
theorem zJu {k:Nat}{f g1 g2:Addr}{fd gd1 gd2:FuncData}(F:Fun K "_law_falls" "_law_falls" zDc f fd) (z_sorted:mg "sorted" = none) (zO3:FnB P w K mg base k "_law_worth" g1 gd1 ["_law_tree", "_law_scale_here", "_law_worths"] (zCN 122)) (zO2:FnB P w K mg base k "_law_gaps" g2 gd2 ["_law_shape_here"] (zDS 122)) :
  FnOk P w K mg base CX0 (k+1) f fd ["_law_rule", "_law_scale_here"] zGc:=by
 refine F.ok zB5 (λ vs H Q E h=>?_) (λ cdv A outer s H vs Q E hr h=>?_)
 ·obtain⟨r,d,t1,t2,kds,rs,rfl,_⟩:=h
  rfl
 obtain⟨r,d,t1,t2,kds,rs,rfl,hR,hs1,hs2,hsc,q⟩:=h;have hu5:=hu150 hr;have gF:GoodF (rowF rs):=by obtain⟨kvs,sc⟩:=hsc;exact zDo (zE8 sc.ps)
 refine⟨_,(Sd.un (zAw (zEm (i:=2) zB5.nd rfl (Or.inl rfl) ⟨pe_op zMK (pe_cl zO3 hr (zAA (iC (r:=rIxT K) zAL (pv 0)) (zAA (pv 1) (zAA zB8 zAD)))) (pe_cl zO3 hr (zAA (iC (r:=rIxT K) zAL (pv 0)) (zAA (pv 1) (zAA zB8 zAD))))⟩)
  (zAw ⟨zAo PassesOwn.never rfl (zA4 (zAX (zC9 rfl) (by rfl) z_sorted PyProof.Rows.boot_sorted (zAA (pe_cl zO2 hr (zAA (iC (r:=rIxT K) zAL (pv 0)) zAD)) zAD))) (zAK (i:=3) zB5.nd rfl (Or.inl rfl)) (zAF (ps_if (zAN (zIn hu5) (zAj (zAA (pv 3) (zAA zAd zAD)):PE _ _ _) (iC (r:=rIxT K) zAL (pv 0)) rfl) (zAE (zAV (i:=4) zB5.nd rfl (Or.inl rfl) (pe_op zMK (pe_cl zO3 hr (zAA (iC (r:=rIxT K) zAL (pv 0)) (zAA (pv 1) (zAA (zHS (zDt (pv 3) zAG zHQ) rfl rfl (by simp) (by decide)) zAD)))) (pe_cl zO3 hr (zAA (iC (r:=rIxT K) zAL (pv 0)) (zAA (pv 1) (zAA (zHS (zDt (pv 3) zAG zHQ) rfl rfl (by simp) (by decide)) zAD))))))
  (zAF (ps_if (zAN op_lt (pv 4) (pv 2) (zAZ _)) (zAF (zAS pe_bl)) zAU))) zAU))⟩
  (zBS (zCJ ⟨zA6 op_ge (pv 2) zAG (zAZ _)⟩))))),?_⟩
 try dsimp only[cxOf,Cx.nox]
 have d2:2<=sizeLine:=by decide
 obtain⟨u1,u2,ka,o,ys,er,r1,r2,ek,hdn,pk⟩:=hR;have at0:atI [u1,u2,V.ref ka] 0=some u1:=zAI (j:=0) rfl;have at1:atI [u1,u2,V.ref ka] 1=some u2:=zAI (j:=1) rfl;have at2:atI [u1,u2,V.ref ka] 2=some (.ref ka):=zAI (j:=2) rfl;refine⟨_,rfl,r,_,0,_,rfl,rfl,SqT.of er,at0,_,rfl,λ e1 he1=>?_⟩;have k1:=zAC (o:=.dK []) he1;have x1:(upd H e1 (.dK [])) e1=some (.dK []):=zAB;generalize upd H e1 (.dK [])=H1 at k1 x1 ⊢;refine⟨t1,u1,d,e1,rs,[],λ U=>1,rfl,by omega,by omega,r1.mono k1.tk,hsc.mono k1.sf,x1,(λ g=>rfl),(λ g=>(by show 1<=2;decide)),λ H2 g2=>?_⟩;have g12:=k1.trans g2;refine⟨_,rfl,r,_,1,_,rfl,rfl,SqT.of (g12 _ _ er),at1,_,rfl,λ e2 he2=>?_⟩;have k3:=zAC (o:=.dK []) he2;have x3:(upd H2 e2 (.dK [])) e2=some (.dK []):=zAB;generalize upd H2 e2 (.dK [])=H3 at k3 x3 ⊢;have g13:=g12.trans k3;refine⟨t2,u2,d,e2,rs,[],λ U=>1,rfl,by omega,by omega,r2.mono g13.tk,hsc.mono g13.sf,x3,(λ g=>rfl),(λ g=>(by show 1<=2;decide)),λ H4 g4=>?_⟩;have g14:=g13.trans g4;rw[zMC gF,zMC gF];refine⟨_,_,rfl,rfl,?_⟩;refine⟨_,rfl,r,_,0,_,rfl,rfl,SqT.of (g14 _ _ er),at0,t1,u1,rfl,by omega,by omega,r1.mono g14.tk,λ dg kvs H5 g5 hdg ed gd le=>?_⟩;obtain⟨ks,ekk,ndk,lk,mk⟩:=gd.keys;refine⟨dg,kvs,ks,rfl,ed,ekk,by omega,λ l ss hl pm U=>?_⟩;have k6:=zAC (o:=.lst (ss.map V.str)) hl;have el:(upd H5 l (.lst (ss.map V.str))) l=some (.lst (ss.map V.str)):=zAB;generalize upd H5 l (.lst (ss.map V.str))=H6 at k6 el ⊢;have g16:=g14.trans (g5.trans k6);have mss:∀g,g∈ss↔g∈t1.gps:=λ g=>pm.mem_iff.trans (mk g);refine⟨l,rfl,⟨_,SqL.of el⟩,?_⟩;refine zA9 (xs:=ss.map V.str) (λ i σ' H'=>∃(s3 s4:Option V),σ'=[some (.ref r),some (.ref d),some (.int (((wrt (rowF rs) t1:Nat):Int) - ((wrt (rowF rs) t2:Nat):Int))),s3,s4]/\Same H6 H'/\∀g∈ss.take i,(g,("number" : Str))∉kds->gw (rowF rs) g t2<=gw (rowF rs) g t1) ?_ ?_ ?_ ?_
 ·exact⟨none,none,rfl,.refl _,(λ g hg=>nomatch hg)⟩
 ·rintro i σ' H' _ ⟨s3,s4,rfl,g,_⟩
  exact SqL.of (g _ _ el)
 ·rintro i x σ' H' hx ⟨s3,s4,rfl,g7,hall⟩
  rw[List.getElem?_map] at hx;obtain⟨y,hy,rfl⟩:=lW.mp hx;have htk:=zAM hy;have g17:=g16.trans g7;refine⟨_,rfl,d2,λ pt hpt=>?_⟩;have k8:=zAC (o:=.tup [.str y,.str "number"]) hpt;have x8:(upd H' pt (.tup [.str y,.str "number"])) pt=some (.tup [.str y,.str "number"]):=zAB;generalize upd H' pt (.tup [.str y,.str "number"])=H8 at k8 x8 ⊢;have g18:=g17.trans k8;have pk8:Paired (PrV H8) ys (kdV kds):=Paired.mapP pk λ U U z=>zBn g18.tk z;have kdd:=zKH kds;refine⟨_,rfl,r,_,2,_,rfl,rfl,SqT.of (g18 _ _ er),at2,ka,ys,kdD kds,.tup [.str y,.str "number"],rfl,.inl (.inr ⟨o,g18 _ _ ek⟩),zMT pk8,.tup x8 (.cons (.str _) (.cons (.str _) .nil)),by omega,_,rfl,ite2 (λ c=>?_) (λ c=>?_)⟩
  ·have nn:(y,("number" : Str))∉kds:=λ z=>by
    have:=(zMU kds y "number").mpr z;rw[this] at c;cases c
   have we:∀x,(valV (zAf [] [((Sum.inr y:Key),V.int 2)]) (Sum.inr x:Key)).getD (.int 1) = .int (((if x=y then 2 else 1:Nat)):Int):=zNc y;have hω:∀x:Str,(if x=y then 2 else 1:Nat)<=2:=λ x=>by split<;>decide
   refine⟨_,rfl,r,_,0,_,rfl,rfl,SqT.of (g18 _ _ er),at0,_,rfl,λ e3 he3=>⟨_,rfl,zAB,[((Sum.inr y:Key),V.int 2)],rfl,(by show 1<=15;decide),?_⟩⟩;have k9:Same H8 (upd (upd H8 e3 (.dK [])) e3 (.dK (zAf [] [((Sum.inr y:Key),V.int 2)]))):=zAO (zAC he3) he3;have x9:(upd (upd H8 e3 (.dK [])) e3 (.dK (zAf [] [((Sum.inr y:Key),V.int 2)]))) e3=some (.dK (zAf [] [((Sum.inr y:Key),V.int 2)])):=zAB;generalize upd (upd H8 e3 (.dK [])) e3 (.dK (zAf [] [((Sum.inr y:Key),V.int 2)]))=H9 at k9 x9 ⊢;have g19:=g18.trans k9;refine⟨t1,u1,d,e3,rs,_,λ x=>if x=y then 2 else 1,rfl,by omega,by omega,r1.mono g19.tk,hsc.mono g19.sf,x9,we,hω,λ H10 g10=>?_⟩;have g110:=g19.trans g10;refine⟨_,rfl,r,_,1,_,rfl,rfl,SqT.of (g110 _ _ er),at1,_,rfl,λ e4 he4=>⟨_,rfl,zAB,[((Sum.inr y:Key),V.int 2)],rfl,(by show 1<=15;decide),?_⟩⟩;have k11:Same H10 (upd (upd H10 e4 (.dK [])) e4 (.dK (zAf [] [((Sum.inr y:Key),V.int 2)]))):=zAO (zAC he4) he4;have x11:(upd (upd H10 e4 (.dK [])) e4 (.dK (zAf [] [((Sum.inr y:Key),V.int 2)]))) e4=some (.dK (zAf [] [((Sum.inr y:Key),V.int 2)])):=zAB;generalize upd (upd H10 e4 (.dK [])) e4 (.dK (zAf [] [((Sum.inr y:Key),V.int 2)]))=H11 at k11 x11 ⊢;have g111:=g110.trans k11;refine⟨t2,u2,d,e4,rs,_,λ x=>if x=y then 2 else 1,rfl,by omega,by omega,r2.mono g111.tk,hsc.mono g111.sf,x11,we,hω,λ H12 g12'=>?_⟩;rw[zMB gF,zMB gF];refine⟨_,_,rfl,rfl,?_⟩;refine⟨_,rfl,_,rfl,_,_,rfl,rfl,_,rfl,ite2 (λ c2=>?_) (λ c2=>?_)⟩
   ·have c2':=lU c2
    refine q false _ (g111.trans g12') ⟨(λ z=>nomatch z),λ z=>?_⟩
    have:=z.2 y ((mss y).mp (lN hy)) nn;simp only[Int.natCast_add] at c2';omega
   ·refine⟨_,_,rfl,g7.trans (k8.trans (k9.trans (g10.trans (k11.trans g12')))),λ g hg hn=>?_⟩
    rw[htk] at hg;rcases lK.mp hg with h|h
    ·exact hall g h hn
    ·rw[List.mem_singleton.mp h]
     have c2':¬((wrt (rowF rs) t1+gw (rowF rs) y t1:Nat):Int) - ((wrt (rowF rs) t2+gw (rowF rs) y t2:Nat):Int)<((wrt (rowF rs) t1:Nat):Int) - ((wrt (rowF rs) t2:Nat):Int):=λ z=>c2 (lV z);simp only[Int.natCast_add] at c2';omega
  ·have nn:(y,("number" : Str))∈kds:=by
    refine(zMU kds y "number").mp ?_;simpa using c
   refine⟨_,_,rfl,g7.trans k8,λ g hg hn=>?_⟩;rw[htk] at hg;rcases lK.mp hg with h|h
   ·exact hall g h hn
   ·rw[List.mem_singleton.mp h] at hn
    exact absurd nn hn
 ·rintro σ' H' ⟨s3,s4,rfl,g7,hall⟩
  rw[List.length_map,List.take_length] at hall;refine⟨_,rfl,_,_,rfl,rfl,q _ H' (g16.trans g7) ?_⟩;rw[decide_eq_true_iff];constructor
  ·intro h
   exact⟨by omega,λ g hg hn=>hall g ((mss g).mpr hg) hn⟩
  ·intro h
   have:=h.1;omega
abbrev zDI:Stmt:=top 61
theorem zEf:zAY ["_law_shape_here", "_law_bound", "_law_part"] ["_law_shape_here", "_law_bound"] (zAJ zDI):=by nofun
noncomputable def zDD (n:Nat):Sp:=λ vs H Q U=>∃(t:Tr) (v:V) (bl:Addr) (bs:List Str),vs=[v,.ref bl]/\t.size<=n/\bs.length+t.size<=100/\NmG t/\Rep H t v/\H bl=some (.lst (bs.map V.str))/\∀(z:Bool) (H':Hp),Same H H'->(z=true↔∃y∈t.fv [],y∉bs)->Q (.bl z) H'
theorem zLW {k n:Nat}{f g1:Addr}{fd gd1:FuncData}(F:Fun K "_law_free" "_law_free" zDI f fd) (zO1:FnB P w K mg base k "_law_parts" g1 gd1 ["_law_tree"] zAu)
  (zO9:FnB P w K mg base k "_law_free" f fd ["_law_shape_here", "_law_bound"] (zDD n)):FnOk P w K mg base CX0 (k+1) f fd ["_law_shape_here", "_law_bound"] (zDD (n+1)):=by
 refine F.ok zEf (λ vs H Q E h=>?_) (λ cdv A outer s H vs Q E hr h=>?_)
 ·obtain⟨t,v,bl,bs,rfl,_⟩:=h
  rfl
 obtain⟨t,v,bl,bs,rfl,hn,hsz,hN,hR,hbl,q⟩:=h;have hu0:=Nat.lt_of_succ_lt (hu_of hr)
 refine⟨_,(zAE (ps_if (zAN op_eq (iC (r:=rIxT K) zAL (pv 0)) zAd (zAZ _)) (zAF (zAS (zA6 (r:=rIn K true) zC5 (iC (r:=rIxT K) zAL (pv 0)) (pv 1) rfl))) zAU)
  (zAE (ps_if (zAN op_eq (iC (r:=rIxT K) zAL (pv 0)) zAd (zAZ _)) (zAF (zAS (zA6 (zJl hu0) (zAs ["_law_atom", "_law_bound"] [none,some 1] rfl (zBG (iC (r:=rIxT K) zAL (pv 0))) (λ U U U U U=>(zAK (i:=0) (show List.Nodup (["_law_atom", "_law_bound"]:List Str) by decide +kernel) rfl (Or.inl rfl))) (λ U U U U U=>(zC2 (zAN (r:=rIn K true) zC5 (iC (r:=rIxT K) zAL (pv 0)) (pv 1) rfl))) (λ U U U U U=>(pv 0)) rfl) (zA2 zAD:PE _ _ _) (zAZ _)))) zAU)
  (zAE (ps_if (zAN op_eq (iC (r:=rIxT K) zAL (pv 0)) zAd (zAZ _)) (zAF (zAS (pe_or (pe_cl zO9 hr (zAA (iC (r:=rIxT K) zAL (pv 0)) (zAA (pv 1) zAD))) (zCq (pe_cl zO9 hr (zAA (iC (r:=rIxT K) zAL (pv 0)) (zAA (pe_op zDw (pv 1) (zA2 (zAA (iC (r:=rIxT K) zAL (pv 0)) zAD):PE _ _ _)) zAD))))))) zAU)
  (zAE (zAo PassesOwn.never rfl (zBG (pe_cl zO1 hr (zAA (pv 0) zAD))) (zAK (i:=2) zEf.nd rfl (Or.inl rfl)) (zAF (ps_if (zBR (pe_cl zO9 hr (zAA (pv 2) (zAA (pv 1) zAD)))) (zAF (zAS pe_bl)) zAU)))
  (zAF (zAS pe_bl)))))),?_⟩
 try dsimp only[cxOf,Cx.nox]
 have hR0:=hR;obtain⟨a0,hs0,us0,rfl,ha0,hl0,hp0⟩:=hR.all;have at0:atI (V.str t.kd.s::hs0++us0) 0=some (.str t.kd.s):=zAI (j:=0) rfl;refine⟨_,rfl,a0,_,0,_,rfl,rfl,SqT.of ha0,at0,rfl,_,rfl,ite2 (λ c=>?_) (λ c1=>?_)⟩
 ·have z:t.kd = .name:=Kd.eq_iff.mp (lU c)
  cases t with
  |name x =>
   obtain⟨a',e',ha'⟩:=hR0;cases e';refine⟨_,rfl,a0,_,1,_,rfl,rfl,SqT.of ha',zAI (j:=1) rfl,_,rfl,bl,bs.map V.str,rfl,.inl (SqL.of hbl),rfl,zFA bs,q _ H (.refl _) ?_⟩;have hin:=zGs x bs;constructor
   ·intro h
    refine⟨x,by simp[Tr.fv,Tr.names],λ y=>?_⟩;rw[hin.mpr y] at h;cases h
   ·rintro⟨y,hy,ny⟩
    have:y=x:=by simpa[Tr.fv,Tr.names] using hy
    subst this;cases e:inV (V.str y) (bs.map V.str) with
    |false=>rfl
    |true=>exact absurd (hin.mp e) ny
  |bin o a b=>cases o<;>cases z
  |_=>cases z
 have n1:¬t.kd = .name:=λ z=>c1 (lV (by rw[z];rfl));refine⟨_,rfl,a0,_,0,_,rfl,rfl,SqT.of ha0,at0,rfl,_,rfl,ite2 (λ c=>?_) (λ c2=>?_)⟩
 ·have z:t.kd = .gap:=Kd.eq_iff.mp (lU c)
  cases t with
  |gap gx as =>
   obtain⟨a',b',us2,e',ha',hb',hl2,pas⟩:=id hR0;cases e';have las:us2.length=as.length:=zAH pas
   have hnm:∀a∈as,∃y,a = .name y:=λ a ha=>by
    rcases hN _ (by rw[zCB];exact lQ) gx as rfl with rfl|⟨y,rfl⟩
    ·cases ha
    ·exact⟨y,List.mem_singleton.mp ha⟩
   refine⟨_,rfl,a0,_,2,_,rfl,rfl,SqT.of ha',zAI (j:=2) rfl,b',rfl,⟨_,SqT.of hb'⟩,λ acc hacc=>?_⟩;refine zB4 (xs:=us2) (λ i H'=>Same H H'/\∃zs:List V,H' acc=some (.lst zs)/\zs.length<=i/\(zs≠[]↔∃y,Atom.name y∈as.take i/\y∉bs)) ?_ ?_ ?_ ?_
   ·exact⟨zAC hacc,[],zAB,lS _,by simp⟩
   ·exact λ i H' U p=>SqT.of (p.1 _ _ hb')
   ·intro i x H1 hx ⟨g1,zs,e1,lz,hz⟩
    obtain⟨at_,ea,ra⟩:=zAR pas hx;have ra:=ra.mono g1.tk;have hi:i<us2.length:=(lJ.mp hx).1;obtain⟨y,rfl⟩:=hnm at_ (lN ea);obtain⟨c,rfl,hc⟩:=ra;have hin:=zGs y bs;refine⟨.skip (.keep .nil),?_⟩;refine⟨_,rfl,c,_,1,_,rfl,rfl,SqT.of hc,rfl,_,rfl,bl,bs.map V.str,rfl,.inl (SqL.of (g1 _ _ hbl)),rfl,zFA bs,_,rfl,ite2 (λ cc=>?_) (λ cc=>?_)⟩
    ·refine⟨_,rfl,zs,e1,zAQ (by omega),zAO g1 hacc,_,zAB,by simp;omega,?_⟩
     refine⟨λ U=>⟨y,by rw[zAM ea];simp,λ z=>?_⟩,λ U=>by simp⟩;rw[hin.mpr z] at cc;cases cc
    ·refine⟨g1,zs,e1,by omega,hz.trans ⟨λ⟨v,hv,nv⟩=>⟨v,by rw[zAM ea];exact mH _ hv,nv⟩,λ⟨v,hv,nv⟩=>?_⟩⟩
     rw[zAM ea] at hv;rcases lK.mp hv with h|h
     ·exact⟨v,h,nv⟩
     ·have:v=y:=by simpa using h
      subst this;refine absurd ?_ nv;cases e:inV (V.str v) (bs.map V.str) with
      |true=>exact hin.mp e
      |false=>rw[e] at cc;exact absurd rfl cc
   ·intro H1 ⟨g1,zs,e1,lz,hz⟩
    refine⟨lZ _,λ l0 hl0=>⟨acc,l0,zs,rfl,rfl,zAC hl0 _ _ e1,zAB,?_⟩⟩;refine q _ _ (g1.trans (zAC hl0)) ?_;rw[zKS];rw[List.take_of_length_le (by omega)] at hz;have e2:(!(zs.length == 0))=true↔zs≠[]:=by cases zs<;>simp
    refine e2.trans (hz.trans ⟨λ⟨y,hy,ny⟩=>⟨y,List.mem_flatMap.mpr ⟨_,hy,by simp[Atom.names]⟩,ny⟩,λ⟨y,hy,ny⟩=>?_⟩);obtain⟨a,ha,hya⟩:=List.mem_flatMap.mp hy;obtain⟨v,rfl⟩:=hnm a ha;have:y=v:=by simpa[Atom.names] using hya
    subst this;exact⟨y,ha,ny⟩
  |bin o a b=>cases o<;>cases z
  |_=>cases z
 have n2:¬t.kd = .gap:=λ z=>c2 (lV (by rw[z];rfl));refine⟨_,rfl,a0,_,0,_,rfl,rfl,SqT.of ha0,at0,rfl,_,rfl,ite2 (λ c=>?_) (λ c3=>?_)⟩
 ·have z:t.kd = .lett:=Kd.eq_iff.mp (lU c)
  cases t with
  |lett x a b =>
   obtain⟨a',v1,v2,e',ha',r1,r2⟩:=hR0;cases e';have sz:(Tr.lett x a b).size=a.size+b.size+1:=rfl;refine⟨_,rfl,a0,_,2,_,rfl,rfl,SqT.of ha',zAI (j:=2) rfl,_,rfl,a,v1,bl,bs,rfl,by omega,by omega,hN.part (by simp[Tr.parts]),r1,hbl,λ z1 H1 g1 hz1=>⟨_,rfl,ite2 (λ cz=>?_) (λ cz=>?_)⟩⟩
   ·exact q _ H1 g1 ⟨λ U=>(zKR x a b bs).mpr (.inl (hz1.mp cz)),λ U=>rfl⟩
   ·refine⟨_,rfl,a0,_,3,_,rfl,rfl,SqT.of (g1 _ _ ha'),zAI (j:=3) rfl,_,rfl,_,rfl,a0,_,1,_,rfl,rfl,SqT.of (g1 _ _ ha'),zAI (j:=1) rfl,(by show 1<=sizeLine;decide),λ l1 hl1=>?_⟩
    have k2:=zAC (o:=.lst [V.str x]) hl1;refine⟨bl,l1,_,_,rfl,rfl,k2 _ _ (g1 _ _ hbl),zAB,zAe (by simp only[List.length_map,List.length_cons,List.length_nil];omega),λ l2 hl2=>?_⟩;have k3:=zAC (o:=.lst (bs.map V.str++[V.str x])) hl2;have g13:=g1.trans (k2.trans k3);refine⟨b,v2,l2,bs++[x],rfl,by omega,by rw[List.length_append,List.length_singleton];omega,hN.part (by simp[Tr.parts]),r2.mono g13.tk,?_,λ z2 H4 g4 hz2=>q _ H4 (g13.trans g4) ?_⟩
    ·rw[List.map_append]
     exact zAB
    ·rw[zKR]
     exact hz2.trans ⟨.inr,λ h=>h.elim (λ y=>absurd (hz1.mpr y) cz) id⟩
  |bin o a b=>cases o<;>cases z
  |_=>cases z
 have n3:¬t.kd = .lett:=λ z=>c3 (lV (by rw[z];rfl));refine⟨_,rfl,t,_,rfl,hR0,λ pp H2 us g2 ep hus=>⟨pp,rfl,⟨us,SqT.of ep⟩,?_⟩⟩;have lus:us.length=t.parts.length:=zAH hus;refine zBW (xs:=us) (λ i σ' H'=>∃(s1:Option V),σ'=[some (.ref a0),some (.ref bl),s1]/\Same H H'/\Same H2 H'/\∀p∈t.parts.take i,∀y∈p.fv [],y∈bs) ?_ ?_ ?_ ?_
 ·exact⟨none,rfl,g2,.refl _,by simp⟩
 ·rintro i σ1 H3 _ ⟨s1,rfl,g3,g4,hp⟩
  exact SqT.of (g4 _ _ ep)
 ·rintro i x σ1 H3 hx ⟨s1,rfl,g3,g4,hp⟩
  obtain⟨ti,eti,rti⟩:=zAR hus hx;have hm:=lN eti;have hsz':=zBC hm;refine⟨_,rfl,_,rfl,ti,x,bl,bs,rfl,by omega,by omega,hN.part hm,rti.mono g4.tk,g3 _ _ hbl,λ b H5 g5 hb=>⟨b,rfl,ite2 (λ e=>?_) (λ e=>?_)⟩⟩
  ·refine q true _ (g3.trans g5) ⟨λ U=>?_,λ U=>rfl⟩
   obtain⟨y,hy,ny⟩:=hb.mp e;rw[zGG n1 n2 n3];exact⟨y,List.mem_flatMap.mpr ⟨ti,hm,hy⟩,ny⟩
  ·refine⟨_,rfl,g3.trans g5,g4.trans g5,λ p hm y hy=>?_⟩
   rw[zAM eti] at hm;rcases lK.mp hm with z|z
   ·exact hp p z y hy
   ·rw[List.mem_singleton.mp z] at hy
    exact mF λ ny=>e (hb.mpr ⟨y,hy,ny⟩)
 ·rintro σ1 H3 ⟨s1,rfl,g3,g4,hp⟩
  rw[List.take_of_length_le (by omega)] at hp;refine q false _ g3 ⟨(λ z=>nomatch z),λ⟨y,hy,ny⟩=>?_⟩
  rw[zGG n1 n2 n3] at hy;obtain⟨p,hm,hy⟩:=List.mem_flatMap.mp hy;exact absurd (hp p hm y hy) ny
theorem zIs {k:Nat}{f:Addr}{fd:FuncData}:FnOk P w K mg base CX0 k f fd ["_law_shape_here", "_law_bound"] (zDD 0):=by
 have no:∀vs H Q E,¬zDD 0 vs H Q E:=λ vs H Q E h=>by
  obtain⟨t,v,bl,bs,_,hn,_⟩:=h;have:=zAi t;omega
 exact⟨λ vs H Q E h=>absurd h (no vs H Q E),λ A outer s H args us vs Q E U U U U h=>absurd h (no vs H Q E)⟩
theorem zG9 {k:Nat}{f g1:Addr}{fd gd1:FuncData}(F:Fun K "_law_free" "_law_free" zDI f fd) (b:Binds K fd ["_law_shape_here", "_law_bound"] []) (m:mg "_law_free" = some (.ref f)) (G:FnB P w K mg base k "_law_parts" g1 gd1 ["_law_tree"] zAu):∀n:Nat,FnB P w K mg base (k+n) "_law_free" f fd ["_law_shape_here", "_law_bound"] (zDD n)
 |0=>⟨zIs,b,F.kp,m⟩
 |n+1=>⟨zLW F (G.up (Nat.le_add_right _ _)) (zG9 F b m G n),b,F.kp,m⟩
abbrev zCY:Stmt:=top 63
theorem zA3:zAY ["_law_left", "_law_right", "_law_kinds_here", "_law_side", "_law_many", "_law_gap", "_law_kind"] ["_law_left", "_law_right", "_law_kinds_here"] (zAJ zCY):=by nofun
noncomputable def zHz:Sp:=λ vs H Q U=>∃(t u:Tr) (v1 v2:V) (ka:Addr) (ks:List (Str × Str)),vs=[v1,v2,.ref ka]/\Rep H t v1/\Rep H u v2/\t.size<=40/\u.size<=40/\NmG t/\NmG u/\KdsAt H ka ks/\(∀p∈ks,p.1∈(gcnt t).map (·.1))/\∀(z:Bool) (H':Hp),Same H H'->(z=true↔Due t u ks zAr none)->Q (.bl z) H'
theorem zLU {k:Nat}{f g1 g2 g3 g4 g5:Addr}{fd gd1 gd2 gd3 gd4 gd5:FuncData}(F:Fun K "_law_is_rule" "_law_is_rule" zCY f fd) (z_len:mg "len" = none) (z_set:mg "set" = none) (zO1:FnB P w K mg base k "_law_parts" g1 gd1 ["_law_tree"] zAu)
  (zO6:FnB P w K mg base k "_law_lets" g2 gd2 ["_law_shape_here"] (zD9 60)) (zO9:FnB P w K mg base k "_law_free" g3 gd3 ["_law_shape_here", "_law_bound"] (zDD 60)) (zO7:FnB P w K mg base k "_law_every" g4 gd4 ["_law_shape_here"] (zDE 60)) (zO8:FnB P w K mg base k "_law_is_loud" g5 gd5 ["_law_shape_here"] (zFR 60)) :
  FnOk P w K mg base CX0 (k+1) f fd ["_law_left", "_law_right", "_law_kinds_here"] zHz:=by
 refine F.ok zA3 (λ vs H Q E h=>?_) (λ cdv A outer s H vs Q E hr h=>?_)
 ·obtain⟨t,u,v1,v2,ka,ks,rfl,_⟩:=h
  rfl
 obtain⟨t,u,v1,v2,ka,ks,rfl,r1,r2,s1,s2,n1,n2,hK,hkin,q⟩:=h;have hu:=hu_of hr;have hu0:=Nat.lt_of_succ_lt (hu_of hr)
 refine⟨_,(zAE (ps_if (zAN (zMN hu0) (pe_cl zO1 hr (zAA (pv 0) zAD)) (zAj zAD:PE _ _ _) (zAZ _)) (zAF (zAS pe_bl)) zAU)
  (zAE (zAo PassesOwn.never rfl (zBG (zAj (zAA (pv 0) (zAA (pv 1) zAD)):PE _ _ _)) (zAK (i:=3) zA3.nd rfl (Or.inl rfl)) (zAF (ps_if (pw_or (zAN op_lt (zFa rfl (by rfl) z_len (by rfl) z_set (zAA (pe_cl zO6 hr (zAA (pv 3) zAD)) zAD)) (zAX zAa (by rfl) z_len PySem.boot_len (zAA (pe_cl zO6 hr (zAA (pv 3) zAD)) zAD)) (zAZ _)) (zFX (zBR (pe_cl zO9 hr (zAA (pv 3) (zAA (zA2 zAD:PE _ _ _) zAD)))))).pt (zAF (zAS pe_bl)) zAU)))
  (zAE (zAV (i:=4) zA3.nd rfl (Or.inl rfl) zB8)
  (zAE (zAo PassesOwn.never rfl (zA4 (pe_cl zO7 hr (zAA (pv 0) zAD))) (zAK (i:=5) zA3.nd rfl (Or.inl rfl)) (zAF (zAt (pe_bm PySem.F.plainAttrs_dict PySem.F.slot_dict_setdefault PySem.F.type_dict_setdefault zDy (pv 4) (zAA (iC (r:=rIxT K) zAL (pv 5)) (zAA (zAX zAa (by rfl) z_len PySem.boot_len (zAA (iC (r:=rIxT K) zAL (pv 5)) zAD)) zAD))))))
  (zAE (zAo PassesOwn.never rfl (zA4 (pe_op zDw (pe_cl zO7 hr (zAA (pv 0) zAD)) (pe_cl zO7 hr (zAA (pv 1) zAD)))) (zAK (i:=5) zA3.nd rfl (Or.inl rfl)) (zAF (ps_if (pw_or (zAN (zEu hu) (iC (r:=rIxT K) zAL (pv 5)) (pv 4) rfl) (zFX (zAN op_ne (zAX zAa (by rfl) z_len PySem.boot_len (zAA (iC (r:=rIxT K) zAL (pv 5)) zAD)) (zC4 hu (pv 4) (iC (r:=rIxT K) zAL (pv 5)) (λ U U=>rfl)) (zAZ _)))).pt (zAF (zAS pe_bl)) zAU)))
  (zAE (zAo PassesOwn.never rfl (zBG (pv 2)) (zB7 rfl (zAc (zAK (i:=5) zA3.nd rfl (Or.inl rfl)) (zAc (zAK (i:=6) zA3.nd rfl (Or.inl rfl)) zBB))) (zAF (ps_if (zCQ (zAN op_eq (pv 6) zAd (zAZ _)) (zBx (zAN op_gt (zC4 hu (pv 4) (pv 5) (λ U U=>rfl)) zAG (zAZ _)))).pt (zAF (zAS pe_bl)) zAU)))
  (zAF (zAS (pe_or (pe_cl zO8 hr (zAA (pv 0) zAD)) (zCq (zIC (pe_cl zO8 hr (zAA (pv 1) zAD))))))))))))),?_⟩
 try dsimp only[cxOf,Cx.nox]
 have hdl:=zNS (ks:=ks) n1 n2 hkin;refine viaN λ N hN=>?_;refine⟨_,rfl,t,v1,rfl,r1,λ pp H1 us g1 ep hus=>?_⟩;have lus:us.length=t.parts.length:=zAH hus;refine⟨lZ _,λ pe hpe=>⟨pp,pe,us,rfl,rfl,zAC hpe _ _ ep,zAB,_,rfl,ite2 (λ c=>?_) (λ c=>?_)⟩⟩
 ·have e0:us.length=0:=by simpa using c
  exact q false _ (g1.trans (zAC hpe)) ⟨(λ z=>nomatch z),λ z=>absurd ((zFf t).mpr (by omega)) (hdl.mp z).1⟩
 have hnl:¬t.kd.leaf=true:=λ z=>c (by rw[lus,(zFf t).mp z];rfl);have g2:=g1.trans (zAC (o:=.tup []) hpe);generalize upd H1 pe (.tup [])=H2 at g2 ⊢;refine hN _ _ (viaN λ N hN=>?_);refine⟨_,rfl,_,rfl,(by show 2<=sizeLine;decide),λ pt hpt=>⟨pt,rfl,⟨_,SqT.of zAB⟩,?_⟩⟩;have k3:=zAC (o:=.tup [v1,v2]) hpt;have e3:(upd H2 pt (.tup [v1,v2])) pt=some (.tup [v1,v2]):=zAB;have g3:=g2.trans k3;generalize upd H2 pt (.tup [v1,v2])=H3 at k3 e3 g3 ⊢;refine zBW (xs:=[v1,v2]) (λ i σ' H'=>∃(s3:Option V),σ'=[some v1,some v2,some (.ref ka),s3,none,none,none]/\Same H3 H'/\∀x∈[t,u].take i,(letN x).Nodup/\x.fv []=[]) ⟨none,rfl,Same.refl _,by simp⟩ (λ i σ' H' _ h=>?_) ?_ ?_
 ·obtain⟨_,_,g,_⟩:=h
  exact SqT.of (g _ _ e3)
 ·rintro i x σ1 H4 hx ⟨s3,rfl,g4,hn⟩
  obtain⟨tq,etq,rq,sq,nq⟩:∃tq,[t,u][i]?=some tq/\Rep H tq x/\tq.size<=40/\NmG tq:=by
   match i,hx with
   |0,hx=>cases hx;exact⟨t,rfl,r1,s1,n1⟩
   |1,hx=>cases hx;exact⟨u,rfl,r2,s2,n2⟩
  have g14:=g3.trans g4
  have bad:∀H',Same H H'->(¬(letN tq).Nodup\/tq.fv []≠[])->Q (.bl false) H':=λ H' g h=>by
   refine q false H' g ⟨(λ z=>nomatch z),λ z=>?_⟩
   obtain⟨_,⟨a,b,c,d⟩,_⟩:=hdl.mp z
   match i,etq with
   |0,e=>cases e;exact h.elim (λ y=>absurd a y) (λ y=>absurd b y)
   |1,e=>cases e;exact h.elim (λ y=>absurd c y) (λ y=>absurd d y)
  refine⟨_,rfl,tq,x,rfl,by omega,by omega,rq.mono g14.tk,λ l H5 g5 hl el ll=>⟨l,letN tq,rfl,SqL.of el,by omega,?_⟩⟩;refine⟨_,rfl,tq,x,rfl,by omega,by omega,rq.mono (g14.trans g5).tk,λ l' H6 g6 hl' el' ll'=>⟨l',_,rfl,.inl (SqL.of el'),_,_,rfl,rfl,_,rfl,ite2 (λ c=>?_) (λ c=>?_)⟩⟩
  ·have c':(((dd (letN tq)).length:Nat):Int)<((((letN tq).map V.str).length:Nat):Int):=lU c
   rw[List.length_map] at c';exact iteT (bad _ (g14.trans (g5.trans g6)) (.inl ((zCl (letN tq)).mp (by omega))))
  have c':¬(dd (letN tq)).length<(letN tq).length:=λ z=>c (lV (by
   show (((dd (letN tq)).length:Nat):Int)<((((letN tq).map V.str).length:Nat):Int);rw[List.length_map];omega))
  have nd:(letN tq).Nodup:=mF λ z=>c' ((zCl _).mpr z);have g16:=g14.trans (g5.trans g6);refine⟨_,rfl,lZ _,λ bl hbl=>?_⟩;have k7:=zAC (o:=.lst []) hbl;have e7:(upd H6 bl (.lst [])) bl=some (.lst []):=zAB;generalize upd H6 bl (.lst [])=H7 at k7 e7 ⊢;refine⟨tq,x,bl,[],rfl,by omega,by simp;omega,nq,rq.mono (g16.trans k7).tk,e7,λ z H8 g8 hz=>⟨_,rfl,ite2 (λ c=>?_) (λ c=>?_)⟩⟩
  ·refine bad _ (g16.trans (k7.trans g8)) (.inr λ e=>?_)
   obtain⟨y,hy,_⟩:=hz.mp c;rw[e] at hy;cases hy
  ·refine⟨_,rfl,g4.trans (g5.trans (g6.trans (k7.trans g8))),λ y hy=>?_⟩
   rw[zAM etq] at hy;rcases lK.mp hy with h|h
   ·exact hn y h
   ·rw[List.mem_singleton.mp h]
    refine⟨nd,List.eq_nil_iff_forall_not_mem.mpr λ w hw=>c (hz.mpr ⟨w,hw,by simp⟩)⟩
 rintro σ1 H4 ⟨s3,rfl,g4,hn⟩;have hs2:(letN t).Nodup/\t.fv []=[]/\(letN u).Nodup/\u.fv []=[]:=⟨(hn t (by simp)).1,(hn t (by simp)).2,(hn u (by simp)).1,(hn u (by simp)).2⟩;have g14:=g3.trans g4;refine hN _ _ (viaN λ N hN=>?_);refine λ dm hdm=>?_;have k5:=zAC (o:=.dK []) hdm;have e5:(upd H4 dm (.dK [])) dm=some (.dK []):=zAB;generalize upd H4 dm (.dK [])=H5 at k5 e5 ⊢;have g15:=g14.trans k5;refine hN _ _ (viaN λ N hN=>?_);refine⟨_,rfl,t,v1,rfl,by omega,by omega,r1.mono g15.tk,λ l us6 H6 g6 hl6 el6 p6 ll6=>⟨l,rfl,⟨us6,SqL.of el6⟩,?_⟩⟩;have hgt:=zD0 n1;have hgu:=zD0 n2;have lu6:us6.length=(gpN t).length:=zAH p6;have nld:l≠dm:=λ z=>by rw[z,e5] at hl6;cases hl6
 have gpg:∀{t x:Tr},x∈gpN t->∃g as,x = .gap g as:=λ{t x} hx=>by
  have:=lU (List.mem_filter.mp hx).2;cases x with
  |gap g as=>exact⟨g,as,rfl⟩
  |bin o a b=>cases o<;>cases this
  |_=>cases this
 refine zA9 (xs:=us6) (λ i σ' H'=>∃(kvs:List (Key × V)) (s5:Option V),σ'=[some v1,some v2,some (.ref ka),s3,some (.ref dm),s5,none]/\Same H4 H'/\Tk H6 H'/\H' l=some (.lst us6)/\H' dm=some (.dK kvs)/\Fd1 (((gpN t).take i).map gN) kvs/\kvs.length<=i) ?_ ?_ ?_ ?_
 ·exact⟨[],none,rfl,k5.trans g6,.refl _,el6,g6 _ _ e5,Fd1.nil,lS _⟩
 ·rintro i σ' H' _ ⟨kvs,s5,rfl,g,tk,el',ed,gd,le⟩
  exact SqL.of el'
 ·rintro i x σ' H' hx ⟨kvs,s5,rfl,g,tk,el',ed,gd,le⟩
  obtain⟨tg,eq,rq⟩:=zAR p6 hx;have hi:i<us6.length:=(lJ.mp hx).1;obtain⟨y,as,rfl⟩:=gpg (lN eq);obtain⟨b,b',us2,rfl,hb,hb2,hl2,pas⟩:=rq.mono tk;have las:us2.length=as.length:=zAH pas;have htk:((gpN t).take (i+1)).map gN=((gpN t).take i).map gN++[(y,as.length)]:=by rw[zAM eq,List.map_append];rfl
  refine⟨_,rfl,.inr (.inr (.inl ⟨rfl,.inl ⟨kvs,ed⟩⟩)),_,rfl,b,_,1,_,rfl,rfl,SqT.of hb,zAI (j:=1) rfl,_,rfl,b,_,2,_,rfl,rfl,SqT.of hb,zAI (j:=2) rfl,b',us2,rfl,.inr (SqT.of hb2),dm,kvs,Sum.inr y,_,rfl,rfl,ed,by omega,λ z hz=>?_,λ hz=>?_⟩
  ·refine⟨kvs,_,rfl,g,tk,el',ed,?_,by omega⟩
   rw[htk];exact gd.same hz
  ·refine⟨_,_,rfl,zAO g hdm,tk.trans (Tk.dk ed),by rw[zAW nld];exact el',zAB,?_,?_⟩
   ·rw[htk,las]
    exact gd.put hz
   ·have:=zAx kvs (Sum.inr y:Key) (.int ((us2.length:Nat):Int))
    omega
 rintro σ' H7 ⟨kvs,s5,rfl,g7,tk7,el7,ed7,fd7,le7⟩;rw[List.take_of_length_le (by omega),←hgt] at fd7;have g17:=g14.trans g7;refine hN _ _ (viaN λ N hN=>?_);refine⟨_,rfl,t,v1,rfl,by omega,by omega,r1.mono g17.tk,λ l1 us8 H8 g8 hl8 el8 p8 ll8=>?_⟩;refine⟨_,rfl,u,v2,rfl,by omega,by omega,r2.mono (g17.trans g8).tk,λ l2 us9 H9 g9 hl9 el9 p9 ll9=>?_⟩;refine⟨l1,l2,_,_,rfl,rfl,g9 _ _ el8,el9,zAe (by omega),λ l3 hl3=>⟨l3,rfl,⟨_,SqL.of zAB⟩,?_⟩⟩;have k10:=zAC (o:=.lst (us8++us9)) hl3;have e10:(upd H9 l3 (.lst (us8++us9))) l3=some (.lst (us8++us9)):=zAB;have p10:Paired (Rep (upd H9 l3 (.lst (us8++us9)))) (gpN t++gpN u) (us8++us9):=zAP (Paired.mapP p8 λ U U z=>z.mono (g9.trans k10).tk) (Paired.mapP p9 λ U U z=>z.mono k10.tk);have g710:=g8.trans (g9.trans k10);generalize upd H9 l3 (.lst (us8++us9))=H10 at k10 e10 p10 g710 ⊢;have ed10:=g710 _ _ ed7;have g110:=g17.trans g710;have hgg:gcnt t++gcnt u=(gpN t++gpN u).map gN:=by rw[hgt,hgu,List.map_append]
 refine zA9 (xs:=us8++us9) (λ i σ' H'=>∃(s5:Option V),σ'=[some v1,some v2,some (.ref ka),s3,some (.ref dm),s5,none]/\Same H10 H'/\∀x∈((gpN t++gpN u).take i).map gN,zAp (gcnt t) x.1=some x.2) ?_ ?_ ?_ ?_
 ·exact⟨_,rfl,.refl _,by simp⟩
 ·rintro i σ' H' _ ⟨s5,rfl,g,hf⟩
  exact SqL.of (g _ _ e10)
 ·rintro i x σ' H' hx ⟨s5,rfl,g,hf⟩
  obtain⟨tg,eq,rq⟩:=zAR p10 hx;have hm:=lN eq;obtain⟨y,as,rfl⟩:∃g as,tg = .gap g as:=(lK.mp hm).elim (λ h=>gpg h) (λ h=>gpg h);obtain⟨b,b',us2,rfl,hb,hb2,hl2,pas⟩:=rq.mono g.tk;have las:us2.length=as.length:=zAH pas;have hin:(y,as.length)∈gcnt t++gcnt u:=by rw[hgg];exact mE.mpr ⟨_,hm,rfl⟩
  have bad:¬zAp (gcnt t) y=some as.length->Q (.bl false) H':=λ h=>q false _ (g110.trans g) ⟨(λ z=>nomatch z),λ z=>absurd ((hdl.mp z).2.2.1 _ hin) h⟩
  have hv:=fd7.vl y;have dg:DGet H' dm (.str y) (valV kvs (Sum.inr y:Key)):=DGet.k (k:=Sum.inr y) (g _ _ ed10);refine⟨_,rfl,b,_,1,_,rfl,rfl,SqT.of hb,zAI (j:=1) rfl,_,rfl,dm,_,rfl,dg,_,rfl,?_⟩;rw[hv] at dg ⊢;cases e0:zAp (gcnt t) y with
  |none=>exact iteT (iteT (bad (by rw[e0];exact(λ z=>nomatch z))))
  |some m =>
   rw[e0] at dg;refine iteF ⟨_,rfl,b,_,2,_,rfl,rfl,SqT.of hb,zAI (j:=2) rfl,b',us2,rfl,.inr (SqT.of hb2),_,rfl,_,rfl,b,_,1,_,rfl,rfl,SqT.of hb,zAI (j:=1) rfl,dm,_,rfl,dg,rfl,_,rfl,ite2 (λ c=>?_) (λ c=>?_)⟩
   ·refine bad λ z=>?_
    rw[e0] at z;have z':=mG z;subst z';rw[las] at c;simp at c
   ·refine⟨_,rfl,g,λ x hx=>?_⟩
    rw[zAM eq,List.map_append] at hx;rcases lK.mp hx with h|h
    ·exact hf x h
    ·rw[List.mem_singleton.mp h]
     have c0:((us2.length:Nat):Int)=((m:Nat):Int):=by simpa using c
     have c':us2.length=m:=by omega
     show zAp (gcnt t) y=some as.length;rw[e0,←c',las]
 rintro σ' H11 ⟨s5,rfl,g11,hf⟩;rw[List.take_of_length_le (by rw[zAH p10];exact lS _),←hgg] at hf;have g111:=g110.trans g11;obtain⟨o,ys,ek,hod,pk⟩:=hK;have lys:ys.length=ks.length:=by have:=Paired.length pk;rw[this];unfold kdV;simp
 refine hN _ _ (viaN λ N hN=>?_);refine⟨_,rfl,ka,rfl,⟨_,.inl (.inr ⟨o,g111 _ _ ek⟩)⟩,?_⟩;refine zBW (xs:=ys) (λ i σ' H'=>∃(s5 s6:Option V),σ'=[some v1,some v2,some (.ref ka),s3,some (.ref dm),s5,s6]/\Same H11 H'/\∀k∈ks.take i,k.2=Str.ofString "number" -> ∀n,zAp (gcnt t) k.1=some n->n=0) ?_ ?_ ?_ ?_
 ·exact⟨_,_,rfl,.refl _,by simp⟩
 ·rintro i σ' H' _ ⟨s5,s6,rfl,g,hf⟩
  exact .inl (.inr ⟨o,g _ _ (g111 _ _ ek)⟩)
 ·rintro i x σ' H' hx ⟨s5,s6,rfl,g,hk⟩
  obtain⟨kv,ekv,pb,rfl,hpb⟩:=zEn pk hx;unfold kdV at ekv;rw[List.getElem?_map] at ekv;obtain⟨kd,ekd,rfl⟩:=lW.mp ekv;have g1':=g111.trans g
  have next:(kd.2=Str.ofString "number" -> ∀n,zAp (gcnt t) kd.1=some n->n=0)->∀k∈ks.take (i+1),k.2=Str.ofString "number" -> ∀n,zAp (gcnt t) k.1=some n->n=0:=λ h k hk'=>by
   rw[zAM ekd] at hk';rcases lK.mp hk' with z|z
   ·exact hk k z
   ·rw[List.mem_singleton.mp z];exact h
  have hm:=lN ekd;obtain⟨m,e0⟩:=Option.isSome_iff_exists.mp (zBY.mpr (hkin kd hm));have hv:=fd7.vl kd.1;have dg:DGet H' dm (.str kd.1) (valV kvs (Sum.inr kd.1:Key)):=DGet.k (k:=Sum.inr kd.1) (g _ _ (g11 _ _ ed10));rw[hv,e0] at dg;refine⟨pb,_,rfl,SqT.of (g1' _ _ hpb),rfl,_,_,rfl,_,_,rfl,rfl,?_⟩;refine⟨_,rfl,rfl,_,rfl,ite2 (λ c1=>?_) (λ c1=>iteF ?_)⟩
  ·have e1:kd.2=Str.ofString "number" := V.str.inj (lU c1)
   refine⟨_,rfl,_,rfl,dm,_,rfl,dg,_,_,rfl,rfl,_,rfl,ite2 (λ c2=>?_) (λ c2=>?_)⟩
   ·have c2':(0:Int)<((m:Nat):Int):=lU c2
    refine q false _ g1' ⟨(λ z=>nomatch z),λ z=>?_⟩
    have:=(hdl.mp z).2.2.2.1 kd hm e1 m e0;omega
   ·refine⟨_,_,rfl,g,next λ U n en=>?_⟩
    rw[e0] at en;cases en;have c2':¬(0:Int)<((m:Nat):Int):=λ z=>c2 (lV z);omega
  ·exact⟨_,_,rfl,g,next λ e1=>absurd (lV (congrArg V.str e1)) c1⟩
 rintro σ' H12 ⟨s5,s6,rfl,g12,hk⟩;rw[List.take_of_length_le (by omega)] at hk;have g112:=g111.trans g12;have fin:∀(z:Bool) H',Same H H'->(z=true↔loudT t\/¬loudT u)->Q (.bl z) H':=λ z H' g h=>q z H' g (h.trans ⟨λ y=>hdl.mpr ⟨hnl,hs2,hf,hk,y⟩,λ y=>(hdl.mp y).2.2.2.2⟩);refine hN _ _ ?_;refine⟨_,rfl,t,v1,rfl,by omega,r1.mono g112.tk,λ b1 H13 g13 hb1=>⟨_,rfl,ite2 (λ c=>?_) (λ c=>?_)⟩⟩
 ·exact fin _ _ (g112.trans g13) ⟨λ U=>.inl (hb1.mp c),λ U=>rfl⟩
 ·refine⟨_,rfl,u,v2,rfl,by omega,r2.mono (g112.trans g13).tk,λ b2 H14 g14 hb2=>⟨_,rfl,fin _ _ (g112.trans (g13.trans g14)) ?_⟩⟩
  have h1:¬loudT t:=λ z=>c (hb1.mpr z);cases b2 with
  |true=>exact⟨(λ z=>nomatch z),λ z=>z.elim (λ y=>absurd y h1) (λ y=>absurd (hb2.mp rfl) y)⟩
  |false=>exact⟨λ U=>.inr λ y=>(nomatch hb2.mpr y),λ U=>rfl⟩
abbrev zDW:Stmt:=top 47
theorem zBe:zAY ["s", "t", "kinds", "scale", "left", "right", "gaps", "rule"] ["s", "t", "kinds", "scale"] (zAJ zDW):=by nofun
noncomputable def zFs (M:Hp->Hp->Prop):Sp:=λ vs H Q U=>∃(t u:Tr) (v1 v2:V) (ka d:Addr) (ks:List (Str × Str)) (ys:List V) (rs:Scl),vs=[v1,v2,.ref ka,.ref d]/\Rep H t v1/\Rep H u v2/\Sds t u/\KdsY H ka ks ys/\(ks.map (·.1)).Nodup/\ks.length<=60/\ScAt H d rs /\
 ∀(x:V) (H':Hp),M H H'->MadeQ (rowF rs) H' t u v1 v2 ks ys x->Q x H'
theorem zNB {k:Nat}{f g1 g2 g3 g4:Addr}{fd gd1 gd2 gd3 gd4:FuncData}(F:Fun K "made_rule" "made_rule" zDW f fd) (z_tuple:mg "tuple" = none) (zOx:FnB P w K mg base k "check_scale" g1 gd1 ["scale"] zCC) (zOi:FnB P w K mg base k "gaps_of" g2 gd2 ["shape"] zCv) (zPA:FnB P w K mg base k "is_rule" g3 gd3 ["rule"] zGd) (zPB:FnB P w K mg base k "falls" g4 gd4 ["rule", "scale"] zH5) :
  FnOk P w K mg base CX0 (k+1) f fd ["s", "t", "kinds", "scale"] (zFs Sf):=by
 refine F.ok zBe (λ vs H Q E h=>?_) (λ cdv A outer s H vs Q E hr h=>?_)
 ·obtain⟨t,u,v1,v2,ka,d,ks,ys,rs,rfl,_⟩:=h
  rfl
 obtain⟨t,u,v1,v2,ka,d,ks,ys,rs,rfl,r1,r2,hS,hK,hnd,hlk,hsc,q⟩:=h;have hu:=hu_of hr
 refine⟨_,(zAE (zAt (pe_cl zOx hr (zAA (pv 3) zAD)))
  (zAE (zAo PassesOwn.never rfl (zBG (zAj (zAA (zAj (zAA (pv 0) (zAA (pv 1) zAD)):PE _ _ _) (zAA (zAj (zAA (pv 1) (zAA (pv 0) zAD)):PE _ _ _) zAD)):PE _ _ _)) (zB7 rfl (zAc (zAK (i:=4) zBe.nd rfl (Or.inl rfl)) (zAc (zAK (i:=5) zBe.nd rfl (Or.inl rfl)) zBB))) (zAE (zAV (i:=6) zBe.nd rfl (Or.inr rfl) (pe_cl zOi hr (zAA (pv 4) zAD)))
  (zAE (zAV (i:=7) zBe.nd rfl (Or.inl rfl) (zAj (zAA (pv 4) (zAA (pv 5) (zAA (zBg zDh (by rfl) z_tuple PyProof.Rows.boot_tuple (zAA (zAs ["pair", "gaps"] [none,some 6] rfl (zBG (zN4 (pv 2) (zCq (zMy zAD)))) (λ U U U U U=>(zAK (i:=0) (show List.Nodup (["pair", "gaps"]:List Str) by decide +kernel) rfl (Or.inl rfl))) (λ U U U U U=>(zC2 (zAN (r:=rInDk) (by exact zIG hu) (iC (r:=rIxT K) zAL (pv 0)) (pv 1) rfl))) (λ U U U U U=>(pv 0)) rfl) zAD)) zAD))):PE _ _ _))
  (zAF (ps_if (zCQ (zBR (pe_cl zPA hr (zAA (pv 7) zAD))) (zBx (zBR (pe_cl zPB hr (zAA (pv 7) (zAA (pv 3) zAD)))))).pt (zAF (zAS (pv 7))) zAU)))))
  (zAF (zAS zID)))),?_⟩
 try dsimp only[cxOf,Cx.nox]
 refine⟨_,rfl,d,rs,rfl,hsc,λ H1 s1=>?_⟩;refine⟨_,rfl,_,rfl,(by show 2<=sizeLine;decide),λ p1 hp1=>?_⟩;have k2:=zAC (o:=.tup [v1,v2]) hp1;have e2:(upd H1 p1 (.tup [v1,v2])) p1=some (.tup [v1,v2]):=zAB;generalize upd H1 p1 (.tup [v1,v2])=H2 at k2 e2 ⊢;refine⟨_,rfl,_,rfl,(by show 2<=sizeLine;decide),λ p2 hp2=>?_⟩;have k3:=zAC (o:=.tup [v2,v1]) hp2;have e3:(upd H2 p2 (.tup [v2,v1])) p2=some (.tup [v2,v1]):=zAB;generalize upd H2 p2 (.tup [v2,v1])=H3 at k3 e3 ⊢;refine⟨(by show 2<=sizeLine;decide),λ pt hpt=>⟨pt,rfl,⟨_,SqT.of zAB⟩,?_⟩⟩;have k4:=zAC (o:=.tup [.ref p1,.ref p2]) hpt;have e4:(upd H3 pt (.tup [.ref p1,.ref p2])) pt=some (.tup [.ref p1,.ref p2]):=zAB;generalize upd H3 pt (.tup [.ref p1,.ref p2])=H4 at k4 e4 ⊢;have s14:Sf H H4:=s1.trans ((k2.trans (k3.trans k4)).sf);have e2':=k4 _ _ (k3 _ _ e2);have e3':=k4 _ _ e3;refine zBW (xs:=[.ref p1,.ref p2]) (λ i σ' H'=>∃(s4 s5 s6 s7:Option V),σ'=[some v1,some v2,some (.ref ka),some (.ref d),s4,s5,s6,s7]/\Sf H4 H'/\(1<=i->¬MkR (rowF rs) t u ks)/\(2<=i->¬MkR (rowF rs) u t ks)) ⟨none,none,none,none,rfl,Sf.refl _,by omega,by omega⟩ (λ i σ' H' _ h=>?_) ?_ ?_
 ·obtain⟨_,_,_,_,_,g,_⟩:=h
  exact SqT.of (g.tk _ _ e4)
 ·rintro i x σ1 H5 hx ⟨s4,s5,s6,s7,rfl,s5',h1,h2⟩
  have s15:=s14.trans s5'
  obtain⟨pi,ta,tb,va,vb,rfl,epi,ra,rb,hSa,fin,next⟩:∃(pi:Addr) (ta tb:Tr) (va vb:V),x = .ref pi/\H5 pi=some (.tup [va,vb])/\Rep H5 ta va/\Rep H5 tb vb/\Sds ta tb/\(MkR (rowF rs) ta tb ks->∀(x:V) H',Sf H H'->RuAt H' x va vb (fz ta ks ys)->Q x H')/\(¬MkR (rowF rs) ta tb ks->(1<=i+1->¬MkR (rowF rs) t u ks)/\(2<=i+1->¬MkR (rowF rs) u t ks)):=by
   match i,hx with
   |0,hx=>cases hx;exact⟨p1,t,u,v1,v2,rfl,s5'.tk _ _ e2',r1.mono s15.tk,r2.mono s15.tk,hS,λ m x H' g z=>q x H' g (.inl ⟨m,z⟩),λ n=>⟨λ U=>n,by omega⟩⟩
   |1,hx=>cases hx;exact⟨p2,u,t,v2,v1,rfl,s5'.tk _ _ e3',r2.mono s15.tk,r1.mono s15.tk,hS.symm,λ m x H' g z=>q x H' g (.inr (.inl ⟨h1 (by omega),m,z⟩)),λ n=>⟨λ U=>h1 (by omega),λ U=>n⟩⟩
  refine⟨pi,_,rfl,SqT.of epi,rfl,_,_,rfl,_,_,rfl,rfl,?_⟩;refine⟨_,rfl,ta,va,rfl,ra,by have:=hSa.st;omega,hSa.nt.cnt,λ dg kvs H6 g6 hdg edg fd6 l6=>?_⟩;have hK6:=hK.mono (s15.trans g6.sf);obtain⟨o0,ek6,ho0,pk6⟩:=hK6;have lys:ys.length=ks.length:=by have:=Paired.length pk6;rw[this];unfold kdV;simp
  refine⟨_,rfl,_,rfl,?_⟩;refine zM5 rfl (.inl (.inr ⟨o0,ek6⟩)) λ kt H7 g7 hkt=>⟨kt,rfl,⟨_,hkt⟩,λ acc hacc=>?_⟩;refine zB4 (xs:=ys) (λ i H'=>Same H7 H'/\H' acc=some (.lst (fz ta (ks.take i) (ys.take i)))) ⟨zAC hacc,zAB⟩ (λ i H' U h=>?_) ?_ ?_
  ·exact hkt.sm h.1
  ·rintro j y Hx hy ⟨gx,ea⟩
   obtain⟨kv,ekv,pb,rfl,hpb⟩:=zEn pk6 hy;unfold kdV at ekv;rw[List.getElem?_map] at ekv;obtain⟨kd,ekd,rfl⟩:=lW.mp ekv;have hj:j<ks.length:=(lJ.mp ekd).1;have gx7:=g7.trans gx;have hv:=fd6.vl kd.1;have dgt:DGet Hx dg (.str kd.1) (valV kvs (Sum.inr kd.1:Key)):=DGet.k (k:=Sum.inr kd.1) (gx7 _ _ edg)
   have hm:(valV kvs (Sum.inr kd.1:Key)).isSome=true↔kd.1∈gS ta:=by
    rw[hv,Option.isSome_map];exact zBY
   refine⟨.skip (.keep .nil),_,rfl,pb,_,0,_,rfl,rfl,SqT.of (gx7 _ _ hpb),zAI (j:=0) rfl,_,rfl,dg,_,rfl,dgt,_,rfl,ite2 (λ c=>?_) (λ c=>?_)⟩
   ·have lf:=zKQ ta (ks.take j) (ys.take j)
    rw[List.length_take] at lf;refine⟨_,rfl,_,ea,zAQ (by omega),zAO gx hacc,?_⟩;rw[zAB,zE9 ta ekd hy,if_pos (hm.mp c)]
   ·refine⟨gx,?_⟩
    rw[ea,zE9 ta ekd hy,if_neg λ z=>c (hm.mpr z),List.append_nil]
  rintro H8 ⟨g8,ea8⟩;rw[List.take_of_length_le (by omega),List.take_of_length_le (Nat.le_refl _)] at ea8;refine⟨acc,_,rfl,SqL.of ea8,λ kz oz hkz hoz=>?_⟩;have k9:=zAC (o:=.frz oz (.tup (fz ta ks ys))) hkz;have e9:(upd H8 kz (.frz oz (.tup (fz ta ks ys)))) kz=some (.frz oz (.tup (fz ta ks ys))):=zAB;generalize upd H8 kz (.frz oz (.tup (fz ta ks ys)))=H9 at k9 e9 ⊢;refine⟨(by show 3<=sizeLine;decide),λ r hr9=>?_⟩;have k10:=zAC (o:=.tup [va,vb,.ref kz]) hr9;have e10:(upd H9 r (.tup [va,vb,.ref kz])) r=some (.tup [va,vb,.ref kz]):=zAB;generalize upd H9 r (.tup [va,vb,.ref kz])=H10 at k10 e10 ⊢;have g610:=g7.trans (g8.trans (k9.trans k10));have g510:=g6.trans g610;have ra10:=ra.mono g510.tk;have rb10:=rb.mono g510.tk;have pk10:Paired (PrV H10) (fz ta ks ys) (kdV (kin ta ks)):=zKP ta (Paired.mapP pk6 λ U U z=>zBn g610.tk z);have hRu:RuR H10 r ta tb (kin ta ks):=⟨⟨va,vb,.ref kz,⟨e10,ra10,rb10,by have:=hSa.st;omega,by have:=hSa.su;omega,hSa.nt.cnt,hSa.nu.cnt⟩,kz,oz,_,rfl,k10 _ _ e9,hoz,zJX pk10⟩,hSa.nt.h4,zMR hnd,mI (zKC ta ks) hlk,hSa.ws⟩;refine⟨_,rfl,r,ta,tb,_,rfl,hRu,λ dr H11 g11 hD=>⟨_,rfl,ite2 (λ c=>?_) (λ c=>iteF ?_)⟩⟩
  ·have hD0:Due ta tb (kin ta ks) zAr none:=by
    cases dr with
    |none=>exact hD
    |some z=>cases c
   have s11:Sf H H11:=s15.trans (g510.trans g11).sf;refine⟨_,rfl,_,rfl,r,d,ta,tb,kin ta ks,rs,rfl,⟨va,vb,kz,oz,_,g11 _ _ e10,ra10.mono g11.tk,rb10.mono g11.tk,g11 _ _ (k10 _ _ e9),hoz,Paired.mapP pk10 λ U U z=>zBn g11.tk z⟩,by have:=hSa.st;omega,by have:=hSa.su;omega,zMR hnd,by have:=zKC ta ks;omega,hsc.mono s11,λ b H12 s12 hb=>⟨_,rfl,ite2 (λ c2=>?_) (λ c2=>?_)⟩⟩
   ·exact⟨_,rfl,fin ⟨hD0,(zGv hSa hD0).mp (hb.mp c2)⟩ _ _ (s11.trans s12) ⟨r,kz,oz,rfl,s12.tk _ _ (g11 _ _ e10),s12.frzT (g11 _ _ (k10 _ _ e9))⟩⟩
   ·obtain⟨n1,n2⟩:=next λ m=>c2 (hb.mpr ((zGv hSa hD0).mpr m.2))
    exact⟨_,_,_,_,rfl,s5'.trans ((g510.trans g11).sf.trans s12),n1,n2⟩
  ·obtain⟨n1,n2⟩:=next λ m=>by
    have:=hD.uniq m.1;subst this;exact c rfl
   exact⟨_,_,_,_,rfl,s5'.trans (g510.trans g11).sf,n1,n2⟩
 ·rintro σ1 H5 ⟨s4,s5,s6,s7,rfl,s5',h1,h2⟩
  exact q .non _ (s14.trans s5') (.inr (.inr ⟨h1 (show 1<=2 by decide),h2 (lS 2),rfl⟩))
abbrev zEh:Stmt:=top 65
theorem zCP:zAY ["_law_s", "_law_t", "_law_kinds_here", "_law_scale_here", "_law_left", "_law_right", "_law_there", "_law_rule"] ["_law_s", "_law_t", "_law_kinds_here", "_law_scale_here"] (zAJ zEh):=by nofun
theorem zOB {k:Nat}{f g2 g3 g4:Addr}{fd gd2 gd3 gd4:FuncData}(F:Fun K "_law_due" "_law_due" zEh f fd) (z_tuple:mg "tuple" = none) (zO2:FnB P w K mg base k "_law_gaps" g2 gd2 ["_law_shape_here"] (zDS 122)) (zPC:FnB P w K mg base k "_law_is_rule" g3 gd3 ["_law_left", "_law_right", "_law_kinds_here"] zHz) (zPD:FnB P w K mg base k "_law_falls" g4 gd4 ["_law_rule", "_law_scale_here"] zGc) :
  FnOk P w K mg base CX0 (k+1) f fd ["_law_s", "_law_t", "_law_kinds_here", "_law_scale_here"] (zFs Same):=by
 refine F.ok zCP (λ vs H Q E h=>?_) (λ cdv A outer s H vs Q E hr h=>?_)
 ·obtain⟨t,u,v1,v2,ka,d,ks,ys,rs,rfl,_⟩:=h
  rfl
 obtain⟨t,u,v1,v2,ka,d,ks,ys,rs,rfl,r1,r2,hS,hK,hnd,hlk,hsc,q⟩:=h;have hu:=hu_of hr
 refine⟨_,(zAE (zAo PassesOwn.never rfl (zBG (zAj (zAA (zAj (zAA (pv 0) (zAA (pv 1) zAD)):PE _ _ _) (zAA (zAj (zAA (pv 1) (zAA (pv 0) zAD)):PE _ _ _) zAD)):PE _ _ _)) (zB7 rfl (zAc (zAK (i:=4) zCP.nd rfl (Or.inl rfl)) (zAc (zAK (i:=5) zCP.nd rfl (Or.inl rfl)) zBB))) (zAE (zAV (i:=6) zCP.nd rfl (Or.inr rfl) (pe_cl zO2 hr (zAA (pv 4) zAD)))
  (zAE (zAV (i:=7) zCP.nd rfl (Or.inl rfl) (zAj (zAA (pv 4) (zAA (pv 5) (zAA (zBg zDh (by rfl) z_tuple PyProof.Rows.boot_tuple (zAA (zAs ["_law_row", "_law_there"] [none,some 6] rfl (zBG (pv 2)) (λ U U U U U=>(zAK (i:=0) (show List.Nodup (["_law_row", "_law_there"]:List Str) by decide +kernel) rfl (Or.inl rfl))) (λ U U U U U=>(zC2 (zAN (r:=rInDk) (by exact zIG hu) (iC (r:=rIxT K) zAL (pv 0)) (pv 1) rfl))) (λ U U U U U=>(pv 0)) rfl) zAD)) zAD))):PE _ _ _))
  (zAF (ps_if (zCQ (zBR (pe_cl zPC hr (zAA (pv 4) (zAA (pv 5) (zAA (iC (r:=rIxT K) zAL (pv 7)) zAD))))) (zBx (zBR (pe_cl zPD hr (zAA (pv 7) (zAA (pv 3) zAD)))))).pt (zAF (zAS (pv 7))) zAU)))))
  (zAF (zAS zID))),?_⟩
 try dsimp only[cxOf,Cx.nox]
 refine⟨_,rfl,_,rfl,(by show 2<=sizeLine;decide),λ p1 hp1=>?_⟩;have k2:=zAC (o:=.tup [v1,v2]) hp1;have e2:(upd H p1 (.tup [v1,v2])) p1=some (.tup [v1,v2]):=zAB;generalize upd H p1 (.tup [v1,v2])=H2 at k2 e2 ⊢;refine⟨_,rfl,_,rfl,(by show 2<=sizeLine;decide),λ p2 hp2=>?_⟩;have k3:=zAC (o:=.tup [v2,v1]) hp2;have e3:(upd H2 p2 (.tup [v2,v1])) p2=some (.tup [v2,v1]):=zAB;generalize upd H2 p2 (.tup [v2,v1])=H3 at k3 e3 ⊢;refine⟨(by show 2<=sizeLine;decide),λ pt hpt=>⟨pt,rfl,⟨_,SqT.of zAB⟩,?_⟩⟩;have k4:=zAC (o:=.tup [.ref p1,.ref p2]) hpt;have e4:(upd H3 pt (.tup [.ref p1,.ref p2])) pt=some (.tup [.ref p1,.ref p2]):=zAB;generalize upd H3 pt (.tup [.ref p1,.ref p2])=H4 at k4 e4 ⊢;have s14:Same H H4:=k2.trans (k3.trans k4);have e2':=k4 _ _ (k3 _ _ e2);have e3':=k4 _ _ e3;refine zBW (xs:=[.ref p1,.ref p2]) (λ i σ' H'=>∃(s4 s5 s6 s7:Option V),σ'=[some v1,some v2,some (.ref ka),some (.ref d),s4,s5,s6,s7]/\Same H4 H'/\(1<=i->¬MkR (rowF rs) t u ks)/\(2<=i->¬MkR (rowF rs) u t ks)) ⟨none,none,none,none,rfl,Same.refl _,by omega,by omega⟩ (λ i σ' H' _ h=>?_) ?_ ?_
 ·obtain⟨_,_,_,_,_,g,_⟩:=h
  exact SqT.of (g _ _ e4)
 ·rintro i x σ1 H5 hx ⟨s4,s5,s6,s7,rfl,s5',h1,h2⟩
  have s15:=s14.trans s5'
  obtain⟨pi,ta,tb,va,vb,rfl,epi,ra,rb,hSa,fin,next⟩:∃(pi:Addr) (ta tb:Tr) (va vb:V),x = .ref pi/\H5 pi=some (.tup [va,vb])/\Rep H5 ta va/\Rep H5 tb vb/\Sds ta tb/\(MkR (rowF rs) ta tb ks->∀(x:V) H',Same H H'->RuAt H' x va vb (fz ta ks ys)->Q x H')/\(¬MkR (rowF rs) ta tb ks->(1<=i+1->¬MkR (rowF rs) t u ks)/\(2<=i+1->¬MkR (rowF rs) u t ks)):=by
   match i,hx with
   |0,hx=>cases hx;exact⟨p1,t,u,v1,v2,rfl,s5' _ _ e2',r1.mono s15.tk,r2.mono s15.tk,hS,λ m x H' g z=>q x H' g (.inl ⟨m,z⟩),λ n=>⟨λ U=>n,by omega⟩⟩
   |1,hx=>cases hx;exact⟨p2,u,t,v2,v1,rfl,s5' _ _ e3',r2.mono s15.tk,r1.mono s15.tk,hS.symm,λ m x H' g z=>q x H' g (.inr (.inl ⟨h1 (by omega),m,z⟩)),λ n=>⟨λ U=>h1 (by omega),λ U=>n⟩⟩
  have hst:=hSa.st;have hsu:=hSa.su;refine⟨pi,_,rfl,SqT.of epi,rfl,_,_,rfl,_,_,rfl,rfl,?_⟩;refine⟨_,rfl,ta,va,rfl,by omega,by omega,ra,λ dg kvs H6 g6 hdg edg fd6 l6=>?_⟩;obtain⟨o0,ek6,ho0,pk6⟩:=hK.mono (s15.trans g6).sf;have lys:ys.length=ks.length:=by have:=Paired.length pk6;rw[this];unfold kdV;simp
  refine⟨_,rfl,_,rfl,_,rfl,ka,rfl,⟨_,.inl (.inr ⟨o0,ek6⟩)⟩,λ acc hacc=>?_⟩;refine zB4 (xs:=ys) (λ i H'=>Same H6 H'/\H' acc=some (.lst (fz ta (ks.take i) (ys.take i)))) ⟨zAC hacc,zAB⟩ (λ i H' U h=>?_) ?_ ?_
  ·exact .inl (.inr ⟨o0,h.1 _ _ ek6⟩)
  ·rintro j y Hx hy ⟨gx,ea⟩
   obtain⟨kv,ekv,pb,rfl,hpb⟩:=zEn pk6 hy;unfold kdV at ekv;rw[List.getElem?_map] at ekv;obtain⟨kd,ekd,rfl⟩:=lW.mp ekv;have hj:j<ks.length:=(lJ.mp ekd).1;have dgt:DGet Hx dg (.str kd.1) (valV kvs (Sum.inr kd.1:Key)):=DGet.k (k:=Sum.inr kd.1) (gx _ _ edg);have hm:(valV kvs (Sum.inr kd.1:Key)).isSome=true↔kd.1∈gS ta:=(fd6.vl kd.1).trans (zGE hSa.nt kd.1);refine⟨.skip (.keep .nil),_,rfl,pb,_,0,_,rfl,rfl,SqT.of (gx _ _ hpb),zAI (j:=0) rfl,_,rfl,dg,_,rfl,dgt,_,rfl,ite2 (λ c=>?_) (λ c=>?_)⟩
   ·have lf:=zKQ ta (ks.take j) (ys.take j)
    rw[List.length_take] at lf;refine⟨_,rfl,_,ea,zAQ (by omega),zAO gx hacc,?_⟩;rw[zAB,zE9 ta ekd hy,if_pos (hm.mp c)]
   ·refine⟨gx,?_⟩
    rw[ea,zE9 ta ekd hy,if_neg λ z=>c (hm.mpr z),List.append_nil]
  rintro H8 ⟨g8,ea8⟩;rw[List.take_of_length_le (by omega),List.take_of_length_le (Nat.le_refl _)] at ea8;refine⟨acc,_,rfl,SqL.of ea8,λ kz oz hkz hoz=>?_⟩;have k9:=zAC (o:=.frz oz (.tup (fz ta ks ys))) hkz;have e9:(upd H8 kz (.frz oz (.tup (fz ta ks ys)))) kz=some (.frz oz (.tup (fz ta ks ys))):=zAB;generalize upd H8 kz (.frz oz (.tup (fz ta ks ys)))=H9 at k9 e9 ⊢;refine⟨(by show 3<=sizeLine;decide),λ r hr9=>?_⟩;have k10:=zAC (o:=.tup [va,vb,.ref kz]) hr9;have e10:(upd H9 r (.tup [va,vb,.ref kz])) r=some (.tup [va,vb,.ref kz]):=zAB;generalize upd H9 r (.tup [va,vb,.ref kz])=H10 at k10 e10 ⊢;have g610:=g8.trans (k9.trans k10);have g510:=g6.trans g610;have ra10:=ra.mono g510.tk;have rb10:=rb.mono g510.tk;have pk10:Paired (PrV H10) (fz ta ks ys) (kdV (kin ta ks)):=zKP ta (Paired.mapP pk6 λ U U z=>zBn g610.tk z);refine⟨_,rfl,_,rfl,_,rfl,r,_,2,_,rfl,rfl,SqT.of e10,zAI (j:=2) rfl,ta,tb,va,vb,kz,kin ta ks,rfl,ra10,rb10,hst,hsu,hSa.nt,hSa.nu,⟨oz,_,k10 _ _ e9,hoz,pk10⟩,zOD,λ z H11 g11 hD=>⟨_,rfl,ite2 (λ c=>?_) (λ c=>iteF ?_)⟩⟩
  ·have hD0:=hD.mp c
   have s11:Same H H11:=s15.trans (g510.trans g11);refine⟨_,rfl,_,rfl,r,d,ta,tb,kin ta ks,rs,rfl,⟨va,vb,kz,oz,_,g11 _ _ e10,ra10.mono g11.tk,rb10.mono g11.tk,g11 _ _ (k10 _ _ e9),hoz,Paired.mapP pk10 λ U U z=>zBn g11.tk z⟩,hst,hsu,hsc.mono s11.sf,λ b H12 s12 hb=>⟨_,rfl,ite2 (λ c2=>?_) (λ c2=>?_)⟩⟩
   ·exact⟨_,rfl,fin ⟨hD0,hb.mp c2⟩ _ _ (s11.trans s12) ⟨r,kz,oz,rfl,s12 _ _ (g11 _ _ e10),s12 _ _ (g11 _ _ (k10 _ _ e9))⟩⟩
   ·obtain⟨n1,n2⟩:=next λ m=>c2 (hb.mpr m.2)
    exact⟨_,_,_,_,rfl,s5'.trans (g510.trans (g11.trans s12)),n1,n2⟩
  ·obtain⟨n1,n2⟩:=next λ m=>c (hD.mpr m.1)
   exact⟨_,_,_,_,rfl,s5'.trans (g510.trans g11),n1,n2⟩
 ·rintro σ1 H5 ⟨s4,s5,s6,s7,rfl,s5',h1,h2⟩
  exact q .non _ (s14.trans s5') (.inr (.inr ⟨h1 (show 1<=2 by decide),h2 (lS 2),rfl⟩))
abbrev zBb:Stmt:=top 59
theorem zCx:zAY ["_law_found", "_law_part"] ["_law_found"] (zAJ zBb):=by nofun
abbrev zCZ:Stmt:=top 66
theorem zFK:zAY ["_law_found", "_law_due_here"] ["_law_found", "_law_due_here"] (zAJ zCZ):=by nofun
noncomputable def zCO (n:Nat):Sp:=λ vs H Q U=>∃(t:Tr) (v:V),vs=[v]/\t.size<=n/\NmG t/\Rep H t v/\∀(H':Hp),Same H H'->Q (.bl true) H'
theorem zJs {k n:Nat}{f:Addr}{fd:FuncData}(F:Fun K "_law_is_shape" "_law_is_shape" zBb f fd) (z_isinstance:mg "isinstance" = none) (z_tuple:mg "tuple" = none) (z_str:mg "str" = none) (z_int:mg "int" = none) (z_bool:mg "bool" = none) (z_len:mg "len" = none)
  (zPE:FnB P w K mg base k "_law_is_shape" f fd ["_law_found"] (zCO n)):FnOk P w K mg base CX0 (k+1) f fd ["_law_found"] (zCO (n+1)):=by
 refine F.ok zCx (λ vs H Q E h=>?_) (λ cdv A outer s H vs Q E hr h=>?_)
 ·obtain⟨t,v,rfl,_⟩:=h
  rfl
 obtain⟨t,v,rfl,hn,hN,hR,q⟩:=h
 refine⟨_,(zAE (ps_if (pw_or (zDq (zBR (zAX zBp (by rfl) z_isinstance PyProof.Rows.boot_isinstance (zAA (pv 0) (zAA (zCK (v:=.ty _) (by rfl) z_tuple PyProof.Rows.boot_tuple (by rfl)) zAD))))) (pw_or (zAN op_lt (zAX zAa (by rfl) z_len PySem.boot_len (zAA (pv 0) zAD)) zAG (zAZ _)) (zFX (zDq (zBR (zAX zBp (by rfl) z_isinstance PyProof.Rows.boot_isinstance (zAA (iC (r:=rIxT K) zAL (pv 0)) (zAA (zCK (v:=.ty _) (by rfl) z_str PyProof.Rows.boot_str (by rfl)) zAD)))))))).pt (zAF (zAS pe_bl)) zAU)
  (zAE (ps_if (zAN op_eq (iC (r:=rIxT K) zAL (pv 0)) zAd (zAZ _)) (zAF (zAS (zDv (zA6 op_eq (zAX zAa (by rfl) z_len PySem.boot_len (zAA (pv 0) zAD)) zAG (zAZ _)) (zDv (zAX zBp (by rfl) z_isinstance PyProof.Rows.boot_isinstance (zAA (iC (r:=rIxT K) zAL (pv 0)) (zAA (zCK (v:=.ty _) (by rfl) z_int PyProof.Rows.boot_int (by rfl)) zAD))) (zCq (zIC (zAX zBp (by rfl) z_isinstance PyProof.Rows.boot_isinstance (zAA (iC (r:=rIxT K) zAL (pv 0)) (zAA (zCK (v:=.ty _) (by rfl) z_bool PyProof.Rows.boot_bool (by rfl)) zAD))))))))) zAU)
  (zAE (zAo PassesOwn.never rfl (zBG (zBU zEB (pv 0) (zBj zAG) zBy)) (zAK (i:=1) zCx.nd rfl (Or.inl rfl)) (zAF (ps_if (zCQ (zBR (zAX zBp (by rfl) z_isinstance PyProof.Rows.boot_isinstance (zAA (pv 1) (zAA (zCK (v:=.ty _) (by rfl) z_tuple PyProof.Rows.boot_tuple (by rfl)) zAD)))) (zCQ (zAN op_gt (zAX zAa (by rfl) z_len PySem.boot_len (zAA (pv 1) zAD)) zAG (zAZ _)) (zBx (zDq (zBR (pe_cl zPE hr (zAA (pv 1) zAD))))))).pt (zAF (zAS (zA6 op_eq (iC (r:=rIxT K) zAL (pv 0)) zAd (zAZ _)))) zAU)))
  (zAF (zAS pe_bl))))),?_⟩
 try dsimp only[cxOf,Cx.nox]
 have hR0:=hR;obtain⟨a0,xs,rfl,ha0,hl0,hE⟩:=hR.items hN;have at0:atI (V.str t.kd.s::xs) 0=some (.str t.kd.s):=zAI (j:=0) rfl;refine⟨_,rfl,_, "tuple", _,true,rfl,.tup ha0,rfl,_,rfl,iteF ?_⟩;refine⟨_,rfl,a0,_,rfl,.inr (SqT.of ha0),_,_,rfl,rfl,_,rfl,ite2 (λ c=>?_) (λ U=>?_)⟩
 ·have:=lU c
  simp only[List.length_cons] at this;omega
 refine⟨_,rfl,a0,_,0,_,rfl,rfl,SqT.of ha0,at0,_, "str", _,true,rfl,.str _,rfl,_,rfl,iteF ?_⟩;refine⟨_,rfl,a0,_,0,_,rfl,rfl,SqT.of ha0,at0,rfl,_,rfl,ite2 (λ c=>?_) (λ c1=>?_)⟩
 ·have z:t.kd = .num:=Kd.eq_iff.mp (lU c)
  cases t with
  |num n =>
   obtain⟨a',e',ha'⟩:=hR0;cases e';refine⟨_,rfl,a0,_,rfl,.inr (SqT.of ha'),rfl,_,rfl,iteT ?_⟩;refine⟨_,rfl,a0,_,1,_,rfl,rfl,SqT.of ha',zAI (j:=1) rfl,_, "int", _,true,rfl,.int n,rfl,_,rfl,iteT ?_⟩;exact⟨_,rfl,a0,_,1,_,rfl,rfl,SqT.of ha',zAI (j:=1) rfl,_, "bool", _,false,rfl,.int n,rfl,_,rfl,q H (.refl _)⟩
  |bin o a b=>cases o<;>cases z
  |_=>cases z
 refine⟨_,rfl,1,rfl,a0,_,rfl,ha0,zGJ _ _,λ ps H1 k1 e1=>?_⟩;rw[zKi] at e1;refine⟨ps,rfl,⟨_,SqT.of e1⟩,?_⟩;refine zBW (xs:=xs) (λ i σ' H'=>∃(s1:Option V),σ'=[some (.ref a0),s1]/\Same H1 H') ⟨none,rfl,.refl _⟩ (λ i σ' H' _ h=>?_) ?_ ?_
 ·obtain⟨_,_,g⟩:=h
  exact SqT.of (g _ _ e1)
 ·rintro i x σ1 H2 hx ⟨s1,rfl,g2⟩
  have g12:=k1.trans g2;rcases (hE x (lN hx)).mono g12.tk with ⟨z,rfl⟩|⟨z,rfl⟩|⟨b,us,rfl,hb,hl⟩|⟨p,hp,rp⟩
  ·exact⟨_,rfl,_, "tuple", _,false,rfl,.str z,rfl,_,rfl,iteF (iteF ⟨_,rfl,g2⟩)⟩
  ·exact⟨_,rfl,_, "tuple", _,false,rfl,.int z,rfl,_,rfl,iteF (iteF ⟨_,rfl,g2⟩)⟩
  ·refine⟨_,rfl,_, "tuple", _,true,rfl,.tup hb,rfl,_,rfl,iteT ?_⟩
   refine⟨_,rfl,b,_,rfl,.inr (SqT.of hb),_,_,rfl,rfl,_,rfl,ite2 (λ c=>?_) (λ U=>iteF ⟨_,rfl,g2⟩)⟩;have:=lU c;omega
  ·obtain⟨ai,hsi,usi,rfl,hai,_,_⟩:=id rp.all
   have hsz:=zBC hp;refine⟨_,rfl,_, "tuple", _,true,rfl,.tup hai,rfl,_,rfl,iteT ?_⟩;refine⟨_,rfl,ai,_,rfl,.inr (SqT.of hai),_,_,rfl,rfl,_,rfl,ite2 (λ U=>?_) (λ U=>iteF ⟨_,rfl,g2⟩)⟩;exact⟨_,rfl,p,_,rfl,by omega,hN.part hp,rp,λ H3 g3=>⟨_,rfl,iteF ⟨_,rfl,g2.trans g3⟩⟩⟩
 ·rintro σ1 H2 ⟨s1,rfl,g2⟩
  exact q H2 (k1.trans g2)
theorem zHZ {k:Nat}{f:Addr}{fd:FuncData}:FnOk P w K mg base CX0 k f fd ["_law_found"] (zCO 0):=by
 have no:∀vs H Q E,¬zCO 0 vs H Q E:=λ vs H Q E h=>by
  obtain⟨t,v,_,hn,_⟩:=h;have:=zAi t;omega
 exact⟨λ vs H Q E h=>absurd h (no vs H Q E),λ A outer s H args us vs Q E U U U U h=>absurd h (no vs H Q E)⟩
theorem zFp {k:Nat}{f:Addr}{fd:FuncData}(F:Fun K "_law_is_shape" "_law_is_shape" zBb f fd) (b:Binds K fd ["_law_found"] []) (m:mg "_law_is_shape" = some (.ref f)) (z_isinstance:mg "isinstance" = none) (z_tuple:mg "tuple" = none) (z_str:mg "str" = none) (z_int:mg "int" = none) (z_bool:mg "bool" = none) (z_len:mg "len" = none):∀n:Nat,FnB P w K mg base (k+n) "_law_is_shape" f fd ["_law_found"] (zCO n)
 |0=>⟨zHZ,b,F.kp,m⟩
 |n+1=>⟨zJs F z_isinstance z_tuple z_str z_int z_bool z_len (zFp F b m z_isinstance z_tuple z_str z_int z_bool z_len n),b,F.kp,m⟩
noncomputable def zH0:Sp:=λ vs H Q U=>∃(x y:V),vs=[x,y]/\((x = .non/\y = .non)\/∃(t u:Tr) (v1 v2:V) (zs:List V),RuAt H x v1 v2 zs/\RuAt H y v1 v2 zs/\Rep H t v1/\Rep H u v2/\Sds t u/\∀z∈zs,∃b,z = .ref b)/\∀H',Same H H'->Q (.bl true) H'
theorem zLV {k:Nat}{f g1:Addr}{fd gd1:FuncData}(F:Fun K "_law_is_made" "_law_is_made" zCZ f fd) (z_isinstance:mg "isinstance" = none) (z_tuple:mg "tuple" = none) (z_len:mg "len" = none) (zPE:FnB P w K mg base k "_law_is_shape" g1 gd1 ["_law_found"] (zCO 60)):FnOk P w K mg base CX0 (k+1) f fd ["_law_found", "_law_due_here"] zH0:=by
 refine F.ok zFK (λ vs H Q E h=>?_) (λ cdv A outer s H vs Q E hr h=>?_)
 ·obtain⟨x,y,rfl,_⟩:=h
  rfl
 obtain⟨x,y,rfl,hxy,q⟩:=h;have hu:=hu_of hr
 refine⟨_,(zAE (ps_if (zAN zMM (pv 1) zID (zAZ _)) (zAF (zAS (zA6 zMM (pv 0) zID (zAZ _)))) zAU)
  (zAE (ps_if (pw_or (zDq (zBR (zAX zBp (by rfl) z_isinstance PyProof.Rows.boot_isinstance (zAA (pv 0) (zAA (zCK (v:=.ty _) (by rfl) z_tuple PyProof.Rows.boot_tuple (by rfl)) zAD))))) (zFX (zAN op_ne (zAX zAa (by rfl) z_len PySem.boot_len (zAA (pv 0) zAD)) zAG (zAZ _)))).pt (zAF (zAS pe_bl)) zAU)
  (zAF (zAS (zDv (pe_cl zPE hr (zAA (iC (r:=rIxT K) zAL (pv 0)) zAD)) (zDv (pe_cl zPE hr (zAA (iC (r:=rIxT K) zAL (pv 0)) zAD)) (zCq (zA6 (zM6 hu) (pv 0) (pv 1) (zAZ _))))))))),?_⟩
 try dsimp only[cxOf,Cx.nox]
 rcases hxy with ⟨rfl,rfl⟩|⟨t,u,v1,v2,zs,⟨r,k1,o1,rfl,er,ek1⟩,⟨r',k2,o2,rfl,er',ek2⟩,r1,r2,hS,hz⟩
 ·exact⟨_,rfl,rfl,_,rfl,iteT ⟨_,rfl,rfl,q H (.refl _)⟩⟩
 obtain⟨c1,_,_,rfl,_,_,_⟩:=id r1.all;obtain⟨c2,_,_,rfl,_,_,_⟩:=id r2.all;have hst:=hS.st;have hsu:=hS.su;refine⟨_,rfl,rfl,_,rfl,iteF ?_⟩;refine⟨_,rfl,_, "tuple", _,true,rfl,.tup er,rfl,_,rfl,iteF ?_⟩;refine⟨_,rfl,r,_,rfl,.inr (SqT.of er),rfl,_,rfl,iteF ?_⟩;refine⟨_,rfl,r,_,0,_,rfl,rfl,SqT.of er,zAI (j:=0) rfl,t,_,rfl,by omega,hS.nt,r1,λ H1 g1=>⟨_,rfl,iteT ?_⟩⟩;refine⟨_,rfl,r,_,1,_,rfl,rfl,SqT.of (g1 _ _ er),zAI (j:=1) rfl,u,_,rfl,by omega,hS.nu,r2.mono g1.tk,λ H2 g2=>⟨_,rfl,iteT ?_⟩⟩;have g12:=g1.trans g2;exact⟨_,rfl,_,rfl,r,r',_,_,rfl,rfl,SqT.of (g12 _ _ er),SqT.of (g12 _ _ er'),.cons ⟨c1,c1,rfl,rfl,.inl rfl⟩ (.cons ⟨c2,c2,rfl,rfl,.inl rfl⟩ (.cons ⟨k1,k2,rfl,rfl,.inr ⟨zs,.inl (.inr ⟨o1,g12 _ _ ek1⟩),.inl (.inr ⟨o2,g12 _ _ ek2⟩),hz⟩⟩ .nil)),q H2 g12⟩
abbrev zCb:Stmt:=top 64
theorem zCE:zAY ["_law_shape_here", "_law_cell", "_law_names", "_law_gap", "_law_number", "_law_way", "_law_name"] ["_law_shape_here", "_law_cell", "_law_names", "_law_gap", "_law_number"] (zAJ zCb):=by nofun
noncomputable def zH6:Sp:=λ vs H Q U=>∃(t:Tr) (v nv:V) (c n:Int) (nl:Addr) (x0 x1 g:Str),vs=[v,.int c,.ref nl,.str g,nv]/\Rep H t v/\H nl=some (.lst [.str x0,.str x1])/\Rep H (.num n) nv/\Pd [x0,x1] t/\∀(t':Tr) (v':V) (H':Hp),Same H H'->Rep H' t' v'->t'.size<=t.size+6->Pd [x0,x1] t'->Q v' H'
theorem zLc {k:Nat}{f:Addr}{fd:FuncData}(F:Fun K "_law_dressed" "_law_dressed" zCb f fd):FnOk P w K mg base CX0 (k+1) f fd ["_law_shape_here", "_law_cell", "_law_names", "_law_gap", "_law_number"] zH6:=by
 refine F.ok zCE (λ vs H Q E h=>?_) (λ cdv A outer s H vs Q E hr h=>?_)
 ·obtain⟨t,v,nv,c,n,nl,x0,x1,g,rfl,_⟩:=h
  rfl
 obtain⟨t,v,nv,c,n,nl,x0,x1,g,rfl,hR,hnl,hnv,hP,q⟩:=h
 refine⟨_,(Sd.un (zAw (zEm (i:=5) zCE.nd rfl (Or.inl rfl) ⟨pe_op zBO (pv 1) zAG⟩)
  (zAw (zEm (i:=6) zCE.nd rfl (Or.inl rfl) (zBT (zAb ⟨zAd⟩ (zAb (zDQ (r:=rIxL K) zAh ⟨pv 2⟩ ⟨pe_op zBO (pe_op zBL (pv 1) zAG) zAG⟩ (λ U U=>rfl)) ⟨zAD⟩))))
  (zAw (zGi ⟨zAN op_eq (pv 5) zAG (zAZ _)⟩ (zBS (zCJ (zBT (zAb ⟨zAd⟩ (zAb (zDQ (r:=rIxL K) zAh ⟨pv 2⟩ ⟨zAG⟩ (λ U U=>rfl)) (zAb ⟨pv 4⟩ (zAb (zBT (zAb ⟨zAd⟩ (zAb ⟨pv 0⟩ (zAb ⟨pv 6⟩ ⟨zAD⟩)))) ⟨zAD⟩))))))) ⟨zAU⟩)
  (zAw (zGi ⟨zAN op_eq (pv 5) zAG (zAZ _)⟩ (zBS (zCJ (zBT (zAb ⟨zAd⟩ (zAb (zDQ (r:=rIxL K) zAh ⟨pv 2⟩ ⟨zAG⟩ (λ U U=>rfl)) (zAb ⟨pv 0⟩ (zAb (zBT (zAb ⟨zAd⟩ (zAb (zBT (zAb ⟨zAd⟩ (zAb ⟨pv 3⟩ (zAb (zBT (zAb (zBT (zAb ⟨zAd⟩ (zAb (zDQ (r:=rIxL K) zAh ⟨pv 2⟩ ⟨zAG⟩ (λ U U=>rfl)) ⟨zAD⟩))) ⟨zAD⟩)) ⟨zAD⟩)))) (zAb ⟨pv 6⟩ ⟨zAD⟩)))) ⟨zAD⟩))))))) ⟨zAU⟩)
  (zAw (zGi ⟨zAN op_eq (pv 5) zAG (zAZ _)⟩ (zBS (zCJ (zBT (zAb ⟨zAd⟩ (zAb (zBT (zAb ⟨zAd⟩ (zAb (zDQ (r:=rIxL K) zAh ⟨pv 2⟩ ⟨zAG⟩ (λ U U=>rfl)) (zAb ⟨pv 4⟩ (zAb (zBT (zAb ⟨zAd⟩ (zAb (zDQ (r:=rIxL K) zAh ⟨pv 2⟩ ⟨zAG⟩ (λ U U=>rfl)) ⟨zAD⟩))) ⟨zAD⟩))))) (zAb (zBT (zAb ⟨zAd⟩ (zAb (zDQ (r:=rIxL K) zAh ⟨pv 2⟩ ⟨pe_op zBO (pe_op zBL (pv 1) zAG) zAG⟩ (λ U U=>rfl)) (zAb ⟨pv 0⟩ (zAb ⟨pv 6⟩ ⟨zAD⟩))))) ⟨zAD⟩)))))) ⟨zAU⟩)
  (zAw (zGi ⟨zAN op_eq (pv 5) zAG (zAZ _)⟩ (zBS (zCJ (zBT (zAb ⟨zAd⟩ (zAb (zDQ (r:=rIxL K) zAh ⟨pv 2⟩ ⟨zAG⟩ (λ U U=>rfl)) (zAb (zBT (zAb ⟨zAd⟩ (zAb ⟨pv 6⟩ (zAb ⟨pv 4⟩ ⟨zAD⟩)))) (zAb ⟨pv 0⟩ ⟨zAD⟩))))))) ⟨zAU⟩)
  (zBS (zCJ ⟨pv 0⟩))))))))),?_⟩
 try dsimp only[cxOf,Cx.nox]
 have d1:1<=sizeLine:=by decide
 have d2:2<=sizeLine:=by decide
 have d3:3<=sizeLine:=by decide
 have d4:4<=sizeLine:=by decide
 obtain⟨y,hy,my⟩:=pick2 (x0:=x0) (x1:=x1) (c / 6);have a0:atI [V.str x0,.str x1] 0=some (.str x0):=zAI (j:=0) rfl;have m0:x0∈[x0,x1]:=by simp
 have pN:Pd [x0,x1] (.num n):=zF5 (λ z=>nomatch z) rfl rfl
 refine⟨_,rfl,_,_,rfl,rfl,(show (0:Int)<6 by decide),?_⟩;dsimp only;generalize c % 6=way;refine⟨_,rfl,_,rfl,_,_,rfl,rfl,⟨(show (0:Int)<6 by decide),(show (6:Int)<1073741824 by decide)⟩,_,_,rfl,rfl,(show (0:Int)<2 by decide),nl,_,_,_,rfl,rfl,SqL.of hnl,hy,d2,λ pn hpn=>?_⟩;have k1:=zAC (o:=.tup [.str "name", .str y]) hpn;have e1:(upd H pn (.tup [.str "name", .str y])) pn=some (.tup [.str "name", .str y]):=zAB;generalize upd H pn (.tup [.str "name", .str y])=H1 at k1 e1 ⊢;have r1:=hR.mono k1.tk;have rn1:=hnv.mono k1.tk;have hn1:=k1 _ _ hnl;refine⟨_,rfl,rfl,_,rfl,ite2 (λ U=>?_) (λ U=>?_)⟩
 ·refine⟨_,rfl,nl,_,_,_,rfl,rfl,SqL.of hn1,a0,_,rfl,_,rfl,_,rfl,d3,λ p2 hp2=>⟨d4,λ p3 hp3=>?_⟩⟩
  have k2:=zAC (o:=.tup [.str "add", v,.ref pn]) hp2;have k3:=zAC (o:=.tup [.str "let", .str x0,nv,.ref p2]) hp3;have g:=k2.trans k3;refine q (.lett x0 (.num n) (.bin .add t (.name y))) _ _ (k1.trans g) ⟨p3,_,_,rfl,zAB,rn1.mono g.tk,p2,_,_,rfl,k3 _ _ zAB,r1.mono g.tk,pn,rfl,g _ _ e1⟩ (by simp only[Tr.size];omega) (zEr pN (zGk hP (zEq my)))
 refine⟨_,rfl,rfl,_,rfl,ite2 (λ U=>?_) (λ U=>?_)⟩
 ·refine⟨_,rfl,nl,_,_,_,rfl,rfl,SqL.of hn1,a0,_,rfl,_,rfl,_,rfl,nl,_,_,_,rfl,rfl,SqL.of hn1,a0,d2,λ p2 hp2=>⟨d1,λ p3 hp3=>⟨d3,λ p4 hp4=>⟨_,rfl,d3,λ p5 hp5=>⟨d4,λ p6 hp6=>?_⟩⟩⟩⟩⟩
  have k2:=zAC (o:=.tup [.str "name", .str x0]) hp2;have k3:=zAC (o:=.tup [.ref p2]) hp3;have k4:=zAC (o:=.tup [.str "gap", .str g,.ref p3]) hp4;have k5:=zAC (o:=.tup [.str "add", .ref p4,.ref pn]) hp5;have k6:=zAC (o:=.tup [.str "let", .str x0,v,.ref p5]) hp6;have g4:=k5.trans k6;have g3:=k4.trans g4;have g2:=k3.trans g3;have gg:=k2.trans g2;refine q (.lett x0 t (.bin .add (.gap g [.name x0]) (.name y))) _ _ (k1.trans gg) ⟨p6,_,_,rfl,zAB,r1.mono gg.tk,p5,_,_,rfl,k6 _ _ zAB,⟨p4,p3,_,rfl,g4 _ _ zAB,g3 _ _ zAB,(by show 1<=1000;decide),.cons ⟨p2,rfl,g2 _ _ zAB⟩ .nil⟩,pn,rfl,gg _ _ e1⟩ (by simp only[Tr.size];omega) (zEr hP (zGk (zM3 g m0) (zEq my)))
 refine⟨_,rfl,rfl,_,rfl,ite2 (λ U=>?_) (λ U=>?_)⟩
 ·refine⟨_,rfl,nl,_,_,_,rfl,rfl,SqL.of hn1,a0,_,rfl,_,rfl,nl,_,_,_,rfl,rfl,SqL.of hn1,a0,d2,λ p2 hp2=>⟨d4,λ p3 hp3=>?_⟩⟩
  have k2:=zAC (o:=.tup [.str "name", .str x0]) hp2;have k3:=zAC (o:=.tup [.str "let", .str x0,nv,.ref p2]) hp3;have k23:=k2.trans k3;have hn3:=k23 _ _ hn1;refine⟨_,rfl,_,rfl,_,_,rfl,rfl,⟨(show (0:Int)<6 by decide),(show (6:Int)<1073741824 by decide)⟩,_,_,rfl,rfl,(show (0:Int)<2 by decide),nl,_,_,_,rfl,rfl,SqL.of hn3,hy,_,rfl,_,rfl,d4,λ p4 hp4=>⟨d3,λ p5 hp5=>?_⟩⟩;have k4:=zAC (o:=.tup [.str "let", .str y,v,.ref pn]) hp4;have k5:=zAC (o:=.tup [.str "sub", .ref p3,.ref p4]) hp5;have g4:=k4.trans k5;have g3:=k3.trans g4;have gg:=k2.trans g3;refine q (.bin .sub (.lett x0 (.num n) (.name x0)) (.lett y t (.name y))) _ _ (k1.trans gg) ⟨p5,_,_,rfl,zAB,⟨p3,_,_,rfl,g4 _ _ zAB,rn1.mono gg.tk,p2,rfl,g3 _ _ zAB⟩,p4,_,_,rfl,k5 _ _ zAB,r1.mono gg.tk,pn,rfl,gg _ _ e1⟩ (by simp only[Tr.size];omega) (zGk (zEr pN (zEq m0)) (zEr hP (zEq my)))
 refine⟨_,rfl,rfl,_,rfl,ite2 (λ U=>?_) (λ U=>?_)⟩
 ·refine⟨_,rfl,nl,_,_,_,rfl,rfl,SqL.of hn1,a0,_,rfl,_,rfl,d3,λ p2 hp2=>⟨_,rfl,d4,λ p3 hp3=>?_⟩⟩
  have k2:=zAC (o:=.tup [.str "add", .ref pn,nv]) hp2;have k3:=zAC (o:=.tup [.str "let", .str x0,.ref p2,v]) hp3;have g:=k2.trans k3;refine q (.lett x0 (.bin .add (.name y) (.num n)) t) _ _ (k1.trans g) ⟨p3,_,_,rfl,zAB,⟨p2,_,_,rfl,k3 _ _ zAB,⟨pn,rfl,g _ _ e1⟩,rn1.mono g.tk⟩,r1.mono g.tk⟩ (by simp only[Tr.size];omega) (zEr (zGk (zEq my) pN) hP)
 exact⟨_,rfl,q t v H1 k1 r1 (by omega) hP⟩
abbrev s_law:Stmt:=top 67
theorem zBs:zAY ["_law_script", "_law_scale_here", "_law_gaps_here", "_law_names", "_law_first", "_law_numbers", "_law_some", "_law_more", "_law_loud", "_law_s", "_law_t", "_law_kinds_here", "_law_handed"] ["_law_script"] (zAJ s_law):=by nofun
noncomputable def zH2 (K:W.Frag):Sp:=λ vs H Q U=>∃(a:Addr) (ns:List Int),vs=[.ref a]/\SqL K H a (ns.map V.int)/\ns.length<=63/\∀H',Q (.bl true) H'
theorem zOA {k:Nat}{f g1 g2 g3 g4 g5 g6 g7 g8 g9:Addr}{fd gd1 gd2 gd3 gd4 gd5 gd6 gd7 gd8 gd9:FuncData}(F:Fun K "law" "law" s_law f fd) (z_range:mg "range" = none) (z_dict:mg "dict" = none) (z_int:mg "int" = none)
  (zPF:FnB P w K mg base k "_law_cell_at" g1 gd1 ["_law_script", "_law_k"] (zFT K)) (zPG:FnB P w K mg base k "_law_scale" g2 gd2 ["_law_cells"] zHx) (zPH:FnB P w K mg base k "_law_words" g3 gd3 ["_law_cell", "_law_many"] zHu)
  (zPI:FnB P w K mg base k "_law_shape" g4 gd4 ["_law_cells", "_law_leaves", "_law_loud"] (zHw K)) (zPJ:FnB P w K mg base k "_law_dressed" g5 gd5 ["_law_shape_here", "_law_cell", "_law_names", "_law_gap", "_law_number"] zH6) (zPK:FnB P w K mg base k "_law_kinds" g6 gd6 ["_law_there", "_law_cell"] zH3)
  (zPL:FnB P w K mg base k "_law_is_made" g7 gd7 ["_law_found", "_law_due_here"] zH0) (zPM:FnB P w K mg base k "made_rule" g8 gd8 ["s", "t", "kinds", "scale"] (zFs Sf)) (zPN:FnB P w K mg base k "_law_due" g9 gd9 ["_law_s", "_law_t", "_law_kinds_here", "_law_scale_here"] (zFs Same)):FnOk P w K mg base CX0 (k+1) f fd ["_law_script"] (zH2 K):=by
 refine F.ok zBs (λ vs H Q E h=>?_) (λ cdv A outer s H vs Q E hr h=>?_)
 ·obtain⟨a,ns,rfl,_⟩:=h
  rfl
 obtain⟨a,ns,rfl,hS,h63,q⟩:=h;have hu:=hu_of hr;have hu0:=Nat.lt_of_succ_lt (hu_of hr)
 refine⟨_,(zAE (zAV (i:=1) zBs.nd rfl (Or.inl rfl) (pe_cl zPG hr (zAA (zAs ["_law_k", "_law_script"] [none,some 0] rfl (zC3 (by rfl) z_range (zAA zAG zAD)) (λ U U U U U=>(zAK (i:=0) (show List.Nodup (["_law_k", "_law_script"]:List Str) by decide +kernel) rfl (Or.inl rfl))) (λ U U U U U=>zBQ) (λ U U U U U=>(pe_cl zPF hr (zAA (pv 1) (zAA (pv 0) zAD)))) rfl) zAD)))
  (zAE (zAV (i:=2) zBs.nd rfl (Or.inl rfl) (pe_cl zPH hr (zAA (pe_cl zPF hr (zAA (pv 0) (zAA zAG zAD))) (zAA zAG zAD))))
  (zAE (zAV (i:=3) zBs.nd rfl (Or.inl rfl) (pe_cl zPH hr (zAA (pe_op zBL (pe_cl zPF hr (zAA (pv 0) (zAA zAG zAD))) zAG) (zAA zAG zAD))))
  (zAE (zAV (i:=4) zBs.nd rfl (Or.inl rfl) (pe_cl zPF hr (zAA (pv 0) (zAA zAG zAD))))
  (zAE (zH9 (jj:=5) ["_law_k", "_law_script"] [none,some 0] rfl (zEp (by rfl) z_range (zAA zAG (zAA zAG zAD))) (λ U U U U U=>(zAK (i:=0) (show List.Nodup (["_law_k", "_law_script"]:List Str) by decide +kernel) rfl (Or.inl rfl))) (λ U U U U U=>zBQ) (λ U U U U U=>(zAj (zAA zAd (zAA (pe_op zBO (pe_cl zPF hr (zAA (pv 1) (zAA (pv 0) zAD))) (pe_op zML zAG zAG)) zAD)):PE _ _ _)) rfl zBs.nd rfl (Or.inl rfl) (Or.inr rfl))
  (zAE (zAV (i:=6) zBs.nd rfl (Or.inl rfl) (pe_op zDw (zAs ["_law_gap"] [none] rfl (zA4 (pv 2)) (λ U U U U U=>(zAK (i:=0) (show List.Nodup (["_law_gap"]:List Str) by decide +kernel) rfl (Or.inl rfl))) (λ U U U U U=>zBQ) (λ U U U U U=>(zAj (zAA zAd (zAA (pv 0) (zAA (zAj zAD:PE _ _ _) zAD))):PE _ _ _)) rfl) (pv 5)))
  (zAE (zAV (i:=7) zBs.nd rfl (Or.inl rfl) (zA2 (zAA (zAj (zAA zAd (zAA (iC (r:=rIxL K) zAh (pv 2)) zAD)):PE _ _ _) zAD):PE _ _ _))
  (zAE (zAV (i:=8) zBs.nd rfl (Or.inl rfl) (zA2 (zAA (zA6 op_eq (pe_op zBO (pv 4) zAG) zAG (zAZ _)) (zAA (zA6 op_eq (pe_op zBO (pe_op zBL (pv 4) zAG) zAG) zAG (zAZ _)) zAD)):PE _ _ _))
  (zAE (zAV (i:=9) zBs.nd rfl (Or.inl rfl) (pe_cl zPI hr (zAA (zAs ["_law_k", "_law_script"] [none,some 0] rfl (zEp (by rfl) z_range (zAA zAG (zAA zAG zAD))) (λ U U U U U=>(zAK (i:=0) (show List.Nodup (["_law_k", "_law_script"]:List Str) by decide +kernel) rfl (Or.inl rfl))) (λ U U U U U=>zBQ) (λ U U U U U=>(pe_cl zPF hr (zAA (pv 1) (zAA (pv 0) zAD)))) rfl) (zAA (pe_op zDw (pv 6) (pe_op zJm (pv 7) (zBg zG1 (by rfl) z_int PyProof.Rows.boot_int (zAA (iC (r:=rIxL K) zAh (pv 8)) zAD)))) (zAA (iC (r:=rIxL K) zAh (pv 8)) zAD)))))
  (zAE (zAV (i:=10) zBs.nd rfl (Or.inl rfl) (pe_cl zPI hr (zAA (zAs ["_law_k", "_law_script"] [none,some 0] rfl (zEp (by rfl) z_range (zAA zAG (zAA zAG zAD))) (λ U U U U U=>(zAK (i:=0) (show List.Nodup (["_law_k", "_law_script"]:List Str) by decide +kernel) rfl (Or.inl rfl))) (λ U U U U U=>zBQ) (λ U U U U U=>(pe_cl zPF hr (zAA (pv 1) (zAA (pv 0) zAD)))) rfl) (zAA (pe_op zDw (pv 6) (pe_op zJm (pv 7) (zBg zG1 (by rfl) z_int PyProof.Rows.boot_int (zAA (iC (r:=rIxL K) zAh (pv 8)) zAD)))) (zAA (iC (r:=rIxL K) zAh (pv 8)) zAD)))))
  (zAE (zAV (i:=9) zBs.nd rfl (Or.inl rfl) (pe_cl zPJ hr (zAA (pv 9) (zAA (pe_cl zPF hr (zAA (pv 0) (zAA zAG zAD))) (zAA (pv 3) (zAA (pe_ix (r:=rIxL K) zAh (pv 2) (pe_op zBO (pe_op zBL (pe_cl zPF hr (zAA (pv 0) (zAA zAG zAD))) zAG) zAG) (λ U U=>rfl)) (zAA (iC (r:=rIxL K) zAh (pv 5)) zAD)))))))
  (zAE (zAV (i:=10) zBs.nd rfl (Or.inl rfl) (pe_cl zPJ hr (zAA (pv 10) (zAA (pe_cl zPF hr (zAA (pv 0) (zAA zAG zAD))) (zAA (zMz (pv 3) (zBj (pe_un zCM zAG))) (zAA (pe_ix (r:=rIxL K) zAh (pv 2) (pe_op zBO (pe_op zBL (pe_cl zPF hr (zAA (pv 0) (zAA zAG zAD))) zAG) zAG) (λ U U=>rfl)) (zAA (iC (r:=rIxL K) zAh (pv 5)) zAD)))))))
  (zAE (zAV (i:=11) zBs.nd rfl (Or.inl rfl) (pe_cl zPK hr (zAA (zHS (zDt (iC (r:=rIxL K) zAh (pv 2)) zAG (zDt (iC (r:=rIxL K) zAh (pv 2)) zAG (zDt (iC (r:=rIxL K) zAh (pv 2)) zAG zHQ))) rfl rfl (by simp) (by decide)) (zAA (pe_op zBL (pv 4) zAG) zAD))))
  (zAE (zAV (i:=12) zBs.nd rfl (Or.inl rfl) (zBg zI4 (by rfl) z_dict PyProof.Rows.boot_dict (zAA (pv 1) zAD)))
  (zAE (ps_if (zDq (zBR (pe_cl zPL hr (zAA (pe_cl zPM hr (zAA (pv 9) (zAA (pv 10) (zAA (pv 11) (zAA (pv 12) zAD))))) (zAA (pe_cl zPN hr (zAA (pv 9) (zAA (pv 10) (zAA (pv 11) (zAA (pv 1) zAD))))) zAD))))) (zAF (zAS pe_bl)) zAU)
  (zAE (ps_if (zDq (zBR (pe_cl zPL hr (zAA (pe_cl zPM hr (zAA (pv 10) (zAA (pv 9) (zAA (pv 11) (zAA (pv 12) zAD))))) (zAA (pe_cl zPN hr (zAA (pv 10) (zAA (pv 9) (zAA (pv 11) (zAA (pv 1) zAD))))) zAD))))) (zAF (zAS pe_bl)) zAU)
  (zAF (zAS (zA6 (zM8 hu0) (pv 12) (pv 1) (zAZ _)))))))))))))))))))),?_⟩
 have d1:1<=sizeLine:=by decide
 have d2:2<=sizeLine:=by decide
 have d3:3<=sizeLine:=by decide
 refine viaN λ N hN=>?_;refine⟨7,rfl,by decide,by decide,λ acc hacc=>?_⟩;refine zCm (n:=(7:Int).toNat) (λ i H'=>Same H H'/\∃cs:List Int,H' acc=some (.lst (cs.map V.int))/\cs.length=i) ⟨zAC hacc,[],zAB,rfl⟩ ?_ ?_
 ·rintro i Hx hi ⟨gx,cs,ex,lx⟩
  have hi7:i<7:=by simpa using hi
  refine⟨.skip (.keep .nil),_,rfl,_,rfl,a,ns,_,rfl,gx.seq hS,by omega,_,ex,zAQ (by rw[List.length_map];omega),zAO gx hacc,cs++[ns.getD ((0:Int)+(i:Int)).toNat 0],?_,by simp[lx]⟩;rw[zAB,List.map_append];rfl
 rintro H1 ⟨g1,cs,ea,lcs⟩;refine⟨acc,cs,rfl,ea,lcs,λ d rs kvs H2 g2 ed sc=>?_⟩;have hval:=zNp sc;have href:=zNq sc;have gA:=g1.trans g2;refine hN _ _ (viaN λ N hN=>?_);refine⟨_,rfl,a,ns,7,rfl,gA.seq hS,by decide,_,3,rfl,by decide,λ lw H3 ws g3 ew lws=>?_⟩;have gB:=gA.trans g3;refine hN _ _ (viaN λ N hN=>?_);refine⟨_,rfl,a,ns,7,rfl,gB.seq hS,by decide,_,_,rfl,rfl,⟨(show (0:Int)<5 by decide),(show (5:Int)<1073741824 by decide)⟩,_,2,rfl,by decide,λ ln H4 nsw g4 en lns=>?_⟩
 obtain⟨w0,w1,w2,rfl⟩:∃w0 w1 w2,ws=[w0,w1,w2]:=by
  match ws,lws with
  |[x,y,z],_=>exact⟨x,y,z,rfl⟩
 obtain⟨n0,n1,rfl⟩:∃n0 n1,nsw=[n0,n1]:=by
  match nsw,lns with
  |[x,y],_=>exact⟨x,y,rfl⟩
 have gC:=gB.trans g4;have ed4:=g4 _ _ (g3 _ _ ed);have sc4:=sc.mono (g3.trans g4).sf;have ew4:=g4 _ _ ew;refine hN _ _ (viaN λ N hN=>?_);refine⟨_,rfl,a,ns,8,rfl,gC.seq hS,by decide,?_⟩;dsimp only;generalize ns.getD (8:Int).toNat 0=first
 refine hN _ _ (viaN λ N hN=>?_);refine⟨9,11,rfl,⟨by decide,by decide,by decide,by decide⟩,λ ac2 hac2=>?_⟩;refine zCm (lo:=9) (n:=((11:Int) - 9).toNat) (λ i H'=>Same H4 H'/\∃(us:List V) (nn:List Int),H' ac2=some (.lst us)/\Paired (λ n v=>Rep H' (.num n) v) nn us/\nn.length=i) ⟨zAC hac2,[],[],zAB,.nil,rfl⟩ ?_ ?_
 ·rintro i Hx hi ⟨gx,us,nn,ex,px,lx⟩
  have hi2:i<2:=hi;have lu:us.length=nn.length:=zAH px;refine⟨.skip (.keep .nil),_,rfl,_,rfl,a,ns,_,rfl,(gC.trans gx).seq hS,by omega,_,_,rfl,rfl,⟨by decide,by decide,by decide⟩,_,_,rfl,rfl,(show (0:Int)<10 ^ (30:Int).toNat by decide),d2,λ pn hpn=>?_⟩;have k1:=zAC (o:=.tup [.str "num", .int (ns.getD ((9:Int)+(i:Int)).toNat 0 % 10 ^ (30:Int).toNat)]) hpn;have e1:=k1 _ _ ex;have tk:Tk _ _:=Tk.lst (o:=.lst (us++[.ref pn])) e1;refine⟨_,e1,zAQ (by omega),zAO (gx.trans k1) hac2,us++[.ref pn],nn++[_],zAB,zAP (Paired.mapP px λ U U z=>z.mono (k1.tk.trans tk)) (.cons ⟨pn,rfl,tk _ _ zAB⟩ .nil),by simp[lx]⟩
 rintro H5 ⟨g5,us5,nn,e5,p5,l5⟩
 obtain⟨m0,m1,rfl⟩:∃m0 m1,nn=[m0,m1]:=by
  match nn,l5 with
  |[x,y],_=>exact⟨x,y,rfl⟩
 obtain⟨u0,u1,rfl,rm0,rm1⟩:∃u0 u1,us5=[u0,u1]/\Rep H5 (.num m0) u0/\Rep H5 (.num m1) u1:=by
  cases p5 with
  |cons r0 q0 =>
   cases q0 with
   |cons r1 q1 =>
    cases q1;exact⟨_,_,rfl,r0,r1⟩
 have ew5:=g5 _ _ ew4;have en5:=g5 _ _ en;refine hN _ _ (viaN λ N hN=>?_);refine⟨_,rfl,lw,rfl,⟨_,SqL.of ew5⟩,λ ac3 hac3=>?_⟩;refine zBZ (xs:=[w0,w1,w2].map V.str) (λ i H'=>Same H5 H'/\∃us:List V,H' ac3=some (.lst us)/\Paired (Rep H') (([w0,w1,w2].take i).map λ g=>Tr.gap g []) us/\us.length=i) ⟨zAC hac3,[],zAB,.nil,rfl⟩ (λ i H' U h=>SqL.of (h.1 _ _ ew5)) ?_ ?_
 ·rintro i x Hx hx ⟨gx,us,ex,px,lx⟩
  rw[List.getElem?_map] at hx;obtain⟨y,hy,rfl⟩:=lW.mp hx;have hi:i<3:=(lJ.mp hy).1;refine⟨.skip .nil,_,rfl,lZ _,λ q0 hq0=>⟨d3,λ q1 hq1=>?_⟩⟩;have k1:=zAC (o:=.tup []) hq0;have k2:=zAC (o:=.tup [.str "gap", .str y,.ref q0]) hq1;have k12:=k1.trans k2;have e1:=k12 _ _ ex;have tk:Tk _ _:=Tk.lst (o:=.lst (us++[.ref q1])) e1;refine⟨_,e1,zAQ (by omega),zAO (gx.trans k12) hac3,us++[.ref q1],zAB,?_,by simp[lx]⟩;rw[zAM hy,List.map_append];exact zAP (Paired.mapP px λ U U z=>z.mono (k12.tk.trans tk)) (.cons ⟨q1,q0,[],rfl,tk _ _ zAB,tk _ _ (k2 _ _ zAB),lZ _,.nil⟩ .nil)
 rintro H6 ⟨g6,us6,e6,p6,l6⟩;have p6':Paired (Rep H6) [Tr.gap w0 [],.gap w1 [],.gap w2 []] us6:=p6;have l6':us6.length=3:=l6;refine⟨_,rfl,ac3,ac2,_,_,rfl,rfl,e6,g6 _ _ e5,zAe (by simp[l6']),λ ls hls=>?_⟩;have k7:=zAC (o:=.lst (us6++[u0,u1])) hls;have e7:(upd H6 ls (.lst (us6++[u0,u1]))) ls=some (.lst (us6++[u0,u1])):=zAB;have p7:Paired (Rep (upd H6 ls (.lst (us6++[u0,u1])))) [Tr.gap w0 [],.gap w1 [],.gap w2 [],.num m0,.num m1] (us6++[u0,u1]):=zAP (Paired.mapP p6' λ U U z=>z.mono k7.tk) (.cons (rm0.mono (g6.trans k7).tk) (.cons (rm1.mono (g6.trans k7).tk) .nil));generalize upd H6 ls (.lst (us6++[u0,u1]))=H7 at k7 e7 p7 ⊢;have g57:=g6.trans k7;have ew7:=g57 _ _ ew5;have at0:atI [V.str w0,.str w1,.str w2] 0=some (.str w0):=zAI (j:=0) rfl;refine hN _ _ (viaN λ N hN=>?_);refine⟨_,rfl,lw,_,_,_,rfl,rfl,SqL.of ew7,at0,d2,λ pa hpa=>⟨d1,λ lm hlm=>?_⟩⟩;have k8:=zAC (o:=.tup [.str "ask", .str w0]) hpa;have k9:=zAC (o:=.lst [.ref pa]) hlm;have ea9:=k9 _ _ (show (upd H7 pa (.tup [.str "ask", .str w0])) pa=some (.tup [.str "ask", .str w0]) from zAB);have em9:(upd (upd H7 pa (.tup [.str "ask", .str w0])) lm (.lst [.ref pa])) lm=some (.lst [.ref pa]):=zAB;have g79:=k8.trans k9;generalize upd (upd H7 pa (.tup [.str "ask", .str w0])) lm (.lst [.ref pa])=H9 at ea9 em9 g79 ⊢;refine hN _ _ (viaN λ N hN=>?_);refine⟨_,rfl,_,_,rfl,rfl,(show (0:Int)<3 by decide),rfl,_,rfl,_,_,rfl,rfl,⟨(show (0:Int)<3 by decide),(show (3:Int)<1073741824 by decide)⟩,_,_,rfl,rfl,(show (0:Int)<4 by decide),rfl,d2,λ ll hll=>?_⟩;dsimp only;generalize decide (V.int (first % 3)=V.int 1)=b0;generalize decide (V.int (first / 3 % 4)=V.int 1)=b1;have k10:=zAC (o:=.lst [.bl b0,.bl b1]) hll;have el10:(upd H9 ll (.lst [.bl b0,.bl b1])) ll=some (.lst [.bl b0,.bl b1]):=zAB;generalize upd H9 ll (.lst [.bl b0,.bl b1])=H10 at k10 el10 ⊢;have g710:=g79.trans k10;have g510:=g57.trans g710;have gD:=gC.trans (g5.trans g510);have e10:=g710 _ _ e7;have p10:Paired (Rep H10) [Tr.gap w0 [],.gap w1 [],.gap w2 [],.num m0,.num m1] (us6++[u0,u1]):=Paired.mapP p7 λ U U z=>z.mono g710.tk;have em10:=k10 _ _ em9;have ea10:=k10 _ _ ea9;have g00:Same H10 H10:=.refl _;refine hN _ _ (viaN λ N hN=>?_);refine⟨11,14,rfl,⟨by decide,by decide,by decide,by decide⟩,λ ad0 had0=>?_⟩;refine zCm (lo:=11) (n:=((14:Int) - 11).toNat) (λ i H'=>Same H10 H'/\∃cs:List Int,H' ad0=some (.lst (cs.map V.int))/\cs.length=i) ⟨zAC had0,[],zAB,rfl⟩ ?_ ?_
 ·rintro i Hx hi ⟨gx,cs,ex,lx⟩
  have hi7:i<3:=hi;refine⟨.skip (.keep .nil),_,rfl,_,rfl,a,ns,_,rfl,((gD.trans g00).trans gx).seq hS,by omega,_,ex,zAQ (by rw[List.length_map];omega),zAO gx had0,cs++[ns.getD ((11:Int)+(i:Int)).toNat 0],?_,by simp[lx]⟩;rw[zAB,List.map_append];rfl
 rintro Ha0 ⟨ga0,cs0,eca0,lca0⟩;have gb0:=g00.trans ga0;refine⟨_,rfl,_,rfl,_,rfl,ll,_,_,_,rfl,rfl,SqL.of (gb0 _ _ el10),zAI (j:=0) rfl,.inr ⟨b0,rfl,lm,_,b0,rfl,rfl,gb0 _ _ em10,λ lz0 hlz0=>?_⟩⟩;have kz0:=zAC (o:=.lst (if b0=true then [V.ref pa] else [])) hlz0;refine⟨ls,lz0,_,_,rfl,rfl,kz0 _ _ (gb0 _ _ e10),zAB,zAe (by simp only[List.length_append,l6'];cases b0<;>simp),λ ly0 hly0=>?_⟩;have ky0:=zAC (o:=.lst ((us6++[u0,u1])++if b0=true then [V.ref pa] else [])) hly0;have gy0:=gb0.trans (kz0.trans ky0);have gq0:=ga0.trans (kz0.trans ky0);have ey0:(upd (upd Ha0 lz0 (.lst (if b0=true then [V.ref pa] else []))) ly0 (.lst ((us6++[u0,u1])++if b0=true then [V.ref pa] else []))) ly0=some (.lst ((us6++[u0,u1])++if b0=true then [V.ref pa] else [])):=zAB;have ec0:=ky0 _ _ (kz0 _ _ eca0);generalize upd (upd Ha0 lz0 (.lst (if b0=true then [V.ref pa] else []))) ly0 (.lst ((us6++[u0,u1])++if b0=true then [V.ref pa] else []))=Hy0 at gy0 gq0 ey0 ec0 ⊢
 have py0:Paired (Rep Hy0) ([Tr.gap w0 [],.gap w1 [],.gap w2 [],.num m0,.num m1]++if b0=true then [Tr.ask w0] else []) ((us6++[u0,u1])++if b0=true then [V.ref pa] else []):=by
  refine zAP (Paired.mapP p10 λ U U z=>z.mono gy0.tk) ?_;cases b0 with
  |true=>exact .cons ⟨pa,rfl,gy0 _ _ ea10⟩ .nil
  |false=>exact .nil
 refine⟨_,rfl,ll,_,_,_,rfl,rfl,SqL.of (gy0 _ _ el10),zAI (j:=0) rfl,ad0,ly0,b0,cs0,_,_,[],rfl,SqL.of ec0,by rw[lca0];decide,ey0,py0,by cases b0<;>simp,by cases b0<;>simp,zJ6 b0,zMO b0,λ t0 v0 Hs0 gs0 rt0 st0 ot0=>?_⟩;have G0:=gy0.trans gs0;have pt0:Pd [] t0:=zEN (List.eq_nil_iff_forall_not_mem.mpr λ g hg=>nomatch ot0 g hg)
 rw[lca0] at st0;refine hN _ _ (viaN λ N hN=>?_);refine⟨14,16,rfl,⟨by decide,by decide,by decide,by decide⟩,λ ad1 had1=>?_⟩;refine zCm (lo:=14) (n:=((16:Int) - 14).toNat) (λ i H'=>Same Hs0 H'/\∃cs:List Int,H' ad1=some (.lst (cs.map V.int))/\cs.length=i) ⟨zAC had1,[],zAB,rfl⟩ ?_ ?_
 ·rintro i Hx hi ⟨gx,cs,ex,lx⟩
  have hi7:i<2:=hi;refine⟨.skip (.keep .nil),_,rfl,_,rfl,a,ns,_,rfl,((gD.trans G0).trans gx).seq hS,by omega,_,ex,zAQ (by rw[List.length_map];omega),zAO gx had1,cs++[ns.getD ((14:Int)+(i:Int)).toNat 0],?_,by simp[lx]⟩;rw[zAB,List.map_append];rfl
 rintro Ha1 ⟨ga1,cs1,eca1,lca1⟩;have gb1:=G0.trans ga1;refine⟨_,rfl,_,rfl,_,rfl,ll,_,_,_,rfl,rfl,SqL.of (gb1 _ _ el10),zAI (j:=1) rfl,.inr ⟨b1,rfl,lm,_,b1,rfl,rfl,gb1 _ _ em10,λ lz1 hlz1=>?_⟩⟩;have kz1:=zAC (o:=.lst (if b1=true then [V.ref pa] else [])) hlz1;refine⟨ls,lz1,_,_,rfl,rfl,kz1 _ _ (gb1 _ _ e10),zAB,zAe (by simp only[List.length_append,l6'];cases b1<;>simp),λ ly1 hly1=>?_⟩;have ky1:=zAC (o:=.lst ((us6++[u0,u1])++if b1=true then [V.ref pa] else [])) hly1;have gy1:=gb1.trans (kz1.trans ky1);have gq1:=ga1.trans (kz1.trans ky1);have ey1:(upd (upd Ha1 lz1 (.lst (if b1=true then [V.ref pa] else []))) ly1 (.lst ((us6++[u0,u1])++if b1=true then [V.ref pa] else []))) ly1=some (.lst ((us6++[u0,u1])++if b1=true then [V.ref pa] else [])):=zAB;have ec1:=ky1 _ _ (kz1 _ _ eca1);generalize upd (upd Ha1 lz1 (.lst (if b1=true then [V.ref pa] else []))) ly1 (.lst ((us6++[u0,u1])++if b1=true then [V.ref pa] else []))=Hy1 at gy1 gq1 ey1 ec1 ⊢
 have py1:Paired (Rep Hy1) ([Tr.gap w0 [],.gap w1 [],.gap w2 [],.num m0,.num m1]++if b1=true then [Tr.ask w0] else []) ((us6++[u0,u1])++if b1=true then [V.ref pa] else []):=by
  refine zAP (Paired.mapP p10 λ U U z=>z.mono gy1.tk) ?_;cases b1 with
  |true=>exact .cons ⟨pa,rfl,gy1 _ _ ea10⟩ .nil
  |false=>exact .nil
 refine⟨_,rfl,ll,_,_,_,rfl,rfl,SqL.of (gy1 _ _ el10),zAI (j:=1) rfl,ad1,ly1,b1,cs1,_,_,[],rfl,SqL.of ec1,by rw[lca1];decide,ey1,py1,by cases b1<;>simp,by cases b1<;>simp,zJ6 b1,zMO b1,λ t1 v1 Hs1 gs1 rt1 st1 ot1=>?_⟩;have G1:=gy1.trans gs1;have pt1:Pd [] t1:=zEN (List.eq_nil_iff_forall_not_mem.mpr λ g hg=>nomatch ot1 g hg)
 rw[lca1] at st1;have gE:=gD.trans G1;have G10:=G1;have en1:=G1 _ _ (g510 _ _ en5);have ew1:=G1 _ _ (g510 _ _ ew5);have e51:=G1 _ _ (g510 _ _ e5);have rm01:=rm0.mono (g510.trans G1).tk;have rm11:=rm1.mono (g510.trans G1).tk;have rt01:=rt0.mono (gq1.trans gs1).tk;obtain⟨y0,hy0⟩:=pick3 (w0:=w0) (w1:=w1) (w2:=w2) (ns.getD (16:Int).toNat 0 / 12);obtain⟨y1,hy1⟩:=pick3 (w0:=w0) (w1:=w1) (w2:=w2) (ns.getD (17:Int).toNat 0 / 12);refine hN _ _ (viaN λ N hN=>?_);refine⟨_,rfl,_,rfl,a,ns,16,rfl,gE.seq hS,by decide,_,rfl,_,rfl,_,rfl,a,ns,16,rfl,gE.seq hS,by decide,_,_,rfl,rfl,⟨(show (0:Int)<12 by decide),(show (12:Int)<1073741824 by decide)⟩,_,_,rfl,rfl,(show (0:Int)<3 by decide),lw,_,_,_,rfl,rfl,SqL.of ew1,hy0,?_⟩;refine⟨_,rfl,ac2,_,_,_,rfl,rfl,SqL.of e51,zAI (j:=0) rfl,t0,v0,u0,_,m0,ln,n0,n1,y0,rfl,rt01,en1,rm01,pt0.mono (by simp),λ t2 v2 H2' g2' rt2 st2 pt2=>?_⟩;have gF:=gE.trans g2';refine hN _ _ (viaN λ N hN=>?_);refine⟨_,rfl,_,rfl,a,ns,17,rfl,gF.seq hS,by decide,_,rfl,1,rfl,_,rfl,rfl,ln,_,rfl,SqL.of (g2' _ _ en1),λ lr hlr=>?_⟩;have kr:=zAC (o:=.lst ([n0,n1].map V.str).reverse) hlr;have er:(upd H2' lr (.lst ([n0,n1].map V.str).reverse)) lr=some (.lst [.str n1,.str n0]):=zAB;generalize upd H2' lr (.lst ([n0,n1].map V.str).reverse)=Hr at kr er ⊢;have gG:=gF.trans kr;have g2r:=g2'.trans kr;refine⟨_,rfl,_,rfl,a,ns,17,rfl,gG.seq hS,by decide,_,_,rfl,rfl,⟨(show (0:Int)<12 by decide),(show (12:Int)<1073741824 by decide)⟩,_,_,rfl,rfl,(show (0:Int)<3 by decide),lw,_,_,_,rfl,rfl,SqL.of (g2r _ _ ew1),hy1,?_⟩;refine⟨_,rfl,ac2,_,_,_,rfl,rfl,SqL.of (g2r _ _ e51),zAI (j:=1) rfl,t1,v1,u1,_,m1,lr,n1,n0,y1,rfl,rt1.mono g2r.tk,er,rm11.mono g2r.tk,pt1.mono (by simp),λ t3 v3 H3' g3' rt3 st3 pt3=>?_⟩;have gH:=gG.trans g3';have g2h:=g2r.trans g3';have rt2h:=rt2.mono (kr.trans g3').tk;have ewh:=g2h _ _ ew1;have at1:atI [V.str w0,.str w1,.str w2] 1=some (.str w1):=zAI (j:=1) rfl;have at2:atI [V.str w0,.str w1,.str w2] 2=some (.str w2):=zAI (j:=2) rfl;refine hN _ _ (viaN λ N hN=>?_);refine λ dk hdk=>⟨_,rfl,lw,_,_,_,rfl,rfl,SqL.of (zAC hdk _ _ ewh),at0,_,rfl,lw,_,_,_,rfl,rfl,SqL.of (zAC hdk _ _ ewh),at1,_,rfl,lw,_,_,_,rfl,rfl,SqL.of (zAC hdk _ _ ewh),at2,zAB,[((Sum.inr w0:Key),V.int 0),(Sum.inr w1,V.int 0),(Sum.inr w2,V.int 0)],rfl,(by show 3<=15;decide),?_⟩;have kk:Same H3' (upd (upd H3' dk (.dK [])) dk (.dK (zAf [] [((Sum.inr w0:Key),V.int 0),(Sum.inr w1,V.int 0),(Sum.inr w2,V.int 0)]))):=zAO (zAC hdk) hdk;have ek:(upd (upd H3' dk (.dK [])) dk (.dK (zAf [] [((Sum.inr w0:Key),V.int 0),(Sum.inr w1,V.int 0),(Sum.inr w2,V.int 0)]))) dk=some (.dK (zAf [] [((Sum.inr w0:Key),V.int 0),(Sum.inr w1,V.int 0),(Sum.inr w2,V.int 0)])):=zAB;generalize upd (upd H3' dk (.dK [])) dk (.dK (zAf [] [((Sum.inr w0:Key),V.int 0),(Sum.inr w1,V.int 0),(Sum.inr w2,V.int 0)]))=Hk at kk ek ⊢;obtain⟨lk3,gdk⟩:=gd3k w0 w1 w2;refine⟨_,rfl,_,_,rfl,rfl,⟨(show (0:Int)<12 by decide),(show (12:Int)<1073741824 by decide)⟩,dk,_,_,_,rfl,ek,gdk,by omega,λ ka kds H4' g4' hK nd lkd=>?_⟩;have gI:=gH.trans (kk.trans g4');have g3i:=kk.trans g4';have gdi:Same H4 H4':=g5.trans (g510.trans (G1.trans (g2h.trans g3i)));refine hN _ _ (viaN λ N hN=>?_);refine⟨_,rfl,d,kvs,rfl,gdi _ _ ed4,λ dh hdh=>?_⟩;have kh:=zAC (o:=.dK kvs) hdh;have sdh:=sc4.mono (gdi.trans kh).sf;have shh:ScD (upd H4' dh (.dK kvs)) dh rs kvs:=⟨.inl zAB,sdh.ps,sdh.nd,sdh.le⟩;have r2:=rt2h.mono (g3i.trans kh).tk;have r3:=rt3.mono (g3i.trans kh).tk;obtain⟨o,ys,ekk,ho,pk⟩:=hK;have hKY:KdsY (upd H4' dh (.dK kvs)) ka kds ys:=⟨o,kh _ _ ekk,ho,Paired.mapP pk λ U U z=>zBn kh.tk z⟩;have hyr:=zJY pk;have hSd:Sds t2 t3:=⟨by omega,by omega,pt2.1,pt3.1,[n0,n1],(show 2<64 by decide),pt2.2,λ x hx=>by have:=pt3.2 x hx;simp at this ⊢;exact this.symm⟩;have lk60:kds.length<=60:=by omega
 refine hN _ _ ?_;apply viaS (λ σ' H'=>σ'=[some (.ref a),some (.ref d),some (.ref lw),some (.ref ln),some (.int first),some (.ref ac2),some (.ref ls),some (.ref lm),some (.ref ll),some v2,some v3,some (.ref ka),some (.ref dh)]/\Rep H' t2 v2/\Rep H' t3 v3/\KdsY H' ka kds ys/\ScD H' dh rs kvs/\ScD H' d rs kvs)
 ·intro rest
  exact rest _ _ ⟨rfl,r2,r3,hKY,shh,sdh⟩
 clear r2 r3 hKY shh sdh;rintro σ' H5' ⟨rfl,r2,r3,hKY,shh,sdh⟩;refine⟨_,rfl,_,rfl,_,rfl,_,rfl,t2,t3,v2,v3,ka,dh,kds,ys,rs,rfl,r2,r3,hSd,hKY,nd,lk60,⟨kvs,shh⟩,λ x H6' s6 hM=>?_⟩;refine⟨_,rfl,_,rfl,_,rfl,_,rfl,t2,t3,v2,v3,ka,d,kds,ys,rs,rfl,r2.mono s6.tk,r3.mono s6.tk,hSd,hKY.mono s6,nd,lk60,⟨kvs,sdh.mono s6⟩,λ y H7' g7' hM'=>?_⟩;refine⟨x,y,rfl,zFc g7' hSd (r2.mono (s6.tk.trans g7'.tk)) (r3.mono (s6.tk.trans g7'.tk)) hyr hM hM',λ H8' g8'=>⟨_,rfl,iteF ?_⟩⟩;have s8:Sf H5' H8':=s6.trans (g7'.trans g8').sf;have r28:=r2.mono s8.tk;have r38:=r3.mono s8.tk;have hK8:=hKY.mono s8;refine⟨_,rfl,_,rfl,_,rfl,_,rfl,t3,t2,v3,v2,ka,dh,kds,ys,rs,rfl,r38,r28,hSd.symm,hK8,nd,lk60,⟨kvs,shh.mono s8⟩,λ x H9' s9 hM=>?_⟩;refine⟨_,rfl,_,rfl,_,rfl,_,rfl,t3,t2,v3,v2,ka,d,kds,ys,rs,rfl,r38.mono s9.tk,r28.mono s9.tk,hSd.symm,hK8.mono s9,nd,lk60,⟨kvs,(sdh.mono s8).mono s9⟩,λ y HA gA' hM'=>?_⟩;refine⟨x,y,rfl,zFc gA' hSd.symm (r38.mono (s9.tk.trans gA'.tk)) (r28.mono (s9.tk.trans gA'.tk)) hyr hM hM',λ HB gB'=>⟨_,rfl,iteF ?_⟩⟩;have sB:Sf H5' HB:=s8.trans (s9.trans (gA'.trans gB').sf);exact⟨_,rfl,_,rfl,dh,d,kvs,rfl,rfl,(shh.mono sB).rd,(sdh.mono sB).rd,hval,href,q HB⟩
section
variable {k:Nat}{f:Addr}{fd:FuncData}
theorem zLz (h:FnOk P w K mg base CX0 k f fd ["rule"] zH1):FnOk P w K mg base CX0 k f fd ["rule"] (zEL rLeaf):=h.imp λ vs H Q E ⟨p,t,u,ks,e,hR,q⟩=>by
 obtain⟨a,b,c,hS,hK⟩:=hR.ru;exact⟨t,p,a,_,e,hS.hp,hS.ra,q _ H (.refl H) Iff.rfl⟩
theorem zKa (h:FnOk P w K mg base CX0 k f fd ["rule"] zHv):FnOk P w K mg base CX0 k f fd ["rule"] (zEL zEl):=h.imp λ vs H Q E ⟨p,t,u,ks,e,hR,q⟩=>by
 obtain⟨a,b,c,hS,hK⟩:=hR.ru;exact⟨t,u,p,a,b,c,e,hS.hp,hS.ra,hS.rb,hS.st,hS.su,q⟩
theorem zL1 (h:FnOk P w K mg base CX0 k f fd ["rule"] zFS):FnOk P w K mg base CX0 k f fd ["rule"] (zEL rFree):=h.imp λ vs H Q E ⟨p,t,u,ks,e,hR,q⟩=>by
 obtain⟨a,b,c,hS,hK⟩:=hR.ru;obtain⟨ws,l,h1,h2⟩:=hR.ws;exact⟨t,u,p,a,b,c,ws,e,hS.hp,hS.ra,hS.rb,hS.st,hS.su,l,h1,h2,q⟩
theorem zLx (h:FnOk P w K mg base CX0 k f fd ["rule"] zJM):FnOk P w K mg base CX0 k f fd ["rule"] (zEL rTold):=h.imp λ vs H Q E ⟨p,t,u,ks,e,hR,q⟩=>by
 obtain⟨a,b,c,hS,hK⟩:=hR.ru;exact⟨t,u,ks,p,a,b,c,e,hS,hR.h4,hK,hR.nd,hR.lk,q⟩
theorem zNT (h:FnOk P w K mg base CX0 k f fd ["rule"] zGb):FnOk P w K mg base CX0 k f fd ["rule"] (zEL rGap):=h.imp λ vs H Q E ⟨p,t,u,ks,e,hR,q⟩=>by
 obtain⟨a,b,c,hS,hK⟩:=hR.ru;exact⟨t,u,p,a,b,c,e,hS,q⟩
theorem zL0 (h:FnOk P w K mg base CX0 k f fd ["rule"] zGY):FnOk P w K mg base CX0 k f fd ["rule"] (zEL rKind):=h.imp λ vs H Q E ⟨p,t,u,ks,e,hR,q⟩=>by
 obtain⟨a,b,c,hS,hK⟩:=hR.ru;exact⟨t,u,ks,p,a,b,c,e,hS,hK,q⟩
theorem zLy (h:FnOk P w K mg base CX0 k f fd ["rule"] zH4):FnOk P w K mg base CX0 k f fd ["rule"] (zEL rLoud):=h.imp λ vs H Q E ⟨p,t,u,ks,e,hR,q⟩=>by
 obtain⟨a,b,c,hS,hK⟩:=hR.ru;exact⟨t,u,p,a,b,_,e,hS.hp,hS.ra,hS.rb,hS.st,hS.su,q⟩
end
theorem zNU {k:Nat}{f1 f2 f3 f4 f5 f6 f7:Addr}(h1:DueF P w K mg base k f1 rLeaf) (h2:DueF P w K mg base k f2 zEl) (h3:DueF P w K mg base k f3 rFree) (h4:DueF P w K mg base k f4 rTold) (h5:DueF P w K mg base k f5 rGap) (h6:DueF P w K mg base k f6 rKind) (h7:DueF P w K mg base k f7 rLoud) :
  ∀q∈zAr.zip [f1,f2,f3,f4,f5,f6,f7],DueF P w K mg base k q.2 q.1.2:=by
 intro q hq;have hq':q∈[((("leaf" : Str),(rLeaf:RP)),f1),((("twice" : Str),(zEl:RP)),f2),((("free" : Str),(rFree:RP)),f3),((("told" : Str),(rTold:RP)),f4),((("gap" : Str),(rGap:RP)),f5),((("kind" : Str),(rKind:RP)),f6),((("loud" : Str),(rLoud:RP)),f7)]:=hq;rcases lP.mp hq' with rfl|hq'
 ·exact h1
 rcases lP.mp hq' with rfl|hq'
 ·exact h2
 rcases lP.mp hq' with rfl|hq'
 ·exact h3
 rcases lP.mp hq' with rfl|hq'
 ·exact h4
 rcases lP.mp hq' with rfl|hq'
 ·exact h5
 rcases lP.mp hq' with rfl|hq'
 ·exact h6
 rcases lP.mp hq' with rfl|hq'
 ·exact h7
 ·cases hq'
theorem zIi {r1 r2 r3 r4 r5 r6 r7 f1 f2 f3 f4 f5 f6 f7:Addr}(h1:TupK K r1 [.str "leaf", .ref f1]) (h2:TupK K r2 [.str "twice", .ref f2]) (h3:TupK K r3 [.str "free", .ref f3]) (h4:TupK K r4 [.str "told", .ref f4]) (h5:TupK K r5 [.str "gap", .ref f5]) (h6:TupK K r6 [.str "kind", .ref f6]) (h7:TupK K r7 [.str "loud", .ref f7]) :
  Paired (λ(a:Addr) (q:(Str × RP) × Addr)=>TupK K a [.str q.1.1,.ref q.2]) [r1,r2,r3,r4,r5,r6,r7] (zAr.zip [f1,f2,f3,f4,f5,f6,f7]):=.cons h1 (.cons h2 (.cons h3 (.cons h4 (.cons h5 (.cons h6 (.cons h7 .nil))))))
theorem zHd {K:W.Frag}{f:Addr}{oc:Value}{od:Option Addr}{fd:FuncData}{sl:Array (Option Value)}(l:K.lookup f=some ⟨oc,od,.func fd,sl⟩):W.keepIn K (.ref f)=true:=by unfold W.keepIn;dsimp only;rw[l]
noncomputable def DfA (K:W.Frag) (x:Str) (s:Stmt) (f:Addr):Prop:=∃fd,W.nsIn K mainGlobals x=some (some (.ref f))/\Fun K x x s f fd
theorem dfa {K:W.Frag}{x:Str}{st:Stmt}{f:Addr}{oc:Value}{od an:Option Addr}{osl:Array (Option Value)}{kV doc pm cdv ct:Value}(a:W.nsIn K mainGlobals x=some (some (.ref f))) (l:K.lookup f=some ⟨oc,od,.func (W.fnOf x x (zC8 st) (zCL st) (zAJ st) .none kV doc pm an cdv ct),osl⟩) (c:W.codeIn K cdv x=true):DfA K x st f:=⟨_,a,zKT l c (zHd l)⟩
theorem DfA.go {K:W.Frag}{x:Str}{s:Stmt}{f:Addr}{h:Heap}{mg:Str->Option Value}(d:DfA K x s f) (X:K.In h) (G:h.Ns mainGlobals mg):∃fd,Fun K x x s f fd/\mg x=some (.ref f):=d.elim λ fd h=>⟨fd,h.2,W.mg_of X G h.1⟩
theorem us1 {p:List Value->Prop}(h:∀a,p [a]):∀us:List Value,us.length=1->p us:=λ us q=>by
 obtain _|⟨a,us⟩:=us
 ·cases q
 obtain _|⟨z,us⟩:=us
 ·exact h a
 ·simp at q
theorem us2 {p:List Value->Prop}(h:∀a b,p [a,b]):∀us:List Value,us.length=2->p us:=λ us q=>by
 obtain _|⟨a,us⟩:=us
 ·cases q
 obtain _|⟨b,us⟩:=us
 ·cases q
 obtain _|⟨z,us⟩:=us
 ·exact h a b
 ·simp at q
theorem us3 {p:List Value->Prop}(h:∀a b c,p [a,b,c]):∀us:List Value,us.length=3->p us:=λ us q=>by
 obtain _|⟨a,us⟩:=us
 ·cases q
 obtain _|⟨b,us⟩:=us
 ·cases q
 obtain _|⟨c,us⟩:=us
 ·cases q
 obtain _|⟨z,us⟩:=us
 ·exact h a b c
 ·simp at q
theorem us4 {p:List Value->Prop}(h:∀a b c d,p [a,b,c,d]):∀us:List Value,us.length=4->p us:=λ us q=>by
 obtain _|⟨a,us⟩:=us
 ·cases q
 obtain _|⟨b,us⟩:=us
 ·cases q
 obtain _|⟨c,us⟩:=us
 ·cases q
 obtain _|⟨d,us⟩:=us
 ·cases q
 obtain _|⟨z,us⟩:=us
 ·exact h a b c d
 ·simp at q
theorem us5 {p:List Value->Prop}(h:∀a b c d e,p [a,b,c,d,e]):∀us:List Value,us.length=5->p us:=λ us q=>by
 obtain _|⟨a,us⟩:=us
 ·cases q
 obtain _|⟨b,us⟩:=us
 ·cases q
 obtain _|⟨c,us⟩:=us
 ·cases q
 obtain _|⟨d,us⟩:=us
 ·cases q
 obtain _|⟨e,us⟩:=us
 ·cases q
 obtain _|⟨z,us⟩:=us
 ·exact h a b c d e
 ·simp at q
theorem all_mk {l:W.OpenLaw}{w:World}{K:W.Frag}{h:Heap}{mg:Str->Option Value}{fa f0 f1 f2 f3 f4 f5 f6 f7 f8 f9 f10 f11 f12 f13 f14 f15 f16 f17 f18 f19 f20 f21 f22 f23 f24 f25 f26 f27 f28 f29 f30 f31 f32 f33 f34 f35 f36 f37 f38 f39 f40 f41 f42 f43 f44 f45 f46 f47 f48 f49 f50 f51 lv_LEAF_SIGNS lv_LOUD_SIGNS zPO zO4 la r1 r2 r3 r4 r5 r6 r7 md oa:Addr}(X:K.In h) (G:h.Ns mainGlobals mg) (hfa:mg "law" = some (.ref fa))
  {od50 an50:Option Addr}{sl50:Array (Option Value)}{oc50 kV50 dc50 pm50 cd50 ct50:Value}
  {od51 an51:Option Addr}{sl51:Array (Option Value)}{oc51 kV51 dc51 pm51 cd51 ct51:Value}
  {odC0:Option Addr}{slC0:Array (Option Value)}{nC0:Nat}{tC0_0 tC0_1 tC0_2 tC0_3 tC0_4:Tok}
  {odC1:Option Addr}{slC1:Array (Option Value)}{nC1:Nat}{tC1_0 tC1_1 tC1_2:Tok}
  {xnm xq:Str}{xN:Addr}{xbs xsub:List Value}{xsn:List Str}{xab:Bool}{xcol:Option Bool}{xdd:Option Addr}{xk0 xk1 xk2 xk3 xk5:Option Value}
  {od_rs odO od_r1 od_r2 od_r3 od_r4 od_r5 od_r6 od_r7:Option Addr}{sl_rs slO sl_r1 sl_r2 sl_r3 sl_r4 sl_r5 sl_r6 sl_r7:Array (Option Value)}{n_rs nM nO n_r1 n_r2 n_r3 n_r4 n_r5 n_r6 n_r7:Nat}{v1 v2 v3 v4 w1 w2 x1 x2 x3 x4 x5 x6 x7 t_r1 t_r2 t_r3 t_r4 t_r5 t_r6 t_r7:Tok}{esM:Array DictEntry}
  (a0:DfA K "is_whole" zEE f0)
  (a1:DfA K "parts_begin" zCW f1)
  (a2:DfA K "parts" zHO f2)
  (a3:DfA K "all_parts" zDe f3)
  (a4:DfA K "placed_parts" zCG f4)
  (a5:DfA K "names_at" zED f5)
  (a6:DfA K "bound_in" zEF f6)
  (a7:DfA K "free_names" zC1 f7)
  (a8:DfA K "gap_parts" zDd f8)
  (a9:DfA K "counted_gaps" zCI f9)
  (a10:DfA K "gaps_of" zEk f10)
  (a11:DfA K "is_loud" zEj f11)
  (a12:DfA K "begins_with_leaf" zBP f12)
  (a13:DfA K "binds_twice" zCg f13)
  (a14:DfA K "has_free_name" zBw f14)
  (a15:DfA K "tells_no_piece" zBh f15)
  (a16:DfA K "has_unlike_counts" zBK f16)
  (a17:DfA K "has_no_number_atom" zBJ f17)
  (a18:DfA K "is_told_wrong" zBv f18)
  (a19:DfA K "has_new_gap" zCd f19)
  (a20:DfA K "has_wrong_kind" zBi f20)
  (a21:DfA K "grows_loud" zC0 f21)
  (a22:DfA K "form" zJU f22)
  (a23:DfA K "is_between" zCz f23)
  (a24:DfA K "is_scale_row" zCH f24)
  (a25:DfA K "check_scale" zCf f25)
  (a26:DfA K "weighed_parts" zBu f26)
  (a27:DfA K "worth" zHN f27)
  (a28:DfA K "gap_weights" zCe f28)
  (a29:DfA K "falls" zHP f29)
  (a30:DfA K "is_rule" zEi f30)
  (a31:DfA K "made_rule" zDW f31)
  (a32:DfA K "_law_cell_at" zCc f32)
  (a33:DfA K "_law_words" zDX f33)
  (a34:DfA K "_law_scale" zDZ f34)
  (a35:DfA K "_law_parts" zDa f35)
  (a36:DfA K "_law_worth" zCX f36)
  (a37:DfA K "_law_gaps" zDH f37)
  (a38:DfA K "_law_is_loud" zBk f38)
  (a39:DfA K "_law_shape" zDY f39)
  (a40:DfA K "_law_kinds" zDb f40)
  (a41:DfA K "_law_falls" zDc f41)
  (a42:DfA K "_law_is_shape" zBb f42)
  (a43:DfA K "_law_lets" zDG f43)
  (a44:DfA K "_law_free" zDI f44)
  (a45:DfA K "_law_every" zCa f45)
  (a46:DfA K "_law_is_rule" zCY f46)
  (a47:DfA K "_law_dressed" zCb f47)
  (a48:DfA K "_law_due" zEh f48)
  (a49:DfA K "_law_is_made" zCZ f49)
  (a50:W.nsIn K mainGlobals "law" = some (some (.ref f50)))
  (l50:K.lookup f50=some ⟨oc50,od50,.func (W.fnOf "law" "law" (zC8 s_law) (zCL s_law) (zAJ s_law) .none kV50 dc50 pm50 an50 cd50 ct50),sl50⟩) (c50:W.codeIn K cd50 "law" = true)
  (a51:W.findIn K (.ref zO4) "__init__" = some (some (.ref f51))) (i51:W.isFn K (.ref f51)=true)
  (l51:K.lookup f51=some ⟨oc51,od51,.func (W.fnOf "__init__" "NoRule.__init__" (zC8 zAv) (zCL zAv) (zAJ zAv) .none kV51 dc51 pm51 an51 cd51 ct51),sl51⟩) (c51:W.codeIn K cd51 "NoRule.__init__" = true)
  (aC0:W.nsIn K mainGlobals "LEAF_SIGNS" = some (some (.ref lv_LEAF_SIGNS))) (lC0:K.lookup lv_LEAF_SIGNS=some ⟨.type "tuple", odC0,.seq #[.str "num" tC0_0,.str "name" tC0_1,.str "ask" tC0_2,.str "stop" tC0_3,.str "gap" tC0_4] nC0,slC0⟩)
  (aC1:W.nsIn K mainGlobals "LOUD_SIGNS" = some (some (.ref lv_LOUD_SIGNS))) (lC1:K.lookup lv_LOUD_SIGNS=some ⟨.type "tuple", odC1,.seq #[.str "say" tC1_0,.str "ask" tC1_1,.str "stop" tC1_2] nC1,slC1⟩)
  (aX0:W.nsIn K mainGlobals "RecastError" = some (some (.ref zPO)))
  (aX1:W.nsIn K mainGlobals "NoRule" = some (some (.ref zO4)))
  (NoRule_ga:W.findIn K (.ref zO4) "__getattribute__" = some (some (.builtin "BaseException.__getattribute__")))
  (NoRule_gt:W.findIn K (.ref zO4) "__getattr__" = some none)
  (NoRule_bs:W.mroIn K zO4 (.type "BaseException")=some true)
  (NoRule_cl:W.findIn K (.ref zO4) "__class__" = some (some (.builtin "object.__class__")))
  (NoRule_ob:W.mroIn K zO4 (.type "object")=some true)
  (NoRule_ty:W.typeIn K (.ref zO4)=some (.type "type"))
  (lkN:K.lookup zO4=some (excClassObj xnm xq zO4 xN xbs (.ref zPO::W.mroVE) true xsn xsub xab xcol xdd xk0 xk1 xk2 xk3 xk5 "ValueError.__new__"))
  (mV:W.mroIn K zO4 (.type "ValueError")=some true)
  (mD:W.mroIn K zO4 (.ref zO4)=some true)
  (nWhy:W.findIn K (.ref zO4) "why" = some none)
  (nSa:W.findIn K (.ref zO4) "__setattr__" = some (some (.builtin "object.__setattr__")))
  (kpN:W.keepIn K (.ref zO4)=true)
  (fnI:W.typeIn K (.ref f51)=some (.type "function"))
  (xR:W.excIn K zPO W.mroVE "ValueError.__new__" = true)
  (spR:W.specialIn K (.ref zPO) "__getattribute__" = some (some (.builtin "type.__getattribute__")))
  (rdR:W.readsIn K zPO (.type "type")=true)
  (fcR:W.findCls K (.ref zPO) (.type "type") "__init__" = some (.val (.builtin "ValueError.__init__")))
  (aRs:W.nsIn K mainGlobals "REASONS" = some (some (.ref la)))
  (lRs:K.lookup la=some ⟨.type "tuple", od_rs,.seq #[.ref r1,.ref r2,.ref r3,.ref r4,.ref r5,.ref r6,.ref r7] n_rs,sl_rs⟩)
  (lr1:K.lookup r1=some ⟨.type "tuple", od_r1,.seq #[.str "leaf" t_r1,.ref f12] n_r1,sl_r1⟩)
  (lr2:K.lookup r2=some ⟨.type "tuple", od_r2,.seq #[.str "twice" t_r2,.ref f13] n_r2,sl_r2⟩)
  (lr3:K.lookup r3=some ⟨.type "tuple", od_r3,.seq #[.str "free" t_r3,.ref f14] n_r3,sl_r3⟩)
  (lr4:K.lookup r4=some ⟨.type "tuple", od_r4,.seq #[.str "told" t_r4,.ref f18] n_r4,sl_r4⟩)
  (lr5:K.lookup r5=some ⟨.type "tuple", od_r5,.seq #[.str "gap" t_r5,.ref f19] n_r5,sl_r5⟩)
  (lr6:K.lookup r6=some ⟨.type "tuple", od_r6,.seq #[.str "kind" t_r6,.ref f20] n_r6,sl_r6⟩)
  (lr7:K.lookup r7=some ⟨.type "tuple", od_r7,.seq #[.str "loud" t_r7,.ref f21] n_r7,sl_r7⟩)
  (aM:W.nsIn K mainGlobals "MANY_PARTS" = some (some (.ref md)))
  (lM:K.lookup md=some ⟨.type "dict", none,.dict esM nM,#[]⟩)
  (kM:W.KeysLit w.params esM.toList)
  (sM:(md == sysModules)=false)
  (n0:W.nsIn K md "say" = some (some (.int 1 x1)))
  (n1:W.nsIn K md "add" = some (some (.int 2 x2)))
  (n2:W.nsIn K md "sub" = some (some (.int 2 x3)))
  (n3:W.nsIn K md "mul" = some (some (.int 2 x4)))
  (n4:W.nsIn K md "then" = some (some (.int 2 x5)))
  (n5:W.nsIn K md "if" = some (some (.int 3 x6)))
  (n6:W.nsIn K md "let" = some (some (.int 2 x7)))
  (aO:W.nsIn K mainGlobals "ONES" = some (some (.ref oa)))
  (lO:K.lookup oa=some ⟨.type "tuple", odO,.seq #[.int 1 v1,.int 1 v2,.int 1 v3,.int 1 v4] nO,slO⟩)
  (aW:W.nsIn K mainGlobals "MOST_OWN" = some (some (.int 9 w1)))
  (aT:W.nsIn K mainGlobals "MOST_TIMES" = some (some (.int 3 w2)))
  (z_len:W.nsIn K mainGlobals "len" = some none)
  (z_range:W.nsIn K mainGlobals "range" = some none)
  (z_zip:W.nsIn K mainGlobals "zip" = some none)
  (z_isinstance:W.nsIn K mainGlobals "isinstance" = some none)
  (z_int:W.nsIn K mainGlobals "int" = some none)
  (z_bool:W.nsIn K mainGlobals "bool" = some none)
  (z_str:W.nsIn K mainGlobals "str" = some none)
  (z_tuple:W.nsIn K mainGlobals "tuple" = some none)
  (z_any:W.nsIn K mainGlobals "any" = some none)
  (z_all:W.nsIn K mainGlobals "all" = some none)
  (z_sum:W.nsIn K mainGlobals "sum" = some none)
  (z_sorted:W.nsIn K mainGlobals "sorted" = some none)
  (z_enumerate:W.nsIn K mainGlobals "enumerate" = some none)
  (z_set:W.nsIn K mainGlobals "set" = some none)
  (z_dict:W.nsIn K mainGlobals "dict" = some none)
  : ∃fd:FuncData,(∀(s:Shared) (v:Value),BindsTo s fd ⟨[v],[]⟩ [("_law_script", v)])/\∀base:Heap,K.In base->base.Ns mainGlobals mg->FnOk l.prog w K mg base CX0 126 fa fd ["_law_script"] (zH2 K):=by
 have e:=hfa.symm.trans (W.mg_of X G a50);cases e;have z_len:=W.mg_none_of X G z_len;have z_range:=W.mg_none_of X G z_range;have z_zip:=W.mg_none_of X G z_zip;have z_isinstance:=W.mg_none_of X G z_isinstance;have z_int:=W.mg_none_of X G z_int;have z_bool:=W.mg_none_of X G z_bool;have z_str:=W.mg_none_of X G z_str;have z_tuple:=W.mg_none_of X G z_tuple;have z_any:=W.mg_none_of X G z_any;have z_all:=W.mg_none_of X G z_all;have z_sum:=W.mg_none_of X G z_sum;have z_sorted:=W.mg_none_of X G z_sorted;have z_enumerate:=W.mg_none_of X G z_enumerate;have z_set:=W.mg_none_of X G z_set;have z_dict:=W.mg_none_of X G z_dict;have zOW:=W.mg_of X G aC0;have h_LEAF_SIGNS:zFI K lv_LEAF_SIGNS:=⟨_,_,_,lC0,rfl,rfl,(by show 5<=sizeLine;decide),(.cons ⟨_,rfl⟩ (.cons ⟨_,rfl⟩ (.cons ⟨_,rfl⟩ (.cons ⟨_,rfl⟩ (.cons ⟨_,rfl⟩ .nil)))))⟩;have zOZ:=W.mg_of X G aC1;have h_LOUD_SIGNS:zHC K lv_LOUD_SIGNS:=⟨_,_,_,lC1,rfl,rfl,(by show 3<=sizeLine;decide),(.cons ⟨_,rfl⟩ (.cons ⟨_,rfl⟩ (.cons ⟨_,rfl⟩ .nil)))⟩;have zOm:=W.mg_of X G aX0;have zOo:=W.mg_of X G aX1;have XCD:ExC K zO4:=⟨⟨NoRule_ga,NoRule_gt,NoRule_bs,NoRule_cl,NoRule_ob,zOT lkN⟩,NoRule_ty⟩;have XS:XSup K zPO:=⟨spR,_,rdR,fcR⟩;have XC:W.Exc3 K zO4 zPO f51:={ toExc2:=⟨⟨_,_,_,lkN,rfl,rfl⟩,nSa⟩,toExCls:=XCD.toExCls,obj:=⟨_,_,_,_,_,_,_,_,_,_,_,_,_,_,lkN⟩,tail:=zHD xR,init:=a51,fn:=fnI };have zOn:=W.mg_of X G aRs;have hRs:TupK K la ([r1,r2,r3,r4,r5,r6,r7].map V.ref):=⟨_,_,_,lRs,rfl,rfl,(by show 7<=sizeLine;decide),.cons rfl (.cons rfl (.cons rfl (.cons rfl (.cons rfl (.cons rfl (.cons rfl .nil))))))⟩;have hr1:TupK K r1 [.str "leaf", .ref f12]:=⟨_,_,_,lr1,rfl,rfl,(by show 2<=sizeLine;decide),.cons ⟨_,rfl⟩ (.cons rfl .nil)⟩;have hr2:TupK K r2 [.str "twice", .ref f13]:=⟨_,_,_,lr2,rfl,rfl,(by show 2<=sizeLine;decide),.cons ⟨_,rfl⟩ (.cons rfl .nil)⟩;have hr3:TupK K r3 [.str "free", .ref f14]:=⟨_,_,_,lr3,rfl,rfl,(by show 2<=sizeLine;decide),.cons ⟨_,rfl⟩ (.cons rfl .nil)⟩;have hr4:TupK K r4 [.str "told", .ref f18]:=⟨_,_,_,lr4,rfl,rfl,(by show 2<=sizeLine;decide),.cons ⟨_,rfl⟩ (.cons rfl .nil)⟩;have hr5:TupK K r5 [.str "gap", .ref f19]:=⟨_,_,_,lr5,rfl,rfl,(by show 2<=sizeLine;decide),.cons ⟨_,rfl⟩ (.cons rfl .nil)⟩;have hr6:TupK K r6 [.str "kind", .ref f20]:=⟨_,_,_,lr6,rfl,rfl,(by show 2<=sizeLine;decide),.cons ⟨_,rfl⟩ (.cons rfl .nil)⟩;have hr7:TupK K r7 [.str "loud", .ref f21]:=⟨_,_,_,lr7,rfl,rfl,(by show 2<=sizeLine;decide),.cons ⟨_,rfl⟩ (.cons rfl .nil)⟩;have hIn:=zIi hr1 hr2 hr3 hr4 hr5 hr6 hr7;have mM:=W.mg_of X G aM;have hM:KDic K w.params md:=⟨⟨esM,nM,lM,kM⟩,sM⟩
 have hY:ManyK K md:=λ k hk=>by
  cases k with
  |say=>exact⟨_,n0⟩
  |add=>exact⟨_,n1⟩
  |sub=>exact⟨_,n2⟩
  |mul=>exact⟨_,n3⟩
  |thn=>exact⟨_,n4⟩
  |ite=>exact⟨_,n5⟩
  |lett=>exact⟨_,n6⟩
  |_=>cases hk
 have mO:=W.mg_of X G aO;have hO:OnesK K oa:=⟨_,_,_,lO,rfl,rfl,(by show 4<=sizeLine;decide),.cons ⟨_,rfl⟩ (.cons ⟨_,rfl⟩ (.cons ⟨_,rfl⟩ (.cons ⟨_,rfl⟩ .nil)))⟩;have mW:=W.mg_of X G aW;have mT:=W.mg_of X G aT;obtain⟨_,F0,m0⟩:=a0.go X G;have b0:=F0.binds (ps:=["value"]) λ U U U U U U=>us1 λ U=>rfl;obtain⟨_,F1,m1⟩:=a1.go X G;have b1:=F1.binds (ps:=["tree"]) λ U U U U U U=>us1 λ U=>rfl;obtain⟨_,F2,m2⟩:=a2.go X G;have b2:=F2.binds (ps:=["tree"]) λ U U U U U U=>us1 λ U=>rfl;obtain⟨_,F3,m3⟩:=a3.go X G;have b3:=F3.binds (ps:=["tree"]) λ U U U U U U=>us1 λ U=>rfl;obtain⟨_,F4,m4⟩:=a4.go X G;have b4:=F4.binds (ps:=["tree"]) λ U U U U U U=>us1 λ U=>rfl;obtain⟨_,F5,m5⟩:=a5.go X G;have b5:=F5.binds (ps:=["part"]) λ U U U U U U=>us1 λ U=>rfl;obtain⟨_,F6,m6⟩:=a6.go X G;have b6:=F6.binds (ps:=["part", "number", "bound"]) λ U U U U U U=>us3 λ U U U=>rfl;obtain⟨_,F7,m7⟩:=a7.go X G;have b7:=F7.binds (ps:=["tree"]) λ U U U U U U=>us1 λ U=>rfl;obtain⟨_,F8,m8⟩:=a8.go X G;have b8:=F8.binds (ps:=["shape"]) λ U U U U U U=>us1 λ U=>rfl;obtain⟨_,F9,m9⟩:=a9.go X G;have b9:=F9.binds (ps:=["shape"]) λ U U U U U U=>us1 λ U=>rfl;obtain⟨_,F10,m10⟩:=a10.go X G;have b10:=F10.binds (ps:=["shape"]) λ U U U U U U=>us1 λ U=>rfl;obtain⟨_,F11,m11⟩:=a11.go X G;have b11:=F11.binds (ps:=["tree"]) λ U U U U U U=>us1 λ U=>rfl;obtain⟨_,F12,m12⟩:=a12.go X G;have b12:=F12.binds (ps:=["rule"]) λ U U U U U U=>us1 λ U=>rfl;obtain⟨_,F13,m13⟩:=a13.go X G;have b13:=F13.binds (ps:=["rule"]) λ U U U U U U=>us1 λ U=>rfl;obtain⟨_,F14,m14⟩:=a14.go X G;have b14:=F14.binds (ps:=["rule"]) λ U U U U U U=>us1 λ U=>rfl;obtain⟨_,F15,m15⟩:=a15.go X G;have b15:=F15.binds (ps:=["gap"]) λ U U U U U U=>us1 λ U=>rfl;obtain⟨_,F16,m16⟩:=a16.go X G;have b16:=F16.binds (ps:=["rule"]) λ U U U U U U=>us1 λ U=>rfl;obtain⟨_,F17,m17⟩:=a17.go X G;have b17:=F17.binds (ps:=["rule"]) λ U U U U U U=>us1 λ U=>rfl;obtain⟨_,F18,m18⟩:=a18.go X G;have b18:=F18.binds (ps:=["rule"]) λ U U U U U U=>us1 λ U=>rfl;obtain⟨_,F19,m19⟩:=a19.go X G;have b19:=F19.binds (ps:=["rule"]) λ U U U U U U=>us1 λ U=>rfl;obtain⟨_,F20,m20⟩:=a20.go X G;have b20:=F20.binds (ps:=["rule"]) λ U U U U U U=>us1 λ U=>rfl;obtain⟨_,F21,m21⟩:=a21.go X G;have b21:=F21.binds (ps:=["rule"]) λ U U U U U U=>us1 λ U=>rfl;obtain⟨_,F22,m22⟩:=a22.go X G;have b22:=F22.binds (ps:=["rule"]) λ U U U U U U=>us1 λ U=>rfl;obtain⟨_,F23,m23⟩:=a23.go X G;have b23:=F23.binds (ps:=["value", "most"]) λ U U U U U U=>us2 λ U U=>rfl;obtain⟨_,F24,m24⟩:=a24.go X G;have b24:=F24.binds (ps:=["row", "many"]) λ U U U U U U=>us2 λ U U=>rfl;obtain⟨_,F25,m25⟩:=a25.go X G;have b25:=F25.binds (ps:=["scale"]) λ U U U U U U=>us1 λ U=>rfl;obtain⟨_,F26,m26⟩:=a26.go X G;have b26:=F26.binds (ps:=["tree", "scale"]) λ U U U U U U=>us2 λ U U=>rfl;obtain⟨_,F27,m27⟩:=a27.go X G;have b27:=F27.binds (ps:=["tree", "scale"]) λ U U U U U U=>us2 λ U U=>rfl;obtain⟨_,F28,m28⟩:=a28.go X G;have b28:=F28.binds (ps:=["shape", "scale"]) λ U U U U U U=>us2 λ U U=>rfl;obtain⟨_,F29,m29⟩:=a29.go X G;have b29:=F29.binds (ps:=["rule", "scale"]) λ U U U U U U=>us2 λ U U=>rfl;obtain⟨_,F30,m30⟩:=a30.go X G;have b30:=F30.binds (ps:=["rule"]) λ U U U U U U=>us1 λ U=>rfl;obtain⟨_,F31,m31⟩:=a31.go X G;have b31:=F31.binds (ps:=["s", "t", "kinds", "scale"]) λ U U U U U U=>us4 λ U U U U=>rfl;obtain⟨_,F32,m32⟩:=a32.go X G;have b32:=F32.binds (ps:=["_law_script", "_law_k"]) λ U U U U U U=>us2 λ U U=>rfl;obtain⟨_,F33,m33⟩:=a33.go X G;have b33:=F33.binds (ps:=["_law_cell", "_law_many"]) λ U U U U U U=>us2 λ U U=>rfl;obtain⟨_,F34,m34⟩:=a34.go X G;have b34:=F34.binds (ps:=["_law_cells"]) λ U U U U U U=>us1 λ U=>rfl;obtain⟨_,F35,m35⟩:=a35.go X G;have b35:=F35.binds (ps:=["_law_tree"]) λ U U U U U U=>us1 λ U=>rfl;obtain⟨_,F36,m36⟩:=a36.go X G;have b36:=F36.binds (ps:=["_law_tree", "_law_scale_here", "_law_worths"]) λ U U U U U U=>us3 λ U U U=>rfl;obtain⟨_,F37,m37⟩:=a37.go X G;have b37:=F37.binds (ps:=["_law_shape_here"]) λ U U U U U U=>us1 λ U=>rfl;obtain⟨_,F38,m38⟩:=a38.go X G;have b38:=F38.binds (ps:=["_law_shape_here"]) λ U U U U U U=>us1 λ U=>rfl;obtain⟨_,F39,m39⟩:=a39.go X G;have b39:=F39.binds (ps:=["_law_cells", "_law_leaves", "_law_loud"]) λ U U U U U U=>us3 λ U U U=>rfl;obtain⟨_,F40,m40⟩:=a40.go X G;have b40:=F40.binds (ps:=["_law_there", "_law_cell"]) λ U U U U U U=>us2 λ U U=>rfl;obtain⟨_,F41,m41⟩:=a41.go X G;have b41:=F41.binds (ps:=["_law_rule", "_law_scale_here"]) λ U U U U U U=>us2 λ U U=>rfl;obtain⟨_,F42,m42⟩:=a42.go X G;have b42:=F42.binds (ps:=["_law_found"]) λ U U U U U U=>us1 λ U=>rfl;obtain⟨_,F43,m43⟩:=a43.go X G;have b43:=F43.binds (ps:=["_law_shape_here"]) λ U U U U U U=>us1 λ U=>rfl;obtain⟨_,F44,m44⟩:=a44.go X G;have b44:=F44.binds (ps:=["_law_shape_here", "_law_bound"]) λ U U U U U U=>us2 λ U U=>rfl;obtain⟨_,F45,m45⟩:=a45.go X G;have b45:=F45.binds (ps:=["_law_shape_here"]) λ U U U U U U=>us1 λ U=>rfl;obtain⟨_,F46,m46⟩:=a46.go X G;have b46:=F46.binds (ps:=["_law_left", "_law_right", "_law_kinds_here"]) λ U U U U U U=>us3 λ U U U=>rfl;obtain⟨_,F47,m47⟩:=a47.go X G;have b47:=F47.binds (ps:=["_law_shape_here", "_law_cell", "_law_names", "_law_gap", "_law_number"]) λ U U U U U U=>us5 λ U U U U U=>rfl;obtain⟨_,F48,m48⟩:=a48.go X G;have b48:=F48.binds (ps:=["_law_s", "_law_t", "_law_kinds_here", "_law_scale_here"]) λ U U U U U U=>us4 λ U U U U=>rfl;obtain⟨_,F49,m49⟩:=a49.go X G;have b49:=F49.binds (ps:=["_law_found", "_law_due_here"]) λ U U U U U U=>us2 λ U U=>rfl;have k50:=zHd l50;have F50:=zKT (st:=s_law) l50 c50 k50;have b50:=F50.binds (ps:=["_law_script"]) λ U U U U U U=>us1 λ U=>rfl;have m50:=W.mg_of X G a50;have k51:=zHd l51;have F51:=zKT (st:=zAv) l51 c51 k51;have b51:=F51.binds (ps:=["self", "why"]) λ U U U U U U=>us2 λ U U=>rfl;refine⟨W.fnOf "law" "law" (zC8 s_law) (zCL s_law) (zAJ s_law) .none kV50 dc50 pm50 an50 cd50 ct50,λ s v=>.of_eq rfl,λ base U U=>?_⟩;have G0:FnB l.prog w K mg base 1 "is_whole" f0 _ _ _:=⟨zHW (k:=0) F0 z_isinstance z_int z_bool,b0,F0.kp,m0⟩;have G1:FnB l.prog w K mg base 1 "parts_begin" f1 _ _ _:=⟨zFM (k:=0) F1 z_len zOW h_LEAF_SIGNS,b1,F1.kp,m1⟩;have G2:FnB l.prog w K mg base 2 "parts" f2 _ _ _:=⟨zLS F2 (G1.up (k:=1) (by decide)),b2,F2.kp,m2⟩;have G3:FnB l.prog w K mg base 3 "all_parts" f3 _ _ _:=⟨zOC F3 (G2.up (k:=2) (by decide)),b3,F3.kp,m3⟩;have G4:FnB l.prog w K mg base 3 "placed_parts" f4 _ _ _:=⟨zJp F4 z_enumerate z_sorted (G2.up (k:=2) (by decide)),b4,F4.kp,m4⟩;have G11:FnB l.prog w K mg base 4 "is_loud" f11 _ _ _:=⟨zNC F11 z_any zOZ h_LOUD_SIGNS (G3.up (k:=3) (by decide)),b11,F11.kp,m11⟩;have G12:FnB l.prog w K mg base 1 "begins_with_leaf" f12 _ _ _:=⟨zLX (k:=0) F12 zOW h_LEAF_SIGNS,b12,F12.kp,m12⟩;have G21:FnB l.prog w K mg base 5 "grows_loud" f21 _ _ _:=⟨zLZ F21 (G11.up (k:=4) (by decide)),b21,F21.kp,m21⟩;have G13:FnB l.prog w K mg base 4 "binds_twice" f13 _ _ _:=⟨zLP F13 z_len z_set (G3.up (k:=3) (by decide)),b13,F13.kp,m13⟩;have G5:FnB l.prog w K mg base 1 "names_at" f5 _ _ _:=⟨zHV (k:=0) F5,b5,F5.kp,m5⟩;have G6:FnB l.prog w K mg base 1 "bound_in" f6 _ _ _:=⟨zHX (k:=0) F6,b6,F6.kp,m6⟩;have G7:FnB l.prog w K mg base 3 "free_names" f7 _ _ _:=⟨zF7 F7 z_sorted z_enumerate (G2.up (k:=2) (by decide)) (G5.up (k:=2) (by decide)) (G6.up (k:=2) (by decide)),b7,F7.kp,m7⟩;have G14:FnB l.prog w K mg base 4 "has_free_name" f14 _ _ _:=⟨zIp F14 z_len z_any (G7.up (k:=3) (by decide)),b14,F14.kp,m14⟩;have G8:FnB l.prog w K mg base 4 "gap_parts" f8 _ _ _:=⟨zNG F8 (G4.up (k:=3) (by decide)),b8,F8.kp,m8⟩;have G9:FnB l.prog w K mg base 5 "counted_gaps" f9 _ _ _:=⟨zIq F9 z_len (G8.up (k:=4) (by decide)),b9,F9.kp,m9⟩;have G10:FnB l.prog w K mg base 6 "gaps_of" f10 _ _ _:=⟨zJw F10 (G9.up (k:=5) (by decide)),b10,F10.kp,m10⟩;have G19:FnB l.prog w K mg base 7 "has_new_gap" f19 _ _ _:=⟨zJq F19 z_any (G10.up (k:=6) (by decide)),b19,F19.kp,m19⟩;have G16:FnB l.prog w K mg base 7 "has_unlike_counts" f16 _ _ _:=⟨zJo F16 z_any (G10.up (k:=6) (by decide)) (G9.up (k:=6) (by decide)),b16,F16.kp,m16⟩;have G20:FnB l.prog w K mg base 7 "has_wrong_kind" f20 _ _ _:=⟨zJn F20 (G10.up (k:=6) (by decide)),b20,F20.kp,m20⟩;have G17:FnB l.prog w K mg base 5 "has_no_number_atom" f17 _ _ _:=⟨zLT F17 z_dict (G8.up (k:=4) (by decide)),b17,F17.kp,m17⟩;have G15:FnB l.prog w K mg base 1 "tells_no_piece" f15 _ _ _:=⟨zN7 (k:=0) F15 z_any z_len z_set,b15,F15.kp,m15⟩;have G18:FnB l.prog w K mg base 8 "is_told_wrong" f18 _ _ _:=⟨zNA F18 z_any (G8.up (k:=7) (by decide)) (G15.up (k:=7) (by decide)) (G16.up (k:=7) (by decide)) (G17.up (k:=7) (by decide)),b18,F18.kp,m18⟩;have G51:=zN8 (P:=l.prog) (w:=w) (mg:=mg) (base:=base) (k:=7) F51 zOm XS XC mV nWhy;have G22:=(⟨zNH (k:=9) F22 zOn zOo hRs hIn rfl (zNU ⟨⟨_,zLz ((G12.up (k:=9) (by decide))).ok,b12⟩,F12.kp⟩ ⟨⟨_,zKa ((G13.up (k:=9) (by decide))).ok,b13⟩,F13.kp⟩ ⟨⟨_,zL1 ((G14.up (k:=9) (by decide))).ok,b14⟩,F14.kp⟩ ⟨⟨_,zLx ((G18.up (k:=9) (by decide))).ok,b18⟩,F18.kp⟩ ⟨⟨_,zNT ((G19.up (k:=9) (by decide))).ok,b19⟩,F19.kp⟩ ⟨⟨_,zL0 ((G20.up (k:=9) (by decide))).ok,b20⟩,F20.kp⟩ ⟨⟨_,zLy ((G21.up (k:=9) (by decide))).ok,b21⟩,F21.kp⟩) XC kpN ⟨8,rfl,G51⟩ b51,b22,F22.kp,m22⟩:FnG l.prog w K mg base 10 "form" _ _ ["rule"] (zHE zO4));have G23:FnB l.prog w K mg base 2 "is_between" f23 _ _ _:=⟨zF6 F23 (G0.up (k:=1) (by decide)),b23,F23.kp,m23⟩;have G24:FnB l.prog w K mg base 3 "is_scale_row" f24 _ _ _:=⟨zEv F24 z_isinstance z_tuple z_len z_all mW mT (G23.up (k:=2) (by decide)),b24,F24.kp,m24⟩;have G25:FnB l.prog w K mg base 4 "check_scale" f25 _ _ _:=⟨zFN F25 z_isinstance z_dict mM hM hY (G24.up (k:=3) (by decide)),b25,F25.kp,m25⟩;have G26:FnB l.prog w K mg base 3 "weighed_parts" f26 _ _ _:=⟨zIo F26 z_zip mO hO (G2.up (k:=2) (by decide)),b26,F26.kp,m26⟩;have G27:FnB l.prog w K mg base 5 "worth" f27 _ _ _:=⟨zLN F27 z_sum mO hO (G25.up (k:=4) (by decide)) (G26.up (k:=4) (by decide)),b27,F27.kp,m27⟩;have G28:FnB l.prog w K mg base 4 "gap_weights" f28 _ _ _:=⟨zNE F28 (G26.up (k:=3) (by decide)),b28,F28.kp,m28⟩;have G29:FnB l.prog w K mg base 6 "falls" f29 _ _ _:=⟨zLa F29 z_dict z_all (G27.up (k:=5) (by decide)) (G28.up (k:=5) (by decide)),b29,F29.kp,m29⟩;have G30:FnB l.prog w K mg base 11 "is_rule" f30 _ _ _:=⟨zJv F30 zOo XCD mD (G22.up (k:=10) (by decide)),b30,F30.kp,m30⟩;have G31:FnB l.prog w K mg base 12 "made_rule" f31 _ _ _:=⟨zNB F31 z_tuple (G25.up (k:=11) (by decide)) (G10.up (k:=11) (by decide)) (G30.up (k:=11) (by decide)) (G29.up (k:=11) (by decide)),b31,F31.kp,m31⟩;have G32:FnB l.prog w K mg base 1 "_law_cell_at" f32 _ _ _:=⟨zIr (k:=0) F32 z_len,b32,F32.kp,m32⟩;have G33:FnB l.prog w K mg base 1 "_law_words" f33 _ _ _:=⟨zLO (k:=0) F33 z_range,b33,F33.kp,m33⟩;have G34:FnB l.prog w K mg base 1 "_law_scale" f34 _ _ _:=⟨zLR (k:=0) F34 z_range z_zip,b34,F34.kp,m34⟩;have G39:FnB l.prog w K mg base 1 "_law_shape" f39 _ _ _:=⟨zLQ (k:=0) F39 z_len,b39,F39.kp,m39⟩;have G35:FnB l.prog w K mg base 1 "_law_parts" f35 _ _ _:=⟨zJt (k:=0) F35,b35,F35.kp,m35⟩;have G37:=zIZ F37 b37 m37 z_len (G35.up (k:=1) (by decide)) 122;have G36:=zFo F36 b36 m36 z_len z_range (G35.up (k:=1) (by decide)) 122;have G43:=zIY F43 b43 m43 (G35.up (k:=1) (by decide)) 60;have G45:=zHA F45 b45 m45 (G35.up (k:=1) (by decide)) 60;have G38:=zKv F38 b38 m38 (G35.up (k:=1) (by decide)) 60;have G44:=zG9 F44 b44 m44 (G35.up (k:=1) (by decide)) 60;have G40:FnB l.prog w K mg base 1 "_law_kinds" f40 _ _ _:=⟨zLY (k:=0) F40 z_sorted z_tuple,b40,F40.kp,m40⟩;have G41:FnB l.prog w K mg base 124 "_law_falls" f41 _ _ _:=⟨zJu F41 z_sorted (G36.up (k:=123) (by decide)) (G37.up (k:=123) (by decide)),b41,F41.kp,m41⟩;have G42:=zFp (P:=l.prog) (w:=w) (base:=base) (k:=0) F42 b42 m42 z_isinstance z_tuple z_str z_int z_bool z_len 60;have G46:FnB l.prog w K mg base 62 "_law_is_rule" f46 _ _ _:=⟨zLU F46 z_len z_set (G35.up (k:=61) (by decide)) (G43.up (k:=61) (by decide)) (G44.up (k:=61) (by decide)) (G45.up (k:=61) (by decide)) (G38.up (k:=61) (by decide)),b46,F46.kp,m46⟩;have G47:FnB l.prog w K mg base 1 "_law_dressed" f47 _ _ _:=⟨zLc (k:=0) F47,b47,F47.kp,m47⟩;have G48:FnB l.prog w K mg base 125 "_law_due" f48 _ _ _:=⟨zOB F48 z_tuple (G37.up (k:=124) (by decide)) (G46.up (k:=124) (by decide)) (G41.up (k:=124) (by decide)),b48,F48.kp,m48⟩;have G49:FnB l.prog w K mg base 61 "_law_is_made" f49 _ _ _:=⟨zLV F49 z_isinstance z_tuple z_len (G42.up (k:=60) (by decide)),b49,F49.kp,m49⟩;exact zOA F50 z_range z_dict z_int (G32.up (k:=125) (by decide)) (G34.up (k:=125) (by decide)) (G33.up (k:=125) (by decide)) (G39.up (k:=125) (by decide)) (G47.up (k:=125) (by decide)) (G40.up (k:=125) (by decide)) (G49.up (k:=125) (by decide)) (G31.up (k:=125) (by decide)) (G48.up (k:=125) (by decide))
theorem walk {l:W.OpenLaw}{q:Program}{loose:List Str}{XP:(Str->Option Value)->Heap->Prop}{YP:World->Heap->Prop}{d:DefRec}{K:Params->W.Frag}(hn:l.most=some 63) (hdf:d.params.defaults=[])
  (hY:∀(w:World) (h:Heap),YP w h->(K w.params).In h)
  (F:∀(w:World) (mg:Str->Option Value) (fa:Addr) (h:Heap),(K w.params).In h->h.Ns mainGlobals mg->mg d.name=some (.ref fa) ->
   ∃fd:FuncData,(∀(s:Shared) (u:Value),BindsTo s fd ⟨[u],[]⟩ [("_law_script", u)])/\∀base:Heap,(K w.params).In base->base.Ns mainGlobals mg->FnOk l.prog w (K w.params) mg base CX0 126 fa fd ["_law_script"] (zH2 (K w.params))) :
  W.WalkO q loose XP YP l.row.toRowW d [] (λ f vs=>PySem.call f vs) :=
 L2.walk_of (n:=63) (k:=126) (x := "_law_script") (CX:=λ U=>CX0) (sp:=λ w=>zH2 (K w.params)) hn (by decide) hdf ⟨rfl,by decide,by decide⟩ hY F (λ U U a ns hl U hS=>⟨a,ns,rfl,hS,hl,λ U=>rfl⟩) λ U U U U U z=>z
end
end K60
namespace PySem.W.Fast
def tw15013534169906851583:Unit:=()
def tw17019054258533462826:Unit:=()
def tw13200969311094299942:Unit:=()
def tw305292790735069933:Unit:=()
def tw16826913074041965989:Unit:=()
def tw9083430815556383863:Unit:=()
def tw5638675531266184177:Unit:=()
def tw6027173590007105068:Unit:=()
def tw5820165373247444577:Unit:=()
def tw10214523260649099346:Unit:=()
def tw18139547865251344236:Unit:=()
def tw382701056759513521:Unit:=()
def tw90498217340948373:Unit:=()
def tw17989022620336248519:Unit:=()
def tw1030259934385118733:Unit:=()
def tw17655434040399258641:Unit:=()
def tw16584829620049763940:Unit:=()
def tw4166776854404241805:Unit:=()
def tw2852902288756860667:Unit:=()
def tw4788690832200901176:Unit:=()
def tw5130670514586669900:Unit:=()
def tw14133692961082352994:Unit:=()
def tw15930049971019665:Unit:=()
def tw8621719450077716789:Unit:=()
def tw18170965157443879839:Unit:=()
def tw7564414219271561400:Unit:=()
def tw460388088900635698:Unit:=()
def tw14418544186756019381:Unit:=()
def tw651599492804570647:Unit:=()
def tw2301651516337874004:Unit:=()
def tw15605616526804059402:Unit:=()
def tw11470227232192302738:Unit:=()
def tw2456438694058398177:Unit:=()
def tw887419280260061331:Unit:=()
def tw11040919907567209628:Unit:=()
def tw7355873354597514166:Unit:=()
def tw17660739938502209057:Unit:=()
def tw17468364839428746000:Unit:=()
def tw8898352834367675402:Unit:=()
def tw16206281921555283353:Unit:=()
def tw889524415673321426:Unit:=()
def tw4842678227357890764:Unit:=()
def tw15581070617756466930:Unit:=()
def tw2094845379914407180:Unit:=()
def tw16404948250197664167:Unit:=()
def tw6400304799851138980:Unit:=()
def tw9780288321242025310:Unit:=()
def tw5194527102640909360:Unit:=()
def tw2586743496969394515:Unit:=()
def tw15994866153327040863:Unit:=()
def tw7912745787601424281:Unit:=()
def tw10973462826849640595:Unit:=()
def tw7959417394543362461:Unit:=()
def tw210009111837949213:Unit:=()
def tw14689414014445902580:Unit:=()
def tw18158589157936131128:Unit:=()
def tw7384629551403452329:Unit:=()
def tw4145169865165969399:Unit:=()
def tw6151431789055268277:Unit:=()
def tw12378432111832963146:Unit:=()
def tw281929556782828978:Unit:=()
def tw5222656089847722964:Unit:=()
def tw5148803942143230725:Unit:=()
def tw12205322730945047250:Unit:=()
def tw10987123836236441143:Unit:=()
def tw11159207493619711263:Unit:=()
def tw10007225258031913660:Unit:=()
def tw13262210900966557441:Unit:=()
def tw7143720975166485072:Unit:=()
def tw2740544521418025969:Unit:=()
def tw9095821389410157100:Unit:=()
def tw1696393480828604010:Unit:=()
def tw5351961320751025827:Unit:=()
def tw2219283812029839597:Unit:=()
def tw3972260819638167340:Unit:=()
def tw14357660719420265573:Unit:=()
def tw7420582697985109787:Unit:=()
def tw11873554931782269496:Unit:=()
def tw66289143367983506:Unit:=()
def tw8991073104576252413:Unit:=()
def tw1496276021229013796:Unit:=()
def tw7350548135859295771:Unit:=()
def tw2575461424478483977:Unit:=()
def tw2554507258801234245:Unit:=()
def tw17558930055185580898:Unit:=()
def tw402759191648757269:Unit:=()
def tw6308730695125535053:Unit:=()
def tw3872976020704883095:Unit:=()
def tw3530184619743315335:Unit:=()
def tw9798345827575102494:Unit:=()
def tw6129313269169686614:Unit:=()
def tw15768346204759459592:Unit:=()
def tw5543221723649815774:Unit:=()
def tw14200572175380058112:Unit:=()
def tw5765471951273830285:Unit:=()
def tw12481336889431160777:Unit:=()
def tw8965156580748495416:Unit:=()
def tw13602562223639400663:Unit:=()
def tw5647478282201725276:Unit:=()
def tw14146805683783840731:Unit:=()
def tw16305286964695006342:Unit:=()
def tw2489905386571345015:Unit:=()
def tw15749768279158854402:Unit:=()
def tw13248647089814602614:Unit:=()
def tw3600242855962995328:Unit:=()
def tw8639987567955379059:Unit:=()
def tw4717017328291875300:Unit:=()
def tw10714117642806290480:Unit:=()
def tw14047089490440152300:Unit:=()
def tw692526095191168674:Unit:=()
def tw995871230040285942:Unit:=()
def tw4371534116678620791:Unit:=()
def tw2905259993729886808:Unit:=()
def tw5899326733644899180:Unit:=()
def tw10968865675088789848:Unit:=()
def tw4681177216584544545:Unit:=()
def tw5510005581409535686:Unit:=()
def tw10789134216017398679:Unit:=()
def tw18230916147703947067:Unit:=()
def tw17317219702200658588:Unit:=()
def tw5253133366836411241:Unit:=()
def tw7802173074610748496:Unit:=()
def tw17715540382181374694:Unit:=()
def tw16668839499831732370:Unit:=()
def tw13275352240042205165:Unit:=()
def tw1273353375185361296:Unit:=()
def tw3109517637905817459:Unit:=()
def tw16887033492245212199:Unit:=()
def tw7316240373320546526:Unit:=()
def tw896001538437174342:Unit:=()
def tw12389253075002112586:Unit:=()
def tw5262408420800916925:Unit:=()
def tw6622311650911900978:Unit:=()
def tw31826510377559583:Unit:=()
def tw10111749073235937189:Unit:=()
def tw1312072566686706486:Unit:=()
def tw10891212815483800060:Unit:=()
end PySem.W.Fast
open PySem PySem.W PyProof.Rows K60
set_option maxRecDepth 100000 in
set_option maxHeartbeats 0 in
theorem PySem.Challenge.cw_recastle_k60_a_rule_made_holds : PySem.Challenge.rw_recastle_k60_a_rule_made.Holds := by
 w_on;o_law;k_head;(case hw=>w_witness2)
 k_fill
 refine K60.walk (l:=PySem.Challenge.rw_recastle_k60_a_rule_made) rfl rfl (λ w h Y=>W.kIn_of Y) ?F
 case F =>
  intro w mg fa h KX G hmg
  refine' K60.all_mk KX G hmg (dfa ?_ ?_ ?_) (dfa ?_ ?_ ?_) (dfa ?_ ?_ ?_) (dfa ?_ ?_ ?_) (dfa ?_ ?_ ?_) (dfa ?_ ?_ ?_) (dfa ?_ ?_ ?_) (dfa ?_ ?_ ?_) (dfa ?_ ?_ ?_) (dfa ?_ ?_ ?_) (dfa ?_ ?_ ?_) (dfa ?_ ?_ ?_) (dfa ?_ ?_ ?_) (dfa ?_ ?_ ?_) (dfa ?_ ?_ ?_) (dfa ?_ ?_ ?_) (dfa ?_ ?_ ?_) (dfa ?_ ?_ ?_) (dfa ?_ ?_ ?_) (dfa ?_ ?_ ?_) (dfa ?_ ?_ ?_) (dfa ?_ ?_ ?_) (dfa ?_ ?_ ?_) (dfa ?_ ?_ ?_) (dfa ?_ ?_ ?_) (dfa ?_ ?_ ?_) (dfa ?_ ?_ ?_) (dfa ?_ ?_ ?_) (dfa ?_ ?_ ?_) (dfa ?_ ?_ ?_) (dfa ?_ ?_ ?_) (dfa ?_ ?_ ?_) (dfa ?_ ?_ ?_) (dfa ?_ ?_ ?_) (dfa ?_ ?_ ?_) (dfa ?_ ?_ ?_) (dfa ?_ ?_ ?_) (dfa ?_ ?_ ?_) (dfa ?_ ?_ ?_) (dfa ?_ ?_ ?_) (dfa ?_ ?_ ?_) (dfa ?_ ?_ ?_) (dfa ?_ ?_ ?_) (dfa ?_ ?_ ?_) (dfa ?_ ?_ ?_) (dfa ?_ ?_ ?_) (dfa ?_ ?_ ?_) (dfa ?_ ?_ ?_) (dfa ?_ ?_ ?_) (dfa ?_ ?_ ?_) ?a50 ?l50 ?c50 ?a51 ?i51 ?l51 ?c51 ?aC0 ?lC0 ?aC1 ?lC1 ?aX0 ?aX1 ?NoRule_ga ?NoRule_gt ?NoRule_bs ?NoRule_cl ?NoRule_ob ?NoRule_ty ?lkN ?mV ?mD ?nWhy ?nSa ?kpN ?fnI ?xR ?spR ?rdR ?fcR ?aRs ?lRs ?lr1 ?lr2 ?lr3 ?lr4 ?lr5 ?lr6 ?lr7 ?aM ?lM ?kM ?sM ?n0 ?n1 ?n2 ?n3 ?n4 ?n5 ?n6 ?aO ?lO ?aW ?aT ?z_len ?z_range ?z_zip ?z_isinstance ?z_int ?z_bool ?z_str ?z_tuple ?z_any ?z_all ?z_sum ?z_sorted ?z_enumerate ?z_set ?z_dict
  (case aX0=>k_is);(case aX1=>k_is);(case xR=>k_exc);(case aM=>k_is);(case lM=>k_is);(case kM=>k_keys);(case sM=>decide)
  all_goals try k_is
#print axioms PySem.Challenge.cw_recastle_k60_a_rule_made_holds