import PyProof.Rows.All
import Wide.All
import OpenK.AllK
import Wide.FinOn
import Lean
import PyProof.EqAt
import PyProof.EqKinds
import PyProof.TupleCall
import PyProof.NeKinds
import PyProof.AttrMissHeap
import KE.KDictOf
import KE.KDictLaws
import KE.KSortTup
import PyProof.Rows.SortWalk
import PyProof.Rows.SortShellK
import PySem.Challenge.RW_recastle_k41_sums_have_papers
local macro_rules|`(tactic|right)=>`(tactic|decide +kernel)
abbrev XQ:=PySem.Value->PySem.Shared->Prop
abbrev lC:=@List.length_map
abbrev lS:=@List.size_toArray
abbrev mH:=@List.getElem?_map
abbrev mL:=@List.length_append
abbrev mM:=@List.map_cons
abbrev mN:=@List.length_cons
abbrev mO:=@List.length_take
abbrev mQ:=@List.map_append
abbrev mR:=@List.mem_singleton
abbrev mT:=@List.getElem?_append_left
abbrev mU:=@List.getElem?_append_right
abbrev mV:=@List.take_of_length_le
abbrev mX:=@List.length_drop
abbrev mZ:=@List.append_assoc
abbrev nN:=@Array.getElem?_toList
abbrev nT:=@List.getElem?_eq_getElem
abbrev nV:=@List.append_nil
abbrev nX:=@List.map_map
abbrev rE:=@List.reverse_append
abbrev rH:=@Int.emod_nonneg
abbrev rJ:=@Int.emod_lt_of_pos
abbrev rK:=@List.nodup_cons
abbrev rR:=@PyProof.Rows.boot_tuple
abbrev rX:=@PySem.F.plainAttrs_list
abbrev lA:=@PySem.wpAny_bind
abbrev lB:=@PySem.wpAny_pure
abbrev lF:=@PySem.wpAny_holding
abbrev lG:=@PySem.Heap.get?_push_of_some
abbrev lH:=@PySem.Heap.get?_push_size
abbrev lI:=@PySem.Heap.lt_size
abbrev lJ:=@List.getElem?_eq_some_iff
abbrev lK:=@List.mem_append
abbrev lL:=@List.mem_of_getElem?
abbrev lM:=@List.mem_cons
abbrev lN:=@List.mem_cons_self
abbrev lO:=@List.mem_cons_of_mem
abbrev lP:=@Nat.le_refl
abbrev lQ:=@Nat.ne_of_lt
abbrev lR:=@of_decide_eq_true
abbrev lT:=@Option.map_eq_some_iff
abbrev lU:=@List.getElem?_eq_getElem
abbrev lV:=@Bool.false_ne_true
abbrev lX:=@Nat.zero_le
abbrev lY:=@Nat.lt_of_lt_of_le
abbrev lZ:=@List.mem_append_right
abbrev mG:=@List.mem_map
abbrev mI:=@Option.some.inj
abbrev mJ:=@List.mem_append_left
abbrev mK:=@Nat.le_trans
set_option Elab.async false
set_option tactic.hygienic false
set_option linter.all false
set_option maxRecDepth 100000
set_option maxHeartbeats 4000000
namespace L2
open PySem PySem.Spec PyProof.Rows
abbrev Key:=Sum Int Str
noncomputable def keyIs:Key->Value->Bool
 |.inl k,v=>Value.isInt k v
 |.inr x,v=>Value.isStrOf x v
noncomputable def keyH (w:World):Key->Int
 |.inl k=>hashInt k
 |.inr x=>hashStr w x
theorem zAw:∀{k:Key}{v:Value},keyIs k v=true->(∃i t,k=Sum.inl i/\v=Value.int i t)\/(∃x t,k=Sum.inr x/\v=Value.str x t)
 |.inl i,v,h=>by
  obtain⟨t,e⟩:=Value.isInt_shape (k:=i) (v:=v) h;exact .inl ⟨i,t,rfl,e⟩
 |.inr x,v,h=>by
  obtain⟨t,e⟩:=Value.isStrOf_shape (x:=x) (v:=v) h;exact .inr ⟨x,t,rfl,e⟩
theorem zDh (i:Int) (t:Tok):keyIs (.inl i) (.int i t)=true:=by simp[keyIs,Value.isInt]
theorem zDg (x:Str) (t:Tok):keyIs (.inr x) (.str x t)=true:=by simp[keyIs,Value.isStrOf]
theorem zLd (a b:Int):decide ((Sum.inl a:Key)=Sum.inl b)=(a == b):=by
 by_cases e:a=b
 ·subst e;simp
 ·have h:¬(Sum.inl a:Key)=Sum.inl b:=λ q=>e (Sum.inl.inj q)
  rw[decide_eq_false h];exact(beq_eq_false_iff_ne.mpr e).symm
theorem zLa (a b:Str):decide ((Sum.inr a:Key)=Sum.inr b)=decide (a=b):=by
 by_cases e:a=b
 ·subst e;simp
 ·have h:¬(Sum.inr a:Key)=Sum.inr b:=λ q=>e (Sum.inr.inj q)
  rw[decide_eq_false h,decide_eq_false e]
theorem zLc (a:Int) (b:Str):decide ((Sum.inl a:Key)=Sum.inr b)=false:=decide_eq_false (λ q=>nomatch q)
theorem zLb (a:Str) (b:Int):decide ((Sum.inr a:Key)=Sum.inl b)=false:=decide_eq_false (λ q=>nomatch q)
noncomputable def zAo (prog:Program) (w:World):PySem.KeyKind prog w Key where
 is:=keyIs
 hash:=keyH w
 inj:=λ v a b ha hb=>by
  rcases zAw ha with ⟨i,t,rfl,rfl⟩|⟨x,t,rfl,rfl⟩
  ·rcases zAw hb with ⟨j,u,rfl,e⟩|⟨y,u,rfl,e⟩
   ·injection e with e1 _;rw[e1]
   ·exact nomatch e
  ·rcases zAw hb with ⟨j,u,rfl,e⟩|⟨y,u,rfl,e⟩
   ·exact nomatch e
   ·injection e with e1 _;rw[e1]
 byValue:=λ k v h=>by
  rcases zAw h with ⟨i,t,rfl,rfl⟩|⟨x,t,rfl,rfl⟩<;>rfl
 pyHash:=λ hv h=>by
  rcases zAw hv with ⟨i,t,rfl,rfl⟩|⟨x,t,rfl,rfl⟩
  ·exact wpAny_pyHash_int h
  ·exact wpAny_pyHash_str h
 eqBool:=λ hu hv h=>by
  rcases zAw hu with ⟨i,t,rfl,rfl⟩|⟨x,t,rfl,rfl⟩
  ·rcases zAw hv with ⟨j,u,rfl,rfl⟩|⟨y,u,rfl,rfl⟩
   ·rw[zLd] at h;exact wpAny_eqBool_int h
   ·rw[zLc] at h;exact SeqAt.EqAt.int_str i t y u _ _ _ _ h
  ·rcases zAw hv with ⟨j,u,rfl,rfl⟩|⟨y,u,rfl,rfl⟩
   ·rw[zLb] at h;exact SeqAt.EqAt.str_int x t j u _ _ _ _ h
   ·rw[zLa] at h;exact wpAny_eqBool_str h
 «strs»:=λ k x t v h=>by
  rcases zAw h with ⟨i,u,rfl,e⟩|⟨y,u,rfl,e⟩
  ·exact nomatch e
  ·injection e with e1 _
   subst e1;cases v<;>rfl
theorem zFm (prog:Program) (w:World) (i:Int) (t:Tok):(zAo prog w).is (.inl i) (.int i t)=true:=zDh i t
theorem zFl (prog:Program) (w:World) (x:Str) (t:Tok):(zAo prog w).is (.inr x) (.str x t)=true:=zDg x t
inductive V where
 |non|bl (b:Bool)|int (i:Int)|str (x:Str)|byt (b:Array UInt8)|flt (b:UInt64)|ref (a:Addr)|ty (n:String)
 deriving DecidableEq
def RelV:V->Value->Prop
 |.non,u=>u=Value.none
 |.bl b,u=>u=Value.bool b
 |.int i,u=>∃t,u=Value.int i t
 |.str x,u=>∃t,u=Value.str x t
 |.byt b,u=>∃t,u=Value.bytes b t
 |.flt b,u=>∃t,u=Value.float b t
 |.ref a,u=>u=Value.ref a
 |.ty n,u=>u=Value.type n
abbrev Vals:List V->List Value->Prop:=Paired RelV
theorem Vals.length {xs:List V}{us:List Value}(r:Vals xs us):xs.length=us.length:=Paired.length r
theorem Vals.get {xs:List V}{us:List Value}{i:Nat}{x:V}(h:Vals xs us):xs[i]?=some x->∃u,us[i]?=some u/\RelV x u:=by
 induction h generalizing i with
 |nil=>exact λ e=>nomatch e
 |cons h t ih=>cases i with
  |zero=>exact λ e=>⟨_,rfl,by cases e;exact h⟩
  |succ i=>exact λ e=>ih (i:=i) (by simpa using e)
theorem Vals.append {xs ys:List V}{us ws:List Value}(h:Vals xs us) (s:Vals ys ws):Vals (xs++ys) (us++ws):=by
 induction h with
 |nil=>exact s
 |cons r t ih=>exact .cons r ih
theorem Vals.take:∀{xs:List V}{us:List Value}(n:Nat),Vals xs us->Vals (xs.take n) (us.take n)
 |_,_,0,_=>.nil
 |_,_,_+1,.nil=>.nil
 |_,_,n+1,.cons r t=>.cons r (Vals.take n t)
theorem Vals.drop:∀{xs:List V}{us:List Value}(n:Nat),Vals xs us->Vals (xs.drop n) (us.drop n)
 |_,_,0,r=>r
 |_,_,_+1,.nil=>.nil
 |_,_,n+1,.cons _ t=>Vals.drop n t
def RelO:Option V->Option Value->Prop
 |some v,some u=>RelV v u
 |none,none=>True
 |_,_=>False
def KV {κ:Type}:List (κ × V)->List (κ × Value)->Prop:=Paired λ(p:κ × V) (q:κ × Value)=>p.1=q.1/\RelV p.2 q.2
noncomputable def kV:Key->V
 |.inl i=>.int i
 |.inr x=>.str x
inductive HO where
 |lst (xs:List V)
 |tup (xs:List V)
 |dK (kvs:List (Key × V))|dT (kvs:List (List Key × V))
 |set (S:Int->Bool) (n:Nat)
 |ins (C dx:Addr) (fs:List (Str × V))
 |own (x:Addr)
 |xd (fs:List (Str × V))
 |met (f x:Addr)
 |rng (lo hi:Int)
 |frz (o:Obj) (u:HO)
 |tbl (ps:Array Value)
 |ext (φ:Heap->Prop)
abbrev Hp:=Addr->Option HO
noncomputable def upd (H:Hp) (a:Addr) (o:HO):Hp:=λ b=>if b=a then some o else H b
theorem zAA {H:Hp}{a:Addr}{o:HO}:upd H a o a=some o:=by unfold upd;rw[if_pos rfl]
theorem zAJ {H:Hp}{a b:Addr}{o:HO}(h:b≠a):upd H a o b=H b:=by unfold upd;rw[if_neg h]
theorem ne_of {H:Hp}{a b:Addr}{o u:HO}(h:H a=some o) (h':H b=some u) (d:o≠u):a≠b:=by
 intro e;subst e;rw[h] at h';exact d (mI h')
theorem zAI {H:Hp}{a b:Addr}{o:HO}(h:H a=some o) (h':H b=none):a≠b:=by
 intro e;subst e;rw[h] at h';cases h'
section
variable (P:Program) (w:World)
def ObjOk (H:Hp) (h:Heap) (a:Addr):HO->Prop
 |.lst xs=>xs.length<=sizeLine/\∃(its:List Value) (n:Nat),Vals xs its/\h.get? a=some { cls:=.type "list", data:=.seq its.toArray n }
 |.tup xs=>xs.length<=sizeLine/\∃its:List Value,Vals xs its/\IsTup h a its.toArray
 |.dK kvs=>kvs.length<=sizeLine/\(a == sysModules)=false/\∃vs,KV kvs vs/\h.DictOf (zAo P w) a vs
 |.dT kvs=>kvs.length<=sizeLine/\(a == sysModules)=false/\∃xs:List (List Key × Addr × Value),
   Paired (λ(p:List Key × V) (q:List Key × Addr × Value)=>p.1=q.1/\H q.2.1=some (.tup (p.1.map kV))/\RelV p.2 q.2.2) kvs xs /\
   ∃o es ep,h.get? a=some o/\o.ExactDict/\o.data = .dict es ep/\es.toList=xs.map (entryOfKey (tupleKind (zAo P w)))/\(xs.map (·.1)).Nodup
 |.set S n=>h.SetOf (intKind P w) a S n
 |.ins C dx fs=>H dx=some (.own a)/\fs.length<=1000/\dx≠a/\h.get? a=some (W.instObj C dx) /\
   ∃mA,h.Ns1 dx mA/\(∀f,RelO (fs.lookup f) (mA f))/\PySem.Within mA (fs.map (·.1))
 |.own _=>∃o,h.get? a=some o
 |.xd fs=>∃mA,h.Ns1 a mA/\∀f,RelO (fs.lookup f) (mA f)
 |.rng lo hi=>∃t u v,h.get? a=some { cls:=.type "range", data:=.fields #[.int lo t,.int hi u,.int 1 v] }
 |.frz o u=>h.get? a=some o/\ObjOk H h a u
 |.tbl ps=>h.get? a=some { cls:=.none,data:=.fields ps }
 |.met f x=>h.get? a=some (W.methodObj (.ref f) (.ref x))
 |.ext φ=>φ h/\(∃o,h.get? a=some o)/\∀h1 h2:Heap,φ h1->(∀o,h1.get? a=some o->h2.get? a=some o)->φ h2
def HOk (H:Hp) (h:Heap):Prop:=∀a o,H a=some o->ObjOk P w H h a o
end
section
variable {P:Program}{w:World}{H H':Hp}{h h':Heap}{a:Addr}{o:HO}
theorem ObjOk.lt (x:ObjOk P w H h a o):a<h.objs.size:=by
 cases o with
 |lst xs=>obtain⟨_,_,_,_,e⟩:=x;exact lI e
 |tup xs=>obtain⟨_,_,_,p⟩:=x;exact p.lt
 |dK kvs=>obtain⟨_,_,_,_,o,_,_,e,_⟩:=x;exact lI e
 |dT kvs=>obtain⟨_,_,_,_,o,_,_,e,_⟩:=x;exact lI e
 |set S n=>obtain⟨o,_,_,_,e,_⟩:=x;exact lI e
 |ins C dx fs=>obtain⟨_,_,_,e,_⟩:=x;exact lI e
 |own y=>obtain⟨_,e⟩:=x;exact lI e
 |xd fs=>obtain⟨_,⟨_,_,_,e,_⟩,_⟩:=x;exact lI e
 |rng lo hi=>obtain⟨_,_,_,e⟩:=x;exact lI e
 |frz ob u=>obtain⟨e,_⟩:=x;exact lI e
 |tbl ps=>exact lI (show h.get? a=some _ from x)
 |met f y=>exact lI (show h.get? a=some _ from x)
 |ext φ=>obtain⟨_,⟨_,e⟩,_⟩:=x;exact lI e
theorem Paired.mapP {α β:Type}{F G:α->β->Prop}{l₁:List α}{l₂:List β}(h:Paired F l₁ l₂) (f:∀a b,F a b->G a b):Paired G l₁ l₂:=by
 induction h with
 |nil=>exact .nil
 |cons r t ih=>exact .cons (f _ _ r) ih
theorem ObjOk.stay (x:ObjOk P w H h a o) (k:∀b u,(b=a\/H b=some (.own a))->h.get? b=some u->h'.get? b=some u)
  (ho:∀b,H b=some (.own a)->H' b=some (.own a)) (ht:∀b xs,H b=some (.tup xs)->H' b=some (.tup xs)):ObjOk P w H' h' a o:=by
 induction o with
 |lst xs=>obtain⟨z,its,n,r,e⟩:=x;exact⟨z,its,n,r,k _ _ (.inl rfl) e⟩
 |tup xs=>obtain⟨z,its,r,ob,e,c⟩:=x;exact⟨z,its,r,ob,k _ _ (.inl rfl) e,c⟩
 |dK kvs=>obtain⟨z,y,vs,r,ob,es,ep,e,c⟩:=x;exact⟨z,y,vs,r,ob,es,ep,k _ _ (.inl rfl) e,c⟩
 |dT kvs =>
  obtain⟨z,y,xs,r,ob,es,ep,e,c⟩:=x;exact⟨z,y,xs,Paired.mapP r λ p q z=>⟨z.1,ht _ _ z.2.1,z.2.2⟩,ob,es,ep,k _ _ (.inl rfl) e,c⟩
 |set S n=>obtain⟨ob,es,ep,t,e,c⟩:=x;exact⟨ob,es,ep,t,k _ _ (.inl rfl) e,c⟩
 |ins C dx fs =>
  obtain⟨d,z,ne,e,mA,⟨od,es,ep,e2,c⟩,r⟩:=x;exact⟨ho _ d,z,ne,k _ _ (.inl rfl) e,mA,⟨od,es,ep,k _ _ (.inr d) e2,c⟩,r⟩
 |own y=>obtain⟨ob,e⟩:=x;exact⟨ob,k _ _ (.inl rfl) e⟩
 |xd fs=>obtain⟨mA,⟨od,es,ep,e,c⟩,r⟩:=x;exact⟨mA,⟨od,es,ep,k _ _ (.inl rfl) e,c⟩,r⟩
 |rng lo hi=>obtain⟨t,u,v,e⟩:=x;exact⟨t,u,v,k _ _ (.inl rfl) e⟩
 |frz ob u ih=>obtain⟨e,q⟩:=x;exact⟨k _ _ (.inl rfl) e,ih q⟩
 |tbl ps =>
  have e:h.get? a=some { cls:=.none,data:=.fields ps }:=x;show h'.get? a=some { cls:=.none,data:=.fields ps };exact k a _ (.inl rfl) e
 |met f y =>
  have e:h.get? a=some (W.methodObj (.ref f) (.ref y)):=x;show h'.get? a=some (W.methodObj (.ref f) (.ref y));exact k a _ (.inl rfl) e
 |ext φ=>obtain⟨p,⟨o,e⟩,st⟩:=x;exact⟨st _ _ p λ o q=>k _ _ (.inl rfl) q,⟨o,k _ _ (.inl rfl) e⟩,st⟩
theorem HOk.lt (x:HOk P w H h) (e:H a=some o):a<h.objs.size:=(x a o e).lt
theorem HOk.fresh (x:HOk P w H h) (e:h.objs.size<=a):H a=none:=by
 cases q:H a with
 |none=>rfl
 |some u=>exact absurd (lY (x.lt q) e) (Nat.lt_irrefl _)
theorem HOk.kept (x:HOk P w H h) (k:∀b u,h.get? b=some u->h'.get? b=some u):HOk P w H h':=λ a o e =>
 (x a o e).stay (λ b u U q=>k b u q) (λ U q=>q) λ U U q=>q
theorem HOk.laid (x:HOk P w H h) (k:∀b u,h.get? b=some u->h'.get? b=some u) (hp:h.objs.size<=a) (new:ObjOk P w (upd H a o) h' a o):HOk P w (upd H a o) h':=λ b u e=>by
 have hn:=x.fresh hp
 by_cases hb:b=a
 ·subst hb;rw[zAA] at e;cases e;exact new
 ·rw[zAJ hb] at e
  exact(x b u e).stay (λ c v U q=>k c v q) (λ c q=>by rw[zAJ (zAI q hn)];exact q) λ c xs q=>by rw[zAJ (zAI q hn)];exact q
end
def Rd (H:Hp) (a:Addr) (u:HO):Prop:=H a=some u\/∃o,H a=some (.frz o u)
theorem Rd.ok {P:Program}{w:World}{H:Hp}{h:Heap}{a:Addr}{u:HO}(r:Rd H a u) (x:HOk P w H h):ObjOk P w H h a u:=by
 rcases r with r|⟨o,r⟩
 ·exact x a u r
 ·obtain⟨_,q⟩:=x a _ r
  exact q
def Mut:Option HO->Prop
 |some (.lst _)=>True
 |some (.dK _)=>True
 |some (.dT _)=>True
 |some (.set _ _)=>True
 |some (.ins _ _ _)=>True
 |some (.ext _)=>True
 |_=>False
section
variable {P:Program}{w:World}{H:Hp}{h h':Heap}{x e:Addr}{o':HO}
theorem HOk.write (ok:HOk P w H h) (mu:Mut (H x)) (he:e=x\/H e=some (.own x)) (k:∀b u,b≠e->h.get? b=some u->h'.get? b=some u) (heo:∃u,h'.get? e=some u)
  (new:ObjOk P w (upd H x o') h' x o'):HOk P w (upd H x o') h':=λ b u q=>by
 have nown:∀c y,H c=some (.own y)->c≠x:=λ c y r z=>by subst z;rw[r] at mu;exact mu
 have ntup:∀c xs,H c=some (.tup xs)->c≠x:=λ c xs r z=>by subst z;rw[r] at mu;exact mu
 by_cases hb:b=x
 ·subst hb;rw[zAA] at q;cases q;exact new
 ·rw[zAJ hb] at q
  by_cases hbe:b=e
  ·have q':H b=some (.own x):=by
    rcases he with z|z
    ·exact absurd (hbe.trans z) hb
    ·rw[hbe];exact z
   rw[q] at q';cases q';obtain⟨v,hv⟩:=heo;exact⟨v,by rw[hbe];exact hv⟩
  ·refine(ok b u q).stay (λ c v hc r=>k c v ?_ r) (λ c r=>by rw[zAJ (nown c b r)];exact r) λ c xs r=>by rw[zAJ (ntup c xs r)];exact r
   rcases hc with rfl|hc
   ·exact hbe
   ·rintro rfl
    rcases he with z|z
    ·exact nown c b hc z
    ·rw[hc] at z;cases z;exact hb rfl
end
structure Un (fs ex:List Addr) (H H':Hp) (h h':Heap):Prop where
 keep:∀b o,h.get? b=some o->H b=none->b∉fs->b∉ex->h'.get? b=some o
 slot:∀b o,h.get? b=some o->H b=none->b∈fs->b∉ex->∃sl,h'.get? b=some { o with slots:=sl }
 free:∀b o,h.get? b=some o->H b=none->b∉ex->H' b=none
 there:∀b o,h.get? b=some o->b∉ex->∃o',h'.get? b=some o'
 tups:∀b xs,H b=some (.tup xs)->H' b=some (.tup xs)
 frzs:∀b o u,H b=some (.frz o u)->H' b=some (.frz o u)
 tbls:∀b ps,H b=some (.tbl ps)->∃more,H' b=some (.tbl (ps++more))
section
variable {fs fs' ex ex':List Addr}{H H1 H2:Hp}{h h1 h2 h':Heap}{a x e:Addr}{o:HO}
theorem Un.any (u:Un fs ex H H1 h h1) {b:Addr}{ob:Obj}(q:h.get? b=some ob) (n:H b=none) (hx:b∉ex):∃sl,h1.get? b=some { ob with slots:=sl }:=by
 by_cases hb:b∈fs
 ·exact u.slot b ob q n hb hx
 ·exact⟨ob.slots,u.keep b ob q n hb hx⟩
theorem Un.kept (k:∀b u,h.get? b=some u->h'.get? b=some u):Un fs ex H H h h' :=
 ⟨λ b ob q U U U=>k b ob q,λ b ob q U U U=>⟨ob.slots,k b ob q⟩,λ U U U n U=>n,λ b ob q U=>⟨ob,k b ob q⟩,λ U U q=>q,λ U U U q=>q,λ U ps q=>⟨#[],by rw[q];simp⟩⟩
theorem Un.refl:Un fs ex H H h h:=Un.kept λ U U q=>q
theorem Un.laid (k:∀b u,h.get? b=some u->h'.get? b=some u) (hp:h.objs.size<=a) (hn:H a=none):Un fs ex H (upd H a o) h h' where
 keep:=λ b u q U U U=>k b u q
 slot:=λ b u q U U U=>⟨u.slots,k b u q⟩
 free:=λ b u q n U=>by rw[zAJ (Nat.ne_of_lt (Nat.lt_of_lt_of_le (Heap.lt_size q) hp))];exact n
 there:=λ b u q U=>⟨u,k b u q⟩
 tups:=λ b xs q=>by rw[zAJ (zAI q hn)];exact q
 frzs:=λ b u xs q=>by rw[zAJ (zAI q hn)];exact q
 tbls:=λ b ps q=>⟨#[],by rw[zAJ (zAI q hn),q];simp⟩
theorem Un.write (mu:Mut (H x)) (he:e=x\/H e=some (.own x)) (k:∀b u,b≠e->h.get? b=some u->h'.get? b=some u) (heo:∃u,h'.get? e=some u):Un fs ex H (upd H x o) h h':=by
 have hx:∀b,H b=none->b≠x:=λ b n z=>by subst z;rw[n] at mu;exact mu
 have hb:∀b,H b=none->b≠e:=λ b n z=>by
  subst z;rcases he with r|r
  ·exact hx b n r
  ·rw[n] at r;cases r
 have hm:∀b u,H b=some u->¬Mut (some u)->b≠x:=λ b u q nm z=>by subst z;rw[q] at mu;exact nm mu
 refine⟨λ b u q n U U=>k b u (hb b n) q,λ b u q n U U=>⟨u.slots,k b u (hb b n) q⟩,λ b u q n U=>by rw[zAJ (hx b n)];exact n,λ b u q U=>?_,
  λ b xs q=>by rw[zAJ (hm b _ q λ z=>z)];exact q,λ b u xs q=>by rw[zAJ (hm b _ q λ z=>z)];exact q,λ b ps q=>⟨#[],by rw[zAJ (hm b _ q λ z=>z),q];simp⟩⟩
 by_cases hbe:b=e
 ·subst hbe;exact heo
 ·exact⟨u,k b u hbe q⟩
end
noncomputable def trk (h:Heap) (H:Hp):List Addr:=(List.range h.objs.size).filter λ a=>(H a).isSome
noncomputable def hidT (h:Heap) (H:Hp):Heap:=W.hideAll h (trk h H)
theorem zIF (h:Heap) (H:Hp):(hidT h H).objs.size=h.objs.size:=W.hideAll_size _ _
theorem zJF {h:Heap}{H:Hp}{b:Addr}{o:Obj}(e:h.get? b=some o) (n:H b=none):(hidT h H).get? b=some o :=
 W.hideAll_get _ e λ hm=>by
  have q:(H b).isSome=true:=(List.mem_filter.mp hm).2;rw[n] at q;simp at q
theorem zKk {h:Heap}{H:Hp}{b:Addr}{o:Obj}(e:(hidT h H).get? b=some o):h.get? b=some o/\H b=none:=by
 have e':h.get? b=some o:=W.of_hideAll (trk h H) e;refine⟨e',?_⟩;cases q:H b with
 |none=>rfl
 |some x =>
  have hm:b∈trk h H:=List.mem_filter.mpr ⟨List.mem_range.mpr (lI e'),by simp[q]⟩;have z:(hidT h H).get? b=none:=W.hideAll_none (trk h H) hm;rw[z] at e;cases e
noncomputable def zK3 (g h:Heap) (L:Addr):List (Addr × Obj):=(List.range h.objs.size).filterMap λ a=>if a=L\/(g.get? a).isSome=true then none else (h.get? a).map λ o=>(a,o)
noncomputable def rest (g h:Heap) (L d:Addr):List (Addr × Obj):=(zK3 g h L).filter λ p=>decide (p.1≠d)
structure Mod (K:W.Frag) (mg:Str->Option Value) (base:Heap):Prop where
 kin:K.In base
 glob:base.Ns mainGlobals mg
 blt:∃mb,base.Ns builtinsNs mb/\∀x:Str,x ≠ "__name__" -> mb x=bootBuiltins x
 nolimit:base.NoLimit
structure Cx where
 prog:Program
 w:World
 K:W.Frag
 mg:Str->Option Value
 base:Heap
 A:Around
 N:List Str
 s₀:Shared
 H₀:Hp
 env:Env
 outer:List Env
 stack:List Env
 ex:List Addr
 fn:Str->Bool
 calm:Bool
 pn:List (Addr × Obj)
 xe:Value->Shared->Prop
def frs (l:List Env):List Addr:=l.filterMap (·.frame)
abbrev Cx.fs (X:Cx):List Addr:=frs X.outer
def Vis (sc:Scope) (x:Str):Prop:=sc.names.lookup x=some .local\/sc.names.lookup x=some .cell\/sc.names.lookup x=some .free
def Loc (sc:Scope) (x:Str):Prop:=sc.names.lookup x=some .local\/sc.names.lookup x=some .cell
def Look (env:Env) (h:Heap) (m:Str->Option Value) (x:Str) (u:Value):Prop :=
 (env.kindOf x=some .local/\m x=some u)\/((env.kindOf x=some .cell\/env.kindOf x=some .free)/\∃c,env.cells.lookup x=some c/\h.IsCell c (some u))
structure Cx.Ok (X:Cx):Prop where
 mod:Mod X.K X.mg X.base
 kind:X.env.scope.kind = .function
 glob:X.env.globals=mainGlobals
 blt:X.env.builtins=builtinsNs
 above:X.s₀.heap.objs.size<=X.env.locals
 inj:∀x y c,X.env.cells.lookup x=some c->X.env.cells.lookup y=some c->x=y
 has:∀x,(X.env.kindOf x=some .cell\/X.env.kindOf x=some .free)->∃c,X.env.cells.lookup x=some c
 cab:∀x c,X.fn x=true->X.env.cells.lookup x=some c->X.s₀.heap.objs.size<=c
 hd:X.calm=true->X.A.handled=none
 frames:X.A.frames=some X.stack
 stk:X.stack=X.outer\/(X.stack=X.env::X.outer/\X.env.frame=some X.env.locals)
 exf:∀b∈X.ex,b≠X.env.locals/\∀x c,X.env.cells.lookup x=some c->c≠b
 bs:∀b o,X.base.get? b=some o->X.s₀.heap.get? b=some o/\X.H₀ b=none
 bsz:X.base.objs.size<=X.s₀.heap.objs.size
 noex:∀b o,X.base.get? b=some o->b∉X.ex
 exfs:∀b∈X.ex,b∉X.fs
 funs:X.s₀.heap.FunFrames X.base X.outer
 frf:∀b∈X.fs,X.H₀ b=none
structure Inv (X:Cx) (jP:List (Addr × Obj)) (σ:List (Option V)) (H:Hp) (s:Shared):Prop where
 ok:X.Ok
 os:s.os=X.s₀.os
 bare:AllBare s.gens
 base:Un X.fs X.ex X.H₀ H X.s₀.heap s.heap
 loc:∃m,s.heap.Ns X.env.locals m/\∀(i:Nat) (x:Str) (v:V),X.N[i]?=some x->σ[i]?=some (some v)->Vis X.env.scope x->∃u,RelV v u/\Look X.env s.heap m x u
 cell:∀x c,X.env.cells.lookup x=some c->∃v,s.heap.IsCell c v
 free:H X.env.locals=none
 freeC:∀x c,X.env.cells.lookup x=some c->H c=none
 pin:∀p∈X.pn++jP,s.heap.get? p.1=some p.2/\H p.1=none/\p.1≠X.env.locals/\p.1∉X.fs/\∀v,p.2.data ≠ .cell v
 hok:HOk X.prog X.w H s.heap
 len:σ.length=X.N.length
section
variable {X:Cx}{jP:List (Addr × Obj)}{σ:List (Option V)}{H H':Hp}{s:Shared}{h':Heap}
theorem Cx.Ok.nofr (ok:X.Ok) {b:Addr}{o:Obj}(e:X.base.get? b=some o):b∉X.fs:=λ hb=>by
 have:=(ok.funs.mem hb).1;rw[e] at this;cases this
theorem Inv.bs (I:Inv X jP σ H s):∀b o,X.base.get? b=some o->s.heap.get? b=some o/\H b=none:=λ b o e =>
 ⟨I.base.keep b o (I.ok.bs b o e).1 (I.ok.bs b o e).2 (I.ok.nofr e) (I.ok.noex b o e),I.base.free b o (I.ok.bs b o e).1 (I.ok.bs b o e).2 (I.ok.noex b o e)⟩
theorem Inv.bk (I:Inv X jP σ H s):∀b o,X.base.get? b=some o->s.heap.get? b=some o:=λ b o e=>(I.bs b o e).1
theorem Inv.mod (I:Inv X jP σ H s):Mod X.K X.mg X.base:=I.ok.mod
theorem Inv.kIn (I:Inv X jP σ H s):X.K.In s.heap:=I.ok.mod.kin.keeps I.bk
theorem Inv.lt (I:Inv X jP σ H s):X.env.locals<s.heap.objs.size:=let ⟨_,hn,_⟩:=I.loc;hn.lt
theorem Inv.sz (I:Inv X jP σ H s):X.s₀.heap.objs.size<=s.heap.objs.size:=mK I.ok.above (Nat.le_of_lt I.lt)
theorem Inv.nofs (I:Inv X jP σ H s) {a:Addr}(h:s.heap.objs.size<=a):a∉X.fs:=λ hb=>by
 obtain⟨_,o,ho,_⟩:=I.ok.funs.mem hb;exact absurd (lY (lI ho) (mK I.sz h)) (Nat.lt_irrefl _)
theorem Inv.cne (I:Inv X jP σ H s):∀x c,X.env.cells.lookup x=some c->c≠X.env.locals:=λ x c e z=>by
 obtain⟨v,o,ho,hd⟩:=I.cell x c e;obtain⟨m,⟨o',es,ep,ho',hd',_⟩,_⟩:=I.loc;rw[z,ho'] at ho;cases ho;rw[hd'] at hd;cases hd
theorem Inv.funs (I:Inv X jP σ H s):s.heap.FunFrames X.base X.outer:=by
 have all:∀(l:List Env),(∀b∈frs l,b∈X.fs)->X.s₀.heap.FunFrames X.base l->s.heap.FunFrames X.base l:=by
  intro l
  induction l with
  |nil=>intro _ _;trivial
  |cons env r ih =>
   intro hs hl;obtain⟨hk,⟨L,o,hf,hn,ho,hd⟩,hr⟩:=hl;have hL:L∈X.fs:=hs L (by unfold frs;rw[List.filterMap_cons,hf];exact lN);obtain⟨sl,e⟩:=I.base.slot L o ho (I.ok.frf L hL) hL λ z=>I.ok.exfs L z hL;exact⟨hk,⟨L,_,hf,hn,e,hd⟩,ih (λ b hb=>hs b (by unfold frs;rw[List.filterMap_cons,hf];exact lO _ hb)) hr⟩
 exact all X.outer (λ U hb=>hb) I.ok.funs
theorem Inv.stack (I:Inv X jP σ H s):s.heap.FunFrames X.base X.stack:=by
 rcases I.ok.stk with e|⟨e,hf⟩
 ·rw[e];exact I.funs
 ·rw[e]
  obtain⟨m,hn,_⟩:=I.loc;refine .cons (by rw[I.ok.kind];decide) hf hn ?_ I.funs;exact Heap.get?_none_of_le (mK I.ok.bsz I.ok.above)
theorem Inv.stkSub (I:Inv X jP σ H s):∀b∈frs X.stack,b∈X.env.locals::X.fs:=λ b hb=>by
 rcases I.ok.stk with e|⟨e,hf⟩
 ·rw[e] at hb;exact lO _ hb
 ·rw[e] at hb
  unfold frs at hb;rw[List.filterMap_cons,hf] at hb;exact hb
theorem Inv.stkFree (I:Inv X jP σ H s):∀b∈frs X.stack,H b=none:=λ b hb=>by
 rcases lM.mp (I.stkSub b hb) with e|hb
 ·rw[e];exact I.free
 ·obtain⟨_,o,ho,_⟩:=I.ok.funs.mem hb
  exact I.base.free b o ho (I.ok.frf b hb) λ z=>I.ok.exfs b z hb
theorem Inv.step {g':Array GenState}{t':Nat}{d':Drawn}{ch:List Addr}(I:Inv X jP σ H s)
  (hch:∀b∈ch,(b∈X.ex\/X.s₀.heap.objs.size<=b)/\b≠X.env.locals/\(∀x c,X.env.cells.lookup x=some c->c≠b)/\∀p∈X.pn++jP,p.1≠b)
  (keep:∀b o,b≠X.env.locals->b∉X.fs->b∉ch->s.heap.get? b=some o->H b=none->h'.get? b=some o)
  (slot:∀b o,b≠X.env.locals->b∈X.fs->b∉ch->s.heap.get? b=some o->H b=none->∃sl,h'.get? b=some { o with slots:=sl }) (free:∀b o,b∉ch->s.heap.get? b=some o->H b=none->H' b=none)
  (there:∀b o,b∉ch->s.heap.get? b=some o->∃o',h'.get? b=some o')
  (tups:∀b xs,H b=some (.tup xs)->H' b=some (.tup xs)) (frzs:∀b o u,H b=some (.frz o u)->H' b=some (.frz o u)) (tbls:∀b ps,H b=some (.tbl ps)->∃more,H' b=some (.tbl (ps++more)))
  (ns:∀m,s.heap.Ns X.env.locals m->h'.Ns X.env.locals m) (hok:HOk X.prog X.w H' h') (hg:AllBare g') :
  Inv X jP σ H' { s with heap:=h',gens:=g',drawn:=d',toks:=t' }:=by
 have neL:∀b o,X.s₀.heap.get? b=some o->b≠X.env.locals:=λ b o e=>lQ (lY (lI e) I.ok.above)
 have neC:∀b o,X.s₀.heap.get? b=some o->b∉X.ex->b∉ch:=λ b o e hx hb=>by
  rcases (hch b hb).1 with z|z
  ·exact hx z
  ·exact absurd (lY (lI e) z) (Nat.lt_irrefl _)
 have cellK:∀x c,X.env.cells.lookup x=some c->∀v,s.heap.IsCell c v->h'.IsCell c v:=λ x c e v ⟨o,ho,hd⟩=>by
  have nch:c∉ch:=λ z=>(hch c z).2.2.1 x c e rfl
  by_cases hc:c∈X.fs
  ·obtain⟨sl,q⟩:=slot c o (I.cne x c e) hc nch ho (I.freeC x c e)
   exact⟨_,q,hd⟩
  ·exact⟨o,keep c o (I.cne x c e) hc nch ho (I.freeC x c e),hd⟩
 refine⟨I.ok,I.os,hg,⟨λ b o e n hb hx=>?_,λ b o e n hb hx=>?_,λ b o e n hx=>?_,λ b o e hx=>?_,λ b xs e=>tups b xs (I.base.tups b xs e),λ b o xs e=>frzs b o xs (I.base.frzs b o xs e),λ b ps e=>?_⟩,?_,λ x c e=>?_,?_,λ x c e=>?_,λ p hp=>?_,hok,I.len⟩
 ·exact keep b o (neL b o e) hb (neC b o e hx) (I.base.keep b o e n hb hx) (I.base.free b o e n hx)
 ·obtain⟨sl,e1⟩:=I.base.slot b o e n hb hx
  obtain⟨sl',e2⟩:=slot b _ (neL b o e) hb (neC b o e hx) e1 (I.base.free b o e n hx);exact⟨sl',e2⟩
 ·obtain⟨o',e1⟩:=I.base.there b o e hx
  exact free b o' (neC b o e hx) e1 (I.base.free b o e n hx)
 ·obtain⟨o',e1⟩:=I.base.there b o e hx
  exact there b o' (neC b o e hx) e1
 ·obtain⟨m1,e1⟩:=I.base.tbls b ps e
  obtain⟨m2,e2⟩:=tbls b _ e1;exact⟨m1++m2,by rw[e2,Array.append_assoc]⟩
 ·obtain⟨m,hn,hl⟩:=I.loc
  refine⟨m,ns m hn,λ i x v e1 e2 e3=>?_⟩;obtain⟨u,r,l⟩:=hl i x v e1 e2 e3;refine⟨u,r,?_⟩;rcases l with l|⟨k,c,e,z⟩
  ·exact .inl l
  ·exact .inr ⟨k,c,e,cellK x c e _ z⟩
 ·obtain⟨v,z⟩:=I.cell x c e
  exact⟨v,cellK x c e v z⟩
 ·obtain⟨m,⟨o,_,_,ho,_⟩,_⟩:=I.loc
  exact free _ o (λ z=>(hch _ z).2.1 rfl) ho I.free
 ·obtain⟨v,o,ho,hd⟩:=I.cell x c e
  exact free c o (λ z=>(hch c z).2.2.1 x c e rfl) ho (I.freeC x c e)
 ·obtain⟨e,n,ne,nf,d⟩:=I.pin p hp
  have nch:p.1∉ch:=λ z=>(hch p.1 z).2.2.2 p hp rfl;exact⟨keep p.1 p.2 ne nf nch e n,free p.1 p.2 nch e n,ne,nf,d⟩
theorem Inv.un {t':Nat}(I:Inv X jP σ H s) (u:Un X.fs [] H H' s.heap h') (hok:HOk X.prog X.w H' h'):Inv X jP σ H' { s with heap:=h',toks:=t' }:=by
 obtain⟨m,⟨o,es,ep,ho,r⟩,_⟩:=id I.loc;obtain⟨sl,hL⟩:=u.any ho I.free (by simp)
 exact I.step (g':=s.gens) (d':=s.drawn) (ch:=[]) (λ U z=>nomatch z) (λ b o U hb U e n=>u.keep b o e n hb (by simp)) (λ b o U hb U e n=>u.slot b o e n hb (by simp)) (λ b o U e n=>u.free b o e n (by simp)) (λ b o U e=>u.there b o e (by simp)) u.tups u.frzs u.tbls (λ m' hm=>by
  obtain⟨o',es',ep',ho',r'⟩:=hm;rw[ho] at ho';cases ho';exact⟨_,es',ep',hL,r'⟩) hok I.bare
theorem Inv.call {g':Array GenState}{t':Nat}{d':Drawn}{ch:List Addr}(I:Inv X jP σ H s) (u:Un (frs X.stack) ch H H' s.heap h') (hok:HOk X.prog X.w H' h') (hg:AllBare g')
  (hch:∀b∈ch,(b∈X.ex\/X.s₀.heap.objs.size<=b)/\b≠X.env.locals/\(∀x c,X.env.cells.lookup x=some c->c≠b)/\∀p∈X.pn++jP,p.1≠b) :
  Inv X jP σ H' { s with heap:=h',gens:=g',drawn:=d',toks:=t' }:=by
 obtain⟨m,⟨o,es,ep,ho,r⟩,_⟩:=id I.loc;obtain⟨sl,hL⟩:=u.any ho I.free λ z=>(hch _ z).2.1 rfl
 exact I.step (ch:=ch) hch (λ b o hL hb hc e n=>u.keep b o e n (λ z=>(lM.mp (I.stkSub b z)).elim hL hb) hc) (λ b o U U hc e n=>u.any e n hc) (λ b o hc e n=>u.free b o e n hc) (λ b o hc e=>u.there b o e hc) u.tups u.frzs u.tbls (λ m' hm=>by
  obtain⟨o',es',ep',ho',r'⟩:=hm;rw[ho] at ho';cases ho';exact⟨_,es',ep',hL,r'⟩) hok hg
theorem Inv.turned {t':Nat}{it:Addr}(I:Inv X jP σ H s) (k:∀b o,b≠it->s.heap.get? b=some o->h'.get? b=some o) (hn:H it=none) (hL:it≠X.env.locals)
  (h1:it∈X.ex\/X.s₀.heap.objs.size<=it) (h2:∀x c,X.env.cells.lookup x=some c->c≠it) (h3:∀p∈X.pn++jP,p.1≠it):Inv X jP σ H { s with heap:=h',toks:=t' }:=by
 have nit:∀b u,H b=some u->b≠it:=λ b u e z=>by rw[z,hn] at e;cases e
 refine I.step (g':=s.gens) (d':=s.drawn) (ch:=[it]) (λ b hb=>?_) (λ b o U U hc e U=>k b o (λ z=>hc (by simp[z])) e) (λ b o U U hc e U=>⟨o.slots,k b o (λ z=>hc (by simp[z])) e⟩) (λ U U U U n=>n)
  (λ b o hc e=>⟨o,k b o (λ z=>hc (by simp[z])) e⟩) (λ U U e=>e) (λ U U U e=>e) (λ b ps e=>⟨#[],by rw[e];simp⟩) (λ m hm=>?_) (λ b u e=>?_) I.bare
 ·have e:b=it:=by simpa using hb
  subst e;exact⟨h1,hL,h2,h3⟩
 ·obtain⟨o,es,ep,ho,r⟩:=hm
  exact⟨o,es,ep,k _ o (Ne.symm hL) ho,r⟩
 ·refine(I.hok b u e).stay (λ c v hc q=>k c v ?_ q) (λ U q=>q) λ U U q=>q
  rcases hc with z|z
  ·rw[z];exact nit b u e
  ·exact nit c _ z
theorem Inv.tok (I:Inv X jP σ H s) (t:Nat):Inv X jP σ H { s with toks:=t }:=I.un (h':=s.heap) (t':=t) Un.refl I.hok
theorem Inv.kept {t':Nat}(I:Inv X jP σ H s) (k:∀b u,s.heap.get? b=some u->h'.get? b=some u):Inv X jP σ H { s with heap:=h',toks:=t' }:=I.un (Un.kept k) (I.hok.kept k)
theorem Inv.laid {a:Addr}{o:HO}{t':Nat}(I:Inv X jP σ H s) (k:∀b u,s.heap.get? b=some u->h'.get? b=some u) (hp:s.heap.objs.size<=a) (new:ObjOk X.prog X.w (upd H a o) h' a o) :
  Inv X jP σ (upd H a o) { s with heap:=h',toks:=t' }:=I.un (Un.laid k hp (I.hok.fresh hp)) (I.hok.laid k hp new)
theorem Inv.write {x e:Addr}{o:HO}{t':Nat}(I:Inv X jP σ H s) (mu:Mut (H x)) (he:e=x\/H e=some (.own x)) (k:∀b u,b≠e->s.heap.get? b=some u->h'.get? b=some u) (heo:∃u,h'.get? e=some u)
  (new:ObjOk X.prog X.w (upd H x o) h' x o):Inv X jP σ (upd H x o) { s with heap:=h',toks:=t' }:=I.un (Un.write mu he k heo) (I.hok.write mu he k heo new)
theorem Inv.weak {σ':List (Option V)}(I:Inv X jP σ H s) (hl:σ'.length=σ.length) (w:∀(i:Nat) v,σ'[i]?=some (some v)->σ[i]?=some (some v)):Inv X jP σ' H s :=
 ⟨I.ok,I.os,I.bare,I.base,let ⟨m,hn,hl'⟩:=I.loc;⟨m,hn,λ i x v e1 e2 e3=>hl' i x v e1 (w i v e2) e3⟩,I.cell,I.free,I.freeC,I.pin,I.hok,hl.trans I.len⟩
theorem Inv.pins_of {pins':List (Addr × Obj)}(I:Inv X jP σ H s) (h:∀p∈pins',s.heap.get? p.1=some p.2/\H p.1=none/\p.1≠X.env.locals/\p.1∉X.fs/\∀v,p.2.data ≠ .cell v):Inv X pins' σ H s :=
 ⟨I.ok,I.os,I.bare,I.base,I.loc,I.cell,I.free,I.freeC,λ p hp=>(lK.mp hp).elim (λ z=>I.pin p (mJ _ z)) (h p),I.hok,I.len⟩
theorem zGV {N:List Str}(hN:N.Nodup) {i j:Nat}{x:Str}(a:N[i]?=some x) (b:N[j]?=some x):i=j:=by
 obtain⟨h1,e1⟩:=lJ.mp a;obtain⟨h2,e2⟩:=lJ.mp b;exact(List.getElem_inj hN).mp (e1.trans e2.symm)
theorem zEv {M:Model}{A:Around}{E:XQ}{i:Nat}{x:Str}{v:V}{u:Value}{Q:Unit->Shared->Prop}(I:Inv X jP σ H s) (hN:X.N.Nodup) (hi:X.N[i]?=some x) (hx:Loc X.env.scope x) (r:RelV v u)
  (h:∀s',Inv X jP (σ.set i (some v)) H s'->(∃a,Heap.SameBut a s.heap s'.heap/\(a=X.env.locals\/X.env.cells.lookup x=some a))->Q () s') (hf:X.fn x=true\/X.env.scope.names.lookup x=some .local:=by first|exact .inl rfl|exact .inr rfl|assumption):wpAny M A (storeName X.env x u) Q E s:=by
 obtain⟨m,hn,hl⟩:=id I.loc;have hcls:(X.env.scope.kind == .class || (X.env.scope.kind == .module && X.env.locals != X.env.globals))=false:=by rw[I.ok.kind];rfl
 have hiσ:i<σ.length:=by rw[I.len];exact(lJ.mp hi).1
 have cne:=I.cne
 have tracked:∀{a:Addr}{h':Heap},(∃o,s.heap.get? a=some o/\H a=none)->Heap.SameBut a s.heap h'->HOk X.prog X.w H h':=λ{a h'} ha hs b ob e=>by
  obtain⟨_,_,hfree⟩:=ha;refine(I.hok b ob e).stay (λ c w' hc q=>(hs.2 c ?_).trans q) (λ U q=>q) λ U U q=>q;rintro rfl;rcases hc with rfl|hc
  ·rw[hfree] at e;cases e
  ·rw[hfree] at hc;cases hc
 rcases hx with hk|hk
 ·refine wpAny_storeName_local hk hn (λ h' hn' hs=>?_) hcls
  obtain⟨oL,_,_,hoL,_⟩:=id hn;refine h _ ⟨I.ok,I.os,I.bare,⟨λ b o e n hb hx=>?_,λ b o e n hb hx=>?_,I.base.free,λ b o e hx=>?_,I.base.tups,I.base.frzs,I.base.tbls⟩,⟨_,hn',λ j y v' e1 e2 e3=>?_⟩,λ y c e=>?_,I.free,I.freeC,λ p hp=>?_,tracked ⟨oL,hoL,I.free⟩ hs,by simpa using I.len⟩ ⟨_,hs,.inl rfl⟩
  ·exact(hs.2 b (lQ (lY (lI e) I.ok.above))).trans (I.base.keep b o e n hb hx)
  ·obtain⟨sl,e1⟩:=I.base.slot b o e n hb hx
   exact⟨sl,(hs.2 b (lQ (lY (lI e) I.ok.above))).trans e1⟩
  ·obtain⟨o',e1⟩:=I.base.there b o e hx
   exact⟨o',(hs.2 b (lQ (lY (lI e) I.ok.above))).trans e1⟩
  ·by_cases hj:j=i
   ·subst hj
    rw[hi] at e1;cases e1;rw[List.getElem?_set_self hiσ] at e2;cases e2;exact⟨u,r,.inl ⟨hk,by simp⟩⟩
   ·rw[List.getElem?_set_ne (Ne.symm hj)] at e2
    obtain⟨u',r',q⟩:=hl j y v' e1 e2 e3;refine⟨u',r',?_⟩;rcases q with ⟨k,e⟩|⟨k,c,e,z⟩
    ·refine .inl ⟨k,?_⟩
     have:y≠x:=λ e=>hj (zGV hN e1 (e▸hi));simp[this,e]
    ·exact .inr ⟨k,c,e,z.sameBut hs (cne y c e)⟩
  ·obtain⟨w',z⟩:=I.cell y c e
   exact⟨w',z.sameBut hs (cne y c e)⟩
  ·obtain⟨e,n,ne,nf,d⟩:=I.pin p hp
   exact⟨(hs.2 p.1 ne).trans e,n,ne,nf,d⟩
 ·have hfn:X.fn x=true:=by
   rcases hf with z|z
   ·exact z
   ·rw[z] at hk;cases hk
  obtain⟨c,hc⟩:=I.ok.has x (.inl hk);obtain⟨w',z⟩:=I.cell x c hc;refine wpAny_storeName_cell I.ok.kind hk hc z (λ h' hc' hs=>?_);obtain⟨oc,hoc,hocd⟩:=id z;refine h { s with heap:=h' } ⟨I.ok,I.os,I.bare,⟨λ b o e n hb hx=>?_,λ b o e n hb hx=>?_,I.base.free,λ b o e hx=>?_,I.base.tups,I.base.frzs,I.base.tbls⟩,⟨m,hn.sameBut hs (Ne.symm (cne x c hc)),λ j y v' e1 e2 e3=>?_⟩,λ y c' e=>?_,I.free,I.freeC,λ p hp=>?_,tracked ⟨oc,hoc,I.freeC x c hc⟩ hs,by simpa using I.len⟩ ⟨c,hs,.inr hc⟩
  ·exact(hs.2 b (lQ (lY (lI e) (I.ok.cab x c hfn hc)))).trans (I.base.keep b o e n hb hx)
  ·obtain⟨sl,e1⟩:=I.base.slot b o e n hb hx
   exact⟨sl,(hs.2 b (lQ (lY (lI e) (I.ok.cab x c hfn hc)))).trans e1⟩
  ·obtain⟨o',e1⟩:=I.base.there b o e hx
   exact⟨o',(hs.2 b (lQ (lY (lI e) (I.ok.cab x c hfn hc)))).trans e1⟩
  ·by_cases hj:j=i
   ·subst hj
    rw[hi] at e1;cases e1;rw[List.getElem?_set_self hiσ] at e2;cases e2;exact⟨u,r,.inr ⟨.inl hk,c,hc,hc'⟩⟩
   ·rw[List.getElem?_set_ne (Ne.symm hj)] at e2
    obtain⟨u',r',q⟩:=hl j y v' e1 e2 e3;refine⟨u',r',?_⟩;rcases q with q|⟨k,c',e,z'⟩
    ·exact .inl q
    ·refine .inr ⟨k,c',e,z'.sameBut hs ?_⟩
     rintro rfl;exact hj (zGV hN e1 (I.ok.inj _ _ _ e hc▸hi))
  ·by_cases hcc:c'=c
   ·subst hcc;exact⟨_,hc'⟩
   ·obtain⟨w2,z2⟩:=I.cell y c' e
    exact⟨w2,z2.sameBut hs hcc⟩
  ·obtain⟨e,n,ne,nf,d⟩:=I.pin p hp
   refine⟨(hs.2 p.1 ?_).trans e,n,ne,nf,d⟩;intro q;rw[q,hoc] at e;have q':oc=p.2:=mI e;exact d w' (by rw[←q'];exact hocd)
theorem zF6 {M:Model}{A:Around}{E:XQ}{i:Nat}{x:Str}{v:V}{u:Value}{Q:Unit->Shared->Prop}(I:Inv X jP σ H s) (hN:X.N.Nodup) (hi:X.N[i]?=some x) (hx:Loc X.env.scope x) (r:RelV v u)
  (h:∀s',Inv X jP (σ.set i (some v)) H s'->Q () s') (hf:X.fn x=true\/X.env.scope.names.lookup x=some .local:=by first|exact .inl rfl|exact .inr rfl|assumption):wpAny M A (storeName X.env x u) Q E s :=
 zEv I hN hi hx r (λ s' I' U=>h s' I') hf
theorem Inv.call' {s':Shared}{ch:List Addr}(I:Inv X jP σ H s) (ho:s'.os=s.os) (u:Un (frs X.stack) ch H H' s.heap s'.heap) (hok:HOk X.prog X.w H' s'.heap) (hg:AllBare s'.gens)
  (hch:∀b∈ch,(b∈X.ex\/X.s₀.heap.objs.size<=b)/\b≠X.env.locals/\(∀x c,X.env.cells.lookup x=some c->c≠b)/\∀p∈X.pn++jP,p.1≠b):Inv X jP σ H' s':=by
 obtain⟨h',g',d',t',o'⟩:=s';have e:o'=s.os:=ho;subst e;exact I.call (g':=g') (t':=t') (d':=d') u hok hg hch
end
abbrev XK:=Value->Option Addr->Hp->Prop
abbrev St:=List (Option V)
abbrev VK:=V->Hp->Prop
abbrev TE:=St->Hp->VK->Prop
abbrev TT:=St->Hp->(Bool->Hp->Prop)->Prop
abbrev TA:=St->Hp->(List V->Hp->Prop)->Prop
structure Ends where
 nx:St->Hp->Prop
 rt:VK
 bk:St->Hp->Prop:=λ U U=>False
 ct:St->Hp->Prop:=λ U U=>False
abbrev TS:=Ends->St->Hp->Prop
def EP (X:Cx) (jP:List (Addr × Obj)) (σ:St) (Q:VK) (u:Value) (s':Shared):Prop:=∃v H',Inv X jP σ H' s'/\RelV v u/\Q v H'
def TP (X:Cx) (jP:List (Addr × Obj)) (σ:St) (Q:Bool->Hp->Prop) (b:Bool) (s':Shared):Prop:=∃H',Inv X jP σ H' s'/\Q b H'
def AP (X:Cx) (jP:List (Addr × Obj)) (σ:St) (Q:List V->Hp->Prop) (us:List Value) (s':Shared):Prop:=∃vs H',Inv X jP σ H' s'/\Vals vs us/\Q vs H'
def SP (X:Cx) (jP:List (Addr × Obj)) (D:Ends) (f:Flow) (s':Shared):Prop :=
 match f with
 |.next=>∃σ' H',Inv X jP σ' H' s'/\D.nx σ' H'
 |.brk=>∃σ' H',Inv X jP σ' H' s'/\D.bk σ' H'
 |.cont=>∃σ' H',Inv X jP σ' H' s'/\D.ct σ' H'
 |.ret u=>∃v σ' H',Inv X jP σ' H' s'/\RelV v u/\D.rt v H'
def PE (X:Cx) (e:Expr) (t:TE):Prop :=
 ∀(jP:List (Addr × Obj)) (s:Shared) (σ:St) (H:Hp) (Q:VK),Inv X jP σ H s->t σ H Q->wpAny (model X.prog X.w) X.A (eval e X.env) (EP X jP σ Q) X.xe s
def PT (X:Cx) (e:Expr) (t:TT):Prop :=
 ∀(jP:List (Addr × Obj)) (s:Shared) (σ:St) (H:Hp) (Q:Bool->Hp->Prop),Inv X jP σ H s->t σ H Q->wpAny (model X.prog X.w) X.A (isTrue e X.env (eval e X.env)) (TP X jP σ Q) X.xe s
def PW (X:Cx) (e:Expr) (t:TT):Prop :=
 ∀(whole:Sem Value) (jP:List (Addr × Obj)) (s:Shared) (σ:St) (H:Hp) (Q:Bool->Hp->Prop),Inv X jP σ H s->t σ H Q->wpAny (model X.prog X.w) X.A (isTrue e X.env whole) (TP X jP σ Q) X.xe s
theorem PW.pt {X:Cx}{e:Expr}{t:TT}(h:PW X e t):PT X e t:=h _
def PA (X:Cx) (es:List Expr) (t:TA):Prop :=
 ∀(pos:Pos) (jP:List (Addr × Obj)) (s:Shared) (σ:St) (H:Hp) (Q:List V->Hp->Prop),Inv X jP σ H s->t σ H Q->wpAny (model X.prog X.w) X.A (spliced (backTo pos (starEach es X.env))) (AP X jP σ Q) X.xe s
def PS (X:Cx) (st:Stmt) (t:TS):Prop :=
 ∀(jP:List (Addr × Obj)) (s:Shared) (σ:St) (H:Hp) (D:Ends),Inv X jP σ H s->t D σ H->wpAny (model X.prog X.w) X.A (exec st X.env) (SP X jP D) X.xe s
def PSs (X:Cx) (st:List Stmt) (t:TS):Prop :=
 ∀(jP:List (Addr × Obj)) (s:Shared) (σ:St) (H:Hp) (D:Ends),Inv X jP σ H s->t D σ H->wpAny (model X.prog X.w) X.A (execs st X.env) (SP X jP D) X.xe s
theorem thn {α:Type}{t:Sem α}{Q Q':α->Shared->Prop}{M:Model}{A:Around}{E:XQ}{s:Shared}(h:wpAny M A t Q E s) (hQ:∀a s,Q a s->Q' a s):wpAny M A t Q' E s:=wpAny_mono h hQ λ U U x=>x
section
variable {X:Cx}
inductive tVar (i:Nat) (σ:St) (H:Hp) (Q:VK):Prop
 |mk (v:V) (h:σ[i]?=some (some v)) (q:Q v H)
inductive IsB (Q:Bool->Hp->Prop) (x:V) (H:Hp):Prop
 |mk (c:Bool) (h:x = .bl c) (q:Q c H)
def tC (v:V):TE:=λ U H Q=>Q v H
theorem zLN {i:Nat}{x:Str}{pos:Pos}(hN:X.N[i]?=some x) (hv:Vis X.env.scope x) (hd:(x == ("__debug__" : Str))=false:=by decide) (hcd:(x == ("__classdict__" : Str))=false:=by decide):PE X (.Name x pos) (tVar i):=by
 intro jP s σ H Q I h;obtain⟨v,e,h⟩:=h;obtain⟨m,hn,hl⟩:=I.loc;obtain⟨u,r,l⟩:=hl i x v hN e hv;have fin:EP X jP σ Q u s:=⟨v,H,I,r,h⟩;rcases l with ⟨hk,hm⟩|⟨hk,c,hc,hcell⟩
 ·exact wpAny_Name (wpAny_loadName_local I.ok.kind hk hn hm fin) hd
 ·rcases hk with hk|hk
  ·exact wpAny_Name (wpAny_loadName_cell I.ok.kind hk hc hcell fin) hd
  ·exact wpAny_Name (wpAny_loadName_free I.ok.kind hk hc hcell fin hcd) hd
theorem zAE {i j pos}:PE X (.Constant (.int i) j pos) (tC (.int i)):=λ U U U H U I h=>wpAny_Constant_int ⟨.int i,H,I.tok _,⟨_,rfl⟩,h⟩
theorem pe_bl {b j pos}:PE X (.Constant (.bool b) j pos) (tC (.bl b)):=λ U U U H U I h=>Constant_bool ⟨.bl b,H,I,rfl,h⟩
theorem zDZ {j pos}:PE X (.Constant .none j pos) (tC .non):=λ U U U H U I h=>Constant_none ⟨.non,H,I,rfl,h⟩
theorem zAL {x j pos}:PE X (.Constant (.str x) j pos) (tC (.str x)):=λ U U U H U I h=>Calls.Constant_str ⟨.str x,H,I.tok _,⟨_,rfl⟩,h⟩
def Gl (X:Cx) (x:Str):Prop:=X.env.kindOf x=some .globalImplicit
theorem zFo {E:XQ}{jP:List (Addr × Obj)}{s:Shared}{σ:St}{H:Hp}{x:Str}{u:Value}{pos:Pos}{Q:XQ}(I:Inv X jP σ H s) (hg:Gl X x) (hm:X.mg x=some u) (h:Q u s)
  (hd:(x == ("__debug__" : Str))=false:=by decide):wpAny (model X.prog X.w) X.A (eval (.Name x pos) X.env) Q E s :=
 Calls.Name_function_global I.ok.kind hg (Calls.loadGlobal_global (by rw[I.ok.glob];exact I.mod.glob.keeps I.bk) hm h) hd
theorem zEC {E:XQ}{jP:List (Addr × Obj)}{s:Shared}{σ:St}{H:Hp}{x:Str}{u:Value}{pos:Pos}{Q:XQ}(I:Inv X jP σ H s) (hg:Gl X x) (hm:X.mg x=none) (hv:bootBuiltins x=some u) (h:Q u s)
  (hn:x ≠ "__name__" := by decide) (hd:(x == ("__debug__" : Str))=false:=by decide):wpAny (model X.prog X.w) X.A (eval (.Name x pos) X.env) Q E s:=by
 obtain⟨mb,h1,h2⟩:=I.mod.blt;exact Calls.Name_function_global I.ok.kind hg (Calls.loadGlobal_builtin (by rw[I.ok.glob];exact I.mod.glob.keeps I.bk) hm (by rw[I.ok.blt];exact h1.keeps I.bk) ((h2 x hn).trans hv) h) hd
theorem zB2 {x:Str}{v:V}{u:Value}{pos:Pos}(hg:Gl X x) (hm:X.mg x=some u) (r:RelV v u) (hd:(x == ("__debug__" : Str))=false:=by decide):PE X (.Name x pos) (tC v) :=
 λ U U U H U I h=>zFo I hg hm ⟨v,H,I,r,h⟩ hd
theorem zKS {x:Str}{v:V}{u:Value}{pos:Pos}(hg:Gl X x) (hm:X.mg x=none) (hv:bootBuiltins x=some u) (r:RelV v u) (hn:x ≠ "__name__" := by decide) (hd:(x == ("__debug__" : Str))=false:=by decide):PE X (.Name x pos) (tC v) :=
 λ U U U H U I h=>zEC I hg hm hv ⟨v,H,I,r,h⟩ hn hd
variable {a b:Expr}{ta tb:TE}{pos:Pos}
def tB (t:TE):TT:=λ σ H Q=>t σ H (IsB Q)
theorem zGN {e:Expr}{t:TE}(h:PE X e t) (he:∀whole,isTrue e X.env whole=(do let v ← whole;standAt e.pos;holding [v] (truthy v)):=by intro _;rfl):PT X e (tB t):=by
  intro jP s σ H Q I hw;refine isTrue_plain (thn (h jP s σ H _ I hw) λ v s1 ⟨x,H1,I1,r1,q1⟩=>?_) (he _);obtain⟨d,rfl,q⟩:=q1;cases r1;exact wpAny_truthy_bool ⟨H1,I1,q⟩
variable {tA tB':TT}{rest:List Expr}
def tAnd (t u:TT):TT:=λ σ H Q=>t σ H λ c H1=>if c=true then u σ H1 Q else Q false H1
def tOr (t u:TT):TT:=λ σ H Q=>t σ H λ c H1=>if c=true then Q true H1 else u σ H1 Q
def tNot (t:TT):TT:=λ σ H Q=>t σ H λ c H1=>Q (!c) H1
theorem zCd (ha:PT X a tA):PW X (.BoolOp .And [a] pos) tA:=by
 intro wh jP s σ H Q I h;refine isTrue_and (thn (ha jP s σ H Q I h) λ c s1 e=>?_);cases c with
 |true=>exact isTrue_and_nil e
 |false=>exact e
theorem zD4 (ha:PT X a tA):PW X (.BoolOp .Or [a] pos) tA:=by
 intro wh jP s σ H Q I h;refine isTrue_or (thn (ha jP s σ H Q I h) λ c s1 e=>?_);cases c with
 |false=>exact isTrue_or_nil e
 |true=>exact e
theorem zDV (ha:PT X a tA) (hb:PW X (.BoolOp .And (b::rest) pos) tB'):PW X (.BoolOp .And (a::b::rest) pos) (tAnd tA tB'):=by
 intro wh jP s σ H Q I h;refine isTrue_and (thn (ha jP s σ H _ I h) λ c s1 ⟨H1,I1,q1⟩=>?_);cases c with
 |true=>exact hb wh jP s1 σ H1 Q I1 q1
 |false=>exact⟨H1,I1,q1⟩
theorem pw_or (ha:PT X a tA) (hb:PW X (.BoolOp .Or (b::rest) pos) tB'):PW X (.BoolOp .Or (a::b::rest) pos) (tOr tA tB'):=by
 intro wh jP s σ H Q I h;refine isTrue_or (thn (ha jP s σ H _ I h) λ c s1 ⟨H1,I1,q1⟩=>?_);cases c with
 |true=>exact⟨H1,I1,q1⟩
 |false=>exact hb wh jP s1 σ H1 Q I1 q1
theorem zLJ (ha:PT X a tA):PT X (.UnaryOp .Not a pos) (tNot tA):=by
 intro jP s σ H Q I h;exact isTrue_not (ha jP s σ H (λ c H1=>Q (!c) H1) I h)
def tAndV (ta tb:TE):TE:=λ σ H Q=>ta σ H (IsB λ c H1=>if c=true then tb σ H1 Q else Q (.bl false) H1)
theorem zJX {op} {t:TE}(h:PE X a t):PE X (.BoolOp op [a] pos) t:=λ jP s σ H Q I hw=>BoolOp_one (h jP s σ H Q I hw)
theorem zLQ (ha:PE X a ta) (hb:PE X (.BoolOp .And (b::rest) pos) tb):PE X (.BoolOp .And (a::b::rest) pos) (tAndV ta tb):=by
 intro jP s σ H Q I h;refine BoolOp_and (thn (ha jP s σ H _ I h) λ v s1 ⟨x,H1,I1,r1,q1⟩=>?_);obtain⟨c,rfl,q1⟩:=q1;cases r1;refine wpAny_truthy_bool ?_;cases c with
 |true=>exact hb jP s1 σ H1 Q I1 q1
 |false=>exact⟨.bl false,H1,I1,rfl,q1⟩
def tIf (t:TT) (ta tb:TE):TE:=λ σ H Q=>t σ H λ c H1=>if c=true then ta σ H1 Q else tb σ H1 Q
theorem zGS {c:Expr}(hc:PT X c tA) (ha:PE X a ta) (hb:PE X b tb):PE X (.IfExp c a b pos) (tIf tA ta tb):=by
 intro jP s σ H Q I h;refine wpAny_IfExp (thn (hc jP s σ H _ I h) λ d s1 ⟨H1,I1,q1⟩=>?_);cases d with
 |true=>exact ha jP s1 σ H1 Q I1 q1
 |false=>exact hb jP s1 σ H1 Q I1 q1
end
def SqL (K:W.Frag) (H:Hp) (a:Addr) (xs:List V):Prop :=
 Rd H a (.lst xs) \/
  ∃(o:Obj) (its:Array Value) (n:Nat),K.lookup a=some o/\o.cls = .type "list" /\ o.dict=none/\o.data = .seq its n/\its.size<=sizeLine/\Vals xs its.toList
def SqT (K:W.Frag) (H:Hp) (a:Addr) (xs:List V):Prop :=
 Rd H a (.tup xs) \/
  ∃(o:Obj) (its:Array Value) (n:Nat),K.lookup a=some o/\o.cls = .type "tuple" /\ o.data = .seq its n/\its.size<=sizeLine/\Vals xs its.toList
noncomputable def absV:Value->Option V
 |.none=>some .non
 |.bool b=>some (.bl b)
 |.int i _=>some (.int i)
 |.str x _=>some (.str x)
 |.bytes b _=>some (.byt b)
 |.float b _=>some (.flt b)
 |.ref a=>some (.ref a)
 |.type n=>some (.ty n)
 |_=>none
theorem RelV.abs {x:V}{u:Value}(r:RelV x u):absV u=some x:=by
 cases x with
 |non=>cases r;rfl
 |bl _=>cases r;rfl
 |int _=>obtain⟨t,rfl⟩:=r;rfl
 |str _=>obtain⟨t,rfl⟩:=r;rfl
 |byt _=>obtain⟨t,rfl⟩:=r;rfl
 |flt _=>obtain⟨t,rfl⟩:=r;rfl
 |ref _=>cases r;rfl
 |ty _=>cases r;rfl
theorem RelV.inj {x y:V}{u:Value}(r:RelV x u) (q:RelV y u):x=y:=mI (r.abs.symm.trans q.abs)
theorem Vals.inj {xs ys:List V}{us:List Value}(h:Vals xs us):Vals ys us->xs=ys:=by
 induction h generalizing ys with
 |nil=>intro z;cases z;rfl
 |cons r t ih=>intro z;cases z with|cons r' t'=>rw[r.inj r',ih t']
section
variable {X:Cx}{jP:List (Addr × Obj)}{σ:St}{H:Hp}{s:Shared}{a:Addr}{xs ys:List V}
theorem SqL.of {K:W.Frag}(h:H a=some (.lst xs)):SqL K H a xs:=.inl (.inl h)
theorem SqT.of {K:W.Frag}(h:H a=some (.tup xs)):SqT K H a xs:=.inl (.inl h)
theorem Inv.list (I:Inv X jP σ H s) (h:SqL X.K H a xs):∃its:List Value,Vals xs its/\PlainL s.heap a its.toArray/\xs.length<=sizeLine:=by
 rcases h with h|⟨o,its,n,hk,hc,hd,hs,hz,r⟩
 ·obtain⟨z,its,n,r,e⟩:=h.ok I.hok
  exact⟨its,r,⟨_,n,e,rfl,rfl,rfl⟩,z⟩
 ·refine⟨its.toList,r,⟨o,n,I.kIn a o hk,hc,hd,by simpa using hs⟩,?_⟩
  have e:=r.length;simp only[Array.length_toList] at e;omega
theorem Inv.tuple (I:Inv X jP σ H s) (h:SqT X.K H a xs):∃its:List Value,Vals xs its/\IsTup s.heap a its.toArray/\xs.length<=sizeLine:=by
 rcases h with h|⟨o,its,n,hk,hc,hs,hz,r⟩
 ·obtain⟨z,its,r,p⟩:=h.ok I.hok
  exact⟨its,r,p,z⟩
 ·refine⟨its.toList,r,⟨o,I.kIn a o hk,hc,n,by simpa using hs⟩,?_⟩
  have e:=r.length;simp only[Array.length_toList] at e;omega
theorem Inv.list_inj (I:Inv X jP σ H s) (h:SqL X.K H a xs) (h':SqL X.K H a ys):xs=ys:=by
 obtain⟨its,r,⟨o,n,e,_,_,d⟩,_⟩:=I.list h;obtain⟨its',r',⟨o',n',e',_,_,d'⟩,_⟩:=I.list h';rw[e] at e';cases e';rw[d] at d';injection d' with d1 _
 have:its=its':=by simpa using congrArg Array.toList d1
 subst this;exact r.inj r'
theorem Inv.tuple_inj (I:Inv X jP σ H s) (h:SqT X.K H a xs) (h':SqT X.K H a ys):xs=ys:=by
 obtain⟨its,r,⟨o,e,_,n,d⟩,_⟩:=I.tuple h;obtain⟨its',r',⟨o',e',_,n',d'⟩,_⟩:=I.tuple h';rw[e] at e';cases e';rw[d] at d';injection d' with d1 _
 have:its=its':=by simpa using congrArg Array.toList d1
 subst this;exact r.inj r'
end
abbrev Cx.wish (X:Cx) (E:XQ):Cx:={ X with xe:=E }
abbrev Cx.nox (X:Cx):Cx:=X.wish λ U U=>False
theorem Cx.Ok.wish {X:Cx}(ok:X.Ok) (E:XQ):(X.wish E).Ok :=
 ⟨ok.mod,ok.kind,ok.glob,ok.blt,ok.above,ok.inj,ok.has,ok.cab,ok.hd,ok.frames,ok.stk,ok.exf,ok.bs,ok.bsz,ok.noex,ok.exfs,ok.funs,ok.frf⟩
theorem Cx.Ok.unwish {X:Cx}{E:XQ}(ok:(X.wish E).Ok):X.Ok :=
 ⟨ok.mod,ok.kind,ok.glob,ok.blt,ok.above,ok.inj,ok.has,ok.cab,ok.hd,ok.frames,ok.stk,ok.exf,ok.bs,ok.bsz,ok.noex,ok.exfs,ok.funs,ok.frf⟩
section
variable {X:Cx}{jP:List (Addr × Obj)}{σ:St}{H:Hp}{s:Shared}{E:XQ}
theorem Inv.wish (I:Inv X jP σ H s) (E:XQ):Inv (X.wish E) jP σ H s:=⟨I.ok.wish E,I.os,I.bare,I.base,I.loc,I.cell,I.free,I.freeC,I.pin,I.hok,I.len⟩
theorem Inv.unwish (I:Inv (X.wish E) jP σ H s):Inv X jP σ H s:=⟨I.ok.unwish,I.os,I.bare,I.base,I.loc,I.cell,I.free,I.freeC,I.pin,I.hok,I.len⟩
theorem SP.unwish {D:Ends}{f:Flow}{s':Shared}(h:SP (X.wish E) jP D f s'):SP X jP D f s':=by
 cases f with
 |next=>obtain⟨σ',H',I,q⟩:=h;exact⟨σ',H',I.unwish,q⟩
 |brk=>obtain⟨σ',H',I,q⟩:=h;exact⟨σ',H',I.unwish,q⟩
 |cont=>obtain⟨σ',H',I,q⟩:=h;exact⟨σ',H',I.unwish,q⟩
 |ret u=>obtain⟨v,σ',H',I,r,q⟩:=h;exact⟨v,σ',H',I.unwish,r,q⟩
theorem PSs.nox {st:List Stmt}{t:TS}(h:PSs X.nox st t):PSs X st t:=λ jP s σ H D I hw =>
 wpAny_mono (h jP s σ H D (I.wish _) hw) (λ U U q=>q.unwish) λ U U z=>False.elim z
end
section
variable {X:Cx}{st:Stmt}{rest:List Stmt}{t u:TS}{e:Expr}{te:TE}{pos:Pos}
def tNext:TS:=λ D σ H=>D.nx σ H
def tSeq (t u:TS):TS:=λ D σ H=>t { D with nx:=u D } σ H
theorem zAW:PSs X [] tNext:=λ _ _ σ H _ I h=>wpAny_execs_nil ⟨σ,H,I,h⟩
theorem zAG (h1:PS X st t) (h2:PSs X rest u):PSs X (st::rest) (tSeq t u):=by
 intro jP s σ H D I h;refine wpAny_execs_cons (thn (h1 jP s σ H { D with nx:=u D } I h) λ f s1 q=>?_);cases f with
 |next =>
  obtain⟨σ',H',I',q⟩:=q;exact h2 jP s1 σ' H' D I' q
 |ret v=>exact q
 |brk=>exact q
 |cont=>exact q
theorem zAF (h1:PS X st t):PSs X [st] t:=by
 intro jP s σ H D I h;refine wpAny_execs_cons (thn (h1 jP s σ H D I h) λ f s1 q=>?_);cases f with
 |next=>exact wpAny_execs_nil q
 |ret v=>exact q
 |brk=>exact q
 |cont=>exact q
theorem Inv.quiet {jP:List (Addr × Obj)}{σ:St}{H:Hp}{s:Shared}(I:Inv X jP σ H s):interactive X.env=false:=by simp[interactive,I.ok.kind]
def tDrop (te:TE):TS:=λ D σ H=>te σ H λ U H1=>D.nx σ H1
theorem zA4 (he:PE X e te) (hs:swapsWith e none pos.line X.env=pure false:=by rfl):PS X (.Expr e pos) (tDrop te):=by
 intro jP s σ H D I h;exact wpAny_Expr_any (thn (he jP s σ H _ I h) λ v s1 ⟨x,H1,I1,r1,q1⟩=>⟨σ,H1,I1,q1⟩) I.quiet hs
def tRet (te:TE):TS:=λ D σ H=>te σ H D.rt
theorem zAY (he:PE X e te):PS X (.Return (some e) pos) (tRet te):=by
 intro jP s σ H D I h;exact wpAny_Return_some (thn (he jP s σ H _ I h) λ v s1 ⟨x,H1,I1,r1,q1⟩=>⟨x,σ,H1,I1,r1,q1⟩)
def tRetN:TS:=λ D U H=>D.rt .non H
theorem zKD:PS X (.Return none pos) tRetN:=λ _ _ σ H _ I h=>wpAny_Return_none ⟨.non,σ,H,I,rfl,h⟩
def tIfS (c:TT) (t u:TS):TS:=λ D σ H=>c σ H λ b H1=>if b=true then t D σ H1 else u D σ H1
theorem ps_if {c:Expr}{a b:List Stmt}{tc:TT}(hc:PT X c tc) (ha:PSs X a t) (hb:PSs X b u):PS X (.If c a b pos) (tIfS tc t u):=by
 intro jP s σ H D I h;refine wpAny_If (thn (hc jP s σ H _ I h) λ d s1 ⟨H1,I1,q1⟩=>?_);cases d with
 |true=>exact ha jP s1 σ H1 D I1 q1
 |false=>exact hb jP s1 σ H1 D I1 q1
def zK9:TS:=λ U U U=>False
theorem zA1 {sts:List Stmt}:PSs X sts zK9:=λ U U U U U U h=>h.elim
end
abbrev TG:=V->St->Hp->(St->Hp->Prop)->Prop
abbrev TGs:=List V->St->Hp->(St->Hp->Prop)->Prop
def PG (X:Cx) (target:Expr) (t:TG):Prop :=
 ∀(jP:List (Addr × Obj)) (s:Shared) (σ:St) (H:Hp) (v:V) (u:Value) (Q:St->Hp->Prop),Inv X jP σ H s->RelV v u->t v σ H Q ->
  wpAny (model X.prog X.w) X.A (assign target X.env u) (λ U s'=>∃σ' H',Inv X jP σ' H' s'/\Q σ' H') X.xe s
def PGs (X:Cx) (ts:List Expr) (t:TGs):Prop :=
 ∀(jP:List (Addr × Obj)) (s:Shared) (σ:St) (H:Hp) (vs:List V) (us:List Value) (Q:St->Hp->Prop),Inv X jP σ H s->Vals vs us->t vs σ H Q ->
  wpAny (model X.prog X.w) X.A (assignInOrder ((assignEach ts X.env).map (·.2)) us) (λ U s'=>∃σ' H',Inv X jP σ' H' s'/\Q σ' H') X.xe s
section
variable {X:Cx}{pos:Pos}
def gName (i:Nat):TG:=λ v σ H Q=>Q (σ.set i (some v)) H
theorem zBD {i:Nat}{x:Str}(hN:X.N.Nodup) (hi:X.N[i]?=some x) (hx:Loc X.env.scope x) (hf:X.fn x=true\/X.env.scope.names.lookup x=some .local:=by first|exact .inl rfl|exact .inr rfl|assumption):PG X (.Name x pos) (gName i):=by
 intro jP s σ H v u Q I r h;exact wpAny_assign_Name (zF6 I hN hi hx r (λ s' I'=>⟨_,H,I',h⟩) hf)
theorem pGn {i:Nat}{x:Str}(hN:X.N.Nodup)(hi:X.N[i]?=some x:=by rfl)(hx:Loc X.env.scope x:=by exact Or.inl rfl)(hf:X.fn x=true\/X.env.scope.names.lookup x=some .local:=by first|exact .inl rfl|exact .inr rfl|assumption):PG X (.Name x pos) (gName i):=zBD hN hi hx hf
def gNil:TGs:=λ vs σ H Q=>vs=[]/\Q σ H
inductive gCons (t:TG) (u:TGs) (vs:List V) (σ:St) (H:Hp) (Q:St->Hp->Prop):Prop
 |mk (v:V) (r:List V) (h:vs=v::r) (q:t v σ H λ σ' H'=>u r σ' H' Q)
theorem zCI:PGs X [] gNil:=by
 intro jP s σ H vs us Q I r h;obtain⟨e,h⟩:=h;subst e;cases r;exact assignInOrder_nil ⟨σ,H,I,h⟩
theorem zAs {e:Expr}{es:List Expr}{t:TG}{u:TGs}(h1:PG X e t) (h2:PGs X es u)
  (hs:(assignEach (e::es) X.env).map (·.2)=assign e X.env::(assignEach es X.env).map (·.2):=by rfl):PGs X (e::es) (gCons t u):=by
 intro jP s σ H vs us Q I r h;obtain⟨v,vr,e1,h⟩:=h;subst e1;cases r with
 |cons r rr =>
  rw[hs];refine assignInOrder_cons (thn (h1 jP s σ H _ _ _ I r h) λ _ s1 ⟨σ1,H1,I1,q1⟩=>?_);exact h2 jP s1 σ1 H1 _ _ Q I1 rr q1
def gTup (K:W.Frag) (n:Nat) (t:TGs):TG:=λ v σ H Q=>∃a xs,v = .ref a/\SqT K H a xs/\xs.length=n/\t xs σ H Q
theorem zD8 {es:List Expr}{k:Nat}{t:TGs}{n:Nat}(hc:X.calm=true) (h:PGs X es t)
  (hn:(assignEach es X.env).length=n:=by rfl) (hst:(assignEach es X.env).findIdx? (·.1)=none:=by rfl):PG X (.Tuple es k pos) (gTup X.K n t):=by
 intro jP s σ H v u Q I r hw;obtain⟨a,xs,e1,hq,hl,hw⟩:=hw;subst e1;cases r;obtain⟨its,rv,ht,hz⟩:=I.tuple hq;refine assign_Tuple_tuple (I.ok.hd hc) ht (by simp[hn,←hl,rv.length]) hst λ h' hx=>?_;have I1:Inv X jP σ H { s with heap:=h' }:=I.kept (t':=s.toks) λ b o e=>hx b o (lQ (lI e)) e;exact h jP _ σ H xs _ Q I1 (by simpa using rv) hw
def tAsg (te:TE) (g:TG):TS:=λ D σ H=>te σ H λ x H1=>g x σ H1 D.nx
theorem zLK {tg e:Expr}{te:TE}{g:TG}(he:PE X e te) (hg:PG X tg g) (hs:swapsWithSole [tg] e pos.line X.env=pure false:=by rfl) (hw:swappedStores [tg] e X.env=pure none:=by rfl)
  (h1:(assignEach [tg] X.env).map (·.2)=[assign tg X.env]:=by rfl):PS X (.Assign [tg] e pos) (tAsg te g):=by
 intro jP s σ H D I h;refine wpAny_Assign_stores (thn (he jP s σ H _ I h) λ v s1 ⟨x,H1,I1,r1,q1⟩=>?_) hs hw;rw[h1];exact thn (hg jP s1 σ H1 x v _ I1 r1 q1) λ U s2 q=>q
theorem zD5 {i:Nat}{x:Str}{e:Expr}{te:TE}{pos':Pos}(hN:X.N.Nodup) (hi:X.N[i]?=some x) (hx:Loc X.env.scope x) (he:PE X e te) (hs:swapsWith e (some (.Name x pos')) pos.line X.env=pure false:=by rfl) (hf:X.fn x=true\/X.env.scope.names.lookup x=some .local:=by first|exact .inl rfl|exact .inr rfl|assumption) :
  PS X (.Assign [.Name x pos'] e pos) (tAsg te (gName i)):=by
 intro jP s σ H D I h;refine wpAny_Assign_Name (thn (he jP s σ H _ I h) λ v s1 ⟨y,H1,I1,r1,q1⟩=>?_) hs;exact zF6 I1 hN hi hx r1 (λ s2 I2=>⟨_,H1,I2,q1⟩) hf
theorem pS {i:Nat}{x:Str}{e:Expr}{te:TE}{pos':Pos}(hN:X.N.Nodup)(he:PE X e te)(hi:X.N[i]?=some x:=by rfl)(hx:Loc X.env.scope x:=by exact Or.inl rfl)(hs:swapsWith e (some (.Name x pos')) pos.line X.env=pure false:=by rfl)(hf:X.fn x=true\/X.env.scope.names.lookup x=some .local:=by first|exact .inl rfl|exact .inr rfl|assumption):PS X (.Assign [.Name x pos'] e pos) (tAsg te (gName i)):=zD5 hN hi hx he hs hf
end
section
variable {X:Cx}{pos:Pos}
def zK8 (c:TT) (tb:TS):TS:=λ D σ H=>∃W:Nat->St->Hp->Prop,(∃m,W m σ H)/\∀m σ H,W m σ H ->
 c σ H λ b H1=>if b=true then ∃N:St->Hp->Prop,(∀σ' H',N σ' H'->∃m',m'<m/\W m' σ' H')/\tb { D with nx:=N,ct:=N,bk:=D.nx } σ H1 else D.nx σ H1
theorem zGP {c:Expr}{body:List Stmt}{tc:TT}{tb:TS}(hp:PassesOwn (model X.prog X.w) X.A X.env X.xe) (hc:PT X c tc) (hb:PSs X body tb):PS X (.While c body [] pos) (zK8 tc tb):=by
 intro jP s σ H D I h;obtain⟨W,⟨m0,w0⟩,turn⟩:=h;refine wpAny_While (codeAny_whileLoop (λ n s'=>∃σ' H',Inv X jP σ' H' s'/\W n σ' H') ?_ m0 ⟨σ,H,I,w0⟩);rintro n s1 ⟨σ1,H1,I1,w1⟩;refine wpAny_passesOwn hp (thn (hc jP s1 σ1 H1 _ I1 (turn n σ1 H1 w1)) λ b s2 ⟨H2,I2,q2⟩=>?_);cases b with
 |true =>
  obtain⟨N,hN,q2⟩:=q2;rw[if_pos rfl];refine wpAny_passesOwn hp (thn (hb jP s2 σ1 H2 _ I2 q2) λ f s3 q3=>?_);cases f with
  |next =>
   obtain⟨σ3,H3,I3,n3⟩:=q3;obtain⟨m',hm,w3⟩:=hN σ3 H3 n3;exact⟨m',hm,σ3,H3,I3,w3⟩
  |cont =>
   obtain⟨σ3,H3,I3,n3⟩:=q3;obtain⟨m',hm,w3⟩:=hN σ3 H3 n3;exact⟨m',hm,σ3,H3,I3,w3⟩
  |brk=>exact q3
  |ret v=>exact q3
 |false =>
  rw[if_neg Bool.false_ne_true];exact wpAny_execs_nil ⟨σ1,H2,I2,q2⟩
end
structure It where
 go:Nat->Hp->Prop
 yld:Nat->Hp->V->Hp->Prop
 stop:Nat->Hp->Prop
def FpOk (X:Cx) (jP:List (Addr × Obj)) (H:Hp) (b:Addr):Prop :=
 H b=none/\b≠X.env.locals/\b∉X.fs/\(b∈X.ex\/X.s₀.heap.objs.size<=b)/\(∀x c,X.env.cells.lookup x=some c->c≠b)/\∀p∈X.pn++jP,p.1≠b
theorem Inv.fpOk {X:Cx}{jP:List (Addr × Obj)}{σ:St}{H H':Hp}{s:Shared}{b:Addr}(I:Inv X jP σ H s) (hb:s.heap.objs.size<=b) (hn:H' b=none):FpOk X jP H' b:=by
 refine⟨hn,Nat.ne_of_gt (lY I.lt hb),I.nofs hb,.inr (mK I.sz hb),λ x c e z=>?_,λ p hp z=>?_⟩
 ·obtain⟨v,q⟩:=I.cell x c e
  exact absurd (lY q.lt (by rw[z];exact hb)) (Nat.lt_irrefl _)
 ·exact absurd (lY (lI (I.pin p hp).1) (by rw[z];exact hb)) (Nat.lt_irrefl _)
structure Turn (P:Program) (w:World) (K:W.Frag) (tg:Expr) (J:It) (fp:List Addr) (it:Addr) (tn:Nat->Heap->Prop):Prop where
 mem:it∈fp
 obj:∀i h,tn i h->∀b∈fp,∃o,h.get? b=some o/\∀v,o.data ≠ .cell v
 keep:∀i h h',tn i h->(∀b∈fp,∀o,h.get? b=some o->h'.get? b=some o)->tn i h'
 item:∀(X:Cx),X.prog=P->X.w=w->X.K=K->X.calm=true->∀(i:Nat) (jP:List (Addr × Obj)) (s:Shared) (σ:St) (H:Hp) (E:XQ),Inv X jP σ H s->(∀b∈fp,FpOk X jP H b)->tn i s.heap->J.go i H ->
  wpAny (model P w) X.A (pyNext (.ref it)) (λ r s1=>∃u,r=some u /\
   wpAny (model P w) X.A (letOwnedTupleGo tg (.ref it) u) (λ U s2=>∃x H',Inv X jP σ H' s2/\RelV x u/\J.yld i H x H'/\tn (i+1) s2.heap/\∀b∈fp,H' b=none) E s1) E s
 done:∀(X:Cx),X.prog=P->X.w=w->X.K=K->X.calm=true->∀(i:Nat) (jP:List (Addr × Obj)) (s:Shared) (σ:St) (H:Hp) (E:XQ),Inv X jP σ H s->(∀b∈fp,FpOk X jP H b)->tn i s.heap->J.stop i H ->
  wpAny (model P w) X.A (pyNext (.ref it)) (λ r s1=>r=none/\Inv X jP σ H s1) E s
 self:∀(A:Around) (i:Nat) (s:Shared) (Q:XQ) (E:XQ),tn i s.heap->Q (.ref it) s->wpAny (model P w) A (pyIter (.ref it)) Q E s
abbrev TI:=St->Hp->(It->Hp->Prop)->Prop
def PIE (X:Cx) (jP:List (Addr × Obj)) (σ:St) (tg:Expr) (R:It->Hp->Prop) (itv:Value) (s2:Shared):Prop :=
 ∃(it:Addr) (fp:List Addr) (tn:Nat->Heap->Prop) (J:It) (H':Hp),itv = .ref it/\Inv X jP σ H' s2/\Turn X.prog X.w X.K tg J fp it tn/\tn 0 s2.heap/\(∀b∈fp,FpOk X jP H' b)/\R J H'
def PI (X:Cx) (tg iter:Expr) (wi:TI):Prop :=
 ∀(jP:List (Addr × Obj)) (s:Shared) (σ:St) (H:Hp) (R:It->Hp->Prop),Inv X jP σ H s->wi σ H R ->
  wpAny (model X.prog X.w) X.A (eval iter X.env) (λ v s1=>wpAny (model X.prog X.w) X.A (pyIter v) (PIE X jP σ tg R) X.xe s1) X.xe s
theorem go_of {M:Model}{A:Around}{E:XQ}{s:Shared}{tg:Expr}{it:Addr}{u:Value}{o:Obj}{n:String}{vs:Array Value}{Q:Unit->Shared->Prop}(ho:s.heap.get? it=some o) (hc:o.cls = .type n) (hd:o.data = .fields vs)
    (hn:["enumerate", "zip", "dict_itemiterator", "dict_reverseitemiterator", "odict_iterator", "itertools.zip_longest", "itertools.pairwise"].contains n=false) (hQ:Q () s):wpAny M A (letOwnedTupleGo tg (.ref it) u) Q E s:=by
  unfold letOwnedTupleGo
  cases tg<;>first
    |exact lB hQ
    | (cases u<;>first
        |exact lB hQ
        | (refine lA (wpAny_load ho ?_)
           rw[hc,hd];show wpAny M A (if (["enumerate", "zip", "dict_itemiterator", "dict_reverseitemiterator", "odict_iterator", "itertools.zip_longest", "itertools.pairwise"].contains n && vs[0]? == some (rawInt _))=true then _ else _) Q E s;rw[if_neg (by intro h;rw[hn,Bool.false_and] at h;cases h)];exact lB hQ))
noncomputable def Itl (K:W.Frag) (a:Addr):It :=
 ⟨λ i H=>∃xs x,SqL K H a xs/\xs[i]?=some x,λ i H x H'=>H'=H/\∀xs,SqL K H a xs->xs[i]?=some x,λ i H=>∃xs,SqL K H a xs/\xs.length<=i⟩
noncomputable def Itt (K:W.Frag) (a:Addr):It :=
 ⟨λ i H=>∃xs x,SqT K H a xs/\xs[i]?=some x,λ i H x H'=>H'=H/\∀xs,SqT K H a xs->xs[i]?=some x,λ i H=>∃xs,SqT K H a xs/\xs.length<=i⟩
noncomputable def Itr (lo:Int) (n:Nat):It:=⟨λ i U=>i<n,λ i H x H'=>H'=H/\x = .int (lo+i),λ i U=>n<=i⟩
theorem zHI {P:Program}{w:World}{K:W.Frag}{tg:Expr}(a it:Addr):Turn P w K tg (Itl K a) [it] it (λ i h=>h.IsListIter it a i) where
 mem:=by simp
 obj:=λ i h st b hb=>by
  have e:b=it:=by simpa using hb
  subst e;obtain⟨o,e,c,d⟩:=st;exact⟨o,e,λ v z=>by rw[d] at z;cases z⟩
 keep:=λ i h h' st k=>st.at λ o e=>k it (by simp) o e
 item:=by
  intro X hP hw hK hc i jP s σ H E I hf st hg;subst hP hw hK;obtain⟨xs,x,hq,hx⟩:=hg;obtain⟨its,rv,p,hz⟩:=I.list hq;obtain⟨u,hu,ru⟩:=rv.get hx;obtain⟨f0,f1,f2,f3,f4,f5⟩:=hf it (by simp);refine wpAny_pyNext_list_item st p.isList (x:=u) (by simpa using hu) λ h' st' sb=>?_;have I1:Inv X jP σ H { s with heap:=h' }:=I.turned (t':=s.toks) (λ b o hb e=>(sb.2 b hb).trans e) f0 f1 f3 f4 f5;obtain⟨o,e,c,d⟩:=id st';exact⟨u,rfl,go_of (s:={ s with heap:=h' }) e c d (by decide) ⟨x,H,I1,ru,⟨rfl,λ ys hy=>by rw[I.list_inj hy hq];exact hx⟩,st',λ b hb=>(hf b hb).1⟩⟩
 done:=by
  intro X hP hw hK hc i jP s σ H E I hf st hg;subst hP hw hK;obtain⟨xs,hq,hx⟩:=hg;obtain⟨its,rv,p,hz⟩:=I.list hq;obtain⟨f0,f1,f2,f3,f4,f5⟩:=hf it (by simp);have hl:=rv.length;exact wpAny_pyNext_list_end (I.ok.hd hc) st p.isList (by simp;omega) λ h' eb=>⟨rfl,I.turned (t':=s.toks) (λ b o hb e=>eb b o hb e) f0 f1 f3 f4 f5⟩
 self:=λ U U U U U st h=>wpAny_pyIter_listiter st h
theorem zGi {P:Program}{w:World}{K:W.Frag}{tg:Expr}(a it:Addr):Turn P w K tg (Itt K a) [it] it (λ i h=>h.IsTupleIter it a i) where
 mem:=by simp
 obj:=λ i h st b hb=>by
  have e:b=it:=by simpa using hb
  subst e;obtain⟨o,e,c,d⟩:=st;exact⟨o,e,λ v z=>by rw[d] at z;cases z⟩
 keep:=λ i h h' st k=>st.at λ o e=>k it (by simp) o e
 item:=by
  intro X hP hw hK hc i jP s σ H E I hf st hg;subst hP hw hK;obtain⟨xs,x,hq,hx⟩:=hg;obtain⟨its,rv,p,hz⟩:=I.tuple hq;obtain⟨u,hu,ru⟩:=rv.get hx;obtain⟨f0,f1,f2,f3,f4,f5⟩:=hf it (by simp);refine wpAny_pyNext_tuple_item st (show s.heap.IsTuple a its.toArray from p) (x:=u) (by simpa using hu) λ h' st' sb=>?_;have I1:Inv X jP σ H { s with heap:=h' }:=I.turned (t':=s.toks) (λ b o hb e=>(sb.2 b hb).trans e) f0 f1 f3 f4 f5;obtain⟨o,e,c,d⟩:=id st';exact⟨u,rfl,go_of (s:={ s with heap:=h' }) e c d (by decide) ⟨x,H,I1,ru,⟨rfl,λ ys hy=>by rw[I.tuple_inj hy hq];exact hx⟩,st',λ b hb=>(hf b hb).1⟩⟩
 done:=by
  intro X hP hw hK hc i jP s σ H E I hf st hg;subst hP hw hK;obtain⟨xs,hq,hx⟩:=hg;obtain⟨its,rv,p,hz⟩:=I.tuple hq;obtain⟨f0,f1,f2,f3,f4,f5⟩:=hf it (by simp);have hl:=rv.length;exact wpAny_pyNext_tuple_end (I.ok.hd hc) st (show s.heap.IsTuple a its.toArray from p) (by simp;omega) λ h' eb=>⟨rfl,I.turned (t':=s.toks) (λ b o hb e=>eb b o hb e) f0 f1 f3 f4 f5⟩
 self:=λ U U U U U st h=>wpAny_pyIter_tupleiter st h
theorem zGj {P:Program}{w:World}{K:W.Frag}{tg:Expr}(it:Addr) (lo:Int) (n:Nat):Turn P w K tg (Itr lo n) [it] it (λ i h=>IsRangeIter h it (lo+(i:Nat) * 1) ((n:Int) - (i:Nat)) 1) where
 mem:=by simp
 obj:=λ i h st b hb=>by
  have e:b=it:=by simpa using hb
  subst e
  exact⟨_,st,λ v z=>by
   have z':Data.fields _=Data.cell v:=z;cases z'⟩
 keep:=λ i h h' st k=>k it (by simp) _ st
 item:=by
  intro X hP hw hK hc i jP s σ H E I hf st hg;subst hP hw hK;obtain⟨f0,f1,f2,f3,f4,f5⟩:=hf it (by simp);have W:=Walks.range (prog:=X.prog) (w:=X.w) (I.ok.hd hc) it lo 1 n;refine W.item i s _ _ hg st λ v h' tk hv st' kk=>?_;obtain⟨t,rfl⟩:=hv;have I1:Inv X jP σ H { s with heap:=h',toks:=tk }:=I.turned (λ b o hb e=>kk b o (by simpa using hb) e) f0 f1 f3 f4 f5;refine⟨_,rfl,go_of (s:={ s with heap:=h',toks:=tk }) (n := "range_iterator") st' rfl rfl (by decide) ⟨.int (lo+i),H,I1,⟨t,?_⟩,⟨rfl,rfl⟩,st',λ b hb=>(hf b hb).1⟩⟩;rw[Int.mul_one]
 done:=by
  intro X hP hw hK hc i jP s σ H E I hf st hg;subst hP hw hK;obtain⟨f0,f1,f2,f3,f4,f5⟩:=hf it (by simp);exact wpAny_pyNext_range_end (I.ok.hd hc) st (by have:n<=i:=hg;omega) λ h' eb=>⟨rfl,I.turned (t':=s.toks) (λ b o hb e=>eb b o hb e) f0 f1 f3 f4 f5⟩
 self:=λ U U U U U st h=>wpAny_pyIter_rangeiter st h
section
variable {X:Cx}{tg:Expr}
def iList (K:W.Frag) (tl:TE):TI:=λ σ H R=>tl σ H λ x H1=>∃a,x = .ref a/\(∃xs,SqL K H1 a xs)/\R (Itl K a) H1
def iTup (K:W.Frag) (tl:TE):TI:=λ σ H R=>tl σ H λ x H1=>∃a,x = .ref a/\(∃xs,SqT K H1 a xs)/\R (Itt K a) H1
theorem zDY {l:Expr}{tl:TE}(hl:PE X l tl):PI X tg l (iList X.K tl):=by
 intro jP s σ H R I h;refine thn (hl jP s σ H _ I h) λ v s1 ⟨x,H1,I1,r1,q1⟩=>?_;obtain⟨a,e,⟨xs,hq⟩,q⟩:=q1;subst e;cases r1;obtain⟨its,rv,p,hz⟩:=I1.list hq;refine wpAny_pyIter_list p.isList ?_;refine⟨s1.heap.objs.size,[s1.heap.objs.size],_,_,H1,rfl,I1.kept (t':=s1.toks) λ b o e=>lG _ e,zHI a _,⟨_,lH _ rfl,rfl,rfl⟩,λ b hb=>?_,q⟩;have e:b=s1.heap.objs.size:=by simpa using hb
 subst e;exact I1.fpOk (lP _) (I1.hok.fresh (lP _))
theorem zCo {l:Expr}{tl:TE}(hl:PE X l tl):PI X tg l (iTup X.K tl):=by
 intro jP s σ H R I h;refine thn (hl jP s σ H _ I h) λ v s1 ⟨x,H1,I1,r1,q1⟩=>?_;obtain⟨a,e,⟨xs,hq⟩,q⟩:=q1;subst e;cases r1;obtain⟨its,rv,p,hz⟩:=I1.tuple hq;refine wpAny_pyIter_tuple (show s1.heap.IsTuple a its.toArray from p) ?_;refine⟨s1.heap.objs.size,[s1.heap.objs.size],_,_,H1,rfl,I1.kept (t':=s1.toks) λ b o e=>lG _ e,zGi a _,⟨_,lH _ rfl,rfl,rfl⟩,λ b hb=>?_,q⟩;have e:b=s1.heap.objs.size:=by simpa using hb
 subst e;exact I1.fpOk (lP _) (I1.hok.fresh (lP _))
theorem zIk {jP:List (Addr × Obj)}{σ:St}{H:Hp}{s:Shared}{R:It->Hp->Prop}{E:XQ}{lo hi:Int}{t u v:Tok}{tk:Nat}(I:Inv X jP σ H s) (h1:-(2 ^ 62)<=lo) (h2:lo<2 ^ 62) (h3:-(2 ^ 62)<=hi) (h4:hi<2 ^ 62)
  (q:R (Itr lo (hi - lo).toNat) H):wpAny (model X.prog X.w) X.A (pyIter (.ref s.heap.objs.size)) (PIE X jP σ tg R) E { s with heap:=s.heap.push { cls:=.type "range", data:=.fields #[.int lo t,.int hi u,.int 1 v] },toks:=tk }:=by
 refine wpAny_pyIter_range (IsRange.new ..) (small_one h1 h2 h3 h4) ?_;have I1:Inv X jP σ H { s with heap:=s.heap.push { cls:=.type "range", data:=.fields #[.int lo t,.int hi u,.int 1 v] },toks:=tk }:=I.kept λ b o e=>lG _ e
 refine⟨(s.heap.push { cls:=.type "range", data:=.fields #[.int lo t,.int hi u,.int 1 v] }).objs.size,[(s.heap.push { cls:=.type "range", data:=.fields #[.int lo t,.int hi u,.int 1 v] }).objs.size],_,_,H,rfl,
  I1.kept (t':=tk) λ b o e=>lG _ e,zGj _ lo (hi - lo).toNat,?_,λ b hb=>?_,q⟩
 ·have e1:lo+((0:Nat):Int) * 1=lo:=by simp
  have e2:(((hi - lo).toNat:Nat):Int) - ((0:Nat):Int)=Builtin.Range.rangeSize lo hi 1:=by rw[rangeSize_one];split<;>omega
  show IsRangeIter _ _ (lo+((0:Nat):Int) * 1) ((((hi - lo).toNat:Nat):Int) - ((0:Nat):Int)) 1;rw[e1,e2];exact lH _ rfl
 ·have e:b=(s.heap.push { cls:=.type "range", data:=.fields #[.int lo t,.int hi u,.int 1 v] }).objs.size:=by simpa using hb
  subst e;exact I1.fpOk (lP _) (I1.hok.fresh (lP _))
def iRng1 (ta:TA):TI:=λ σ H R=>ta σ H λ vs H1=>∃j:Int,vs=[.int j] /\ -(2 ^ 62)<=j/\j<2 ^ 62/\R (Itr 0 j.toNat) H1
theorem zCp {a:Expr}{ta:TA}{p pos:Pos}(hg:Gl X "range") (hm:X.mg "range" = none) (ha:PA X [a] ta) (hs:starEach [a] X.env=[(false,eval a X.env)]:=by rfl):PI X tg (.Call (.Name "range" p) [a] [] pos) (iRng1 ta):=by
 intro jP s σ H R I h;refine Call_ (zEC I hg hm boot_range (PyProof.Rows.callWith_type1 (thn (ha pos jP s σ H _ I h) λ us s1 ⟨vs,H1,I1,r1,q1⟩=>?_) hs rfl));obtain⟨j,e,q1,q2,q⟩:=q1;subst e;cases r1 with
 |cons r rr =>
  cases rr;obtain⟨t,rfl⟩:=r;exact call_range_1 (zIk I1 (by omega) (by omega) q1 q2 (by simpa using q))
def tFor (wi:TI) (g:TG) (tb:TS):TS:=λ D σ H=>wi σ H λ J H1=>∃W:Nat->Nat->St->Hp->Prop,(∃m,W 0 m σ H1)/\∀i m σ H,W i m σ H ->
 (J.stop i H/\D.nx σ H)\/(J.go i H/\∃N:St->Hp->Prop,(∀σ' H',N σ' H'->∃m',m'<m/\W (i+1) m' σ' H')/\∀x H',J.yld i H x H'->g x σ H' λ σ2 H2=>tb { D with nx:=N,ct:=N,bk:=D.nx } σ2 H2)
noncomputable def zD7 (fp:List Addr) (h:Heap):List (Addr × Obj):=fp.filterMap λ b=>(h.get? b).map λ o=>(b,o)
theorem zBb {fp:List Addr}{h:Heap}{b:Addr}{o:Obj}(hb:b∈fp) (e:h.get? b=some o):(b,o)∈zD7 fp h:=List.mem_filterMap.mpr ⟨b,hb,by rw[e];rfl⟩
theorem zHy {fp:List Addr}{h:Heap}{p:Addr × Obj}(hp:p∈zD7 fp h):p.1∈fp/\h.get? p.1=some p.2:=by
 obtain⟨b,hb,e⟩:=List.mem_filterMap.mp hp;cases q:h.get? b with
 |none=>rw[q] at e;cases e
 |some o =>
  rw[q] at e;have e':(b,o)=p:=mI e;subst e';exact⟨hb,q⟩
theorem Inv.pinned {jP:List (Addr × Obj)}{σ:St}{H:Hp}{s:Shared}{fp:List Addr}(I:Inv X jP σ H s) (hf:∀b∈fp,FpOk X jP H b) (ho:∀b∈fp,∃o,s.heap.get? b=some o/\∀v,o.data ≠ .cell v):Inv X (jP++zD7 fp s.heap) σ H s :=
 I.pins_of λ p hp=>(lK.mp hp).elim (λ z=>I.pin p (lZ _ z)) λ z=>by
  obtain⟨hb,e⟩:=zHy z;obtain⟨f0,f1,f2,_⟩:=hf p.1 hb;obtain⟨o,e',d⟩:=ho p.1 hb;rw[e] at e';cases e';exact⟨e,f0,f1,f2,d⟩
theorem Inv.unpinned {jP pl:List (Addr × Obj)}{σ:St}{H:Hp}{s:Shared}(I:Inv X (jP++pl) σ H s):Inv X jP σ H s:=I.pins_of λ p hp=>I.pin p (lZ _ (mJ _ hp))
theorem zCV {iter:Expr}{body:List Stmt}{wi:TI}{g:TG}{tb:TS}{pos:Pos}(hp:PassesOwn (model X.prog X.w) X.A X.env X.xe) (hc:X.calm=true) (hi:PI X tg iter wi) (hg:PG X tg g) (hb:PSs X body tb)
  (hs:∀x,foldedSetIterable iter X.env x=pure x:=by intro _;rfl):PS X (.For tg iter body [] pos) (tFor wi g tb):=by
 intro jP s σ H D I h;refine wpAny_For (thn (hi jP s σ H _ I h) λ v s1 h1=>thn h1 λ itv s2 h2=>?_) hs;obtain⟨it,fp,tn,J,H2,e,I2,T,st2,f2,W,⟨m0,w0⟩,turn⟩:=h2;subst e;have stat:∀{H':Hp},(∀b∈fp,H' b=none)->∀b∈fp,FpOk X jP H' b:=λ hn b hb=>⟨hn b hb,(f2 b hb).2⟩;refine codeAny_forLoop_any (λ n s'=>∃i σ' H',Inv X jP σ' H' s'/\tn i s'.heap/\(∀b∈fp,H' b=none)/\W i n σ' H') ?_ m0 ⟨0,σ,H2,I2,st2,λ b hb=>(f2 b hb).1,w0⟩;rintro n s3 ⟨i,σ3,H3,I3,st3,fr3,w3⟩;rcases turn i n σ3 H3 w3 with ⟨stop,qn⟩|⟨go,N,hN,step⟩
 ·refine wpAny_passesOwn hp (thn (T.done X rfl rfl rfl hc i jP s3 σ3 H3 X.xe I3 (stat fr3) st3 stop) λ r s4 ⟨hr,I4⟩=>?_)
  subst hr;exact wpAny_execs_nil ⟨σ3,H3,I4,qn⟩
 ·refine wpAny_passesOwn hp (thn (T.item X rfl rfl rfl hc i jP s3 σ3 H3 X.xe I3 (stat fr3) st3 go) λ r s4 ⟨u,hr,h4⟩=>?_)
  subst hr;refine wpAny_passesOwn hp (thn h4 λ _ s5 ⟨x,H5,I5,r5,y5,st5,fr5⟩=>?_);have I5':=I5.pinned (stat fr5) (T.obj _ _ st5);refine wpAny_passesOwn hp (thn (hg _ s5 σ3 H5 x u _ I5' r5 (step x H5 y5)) λ _ s6 ⟨σ6,H6,I6,q6⟩=>?_);refine wpAny_passesOwn hp (thn (hb _ s6 σ6 H6 _ I6 q6) λ f s7 q7=>?_)
  have again:∀{σ7:St}{H7:Hp},Inv X (jP++zD7 fp s5.heap) σ7 H7 s7->N σ7 H7->∃m,m<n/\∃i σ' H',Inv X jP σ' H' s7/\tn i s7.heap/\(∀b∈fp,H' b=none)/\W i m σ' H':=λ{σ7 H7} I7 n7=>by
   obtain⟨m',hm,w7⟩:=hN σ7 H7 n7;refine⟨m',hm,i+1,σ7,H7,I7.unpinned,T.keep _ _ _ st5 λ b hb o e=>(I7.pin (b,o) (lZ _ (lZ _ (zBb hb e)))).1,λ b hb=>?_,w7⟩;obtain⟨o,e,d⟩:=T.obj _ _ st5 b hb;exact(I7.pin (b,o) (lZ _ (lZ _ (zBb hb e)))).2.1
  cases f with
  |next=>obtain⟨σ7,H7,I7,n7⟩:=q7;exact again I7 n7
  |cont=>obtain⟨σ7,H7,I7,n7⟩:=q7;exact again I7 n7
  |brk=>obtain⟨σ7,H7,I7,q7⟩:=q7;exact⟨σ7,H7,I7.unpinned,q7⟩
  |ret v=>obtain⟨x7,σ7,H7,I7,r7,q7⟩:=q7;exact⟨x7,σ7,H7,I7.unpinned,r7,q7⟩
end
theorem zJI {K:W.Frag}{a:Addr}{xs:List V}{g:TG}{tb:TS}{D:Ends}{σ:St}{H:Hp}(Pv:Nat->St->Hp->Prop) (h0:Pv 0 σ H) (hl:∀i σ H,i<=xs.length->Pv i σ H->SqL K H a xs)
  (hs:∀i x σ H,xs[i]?=some x->Pv i σ H->g x σ H λ σ2 H2=>tb { D with nx:=Pv (i+1),ct:=Pv (i+1),bk:=D.nx } σ2 H2) (hd:∀σ H,Pv xs.length σ H->D.nx σ H) :
  ∃W:Nat->Nat->St->Hp->Prop,(∃m,W 0 m σ H)/\∀i m σ H,W i m σ H ->
   ((Itl K a).stop i H/\D.nx σ H)\/((Itl K a).go i H/\∃N:St->Hp->Prop,(∀σ' H',N σ' H'->∃m',m'<m/\W (i+1) m' σ' H')/\∀x H',(Itl K a).yld i H x H'->g x σ H' λ σ2 H2=>tb { D with nx:=N,ct:=N,bk:=D.nx } σ2 H2):=by
 refine⟨λ i m σ H=>m=xs.length - i/\i<=xs.length/\Pv i σ H,⟨xs.length,by simp,lX _,h0⟩,?_⟩;rintro i m σ H ⟨rfl,hi,p⟩;have q:=hl i σ H hi p
 by_cases hlt:i<xs.length
 ·refine .inr ⟨⟨xs,xs[i],q,by simp[hlt]⟩,Pv (i+1),λ σ' H' p'=>⟨xs.length - (i+1),by omega,rfl,hlt,p'⟩,λ x H' y=>?_⟩
  obtain⟨e,y⟩:=y;subst e;exact hs i x σ _ (y xs q) p
 ·have e:i=xs.length:=by omega
  subst e;exact .inl ⟨⟨xs,q,lP _⟩,hd σ H p⟩
theorem zC3 {K:W.Frag}{a:Addr}{xs:List V}{g:TG}{tb:TS}{D:Ends}{σ:St}{H:Hp}(Pv:Nat->St->Hp->Prop) (h0:Pv 0 σ H) (hl:∀i σ H,i<=xs.length->Pv i σ H->SqT K H a xs)
  (hs:∀i x σ H,xs[i]?=some x->Pv i σ H->g x σ H λ σ2 H2=>tb { D with nx:=Pv (i+1),ct:=Pv (i+1),bk:=D.nx } σ2 H2) (hd:∀σ H,Pv xs.length σ H->D.nx σ H) :
  ∃W:Nat->Nat->St->Hp->Prop,(∃m,W 0 m σ H)/\∀i m σ H,W i m σ H ->
   ((Itt K a).stop i H/\D.nx σ H)\/((Itt K a).go i H/\∃N:St->Hp->Prop,(∀σ' H',N σ' H'->∃m',m'<m/\W (i+1) m' σ' H')/\∀x H',(Itt K a).yld i H x H'->g x σ H' λ σ2 H2=>tb { D with nx:=N,ct:=N,bk:=D.nx } σ2 H2):=by
 refine⟨λ i m σ H=>m=xs.length - i/\i<=xs.length/\Pv i σ H,⟨xs.length,by simp,lX _,h0⟩,?_⟩;rintro i m σ H ⟨rfl,hi,p⟩;have q:=hl i σ H hi p
 by_cases hlt:i<xs.length
 ·refine .inr ⟨⟨xs,xs[i],q,by simp[hlt]⟩,Pv (i+1),λ σ' H' p'=>⟨xs.length - (i+1),by omega,rfl,hlt,p'⟩,λ x H' y=>?_⟩
  obtain⟨e,y⟩:=y;subst e;exact hs i x σ _ (y xs q) p
 ·have e:i=xs.length:=by omega
  subst e;exact .inl ⟨⟨xs,q,lP _⟩,hd σ H p⟩
theorem zDk {lo:Int}{n:Nat}{g:TG}{tb:TS}{D:Ends}{σ:St}{H:Hp}(Pv:Nat->St->Hp->Prop) (h0:Pv 0 σ H)
  (hs:∀i σ H,i<n->Pv i σ H->g (.int (lo+i)) σ H λ σ2 H2=>tb { D with nx:=Pv (i+1),ct:=Pv (i+1),bk:=D.nx } σ2 H2) (hd:∀σ H,Pv n σ H->D.nx σ H) :
  ∃W:Nat->Nat->St->Hp->Prop,(∃m,W 0 m σ H)/\∀i m σ H,W i m σ H ->
   ((Itr lo n).stop i H/\D.nx σ H)\/((Itr lo n).go i H/\∃N:St->Hp->Prop,(∀σ' H',N σ' H'->∃m',m'<m/\W (i+1) m' σ' H')/\∀x H',(Itr lo n).yld i H x H'->g x σ H' λ σ2 H2=>tb { D with nx:=N,ct:=N,bk:=D.nx } σ2 H2):=by
 refine⟨λ i m σ H=>m=n - i/\i<=n/\Pv i σ H,⟨n,by simp,lX _,h0⟩,?_⟩;rintro i m σ H ⟨rfl,hi,p⟩
 by_cases hlt:i<n
 ·refine .inr ⟨hlt,Pv (i+1),λ σ' H' p'=>⟨n - (i+1),by omega,rfl,hlt,p'⟩,λ x H' y=>?_⟩
  obtain⟨e,y⟩:=y;subst e y;exact hs i σ _ hlt p
 ·have e:i=n:=by omega
  subst e;exact .inl ⟨lP _,hd σ H p⟩
abbrev R2:=V->V->Hp->VK->Prop
def OpR (X:Cx) (f:Value->Value->Sem Value) (r:R2):Prop :=
 ∀(jP:List (Addr × Obj)) (s:Shared) (σ:St) (H:Hp) (x y:V) (v u:Value) (Q:VK),Inv X jP σ H s->RelV x v->RelV y u->r x y H Q ->
  wpAny (model X.prog X.w) X.A (f v u) (EP X jP σ Q) X.xe s
def CallR (X:Cx) (f:Value) (r:List V->Hp->VK->Prop):Prop :=
 ∀(jP:List (Addr × Obj)) (s:Shared) (σ:St) (H:Hp) (xs:List V) (us:List Value) (Q:VK),Inv X jP σ H s->Vals xs us->r xs H Q ->
  wpAny (model X.prog X.w) X.A (call f us) (EP X jP σ Q) X.xe s
def TruR (X:Cx) (r:V->Hp->(Bool->Hp->Prop)->Prop):Prop :=
 ∀(jP:List (Addr × Obj)) (s:Shared) (σ:St) (H:Hp) (x:V) (v:Value) (Q:Bool->Hp->Prop),Inv X jP σ H s->RelV x v->r x H Q ->
  wpAny (model X.prog X.w) X.A (truthy v) (TP X jP σ Q) X.xe s
def tOp (r:R2) (ta tb:TE):TE:=λ σ H Q=>ta σ H λ x H1=>tb σ H1 λ y H2=>r x y H2 Q
inductive rI (C:Int->Int->Prop) (g:Int->Int->V) (x y:V) (H:Hp) (Q:VK):Prop
 |mk (i j:Int) (hx:x = .int i) (hy:y = .int j) (c:C i j) (q:Q (g i j) H)
inductive rI0 (g:Int->Int->V) (x y:V) (H:Hp) (Q:VK):Prop
 |mk (i j:Int) (hx:x = .int i) (hy:y = .int j) (q:Q (g i j) H)
section
variable {X:Cx}{a b c:Expr}{ta tb tc:TE}{pos:Pos}
theorem binT (ha:PE X a ta) (hb:PE X b tb) {jP:List (Addr × Obj)}{s:Shared}{σ:St}{H:Hp}{R:V->V->Hp->Prop}(I:Inv X jP σ H s)
  (h:ta σ H λ x H1=>tb σ H1 λ y H2=>R x y H2) {Q:XQ}{f:Value->Value->Sem Value}
  (hf:∀v u s2 x y H2,Inv X jP σ H2 s2->RelV x v->RelV y u->R x y H2->wpAny (model X.prog X.w) X.A (f v u) Q X.xe s2) :
  wpAny (model X.prog X.w) X.A (eval a X.env) (λ v s₁=>wpAny (model X.prog X.w) X.A (eval b X.env) (λ u s₂=>wpAny (model X.prog X.w) X.A (f v u) Q X.xe s₂) X.xe s₁) X.xe s:=by
 refine thn (ha jP s σ H _ I h) λ v s1 ⟨x,H1,I1,r1,q1⟩=>?_;refine thn (hb jP s1 σ H1 _ I1 q1) λ u s2 ⟨y,H2,I2,r2,q2⟩=>?_;exact hf v u s2 x y H2 I2 r1 r2 q2
theorem pe_op {op:Operator}{r:R2}(ho:OpR X (binaryOp op) r) (ha:PE X a ta) (hb:PE X b tb):PE X (.BinOp a op b pos) (tOp r ta tb):=by
 intro jP s σ H Q I h;exact wpAny_BinOp (binT ha hb I h λ v u s2 x y H2 I2 rx ry q=>ho jP s2 σ H2 x y v u Q I2 rx ry q)
theorem opI {f:Value->Value->Sem Value}{C:Int->Int->Prop}{g:Int->Int->Int}
  (rule:∀(i j:Int) (t u:Tok) (s:Shared) (Q:XQ) (E:XQ),C i j->Q (.int (g i j) s.toks) { s with toks:=s.toks+1 }->wpAny (model X.prog X.w) X.A (f (.int i t) (.int j u)) Q E s) :
  OpR X f (rI C λ i j=>.int (g i j)):=by
 intro jP s σ H x y v u Q I rx ry h;obtain⟨i,j,rfl,rfl,hc,q⟩:=h;obtain⟨t,rfl⟩:=rx;obtain⟨t',rfl⟩:=ry;exact rule i j t t' s _ _ hc ⟨.int (g i j),H,I.tok _,⟨_,rfl⟩,q⟩
theorem opI0 {f:Value->Value->Sem Value}{g:Int->Int->Int}
  (rule:∀(i j:Int) (t u:Tok) (s:Shared) (Q:XQ) (E:XQ),Q (.int (g i j) s.toks) { s with toks:=s.toks+1 }->wpAny (model X.prog X.w) X.A (f (.int i t) (.int j u)) Q E s) :
  OpR X f (rI0 λ i j=>.int (g i j)):=by
 intro jP s σ H x y v u Q I rx ry h;obtain⟨i,j,rfl,rfl,q⟩:=h;obtain⟨t,rfl⟩:=rx;obtain⟨t',rfl⟩:=ry;exact rule i j t t' s _ _ ⟨.int (g i j),H,I.tok _,⟨_,rfl⟩,q⟩
theorem opB0 {f:Value->Value->Sem Value}{g:Int->Int->Bool}
  (rule:∀(i j:Int) (t u:Tok) (s:Shared) (Q:XQ) (E:XQ),Q (.bool (g i j)) s->wpAny (model X.prog X.w) X.A (f (.int i t) (.int j u)) Q E s) :
  OpR X f (rI0 λ i j=>.bl (g i j)):=by
 intro jP s σ H x y v u Q I rx ry h;obtain⟨i,j,rfl,rfl,q⟩:=h;obtain⟨t,rfl⟩:=rx;obtain⟨t',rfl⟩:=ry;exact rule i j t t' s _ _ ⟨.bl (g i j),H,I,rfl,q⟩
def CDiv (i j:Int):Prop:=0<j/\j<1073741824
def CPow (i j:Int):Prop:=0<=j/\j<=1000000/\i.natAbs<2 ^ 64
def CMul (i j:Int):Prop:=(-(2 ^ 64)<i/\i<2 ^ 64)\/(-(2 ^ 64)<j/\j<2 ^ 64)
theorem CMul.ok {i j:Int}(h:CMul i j):IntMulOk i j:=by
 rcases h with ⟨h1,h2⟩|⟨h1,h2⟩
 ·exact .of_left (intBits_le_64 h1 h2)
 ·exact .of_right (intBits_le_64 h1 h2)
theorem zDB:OpR X (binaryOp .Add) (rI0 λ i j=>.int (i+j)):=opI0 λ U U U U U U U q=>add_int q
theorem zEB:OpR X (binaryOp .Sub) (rI0 λ i j=>.int (i - j)):=opI0 λ U U U U U U U q=>sub_int q
theorem zJZ:OpR X (binaryOp .Mult) (rI CMul λ i j=>.int (i * j)):=opI λ U U U U U U U hc q=>mul_int q hc.ok
theorem zCy:OpR X (binaryOp .FloorDiv) (rI CDiv λ i j=>.int (i / j)):=opI λ i j U U U U U hc q=>by
 have h1:(0:Int)<j:=hc.1;have h2:j<1073741824:=hc.2;exact floordiv_int (by omega) (by rw[Int.fdiv_eq_ediv_of_nonneg i (by omega)];exact q) (.inl (PyProof.noPylong_small (by omega)))
theorem zBI:OpR X (binaryOp .Mod) (rI (λ U j=>0<j) λ i j=>.int (i % j)):=opI λ i j U U U U U hc q=>by
 have h1:(0:Int)<j:=hc;exact mod_int' (by omega) (by rw[Int.fmod_eq_emod_of_nonneg i (by omega)];exact q)
theorem zHq:OpR X (binaryOp .Pow) (rI CPow λ i j=>.int (i ^ j.toNat)):=opI λ U U U U U U U hc q=>pow_int_small hc.1 hc.2.1 hc.2.2 q
end
noncomputable def scal:V->V->Bool
 |.non,.non=>true|.non,.int _=>true|.int _,.non=>true|.non,.bl _=>true|.bl _,.non=>true|.non,.str _=>true|.str _,.non=>true
 |.int _,.int _=>true|.bl _,.bl _=>true|.str _,.str _=>true|.byt _,.byt _=>true
 |.int _,.str _=>true|.str _,.int _=>true|.bl _,.str _=>true|.str _,.bl _=>true
 |_,_=>false
def rEq:R2:=λ x y H Q=>scal x y=true/\Q (.bl (decide (x=y))) H
def rNe:R2:=λ x y H Q=>scal x y=true/\Q (.bl (!decide (x=y))) H
theorem zIN {i j:Int}:decide (V.int i=V.int j)=(i == j):=by
 rw[Bool.eq_iff_iff];simp
theorem zJi {i j:Bool}:decide (V.bl i=V.bl j)=(i == j):=by
 rw[Bool.eq_iff_iff];simp
theorem zIM {i j:Str}:decide (V.str i=V.str j)=(i == j):=by
 rw[Bool.eq_iff_iff];simp
theorem zIO {i j:Array UInt8}:decide (V.byt i=V.byt j)=(i.toList == j.toList):=by
 rw[Bool.eq_iff_iff];cases i;cases j;simp
section
variable {X:Cx}{a b c:Expr}{ta tb tc:TE}{pos:Pos}
theorem zAn {jP:List (Addr × Obj)}{σ:St}{H:Hp}{s:Shared}{Q:VK}{k k':Bool}(I:Inv X jP σ H s) (q:Q (.bl k) H) (e:k=k'):EP X jP σ Q (.bool k') s:=by
 subst e;exact⟨.bl k,H,I,rfl,q⟩
theorem op_eq:OpR X (compareOp .Eq) rEq:=by
 intro jP s σ H x y v u Q I rx ry h;obtain⟨hs,q⟩:=h;cases x with
 |non =>
  cases rx;cases y with
  |non=>cases ry;exact PySem.EqNone.eq_none_none (zAn I q (by simp))
  |bl j=>cases ry;exact PySem.EqNone.eq_none_bool (zAn I q (by simp))
  |int j=>obtain⟨t',rfl⟩:=ry;exact PySem.EqNone.eq_none_int (zAn I q (by simp))
  |str j=>obtain⟨t',rfl⟩:=ry;exact PySem.EqNone.eq_none_str (zAn I q (by simp))
  |_=>exact absurd (show false=true from hs) lV
 |bl i =>
  cases rx;cases y with
  |non=>cases ry;exact PySem.EqNone.eq_bool_none (zAn I q (by simp))
  |bl j=>cases ry;exact eq_bool (zAn I q zJi)
  |str j=>obtain⟨t',rfl⟩:=ry;exact PySem.EqMixed.eq_bool_str (zAn I q (by simp))
  |_=>exact absurd (show false=true from hs) lV
 |int i =>
  obtain⟨t,rfl⟩:=rx;cases y with
  |non=>cases ry;exact PySem.EqNone.eq_int_none (zAn I q (by simp))
  |int j=>obtain⟨t',rfl⟩:=ry;exact eq_int (zAn I q zIN)
  |str j=>obtain⟨t',rfl⟩:=ry;exact PySem.EqMixed.eq_int_str (zAn I q (by simp))
  |_=>exact absurd (show false=true from hs) lV
 |str i =>
  obtain⟨t,rfl⟩:=rx;cases y with
  |non=>cases ry;exact PySem.EqNone.eq_str_none (zAn I q (by simp))
  |bl j=>cases ry;exact PySem.EqMixed.eq_str_bool (zAn I q (by simp))
  |int j=>obtain⟨t',rfl⟩:=ry;exact PySem.EqMixed.eq_str_int (zAn I q (by simp))
  |str j=>obtain⟨t',rfl⟩:=ry;exact eq_str (zAn I q zIM)
  |_=>exact absurd (show false=true from hs) lV
 |byt i =>
  obtain⟨t,rfl⟩:=rx;cases y with
  |byt j=>obtain⟨t',rfl⟩:=ry;exact W.eq_bytes (zAn I q zIO)
  |_=>exact absurd (show false=true from hs) lV
 |_=>cases y<;>exact absurd (show false=true from hs) lV
theorem op_ne:OpR X (compareOp .NotEq) rNe:=by
 intro jP s σ H x y v u Q I rx ry h;obtain⟨hs,q⟩:=h;cases x with
 |non =>
  cases rx;cases y with
  |non=>cases ry;exact PySem.EqNone.ne_none_none (zAn I q (by simp))
  |bl j=>cases ry;exact PySem.EqNone.ne_none_bool (zAn I q (by simp))
  |int j=>obtain⟨t',rfl⟩:=ry;exact PySem.EqNone.ne_none_int (zAn I q (by simp))
  |str j=>obtain⟨t',rfl⟩:=ry;exact PySem.EqNone.ne_none_str (zAn I q (by simp))
  |_=>exact absurd (show false=true from hs) lV
 |bl i =>
  cases rx;cases y with
  |non=>cases ry;exact PySem.EqNone.ne_bool_none (zAn I q (by simp))
  |bl j=>cases ry;exact ne_bool (zAn I q (congrArg not zJi))
  |str j=>obtain⟨t',rfl⟩:=ry;exact PySem.EqMixed.ne_bool_str (zAn I q (by simp))
  |_=>exact absurd (show false=true from hs) lV
 |int i =>
  obtain⟨t,rfl⟩:=rx;cases y with
  |non=>cases ry;exact PySem.EqNone.ne_int_none (zAn I q (by simp))
  |int j=>obtain⟨t',rfl⟩:=ry;exact ne_int (zAn I q (congrArg not zIN))
  |str j=>obtain⟨t',rfl⟩:=ry;exact PySem.EqMixed.ne_int_str (zAn I q (by simp))
  |_=>exact absurd (show false=true from hs) lV
 |str i =>
  obtain⟨t,rfl⟩:=rx;cases y with
  |non=>cases ry;exact PySem.EqNone.ne_str_none (zAn I q (by simp))
  |bl j=>cases ry;exact PySem.EqMixed.ne_str_bool (zAn I q (by simp))
  |int j=>obtain⟨t',rfl⟩:=ry;exact PySem.EqMixed.ne_str_int (zAn I q (by simp))
  |str j=>obtain⟨t',rfl⟩:=ry;exact ne_str (zAn I q (congrArg not zIM))
  |_=>exact absurd (show false=true from hs) lV
 |byt i =>
  obtain⟨t,rfl⟩:=rx;cases y with
  |byt j=>obtain⟨t',rfl⟩:=ry;exact W.ne_bytes (zAn I q (congrArg not zIO))
  |_=>exact absurd (show false=true from hs) lV
 |_=>cases y<;>exact absurd (show false=true from hs) lV
theorem op_lt:OpR X (compareOp .Lt) (rI0 λ i j=>.bl (decide (i<j))):=opB0 λ U U U U U U U q=>lt_int q
theorem op_gt:OpR X (compareOp .Gt) (rI0 λ i j=>.bl (decide (j<i))):=opB0 λ U U U U U U U q=>gt_int q
theorem zE6:OpR X (compareOp .Is) (λ x y H Q=>y = .non/\Q (.bl (decide (x = .non))) H):=by
  intro jP s σ H x y v u Q I rx ry h;obtain⟨rfl,q⟩:=h;cases ry;refine is_none_gen (zAn I q ?_)
  cases x<;>first
    | (cases rx;rfl)
    | (obtain⟨t,rfl⟩:=rx;rfl)
theorem zAU (b:Expr) {op:CmpOp}(h:op ≠ .In:=by decide) (h2:op ≠ .NotIn:=by decide):behindInMarks op b=false:=by
 have e1:(op == CmpOp.In)=false:=by cases op<;>first|rfl|exact absurd rfl h
 have e2:(op == CmpOp.NotIn)=false:=by cases op<;>first|rfl|exact absurd rfl h2
 cases b<;>simp[behindInMarks,e1,e2]
theorem zDa {op:CmpOp}{r:R2}(ho:OpR X (compareOp op) r) (ha:PE X a ta) (hb:PE X b tb) (hm:behindInMarks op b=false):PE X (.Compare a [op] [b] pos) (tOp r ta tb):=by
 intro jP s σ H Q I h;exact wpAny_Compare1 (binT ha hb I h λ v u s2 x y H2 I2 rx ry q=>ho jP s2 σ H2 x y v u Q I2 rx ry q) hm
def tTest (t:TE):TT:=λ σ H Q=>t σ H (IsB Q)
theorem zAN {op:CmpOp}{r:R2}(ho:OpR X (compareOp op) r) (ha:PE X a ta) (hb:PE X b tb) (hm:behindInMarks op b=false):PT X (.Compare a [op] [b] pos) (tTest (tOp r ta tb)):=by
 intro jP s σ H Q I h
 refine wpAny_isTrue_Compare1 (thn (ha jP s σ H _ I h) λ v s1 ⟨x,H1,I1,r1,q1⟩=>thn (hb jP s1 σ H1 _ I1 q1) λ u s2 ⟨y,H2,I2,r2,q2⟩ =>
  thn (ho jP s2 σ H2 x y v u _ I2 r1 r2 q2) λ c s3 ⟨z,H3,I3,r3,k,e,q3⟩=>?_) hm
 subst e;cases r3;exact wpAny_truthy_bool ⟨H3,I3,q3⟩
def TruV (K:W.Frag) (x:V) (H:Hp) (k:Bool):Prop :=
 match x with
 |.non=>k=false
 |.bl b=>k=b
 |.int i=>k=(i != 0)
 |.str y=>y.length<=sizeLine/\k=((y.length:Int) != 0)
 |.byt y=>y.size<=sizeLine/\k=((y.size:Int) != 0)
 |.ref p=>(∃xs,SqL K H p xs/\k=!xs.isEmpty)\/(∃xs,SqT K H p xs/\k=!xs.isEmpty)\/∃kvs,H p=some (.dK kvs)/\k=!kvs.isEmpty
 |_=>False
theorem zG4 {κ:Type}{kvs:List (κ × V)}{vs:List (κ × Value)}(r:KV kvs vs):(!vs.isEmpty)=!kvs.isEmpty:=by
 cases r<;>rfl
theorem zED {xs:List V}{its:List Value}(r:Vals xs its):(!its.toArray.isEmpty)=!xs.isEmpty:=by
 cases r<;>simp
theorem zDd:(sizeLine:Nat)<2 ^ 63:=by rw[sizeLine_eq];decide
theorem zJQ:TruR X (λ x H Q=>∃k,TruV X.K x H k/\Q k H):=by
 intro jP s σ H x v Q I rx h;obtain⟨k,e,q⟩:=h;have hl:=zDd;have hs:sizeLine=16777216:=sizeLine_eq;cases x with
 |non =>
  cases rx;have e':k=false:=e;subst e';exact truthy_none ⟨H,I,q⟩
 |bl b =>
  cases rx;have e':k=b:=e;subst e';exact wpAny_truthy_bool ⟨H,I,q⟩
 |int i =>
  obtain⟨t,rfl⟩:=rx;have e':k=(i != 0):=e;subst e';exact PySem.P.truthy_int ⟨H,I,q⟩
 |str y =>
  obtain⟨t,rfl⟩:=rx;obtain⟨hy,e'⟩:y.length<=sizeLine/\k=((y.length:Int) != 0):=e;subst e';exact PySem.P.truthy_str (by omega) ⟨H,I.tok _,q⟩
 |byt y =>
  obtain⟨t,rfl⟩:=rx;obtain⟨hy,e'⟩:y.size<=sizeLine/\k=((y.size:Int) != 0):=e;subst e';exact W.truthy_bytes (by omega) ⟨H,I.tok _,q⟩
 |ref p =>
  cases rx;have e':(∃xs,SqL X.K H p xs/\k=!xs.isEmpty)\/(∃xs,SqT X.K H p xs/\k=!xs.isEmpty)\/∃kvs,H p=some (.dK kvs)/\k=!kvs.isEmpty:=e;rcases e' with ⟨xs,hx,e'⟩|⟨xs,hx,e'⟩|⟨kvs,hx,e'⟩
  ·subst e'
   obtain⟨its,r,pl,hz⟩:=I.list hx;have hlen:=r.length;exact wpAny_truthy_list pl.isList (by simp only[lS];omega) ⟨H,I.tok _,by rw[zED r];exact q⟩
  ·subst e'
   obtain⟨its,r,pl,hz⟩:=I.tuple hx;have hlen:=r.length;exact truthy_tuple pl (by simp only[lS];omega) ⟨H,I.tok _,by rw[zED r];exact q⟩
  ·subst e'
   obtain⟨hz,hS,vs,r,m⟩:kvs.length<=sizeLine/\(p == sysModules)=false/\∃vs,KV kvs vs/\s.heap.DictOf (zAo X.prog X.w) p vs:=I.hok p _ hx;have hlen:kvs.length=vs.length:=Paired.length r;exact wpAny_truthy_dict hS m (by omega) ⟨H,I.tok _,by rw[zG4 r];exact q⟩
 |_=>exact(show False from e).elim
theorem zGO (ha:PE X a ta) (he:∀whole,isTrue a X.env whole=(do let v ← whole;standAt a.pos;holding [v] (truthy v))) :
    PT X a (λ σ H Q=>ta σ H λ x H'=>∃k,TruV X.K x H' k/\Q k H'):=by
  intro jP s σ H Q I h;exact isTrue_plain (thn (ha jP s σ H _ I h) λ v s1 ⟨x,H1,I1,r1,q1⟩=>zJQ jP s1 σ H1 x v Q I1 r1 q1) (he _)
theorem zGs:OpR X (binaryOp .Add) (λ x y H Q=>∃i j,x = .str i/\y = .str j/\i.length+j.length<=sizeLine/\Q (.str (i++j)) H):=by
 intro jP s σ H x y v u Q I rx ry h;obtain⟨i,j,rfl,rfl,hz,q⟩:=h;obtain⟨t,rfl⟩:=rx;obtain⟨t',rfl⟩:=ry;exact add_str (λ t' tk=>⟨.str (i++j),H,I.tok _,⟨_,rfl⟩,q⟩) hz
theorem vals1 {x:V}{us:List Value}(r:Vals [x] us):∃u,us=[u]/\RelV x u:=by
 cases r with
 |cons r1 r2=>cases r2;exact⟨_,rfl,r1⟩
theorem vals2 {x y:V}{us:List Value}(r:Vals [x,y] us):∃u w',us=[u,w']/\RelV x u/\RelV y w':=by
 cases r with
 |cons r1 r2 =>
  cases r2 with
  |cons r3 r4=>cases r4;exact⟨_,_,rfl,r1,r3⟩
theorem zIV:CallR X (.type "int") (λ xs H Q=>(∃i,xs=[.int i]/\Q (.int i) H)\/∃k,xs=[.bl k]/\Q (.int (if k then 1 else 0)) H):=by
 intro jP s σ H xs us Q I r h;rcases h with ⟨i,rfl,q⟩|⟨k,rfl,q⟩
 ·obtain⟨u,rfl,t,rfl⟩:=vals1 r
  exact call_int_int ⟨.int i,H,I,⟨_,rfl⟩,q⟩
 ·obtain⟨u,rfl,r1⟩:=vals1 r
  cases r1;exact call_int_bool ⟨.int (if k then 1 else 0),H,I.tok _,⟨_,rfl⟩,q⟩
end
structure ObjM (h:Heap) (x dx C:Addr) (mA:Str->Option Value):Prop where
 obj:h.get? x=some (W.instObj C dx)
 ns:h.Ns1 dx mA
 ne:dx≠x
set_option tactic.hygienic true in
theorem zH9 {h:Heap}{dx:Addr}{mA:Str->Option Value}(n:h.Ns1 dx mA):∃od,h.get? dx=some od/\∀name,W.lookIn name od=some (mA name):=by
 obtain⟨o,es,ep,ho,hd,hk,_,hm⟩:=n;refine⟨o,ho,λ name=>?_⟩;have e:=hm name;unfold nsFind findBy at e;rw[←Array.find?_toList] at e;unfold W.lookIn;rw[hd];dsimp only;split
 ·rename_i y q
  rw[q] at e;exact congrArg some e
 ·rename_i q
  rw[q] at e
  have a:es.toList.any (·.refKey)=false:=by
   rw[List.any_eq_false];intro y hy;obtain⟨z,t,hkey⟩:=hk y (Array.mem_toList_iff.mp hy);simp[DictEntry.refKey,hkey]
  have a':¬es.toList.any (·.refKey)=true:=by rw[a];exact lV
  rw[if_neg a'];exact congrArg some e
theorem ObjM.look {h:Heap}{x dx C:Addr}{mA:Str->Option Value}(I:ObjM h x dx C mA):∃od,W.InstAt h x (W.instObj C dx) C (some od)/\∀name,W.lookIn name od=some (mA name) :=
 let ⟨od,ho,hl⟩:=zH9 I.ns
 ⟨od,⟨I.obj,rfl,rfl,ho⟩,hl⟩
section
variable {prog:Program}{w:World}{A:Around}{E:XQ}{s:Shared}{K:W.Frag}{x dx C f:Addr}{mA:Str->Option Value}{name:Str}{v:Value}
theorem zKt {expr:Bool}{Q:XQ}(X:K.In s.heap) (I:ObjM s.heap x dx C mA) (hg:W.plainGet K C name=true) (hh:W.hasDictIn K C=true)
  (ha:W.findIn K (.ref C) name=some none) (hv:mA name=some v) (hv':W.handedIn v=true) (h:Q v { s with toks:=s.toks+1 }) :
  wpAny (model prog w) A (getAttr (.ref x) name expr) Q E s:=by
 obtain⟨od,J,hl⟩:=I.look;exact W.get_value X J (W.plainGet_of hg).1 (W.findObj_own hh ha rfl (by rw[hl,hv])) hv' h
theorem zJH {pl:Sem Bool}{Q:Value × List Value->Shared->Prop}(X:K.In s.heap) (I:ObjM s.heap x dx C mA) (hg:W.plainGet K C name=true)
  (hf:W.findIn K (.ref C) name=some (some (.ref f))) (ht:W.isFn K (.ref f)=true) (hv:mA name=none) (h:Q (.ref f,[.ref x]) s) :
  wpAny (model prog w) A (getMethod (.ref x) name pl) Q E s:=by
 obtain⟨od,J,hl⟩:=I.look;exact W.method_fn X J (W.plainGet_of hg).1 (W.plainGet_of hg).2 hf (beq_iff_eq.mp ht) (by show (W.lookIn name od).map (·.isSome)=some false;rw[hl,hv];rfl) h
theorem zJx {ns:List Str}{Q:Unit->Shared->Prop}(X:K.In s.heap) (I:ObjM s.heap x dx C mA)
  (hs:W.findIn K (.ref C) "__setattr__" = some (some (.builtin "object.__setattr__"))) (hp:W.plainOver K C=true) (ht:W.takerIn K C name=some none) (hh:W.hasDictIn K C=true)
  (hw:PySem.Within mA ns) (hsz:ns.length<=sizeLine)
  (h:∀h',ObjM h' x dx C (λ y=>if y=name then some v else mA y)->Heap.SameBut dx s.heap h'->Q () { s with heap:=h',toks:=s.toks+2 }) :
  wpAny (model prog w) A (setAttr (.ref x) name v) Q E s:=by
 obtain⟨od,J,hl⟩:=I.look;refine W.set_plain X J hs (W.osa_open (s:={ s with toks:=s.toks+1 }) (r:=none) X J hp ht λ b=>?_);obtain⟨cd,hc,hd'⟩:=W.any_some hh;have hx:s.heap.get? x=some ⟨.ref C,some dx,.plain,#[]⟩:=I.obj;refine lA (lB (lA (lA (wpAny_loadPart hx (lA (W.Looks.here (s:={ s with toks:=s.toks+1 }) (W.looks_clsIn X hc) ?_))))));rw[hd'];refine lB (a:=some dx) (lA (lB (lA ?_)));refine wpAny_nsSet1 (s:={ s with toks:=s.toks+1 }) I.ns λ h' hn2 hs2=>?_;obtain⟨oD,esD,epD,hoD,hdD,hcD⟩:=hn2.count (PySem.Within.cons name v hw);refine lA (wpAny_lookBehind hoD (by rw[hdD];exact pastItsLine_dict (mK hcD (by rw[mN];omega))) ?_);exact lB (h _ ⟨(hs2.2 _ (Ne.symm I.ne)).trans I.obj,hn2,I.ne⟩ hs2)
theorem zJC {R:Result->Shared->Prop}{vs:List Value}{kw:List (Str × Value)}(X:K.In s.heap) (hm:W.makesIn K C=true)
  (hi:W.findIn K (.ref C) "__init__" = some (some (.ref f))) (hf:W.typeIn K (.ref f)=some (.type "function"))
  (h:codeAny (model prog w) (A.under (.builtin "type.__call__" ⟨.ref C::vs,kw⟩)) (.call (.ref f) ⟨.ref (s.heap.objs.size+1)::vs,kw⟩) (W.InitBack (s.heap.objs.size+1) R)
   { s with heap:=(s.heap.push W.emptyDict).push (W.instObj C s.heap.objs.size) }) :
  codeAny (model prog w) A (.call (.ref C) ⟨vs,kw⟩) R s:=by
 obtain⟨hh,g,d,t,os⟩:=s;exact W.make_core (W.makes_of X hm) (W.looks_findIn X hi) (λ self=>W.bind_fn X self hf) (.inl rfl) h
end
noncomputable def putF (f:Str) (v:V):List (Str × V)->List (Str × V)
 |[]=>[(f,v)]
 | (g,x)::r=>if g=f then (g,v)::r else (g,x)::putF f v r
theorem zAM (f g:Str) (v:V):∀fs:List (Str × V),(putF f v fs).lookup g=if g=f then some v else fs.lookup g
 |[]=>by
  show List.lookup g [(f,v)]=_
  by_cases h:g=f
  ·have hb:(g == f)=true:=beq_iff_eq.mpr h
   simp only[List.lookup,hb,if_pos h]
  ·have hb:(g == f)=false:=beq_eq_false_iff_ne.mpr h
   simp only[List.lookup,hb,if_neg h]
 | (k,x)::r=>by
  have ih:=zAM f g v r;rw[show putF f v ((k,x)::r)=(if k=f then (k,v)::r else (k,x)::putF f v r) from rfl]
  by_cases hk:k=f
  ·rw[if_pos hk]
   by_cases h:g=k
   ·have hb:(g == k)=true:=beq_iff_eq.mpr h
    simp only[List.lookup,hb,if_pos (h.trans hk)]
   ·have hb:(g == k)=false:=beq_eq_false_iff_ne.mpr h
    simp only[List.lookup,hb,if_neg (λ e:g=f=>h (e.trans hk.symm))]
  ·rw[if_neg hk]
   by_cases h:g=k
   ·have hb:(g == k)=true:=beq_iff_eq.mpr h
    simp only[List.lookup,hb,if_neg (λ e:g=f=>hk (h.symm.trans e))]
   ·have hb:(g == k)=false:=beq_eq_false_iff_ne.mpr h
    simp only[List.lookup,hb];exact ih
theorem zDf (f:Str) (v:V):∀fs:List (Str × V),f∈(putF f v fs).map (·.1)/\∀g,g∈fs.map (·.1)->g∈(putF f v fs).map (·.1)
 |[]=>⟨by simp[putF],λ g h=>by simp at h⟩
 | (k,x)::r=>by
  obtain⟨i1,i2⟩:=zDf f v r;rw[show putF f v ((k,x)::r)=(if k=f then (k,v)::r else (k,x)::putF f v r) from rfl]
  by_cases hk:k=f
  ·rw[if_pos hk]
   subst hk;exact⟨by simp,λ g h=>by simpa using h⟩
  ·rw[if_neg hk]
   refine⟨?_,λ g h=>?_⟩
   ·rw[mM]
    exact lO _ i1
   ·rw[mM] at h ⊢
    rcases lM.mp h with e|e
    ·exact lM.mpr (.inl e)
    ·exact lO _ (i2 g e)
theorem zDe (f:Str) (v:V):∀fs:List (Str × V),(putF f v fs).length<=fs.length+1
 |[]=>by simp[putF]
 | (k,x)::r=>by
  have ih:=zDe f v r;rw[show putF f v ((k,x)::r)=(if k=f then (k,v)::r else (k,x)::putF f v r) from rfl]
  by_cases hk:k=f
  ·rw[if_pos hk,mN,mN];omega
  ·rw[if_neg hk,mN,mN];omega
theorem RelO.some_of {v:V}{o:Option Value}(r:RelO (some v) o):∃u,o=some u/\RelV v u:=by
 cases o with
 |none=>exact(show False from r).elim
 |some u=>exact⟨u,rfl,r⟩
theorem RelO.none_of {o:Option Value}(r:RelO none o):o=none:=by
 cases o with
 |none=>rfl
 |some u=>exact(show False from r).elim
theorem zIG {v:V}{u:Value}(r:RelV v u):W.handedIn u=true:=by
 cases v with
 |non=>cases (show u=Value.none from r);rfl
 |bl b=>cases (show u=Value.bool b from r);rfl
 |int i=>obtain⟨t,e⟩:=(show ∃t,u=Value.int i t from r);cases e;rfl
 |str x=>obtain⟨t,e⟩:=(show ∃t,u=Value.str x t from r);cases e;rfl
 |byt b=>obtain⟨t,e⟩:=(show ∃t,u=Value.bytes b t from r);cases e;rfl
 |flt b=>obtain⟨t,e⟩:=(show ∃t,u=Value.float b t from r);cases e;rfl
 |ref a=>cases (show u=Value.ref a from r);rfl
 |ty n=>cases (show u=Value.type n from r);rfl
section
variable {P:Program}{w:World}{H H':Hp}{h h':Heap}{a C dx:Addr}{fs fs':List (Str × V)}
theorem zFt (hok:HOk P w H h) (e:H a=some (.ins C dx fs)):∃mA,ObjM h a dx C mA/\(∀f,RelO (fs.lookup f) (mA f))/\PySem.Within mA (fs.map (·.1))/\fs.length<=1000/\H dx=some (.own a):=by
 obtain⟨d,z,ne,ob,mA,n,r,q⟩:=(show ObjOk P w H h a (.ins C dx fs) from hok a _ e);exact⟨mA,⟨ob,n,ne⟩,r,q,z,d⟩
end
structure Cls (K:W.Frag) (C:Addr):Prop where
 pg:W.plainGet K C Str.empty=true
 hd:W.hasDictIn K C=true
 po:W.plainOver K C=true
 sa:W.findIn K (.ref C) "__setattr__" = some (some (.builtin "object.__setattr__"))
theorem Cls.get {K:W.Frag}{C:Addr}(c:Cls K C) (f:Str):W.plainGet K C f=true:=c.pg
def zB8 (K:W.Frag) (C:Addr) (f:Str):Prop:=W.findIn K (.ref C) f=some none
theorem zB8.taker {K:W.Frag}{C:Addr}{f:Str}(n:zB8 K C f):W.takerIn K C f=some none:=by
 unfold W.takerIn;rw[show W.findIn K (.ref C) f=some none from n];rfl
structure Meth (K:W.Frag) (C:Addr) (m:Str) (f:Addr):Prop where
 at_:W.findIn K (.ref C) m=some (some (.ref f))
 fn:W.isFn K (.ref f)=true
 kp:W.keepIn K (.ref f)=true
section
variable {X:Cx}{jP:List (Addr × Obj)}{σ:St}{H:Hp}{s:Shared}{a C dx:Addr}{fs:List (Str × V)}{f:Str}{v:V}{A:Around}{E:XQ}
theorem zG6 {b:Bool}{Q:XQ}(I:Inv X jP σ H s) (e:H a=some (.ins C dx fs)) (c:Cls X.K C) (n:zB8 X.K C f) (l:fs.lookup f=some v)
  (h:∀u s',Inv X jP σ H s'->RelV v u->Q u s'):wpAny (model X.prog X.w) A (getAttr (.ref a) f b) Q E s:=by
 obtain⟨mA,O,r,_,_,_⟩:=zFt I.hok e;obtain⟨u,hu,ru⟩:=RelO.some_of (v:=v) (o:=mA f) (by rw[←l];exact r f);exact zKt I.kIn O (c.get f) c.hd n hu (zIG ru) (h u _ (I.tok _) ru)
theorem zG5 {m:Str}{g:Addr}{pl:Sem Bool}{Q:Value × List Value->Shared->Prop}(I:Inv X jP σ H s) (e:H a=some (.ins C dx fs)) (c:Cls X.K C) (k:Meth X.K C m g) (l:fs.lookup m=none)
  (h:Q (.ref g,[.ref a]) s):wpAny (model X.prog X.w) A (getMethod (.ref a) m pl) Q E s:=by
 obtain⟨mA,O,r,_,_,_⟩:=zFt I.hok e;have hn:mA m=none:=RelO.none_of (by rw[←l];exact r m);exact zJH I.kIn O (c.get m) k.at_ k.fn hn h
theorem zGm {y:V}{u:Value}{Q:Unit->Shared->Prop}(I:Inv X jP σ H s) (e:H a=some (.ins C dx fs)) (c:Cls X.K C) (n:zB8 X.K C f) (hl:fs.length<1000) (ry:RelV y u)
  (h:∀s',Inv X jP σ (upd H a (.ins C dx (putF f y fs))) s'->Q () s'):wpAny (model X.prog X.w) A (setAttr (.ref a) f u) Q E s:=by
 obtain⟨mA,O,r,wi,_,ho⟩:=zFt I.hok e;have hz:(fs.map (·.1)).length<=sizeLine:=by rw[lC,sizeLine_eq];omega
 refine zJx I.kIn O c.sa c.po n.taker c.hd wi hz λ h' O' sb=>h _ ?_;have hd:∃o,h'.get? dx=some o:=let ⟨o,_,_,e',_⟩:=O'.ns;⟨o,e'⟩;refine I.write (x:=a) (e:=dx) (by rw[e];exact True.intro) (.inr ho) (λ b q hb z=>(sb.2 b hb).trans z) hd ?_;refine⟨by rw[zAJ O.ne];exact ho,?_,O.ne,O'.obj,_,O'.ns,λ g=>?_,λ g hg=>?_⟩
 ·have:=zDe f y fs;omega
 ·show RelO ((putF f y fs).lookup g) (if g=f then some u else mA g)
  rw[zAM]
  by_cases q:g=f
  ·rw[if_pos q,if_pos q];exact ry
  ·rw[if_neg q,if_neg q];exact r g
 ·by_cases q:g=f
  ·rw[q];exact(zDf f y fs).1
  ·refine(zDf f y fs).2 g (wi g λ z=>hg ?_)
   show (if g=f then some u else mA g)=none;rw[if_neg q];exact z
theorem Inv.made (I:Inv X jP σ H s):Inv X jP σ (upd (upd H s.heap.objs.size (.own (s.heap.objs.size+1))) (s.heap.objs.size+1) (.ins C s.heap.objs.size []))
  { s with heap:=(s.heap.push W.emptyDict).push (W.instObj C s.heap.objs.size) }:=by
 have e1:(s.heap.push W.emptyDict).get? s.heap.objs.size=some W.emptyDict:=lH s.heap rfl
 have e2:((s.heap.push W.emptyDict).push (W.instObj C s.heap.objs.size)).get? (s.heap.objs.size+1)=some (W.instObj C s.heap.objs.size):=by
  have:=lH (s.heap.push W.emptyDict) (o:=W.instObj C s.heap.objs.size) rfl
  rwa [Heap.size_push] at this
 have e3:(s.heap.push W.emptyDict).Ns s.heap.objs.size (λ U=>none):=⟨W.emptyDict,#[],_,e1,rfl,(λ e he=>absurd he (by simp)),λ U=>rfl⟩;have I1:=I.laid (a:=s.heap.objs.size) (o:=.own (s.heap.objs.size+1)) (h':=s.heap.push W.emptyDict) (t':=s.toks) (λ b u q=>lG _ q) (lP _) ⟨_,e1⟩;refine I1.laid (a:=s.heap.objs.size+1) (o:=.ins C s.heap.objs.size []) (t':=s.toks) (λ b u q=>lG _ q) (Nat.le_of_eq (Heap.size_push _ _)) ?_;have ne:s.heap.objs.size≠s.heap.objs.size+1:=lQ (Nat.lt_succ_self _);refine⟨by rw[zAJ ne,zAA],lX _,ne,e2,λ U=>none,(Heap.Ns1.of_empty e3).at λ o q=>lG _ q,λ U=>True.intro,λ y hy=>absurd rfl hy⟩
theorem zK2 {prog:Program}{w:World}{env:Env}{e:Expr}{f:Str}{pos:Pos}{s:Shared}{Q:XQ}(hb:attributeBase e f env (eval e env)=eval e env)
  (h:wpAny (model prog w) A (eval e env) (λ o s₁=>wpAny (model prog w) A (getAttr o f true) Q E s₁) E s):wpAny (model prog w) A (eval (.Attribute e f pos) env) Q E s :=
 Attribute_any_ h (by rw[arm_eval_Attribute,hb])
end
def tFld (K:W.Frag) (ta:TE) (f:Str):TE:=λ σ H Q=>ta σ H λ x H1=>∃a C dx fs v,x = .ref a/\H1 a=some (.ins C dx fs)/\Cls K C/\zB8 K C f/\fs.lookup f=some v/\Q v H1
def sFld (K:W.Frag) (ta tv:TE) (f:Str):TS:=λ D σ H=>tv σ H λ y H1=>ta σ H1 λ x H2=>∃a C dx fs,x = .ref a/\H2 a=some (.ins C dx fs)/\Cls K C/\zB8 K C f/\fs.length<1000 /\
 D.nx σ (upd H2 a (.ins C dx (putF f y fs)))
section
variable {X:Cx}{o e value:Expr}{f:Str}{pos pos' tpos:Pos}{ta tv:TE}
theorem zBf (he:PE X e ta) (hb:attributeBase e f X.env (eval e X.env)=eval e X.env):PE X (.Attribute e f pos) (tFld X.K ta f):=by
 intro jP s σ H Q I h;refine zK2 hb (thn (he jP s σ H _ I h) λ u s1 ⟨x,H1,I1,rx,a,C,dx,fs,v,ex,ea,c,n,l,q⟩=>?_);subst ex;obtain rfl:u=Value.ref a:=rx;exact zG6 I1 ea c n l λ u' s2 I2 ru=>⟨v,H1,I2,ru,q⟩
theorem zD6 (ha:PE X o ta) (hv:PE X value tv) (hs:swapsWith value (some (.Attribute o f pos')) pos.line X.env=pure false):PS X (.Assign [.Attribute o f pos'] value pos) (sFld X.K ta tv f):=by
 intro jP s σ H D I h;refine plainObj_wpAny_Assign_Attribute (thn (hv jP s σ H _ I h) λ u s1 ⟨y,H1,I1,ry,q⟩=>thn (ha jP s1 σ H1 _ I1 q) λ ov s2 ⟨x,H2,I2,rx,a,C,dx,fs,ex,ea,c,n,l,q2⟩=>?_) hs;subst ex;obtain rfl:ov=Value.ref a:=rx;exact zGm I2 ea c n l ry λ s3 I3=>⟨σ,_,I3,q2⟩
end
structure Room (k:Nat) (A:Around):Prop where
 hd:A.handled=none
 dp:A.depth+3 * k+5<recursionLimit
 un:A.units+16 * k+200<cLine
theorem Room.mono {j k:Nat}{A:Around}(r:Room k A) (h:j<=k):Room j A:=⟨r.hd,by have:=r.dp;omega,by have:=r.un;omega⟩
theorem Room.deeper {k:Nat}{A:Around}(r:Room (k+1) A) (env:Env):Room k (A.deeper env) :=
 ⟨r.hd,by have:=r.dp;show A.depth+1+3 * k+5<_;omega,by have:=r.un;show A.units+3+16 * k+200<_;omega⟩
theorem zG2 {A:Around}{C:Addr}{us:List Value}{kw:List (Str × Value)}:(A.under (.builtin "type.__call__" ⟨.ref C::us,kw⟩)).depth=A.depth+1:=by
 first|rfl|simp[Around.under,Code.weight,Code.isCreation,Code.isGuard,Code.isCaller,Code.frames,Code.isFrame,guardIds]
theorem zG1 {A:Around}{C:Addr}{us:List Value}{kw:List (Str × Value)}:(A.under (.builtin "type.__call__" ⟨.ref C::us,kw⟩)).units=A.units+1:=by
 first|rfl|simp[Around.under,Code.cUnits,Code.frames,Code.isFrame]
theorem Room.make {k:Nat}{A:Around}(r:Room (k+1) A) (C:Addr) (us:List Value) (kw:List (Str × Value)):Room k (A.under (.builtin "type.__call__" ⟨.ref C::us,kw⟩)) :=
 ⟨r.hd,by have:=r.dp;rw[zG2];omega,by have:=r.un;rw[zG1];omega⟩
theorem Room.depth {k:Nat}{A:Around}(r:Room k A):A.depth<recursionLimit:=by have:=r.dp;omega
theorem Room.units {k:Nat}{A:Around}(r:Room k A):A.units+64<cLine:=by have:=r.un;omega
def tNil:TA:=λ U H Q=>Q [] H
def tCons (ta:TE) (tr:TA):TA:=λ σ H Q=>ta σ H λ x H1=>tr σ H1 λ xs H2=>Q (x::xs) H2
section
variable {X:Cx}{e:Expr}{es:List Expr}{te:TE}{t:TA}{pos:Pos}
theorem zAD:PA X [] tNil:=λ U U U U H Q I h=>Calls.spliced_nil ⟨[],H,I,.nil,h⟩
theorem zAB (ha:PE X e te) (hr:PA X es t) (hs:starEach (e::es) X.env=(false,eval e X.env)::starEach es X.env:=by rfl):PA X (e::es) (tCons te t):=by
 intro pos jP s σ H Q I h;rw[hs];show wpAny _ _ (spliced ((false,eval e X.env)::backTo pos (starEach es X.env))) _ _ s;refine Calls.spliced_cons (thn (ha jP s σ H _ I h) λ u s1 ⟨x,H1,I1,r1,q1⟩=>?_);exact thn (hr pos jP s1 σ H1 _ I1 q1) λ us s2 ⟨xs,H2,I2,r2,q2⟩=>⟨x::xs,H2,I2,.cons r1 r2,q2⟩
def tTup (t:TA):TE:=λ σ H Q=>t σ H λ xs H1=>xs.length<=sizeLine/\∀p,H1 p=none->Q (.ref p) (upd H1 p (.tup xs))
def tLst (t:TA):TE:=λ σ H Q=>t σ H λ xs H1=>xs.length<=sizeLine/\∀p,H1 p=none->Q (.ref p) (upd H1 p (.lst xs))
theorem zAi {x1} (h:PA X es t):PE X (.Tuple es x1 pos) (tTup t):=by
 intro jP s σ H Q I hq;refine wpAny_Tuple_spliced (thn (h pos jP s σ H _ I hq) λ us s1 ⟨xs,H1,I1,r,z,q⟩=>⟨by rw[←r.length];exact z,?_⟩);have hf:H1 s1.heap.objs.size=none:=I1.hok.fresh (lP _);refine⟨.ref s1.heap.objs.size,upd H1 s1.heap.objs.size (.tup xs),I1.laid (t':=s1.toks) (λ b u e=>lG _ e) (lP _) ?_,rfl,q _ hf⟩;exact⟨z,us,r,⟨_,lH _ rfl,rfl,_,rfl⟩⟩
theorem zBQ (h:PA X es t):PE X (.List es pos) (tLst t):=by
 intro jP s σ H Q I hq;refine wpAny_List_spliced (thn (h pos jP s σ H _ I hq) λ us s1 ⟨xs,H1,I1,r,z,q⟩=>⟨by rw[←r.length];exact z,?_⟩);have hf:H1 s1.heap.objs.size=none:=I1.hok.fresh (lP _);refine⟨.ref s1.heap.objs.size,upd H1 s1.heap.objs.size (.lst xs),I1.laid (t':=s1.toks) (λ b u e=>lG _ e) (lP _) ?_,rfl,q _ hf⟩;exact⟨z,us,0,r,lH _ rfl⟩
end
abbrev Sp:=List V->Hp->VK->XK->Prop
abbrev CXT:=List Env->Hp->Shared->XK->Value->Shared->Prop
structure Env0 (P:Program) (w:World) (K:W.Frag) (mg:Str->Option Value) (base:Heap) (A:Around) (outer:List Env) (s:Shared) (H:Hp):Prop where
 frames:A.frames=some outer
 mod:Mod K mg base
 bs:∀b o,base.get? b=some o->s.heap.get? b=some o/\H b=none
 bsz:base.objs.size<=s.heap.objs.size
 funs:s.heap.FunFrames base outer
 frf:∀b∈frs outer,H b=none
 hok:HOk P w H s.heap
 bare:AllBare s.gens
def CE (outer:List Env) (P:Program) (w:World) (H:Hp) (s:Shared) (Q:VK) (u:Value) (s':Shared):Prop :=
 ∃v H',s'.os=s.os/\AllBare s'.gens/\Un (frs outer) [] H H' s.heap s'.heap/\HOk P w H' s'.heap/\RelV v u/\Q v H'
def CR (CX:CXT) (outer:List Env) (P:Program) (w:World) (H:Hp) (s:Shared) (Q:VK) (E:XK) (r:Result) (s':Shared):Prop :=
 match r with
 |.ok (.ret u)=>CE outer P w H s Q u s'
 |.ok _=>False
 |.error e=>CX outer H s E e s'
structure FnOk (P:Program) (w:World) (K:W.Frag) (mg:Str->Option Value) (base:Heap) (CX:CXT) (k:Nat) (f:Addr) (fd:FuncData) (ps:List Str) (sp:Sp):Prop where
 len:∀vs H Q E,sp vs H Q E->vs.length=ps.length
 run:∀(A:Around) (outer:List Env) (s:Shared) (H:Hp) (args:Args) (us:List Value) (vs:List V) (Q:VK) (E:XK),Room k A->Env0 P w K mg base A outer s H->BindsTo s fd args (ps.zip us)->Vals vs us->sp vs H Q E ->
  codeAny (model P w) A (.call (.ref f) args) (CR CX outer P w H s Q E) s
theorem FnOk.mono {P:Program}{w:World}{K:W.Frag}{mg:Str->Option Value}{base:Heap}{CX:CXT}{j k:Nat}{f:Addr}{fd:FuncData}{ps:List Str}{sp:Sp}(F:FnOk P w K mg base CX j f fd ps sp) (h:j<=k) :
  FnOk P w K mg base CX k f fd ps sp:=⟨F.len,λ A outer s H args us vs Q E hr=>F.run A outer s H args us vs Q E (hr.mono h)⟩
theorem Env0.make {P:Program}{w:World}{K:W.Frag}{mg:Str->Option Value}{base:Heap}{A:Around}{outer:List Env}{s:Shared}{H:Hp}(e:Env0 P w K mg base A outer s H) (C:Addr) (us:List Value) (kw:List (Str × Value)) :
  Env0 P w K mg base (A.under (.builtin "type.__call__" ⟨.ref C::us,kw⟩)) outer s H:=⟨by first|exact e.frames|(simpa[Around.under,Code.envs,Code.isFrame,pushEnvs] using e.frames),e.mod,e.bs,e.bsz,e.funs,e.frf,e.hok,e.bare⟩
section
variable {X:Cx}{jP:List (Addr × Obj)}{σ:St}{H:Hp}{s s':Shared}
theorem Inv.env0 (I:Inv X jP σ H s):Env0 X.prog X.w X.K X.mg X.base X.A X.stack s H :=
 ⟨I.ok.frames,I.ok.mod,I.bs,mK I.ok.bsz I.sz,I.stack,I.stkFree,I.hok,I.bare⟩
theorem Inv.after {Q:VK}{u:Value}(I:Inv X jP σ H s) (h:CE X.stack X.prog X.w H s Q u s'):EP X jP σ Q u s':=by
 obtain⟨v,H',os,bare,un,hok,r,q⟩:=h;obtain⟨hh,g,d,t,os'⟩:=s';obtain rfl:os'=s.os:=os;exact⟨v,H',I.call (h':=hh) (g':=g) (d':=d) (t':=t) (ch:=[]) un hok bare (λ b z=>absurd z (by simp)),r,q⟩
end
def tCall (sp:Sp) (dvs:List V) (E:XK) (t:TA):TE:=λ σ H Q=>t σ H λ vs H1=>sp (vs++dvs) H1 Q E
def tMeth (C:Addr) (m:Str) (sp:Sp) (dvs:List V) (E:XK) (ta:TE) (t:TA):TE:=λ σ H Q=>ta σ H λ x H1=>∃a dx fs,x = .ref a/\H1 a=some (.ins C dx fs)/\fs.lookup m=none /\
 t σ H1 λ vs H2=>sp (x::(vs++dvs)) H2 Q E
def tMake (C:Addr) (sp:Sp) (dvs:List V) (E:XK) (t:TA):TE:=λ σ H Q=>t σ H λ vs H1=>∀x dx,H1 x=none->H1 dx=none->dx≠x ->
 sp (.ref x::(vs++dvs)) (upd (upd H1 dx (.own x)) x (.ins C dx [])) (λ v H2=>v = .non/\Q (.ref x) H2) E
def Binds (K:W.Frag) (fd:FuncData) (ps:List Str) (ds:List Value):Prop :=
 ∀(s:Shared) (us:List Value),K.In s.heap->(us++ds).length=ps.length->BindsTo s fd ⟨us,[]⟩ (ps.zip (us++ds))
theorem Binds.all {K:W.Frag}{fd:FuncData}{ps:List Str}(h:∀us:List Value,us.length=ps.length->bindArgs fd ⟨us,[]⟩=pure (ps.zip us)):Binds K fd ps []:=λ s us U hl=>by
 rw[nV] at hl ⊢;exact .of_eq (h us hl)
def zDE (CX:CXT) (X:Cx) (E:XK):Prop:=∀(jP:List (Addr × Obj)) (σ:St) (H:Hp) (s:Shared) (e:Value) (s':Shared),Inv X jP σ H s->CX X.stack H s E e s'->X.xe e s'
section
variable {X:Cx}{CX:CXT}{k:Nat}{f C:Addr}{fd:FuncData}{ps:List Str}{sp:Sp}{dvs:List V}{ds:List Value}{E:XK}{x m:Str}{p pos apos:Pos}{e o:Expr}{es:List Expr}{ta:TE}{t:TA}
theorem zHh {jP:List (Addr × Obj)}{σ:St}{H:Hp}{s:Shared}{Q:VK}{us:List Value}{vs:List V}(F:FnOk X.prog X.w X.K X.mg X.base CX k f fd ps sp) (hr:Room k X.A) (hb:Binds X.K fd ps ds) (hd:Vals dvs ds) (hx:zDE CX X E)
  (I:Inv X jP σ H s) (r:Vals vs us) (h:sp (vs++dvs) H Q E):wpAny (model X.prog X.w) X.A (call (.ref f) us) (EP X jP σ Q) X.xe s:=by
 have r2:Vals (vs++dvs) (us++ds):=r.append hd;have hl:(us++ds).length=ps.length:=by rw[←r2.length];exact F.len _ _ _ _ h
 refine wpAny_call (codeAny_mono (F.run X.A X.stack s H ⟨us,[]⟩ (us++ds) (vs++dvs) Q E hr I.env0 (hb s us I.kIn hl) r2 h) λ r s' hq=>?_);cases r with
 |error e=>exact hx jP σ H s e s' I hq
 |ok fl =>
  cases fl with
  |ret u=>exact I.after hq
  |next=>exact False.elim hq
  |brk=>exact False.elim hq
  |cont=>exact False.elim hq
theorem zHn (F:FnOk X.prog X.w X.K X.mg X.base CX k f fd ps sp) (hr:Room k X.A) (hg:Gl X x) (hm:X.mg x=some (.ref f)) (hk:W.keepIn X.K (.ref f)=true) (hb:Binds X.K fd ps ds) (hd:Vals dvs ds) (hx:zDE CX X E)
  (ha:PA X (e::es) t) (hdb:(x == ("__debug__" : Str))=false:=by decide) (he:starEach (e::es) X.env=(false,eval e X.env)::starEach es X.env:=by rfl) (hpl:(backTo pos (starEach es X.env)).any (·.1)=false:=by rfl) :
  PE X (.Call (.Name x p) (e::es) [] pos) (tCall sp dvs E t):=by
 intro jP s σ H Q I h;refine wpAny_Call_Name_kw (zFo I hg hm ?_ hdb);refine W.callWith_K (h₀:=X.base) I.ok.mod.kin hk (thn (ha pos jP s σ H _ I h) λ us s1 ⟨vs,H1,I1,r,q⟩=>⟨I1.kIn,?_⟩) he hpl;exact zHh F hr hb hd hx I1 r q
theorem zBE {pl:Sem Bool}(he:PE X o ta) (c:Cls X.K C) (hm:Meth X.K C m f) (F:FnOk X.prog X.w X.K X.mg X.base CX k f fd ps sp) (hr:Room k X.A) (hb:Binds X.K fd ps ds) (hd:Vals dvs ds) (hx:zDE CX X E) (ha:PA X (e::es) t)
  (hst:starEach (e::es) X.env=(false,eval e X.env)::starEach es X.env:=by rfl) (hpl:(backTo pos (starEach es X.env)).any (·.1)=false:=by rfl)
  (ht:eval (.Call (.Attribute o m apos) (e::es) [] pos) X.env=(do
   let ov ← eval o X.env
   standAt apos.atName
   let (f,first) ← holding [ov] (getMethod ov m pl)
   callWith pos f first (backTo pos (starEach (e::es) X.env)) (backToKw pos (keywordEach [] X.env))):=by rfl) :
  PE X (.Call (.Attribute o m apos) (e::es) [] pos) (tMeth C m sp dvs E ta t):=by
 intro jP s σ H Q I h;refine W.methodCall_KW (pl:=pl) (thn (he jP s σ H _ I h) λ u s1 ⟨x,H1,I1,rx,a,dx,fs,ex,ea,l,q⟩=>?_) ht;subst ex;obtain rfl:u=Value.ref a:=rx;refine zG5 I1 ea c hm l ?_;refine W.callWith_K (first:=[.ref a]) (h₀:=X.base) I.ok.mod.kin hm.kp (thn (ha pos jP s1 σ H1 _ I1 q) λ us s2 ⟨vs,H2,I2,r,q2⟩=>⟨I2.kIn,?_⟩) hst hpl;exact zHh (us:=.ref a::us) (vs:=.ref a::vs) F hr hb hd hx I2 (.cons rfl r) q2
structure Mk (K:W.Frag) (C f:Addr):Prop where
 makes:W.makesIn K C=true
 init:W.findIn K (.ref C) "__init__" = some (some (.ref f))
 fn:W.isFn K (.ref f)=true
 kp:W.keepIn K (.ref C)=true
theorem zIi {jP:List (Addr × Obj)}{σ:St}{H:Hp}{s:Shared}{Q:VK}{us:List Value}{vs:List V}(M:Mk X.K C f) (F:FnOk X.prog X.w X.K X.mg X.base CX k f fd ps sp) (hr:Room (k+1) X.A) (hb:Binds X.K fd ps ds) (hd:Vals dvs ds)
  (hx:zDE CX X E) (I:Inv X jP σ H s) (r:Vals vs us)
  (h:∀x dx,H x=none->H dx=none->dx≠x->sp (.ref x::(vs++dvs)) (upd (upd H dx (.own x)) x (.ins C dx [])) (λ v H2=>v = .non/\Q (.ref x) H2) E) :
  wpAny (model X.prog X.w) X.A (call (.ref C) us) (EP X jP σ Q) X.xe s:=by
 have hq:=h (s.heap.objs.size+1) s.heap.objs.size (I.hok.fresh (Nat.le_succ _)) (I.hok.fresh (lP _)) (lQ (Nat.lt_succ_self _));have I2:=Inv.made (C:=C) I;have r2:Vals (V.ref (s.heap.objs.size+1)::(vs++dvs)) (Value.ref (s.heap.objs.size+1)::(us++ds)):=.cons rfl (r.append hd)
 have hl:(Value.ref (s.heap.objs.size+1)::us++ds).length=ps.length:=by
  have e:=r2.length;rw[F.len _ _ _ _ hq] at e;exact e.symm
 refine wpAny_call (zJC (f:=f) I.kIn M.makes M.init (beq_iff_eq.mp M.fn) (codeAny_mono (F.run _ X.stack _ _ ⟨Value.ref (s.heap.objs.size+1)::us,[]⟩ (Value.ref (s.heap.objs.size+1)::(us++ds)) _ _ E (hr.make C us [])
  (I2.env0.make C us []) (hb _ (Value.ref (s.heap.objs.size+1)::us) I2.kIn hl) r2 hq) λ r s' hq'=>?_))
 cases r with
 |error e=>exact hx jP σ _ _ e s' I2 hq'
 |ok fl =>
  cases fl with
  |ret u =>
   obtain⟨v,H',I3,rv,ev,q3⟩:=I2.after hq';subst ev;exact⟨rv,⟨V.ref (s.heap.objs.size+1),H',I3,rfl,q3⟩⟩
  |next=>exact False.elim hq'
  |brk=>exact False.elim hq'
  |cont=>exact False.elim hq'
theorem zKO (M:Mk X.K C f) (F:FnOk X.prog X.w X.K X.mg X.base CX k f fd ps sp) (hr:Room (k+1) X.A) (hg:Gl X x) (hm:X.mg x=some (.ref C)) (hb:Binds X.K fd ps ds) (hd:Vals dvs ds) (hx:zDE CX X E)
  (ha:PA X (e::es) t) (hdb:(x == ("__debug__" : Str))=false:=by decide) (he:starEach (e::es) X.env=(false,eval e X.env)::starEach es X.env:=by rfl) (hpl:(backTo pos (starEach es X.env)).any (·.1)=false:=by rfl) :
  PE X (.Call (.Name x p) (e::es) [] pos) (tMake C sp dvs E t):=by
 intro jP s σ H Q I h;refine wpAny_Call_Name_kw (zFo I hg hm ?_ hdb);refine W.callWith_K (h₀:=X.base) I.ok.mod.kin M.kp (thn (ha pos jP s σ H _ I h) λ us s1 ⟨vs,H1,I1,r,q⟩=>⟨I1.kIn,?_⟩) he hpl;exact zIi M F hr hb hd hx I1 r q
end
def PK (X:Cx) (kws:List Keyword) (t:TA):Prop :=
 ∀(pos:Pos) (jP:List (Addr × Obj)) (s:Shared) (σ:St) (H:Hp) (Q:List V->Hp->Prop),Inv X jP σ H s->t σ H Q->wpAny (model X.prog X.w) X.A (evalAll ((backToKw pos (keywordEach kws X.env)).map (·.2))) (AP X jP σ Q) X.xe s
section
variable {X:Cx}{CX:CXT}{k:Nat}{f C:Addr}{fd:FuncData}{ps ks:List Str}{sp:Sp}{E:XK}{x m:Str}{p pos apos kpos:Pos}{e o:Expr}{es:List Expr}{kws:List Keyword}{te ta:TE}{t tk:TA}{nm:Option Str}
theorem zLL:PK X [] tNil:=λ U U U U H Q I h=>wpAny_evalAll_nil ⟨[],H,I,.nil,h⟩
theorem zKJ (ha:PE X e te) (hr:PK X kws t):PK X (⟨nm,e,kpos⟩::kws) (tCons te t):=by
  intro pos jP s σ H Q I h;show wpAny _ _ (evalAll ((do let v ← eval e X.env;standAt pos;pure v)::(backToKw pos (keywordEach kws X.env)).map (·.2))) _ _ s;refine wpAny_evalAll_cons (lA (thn (ha jP s σ H _ I h) λ u s1 ⟨x,H1,I1,r1,q1⟩=>lA (wpAny_standAt (lB ?_))));exact thn (hr pos jP s1 σ H1 _ I1 q1) λ us s2 ⟨xs,H2,I2,r2,q2⟩=>⟨x::xs,H2,I2,.cons r1 r2,q2⟩
variable {g:List Value->List Value->List Value}{gV:List V->List V->List V}
end
structure zAR (N P:List Str) (sc:Scope):Prop where
 kind:sc.kind = .function
 co:sc.isCoroutine=false
 gen:sc.isGenerator=false
 nd:N.Nodup
 pre:N.take P.length=P
 par:∀x∈P,sc.names.lookup x=some .local\/sc.names.lookup x=some .cell
 nofree:∀y∈sc.names,y.2 ≠ .free
theorem scI {N P:List Str}{sc:Scope}(a:sc.kind=.function:=by rfl)(b:sc.isCoroutine=false:=by rfl)(c:sc.isGenerator=false:=by rfl)(d:N.Nodup:=by right)(e:N.take P.length=P:=by rfl)(f:∀x∈P,sc.names.lookup x=some .local\/sc.names.lookup x=some .cell:=by right)(g:∀y∈sc.names,y.2≠.free:=by right):zAR N P sc:=⟨a,b,c,d,e,f,g⟩
theorem zFP {kindOf:Str->Option NameKind}{x:Str}:∀{binds:List (Str × Value)}{m:Str->Option Value},(∀v,(x,v)∉binds)->bindL kindOf binds m x=m x
 |[],_,_=>rfl
 | (n,v)::r,m,h=>by
  unfold bindL;rw[zFP λ w hw=>h w (List.mem_cons_of_mem _ hw)];split
  ·have:x≠n:=by rintro rfl;exact h v lN
   simp[this]
  ·rfl
theorem zFR {kindOf:Str->Option NameKind}{x:Str}:∀{binds:List (Str × Value)}{m:Str->Option Value},(∀v,(x,v)∉binds)->bindC kindOf binds m x=m x
 |[],_,_=>rfl
 | (n,v)::r,m,h=>by
  unfold bindC;rw[zFR λ w hw=>h w (List.mem_cons_of_mem _ hw)];split
  ·rfl
  ·have:x≠n:=by rintro rfl;exact h v lN
   simp[this]
theorem zFQ {kindOf:Str->Option NameKind}{x:Str}{v:Value}:∀{P:List Str}{vs:List Value}{i:Nat}{m:Str->Option Value},P.Nodup->P[i]?=some x->vs[i]?=some v->kindOf x=some .local ->
  bindL kindOf (P.zip vs) m x=some v
 |[],_,_,_,_,h,_,_=>by simp at h
 |_::_,[],_,_,_,_,h,_=>by simp at h
 |p::P,w::vs,0,m,nd,h1,h2,hk=>by
  simp at h1 h2;subst h1;subst h2;show bindL kindOf ((p,w)::P.zip vs) m p=_;unfold bindL;rw[zFP λ v hv=>(rK.mp nd).1 (List.of_mem_zip hv).1,if_pos hk];simp
 |p::P,w::vs,i+1,m,nd,h1,h2,hk=>by
  show bindL kindOf ((p,w)::P.zip vs) m x=_;unfold bindL;exact zFQ (i:=i) (rK.mp nd).2 (by simpa using h1) (by simpa using h2) hk
theorem zFS {kindOf:Str->Option NameKind}{x:Str}{v:Value}:∀{P:List Str}{vs:List Value}{i:Nat}{m:Str->Option Value},P.Nodup->P[i]?=some x->vs[i]?=some v->kindOf x≠some .local ->
  bindC kindOf (P.zip vs) m x=some v
 |[],_,_,_,_,h,_,_=>by simp at h
 |_::_,[],_,_,_,_,h,_=>by simp at h
 |p::P,w::vs,0,m,nd,h1,h2,hk=>by
  simp at h1 h2;subst h1;subst h2;show bindC kindOf ((p,w)::P.zip vs) m p=_;unfold bindC;rw[zFR λ v hv=>(rK.mp nd).1 (List.of_mem_zip hv).1,if_neg hk];simp
 |p::P,w::vs,i+1,m,nd,h1,h2,hk=>by
  show bindC kindOf ((p,w)::P.zip vs) m x=_;unfold bindC;exact zFS (i:=i) (rK.mp nd).2 (by simpa using h1) (by simpa using h2) hk
noncomputable def start (N:List Str) (vs:List V):St:=vs.map some++List.replicate (N.length - vs.length) none
noncomputable def cxOf (CX:CXT) (P:Program) (w:World) (K:W.Frag) (mg:Str->Option Value) (base:Heap) (N:List Str) (qual:Str) (scope:Scope) (f:Addr) (cd:Value) (A:Around) (outer:List Env) (s:Shared) (H:Hp) (E:XK):Cx where
 prog:=P
 w:=w
 K:=K
 mg:=mg
 base:=base
 A:=A.deeper (envOfC qual scope s.heap.objs.size f cd)
 N:=N
 s₀:=s
 H₀:=H
 env:=envOfC qual scope s.heap.objs.size f cd
 outer:=outer
 stack:=envOfC qual scope s.heap.objs.size f cd::outer
 ex:=[]
 calm:=true
 fn:=λ U=>true
 pn:=[]
 xe:=λ e s'=>wpAny (model P w) (A.deeper (envOfC qual scope s.heap.objs.size f cd)) (leaving (envOfC qual scope s.heap.objs.size f cd) e) (λ U s''=>CX outer H s E e s'') (λ e' s''=>CX outer H s E e' s'') s'
theorem zGe {sc:Scope}{n:Nat}{x:Str}(h:sc.names.lookup x=some .cell):∃c,(cellsFrom n sc.names []).lookup x=some c:=by
 have q:=W.cellsFrom_some sc.names n [] (.inl h);exact Option.isSome_iff_exists.mp q
theorem zIE {CX:CXT}{P:Program}{w:World}{K:W.Frag}{mg:Str->Option Value}{base:Heap}{N ps:List Str}{qual:Str}{scope:Scope}{f:Addr}{cd:Value}{A:Around}{outer:List Env}{s s1:Shared}{H:Hp}{E:XK}{us:List Value}{vs:List V}
  (S:zAR N ps scope) (hd:A.handled=none) (e0:Env0 P w K mg base A outer s H) (hl:vs.length=ps.length) (r:Vals vs us)
  (x:InCallC s s.heap.objs.size (bindL (envOfC qual scope s.heap.objs.size f cd).kindOf (ps.zip us) λ U=>none) (cellsFrom (s.heap.objs.size+1) scope.names []) (bindC (envOfC qual scope s.heap.objs.size f cd).kindOf (ps.zip us) λ U=>none) s1) :
  Inv (cxOf CX P w K mg base N qual scope f cd A outer s H E) [] (start N vs) H s1:=by
 have hpl:ps.length<=N.length:=by have:=congrArg List.length S.pre;rw[mO] at this;omega
 obtain⟨h1,tk,rfl,hk⟩:=x.done;have noA:∀b:Addr,b∉(cxOf CX P w K mg base N qual scope f cd A outer s H E).ex:=λ b z=>absurd (show b∈([]:List Addr) from z) (by simp)
 refine⟨⟨e0.mod,S.kind,rfl,rfl,lP _,λ y z c h1 h2=>?_,λ y hy=>?_,λ y c U h=>?_,λ U=>hd,Around.frames_deeper e0.frames,.inr ⟨rfl,rfl⟩,λ b z=>absurd z (noA b),e0.bs,e0.bsz,λ b U U=>noA b,λ b z=>absurd z (noA b),e0.funs,e0.frf⟩,
  rfl,e0.bare,Un.kept hk,⟨_,x.toInCall.ns,λ i y v h1 h2 h3=>?_⟩,λ y c h=>⟨_,x.cell y c h⟩,e0.hok.fresh (lP _),λ y c h=>?_,λ p hp=>absurd (show p∈([]:List (Addr × Obj)) from hp) (by simp),e0.hok.kept hk,?_⟩
 ·exact name_of_addr x.apart (PySem.mem_of_lookup h1) (PySem.mem_of_lookup h2)
 ·have hy:scope.names.lookup y=some .cell\/scope.names.lookup y=some .free:=hy
  rcases hy with hy|hy
  ·exact zGe hy
  ·exact absurd rfl (S.nofree _ (PySem.mem_of_lookup hy))
 ·exact Nat.le_of_lt (x.above y c (PySem.mem_of_lookup h))
 ·have hi:i<vs.length:=by
   unfold start at h2
   by_cases hi:i<vs.length
   ·exact hi
   ·rw[mU (by simpa using hi)] at h2
    rw[List.getElem?_replicate] at h2;split at h2<;>cases h2
  have ha:vs[i]?=some v:=by
   unfold start at h2;rw[mT (by simpa using hi),mH] at h2;cases e:vs[i]? with
   |none=>rw[e] at h2;cases h2
   |some a=>rw[e] at h2;cases h2;rfl
  obtain⟨u,hu,rv⟩:=r.get ha
  have hp:ps[i]?=some y:=by
   rw[←S.pre,List.getElem?_take_of_lt (by omega)];exact h1
  have ndP:ps.Nodup:=by rw[←S.pre];exact S.nd.sublist (List.take_sublist _ _)
  refine⟨u,rv,?_⟩;rcases S.par y (lL hp) with k|k
  ·exact .inl ⟨k,zFQ ndP hp hu k⟩
  ·obtain⟨c,e⟩:=zGe (n:=s.heap.objs.size+1) k
   refine .inr ⟨.inl k,c,e,?_⟩;have q:=x.cell y c e;rw[zFS ndP hp hu (by show scope.names.lookup y≠_;rw[k];decide)] at q;exact q
 ·exact e0.hok.fresh (Nat.le_of_lt (x.above y c (PySem.mem_of_lookup h)))
 ·unfold start
  show _=N.length;rw[mL,lC,List.length_replicate];omega
theorem fn_of {CX:CXT}{P:Program}{w:World}{K:W.Frag}{mg:Str->Option Value}{base:Heap}{k:Nat}{f:Addr}{name qual:Str}{params:Arguments}{body:List Stmt}{scope:Scope}{dV kV doc pm cdv ct oc:Value}{an od:Option Addr}
  {osl:Array (Option Value)}{N ps:List Str}{sp:Sp}(lk:K.lookup f=some ⟨oc,od,.func (W.fnOf name qual params body scope dV kV doc pm an cdv ct),osl⟩) (hcd:W.codeIn K cdv qual=true) (S:zAR N ps scope)
  (len:∀vs H Q E,sp vs H Q E->vs.length=ps.length)
  (hbody:∀(A:Around) (outer:List Env) (s:Shared) (H:Hp) (vs:List V) (Q:VK) (E:XK),Room k (A.deeper (envOfC qual scope s.heap.objs.size f cdv))->sp vs H Q E ->
   ∃t,PSs (cxOf CX P w K mg base N qual scope f cdv A outer s H E) body t/\t { nx:=λ U H'=>Q .non H',rt:=Q } (start N vs) H) :
  FnOk P w K mg base CX (k+1) f (W.fnOf name qual params body scope dV kV doc pm an cdv ct) ps sp:=by
 refine⟨len,λ A outer s H args us vs Q E hr e0 hb r hsp=>?_⟩;have hl:=len _ _ _ _ hsp;have KX:K.In s.heap:=e0.mod.kin.keeps λ b o e=>(e0.bs b o e).1;have lim:s.heap.NoLimit:=e0.mod.nolimit.keeps λ b o e=>(e0.bs b o e).1
 have hkind:∀y∈ps.zip us,scope.names.lookup y.1=some .local\/(scope.names.lookup y.1=some .cell/\((cellsFrom (s.heap.objs.size+1) scope.names []).lookup y.1).isSome=true):=λ⟨n,v⟩ hy=>by
  rcases S.par n (List.of_mem_zip hy).1 with q|q
  ·exact .inl q
  ·exact .inr ⟨q,W.cellsFrom_some _ _ _ (.inl q)⟩
 refine codeAny_call_function hr.depth (KX _ _ lk) rfl S.co S.gen rfl (W.codeRec_of KX hcd) (hb _ _ _ _ ?_);refine wpAny_newFunctionEnv_cells S.kind hkind λ env he s1 x=>?_;subst he;refine⟨lim.keeps x.toInCall.keep,codeAny_func ?_⟩;obtain⟨t,ht,hq⟩:=hbody A outer s H vs Q E (hr.deeper _) hsp;have I:Inv (cxOf CX P w K mg base N qual scope f cdv A outer s H E) [] (start N vs) H s1:=zIE S hr.hd e0 hl r x;refine wpAny_mono (ht [] s1 (start N vs) H _ I hq) (λ fl s' hs=>?_) λ e s' hs=>hs
 have fin:∀{σ':St}{H':Hp}{v:V}{u:Value},Inv (cxOf CX P w K mg base N qual scope f cdv A outer s H E) [] σ' H' s'->RelV v u->Q v H'->CE outer P w H s Q u s' :=
  λ{σ' H' v u} J rv q=>⟨v,H',J.os,J.bare,J.base,J.hok,rv,q⟩
 cases fl with
 |ret u =>
  obtain⟨v,σ',H',J,rv,q⟩:=hs;exact fin J rv q
 |next =>
  obtain⟨σ',H',J,q⟩:=hs;exact fin (v:=V.non) (u:=Value.none) J rfl q
 |brk =>
  obtain⟨_,_,_,q⟩:=hs;exact False.elim q
 |cont =>
  obtain⟨_,_,_,q⟩:=hs;exact False.elim q
section
variable {X:Cx}{x:Str}{p pos:Pos}{e:Expr}{es:List Expr}{t:TA}{id T:String}{r:List V->Hp->VK->Prop}
def tCB (r:List V->Hp->VK->Prop) (t:TA):TE:=λ σ H Q=>t σ H λ vs H1=>r vs H1 Q
theorem zBW (hc:CallR X (.builtin id) r) (hg:Gl X x) (hm:X.mg x=none) (hv:bootBuiltins x=some (.builtin id)) (ha:PA X (e::es) t) (hn:x ≠ "__name__" := by decide) (hdb:(x == ("__debug__" : Str))=false:=by decide)
  (he:starEach (e::es) X.env=(false,eval e X.env)::starEach es X.env:=by rfl) (hpl:(backTo pos (starEach es X.env)).any (·.1)=false:=by rfl):PE X (.Call (.Name x p) (e::es) [] pos) (tCB r t):=by
 intro jP s σ H Q I h;refine wpAny_Call_Name_kw (zEC I hg hm hv ?_ hn hdb);exact PyProof.Rows.callWith_builtin1 (thn (ha pos jP s σ H _ I h) λ us s1 ⟨vs,H1,I1,r1,q1⟩=>hc jP s1 σ H1 vs us Q I1 r1 q1) he hpl
theorem zBR (hc:CallR X (.type T) r) (hg:Gl X x) (hm:X.mg x=none) (hv:bootBuiltins x=some (.type T)) (ha:PA X (e::es) t) (hn:x ≠ "__name__" := by decide) (hdb:(x == ("__debug__" : Str))=false:=by decide)
  (he:starEach (e::es) X.env=(false,eval e X.env)::starEach es X.env:=by rfl) (hpl:(backTo pos (starEach es X.env)).any (·.1)=false:=by rfl):PE X (.Call (.Name x p) (e::es) [] pos) (tCB r t):=by
 intro jP s σ H Q I h;refine wpAny_Call_Name_kw (zEC I hg hm hv ?_ hn hdb);exact PyProof.Rows.callWith_type1 (thn (ha pos jP s σ H _ I h) λ us s1 ⟨vs,H1,I1,r1,q1⟩=>hc jP s1 σ H1 vs us Q I1 r1 q1) he hpl
end
end L2
namespace HT
open PySem PyProof.Rows
section
variable {prog:Program}{w:World}{A:Around}{E:XQ}{s:Shared}
theorem cat_tup {t b:Addr}{vs ws:List Value}{Q:XQ}(ht:IsTup s.heap t vs.toArray) (hb:IsTup s.heap b ws.toArray) (hv:vs≠[])
  (h1:ws=[]->Q (.ref t) s) (h2:ws≠[]->Q (.ref s.heap.objs.size) { s with heap:=s.heap.push { cls:=.type "tuple", data:=.seq (vs++ws).toArray } })
  (hsz:vs.length+ws.length<=sizeLine):wpAny (model prog w) A (binaryOp .Add (.ref t) (.ref b)) Q E s:=by
 obtain⟨⟨cls,dd,data,sl⟩,ho,hc,n,hd⟩:=id ht;obtain⟨⟨cls2,dd2,data2,sl2⟩,ho2,hc2,n2,hd2⟩:=id hb;simp only at hc hd hc2 hd2;subst hc hd hc2 hd2;have e:vs.toArray++ws.toArray=(vs++ws).toArray:=by simp
 by_cases hw:ws=[]
 ·exact concat_meets ⟨_,ho,rfl⟩ ⟨_,ho2,rfl⟩ noFill_tuple_add seq_tuple_add PySem.F.slot_tuple_add PySem.F.entry_tuple_add (PySem.F.args_tuple_add_2 _ _)
   (tuple_addW1 t b vs.toArray ws.toArray n n2 dd dd2 sl sl2 (by simpa using hv) (by simp[hw])) ⟨ho,ho2,h1 hw⟩
 ·refine concat_meets ⟨_,ho,rfl⟩ ⟨_,ho2,rfl⟩ noFill_tuple_add seq_tuple_add PySem.F.slot_tuple_add PySem.F.entry_tuple_add (PySem.F.args_tuple_add_2 _ _)
   (tuple_addW2 t b vs.toArray ws.toArray n n2 dd dd2 sl sl2 (by simpa using hv) (by simpa using hw) (by rw[lS,lS];exact hsz)) ⟨ho,ho2,?_⟩
  rw[e];exact h2 hw
noncomputable def sIx (n d:Nat):Option Int->Nat
 |none=>d
 |some v=>if v<0 then (v+(n:Int)).toNat else min v.toNat n
theorem sIx_none (n d:Nat):sIx n d none=d:=rfl
theorem sIx_nat (n d k:Nat):sIx n d (some (k:Int))=min k n:=by
 show (if (k:Int)<0 then ((k:Int)+(n:Int)).toNat else min (k:Int).toNat n)=min k n;rw[if_neg (by omega),Int.toNat_natCast]
theorem zLF (n d:Nat) (hd:d<=n) (o:Option Int):sIx n d o<=n:=by
 cases o with
 |none=>exact hd
 |some v =>
  show (if v<0 then (v+(n:Int)).toNat else min v.toNat n)<=n
  by_cases hv:v<0
  ·rw[if_pos hv];omega
  ·rw[if_neg hv];exact Nat.min_le_right _ _
theorem zIR (v:Int) (n d:Nat):(if v<0 then max (v+(n:Int)) 0 else min v (n:Int))=((sIx n d (some v):Nat):Int):=by
 show (if v<0 then max (v+(n:Int)) 0 else min v (n:Int))=(((if v<0 then (v+(n:Int)).toNat else min v.toNat n):Nat):Int)
 by_cases hv:v<0
 ·simp only[if_pos hv];omega
 ·simp only[if_neg hv];omega
theorem zHE (lo hi:Option Int) (n:Nat):Builtin.Slice.sliceAdjust lo hi 1 (n:Int)=(((sIx n 0 lo:Nat):Int),((sIx n n hi:Nat):Int)):=by
 have h1:¬((1:Int)<0):=by omega
 unfold Builtin.Slice.sliceAdjust;simp only[h1,if_false];refine Prod.ext ?_ ?_
 ·cases lo with
  |none=>rfl
  |some v=>exact zIR v n 0
 ·cases hi with
  |none=>rfl
  |some v=>exact zIR v n n
theorem zGq (i j:Nat):Builtin.Slice.slicePlaces (i:Int) (j:Int) 1=j - i:=by
 unfold Builtin.Slice.slicePlaces;have h1:(1:Int) > 0:=by omega
 simp only[h1,if_true,Int.ediv_one];split<;>omega
theorem zD2 {v:Value}{o:Option Int}{Q:Option Int->Shared->Prop}(p:IsPart v o) (h:Q o s):wpAny (model prog w) A (Builtin.Slice.slicePartIndex v) Q E s:=by
 cases p with
 |none=>exact slicePart_none h
 |int i t=>exact slicePart_int h
theorem zDF {sl:Addr}{vl vu:Value}{lo hi:Option Int}{n:Nat}{Q:Int × Int × Nat->Shared->Prop}(hs:s.heap.IsSliceOf sl vl vu .none) (pl:IsPart vl lo) (pu:IsPart vu hi)
  (h:Q (((sIx n 0 lo:Nat):Int),1,sIx n n hi - sIx n 0 lo) s):wpAny (model prog w) A (Builtin.Slice.sliceApplied (.ref sl) (pure (n:Int))) Q E s:=by
 obtain⟨os,hos,hcs,hds⟩:=id hs;unfold Builtin.Slice.sliceApplied Builtin.Slice.sliceFields;refine lA (lA (wpAny_field hos hds (x:=vl) rfl (lA (wpAny_field hos hds (x:=vu) rfl (lA (wpAny_field hos hds (x:=.none) rfl (lB ?_)))))));refine lA (slicePart_none ?_);show wpAny _ _ (if ((1:Int) == 0)=true then _ else _) _ _ s;rw[if_neg (by decide)];refine lA (zD2 pl (lA (zD2 pu (lA (lB ?_)))));show wpAny _ _ (match Builtin.Slice.sliceAdjust lo hi 1 (n:Int) with|(lo,hi)=>pure (lo,(1:Int),Builtin.Slice.slicePlaces lo hi 1)) _ _ s;rw[zHE lo hi n];show wpAny _ _ (pure (((sIx n 0 lo:Nat):Int),(1:Int),Builtin.Slice.slicePlaces ((sIx n 0 lo:Nat):Int) ((sIx n n hi:Nat):Int) 1)) _ _ s;rw[zGq];exact lB h
theorem zIq (xs:Array Value) (i k:Nat):((List.range k).filterMap λ(m:Nat)=>xs[((i:Int)+(m:Int) * 1).toNat]?).toArray=((xs.toList.drop i).take k).toArray:=by
 have e:(λ(m:Nat)=>xs[((i:Int)+(m:Int) * 1).toNat]?)=λ m=>xs[i+m]?:=by
  funext m;have:((i:Int)+(m:Int) * 1).toNat=i+m:=by omega
  rw[this]
 rw[e];have:=pick_run xs i k;rw[List.filterMap_map] at this;have e2:((λ x=>xs[x]?) ∘ λ x=>i+x)=λ m=>xs[i+m]?:=rfl;rw[e2] at this;rw[this]
theorem getItem_tuple_cut {t sl:Addr}{items:Array Value}{vl vu:Value}{lo hi:Option Int}{Q:XQ}(ht:IsTup s.heap t items) (hs:s.heap.IsSliceOf sl vl vu .none) (pl:IsPart vl lo) (pu:IsPart vu hi)
  (hw:¬(sIx items.size 0 lo=0/\sIx items.size items.size hi=items.size))
  (h:Q (.ref s.heap.objs.size) { s with heap:=s.heap.push { cls:=.type "tuple", data:=.seq ((items.toList.drop (sIx items.size 0 lo)).take (sIx items.size items.size hi - sIx items.size 0 lo)).toArray } })
  (hsz:items.size<=sizeLine):wpAny (model prog w) A (getItem (.ref t) (.ref sl)) Q E s:=by
 have htake:sizeOk (.seq ((items.toList.drop (sIx items.size 0 lo)).take (sIx items.size items.size hi - sIx items.size 0 lo)).toArray):=by
  show ((items.toList.drop (sIx items.size 0 lo)).take (sIx items.size items.size hi - sIx items.size 0 lo)).toArray.size<=sizeLine;rw[lS,mO,mX,Array.length_toList];omega
 have hj:sIx items.size items.size hi<=items.size:=zLF _ _ (lP _) hi;obtain⟨os,hos,hcs,hds⟩:=id hs;have hTs:s.TypeIs (.ref sl) "slice" := ⟨os,hos,hcs⟩;unfold getItem
 try with_reducible refine lF ?_
 first|refine lA (lB ?_)|skip
 refine lA (wpAny_sequenceKey ht.typeIs (by decide) ?_)
 refine lA (wpAny_callSpecial?_slot (name:=Str.ofString "__getitem__") ht.typeIs PyProof.Rows.slot_tuple_getitem
  (wpAny_call_entry PyProof.Rows.slot_tuple_getitem ht.typeIs entry_tuple_getitem ?_ (args_tuple_getitem _ _)))
 show wpAny _ _ (Builtin.Tuple.tupleItemsOf (.ref t) >>= _) _ _ s;refine lA (tupleItemsOf_ ht ?_);refine lA (wpAny_typeOf hTs ?_);rw[if_pos (by decide)];refine lA (zDF hs pl pu ?_)
 have hno:¬((((sIx items.size 0 lo:Nat):Int) == 0 && (1:Int) == 1 && (sIx items.size items.size hi - sIx items.size 0 lo) == items.size)=true):=by
  intro q;rw[Bool.and_eq_true,Bool.and_eq_true] at q;have q1:((sIx items.size 0 lo:Nat):Int)=0:=eq_of_beq q.1.1;have q2:sIx items.size items.size hi - sIx items.size 0 lo=items.size:=eq_of_beq q.2;exact hw ⟨by omega,by omega⟩
 show wpAny _ _ (if (((sIx items.size 0 lo:Nat):Int) == 0 && (1:Int) == 1 && (sIx items.size items.size hi - sIx items.size 0 lo) == items.size)=true then _ else _) _ _ s;rw[if_neg hno,zIq]
 first
  |exact lA (m:=Builtin.Tuple.tupleExact _) (wpAny_newObj_type (lB ⟨_,rfl,lB h⟩) htake)
  |exact lA (m:=Builtin.Tuple.tupleExact _) (wpAny_newObj_type (lA (lB (lB ⟨_,rfl,lB h⟩))) htake)
  |exact lA (lA (m:=Builtin.Tuple.tupleExact _) (wpAny_newObj_type (lB (lB ⟨_,rfl,lB h⟩)) htake))
  |exact lA (lA (m:=Builtin.Tuple.tupleExact _) (wpAny_newObj_type (lB ⟨_,rfl,lB h⟩) htake))
end
end HT
namespace L2
open PySem PySem.Spec PyProof.Rows
abbrev TO:=St->Hp->(Option Int->Hp->Prop)->Prop
def PO (X:Cx) (e:Option Expr) (t:TO):Prop :=
 ∀(jP:List (Addr × Obj)) (s:Shared) (σ:St) (H:Hp) (Q:Option Int->Hp->Prop),Inv X jP σ H s->t σ H Q ->
  wpAny (model X.prog X.w) X.A (evalPart e X.env) (λ u s'=>∃o H',Inv X jP σ H' s'/\IsPart u o/\Q o H') X.xe s
def zJr:TO:=λ U H Q=>Q none H
inductive IsI (Q:Option Int->Hp->Prop) (x:V) (H:Hp):Prop
 |mk (i:Int) (h:x = .int i) (q:Q (some i) H)
def tPart (t:TE):TO:=λ σ H Q=>t σ H (IsI Q)
section
variable {X:Cx}{e:Expr}{te:TE}{lo hi:Option Expr}{tl th:TO}{pos p2:Pos}
theorem zFh:PO X none zJr:=by
 intro jP s σ H Q I h;rw[evalPart_none];exact lB ⟨none,H,I,.none,h⟩
theorem zDX (h:PE X e te):PO X (some e) (tPart te):=by
 intro jP s σ H Q I hw;rw[evalPart_some];refine thn (h jP s σ H _ I hw) λ u s1 ⟨x,H1,I1,r1,q1⟩=>?_;obtain⟨i,rfl,q⟩:=q1;obtain⟨t,rfl⟩:=r1;exact⟨some i,H1,I1,.int i t,q⟩
def SlR (X:Cx) (r:V->Option Int->Option Int->Hp->VK->Prop):Prop :=
 ∀(jP:List (Addr × Obj)) (s:Shared) (σ:St) (H:Hp) (x:V) (v vl vu:Value) (lo hi:Option Int) (sl:Addr) (Q:VK),Inv X jP σ H s->RelV x v->s.heap.IsSliceOf sl vl vu .none->IsPart vl lo->IsPart vu hi->r x lo hi H Q ->
  ∃T id,typeLookup (.type T) "__getitem__" = pure (some (.builtin id))/\s.TypeIs v T/\wpAny (model X.prog X.w) X.A (getItem v (.ref sl)) (EP X jP σ Q) X.xe s
def tSl (r:V->Option Int->Option Int->Hp->VK->Prop) (te:TE) (tl th:TO):TE:=λ σ H Q=>te σ H λ x H1=>tl σ H1 λ l H2=>th σ H2 λ u H3=>r x l u H3 Q
theorem zDI {r:V->Option Int->Option Int->Hp->VK->Prop}(hr:SlR X r) (he:PE X e te) (hl:PO X lo tl) (hu:PO X hi th):PE X (.Subscript e (.Slice lo hi none p2) pos) (tSl r te tl th):=by
 intro jP s σ H Q I h;refine Subscript_ (thn (he jP s σ H _ I h) λ v s1 ⟨x,H1,I1,r1,q1⟩=>?_);refine wpAny_Slice (thn (hl jP s1 σ H1 _ I1 q1) λ vl s2 ⟨l,H2,I2,pl,q2⟩=>thn (hu jP s2 σ H2 _ I2 q2) λ vu s3 ⟨u,H3,I3,pu,q3⟩=>?_);rw[evalPart_none];refine lB ?_;have I4:Inv X jP σ H3 { s3 with heap:=s3.heap.push { cls:=.type "slice", data:=.fields #[vl,vu,.none] } }:=I3.kept (t':=s3.toks) λ b ob q=>lG _ q;obtain⟨T,id,hT,ht,hg⟩:=hr jP { s3 with heap:=s3.heap.push { cls:=.type "slice", data:=.fields #[vl,vu,.none] } } σ H3 x v vl vu l u s3.heap.objs.size Q I4 r1 (Heap.IsSliceOf.new ..) pl pu q3;show wpAny (model X.prog X.w) X.A (subscriptTail e (.Slice lo hi none p2) v (.ref s3.heap.objs.size)) (EP X jP σ Q) X.xe { s3 with heap:=s3.heap.push { cls:=.type "slice", data:=.fields #[vl,vu,.none] } };exact tail_any (ops:=[.ref s3.heap.objs.size,v]) ht hT hg (by with_unfolding_all rfl)
noncomputable def cutV (xs:List V) (lo hi:Option Int):List V:=(xs.drop (HT.sIx xs.length 0 lo)).take (HT.sIx xs.length xs.length hi - HT.sIx xs.length 0 lo)
theorem zDm (xs:List V) (lo hi:Option Int):(cutV xs lo hi).length<=xs.length:=by
 unfold cutV;rw[mO,mX];omega
def rSlT (K:W.Frag):V->Option Int->Option Int->Hp->VK->Prop:=λ x lo hi H Q=>∃a xs,x = .ref a/\SqT K H a xs /\
 ¬(HT.sIx xs.length 0 lo=0/\HT.sIx xs.length xs.length hi=xs.length)/\∀p,H p=none->Q (.ref p) (upd H p (.tup (cutV xs lo hi)))
theorem zLE:SlR X (rSlT X.K):=by
 intro jP s σ H x v vl vu lo hi sl Q I rx hs pl pu h;obtain⟨a,xs,rfl,hx,hw,q⟩:=h;cases rx;obtain⟨its,r,ht,hz⟩:=I.tuple hx;have hlen:its.toArray.size=xs.length:=by rw[lS];exact r.length.symm
 refine⟨"tuple", _,PyProof.Rows.slot_tuple_getitem.lookup,ht.typeIs,?_⟩;refine HT.getItem_tuple_cut ht hs pl pu (by rw[hlen];exact hw) ?_ (by rw[hlen];exact hz);rw[hlen];refine⟨.ref s.heap.objs.size,_,I.laid (t':=s.toks) (o:=.tup (cutV xs lo hi)) (λ b ob q=>lG _ q) (lP _) ?_,rfl,q _ (I.hok.fresh (lP _))⟩;exact⟨mK (zDm xs lo hi) hz,_,(r.drop (HT.sIx xs.length 0 lo)).take (HT.sIx xs.length xs.length hi - HT.sIx xs.length 0 lo),IsTup.new _ _⟩
def rCatT (K:W.Frag):R2:=λ x y H Q=>∃a b xs ys,x = .ref a/\y = .ref b/\SqT K H a xs/\SqT K H b ys/\xs≠[]/\xs.length+ys.length<=sizeLine /\
 (ys=[]->Q (.ref a) H)/\(ys≠[]->∀p,H p=none->Q (.ref p) (upd H p (.tup (xs++ys))))
theorem Vals.nil_iff {xs:List V}{us:List Value}(r:Vals xs us):us=[]↔xs=[]:=by
 cases r with
 |nil=>simp
 |cons _ _=>simp
theorem zKY:OpR X (binaryOp .Add) (rCatT X.K):=by
 intro jP s σ H x y v u Q I rx ry h;obtain⟨a,b,xs,ys,rfl,rfl,ha,hb,hx,hz,q1,q2⟩:=h;cases rx;cases ry;obtain⟨its,r1,p1,_⟩:=I.tuple ha;obtain⟨its2,r2,p2,_⟩:=I.tuple hb;refine HT.cat_tup p1 p2 (λ z=>hx (r1.nil_iff.mp z)) (λ z=>⟨.ref a,H,I,rfl,q1 (r2.nil_iff.mp z)⟩) (λ z=>?_) (by rw[←r1.length,←r2.length];exact hz);refine⟨.ref s.heap.objs.size,_,I.laid (t':=s.toks) (o:=.tup (xs++ys)) (λ b ob q=>lG _ q) (lP _) ?_,rfl,q2 (λ w=>z (r2.nil_iff.mpr w)) _ (I.hok.fresh (lP _))⟩;exact⟨by rw[mL];exact hz,_,r1.append r2,IsTup.new _ _⟩
end
noncomputable def ixN (n:Nat) (i:Int):Option Nat:=if 0<=i then (if i<n then some i.toNat else none) else if -(n:Int)<=i then some (i+n).toNat else none
noncomputable def atI {α:Type}(xs:List α) (i:Int):Option α:=(ixN xs.length i).bind λ j=>xs[j]?
theorem zKr {n:Nat}{i:Int}{j:Nat}(h:ixN n i=some j):seqIndex? i n=some j/\j<n /\ -(n:Int)<=i/\i<n:=by
 unfold ixN at h
 by_cases h0:0<=i
 ·rw[if_pos h0] at h
  by_cases h1:i<n
  ·rw[if_pos h1] at h
   have e:i.toNat=j:=mI h;exact⟨by rw[seqIndex_of h0 h1,e],by omega,by omega,h1⟩
  ·rw[if_neg h1] at h;cases h
 ·rw[if_neg h0] at h
  by_cases h1 : -(n:Int)<=i
  ·rw[if_pos h1] at h
   have e:(i+n).toNat=j:=mI h;exact⟨by rw[seqIndex_neg (by omega) h1,e],by omega,h1,by omega⟩
  ·rw[if_neg h1] at h;cases h
theorem zFz {α:Type}{xs:List α}{i:Int}{v:α}(h:atI xs i=some v):∃j,seqIndex? i xs.length=some j/\xs[j]?=some v/\j<xs.length /\ -(xs.length:Int)<=i/\i<xs.length:=by
 unfold atI at h;cases e:ixN xs.length i with
 |none=>rw[e] at h;cases h
 |some j =>
  rw[e] at h;obtain⟨h1,h2,h3,h4⟩:=zKr e;exact⟨j,h1,h,h2,h3,h4⟩
theorem zCL {α:Type}{xs:List α}{j:Nat}{v:α}(h:xs[j]?=some v):atI xs (j:Int)=some v:=by
 have hj:j<xs.length:=(lJ.mp h).1
 have e:ixN xs.length (j:Int)=some j:=by
  unfold ixN;rw[if_pos (by omega),if_pos (by omega)];simp
 unfold atI;rw[e];exact h
def zIa (b:Expr):Prop:=∀o i,subscripted b false o i=operate [o,i] (getItem o i)
def IxR (X:Cx) (r:R2):Prop :=
 ∀(value slice:Expr) (jP:List (Addr × Obj)) (s:Shared) (σ:St) (H:Hp) (x y:V) (v u:Value) (Q:VK),Inv X jP σ H s->RelV x v->RelV y u->r x y H Q ->
  subscripted slice false v u=operate [v,u] (getItem v u)->wpAny (model X.prog X.w) X.A (subscriptTail value slice v u) (EP X jP σ Q) X.xe s
def MtR (X:Cx) (id:String) (r:V->List V->Hp->VK->Prop):Prop :=
 ∀(jP:List (Addr × Obj)) (s:Shared) (σ:St) (H:Hp) (x:V) (xs:List V) (v:Value) (us:List Value) (Q:VK),Inv X jP σ H s->RelV x v->Vals xs us->r x xs H Q ->
  wpAny (model X.prog X.w) X.A (call (.builtin id) (v::us)) (EP X jP σ Q) X.xe s
section
variable {X:Cx}{a b:Expr}{ta tb:TE}{pos:Pos}
theorem pe_ix {r:R2}(hr:IxR X r) (ha:PE X a ta) (hb:PE X b tb) (hs:zIa b):PE X (.Subscript a b pos) (tOp r ta tb):=by
 intro jP s σ H Q I h;exact Subscript_ (binT ha hb I h λ v u s2 x y H2 I2 rx ry q=>hr a b jP s2 σ H2 x y v u Q I2 rx ry q (hs _ _))
inductive rIxL (K:W.Frag) (x y:V) (H:Hp) (Q:VK):Prop
 |mk (p:Addr) (xs:List V) (i:Int) (v:V) (hx:x = .ref p) (hy:y = .int i) (s:SqL K H p xs) (a:atI xs i=some v) (q:Q v H)
inductive rIxT (K:W.Frag) (x y:V) (H:Hp) (Q:VK):Prop
 |mk (p:Addr) (xs:List V) (i:Int) (v:V) (hx:x = .ref p) (hy:y = .int i) (s:SqT K H p xs) (a:atI xs i=some v) (q:Q v H)
def rIxS:R2:=λ x y H Q=>∃z i c,x = .str z/\y = .int i/\z.length<=sizeLine/\atI z.cps.toList i=some c/\Q (.str ⟨#[c]⟩) H
theorem zBK:IxR X (rIxL X.K):=by
 intro value slice jP s σ H x y v u Q I rx ry h hs;obtain⟨p,xs,i,z,rfl,rfl,hq,he,q⟩:=h;cases rx;obtain⟨t,rfl⟩:=ry;obtain⟨its,r,pl,hz⟩:=I.list hq;obtain⟨j,h1,h2,h3,h4,h5⟩:=zFz he;obtain⟨w,ew,rw'⟩:=r.get h2;have hl:=r.length;have hn:=zDd;have fin:EP X jP σ Q w s:=⟨z,H,I,rw',q⟩
 by_cases h0:0<=i
 ·have hj:i.toNat=j:=by
   rw[seqIndex_of h0 h5] at h1;exact mI h1
  exact item_listR pl.isList h0 (by omega) (by rw[hj];simpa using ew) fin hs
 ·have hj:(i+(its.toArray.size:Int)).toNat=j:=by
   rw[seqIndex_neg (by omega) h4] at h1;rw[lS,←hl];exact mI h1
  exact subscriptTail_builtinR (x:=w) pl.isList.typeIs slot_list_getitem.lookup
   (wpAny_getItem_list_neg (Q:=λ r s'=>r=w/\EP X jP σ Q r s') pl.isList (by omega) (by rw[lS]<;>omega) (by omega) (by rw[hj];simpa using ew) ⟨rfl,fin⟩) hs
theorem zAP:IxR X (rIxT X.K):=by
 intro value slice jP s σ H x y v u Q I rx ry h hs;obtain⟨p,xs,i,z,rfl,rfl,hq,he,q⟩:=h;cases rx;obtain⟨t,rfl⟩:=ry;obtain⟨its,r,pl,hz⟩:=I.tuple hq;obtain⟨j,h1,h2,h3,h4,h5⟩:=zFz he;obtain⟨w,ew,rw'⟩:=r.get h2;have hl:=r.length;have hn:=zDd;have fin:EP X jP σ Q w s:=⟨z,H,I,rw',q⟩
 exact subscriptTail_builtinR (x:=w) pl.typeIs slot_tuple_getitem.lookup
  (getItem_tuple (j:=j) (Q:=λ r s'=>r=w/\EP X jP σ Q r s') pl (by omega) (by omega) (by rw[lS,←hl];exact h1) (by simpa using ew) ⟨rfl,fin⟩) hs
theorem zLf:IxR X rIxS:=by
 intro value slice jP s σ H x y v u Q I rx ry h hs;obtain⟨z,i,c,rfl,rfl,hz,he,q⟩:=h;obtain⟨t,rfl⟩:=rx;obtain⟨t',rfl⟩:=ry;obtain⟨j,h1,h2,h3,h4,h5⟩:=zFz he;have hl:z.cps.toList.length=z.length:=by simp[Str.length]
 rw[hl] at h1 h4 h5;have hn:=zDd
 exact tail_any (typeIs_str s z t) slot_str_getitem.lookup (getItem_str (c:=c) (by
  have e1:decide (i < -(2 ^ 63:Int))=false:=decide_eq_false (by omega);have e2:decide (i ≥ 2 ^ 63)=false:=decide_eq_false (by omega);rw[e1,e2,Bool.or_false]) (by rw[h1];simpa using h2) ⟨.str ⟨#[c]⟩,H,I.tok _,⟨_,rfl⟩,q⟩) hs
theorem zE3 (lo hi:Option Int) (n:Nat):(sliceBounds lo hi none n).1=((HT.sIx n 0 lo:Nat):Int)/\(sliceBounds lo hi none n).2.1=((HT.sIx n n hi:Nat):Int)/\(sliceBounds lo hi none n).2.2=1:=by
 refine⟨?_,?_,rfl⟩
 ·cases lo with
  |none=>simp[sliceBounds,HT.sIx]
  |some i =>
   simp only[sliceBounds,HT.sIx,Option.getD_none,show (1:Int) > 0 by decide,if_true]
   by_cases h:i<0
   ·simp only[h,if_true]<;>omega
   ·simp only[h,if_false]<;>omega
 ·cases hi with
  |none=>simp[sliceBounds,HT.sIx]
  |some i =>
   simp only[sliceBounds,HT.sIx,Option.getD_none,show (1:Int) > 0 by decide,if_true]
   by_cases h:i<0
   ·simp only[h,if_true]<;>omega
   ·simp only[h,if_false]<;>omega
theorem zER (its:List Value) (lo hi:Option Int):slicePick its.toArray lo hi none=((its.drop (HT.sIx its.length 0 lo)).take (HT.sIx its.length its.length hi - HT.sIx its.length 0 lo)).toArray:=by
 obtain⟨h1,h2,h3⟩:=zE3 lo hi its.toArray.size;unfold slicePick;rw[h1,h2,h3];simp only[sliceRange_one,pick_run,lS]<;>rfl
inductive rSlL (K:W.Frag) (x:V) (lo hi:Option Int) (H:Hp) (Q:VK):Prop
 |mk (a:Addr) (xs:List V) (hx:x = .ref a) (s:SqL K H a xs) (q:∀p,H p=none->Q (.ref p) (upd H p (.lst (cutV xs lo hi))))
theorem zJv:SlR X (rSlL X.K):=by
 intro jP s σ H x v vl vu lo hi sl Q I rx hs pl pu h;obtain⟨a,xs,rfl,hx,q⟩:=h;cases rx;obtain⟨its,r,ht,hz⟩:=I.list hx;have hlen:=r.length;refine⟨"list", _,slot_list_getitem.lookup,ht.isList.typeIs,?_⟩;refine wpAny_getItem_list_slice ht.isList hs pl pu .none (by simp) ?_ (by rw[lS]<;>omega);rw[zER,←hlen];refine⟨.ref s.heap.objs.size,_,I.laid (t':=s.toks) (o:=.lst (cutV xs lo hi)) (λ b ob q=>lG _ q) (lP _) ?_,rfl,q _ (I.hok.fresh (lP _))⟩;exact⟨mK (zDm xs lo hi) hz,_,0,(r.drop (HT.sIx xs.length 0 lo)).take (HT.sIx xs.length xs.length hi - HT.sIx xs.length 0 lo),lH _ rfl⟩
noncomputable def flatV:V->Bool
 |.non=>true
 |.bl _=>true
 |.int _=>true
 |.str _=>true
 |_=>false
noncomputable def eqV:V->V->Bool
 |.non,.non=>true
 |.bl a,.bl b=>a == b
 |.bl a,.int b=>(if a then 1 else 0) == b
 |.int a,.bl b=>a == (if b then 1 else 0)
 |.int a,.int b=>a == b
 |.str a,.str b=>a == b
 |_,_=>false
theorem zLg {A:Around}{s:Shared}{y x:V}{u v:Value}(ry:RelV y u) (rx:RelV x v) (fy:flatV y=true) (fx:flatV x=true):SeqAt.EqAt A s u v (eqV y x):=by
 cases y with
 |non =>
  cases ry;cases x with
  |non=>cases rx;exact SeqAt.EqAt.same _
  |bl b=>cases rx;exact SeqAt.EqAt.none_bool b
  |int b=>obtain⟨t,rfl⟩:=rx;exact SeqAt.EqAt.none_int b t
  |str b=>obtain⟨t,rfl⟩:=rx;exact SeqAt.EqAt.none_str b t
  |_=>exact absurd (show false=true from fx) lV
 |bl a =>
  cases ry;cases x with
  |non=>cases rx;exact SeqAt.EqAt.bool_none a
  |bl b=>cases rx;exact SeqAt.EqAt.bool_bool a b
  |int b=>obtain⟨t,rfl⟩:=rx;exact SeqAt.EqAt.bool_int a b t
  |str b=>obtain⟨t,rfl⟩:=rx;exact SeqAt.EqAt.bool_str a b t
  |_=>exact absurd (show false=true from fx) lV
 |int a =>
  obtain⟨t',rfl⟩:=ry;cases x with
  |non=>cases rx;exact SeqAt.EqAt.int_none a t'
  |bl b=>cases rx;exact SeqAt.EqAt.int_bool a t' b
  |int b=>obtain⟨t,rfl⟩:=rx;exact SeqAt.EqAt.int_int a t' b t
  |str b=>obtain⟨t,rfl⟩:=rx;exact SeqAt.EqAt.int_str a t' b t
  |_=>exact absurd (show false=true from fx) lV
 |str a =>
  obtain⟨t',rfl⟩:=ry;cases x with
  |non=>cases rx;exact SeqAt.EqAt.str_none a t'
  |bl b=>cases rx;exact SeqAt.EqAt.str_bool a t' b
  |int b=>obtain⟨t,rfl⟩:=rx;exact SeqAt.EqAt.str_int a t' b t
  |str b=>obtain⟨t,rfl⟩:=rx;exact SeqAt.EqAt.str_str a t' b t
  |_=>exact absurd (show false=true from fx) lV
 |_=>exact absurd (show false=true from fy) lV
noncomputable def eqU (x:V) (u:Value):Bool:=match u with
 |.none=>eqV .non x
 |.bool b=>eqV (.bl b) x
 |.int i _=>eqV (.int i) x
 |.str z _=>eqV (.str z) x
 |_=>false
theorem zJg {x y:V}{u:Value}(r:RelV y u) (f:flatV y=true):eqU x u=eqV y x:=by
 cases y with
 |non=>cases r;rfl
 |bl b=>cases r;rfl
 |int i=>obtain⟨t,rfl⟩:=r;rfl
 |str z=>obtain⟨t,rfl⟩:=r;rfl
 |_=>exact absurd (show false=true from f) lV
theorem zDr {x:V}{xs:List V}{us:List Value}(h:Vals xs us):xs.all flatV=true->us.any (eqU x)=xs.any λ y=>eqV y x:=by
 induction h with
 |nil=>exact λ U=>rfl
 |cons r t ih=>intro f;rw[List.all_cons,Bool.and_eq_true] at f;rw[List.any_cons,List.any_cons,zJg r f.1,ih f.2]
theorem zCr {A:Around}{s:Shared}{x:V}{v:Value}(rx:RelV x v) (fx:flatV x=true){xs:List V}{us:List Value}(z:Vals xs us):xs.all flatV=true->∀u∈us,SeqAt.EqAt A s u v (eqU x u):=by
 induction z with
 |nil=>exact λ U u hu=>nomatch hu
 |cons r t ih =>
  intro f u' hu;rw[List.all_cons,Bool.and_eq_true] at f;rcases List.mem_cons.mp hu with rfl|hu
  ·rw[zJg r f.1];exact zLg r rx f.1 fx
  ·exact ih f.2 u' hu
noncomputable def inV (x:V) (xs:List V):Bool:=xs.any λ y=>eqV y x
inductive rIn (K:W.Frag) (neg:Bool) (x y:V) (H:Hp) (Q:VK):Prop
 |mk (p:Addr) (xs:List V) (hy:y = .ref p) (s:SqL K H p xs\/SqT K H p xs) (f:flatV x=true) (g:xs.all flatV=true) (q:Q (.bl (if neg then !inV x xs else inV x xs)) H)
theorem zBw:OpR X (compareOp .In) (rIn X.K false):=by
 intro jP s σ H x y v u Q I rx ry h;obtain⟨p,xs,rfl,hq,fx,fs,q⟩:=h;cases ry;rcases hq with hq|hq
 ·obtain⟨its,r,pl,hz⟩:=I.list hq
  refine SeqAt.in_listAt (eqU x) pl.isList (λ w hw=>zCr rx fx r fs w (by simpa using hw)) ⟨.bl _,H,I,rfl,?_⟩;rw[show its.toArray.any (eqU x)=its.any (eqU x) by simp,zDr r fs];exact q
 ·obtain⟨its,r,pl,hz⟩:=I.tuple hq
  refine SeqAt.in_tupleAt (eqU x) pl (λ w hw=>zCr rx fx r fs w (by simpa using hw)) ⟨.bl _,H,I,rfl,?_⟩;rw[show its.toArray.any (eqU x)=its.any (eqU x) by simp,zDr r fs];exact q
theorem zDA:OpR X (compareOp .NotIn) (rIn X.K true):=by
 intro jP s σ H x y v u Q I rx ry h;obtain⟨p,xs,rfl,hq,fx,fs,q⟩:=h;cases ry;rcases hq with hq|hq
 ·obtain⟨its,r,pl,hz⟩:=I.list hq
  refine SeqAt.notIn_listAt (eqU x) pl.isList (λ w hw=>zCr rx fx r fs w (by simpa using hw)) ⟨.bl _,H,I,rfl,?_⟩;rw[show its.toArray.any (eqU x)=its.any (eqU x) by simp,zDr r fs];exact q
 ·obtain⟨its,r,pl,hz⟩:=I.tuple hq
  refine SeqAt.notIn_tupleAt (eqU x) pl (λ w hw=>zCr rx fx r fs w (by simpa using hw)) ⟨.bl _,H,I,rfl,?_⟩;rw[show its.toArray.any (eqU x)=its.any (eqU x) by simp,zDr r fs];exact q
inductive rLen1 (K:W.Frag) (xs:List V) (H:Hp) (Q:VK):Prop
 |mk (p:Addr) (ys:List V) (hx:xs=[.ref p]) (s:SqL K H p ys\/SqT K H p ys) (q:Q (.int ys.length) H)
theorem zDD:CallR X (.builtin "len") (rLen1 X.K):=by
 intro jP s σ H xs us Q I r h;obtain⟨p,ys,rfl,hq,q⟩:=h;obtain⟨u,rfl,rx⟩:=vals1 r;cases rx;have hn:=zDd;rcases hq with hq|hq
 ·obtain⟨its,r',pl,hz⟩:=I.list hq
  have hlen:=r'.length;exact Calls.call_len_list pl.isList (by simp only[lS]<;>omega) ⟨.int ys.length,H,I.tok _,⟨s.toks+1,by rw[lS,hlen]⟩,q⟩
 ·obtain⟨its,r',pl,hz⟩:=I.tuple hq
  have hlen:=r'.length;exact len_tuple pl (by simp only[lS]<;>omega) ⟨.int ys.length,H,I.tok _,⟨s.toks+1,by rw[lS,hlen]⟩,q⟩
theorem cL {X:Cx}{e:Expr}{es:List Expr}{t:TA}{p pos:Pos}(hm:X.mg "len"=none)(ha:PA X (e::es) t)(hg:Gl X "len":=by rfl)(he:starEach (e::es) X.env=(false,eval e X.env)::starEach es X.env:=by rfl)(hpl:(backTo pos (starEach es X.env)).any (·.1)=false:=by rfl):PE X (.Call (.Name "len" p) (e::es) [] pos) (tCB (rLen1 X.K) t):=zBW zDD hg hm PySem.boot_len ha (by decide) (by decide) he hpl
theorem zBZ:CallR X (.type "tuple") (λ xs H Q=>∃p ys,xs=[.ref p]/\((SqL X.K H p ys/\∀l,H l=none->Q (.ref l) (upd H l (.tup ys)))\/(SqT X.K H p ys/\Q (.ref p) H))):=by
 intro jP s σ H xs us Q I r h;obtain⟨p,ys,rfl,h⟩:=h;obtain⟨u,rfl,rx⟩:=vals1 r;cases rx;rcases h with ⟨hq,q⟩|⟨hq,q⟩
 ·obtain⟨its,r',pl,hz⟩:=I.list hq
  have hlen:=r'.length;refine call_tuple_list pl.isList (λ h' kp=>?_) (by simp only[lS]<;>omega);have I1:Inv X jP σ H { s with heap:=h' }:=I.kept (t':=s.toks) kp
  have I2:Inv X jP σ (upd H h'.objs.size (.tup ys)) { s with heap:=h'.push { cls:=.type "tuple", data:=.seq its.toArray } } :=
   I1.laid (t':=s.toks) (λ b o e=>lG _ e) (lP _) (show ObjOk X.prog X.w _ _ _ (.tup ys) from⟨hz,its,r',IsTup.new _ _⟩)
  exact⟨.ref h'.objs.size,_,I2,rfl,q _ (I1.hok.fresh (lP _))⟩
 ·obtain⟨its,r',pl,hz⟩:=I.tuple hq
  exact call_tuple_same pl ⟨.ref p,H,I,rfl,q⟩
def tyV (K:W.Frag) (T:String) (x:V) (H:Hp):Prop:=match x with
 |.str _=>T = "str"
 |.int _=>T = "int"
 |.ref p=>(T = "list" /\ ∃xs,SqL K H p xs)\/(T = "tuple" /\ ∃o,K.lookup p=some o/\o.cls = .type "tuple" /\ o.dict=none) \/
   (T = "dict" /\ ((∃kvs,H p=some (.dK kvs))\/∃kvs,H p=some (.dT kvs)))\/(T = "set" /\ ∃S n,H p=some (.set S n))
 |_=>False
theorem zJP {jP:List (Addr × Obj)}{σ:St}{H:Hp}{s:Shared}{T:String}{x:V}{v:Value}(I:Inv X jP σ H s) (r:RelV x v) (ty:tyV X.K T x H) :
  s.TypeIs v T/\∀a,v = .ref a->∃ob,s.heap.get? a=some ob/\ob.dict=none:=by
 cases x with
 |str z =>
  obtain⟨t,rfl⟩:=r;cases (show T = "str" from ty);exact⟨typeIs_str s z t,λ U e=>nomatch e⟩
 |int i =>
  obtain⟨t,rfl⟩:=r;cases (show T = "int" from ty);exact⟨typeIs_int s i t,λ U e=>nomatch e⟩
 |ref p =>
  cases r;rcases ty with ⟨rfl,xs,hq⟩|⟨rfl,o,hk,hc,hd⟩|⟨rfl,hk⟩|⟨rfl,S,n,hk⟩
  ·obtain⟨its,_,pl,_⟩:=I.list hq
   refine⟨pl.isList.typeIs,λ a e=>?_⟩;cases e;obtain⟨o,n,e,c,hd,_⟩:=pl;exact⟨o,e,hd⟩
  ·refine⟨⟨o,I.kIn p o hk,hc⟩,λ a e=>?_⟩
   cases e;exact⟨o,I.kIn _ o hk,hd⟩
  ·have z:∃o,s.heap.get? p=some o/\o.ExactDict:=by
    rcases hk with ⟨kvs,hk⟩|⟨kvs,hk⟩
    ·obtain⟨_,_,_,_,o,_,_,e,ex,_⟩:=I.hok p _ hk
     exact⟨o,e,ex⟩
    ·obtain⟨_,_,_,_,o,_,_,e,ex,_⟩:=I.hok p _ hk
     exact⟨o,e,ex⟩
   obtain⟨o,e,ex⟩:=z;refine⟨⟨o,e,ex.1⟩,λ a e2=>?_⟩;cases e2;exact⟨o,e,ex.2.1⟩
  ·obtain⟨o,_,_,_,e,ex,_⟩:=I.hok p _ hk
   refine⟨⟨o,e,ex.1⟩,λ a e2=>?_⟩;cases e2;exact⟨o,e,ex.2.1⟩
 |_=>exact False.elim ty
def tBM0 (K:W.Frag) (T:String) (r:V->List V->Hp->VK->Prop) (to:TE):TE:=λ σ H Q=>to σ H λ x H1=>tyV K T x H1/\r x [] H1 Q
def tBM (K:W.Frag) (T:String) (r:V->List V->Hp->VK->Prop) (to:TE) (t:TA):TE:=λ σ H Q=>to σ H λ x H1=>tyV K T x H1/\t σ H1 λ xs H2=>r x xs H2 Q
variable {o e:Expr}{es:List Expr}{to:TE}{t:TA}{name:Str}{apos cpos:Pos}{T id:String}{r:V->List V->Hp->VK->Prop}
theorem zE5 (pa:PlainAttrs T) (slot:Slot T name id) (hty:typeOf (.builtin id)=pure (.type "method_descriptor")) (hm:MtR X id r) (ho:PE X o to)
  (hbase:attributeBase o name X.env (eval o X.env)=eval o X.env:=by rfl) (hline:(apos.endLine == cpos.line)=true:=by rfl):PE X (.Call (.Attribute o name apos) [] [] cpos) (tBM0 X.K T r to):=by
 intro jP s σ H Q I h;refine wpAny_Call_method0_late hbase hline (thn (ho jP s σ H _ I h) λ v s1 ⟨x,H1,I1,r1,ty,q1⟩=>?_);obtain⟨h1,h2⟩:=zJP I1 r1 ty;exact⟨T,id,pa,slot,hty,h1,h2,Calls.callWith_builtin rfl (PySem.evalArgs_none (hm jP s1 σ H1 x [] v [] Q I1 r1 .nil q1))⟩
theorem pe_bm (pa:PlainAttrs T) (slot:Slot T name id) (hty:typeOf (.builtin id)=pure (.type "method_descriptor")) (hm:MtR X id r) (ho:PE X o to) (ha:PA X (e::es) t)
  (hbase:attributeBase o name X.env (eval o X.env)=eval o X.env:=by rfl)
  (hfew:((backTo cpos (starEach (e::es) X.env)).all (λ x=>!x.1) && (backToKw cpos (keywordEach [] X.env)).all (λ x=>x.1.isSome)
   && decide ((e::es).length+([]:List Keyword).length+(if ([]:List Keyword).isEmpty then 0 else 1)<30))=true:=by rfl)
  (hline:(apos.endLine == cpos.line)=true:=by rfl) (hs:starEach (e::es) X.env=(false,eval e X.env)::starEach es X.env:=by rfl) (hplain:(backTo cpos (starEach es X.env)).any (·.1)=false:=by rfl) :
  PE X (.Call (.Attribute o name apos) (e::es) [] cpos) (tBM X.K T r to t):=by
 intro jP s σ H Q I h;refine wpAny_Call_method_late hbase hfew hline rfl (thn (ho jP s σ H _ I h) λ v s1 ⟨x,H1,I1,r1,ty,q1⟩=>?_);obtain⟨h1,h2⟩:=zJP I1 r1 ty;refine⟨T,id,pa,slot,hty,h1,h2,?_⟩;have hA:=ha cpos jP s1 σ H1 _ I1 q1;rw[hs] at hA ⊢;refine Calls.callWith_builtin (by show (false || (backTo cpos (starEach es X.env)).any (·.1))=false;rw[hplain]<;>rfl) (Calls.evalArgs_plain ?_);exact thn hA λ us s2 ⟨vs,H2,I2,r2,q2⟩=>hm jP s2 σ H2 x vs v us Q I2 r1 r2 q2
end
def MtM (X:Cx) (id:String) (r:V->List V->Hp->VK->Prop):Prop :=
 ∀(jP:List (Addr × Obj)) (s:Shared) (σ:St) (H:Hp) (x:V) (xs:List V) (v:Value) (us:List Value) (Q:VK),Inv X jP σ H s->RelV x v->Vals xs us->r x xs H Q ->
  wpAny (model X.prog X.w) X.A (call (.builtin id) (v::us)) (EP X jP σ Q) X.xe s
theorem Vals.one {x:V}{us:List Value}(h:Vals [x] us):∃u,us=[u]/\RelV x u:=by
 cases h with|cons r t=>cases t;exact⟨_,rfl,r⟩
theorem Vals.zero:∀{us:List Value},Vals [] us->us=[]
 |_,.nil=>rfl
theorem Vals.dropLast {xs:List V}{us:List Value}(h:Vals xs us):Vals xs.dropLast us.dropLast:=by
 induction h with
 |nil=>exact .nil
 |cons r t ih =>
  cases t with
  |nil=>exact .nil
  |cons q t'=>exact .cons r ih
theorem zG8 {α:Type}(l:List α):l.eraseIdx (l.length - 1)=l.dropLast:=by
 induction l with
 |nil=>rfl
 |cons a r ih =>
  cases r with
  |nil=>rfl
  |cons b r =>
   have e:(a::b::r).length - 1=((b::r).length - 1)+1:=by
    have h1:(a::b::r).length=r.length+2:=rfl;have h2:(b::r).length=r.length+1:=rfl;omega
   rw[e,List.eraseIdx_cons_succ,ih]
   all_goals rfl
section
variable {X:Cx}{jP:List (Addr × Obj)}{σ:St}{H:Hp}{s:Shared}{l b:Addr}{xs ys zs:List V}
theorem Inv.lset {its its':List Value}{n:Nat}{f:Array Value->Array Value}{t':Nat}(I:Inv X jP σ H s) (hH:H l=some (.lst xs))
  (e:s.heap.get? l=some { cls:=.type "list", data:=.seq its.toArray n }) (hf:f its.toArray=its'.toArray) (hv:Vals ys its') (hz:ys.length<=sizeLine) :
  Inv X jP σ (upd H l (.lst ys)) { s with heap:=s.heap.update l (Obj.mapSeq f),toks:=t' }:=by
 have q:=PySem.IsL.update e f;rw[hf] at q;refine I.write (x:=l) (e:=l) (by rw[hH];exact trivial) (.inl rfl) (λ b' u hb hu=>(Heap.get?_update_other s.heap (Obj.mapSeq f) (Ne.symm hb)).trans hu) ⟨_,q⟩ ?_;exact⟨hz,its',_,hv,q⟩
theorem Inv.lnew {its:List Value}{t':Nat}(I:Inv X jP σ H s) (hv:Vals ys its) (hz:ys.length<=sizeLine) :
  Inv X jP σ (upd H s.heap.objs.size (.lst ys)) { s with heap:=s.heap.push { cls:=.type "list", data:=.seq its.toArray },toks:=t' } :=
 I.laid (λ U U q=>lG _ q) (lP _) ⟨hz,its,0,hv,lH _ rfl⟩
theorem Inv.fresh (I:Inv X jP σ H s):H s.heap.objs.size=none:=I.hok.fresh (lP _)
theorem Inv.lstM (I:Inv X jP σ H s) (hH:H l=some (.lst xs)):xs.length<=sizeLine/\∃(its:List Value) (n:Nat),Vals xs its/\xs.length=its.length/\s.heap.get? l=some { cls:=.type "list", data:=.seq its.toArray n }:=by
 obtain⟨z,its,n,r,e⟩:=I.hok l _ hH;exact⟨z,its,n,r,r.length,e⟩
theorem zGU {n:Nat}(h:n<=sizeLine):Builtin.List.listTooLong n=false:=by
 unfold Builtin.List.listTooLong;exact decide_eq_false (by omega)
end
section
variable {X:Cx}
inductive zHi (x:V) (vs:List V) (H:Hp) (Q:VK):Prop
 |mk (l:Addr) (xs:List V) (y:V) (hx:x = .ref l) (hv:vs=[y]) (e:H l=some (.lst xs)) (z:xs.length<sizeLine) (q:Q .non (upd H l (.lst (xs++[y]))))
theorem zDc:MtM X "list.append" zHi:=by
 intro jP s σ H x vs v us Q I rx rv h;obtain⟨l,xs,y,rfl,rfl,hH,hz,q⟩:=h;cases rx;obtain⟨u,rfl,ru⟩:=rv.one;obtain⟨z,its,n,r,hl,e⟩:=I.lstM hH;refine call_meets F.slot_list_append ⟨_,e,rfl⟩ F.entry_list_append (F.args_list_append_2 _ _) (PySem.list_append l its.toArray n u (by rw[lS];omega)) ⟨e,?_⟩;refine⟨.non,_,I.lset (its':=its++[u]) hH e (by simp) (r.append (.cons ru .nil)) ?_,rfl,q⟩;rw[mL,List.length_singleton];omega
theorem pAp {X:Cx}{o e:Expr}{to te:TE}{apos cpos pos:Pos}(ho:PE X o to)(he:PE X e te)(h1:attributeBase o "append" X.env (eval o X.env)=eval o X.env:=by rfl)(h2:((backTo cpos (starEach [e] X.env)).all (λ x=>!x.1)&&(backToKw cpos (keywordEach [] X.env)).all (λ x=>x.1.isSome)&&decide ([e].length+([]:List Keyword).length+(if ([]:List Keyword).isEmpty then 0 else 1)<30))=true:=by rfl)(h3:(apos.endLine==cpos.line)=true:=by rfl)(h4:starEach [e] X.env=(false,eval e X.env)::starEach [] X.env:=by rfl)(h5:(backTo cpos (starEach [] X.env)).any (·.1)=false:=by rfl)(h6:swapsWith (.Call (.Attribute o "append" apos) [e] [] cpos) none pos.line X.env=pure false:=by rfl):PS X (.Expr (.Call (.Attribute o "append" apos) [e] [] cpos) pos) (tDrop (tBM X.K "list" zHi to (tCons te tNil))):=zA4 (pe_bm rX PySem.F.slot_list_append PySem.F.type_list_append zDc ho (zAB he zAD h4) h1 h2 h3 h4 h5) h6
def zKA:V->List V->Hp->VK->Prop:=λ x vs H Q=>∃l b xs zs,x = .ref l/\vs=[.ref b]/\H l=some (.lst xs)/\H b=some (.lst zs)/\xs.length+zs.length<=sizeLine/\Q .non (upd H l (.lst (xs++zs)))
theorem zH3:MtM X "list.extend" zKA:=by
 intro jP s σ H x vs v us Q I rx rv h;obtain⟨l,b,xs,zs,rfl,rfl,hH,hB,hz,q⟩:=h;cases rx;obtain⟨u,rfl,ru⟩:=rv.one;cases ru;obtain⟨z,its,n,r,hl,e⟩:=I.lstM hH;obtain⟨z2,its2,n2,r2,hl2,e2⟩:=I.lstM hB;have hsz:its.toArray.size+its2.toArray.size<=sizeLine:=by rw[lS,lS];omega
 have hlong:¬(!its.toArray.isEmpty && Builtin.List.listTooLong (its.toArray.size+its2.toArray.size))=true:=by
  rw[zGU hsz,Bool.and_false];exact lV
 refine call_meets F.slot_list_extend ⟨_,e,rfl⟩ F.entry_list_extend (F.args_list_extend_2 _ _)
  (AutoSeq1.list_extend_list_list_0 l its.toArray n b its2.toArray n2 hlong (by rw[lS];omega) (by omega)) ⟨e,e2,?_⟩
 refine⟨.non,_,I.lset (its':=its++its2) hH e (by simp) (r.append r2) ?_,rfl,q⟩;rw[mL];omega
def rPop:V->List V->Hp->VK->Prop:=λ x vs H Q=>∃l xs y,x = .ref l/\vs=[]/\H l=some (.lst xs)/\xs[xs.length - 1]?=some y/\Q y (upd H l (.lst xs.dropLast))
theorem zE9:MtM X "list.pop" rPop:=by
 intro jP s σ H x vs v us Q I rx rv h;obtain⟨l,xs,y,rfl,rfl,hH,hy,q⟩:=h;cases rx;have hus:=rv.zero;subst hus;obtain⟨z,its,n,r,hl,e⟩:=I.lstM hH;obtain⟨u,hu,ru⟩:=r.get hy
 have hy':its.toArray[its.toArray.size - 1]?=some u:=by
  show its.toArray[its.length - 1]?=some u;rw[←nN,←hl];exact hu
 refine call_meets F.slot_list_pop ⟨_,e,rfl⟩ F.entry_list_pop (F.args_list_pop_1 _) (MeetsSeq.list_pop_last l its.toArray n u hy' (by rw[lS];omega)) ⟨e,?_⟩;refine⟨y,_,I.lset (its':=its.dropLast) hH e ?_ r.dropLast ?_,ru,q⟩
 ·show its.toArray.eraseIdxIfInBounds (its.toArray.size - 1)=its.dropLast.toArray
  rw[lS,List.eraseIdxIfInBounds_toArray,zG8]
 ·rw[List.length_dropLast]
  omega
end
section
variable {κ:Type} [DecidableEq κ]
noncomputable def valV (kvs:List (κ × V)) (k:κ):Option V:=(kvs.find? λ kv=>decide (kv.1=k)).map (·.2)
noncomputable def putK (kvs:List (κ × V)) (k:κ) (v:V):List (κ × V) :=
 if (kvs.any λ kv=>decide (kv.1=k))=true then kvs.map (λ kv=>if kv.1=k then (kv.1,v) else kv) else kvs++[(k,v)]
theorem zA6 {p:κ × V}{r:List (κ × V)}{k:κ}(e:p.1=k):valV (p::r) k=some p.2:=by simp[valV,List.find?_cons,e]
theorem zA7 {p:κ × V}{r:List (κ × V)}{k:κ}(e:¬p.1=k):valV (p::r) k=valV r k:=by simp[valV,List.find?_cons,e]
theorem zBy (k:κ):∀kvs:List (κ × V),(kvs.any λ kv=>decide (kv.1=k))=(valV kvs k).isSome
 |[]=>rfl
 |p::r=>by
  rw[List.any_cons]
  by_cases e:p.1=k
  ·simp only[zA6 e,decide_eq_true e,Bool.true_or,Option.isSome_some]
  ·rw[zA7 e,decide_eq_false e,Bool.false_or];exact zBy k r
theorem zF3 (k j:κ) (y:V):∀kvs:List (κ × V),valV (kvs.map λ kv=>if kv.1=k then (kv.1,y) else kv) j=(valV kvs j).map λ x=>if j=k then y else x
 |[]=>rfl
 |p::r=>by
  have ih:=zF3 k j y r;rw[mM]
  by_cases h:p.1=k
  ·rw[if_pos h]
   by_cases e:p.1=j
   ·rw[zA6 (p:=(p.1,y)) e,zA6 e,Option.map_some,if_pos (e.symm.trans h)]
   ·rw[zA7 (p:=(p.1,y)) e,zA7 e,ih]
  ·rw[if_neg h]
   by_cases e:p.1=j
   ·rw[zA6 (p:=p) e,zA6 e,Option.map_some,if_neg (λ z=>h (e.trans z))]
   ·rw[zA7 (p:=p) e,zA7 e,ih]
theorem zEq (k j:κ) (y:V):∀kvs:List (κ × V),valV kvs k=none->valV (kvs++[(k,y)]) j=if j=k then some y else valV kvs j
 |[],_=>by
  by_cases e:k=j
  ·rw[if_pos e.symm];exact zA6 (p:=(k,y)) e
  ·rw[if_neg (λ z=>e z.symm)];exact zA7 (p:=(k,y)) e
 |p::r,hn=>by
  rw[List.cons_append];have hk:¬p.1=k:=λ z=>by rw[zA6 z] at hn;cases hn
  rw[zA7 hk] at hn;have ih:=zEq k j y r hn
  by_cases e:p.1=j
  ·rw[zA6 e,zA6 e,if_neg (λ z=>hk (e.trans z))]
  ·rw[zA7 e,zA7 e,ih]
theorem zCh (kvs:List (κ × V)) (k j:κ) (y:V):valV (putK kvs k y) j=if j=k then some y else valV kvs j:=by
 unfold putK
 by_cases a:(kvs.any λ kv=>decide (kv.1=k))=true
 ·rw[if_pos a,zF3]
  rw[zBy] at a
  by_cases e:j=k
  ·obtain⟨x,hx⟩:=Option.isSome_iff_exists.mp a
   rw[if_pos e,e,hx,Option.map_some,if_pos rfl]
  ·rw[if_neg e]
   cases valV kvs j with
   |none=>rfl
   |some x=>rw[Option.map_some,if_neg e]
 ·rw[if_neg a]
  refine zEq k j y kvs ?_;rw[zBy] at a;cases q:valV kvs k with
  |none=>rfl
  |some x=>rw[q] at a;exact(a rfl).elim
theorem zBh (kvs:List (κ × V)) (k:κ) (v:V):(putK kvs k v).length<=kvs.length+1:=by
 unfold putK;split
 ·rw[lC];omega
 ·rw[mL,mN,List.length_nil];omega
theorem RelO.isSome_eq {o:Option V}{u:Option Value}(r:RelO o u):o.isSome=u.isSome:=by
 cases o with
 |none=>cases u with
  |none=>rfl
  |some _=>exact(show False from r).elim
 |some _=>cases u with
  |none=>exact(show False from r).elim
  |some _=>rfl
theorem RelO.getD {o:Option V}{u:Option Value}{d:V}{d':Value}(r:RelO o u) (rd:RelV d d'):RelV (o.getD d) (u.getD d'):=by
 cases o with
 |none=>cases u with
  |none=>exact rd
  |some _=>exact(show False from r).elim
 |some _=>cases u with
  |none=>exact(show False from r).elim
  |some _=>exact r
theorem KV.val {kvs:List (κ × V)}{vs:List (κ × Value)}(r:KV kvs vs) (k:κ):RelO (valV kvs k) (valueAt vs k):=by
 unfold KV at r
 induction r with
 |nil=>exact True.intro
 | @cons p q ps qs h t ih =>
  obtain⟨h1,h2⟩:=h
  by_cases e:p.1=k
  ·have e':q.1=k:=h1.symm.trans e
   have b:valueAt (q::qs) k=some q.2:=by simp[valueAt,List.find?_cons,e']
   rw[zA6 e,b];exact h2
  ·have e':¬q.1=k:=λ z=>e (h1.trans z)
   have b:valueAt (q::qs) k=valueAt qs k:=by simp[valueAt,List.find?_cons,e']
   rw[zA7 e,b];exact ih
theorem KV.any {kvs:List (κ × V)}{vs:List (κ × Value)}(r:KV kvs vs) (k:κ):(kvs.any λ kv=>decide (kv.1=k))=vs.any λ kv=>decide (kv.1=k):=by
 unfold KV at r
 induction r with
 |nil=>rfl
 |cons h t ih=>rw[List.any_cons,List.any_cons,ih,h.1]
theorem KV.repl {kvs:List (κ × V)}{vs:List (κ × Value)}(r:KV kvs vs) (k:κ) {y:V}{u:Value}(ry:RelV y u) :
  KV (kvs.map λ kv=>if kv.1=k then (kv.1,y) else kv) (vs.map λ kv=>if kv.1=k then (kv.1,u) else kv):=by
 unfold KV at r ⊢
 induction r with
 |nil=>exact .nil
 | @cons p q ps qs h t ih =>
  rw[mM,mM];refine .cons ?_ ih;obtain⟨h1,h2⟩:=h
  by_cases e:p.1=k
  ·rw[if_pos e,if_pos (h1.symm.trans e)];exact⟨h1,ry⟩
  ·rw[if_neg e,if_neg (λ z=>e (h1.trans z))];exact⟨h1,h2⟩
theorem KV.put {kvs:List (κ × V)}{vs:List (κ × Value)}(r:KV kvs vs) (k:κ) {y:V}{u:Value}(ry:RelV y u):KV (putK kvs k y) (stored vs k u):=by
 unfold putK stored;rw[r.any k]
 by_cases e:(vs.any λ kv=>decide (kv.1=k))=true
 ·rw[if_pos e,if_pos e];exact r.repl k ry
 ·rw[if_neg e,if_neg e];exact Paired.snoc r ⟨rfl,ry⟩
theorem KV.length {kvs:List (κ × V)}{vs:List (κ × Value)}(r:KV kvs vs):kvs.length=vs.length:=Paired.length r
end
theorem kV_is {P:Program}{w:World}{k:Key}{u:Value}(r:RelV (kV k) u):(zAo P w).is k u=true:=by
 cases k with
 |inl i=>obtain⟨t,e⟩:=(show ∃t,u=Value.int i t from r);subst e;exact zFm P w i t
 |inr x=>obtain⟨t,e⟩:=(show ∃t,u=Value.str x t from r);subst e;exact zFl P w x t
theorem zFC {P:Program}{w:World}:∀{ks:List Key}{us:List Value},Vals (ks.map kV) us->ItemsAre (zAo P w) ks us
 |[],_,r=>by rw[List.map_nil] at r;cases r;exact .nil
 |k::ks,_,r=>by
  rw[mM] at r;cases r with
  |cons h t=>exact .cons (kV_is h) (zFC t)
abbrev KT (H:Hp):List (List Key × V)->List (List Key × Addr × Value)->Prop:=Paired λ p q=>p.1=q.1/\H q.2.1=some (.tup (p.1.map kV))/\RelV p.2 q.2.2
theorem KT.val {H:Hp}{kvs:List (List Key × V)}{xs:List (List Key × Addr × Value)}(r:KT H kvs xs) (k:List Key):RelO (valV kvs k) ((atKey xs k).map (·.2)):=by
 induction r with
 |nil=>exact True.intro
 | @cons p q ps qs h t ih =>
  obtain⟨h1,_,h2⟩:=h
  by_cases e:p.1=k
  ·have e':q.1=k:=h1.symm.trans e
   have b:atKey (q::qs) k=some q.2:=by simp[atKey,List.find?_cons,e']
   rw[zA6 e,b];exact h2
  ·have e':¬q.1=k:=λ z=>e (h1.trans z)
   have b:atKey (q::qs) k=atKey qs k:=by simp[atKey,List.find?_cons,e']
   rw[zA7 e,b];exact ih
theorem KT.repl {H:Hp}{kvs:List (List Key × V)}{xs:List (List Key × Addr × Value)}(r:KT H kvs xs) (k:List Key) {y:V}{u:Value}(ry:RelV y u) :
  KT H (kvs.map λ kv=>if kv.1=k then (kv.1,y) else kv) (xs.map (putAt k u)):=by
 induction r with
 |nil=>exact .nil
 | @cons p q ps qs h t ih =>
  rw[mM,mM];refine .cons ?_ ih;obtain⟨h1,h2,h3⟩:=h;unfold putAt
  by_cases e:p.1=k
  ·rw[if_pos e,if_pos (h1.symm.trans e)];exact⟨h1,h2,ry⟩
  ·rw[if_neg e,if_neg (λ z=>e (h1.trans z))];exact⟨h1,h2,h3⟩
theorem KT.put {H:Hp}{kvs:List (List Key × V)}{xs:List (List Key × Addr × Value)}(r:KT H kvs xs) (k:List Key) {b:Addr}{y:V}{u:Value}(hb:H b=some (.tup (k.map kV))) (ry:RelV y u) :
  KT H (putK kvs k y) (storedH xs k b u):=by
 have e:(kvs.any λ kv=>decide (kv.1=k))=(atKey xs k).isSome:=by
  rw[zBy,(r.val k).isSome_eq,Option.isSome_map]
 unfold putK storedH;rw[e]
 by_cases q:(atKey xs k).isSome=true
 ·rw[if_pos q,if_pos q];exact r.repl k ry
 ·rw[if_neg q,if_neg q];exact Paired.snoc r ⟨rfl,hb,ry⟩
theorem KT.keeps {H H':Hp}{kvs:List (List Key × V)}{xs:List (List Key × Addr × Value)}(r:KT H kvs xs) (ht:∀b ys,H b=some (.tup ys)->H' b=some (.tup ys)):KT H' kvs xs :=
 Paired.mapP r λ U U z=>⟨z.1,ht _ _ z.2.1,z.2.2⟩
section
variable {P:Program}{w:World}{H:Hp}{h:Heap}{a:Addr}
theorem rd_of {u:HO}(ok:HOk P w H h) (e:Rd H a u):ObjOk P w H h a u:=e.ok ok
theorem dk_rd {kvs:List (Key × V)}(ok:HOk P w H h) (e:Rd H a (.dK kvs)):kvs.length<=sizeLine/\(a == sysModules)=false/\∃vs,KV kvs vs/\h.DictOf (zAo P w) a vs :=
 show ObjOk P w H h a (.dK kvs) from rd_of ok e
theorem dk_of {kvs:List (Key × V)}(ok:HOk P w H h) (e:H a=some (.dK kvs)):kvs.length<=sizeLine/\(a == sysModules)=false/\∃vs,KV kvs vs/\h.DictOf (zAo P w) a vs:=dk_rd ok (.inl e)
theorem zGX {ks:List Key}(ok:HOk P w H h) (e:H a=some (.tup (ks.map kV))):(tupleKind (zAo P w)).is h ks a:=by
 obtain⟨_,its,r,o,h1,h2,n,h3⟩:=(show ObjOk P w H h a (.tup (ks.map kV)) from ok a _ e);exact⟨o,its.toArray,n,h1,h2,h3,by simpa using zFC r⟩
theorem dt_rd {kvs:List (List Key × V)}(ok:HOk P w H h) (e:Rd H a (.dT kvs)):kvs.length<=sizeLine/\(a == sysModules)=false /\
  ∃xs,KT H kvs xs/\h.DictOfH (tupleKind (zAo P w)) a xs:=by
 obtain⟨z,y,xs,r,o,es,ep,h1,h2,h3,h4,h5⟩:=(show ObjOk P w H h a (.dT kvs) from rd_of ok e);refine⟨z,y,xs,r,o,es,ep,h1,h2,h3,h4,λ x hx=>?_,h5⟩
 have all:∀{l:List (List Key × V)}{m:List (List Key × Addr × Value)},KT H l m->∀x∈m,(tupleKind (zAo P w)).is h x.1 x.2.1:=by
  intro l m q
  induction q with
  |nil=>intro x hx;exact nomatch hx
  | @cons p q ps qs hq t ih =>
   intro x hx;rcases lM.mp hx with e|hx
   ·subst e
    exact zGX ok (by rw[←hq.1];exact hq.2.1)
   ·exact ih x hx
 exact all r x hx
theorem dt_of {kvs:List (List Key × V)}(ok:HOk P w H h) (e:H a=some (.dT kvs)):kvs.length<=sizeLine/\(a == sysModules)=false /\
  ∃xs,KT H kvs xs/\h.DictOfH (tupleKind (zAo P w)) a xs:=dt_rd ok (.inl e)
end
def DGet (H:Hp) (a:Addr) (y:V) (r:Option V):Prop :=
 (∃kvs k,Rd H a (.dK kvs)/\y=kV k/\r=valV kvs k)\/∃kvs k b,Rd H a (.dT kvs)/\y = .ref b/\H b=some (.tup (k.map kV))/\r=valV kvs k
def DPut (H:Hp) (a:Addr) (y v:V) (H':Hp):Prop :=
 (∃kvs k,H a=some (.dK kvs)/\y=kV k/\kvs.length<sizeLine/\H'=upd H a (.dK (putK kvs k v))) \/
 ∃kvs k b,H a=some (.dT kvs)/\y = .ref b/\H b=some (.tup (k.map kV))/\kvs.length<sizeLine/\H'=upd H a (.dT (putK kvs k v))
theorem DGet.k {H:Hp}{a:Addr}{kvs:List (Key × V)}{k:Key}(e:H a=some (.dK kvs)):DGet H a (kV k) (valV kvs k):=.inl ⟨kvs,k,.inl e,rfl,rfl⟩
theorem DPut.k {H:Hp}{a:Addr}{kvs:List (Key × V)}{k:Key}{v:V}(e:H a=some (.dK kvs)) (hl:kvs.length<sizeLine):DPut H a (kV k) v (upd H a (.dK (putK kvs k v))):=.inl ⟨kvs,k,e,rfl,hl,rfl⟩
section
variable {X:Cx}{jP:List (Addr × Obj)}{σ:St}{H:Hp}{s:Shared}{a:Addr}{y v:V}{u r:Value}{o:Option V}{A:Around}{E:XQ}
theorem Inv.big (I:Inv X jP σ H s):sysModules<s.heap.objs.size:=by
 have h:mainGlobals<s.heap.objs.size:=(I.mod.glob.keeps I.bk).lt;exact Nat.lt_trans (by decide) h
theorem zIQ {Q:XQ}(hu:A.units+1<cLine) (I:Inv X jP σ H s) (g:DGet H a y (some v)) (ry:RelV y u) (h:∀w' s',Inv X jP σ H s'->RelV v w'->Q w' s') :
  wpAny (model X.prog X.w) A (getItem (.ref a) u) Q E s:=by
 rcases g with ⟨kvs,k,e,ey,l⟩|⟨kvs,k,b,e,ey,eb,l⟩
 ·subst ey
  obtain⟨z,hd,vs,rel,dd⟩:=dk_rd I.hok e;obtain⟨w',hw,rw'⟩:=RelO.some_of (v:=v) (o:=valueAt vs k) (by rw[l];exact rel.val k);exact wpAny_getItem_of (kV_is ry) dd.mapOf hw (h w' _ (I.tok _) rw')
 ·subst ey
  cases (show u=Value.ref b from ry);obtain⟨z,hd,xs,rel,dd⟩:=dt_rd I.hok e;obtain⟨w',hw,rw'⟩:=RelO.some_of (v:=v) (o:=(atKey xs k).map (·.2)) (by rw[l];exact rel.val k);obtain⟨p,hp,hp2⟩:=lT.mp hw;refine wpAny_getItem_heap (tupleKind_room_in1 hu) (zGX I.hok eb) dd hp ?_;rw[hp2];exact h w' _ (I.tok _) rw'
theorem d_in {Q:XQ}(hu:A.units+1<cLine) (I:Inv X jP σ H s) (g:DGet H a y o) (ry:RelV y u) (h:∀s',Inv X jP σ H s'->Q (.bool o.isSome) s') :
  wpAny (model X.prog X.w) A (compareOp .In u (.ref a)) Q E s:=by
 rcases g with ⟨kvs,k,e,ey,l⟩|⟨kvs,k,b,e,ey,eb,l⟩
 ·subst ey
  obtain⟨z,hd,vs,rel,dd⟩:=dk_rd I.hok e;refine wpAny_in_of (kV_is ry) hd dd.mapOf ?_;rw[←(rel.val k).isSome_eq,←l];exact h _ (I.tok _)
 ·subst ey
  cases (show u=Value.ref b from ry);obtain⟨z,hd,xs,rel,dd⟩:=dt_rd I.hok e;refine wpAny_in_heap (tupleKind_room_in1 hu) (zGX I.hok eb) hd dd ?_;have q:=(rel.val k).isSome_eq;rw[Option.isSome_map] at q;rw[←q,←l];exact h _ (I.tok _)
theorem zEk {h':Heap}{t':Nat}{ob:HO}(I:Inv X jP σ H s) (mu:Mut (H a)) (hs:Heap.SameBut a s.heap h') (he:∃q,h'.get? a=some q) (new:ObjOk X.prog X.w (upd H a ob) h' a ob) :
  Inv X jP σ (upd H a ob) { s with heap:=h',toks:=t' } :=
 I.write (x:=a) (e:=a) mu (.inl rfl) (λ b q hb z=>(hs.2 b hb).trans z) he new
theorem zGb {P:Program}{w:World}{H':Hp}{h':Heap}{kvs:List (Key × V)}{vs:List (Key × Value)}(z:kvs.length<=sizeLine) (hd:(a == sysModules)=false) (rel:KV kvs vs) (dd:h'.DictOf (zAo P w) a vs) :
  ObjOk P w H' h' a (.dK kvs):=⟨z,hd,vs,rel,dd⟩
theorem zIP {H':Hp}{Q:Unit->Shared->Prop}(hu:A.units+1<cLine) (I:Inv X jP σ H s) (g:DPut H a y v H') (ry:RelV y u) (rv:RelV v r) (h:∀s',Inv X jP σ H' s'->Q () s') :
  wpAny (model X.prog X.w) A (setItem (.ref a) u r) Q E s:=by
 rcases g with ⟨kvs,k,e,ey,l,eH⟩|⟨kvs,k,b,e,ey,eb,l,eH⟩
 ·subst ey eH
  obtain⟨z,hd,vs,rel,dd⟩:=dk_of I.hok e;have hz:vs.length<=sizeLine:=by rw[←rel.length];exact z
  have hl:(putK kvs k v).length<=sizeLine:=by have:=zBh kvs k v;omega
  refine wpAny_setItem_pairs (hsz:=hz) (kV_is ry) dd λ h' dd' hs=>h _ ?_;have he:∃q,h'.get? a=some q:=let ⟨q,_,_,hq,_⟩:=dd';⟨q,hq⟩;exact zEk I (by rw[e];exact True.intro) hs he (zGb hl hd (rel.put k rv) dd')
 ·subst ey eH
  cases (show u=Value.ref b from ry);obtain⟨z,hd,xs,rel,dd⟩:=dt_of I.hok e;have hz:xs.length<=sizeLine:=by rw[←Paired.length rel];exact z
  have hl:(putK kvs k v).length<=sizeLine:=by have:=zBh kvs k v;omega
  refine wpAny_setItem_heap (hsz:=hz) (tupleKind_room_in1 hu) (zGX I.hok eb) dd λ h' dd' hs=>h _ ?_;obtain⟨q,es,ep,hq,h2,h3,h4,_,h5⟩:=dd';refine zEk I (by rw[e];exact True.intro) hs ⟨q,hq⟩ ⟨hl,hd,_,(rel.put k eb rv).keeps λ c ys ec=>?_,q,es,ep,hq,h2,h3,h4,h5⟩;rw[zAJ (ne_of ec e (λ z=>nomatch z))]
  exact ec
end
def NoSl (i:Expr):Prop:=∀ov iv,subscripted i false ov iv=operate [ov,iv] (getItem ov iv)
theorem zHO {prog:Program}{w:World}{A:Around}{E:XQ}{s:Shared}{env:Env}{value slice:Expr}{pos:Pos}{T id:String}{Q:XQ}
  (hl:typeLookup (.type T) "__getitem__" = pure (some (.builtin id))) (hs:NoSl slice)
  (h:wpAny (model prog w) A (eval value env) (λ o s₁=>wpAny (model prog w) A (eval slice env) (λ i s₂=>s₂.TypeIs o T/\wpAny (model prog w) A (getItem o i) Q E s₂) E s₁) E s) :
  wpAny (model prog w) A (eval (.Subscript value slice pos) env) Q E s:=by
 refine Subscript_ (wpAny_mono h (λ o s₁ h₁=>wpAny_mono h₁ (λ i s₂ h₂=>?_) λ U U x=>x) λ U U x=>x);obtain⟨hT,h₂⟩:=h₂;unfold subscriptTail;refine lA ?_;rw[getitemInPython_of_ne hT.not_modules];refine lA (wpAny_specialOf hT hl ?_)
 have fin:wpAny (model prog w) A (subscripted slice false o i) (λ r s₃=>wpAny (model prog w) A (letTemporaryGo value o r >>= λ U=>pure r) Q E s₃) E s₂:=by
  rw[hs o i];exact wpAny_operating (wpAny_mono h₂ (λ r s₃ h₃=>lA (wpAny_letTemporaryGo (lB h₃))) λ U U x=>x)
 first
  |exact lB (lA fin)
  |exact lA (lB (lA fin))
  |exact lA fin
theorem zFw {X:Cx}{jP:List (Addr × Obj)}{σ:St}{H:Hp}{s:Shared}{a:Addr}{y:V}{o:Option V}(I:Inv X jP σ H s) (g:DGet H a y o):s.TypeIs (.ref a) "dict" := by
 rcases g with ⟨kvs,k,e,_,_⟩|⟨kvs,k,b,e,_,_,_⟩
 ·obtain⟨_,_,vs,_,dd⟩:=dk_rd I.hok e
  exact dd.typeIs
 ·obtain⟨_,_,xs,_,dd⟩:=dt_rd I.hok e
  exact dd.typeIs
inductive IsG (Q:VK) (x y:V) (H:Hp):Prop
 |mk (a:Addr) (v:V) (h:x = .ref a) (g:DGet H a y (some v)) (q:Q v H)
def tDGet (td ty:TE):TE:=λ σ H Q=>td σ H λ x H1=>ty σ H1 (IsG Q x)
inductive IsP (N:Hp->Prop) (v x y:V) (H:Hp):Prop
 |mk (a:Addr) (H4:Hp) (h:x = .ref a) (p:DPut H a y v H4) (q:N H4)
def sDPut (td ty tv:TE):TS:=λ D σ H=>tv σ H λ v H1=>td σ H1 λ x H2=>ty σ H2 (IsP (D.nx σ) v x)
section
variable {X:Cx}{o i e value:Expr}{pos pos' tpos:Pos}{td ty tv:TE}
theorem zBg (hu:X.A.units+1<cLine) (ho:PE X o td) (hi:PE X i ty) (hs:NoSl i):PE X (.Subscript o i pos) (tDGet td ty):=by
 intro jP s σ H Q I h;refine zHO PySem.F.slot_dict_getitem.lookup hs (thn (ho jP s σ H _ I h) λ u s1 ⟨x,H1,I1,rx,q1⟩=>thn (hi jP s1 σ H1 _ I1 q1) λ iv s2 ⟨y,H2,I2,ry,a,v,ex,g,q2⟩=>?_);subst ex;obtain rfl:u=Value.ref a:=rx;exact⟨zFw I2 g,zIQ hu I2 g ry λ w' s3 I3 rw'=>⟨v,H2,I3,rw',q2⟩⟩
theorem zEX (hu:X.A.units+1<cLine) (ho:PE X o td) (hi:PE X i ty) (hv:PE X value tv) (hs:swapsWith value (some (.Subscript o i pos')) pos.line X.env=pure false) :
  PS X (.Assign [.Subscript o i pos'] value pos) (sDPut td ty tv):=by
 intro jP s σ H D I h;refine wpAny_Assign_Subscript (thn (hv jP s σ H _ I h) λ r s1 ⟨v,H1,I1,rv,q1⟩=>thn (ho jP s1 σ H1 _ I1 q1) λ u s2 ⟨x,H2,I2,rx,q2⟩=>thn (hi jP s2 σ H2 _ I2 q2) λ iv s3 ⟨y,H3,I3,ry,a,H4,ex,g,q3⟩=>?_) hs;subst ex;obtain rfl:u=Value.ref a:=rx;exact zIP hu I3 g ry rv λ s4 I4=>⟨σ,H4,I4,q3⟩
end
theorem zGc {P:Program}{w:World}{H:Hp}(h:Heap) (hb:sysModules<h.objs.size):ObjOk P w H (h.push { cls:=.type "dict", data:=.dict #[] }) h.objs.size (.dK []) :=
 ⟨lX _,beq_eq_false_iff_ne.mpr (Ne.symm (lQ hb)),[],.nil,Heap.DictOf.new h⟩
def zLC:TE:=λ U H Q=>∀p,H p=none->Q (.ref p) (upd H p (.dK []))
section
variable {X:Cx}{pos:Pos}
theorem zDJ:PE X (.Dict [] [] pos) zLC:=λ jP s σ H Q I h =>
 wpAny_Dict_empty ⟨.ref s.heap.objs.size,_,I.laid (a:=s.heap.objs.size) (o:=.dK []) (t':=s.toks) (λ U U q=>lG _ q) (lP _) (zGc s.heap I.big),rfl,h _ (I.hok.fresh (lP _))⟩
end
def zHM:List (TE × TE)->St->Hp->(List (V × V)->Hp->Prop)->Prop
 |[],_,H,Q=>Q [] H
 | (tk,tv)::r,σ,H,Q=>tk σ H λ x H1=>tv σ H1 λ y H2=>zHM r σ H2 λ ps H3=>Q ((x,y)::ps) H3
abbrev VV:List (V × V)->List (Value × Value)->Prop:=Paired λ p q=>RelV p.1 q.1/\RelV p.2 q.2
def PPs (X:Cx) (pos:Pos) (keys:List (Option Expr)) (values:List Expr) (trs:List (TE × TE)):Prop :=
 ∀(jP:List (Addr × Obj)) (s:Shared) (σ:St) (H:Hp) (Q:List (V × V)->Hp->Prop),Inv X jP σ H s->zHM trs σ H Q ->
  wpAny (model X.prog X.w) X.A (evalPairs (pairTrees keys values X.env pos)) (λ vs s'=>∃ps H',Inv X jP σ H' s'/\VV ps vs/\Q ps H') X.xe s
theorem zKI {X:Cx}{pos:Pos}:PPs X pos [] [] []:=λ jP s σ H Q I h=>pairTrees_nil_walk ⟨[],H,I,.nil,h⟩
theorem zIp {X:Cx}{pos:Pos}{k v:Expr}{ks:List (Option Expr)}{vs:List Expr}{tk tv:TE}{trs:List (TE × TE)}(hk:PE X k tk) (hv:PE X v tv) (hr:PPs X pos ks vs trs) :
  PPs X pos (some k::ks) (v::vs) ((tk,tv)::trs):=λ jP s σ H Q I h =>
 pairTrees_cons_walk (thn (hk jP s σ H _ I h) λ u s1 ⟨x,H1,I1,rx,q1⟩=>thn (hv jP s1 σ H1 _ I1 q1) λ w2 s2 ⟨y,H2,I2,ry,q2⟩ =>
  thn (hr jP s2 σ H2 _ I2 q2) λ ws s3 ⟨ps,H3,I3,rel,q3⟩=>⟨(x,y)::ps,H3,I3,.cons ⟨rx,ry⟩ rel,q3⟩)
noncomputable def zA3 (kvs more:List (Key × V)):List (Key × V):=more.foldl (λ acc kv=>putK acc kv.1 kv.2) kvs
theorem KV.merge:∀{more:List (Key × V)}{rs:List (Key × Value)}{kvs:List (Key × V)}{vs:List (Key × Value)},KV more rs->KV kvs vs->KV (zA3 kvs more) (merged vs rs):=by
 intro more rs kvs vs r;unfold KV at r
 induction r generalizing kvs vs with
 |nil=>intro q;exact q
 | @cons p q ps qs h t ih =>
  intro r0
  have e:KV (putK kvs p.1 p.2) (stored vs q.1 q.2):=by
   have:=r0.put p.1 h.2;rw[←h.1];exact this
  exact ih e
theorem zB5:∀(more kvs:List (Key × V)),(zA3 kvs more).length<=kvs.length+more.length
 |[],kvs=>by show kvs.length<=kvs.length+0;omega
 |p::r,kvs=>by
  have h1:=zB5 r (putK kvs p.1 p.2);have h2:=zBh kvs p.1 p.2;show (zA3 (putK kvs p.1 p.2) r).length<=_;rw[mN];omega
theorem zEG {P:Program}{w:World}:∀{kvs:List (Key × V)}{ws:List (Value × Value)},VV (kvs.map λ kv=>(kV kv.1,kv.2)) ws->∃rs,Carries (zAo P w) ws rs/\KV kvs rs
 |[],_,r=>by rw[List.map_nil] at r;cases r;exact⟨[],True.intro,.nil⟩
 |p::kvs,_,r=>by
  rw[mM] at r;cases r with
  | @cons a b as bs h t =>
   obtain⟨rs,c,q⟩:=zEG (P:=P) (w:=w) t;obtain⟨b1,b2⟩:=b;exact⟨(p.1,b2)::rs,⟨kV_is h.1,rfl,c⟩,.cons ⟨rfl,h.2⟩ q⟩
def tDisp (trs:List (TE × TE)):TE:=λ σ H Q=>∀p,H p=none->zHM trs σ (upd H p (.dK [])) λ ps H2=>H2 p=some (.dK [])/\∃kvs:List (Key × V),ps=kvs.map (λ kv=>(kV kv.1,kv.2))/\kvs.length<=15/\Q (.ref p) (upd H2 p (.dK (zA3 [] kvs)))
theorem zKP {X:Cx}{pos:Pos}{keys:List (Option Expr)}{values:List Expr}{trs:List (TE × TE)}(h:PPs X pos keys values trs) (hall:keys.all (·.isSome)=true) (hl:keys.length=values.length) (h0:keys≠[])
  (h15:keys.length<=15):PE X (.Dict keys values pos) (tDisp trs):=by
 intro jP s σ H Q I q;have hn:=I.hok.fresh (lP s.heap.objs.size);have I1:=I.laid (a:=s.heap.objs.size) (o:=.dK []) (h':=s.heap.push { cls:=.type "dict", data:=.dict #[] }) (t':=s.toks) (λ U U q=>lG _ q) (lP _) (zGc s.heap I.big);refine wpAny_Dict_walk (knd:=zAo X.prog X.w) hall hl h0 h15 (thn (h jP _ σ _ _ I1 (q _ hn)) λ ws s2 ⟨ps,H2,I2,rel,e,kvs,ep,lk,q2⟩=>?_);subst ep;obtain⟨rs,c,rk⟩:=zEG (P:=X.prog) (w:=X.w) rel;obtain⟨z,hd,vs0,r0,dd⟩:=dk_of I2.hok e;cases r0;refine⟨rs,c,dd,λ h' dd' hs=>⟨.ref s.heap.objs.size,_,?_,rfl,q2⟩⟩
 have hz:(zA3 [] kvs).length<=sizeLine:=by
  have h1:=zB5 kvs [];rw[List.length_nil] at h1;rw[sizeLine_eq];omega
 have he:∃q,h'.get? s.heap.objs.size=some q:=let ⟨q,_,_,hq,_⟩:=dd';⟨q,hq⟩;exact zEk I2 (by rw[e];exact True.intro) hs he (zGb hz hd (rk.merge .nil) dd')
structure M1 (X:Cx) (o:Expr) (m:Str) (apos:Pos) (e:Expr) (cpos:Pos):Prop where
 base:attributeBase o m X.env (eval o X.env)=eval o X.env
 few:((backTo cpos (starEach [e] X.env)).all (λ x=>!x.1) && (backToKw cpos (keywordEach [] X.env)).all (λ x=>x.1.isSome)
  && decide (([e]:List Expr).length+([]:List Keyword).length+(if ([]:List Keyword).isEmpty then 0 else 1)<30))=true
 line:(apos.endLine == cpos.line)=true
 trees:backTo cpos (starEach [e] X.env)=[(false,eval e X.env)]
structure M2 (X:Cx) (o:Expr) (m:Str) (apos:Pos) (e f:Expr) (cpos:Pos):Prop where
 base:attributeBase o m X.env (eval o X.env)=eval o X.env
 few:((backTo cpos (starEach [e,f] X.env)).all (λ x=>!x.1) && (backToKw cpos (keywordEach [] X.env)).all (λ x=>x.1.isSome)
  && decide (([e,f]:List Expr).length+([]:List Keyword).length+(if ([]:List Keyword).isEmpty then 0 else 1)<30))=true
 line:(apos.endLine == cpos.line)=true
 trees:backTo cpos (starEach [e,f] X.env)=[(false,eval e X.env),(false,eval f X.env)]
section
variable {X:Cx}{jP:List (Addr × Obj)}{σ:St}{H:Hp}{s:Shared}{a:Addr}{kvs:List (Key × V)}{A:Around}{E:XQ}
theorem zJK {Q:XQ}(I:Inv X jP σ H s) (e:Rd H a (.dK kvs)) (h:∀p s',H p=none->Inv X jP σ (upd H p (.dK kvs)) s'->Q (.ref p) s'):wpAny (model X.prog X.w) A (call (.type "dict") [.ref a]) Q E s:=by
 obtain⟨z,hd,vs,rel,dd⟩:=dk_rd I.hok e;refine kt_call_dict hd dd (by rw[←rel.length];exact z) λ h' dd' hs=>?_;refine h _ _ (I.hok.fresh (lP _)) (I.laid (a:=s.heap.objs.size) (o:=.dK kvs) (t':=s.toks) (λ b q hq=>?_) (lP _) (zGb z (beq_eq_false_iff_ne.mpr (Ne.symm (lQ I.big))) rel dd'));exact(hs.2 b (lQ (lI hq))).trans (lG _ hq)
end
end L2
namespace Att
open PySem PySem.W PySem.Calls PyProof.Rows
theorem zDi {P:Params}{h:Heap}:∀(ns:List Int) (vs:List Value),WellAll P h vs (ns.map WData.int)->IntsAre vs ns:=by
 intro ns
 induction ns with
 |nil =>
  intro vs w;rw[List.map_nil] at w;cases w;exact .nil
 |cons n ns ih =>
  intro vs w;rw[mM] at w;cases w with
  |cons a b =>
   cases a;exact .cons _ _ (ih _ b)
theorem zHc {l:OpenLaw}{n:Nat}(hn:l.most=some n) {P:Params}{h:Heap}{args:List WData}{vals:List Value}
    (hpre:l.row.toRowW.claim.pre args=true) (hwl:WellAll P h vals args) :
    ∃a vs ns,vals=[Value.ref a]/\args=[WData.list (ns.map WData.int)]/\h.get? a=some { cls:=.type "list", data:=.seq vs.toArray }/\IntsAre vs ns/\ns.length<=n:=by
  have hsh:WShape.hasAll [] args [.list .int]=true:=(pre_splitW hpre).1;have hc:l.pre.holds [] { args:=args }=true:=(pre_splitW hpre).2;obtain⟨d,r,rfl,h1,h2⟩:=hasAllW_cons hsh;obtain rfl:=hasAllW_nil h2;obtain⟨xs,rfl,h3⟩:=hasW_list h1;obtain⟨ns,rfl⟩:=items_int h3
  have hlen:ns.length<=n:=by
    unfold OpenLaw.pre at hc
    have h4:(WTm.not (.lt (.lit (.int (n:Int))) (.len (.arg 0)))).holds [] { args:=[.list (ns.map .int)] }=true:=by
      have h4:=(holds_andW hc).1;rw[hn] at h4;exact h4
    have h5:=condW_of h4 (w_not (w_lt w_lit (w_len_list (w_arg rfl))));rw[lC] at h5;refine Nat.le_of_not_lt λ q=>?_;have q':(n:Int)<((ns.length:Nat):Int):=by omega
    first
      | (rw[decide_eq_true q'] at h5;exact absurd h5 (by decide))
      | (simp at h5;omega)
  cases hwl with
  |cons w1 w2 =>
    cases w2;cases w1 with
    |list ho hall=>exact⟨_,_,ns,rfl,rfl,ho,zDi ns _ hall,hlen⟩
theorem zHj (l:OpenLaw) (args:List WData):l.row.toRowW.claim.post args (.bool true) args=true :=
  postW_of (r:=l.row.toRowW) (X:=(true == true))
    (show WShape.has [] (.bool true) .bool=true by first|rfl|decide|simp[WShape.has,WShape.arms,WShape.armsAll])
    (show (WTm.eq .res (.lit (.bool true))).value [] { args:=args,res:=some (.bool true),after:=args }=some (.bool (true == true)) from w_eq_bool (w_res rfl) w_lit) rfl
theorem attach_call {l:OpenLaw}{n:Nat}{q:Program}{loose:List Str}{XP:(Str->Option Value)->Heap->Prop}{YP:World->Heap->Prop}{d:DefRec}
  (hn:l.most=some n) (hdf:d.params.defaults=[])
  (call:∀(w:World) (s₀ s₁:Shared) (mg mb:Str->Option Value) (fa:Addr) (o:Obj) (pm cd doc:Value) (a:Addr) (vs:List Value) (ns:List Int),
   Ground q loose [] XP w s₀ mg mb s₁.heap->YP w s₁.heap ->
   s₁.heap.get? fa=some o->o.data = .func (docDef d.name d.params d.body d.scope pm cd doc)->s₁.heap.CodeRec cd d.name->mg d.name=some (.ref fa) ->
   s₁.heap.get? a=some { cls:=.type "list", data:=.seq vs.toArray }->IntsAre vs ns->ns.length<=n->s₁.gens=#[] ->
   codeAny (model l.prog w) callerA (.call (.ref fa) ⟨[.ref a],[]⟩) (λ r s'=>r = .ok (.ret (.bool true))/\OldK s₁.heap s'.heap/\s'.os=s₁.os/\AllBare s'.gens) s₁) :
  WalkO q loose XP YP l.row.toRowW d [] (λ f vs=>PySem.call f vs):=by
 intro w s₀ s₁ mg mb G Y fa o pm cd doc dV kV ho hd hcd hD hmg hg args vals as hpre hlay hrd hwl hlo;obtain rfl:dV = .none:=Dflts.none hD hdf;obtain rfl:kV = .none:=Dflts.noKw hD;obtain⟨a,vs,ns,rfl,rfl,hobj,hints,hlen⟩:=zHc hn hpre hwl;refine enter_call (codeAny_mono (call w s₀ s₁ mg mb fa o pm cd doc a vs ns G Y ho (fd_plain hd) hcd hmg hobj hints hlen hg) λ r s' hq=>?_);obtain⟨rfl,h2,h3,h4⟩:=hq;exact⟨.inl ⟨.bool true,.bool true,[],rfl,λ U=>rfl,.bool true,zHj l _,λ U=>⟨List.Pairwise.nil,λ U hm=>(nomatch hm)⟩⟩,h2,h3,h4⟩
end Att
namespace L2
open PySem PySem.Spec PyProof.Rows
theorem zEp {vs:List Value}{ns:List Int}(h:IntsAre vs ns):Vals (ns.map V.int) vs:=by
 induction h with
 |nil=>exact .nil
 |cons n t h ih=>exact .cons ⟨t,rfl⟩ ih
def Only (H:Hp):Prop:=∀b,H b=none\/∃o xs,H b=some (.frz o (.lst xs))
theorem zJD {P:Program}{w:World}{K:W.Frag}{mg mb:Str->Option Value}{CX:CXT}{k:Nat}{fa a:Addr}{fd:FuncData}{x:Str}{sp:Sp}{s₁:Shared}{vs:List Value}{ns:List Int}
  (KX:K.In s₁.heap) (hns:s₁.heap.Ns mainGlobals mg) (hb:s₁.heap.Ns builtinsNs mb) (hbb:∀x:Str,x ≠ "__name__" -> mb x=bootBuiltins x) (hlim:s₁.heap.NoLimit) (hg:s₁.gens=#[])
  (ha:s₁.heap.get? a=some { cls:=.type "list", data:=.seq vs.toArray }) (hi:IntsAre vs ns) (hl:ns.length<=sizeLine) (hr:Room k callerA)
  (F:∀base:Heap,K.In base->base.Ns mainGlobals mg->FnOk P w K mg base CX k fa fd [x] sp) (hbind:∀(s:Shared) (u:Value),BindsTo s fd ⟨[u],[]⟩ [(x,u)])
  (hsp:∀H:Hp,Only H->SqL K H a (ns.map V.int)->sp [.ref a] H (λ v U=>v = .bl true) λ U U U=>False)
  (hCX:∀H e s',CX [] H s₁ (λ U U U=>False) e s'->False) :
  codeAny (model P w) callerA (.call (.ref fa) ⟨[.ref a],[]⟩) (λ r s'=>r = .ok (.ret (.bool true))/\OldK s₁.heap s'.heap/\s'.os=s₁.os/\AllBare s'.gens) s₁:=by
 have rv:=zEp hi;have lenV:=hi.length
 have core:∀H:Hp,Only H->SqL K H a (ns.map V.int)->HOk P w H s₁.heap->(∀b,H b≠none->b=a)->(H a≠none->K.lookup a=none) ->
   codeAny (model P w) callerA (.call (.ref fa) ⟨[.ref a],[]⟩) (λ r s'=>r = .ok (.ret (.bool true))/\OldK s₁.heap s'.heap/\s'.os=s₁.os/\AllBare s'.gens) s₁:=by
  intro H hO hS hok hA hK;have base_of:∀{b:Addr}{o:Obj},s₁.heap.get? b=some o->H b=none->(hidT s₁.heap H).get? b=some o:=λ e n=>zJF e n
  have noA:∀{b:Addr}{o:Obj}{es:Array DictEntry}{ep:Nat},s₁.heap.get? b=some o->o.data = .dict es ep->H b=none:=λ{b o es ep} e d=>by
   cases q:H b with
   |none=>rfl
   |some u =>
    have e':b=a:=hA b (by rw[q];simp);subst e';rw[ha] at e;cases e;have d':Data.seq vs.toArray _=Data.dict es ep:=d;cases d'
  have nsK:∀{b:Addr}{m:Str->Option Value},s₁.heap.Ns b m->(hidT s₁.heap H).Ns b m:=λ{b m} ⟨o,es,ep,e,d,r⟩=>⟨o,es,ep,base_of e (noA e d),d,r⟩
  have hKb:K.In (hidT s₁.heap H):=λ b o e=>base_of (KX b o e) (by
   cases q:H b with
   |none=>rfl
   |some u =>
    have e':b=a:=hA b (by rw[q];simp);subst e';rw[hK (by rw[q];simp)] at e;cases e)
  have hM:Mod K mg (hidT s₁.heap H):=⟨hKb,nsK hns,⟨mb,nsK hb,hbb⟩,let ⟨mc,h1,h2⟩:=hlim;⟨mc,nsK h1,h2⟩⟩;have e0:Env0 P w K mg (hidT s₁.heap H) callerA [] s₁ H:=⟨rfl,hM,λ b o e=>zKk e,Nat.le_of_eq (zIF _ _),trivial,λ b hb=>absurd (show b∈([]:List Addr) from hb) (by simp),hok,.of_eq hg⟩;refine codeAny_mono ((F _ hKb (nsK hns)).run callerA [] s₁ H ⟨[.ref a],[]⟩ [.ref a] [.ref a] _ _ hr e0 (hbind s₁ (.ref a)) (.cons rfl .nil) (hsp H hO hS)) λ r s' h=>?_;cases r with
  |error e=>exact(hCX H e s' h).elim
  |ok fl =>
   cases fl with
   |next=>exact False.elim h
   |brk=>exact False.elim h
   |cont=>exact False.elim h
   |ret u =>
    obtain⟨v,H',os,bare,un,hok',r',q⟩:=h;have q':v = .bl true:=q;subst q';obtain rfl:u=Value.bool true:=r';refine⟨rfl,OldK.of_keep λ b o e=>?_,os,bare⟩;cases q:H b with
    |none=>exact un.keep b o e q (by intro z;exact absurd (show b∈([]:List Addr) from z) (by simp)) (by simp)
    |some u =>
     rcases hO b with z|⟨ob,xs,z⟩
     ·rw[q] at z;cases z
     ·have z2:=un.frzs b ob _ z
      obtain⟨e1,_⟩:=hok b _ z;obtain⟨e2,_⟩:=hok' b _ z2;rw[e] at e1;cases e1;exact e2
 cases hk:K.lookup a with
 |some o =>
  have e:=KX a o hk;rw[ha] at e;cases e;refine core (λ U=>none) (λ U=>.inl rfl) (.inr ⟨_,vs.toArray,_,hk,rfl,rfl,rfl,by rw[lS,lenV];exact hl,by simpa using rv⟩) (λ b u z=>by have z':(none:Option HO)=some u:=z;cases z') (λ b z=>absurd rfl z) λ z=>absurd rfl z
 |none =>
  refine core (λ b=>if b=a then some (.frz { cls:=.type "list", data:=.seq vs.toArray } (.lst (ns.map V.int))) else none) (λ b=>?_) (.inl (.inr ⟨{ cls:=.type "list", data:=.seq vs.toArray },if_pos rfl⟩)) (λ b u z=>?_) (λ b z=>?_) λ U=>hk
  ·by_cases hb:b=a
   ·exact .inr ⟨_,_,if_pos hb⟩
   ·exact .inl (if_neg hb)
  ·by_cases hb:b=a
   ·have z':=(if_pos hb).symm.trans z
    cases z';subst hb;exact⟨ha,by rw[lC];exact hl,vs,_,rv,ha⟩
   ·have z':=(if_neg hb).symm.trans z
    cases z'
  ·by_cases hb:b=a
   ·exact hb
   ·exact absurd (if_neg hb) z
theorem walk_of {l:W.OpenLaw}{n k:Nat}{q:Program}{loose:List Str}{XP:(Str->Option Value)->Heap->Prop}{YP:World->Heap->Prop}{d:DefRec}{K:Params->W.Frag}{CX:World->CXT}{sp:World->Sp}{x:Str}
  (hn:l.most=some n) (hn2:n<=sizeLine) (hdf:d.params.defaults=[]) (hr:Room k callerA)
  (hY:∀(w:World) (h:Heap),YP w h->(K w.params).In h)
  (F:∀(w:World) (mg:Str->Option Value) (fa:Addr) (h:Heap),(K w.params).In h->h.Ns mainGlobals mg->mg d.name=some (.ref fa) ->
   ∃fd:FuncData,(∀(s:Shared) (u:Value),BindsTo s fd ⟨[u],[]⟩ [(x,u)]) /\
    ∀base:Heap,(K w.params).In base->base.Ns mainGlobals mg->FnOk l.prog w (K w.params) mg base (CX w) k fa fd [x] (sp w))
  (hsp:∀(w:World) (H:Hp) (a:Addr) (ns:List Int),ns.length<=n->Only H->SqL (K w.params) H a (ns.map V.int)->sp w [.ref a] H (λ v U=>v = .bl true) λ U U U=>False)
  (hCX:∀(w:World) (H:Hp) (s:Shared) (e:Value) (s':Shared),CX w [] H s (λ U U U=>False) e s'->False) :
  W.WalkO q loose XP YP l.row.toRowW d [] (λ f vs=>PySem.call f vs):=by
 refine Att.attach_call hn hdf λ w s₀ s₁ mg mb fa o pm cd doc a vs ns G Y ho hd hcd hmg hobj hints hlen hg=>?_;have KX:=hY w _ Y;obtain⟨fd,hb,hF⟩:=F w mg fa _ KX G.T.g hmg;exact zJD KX G.T.g G.T.b G.T.builtins G.T.nolimit hg hobj hints (mK hlen hn2) hr hF hb (λ H hO hS=>hsp w H a ns hlen hO hS) λ H e s'=>hCX w H s₁ e s'
noncomputable def zBL (s:Stmt) (j:Nat):Stmt:=match s with
 |.ClassDef _ _ _ body _ _ _ _ _ _ _=>body.getD j (.Pass ⟨0,0,0,0⟩)
 |_=>.Pass ⟨0,0,0,0⟩
noncomputable def zAt (s:Stmt):Arguments:=match s with
 |.FunctionDef _ a _ _ _ _ _ _ _ _=>a
 |_=>{ posonlyargs:=[],args:=[],vararg:=none,kwonlyargs:=[],kw_defaults:=[],kwarg:=none,defaults:=[] }
noncomputable def zAr (s:Stmt):List Stmt:=match s with
 |.FunctionDef _ _ b _ _ _ _ _ _ _=>b
 |_=>[]
noncomputable def zAH (s:Stmt):Scope:=match s with
 |.FunctionDef _ _ _ _ _ _ sc _ _ _=>sc
 |_=>{ kind:=.function,names:=[],isGenerator:=false,isCoroutine:=false }
abbrev CX0:CXT:=λ U U U U U U=>False
abbrev E0:XK:=λ U U U=>False
theorem pass0 {X:Cx}:zDE CX0 X E0:=λ U U U U U U U h=>h.elim
structure Fun (K:W.Frag) (x qual:Str) (st:Stmt) (f:Addr) (fd:FuncData):Prop where
 ex:∃(oc:Value) (od:Option Addr) (kV doc pm:Value) (an:Option Addr) (cdv ct:Value) (osl:Array (Option Value)),
  fd=W.fnOf x qual (zAt st) (zAr st) (zAH st) .none kV doc pm an cdv ct/\K.lookup f=some ⟨oc,od,.func fd,osl⟩/\W.codeIn K cdv qual=true
 kp:W.keepIn K (.ref f)=true
section
variable {P:Program}{w:World}{K:W.Frag}{mg:Str->Option Value}{base:Heap}
theorem Fun.ok {x qual:Str}{st:Stmt}{f:Addr}{fd:FuncData}{N ps:List Str}{k:Nat}{sp:Sp}(F:Fun K x qual st f fd) (S:zAR N ps (zAH st)) (len:∀vs H Q E,sp vs H Q E->vs.length=ps.length)
  (hbody:∀(cdv:Value) (A:Around) (outer:List Env) (s:Shared) (H:Hp) (vs:List V) (Q:VK) (E:XK),Room k (A.deeper (envOfC qual (zAH st) s.heap.objs.size f cdv))->sp vs H Q E ->
   ∃t,PSs (cxOf CX0 P w K mg base N qual (zAH st) f cdv A outer s H E).nox (zAr st) t/\t { nx:=λ U H'=>Q .non H',rt:=Q } (start N vs) H):FnOk P w K mg base CX0 (k+1) f fd ps sp:=by
 obtain⟨oc,od,kV,doc,pm,an,cdv,ct,osl,rfl,lk,hcd⟩:=F.ex;refine fn_of lk hcd S len λ A outer s H vs Q E hr hsp=>?_;obtain⟨t,h,q⟩:=hbody cdv A outer s H vs Q E hr hsp;exact⟨t,h.nox,q⟩
theorem Fun.binds {x qual:Str}{st:Stmt}{f:Addr}{fd:FuncData}{ps:List Str}(F:Fun K x qual st f fd)
  (h:∀(kV doc pm:Value) (an:Option Addr) (cdv ct:Value) (us:List Value),us.length=ps.length->bindArgs (W.fnOf x qual (zAt st) (zAr st) (zAH st) .none kV doc pm an cdv ct) ⟨us,[]⟩=pure (ps.zip us)):Binds K fd ps []:=by
 obtain⟨oc,od,kV,doc,pm,an,cdv,ct,osl,rfl,lk,hcd⟩:=F.ex;exact .all (h kV doc pm an cdv ct)
theorem zBi {x qual:Str}{st:Stmt}{f:Addr}{oc:Value}{od an:Option Addr}{osl:Array (Option Value)}{kV doc pm cdv ct:Value}(l:K.lookup f=some ⟨oc,od,.func (W.fnOf x qual (zAt st) (zAr st) (zAH st) .none kV doc pm an cdv ct),osl⟩)
  (c:W.codeIn K cdv qual=true) (k:W.keepIn K (.ref f)=true):Fun K x qual st f (W.fnOf x qual (zAt st) (zAr st) (zAH st) .none kV doc pm an cdv ct):=⟨⟨oc,od,kV,doc,pm,an,cdv,ct,osl,rfl,l,c⟩,k⟩
end
theorem hu_of {A:Around}{k:Nat}(hr:Room k A):A.units+1<cLine:=Nat.lt_of_le_of_lt (Nat.add_le_add_left (by decide:1<=64) _) hr.units
theorem zAS {n:Nat}(h:n<=1000):n<sizeLine:=Nat.lt_of_le_of_lt h (by decide)
section
variable {X:Cx}
theorem pv (i:Nat) {x:Str}{pos:Pos}(hN:X.N[i]?=some x:=by rfl) (hv:Vis X.env.scope x:=by first|exact Or.inl rfl|exact Or.inr (Or.inl rfl)|exact Or.inr (Or.inr rfl)) (hd:(x == ("__debug__" : Str))=false:=by decide)
  (hcd:(x == ("__classdict__" : Str))=false:=by decide):PE X (.Name x pos) (tVar i):=zLN hN hv hd hcd
end
theorem iteF {A B:Prop}(h:B):if false=true then A else B:=by
 rw[if_neg Bool.false_ne_true];exact h
theorem iteT {A B:Prop}(h:A):if true=true then A else B:=by
 rw[if_pos rfl];exact h
theorem ite2 {c A B:Prop} [Decidable c] (h1:c->A) (h2:¬c->B):if c then A else B:=by
 by_cases h:c
 ·rw[if_pos h]
  exact h1 h
 ·rw[if_neg h]
  exact h2 h
def Same (H H':Hp):Prop:=∀b o,H b=some o->H' b=some o
theorem Same.refl (H:Hp):Same H H:=λ U U h=>h
theorem Same.trans {H H1 H2:Hp}(a:Same H H1) (b:Same H1 H2):Same H H2:=λ c o h=>b c o (a c o h)
theorem Same.free {H H':Hp}(e:Same H H') {l:Addr}(h:H' l=Option.none):H l=Option.none:=by
 cases q:H l with
 |none=>rfl
 |some o =>
  rw[e l o q] at h;cases h
abbrev NoX:Value->Shared->Prop:=λ U U=>False
theorem noX {al:Type}{t:Sem al}{Q:al->Shared->Prop}{M:Model}{A:Around}{E:XQ}{s:Shared}(h:wpAny M A t Q NoX s):wpAny M A t Q E s :=
 wpAny_mono h (λ U U q=>q) λ U U z=>z.elim
noncomputable def capSt (cap:List (Option Nat)) (σ:St):St:=cap.map λ o=>match o with
 |none=>none
 |some j=>(σ[j]?).join
inductive Ext:St->St->Prop
 |nil:Ext [] []
 |skip {a b:St}{x:Option V}:Ext a b->Ext (none::a) (x::b)
 |keep {a b:St}{x:Option V}:Ext a b->Ext (x::a) (x::b)
theorem Ext.len {a b:St}(h:Ext a b):a.length=b.length:=by
 induction h with
 |nil=>rfl
 |skip _ ih=>simp[ih]
 |keep _ ih=>simp[ih]
theorem Ext.get {a b:St}(h:Ext a b):∀(i:Nat) v,a[i]?=some (some v)->b[i]?=some (some v):=by
 induction h with
 |nil=>intro i v e;simp at e
 |skip _ ih =>
  intro i v e;cases i with
  |zero=>simp at e
  |succ i=>simpa using ih i v (by simpa using e)
 |keep _ ih =>
  intro i v e;cases i with
  |zero=>simpa using e
  |succ i=>simpa using ih i v (by simpa using e)
noncomputable def Cx.block (X:Cx) (sc:Scope) (cl:List (Str × Addr)) (N:List Str) (s:Shared) (H:Hp) (C:Addr) (ex:List Addr):Cx where
 prog:=X.prog
 w:=X.w
 K:=X.K
 mg:=X.mg
 base:=X.base
 A:=X.A
 N:=N
 s₀:=s
 H₀:=H
 env:=compEnvC sc cl C X.env
 outer:=X.stack
 stack:=X.stack
 ex:=ex
 fn:=λ U=>false
 calm:=X.calm
 pn:=[]
 xe:=NoX
theorem zC6 {env:Env}:∀(names:List (Str × NameKind)) (cs:List (Str × Addr)),(∀n,(n,NameKind.free)∈names->∃c,env.cells.lookup n=some c) ->
  (∀x c,cs.lookup x=some c->env.cells.lookup x=some c) ->
  ∃cl:List (Str × Addr),(forIn names cs λ(x:Str × NameKind) (r:List (Str × Addr))=>(if (x.2 == NameKind.free)=true then do let c ← cellOf env x.1;pure (ForInStep.yield ((x.1,c)::r)) else pure (ForInStep.yield r)):Sem (List (Str × Addr)))=pure cl /\
   (∀x c,cl.lookup x=some c->env.cells.lookup x=some c)/\(∀n,(n,NameKind.free)∈names->∃c,cl.lookup n=some c)/\(∀n c,cs.lookup n=some c->∃c,cl.lookup n=some c)
 |[],cs,_,hc=>⟨cs,rfl,hc,λ U h=>(nomatch h),λ n c e=>⟨c,e⟩⟩
 | (n,k)::r,cs,h,hc=>by
  by_cases hk:k = .free
  ·subst hk
   obtain⟨c,ec⟩:=h n lN
   have hc':∀x c',((n,c)::cs).lookup x=some c'->env.cells.lookup x=some c':=λ x c' e=>by
    rw[List.lookup_cons] at e;cases hx:x == n with
    |true=>rw[hx] at e;cases e;rw[eq_of_beq hx];exact ec
    |false=>rw[hx] at e;exact hc x c' e
   obtain⟨cl,e1,e2,e3,e4⟩:=zC6 r ((n,c)::cs) (λ m hm=>h m (lO _ hm)) hc';refine⟨cl,?_,e2,λ m hm=>?_,λ m c' e=>?_⟩
   ·rw[List.forIn_cons,←e1]
    simp only[beq_self_eq_true,if_true,cellOf,ec];rfl
   ·rcases lM.mp hm with z|z
    ·cases z
     exact e4 n c (by simp)
    ·exact e3 m z
   ·by_cases hm:m=n
    ·subst hm;exact e4 m c (by simp)
    ·exact e4 m c' (by rw[List.lookup_cons,beq_eq_false_iff_ne.mpr hm];exact e)
  ·have hb:(k == NameKind.free)=false:=by simpa using hk
   obtain⟨cl,e1,e2,e3,e4⟩:=zC6 r cs (λ m hm=>h m (lO _ hm)) hc;refine⟨cl,?_,e2,λ m hm=>?_,e4⟩
   ·rw[List.forIn_cons,←e1]
    simp only[hb,Bool.false_eq_true,if_false];rfl
   ·rcases lM.mp hm with z|z
    ·cases z;exact absurd rfl hk
    ·exact e3 m z
theorem zEF {sc:Scope}{env:Env}(h:∀n,(n,NameKind.free)∈sc.names->∃c,env.cells.lookup n=some c) :
  ∃cl:List (Str × Addr),closureFor sc env=pure cl/\(∀x c,cl.lookup x=some c->env.cells.lookup x=some c)/\(∀n,(n,NameKind.free)∈sc.names->∃c,cl.lookup n=some c):=by
 obtain⟨cl,e1,e2,e3,_⟩:=zC6 (env:=env) sc.names [] h (λ x c e=>by simp at e);refine⟨cl,?_,e2,e3⟩;unfold closureFor;rw[←bind_pure (pure cl),←e1]
theorem zC1 {names:List (Str × NameKind)}{x:Str}{k:NameKind}(h:names.lookup x=some k):(x,k)∈names:=by
 induction names with
 |nil=>simp at h
 |cons p r ih =>
  obtain⟨n,j⟩:=p;rw[List.lookup_cons] at h;cases hx:x == n with
  |true=>rw[hx] at h;cases h;rw[eq_of_beq hx];exact lN
  |false=>rw[hx] at h;exact lO _ (ih h)
set_option tactic.hygienic true in
theorem zC9 {sc:Scope}{env:Env}{x:Str}{k:NameKind}(hk:k = .cell\/k = .free) (nc:∀y∈sc.names,y.2 ≠ .cell) (h:(relabel sc env).names.lookup x=some k):(x,NameKind.free)∈sc.names:=by
 have m:=zC1 h;obtain⟨⟨n,j⟩,hm,e⟩:=mG.mp m;have q:(if (j == NameKind.free && env.scope.kind == .function && env.kindOf n == some .cell)=true then (n,NameKind.cell) else (n,j))=(x,k):=e;split at q
 ·rename_i c
  rw[Bool.and_eq_true,Bool.and_eq_true] at c;have j':j = .free:=by simpa using c.1.1
  cases q;rw[j'] at hm;exact hm
 ·cases q
  rcases hk with z|z
  ·exact absurd z (nc _ hm)
  ·rw[z] at hm;exact hm
theorem zA9 {sc:Scope}{env:Env}{x:Str}:∀{names:List (Str × NameKind)},names.lookup x=some .free ->
  (names.map λ(n,k)=>if (k == NameKind.free && env.scope.kind == .function && env.kindOf n == some .cell) then (n,NameKind.cell) else (n,k)).lookup x=some .cell \/
  (names.map λ(n,k)=>if (k == NameKind.free && env.scope.kind == .function && env.kindOf n == some .cell) then (n,NameKind.cell) else (n,k)).lookup x=some .free
 |[],h=>by simp at h
 | (n,k)::r,h=>by
  have ih:=@zA9 sc env x r;rw[List.lookup_cons] at h
  by_cases c:(k == NameKind.free && env.scope.kind == .function && env.kindOf n == some .cell)=true
  ·rw[mM]
   simp only[c,if_true,List.lookup_cons];cases hx:x == n with
   |true=>exact .inl rfl
   |false=>rw[hx] at h;exact ih h
  ·rw[mM]
   have c':=Bool.eq_false_iff.mpr c;simp only[c',Bool.false_eq_true,if_false,List.lookup_cons];cases hx:x == n with
   |true=>rw[hx] at h;cases h;exact .inr rfl
   |false=>rw[hx] at h;exact ih h
theorem zFK {P:Program}{w:World}{A:Around}{R:Result->Shared->Prop}{s:Shared}{elt tg iter:Expr}{ifs:List Expr}{sc:Scope}{pos:Pos}{it acc:Value}{env:Env}(J:Nat->Shared->Prop)
  (turn:∀n s,J n s->wpAny (model P w) A (pyNext it) (λ r s1=>match r with
   |none=>R (.ok .next) s1
   |some v=>wpAny (model P w) A (letOwnedTupleGo tg it v) (λ U s2=>wpAny (model P w) A (assign tg env v) (λ U s3 =>
     wpAny (model P w) A (forIn ifs true λ c r=>if r=true then do let ok ← isTrue c env (eval c env);pure (ForInStep.yield ok) else pure (ForInStep.yield r)) (λ ok s4 =>
      if ok=true then wpAny (model P w) A (eval elt env) (λ x s5=>wpAny (model P w) A (call (.builtin "list.append") [acc,x]) (λ U s6=>∃m,m<n/\J m s6) NoX s5) NoX s4
      else ∃m,m<n/\J m s4) NoX s3) NoX s2) NoX s1) NoX s) (n:Nat) (h:J n s) :
  codeAny (model P w) A (.compLoop (.ListComp elt [⟨tg,iter,ifs,0⟩] sc pos) 0 it acc env) R s:=by
 refine codeAny_loop rfl J (λ n s hJ=>?_) n h;refine wpAny_noted ?_;rw[compTurn_list];refine lA (wpAny_standAt (lA (noX (thn (turn n s hJ) λ r s1 h1=>?_))));cases r with
 |none=>exact lB h1
 |some v =>
  refine lA (noX (thn h1 λ U s2 h2=>?_));refine lA (noX (thn h2 λ U s3 h3=>?_));refine lA (noX (thn h3 λ ok s4 h4=>?_));cases ok with
  |false=>exact lB ⟨rfl,h4⟩
  |true=>exact lA (lA (noX (thn h4 λ x s5 h5=>lA (noX (thn h5 λ U s6 h6=>lB (lB ⟨rfl,h6⟩))))))
def PTs (X:Cx) (ifs:List Expr) (t:TT):Prop :=
 ∀(jP:List (Addr × Obj)) (s:Shared) (σ:St) (H:Hp) (Q:Bool->Hp->Prop),Inv X jP σ H s->t σ H Q ->
  wpAny (model X.prog X.w) X.A (forIn ifs true λ c r=>if r=true then do let ok ← isTrue c X.env (eval c X.env);pure (ForInStep.yield ok) else pure (ForInStep.yield r)) (TP X jP σ Q) X.xe s
def tYes:TT:=λ U H Q=>Q true H
theorem zCe {X:Cx}:PTs X [] tYes:=λ U U U H U I h=>wpAny_tests_nil ⟨H,I,h⟩
theorem zKB {X:Cx}{c:Expr}{t:TT}(h:PT X c t):PTs X [c] t:=λ jP s σ H Q I hq=>wpAny_tests_one (h jP s σ H Q I hq)
def tComp (cap:List (Option Nat)) (wi:TI) (g:TG) (tt:TT) (te:TE):TE:=λ σ H Q=>wi σ H λ J H1=>∀acc,H1 acc=none ->
 ∃W:Nat->Nat->Hp->Prop,(∃m,W 0 m (upd H1 acc (.lst [])))/\∀i m H2,W i m H2 ->
  (J.stop i H2/\Q (.ref acc) H2)\/(J.go i H2/\∃N:Hp->Prop,(∀H',N H'->∃m',m'<m/\W (i+1) m' H')/\∀x H3,J.yld i H2 x H3->g x (capSt cap σ) H3 λ σ2 H4=>Ext (capSt cap σ) σ2/\tt σ2 H4 λ b H5 =>
   if b=true then te σ2 H5 λ y H6=>∃zs,H6 acc=some (.lst zs)/\zs.length<sizeLine/\N (upd H6 acc (.lst (zs++[y])))
   else N H5)
theorem HOk.but {P:Program}{w:World}{H:Hp}{h h':Heap}{C:Addr}(x:HOk P w H h) (n:H C=none) (sb:Heap.SameBut C h h'):HOk P w H h':=λ a o e =>
 (x a o e).stay (λ b u hb q=>(sb.2 b (λ z=>by
  subst z;rcases hb with z|z
  ·subst z;rw[n] at e;cases e
  ·rw[n] at z;cases z)).trans q) (λ U q=>q) λ U U q=>q
theorem Un.but {fs ex:List Addr}{H H':Hp}{h h1 h2:Heap}{C:Addr}(u:Un fs ex H H' h h1) (lt:h.objs.size<=C) (sb:Heap.SameBut C h1 h2):Un fs ex H H' h h2:=by
 have ne:∀b o,h.get? b=some o->b≠C:=λ b o e=>lQ (lY (lI e) lt);refine⟨λ b o e n hb hx=>(sb.2 b (ne b o e)).trans (u.keep b o e n hb hx),λ b o e n hb hx=>?_,u.free,λ b o e hx=>?_,u.tups,u.frzs,u.tbls⟩
 ·obtain⟨sl,q⟩:=u.slot b o e n hb hx
  exact⟨sl,(sb.2 b (ne b o e)).trans q⟩
 ·obtain⟨o',q⟩:=u.there b o e hx
  exact⟨o',(sb.2 b (ne b o e)).trans q⟩
section
variable {X:Cx}
theorem zGg {jP:List (Addr × Obj)}{σ:St}{H:Hp}{s:Shared}{sc:Scope}{cl:List (Str × Addr)}{N:List Str}{C:Addr}{fp:List Addr}(I:Inv X jP σ H s) (hk:sc.kind = .function) (nc:∀y∈sc.names,y.2 ≠ .cell)
  (hC:s.heap.objs.size<=C) (hf:∀b∈fp,FpOk X jP H b) (hfo:∀b∈fp,∃o,s.heap.get? b=some o) (c1:∀x c,cl.lookup x=some c->X.env.cells.lookup x=some c) (c2:∀n,(n,NameKind.free)∈sc.names->∃c,cl.lookup n=some c) :
  (X.block sc cl N s H C fp).Ok where
 mod:=I.ok.mod
 kind:=hk
 glob:=I.ok.glob
 blt:=I.ok.blt
 above:=hC
 inj:=λ x y c e e'=>I.ok.inj x y c (c1 x c e) (c1 y c e')
 has:=λ x h=>c2 x (h.elim (zC9 (.inl rfl) nc) (zC9 (.inr rfl) nc))
 cab:=λ x c e=>(nomatch e)
 hd:=I.ok.hd
 frames:=I.ok.frames
 stk:=.inl rfl
 exf:=λ b hb=>⟨λ z=>by
  obtain⟨o,e⟩:=hfo b hb;have lt:=lI e;rw[z] at lt;exact absurd (lY lt hC) (Nat.lt_irrefl _),λ x c e=>(hf b hb).2.2.2.2.1 x c (c1 x c e)⟩
 bs:=I.bs
 bsz:=mK I.ok.bsz I.sz
 noex:=λ b o e hb=>by
  rcases (hf b hb).2.2.2.1 with z|z
  ·exact I.ok.noex b o e z
  ·exact absurd (lY (lI (I.ok.bs b o e).1) z) (Nat.lt_irrefl _)
 exfs:=λ b hb hs=>by
  rcases lM.mp (I.stkSub b hs) with z|z
  ·exact(hf b hb).2.1 z
  ·exact(hf b hb).2.2.1 z
 funs:=I.stack
 frf:=I.stkFree
theorem zKQ {elt tg iter:Expr}{ifs:List Expr}{sc:Scope}{pos:Pos}{wi:TI}{g:TG}{tt:TT}{te:TE}(N:List Str) (cap:List (Option Nat)) (hc:X.calm=true) (hi:PI X tg iter wi)
  (hg:∀cl s H C ex,PG (X.block sc cl N s H C ex) tg g) (ht:∀cl s H C ex,PTs (X.block sc cl N s H C ex) ifs tt) (he:∀cl s H C ex,PE (X.block sc cl N s H C ex) elt te)
  (hk:sc.kind = .function) (nc:∀y∈sc.names,y.2 ≠ .cell) (hnames:∀y∈sc.names,y.2 = .local->sc.names.lookup y.1=some .local)
  (hfree:∀n,(n,NameKind.free)∈sc.names->X.env.kindOf n=some .cell)
  (hcap:∀(i j:Nat),cap[i]?=some (some j)->∃x,N[i]?=some x/\X.N[j]?=some x/\sc.names.lookup x=some .free) (hlen:cap.length=N.length)
  (hs:∀x,foldedSetIterable iter X.env x=pure x:=by intro _;rfl):PE X (.ListComp elt [⟨tg,iter,ifs,0⟩] sc pos) (tComp cap wi g tt te):=by
 intro jP s σ H Q I h;obtain⟨cl,hclos,c1,c2⟩:=zEF (sc:=sc) (env:=X.env) λ n hn=>I.ok.has n (.inl (hfree n hn));rw[eval_ListComp];refine wpAny_comprehension_free (use:=none) rfl hs hclos hk hnames ?_;refine thn (hi jP s σ H _ I h) λ v s1 h1=>thn h1 λ itv s2 h2=>?_;obtain⟨it,fp,tn,J,H2,e,I2,T,st2,f2,q2⟩:=h2;subst e;have hfr:H2 s2.heap.objs.size=none:=I2.fresh;obtain⟨W,⟨m0,w0⟩,turn⟩:=q2 s2.heap.objs.size hfr;have I3:=I2.lnew (ys:=[]) (its:=[]) (t':=s2.toks) .nil (lX _);have hacc:H2 s2.heap.objs.size=none:=hfr;refine wpAny_newObj_type (wpAny_newFunctionEnv nc (by intro y hy;simp at hy) (λ h4 hns hsb=>?_) hk);generalize hs3:({ s2 with heap:=s2.heap.push { cls:=.type "list", data:=.seq ([]:List Value).toArray } }:Shared)=s3 at hns hsb I3 ⊢;have hheap:s3.heap=s2.heap.push { cls:=.type "list", data:=.seq ([]:List Value).toArray }:=by rw[←hs3]
 generalize hH3:upd H2 s2.heap.objs.size (.lst [])=H3 at I3 w0;have up2:∀b o,s2.heap.get? b=some o->s3.heap.get? b=some o:=λ b o q=>by rw[hheap];exact lG _ q
 have neA:∀b∈fp,b≠s2.heap.objs.size:=λ b hb=>by
  obtain⟨o,q,_⟩:=T.obj _ _ st2 b hb;exact lQ (lI q)
 have f3:∀b∈fp,FpOk X jP H3 b:=λ b hb=>⟨by rw[←hH3,zAJ (neA b hb)];exact(f2 b hb).1,(f2 b hb).2⟩
 have o3:∀b∈fp,∃o,s3.heap.get? b=some o:=λ b hb=>by
  obtain⟨o,q,_⟩:=T.obj _ _ st2 b hb;exact⟨o,up2 b o q⟩
 have ok':=zGg (N:=N) (C:=s3.heap.objs.size) I3 hk nc (lP _) f3 o3 c1 c2;generalize hC:s3.heap.objs.size=C at hns hsb ok' ⊢;have ltC:∀b o,s3.heap.get? b=some o->b≠C:=λ b o q=>by rw[←hC];exact lQ (lI q)
 have up4:∀b o,s3.heap.get? b=some o->h4.get? b=some o:=λ b o q=>hsb.extBut b o (ltC b o q) (lG _ q);have st4:tn 0 h4:=T.keep _ _ _ st2 λ b hb o q=>up4 b o (up2 b o q)
 have I4:Inv (X.block sc cl N s3 H3 C fp) [] (capSt cap σ) H3 { s3 with heap:=h4,toks:=s3.toks+([]:List (Str × Value)).length }:=by
  refine⟨ok',rfl,I3.bare,Un.kept up4,⟨_,hns,λ i x v e1 e2 e3=>?_⟩,λ x c q=>?_,?_,λ x c q=>I3.freeC x c (c1 x c q),λ p hp=>(nomatch hp),I3.hok.kept up4,?_⟩
  ·have ee:∃j,cap[i]?=some (some j)/\σ[j]?=some (some v):=by
    unfold capSt at e2;rw[mH] at e2;cases q:cap[i]? with
    |none=>rw[q] at e2;cases e2
    |some o =>
     rw[q] at e2;cases o with
     |none=>cases e2
     |some j =>
      refine⟨j,rfl,?_⟩;have e2':some ((σ[j]?).join)=some (some v):=e2;cases z:σ[j]? with
      |none=>rw[z] at e2';cases e2'
      |some o' =>
       rw[z] at e2';have e2'':o'=some v:=mI e2';rw[e2'']
   obtain⟨j,ej,es⟩:=ee;obtain⟨x',n1,n2,n3⟩:=hcap i j ej;have e1':N[i]?=some x:=e1;rw[n1] at e1';cases e1';have hfr':(x,NameKind.free)∈sc.names:=zC1 n3;have kc:=hfree x hfr';obtain⟨m,_,hl⟩:=I3.loc;obtain⟨u,r,l⟩:=hl j x v n2 es (.inr (.inl kc));refine⟨u,r,?_⟩;rcases l with ⟨l,_⟩|⟨_,c,ec,z⟩
   ·rw[kc] at l;cases l
   ·obtain⟨c',ec'⟩:=c2 x hfr'
    have:=c1 x c' ec';rw[ec] at this;cases this;obtain⟨oc,q1,q2⟩:=z;exact .inr ⟨zA9 (sc:=sc) n3,c,ec',oc,up4 _ _ q1,q2⟩
  ·obtain⟨v,oc,q1,q2⟩:=I3.cell x c (c1 x c q)
   exact⟨v,oc,up4 _ _ q1,q2⟩
  ·exact I3.hok.fresh (by rw[hC];exact lP _)
  ·show (capSt cap σ).length=N.length
   unfold capSt;rw[lC,hlen]
 have loop:codeAny (model X.prog X.w) X.A (.compLoop (.ListComp elt [⟨tg,iter,ifs,0⟩] sc pos) 0 (.ref it) (.ref s2.heap.objs.size) (compEnvC sc cl C X.env)) (compPost (model X.prog X.w) X.A X.xe none (EP X jP σ Q) (.ref s2.heap.objs.size) C)
   { s3 with heap:=h4,toks:=s3.toks+([]:List (Str × Value)).length }:=by
  have stat:∀{H':Hp},(∀b∈fp,H' b=none)->∀b∈fp,FpOk (X.block sc cl N s3 H3 C fp) [] H' b:=λ hn b hb =>
   ⟨hn b hb,(ok'.exf b hb).1,ok'.exfs b hb,.inl hb,(ok'.exf b hb).2,λ p hp=>(nomatch hp)⟩
  refine zFK (λ n s'=>∃i H',Inv (X.block sc cl N s3 H3 C fp) [] (capSt cap σ) H' s'/\tn i s'.heap/\(∀b∈fp,H' b=none)/\W i n H') ?_ m0 ⟨0,H3,I4,st4,λ b hb=>(f3 b hb).1,w0⟩;rintro n s5 ⟨i,H5,I5,st5,fr5,w5⟩;rcases turn i n H5 w5 with ⟨stop,qn⟩|⟨go,N',hN',step⟩
  ·refine thn (T.done (X.block sc cl N s3 H3 C fp) rfl rfl rfl hc i [] s5 _ H5 NoX I5 (stat fr5) st5 stop) λ r s6 ⟨hr,I6⟩=>?_
   subst hr;obtain⟨m,hm,_⟩:=I6.loc;refine⟨m,hm,λ h' sb=>⟨.ref s2.heap.objs.size,H5,?_,rfl,qn⟩⟩;refine I3.call' (s':={ s6 with heap:=h' }) (ch:=fp) I6.os (I6.base.but (by rw[←hC];exact lP _) sb) (I6.hok.but I6.free sb) I6.bare λ b hb=>?_;obtain⟨g0,g1,g2,g3,g4,g5⟩:=f3 b hb;exact⟨g3,g1,g4,g5⟩
  ·refine thn (T.item (X.block sc cl N s3 H3 C fp) rfl rfl rfl hc i [] s5 _ H5 NoX I5 (stat fr5) st5 go) λ r s6 ⟨u,hr,h6⟩=>?_
   subst hr;refine thn h6 λ _ s7 ⟨x,H7,I7,r7,y7,st7,fr7⟩=>?_;have I7':=I7.pinned (stat fr7) (T.obj _ _ st7)
   have again:∀{σ8:St}{H8:Hp}{s8:Shared},Inv (X.block sc cl N s3 H3 C fp) ([]++zD7 fp s7.heap) σ8 H8 s8->Ext (capSt cap σ) σ8->N' H8 ->
     ∃m,m<n/\∃i H',Inv (X.block sc cl N s3 H3 C fp) [] (capSt cap σ) H' s8/\tn i s8.heap/\(∀b∈fp,H' b=none)/\W i m H':=λ{σ8 H8 s8} I8 ex n8=>by
    obtain⟨m',hm,w8⟩:=hN' H8 n8;have I8':=I8.unpinned.weak ex.len ex.get;refine⟨m',hm,i+1,H8,I8',T.keep _ _ _ st7 λ b hb o q=>(I8.pin (b,o) (lZ _ (lZ _ (zBb hb q)))).1,λ b hb=>?_,w8⟩;obtain⟨o,q,d⟩:=T.obj _ _ st7 b hb;exact(I8.pin (b,o) (lZ _ (lZ _ (zBb hb q)))).2.1
   refine thn (hg cl s3 H3 C fp _ s7 _ H7 x u _ I7' r7 (step x H7 y7)) λ _ s8 ⟨σ8,H8,I8,ex8,q8⟩=>?_;refine thn (ht cl s3 H3 C fp _ s8 σ8 H8 _ I8 q8) λ b s9 ⟨H9,I9,q9⟩=>?_;cases b with
   |false=>exact again I9 ex8 q9
   |true =>
    rw[if_pos rfl] at q9 ⊢;refine thn (he cl s3 H3 C fp _ s9 σ8 H9 _ I9 q9) λ yv s10 ⟨y,H10,I10,r10,zs,e10,l10,q10⟩=>?_;refine thn (zDc (X:=X.block sc cl N s3 H3 C fp) _ s10 σ8 H10 (.ref s2.heap.objs.size) [y] (.ref s2.heap.objs.size) [yv] (λ U H'=>N' H') I10 rfl (.cons r10 .nil) ⟨_,zs,y,rfl,rfl,e10,l10,q10⟩) λ _ s11 ⟨_,H11,I11,_,q11⟩=>?_;exact again I11 ex8 q11
 exact codeAny_compStart_list loop (T.self X.A 0 _ _ _ st4 loop)
end
theorem zHA {lo:Int}{n:Nat}{acc:Addr}{g:TG}{tt:TT}{te:TE}{σ:St}{H:Hp}{Q:VK}(Pv:Nat->Hp->Prop) (h0:Pv 0 (upd H acc (.lst [])))
  (hs:∀i H,i<n->Pv i H->g (.int (lo+i)) σ H λ σ2 H4=>Ext σ σ2/\tt σ2 H4 λ b H5 =>
   if b=true then te σ2 H5 λ y H6=>∃zs,H6 acc=some (.lst zs)/\zs.length<sizeLine/\Pv (i+1) (upd H6 acc (.lst (zs++[y]))) else Pv (i+1) H5) (hd:∀H,Pv n H->Q (.ref acc) H) :
  ∃W:Nat->Nat->Hp->Prop,(∃m,W 0 m (upd H acc (.lst [])))/\∀i m H2,W i m H2 ->
   ((Itr lo n).stop i H2/\Q (.ref acc) H2)\/((Itr lo n).go i H2/\∃N:Hp->Prop,(∀H',N H'->∃m',m'<m/\W (i+1) m' H')/\∀x H3,(Itr lo n).yld i H2 x H3->g x σ H3 λ σ2 H4=>Ext σ σ2/\tt σ2 H4 λ b H5 =>
    if b=true then te σ2 H5 λ y H6=>∃zs,H6 acc=some (.lst zs)/\zs.length<sizeLine/\N (upd H6 acc (.lst (zs++[y])))
    else N H5):=by
 refine⟨λ i m H=>m=n - i/\i<=n/\Pv i H,⟨n,by simp,lX _,h0⟩,?_⟩;rintro i m H2 ⟨rfl,hi,p⟩
 by_cases hlt:i<n
 ·refine .inr ⟨hlt,Pv (i+1),λ H' p'=>⟨n - (i+1),by omega,rfl,hlt,p'⟩,λ x H' y=>?_⟩
  obtain⟨e,y⟩:=y;subst e y;exact hs i _ hlt p
 ·have e:i=n:=by omega
  subst e;exact .inl ⟨lP _,hd H2 p⟩
noncomputable def zGd (sc:Scope) (env:Env) (XN N:List Str) (cap:List (Option Nat)):Bool :=
 (sc.kind == .function) && (sc.names.all λ y=>y.2 != .cell) && (sc.names.all λ y=>y.2 != .local || sc.names.lookup y.1 == some .local) &&
 (sc.names.all λ y=>y.2 != .free || env.kindOf y.1 == some .cell) &&
 ((List.range cap.length).all λ i=>match cap[i]? with
  |some (some j)=>(match N[i]? with|some x=>XN[j]? == some x && sc.names.lookup x == some .free|none=>false)
  |_=>true) && (cap.length == N.length)
theorem zB3 {X:Cx}{elt tg iter:Expr}{ifs:List Expr}{sc:Scope}{pos:Pos}{wi:TI}{g:TG}{tt:TT}{te:TE}(N:List Str) (cap:List (Option Nat)) (hc:X.calm=true) (hi:PI X tg iter wi)
  (hg:∀cl s H C ex,PG (X.block sc cl N s H C ex) tg g) (ht:∀cl s H C ex,PTs (X.block sc cl N s H C ex) ifs tt) (he:∀cl s H C ex,PE (X.block sc cl N s H C ex) elt te)
  (ck:zGd sc X.env X.N N cap=true) (hs:∀x,foldedSetIterable iter X.env x=pure x:=by intro _;rfl):PE X (.ListComp elt [⟨tg,iter,ifs,0⟩] sc pos) (tComp cap wi g tt te):=by
 unfold zGd at ck;simp only[Bool.and_eq_true] at ck;obtain⟨⟨⟨⟨⟨k1,k2⟩,k3⟩,k4⟩,k5⟩,k6⟩:=ck;refine zKQ N cap hc hi hg ht he (by simpa using k1) (λ y hy=>?_) (λ y hy z=>?_) (λ n hn=>?_) (λ i j e=>?_) (by simpa using k6) hs
 ·have:=List.all_eq_true.mp k2 y hy
  simpa using this
 ·have:=List.all_eq_true.mp k3 y hy
  rw[z] at this;simpa using this
 ·have:=List.all_eq_true.mp k4 _ hn
  simpa using this
 ·have hi:i<cap.length:=(lJ.mp e).1
  have:=List.all_eq_true.mp k5 i (List.mem_range.mpr hi);rw[e] at this;dsimp only at this;cases q:N[i]? with
  |none=>rw[q] at this;cases this
  |some x =>
   rw[q] at this;dsimp only at this;rw[Bool.and_eq_true] at this;exact⟨x,rfl,by simpa using this.1,by simpa using this.2⟩
section
variable {X:Cx}
theorem zAC {H:Hp}{p:Addr}{o:HO}(h:H p=none):Same H (upd H p o):=λ b u q=>by rw[zAJ (zAI q h)];exact q
end
structure FnB (P:Program) (w:World) (K:W.Frag) (mg:Str->Option Value) (base:Heap) (k:Nat) (x:Str) (f:Addr) (fd:FuncData) (ps:List Str) (sp:Sp):Prop where
 ok:FnOk P w K mg base CX0 k f fd ps sp
 bd:Binds K fd ps []
 kp:W.keepIn K (.ref f)=true
 gl:mg x=some (.ref f)
theorem pe_cl {X:Cx}{k:Nat}{x:Str}{f:Addr}{fd:FuncData}{ps:List Str}{sp:Sp}{e:Expr}{es:List Expr}{t:TA}{p pos:Pos}(G:FnB X.prog X.w X.K X.mg X.base k x f fd ps sp) (hr:Room k X.A) (ha:PA X (e::es) t) (hg:Gl X x:=by rfl) (hdb:(x==("__debug__":Str))=false:=by decide) (he:starEach (e::es) X.env=(false,eval e X.env)::starEach es X.env:=by rfl) (hpl:(backTo pos (starEach es X.env)).any (·.1)=false:=by rfl):PE X (.Call (.Name x p) (e::es) [] pos) (tCall sp [] E0 t):=zHn G.ok hr hg G.gl G.kp G.bd .nil pass0 ha hdb he hpl
theorem iC {X:Cx}{r:R2}{a:Expr}{ta:TE}{i j p2 pos} (hr:IxR X r) (ha:PE X a ta):PE X (.Subscript a (.Constant (.int i) j p2) pos) (tOp r ta (tC (.int i))):=pe_ix hr ha zAE (λ U U=>rfl)
theorem FnB.up {P:Program}{w:World}{K:W.Frag}{mg:Str->Option Value}{base:Heap}{j k:Nat}{x:Str}{f:Addr}{fd:FuncData}{ps:List Str}{sp:Sp}(F:FnB P w K mg base j x f fd ps sp) (h:j<=k):FnB P w K mg base k x f fd ps sp :=
 ⟨F.ok.mono h,F.bd,F.kp,F.gl⟩
def Tk (H H':Hp):Prop:=∀b xs,H b=some (.tup xs)->H' b=some (.tup xs)
theorem Tk.trans {H H1 H2:Hp}(a:Tk H H1) (b:Tk H1 H2):Tk H H2:=λ c xs h=>b c xs (a c xs h)
theorem Same.tk {H H':Hp}(h:Same H H'):Tk H H':=λ b xs e=>h b _ e
theorem Tk.lst {H:Hp}{p:Addr}{xs:List V}{o:HO}(h:H p=some (.lst xs)):Tk H (upd H p o):=λ b ys e=>by
 rw[zAJ (λ z=>by subst z;rw[h] at e;cases e)];exact e
section
variable {X:Cx}
def rCatV:R2:=λ x y H Q=>∃a b xs ys,x = .ref a/\y = .ref b/\H a=some (.tup xs)/\H b=some (.tup ys)/\xs.length+ys.length<=sizeLine /\
 ∀p H',Same H H'->H' p=some (.tup (xs++ys))->Q (.ref p) H'
theorem zFj:OpR X (binaryOp .Add) rCatV:=by
 intro jP s σ H x y v u Q I rx ry h;obtain⟨a,b,xs,ys,rfl,rfl,ha,hb,hz,q⟩:=h
 by_cases hx:xs=[]
 ·subst hx
  cases rx;cases ry;obtain⟨its,r1,p1,_⟩:=I.tuple (SqT.of ha);obtain⟨its2,r2,p2,_⟩:=I.tuple (SqT.of hb);have e0:its=[]:=r1.nil_iff.mpr rfl;subst e0;obtain⟨⟨cls,dd,data,sl⟩,ho,hc,n,hd⟩:=id p1;obtain⟨⟨cls2,dd2,data2,sl2⟩,ho2,hc2,n2,hd2⟩:=id p2;simp only at hc hd hc2 hd2;subst hc hd hc2 hd2;exact concat_meets ⟨_,ho,rfl⟩ ⟨_,ho2,rfl⟩ noFill_tuple_add seq_tuple_add PySem.F.slot_tuple_add PySem.F.entry_tuple_add (PySem.F.args_tuple_add_2 _ _) (tuple_addW0 a b _ _ n n2 dd dd2 sl sl2 rfl) ⟨ho,ho2,⟨.ref b,H,I,rfl,q b H (.refl H) hb⟩⟩
 ·refine zKY jP s σ H (.ref a) (.ref b) v u Q I rx ry ⟨a,b,xs,ys,rfl,rfl,SqT.of ha,SqT.of hb,hx,hz,λ e=>?_,λ e p hp=>?_⟩
  ·subst e
   exact q a H (.refl H) (by rw[nV];exact ha)
  ·exact q p _ (zAC hp) zAA
def rSlV:V->Option Int->Option Int->Hp->VK->Prop:=λ x lo hi H Q=>∃a xs,x = .ref a/\H a=some (.tup xs) /\
 ¬(HT.sIx xs.length 0 lo=0/\HT.sIx xs.length xs.length hi=xs.length)/\∀p H',Same H H'->H' p=some (.tup (cutV xs lo hi))->Q (.ref p) H'
theorem zFY:SlR X rSlV:=by
 intro jP s σ H x v vl vu lo hi sl Q I rx hs pl pu h;obtain⟨a,xs,rfl,ha,hw,q⟩:=h;exact zLE jP s σ H (.ref a) v vl vu lo hi sl Q I rx hs pl pu ⟨a,xs,rfl,SqT.of ha,hw,λ p hp=>q p _ (zAC hp) zAA⟩
end
inductive Atom where
 |name (x:Str)|num (n:Int)|gap (g:Str)
inductive Bin where
 |add|sub|mul|thn
noncomputable def Bin.s:Bin->Str
 |.add => "add" |.sub => "sub" |.mul => "mul" |.thn => "then"
inductive Tr where
 |num (n:Int)|name (x:Str)|ask (x:Str)|stop (x:Str)|gap (g:Str) (as:List Atom)
 |say (a:Tr)|bin (o:Bin) (a b:Tr)|ite (a b c:Tr)|lett (x:Str) (a b:Tr)
def AtRep (H:Hp):Atom->V->Prop
 |.name x,v=>∃a,v = .ref a/\H a=some (.tup [.str "name", .str x])
 |.num n,v=>∃a,v = .ref a/\H a=some (.tup [.str "num", .int n])
 |.gap g,v=>∃a b,v = .ref a/\H a=some (.tup [.str "gap", .str g,.ref b])/\H b=some (.tup [])
def Rep (H:Hp):Tr->V->Prop
 |.num n,v=>∃a,v = .ref a/\H a=some (.tup [.str "num", .int n])
 |.name x,v=>∃a,v = .ref a/\H a=some (.tup [.str "name", .str x])
 |.ask x,v=>∃a,v = .ref a/\H a=some (.tup [.str "ask", .str x])
 |.stop x,v=>∃a,v = .ref a/\H a=some (.tup [.str "stop", .str x])
 |.gap g as,v=>∃a b us,v = .ref a/\H a=some (.tup [.str "gap", .str g,.ref b])/\H b=some (.tup us)/\us.length<=1000/\Paired (AtRep H) as us
 |.say t,v=>∃a u,v = .ref a/\H a=some (.tup [.str "say", u])/\Rep H t u
 |.bin o s t,v=>∃a u w,v = .ref a/\H a=some (.tup [.str o.s,u,w])/\Rep H s u/\Rep H t w
 |.ite r s t,v=>∃a u w z,v = .ref a/\H a=some (.tup [.str "if", u,w,z])/\Rep H r u/\Rep H s w/\Rep H t z
 |.lett x s t,v=>∃a u w,v = .ref a/\H a=some (.tup [.str "let", .str x,u,w])/\Rep H s u/\Rep H t w
theorem AtRep.mono {H H':Hp}(k:Tk H H'):∀{t:Atom}{v:V},AtRep H t v->AtRep H' t v
 |.name _,_,⟨a,e,h⟩=>⟨a,e,k _ _ h⟩
 |.num _,_,⟨a,e,h⟩=>⟨a,e,k _ _ h⟩
 |.gap _,_,⟨a,b,e,h,h'⟩=>⟨a,b,e,k _ _ h,k _ _ h'⟩
theorem Rep.mono {H H':Hp}(k:Tk H H'):∀{t:Tr}{v:V},Rep H t v->Rep H' t v
 |.num _,_,⟨a,e,h⟩=>⟨a,e,k _ _ h⟩
 |.name _,_,⟨a,e,h⟩=>⟨a,e,k _ _ h⟩
 |.ask _,_,⟨a,e,h⟩=>⟨a,e,k _ _ h⟩
 |.stop _,_,⟨a,e,h⟩=>⟨a,e,k _ _ h⟩
 |.gap _ _,_,⟨a,b,us,e,h,h',n,p⟩=>⟨a,b,us,e,k _ _ h,k _ _ h',n,Paired.mapP p λ U U z=>z.mono k⟩
 |.say _,_,⟨a,u,e,h,r⟩=>⟨a,u,e,k _ _ h,r.mono k⟩
 |.bin _ _ _,_,⟨a,u,w,e,h,r,s⟩=>⟨a,u,w,e,k _ _ h,r.mono k,s.mono k⟩
 |.ite _ _ _,_,⟨a,u,w,z,e,h,r,s,t⟩=>⟨a,u,w,z,e,k _ _ h,r.mono k,s.mono k,t.mono k⟩
 |.lett _ _ _,_,⟨a,u,w,e,h,r,s⟩=>⟨a,u,w,e,k _ _ h,r.mono k,s.mono k⟩
inductive Kd where
 |num|name|ask|stop|gap|say|add|sub|mul|thn|ite|lett
 deriving DecidableEq
noncomputable def Kd.s:Kd->Str
 |.num => "num" |.name => "name" |.ask => "ask" |.stop => "stop" |.gap => "gap"
 |.say => "say" |.add => "add" |.sub => "sub" |.mul => "mul" |.thn => "then" |.ite => "if" |.lett => "let"
noncomputable def Kd.leaf:Kd->Bool
 |.num=>true|.name=>true|.ask=>true|.stop=>true|.gap=>true
 |_=>false
theorem Kd.inj {a b:Kd}(h:a.s=b.s):a=b:=by
 revert h;cases a<;>cases b<;>first|(intro _;rfl)|(intro h;exact absurd h (by right))
theorem Kd.eq_iff {a b:Kd}:(V.str a.s=V.str b.s)↔a=b:=⟨λ h=>Kd.inj (V.str.inj h),λ h=>by rw[h]⟩
noncomputable def Bin.kd:Bin->Kd
 |.add=>.add|.sub=>.sub|.mul=>.mul|.thn=>.thn
noncomputable def Tr.kd:Tr->Kd
 |.num _=>.num|.name _=>.name|.ask _=>.ask|.stop _=>.stop|.gap _ _=>.gap
 |.say _=>.say|.bin o _ _=>o.kd|.ite _ _ _=>.ite|.lett _ _ _=>.lett
noncomputable def Tr.sign (t:Tr):Str:=t.kd.s
theorem Bin.kd_s (o:Bin):o.kd.s=o.s:=by cases o<;>rfl
noncomputable def Tr.parts:Tr->List Tr
 |.say a=>[a]|.bin _ a b=>[a,b]|.ite a b c=>[a,b,c]|.lett _ a b=>[a,b]
 |_=>[]
noncomputable def Tr.head:Tr->Nat
 |.gap _ _=>3|.say _=>1|.bin _ _ _=>1|.ite _ _ _=>1
 |_=>2
theorem Rep.all {H:Hp}:∀{t:Tr}{v:V},Rep H t v->∃a hs us,v = .ref a/\H a=some (.tup (.str t.sign::hs++us))/\hs.length+1=t.head/\Paired (Rep H) t.parts us
 |.num n,_,⟨a,e,h⟩=>⟨a,[.int n],[],e,h,rfl,.nil⟩
 |.name x,_,⟨a,e,h⟩=>⟨a,[.str x],[],e,h,rfl,.nil⟩
 |.ask x,_,⟨a,e,h⟩=>⟨a,[.str x],[],e,h,rfl,.nil⟩
 |.stop x,_,⟨a,e,h⟩=>⟨a,[.str x],[],e,h,rfl,.nil⟩
 |.gap g _,_,⟨a,b,us,e,h,h',_,p⟩=>⟨a,[.str g,.ref b],[],e,h,rfl,.nil⟩
 |.say _,_,⟨a,u,e,h,r⟩=>⟨a,[],[u],e,h,rfl,.cons r .nil⟩
 |.bin o _ _,_,⟨a,u,w,e,h,r,s⟩=>⟨a,[],[u,w],e,(by show _=some (HO.tup [V.str o.kd.s,u,w]);rw[Bin.kd_s];exact h),rfl,.cons r (.cons s .nil)⟩
 |.ite _ _ _,_,⟨a,u,w,z,e,h,r,s,t⟩=>⟨a,[],[u,w,z],e,h,rfl,.cons r (.cons s (.cons t .nil))⟩
 |.lett x _ _,_,⟨a,u,w,e,h,r,s⟩=>⟨a,[.str x],[u,w],e,h,rfl,.cons r (.cons s .nil)⟩
noncomputable def Tr.size:Tr->Nat
 |.say a=>a.size+1|.bin _ a b=>a.size+b.size+1|.ite a b c=>a.size+b.size+c.size+1|.lett _ a b=>a.size+b.size+1
 |_=>1
theorem zD9 {α:Type}{F:α->V->Prop}{as:List α}{us:List V}{i:Nat}{u:V}(h:Paired F as us):us[i]?=some u->∃a,as[i]?=some a/\F a u:=by
 induction h generalizing i with
 |nil=>exact λ e=>nomatch e
 |cons h t ih=>cases i with
  |zero=>exact λ e=>⟨_,rfl,by cases e;exact h⟩
  |succ i=>exact λ e=>ih (i:=i) (by simpa using e)
theorem zAp {H H':Hp}{p:Addr}{o:HO}(g:Same H H') (h:H p=none):Same H (upd H' p o):=λ b u q=>by rw[zAJ (zAI q h)];exact g b u q
noncomputable def Atom.names:Atom->List Str
 |.name x=>[x]
 |_=>[]
noncomputable def Tr.names:Tr->List Str
 |.name x=>[x]
 |.gap _ as=>as.flatMap Atom.names
 |_=>[]
theorem iteY {c:Prop} [Decidable c] {A B:Prop}(hc:c) (h:A):if decide c=true then A else B:=by rw[if_pos (decide_eq_true hc)];exact h
theorem iteN {c:Prop} [Decidable c] {A B:Prop}(hc:¬c) (h:B):if decide c=true then A else B:=by rw[if_neg (by rw[decide_eq_false hc];exact lV)];exact h
theorem zBm {n:Nat}(h:n<=1000):n<=sizeLine:=Nat.le_of_lt (zAS h)
noncomputable def zCg:List Expr->Option (List V)
 |[]=>some []
 |.Constant (.str x) _ _::r=>(zCg r).map λ l=>V.str x::l
 |.Constant (.int i) _ _::r=>(zCg r).map λ l=>V.int i::l
 |_=>none
def tRow (vs:List V):TA:=λ U H Q=>Q vs H
theorem zJY {X:Cx}{es:List Expr}:∀(vs:List V),zCg es=some vs->PA X es (tRow vs):=by
 induction es with
 |nil=>intro vs h;cases h;exact zAD
 |cons e r ih =>
  intro vs h;cases e with
  |Constant c j p =>
   cases c with
   |str x =>
    obtain⟨l,hl,e⟩:=lT.mp (show (zCg r).map (λ l=>V.str x::l)=some vs from h);subst e;exact zAB zAL (ih l hl)
   |int x =>
    obtain⟨l,hl,e⟩:=lT.mp (show (zCg r).map (λ l=>V.int x::l)=some vs from h);subst e;exact zAB zAE (ih l hl)
   |_=>cases h
  |_=>cases h
noncomputable def rowT:Expr->Option (List V)
 |.Tuple es _ _=>zCg es
 |_=>none
noncomputable def rowL:Expr->Option (List V)
 |.List es _=>zCg es
 |_=>none
theorem zKL {X:Cx}{e:Expr}(vs:List V) (h:rowT e=some vs):PE X e (tTup (tRow vs)):=by
 unfold rowT at h;split at h
 ·exact zAi (zJY vs h)
 ·cases h
theorem zHm {X:Cx}{e:Expr}(vs:List V) (h:rowL e=some vs):PE X e (tLst (tRow vs)):=by
 unfold rowL at h;split at h
 ·exact zBQ (zJY vs h)
 ·cases h
abbrev DRow:=Str × (Str ⊕ Int)
abbrev En:=Str->Int
abbrev Res:=List DRow × (Int ⊕ Str)
noncomputable def askR (x:Str):DRow:=("ask", .inl x)
noncomputable def sayR (n:Int):DRow:=("say", .inr n)
noncomputable def Bin.op:Bin->Int->Int->Int
 |.add,m,n=>(m+n) % 10 ^ 30
 |.sub,m,n=>(m - n) % 10 ^ 30
 |.mul,m,n=>(m * n) % 10 ^ 30
 |.thn,_,n=>n
noncomputable def En.set (e:En) (x:Str) (n:Int):En:=λ y=>if y=x then n else e y
noncomputable def pre (D:List DRow) (o:Option Res):Option Res:=o.map λ q=>(D++q.1,q.2)
noncomputable def seqR (r:Option Res) (k:Int->Option Res):Option Res:=r.bind λ r=>match r.2 with
 |.inr w=>some (r.1,.inr w)
 |.inl n=>pre r.1 (k n)
noncomputable def ev (a:En):Tr->En->Option Res
 |.num n,_=>some ([],.inl n)
 |.name x,e=>some ([],.inl (e x))
 |.ask x,_=>some ([askR x],.inl (a x))
 |.stop x,_=>some ([],.inr x)
 |.gap _ _,_=>none
 |.say t,e=>seqR (ev a t e) λ n=>some ([sayR n],.inl n)
 |.bin o s t,e=>seqR (ev a s e) λ m=>seqR (ev a t e) λ n=>some ([],.inl (o.op m n))
 |.ite c s t,e=>seqR (ev a c e) λ n=>if n=0 then ev a t e else ev a s e
 |.lett x s t,e=>seqR (ev a s e) λ n=>ev a t (e.set x n)
noncomputable def aft (a:En) (t:Tr) (e:En) (E:List Int):Option (Option Res × List Int) :=
 match t with
 |.say _=>match E with
  |n::E=>some (some ([sayR n],.inl n),E)
  |_=>none
 |.bin .thn _ t=>match E with
  |_::E=>some (ev a t e,E)
  |_=>none
 |.bin o _ _=>match E with
  |n::m::E=>some (some ([],.inl (o.op m n)),E)
  |_=>none
 |.ite _ s t=>match E with
  |n::E=>some (if n=0 then ev a t e else ev a s e,E)
  |_=>none
 |.lett x _ t=>match E with
  |n::E=>some (ev a t (e.set x n),E)
  |_=>none
 |_=>none
abbrev Item:=Tr × En × Bool
noncomputable def cont (a:En):List Item->List Int->Option Res
 |[],[]=>none
 |[],n::_=>some ([],.inl n)
 | (t,e,false)::W,E=>seqR (ev a t e) λ n=>cont a W (n::E)
 | (t,e,true)::W,E=>(aft a t e E).bind λ p=>seqR p.1 λ n=>cont a W (n::p.2)
def tOrT (K:W.Frag) (ta tb:TE):TE:=λ σ H Q=>ta σ H λ x H1=>∃k,TruV K x H1 k/\if k=true then Q x H1 else tb σ H1 Q
theorem zLO {X:Cx}{a b:Expr}{rest:List Expr}{pos:Pos}{ta tb:TE}(ha:PE X a ta) (hb:PE X (.BoolOp .Or (b::rest) pos) tb):PE X (.BoolOp .Or (a::b::rest) pos) (tOrT X.K ta tb):=by
 intro jP s σ H Q I h;refine BoolOp_or (thn (ha jP s σ H _ I h) λ v s1 ⟨x,H1,I1,r1,k,e1,q1⟩=>?_);refine thn (zJQ jP s1 σ H1 x v (λ c H2=>if c=true then Q x H2 else tb σ H2 Q) I1 r1 ⟨k,e1,q1⟩) λ c s2 ⟨H2,I2,q2⟩=>?_;cases c with
 |true=>exact⟨x,H2,I2,r1,q2⟩
 |false=>exact hb jP s2 σ H2 Q I2 q2
theorem zHD {X:Cx}:CallR X (.type "dict") (λ xs H Q=>∃a kvs,xs=[V.ref a]/\H a=some (.dK kvs)/\∀p,H p=none->Q (.ref p) (upd H p (.dK kvs))):=by
 intro jP s σ H xs us Q I r h;obtain⟨a,kvs,rfl,ha,q⟩:=h;obtain⟨u,rfl,ru⟩:=vals1 r;cases ru;exact zJK I (.inl ha) λ p s' hp I'=>⟨.ref p,_,I',rfl,q p hp⟩
theorem zIX {k:Int}(h:k.natAbs<2 ^ 100):Builtin.Int.intBits k<=100:=by
 unfold Builtin.Int.intBits;split
 ·exact lX _
 ·have:k.natAbs.log2<100:=by
   rcases Nat.eq_zero_or_pos k.natAbs with h0|hp
   ·rw[h0];decide
   ·exact(Nat.log2_lt (Nat.ne_of_gt hp)).mpr h
  omega
def CMulB (i j:Int):Prop:=i.natAbs<2 ^ 100/\j.natAbs<2 ^ 100
theorem zKV {X:Cx}:OpR X (binaryOp .Mult) (rI CMulB λ i j=>.int (i * j)):=opI λ U U U U U U U hc q=>mul_int q (IntMulOk.of_le (zIX hc.1) (zIX hc.2) (by decide))
section
variable {P:Program}{w:World}{K:W.Frag}{mg:Str->Option Value}{base:Heap}
structure FnM (P:Program) (w:World) (K:W.Frag) (mg:Str->Option Value) (base:Heap) (k:Nat) (C:Addr) (m:Str) (f:Addr) (fd:FuncData) (ps:List Str) (sp:Sp):Prop where
 ok:FnOk P w K mg base CX0 k f fd ps sp
 bd:Binds K fd ps []
 mt:Meth K C m f
theorem FnM.up {j k:Nat}{C:Addr}{m:Str}{f:Addr}{fd:FuncData}{ps:List Str}{sp:Sp}(F:FnM P w K mg base j C m f fd ps sp) (h:j<=k):FnM P w K mg base k C m f fd ps sp:=⟨F.ok.mono h,F.bd,F.mt⟩
end
theorem zGM:Manifest.owners.lookup (String.ofList ['d', 'e', 's', 'r', 'e', 'v', 'e', 'r'].reverse)=some Manifest.sig_reversed:=by kernel_rfl
theorem zDT:Slot "reversed" "__next__" "reversed.__next__" := .of (owner := "reversed") (n := "__next__") (by rw[typeLookup_type,builtinLookup_eq_fast];kernel_rfl) (by right) (by right) (by right) (by first|exact .inl (by right)|exact .inr (by right)) (by rw[isSubtype_type];kernel_rfl)
theorem zCn:entryFor table "reversed.__next__" = some Builtin.«reversed.__next__»:=entryFor_of_tree (by kernel_rfl)
theorem zC8 (a:Value):argsOk "reversed.__next__" ⟨[a],[]⟩:=by unfold argsOk;rw[signature?_of (id := "reversed.__next__") (n:=['_', '_', 't', 'x', 'e', 'n', '_', '_']) (o:=['d', 'e', 's', 'r', 'e', 'v', 'e', 'r']) (by kernel_rfl) zGM];kernel_rfl
theorem zHf:Slot "reversed" "__iter__" "reversed.__iter__" := .of (owner := "reversed") (n := "__iter__") (by rw[typeLookup_type,builtinLookup_eq_fast];kernel_rfl) (by right) (by right) (by right) (by first|exact .inl (by right)|exact .inr (by right)) (by rw[isSubtype_type];kernel_rfl)
theorem zE4 (a:Value):argsOk "reversed.__iter__" ⟨[a],[]⟩:=by unfold argsOk;rw[signature?_of (id := "reversed.__iter__") (n:=['_', '_', 'r', 'e', 't', 'i', '_', '_']) (o:=['d', 'e', 's', 'r', 'e', 'v', 'e', 'r']) (by kernel_rfl) zGM];kernel_rfl
theorem zEW:entryFor table "reversed.__iter__" = some Builtin.«dict_keyiterator.__iter__»:=entryFor_alias (id' := "dict_keyiterator.__iter__") (by kernel_rfl) (by first|rfl|right|(unfold String.splitOn;simp +decide [String.splitOnAux])) (by right) (by kernel_rfl)
theorem zJ2:Slot "reversed" "__init__" "object.__init__" := .of (owner := "object") (n := "__init__") (by rw[typeLookup_type,builtinLookup_eq_fast];kernel_rfl) (by right) (by right) (by right) (by first|exact .inl (by right)|exact .inr (by right)) (by rw[isSubtype_type];kernel_rfl)
theorem zHg:TypeCalled "reversed" "reversed.__new__" "object.__init__" := ⟨by right,F.create_reversed,⟨_,_,F.mro_reversed⟩,F.made_reversed,F.plain_reversed_new,F.sub_reversed_self,zJ2⟩
theorem zGk:typeLookup (.type "tuple") "__reversed__" = pure none:=by rw[typeLookup_type,builtinLookup_eq_fast];kernel_rfl
noncomputable def rvObj (l:Addr) (i:Int):Obj:={ cls:=.type "reversed", data:=.fields #[.ref l,rawInt i] }
theorem zG0 (l:Addr) (items:Array Value) (hz:(items.size:Int)<2 ^ 63) :
  Meets (Builtin.«reversed.__new__» ⟨[.type "reversed", .ref l],[]⟩) (λ U R s=>IsTup s.heap l items/\R (.ok (.ret (.ref s.heap.objs.size))) { s with heap:=s.heap.push (rvObj l ((items.size:Int) - 1)),toks:=s.toks+1+1 }) :=
 .of_wp λ prog w A R s h=>by
  obtain⟨ht,h⟩:=h;unfold Builtin.«reversed.__new__»;refine lA (wpAny_of_eq (newClass_reversed _) ?_);dsimp only;refine lA (wpAny_of_eq (a:=()) (by first|rfl|kernel_rfl) ?_);refine lA (wpAny_of_eq (a:=()) (by first|rfl|kernel_rfl) ?_);try dsimp only
  refine lA (wpAny_specialOf ht.typeIs zGk ?_);dsimp only;refine lA ?_;show wpAny _ _ (isInstance (.ref l) (.type "dict") >>= _) _ _ s;refine lA (wpAny_isInstance ht.typeIs F.sub_tuple_dict ?_);show wpAny _ _ (specialOf (.ref l) "__getitem__" >>= _) _ _ s;refine lA (wpAny_specialOf ht.typeIs slot_tuple_getitem.lookup ?_);dsimp only;rw[if_pos (by decide)];refine lB ?_;show wpAny _ _ (call (.builtin "len") [.ref l] >>= _) _ _ s;refine lA (len_tuple ht hz ?_);refine lA (wpAny_of_eq (a:=some (items.size:Int)) rfl ?_);dsimp only;refine lA ?_;unfold Builtin.SmallTypes.newRecord;dsimp only;refine wpAny_newObj_type ?_ (by size_fits);exact lB ⟨_,rfl,h⟩
section
variable {prog:Program}{w:World}{A:Around}{E:XQ}{s:Shared}
theorem zIT {l:Addr}{items:Array Value}{Q:XQ}(ht:IsTup s.heap l items) (hz:(items.size:Int)<2 ^ 63) (h:Q (.ref s.heap.objs.size) { s with heap:=s.heap.push (rvObj l ((items.size:Int) - 1)),toks:=s.toks+1+1 }) :
  wpAny (model prog w) A (call (.type "reversed") [.ref l]) Q E s:=by
 refine callType_new zHg (by decide) (F.typeCall_reversed_1 _) (F.newCall_reversed_1 _) (λ obj=>F.args_object_init_2 obj _) F.entry_reversed_new (zG0 l items hz) ⟨ht,?_⟩;exact⟨⟨_,lH _ rfl,rfl⟩,h⟩
theorem zID {it t:Addr}{i:Int}{Q:XQ}(hit:s.heap.get? it=some (rvObj t i)) (h:Q (.ref it) s):wpAny (model prog w) A (pyIter (.ref it)) Q E s:=by
 have hT:s.TypeIs (.ref it) "reversed" := ⟨_,hit,rfl⟩;refine wpAny_pyIter_slot hT zHf (wpAny_call_entry zHf hT zEW ?_ (zE4 _));show wpAny _ _ (ret (.ref it)) _ _ s;exact lB ⟨_,rfl, "reversed", _,hT,zDT.lookup,h⟩
theorem zKl {it t:Addr}{i:Nat}{items:Array Value}{x:Value}{Q:Option Value->Shared->Prop}(hit:s.heap.get? it=some (rvObj t (i:Int))) (ht:IsTup s.heap t items) (hne:t≠it) (hz:(items.size:Int)<2 ^ 63) (hx:items[i]?=some x)
  (hQ:∀h' tk,h'.get? it=some (rvObj t ((i:Int) - 1))->Heap.SameBut it s.heap h'->Q (some x) { s with heap:=h',toks:=tk }):wpAny (model prog w) A (pyNext (.ref it)) Q E s:=by
 have hT:s.TypeIs (.ref it) "reversed" := ⟨_,hit,rfl⟩
 have hi:i<items.size:=by
  rcases Nat.lt_or_ge i items.size with h|h
  ·exact h
  ·rw[Array.getElem?_eq_none h] at hx;cases hx
 unfold pyNext;refine lA (wpAny_attempt (wpAny_callSpecial?_slot (name:=Str.ofString "__next__") hT zDT (wpAny_call_entry zDT hT zCn ?_ (zC8 _))));unfold Builtin.«reversed.__next__»;refine lA (wpAny_of_eq (a:=(Value.ref it,[])) rfl ?_);dsimp only;refine lA (wpAny_field hit rfl (x:=.ref t) rfl ?_);refine lA (wpAny_field hit rfl (x:=rawInt (i:Int)) rfl ?_);show wpAny _ _ (if (i:Int)<0 then _ else _) _ _ s;rw[if_neg (by omega)];show wpAny _ _ (specialOf (.ref t) "__getitem__" >>= _) _ _ s;refine lA (wpAny_specialOf ht.typeIs slot_tuple_getitem.lookup ?_);rw[if_neg (by decide)];show wpAny _ _ (mkInt (i:Int) >>= _) _ _ s;refine lA (wpAny_mkInt ?_);refine lA (wpAny_attempt (getItem_tuple (j:=i) (x:=x) ht (by omega) (by omega) (seqIndex_of (by omega) (by omega)) hx ?_));dsimp only;refine lA (wpAny_field hit rfl (x:=rawInt (i:Int)) rfl ?_);refine lA (wpAny_setField_rec hit (by simp) λ q1 h1 hs1=>?_);refine lB ⟨x,rfl,lB (hQ q1 _ ?_ hs1)⟩;exact h1
theorem zLh {it t:Addr}{i:Int}{Q:Option Value->Shared->Prop}(hh:A.handled=none) (hit:s.heap.get? it=some (rvObj t i)) (hi:i<0)
  (hQ:∀h' tk,Heap.ExtBut it s.heap h'->Q none { s with heap:=h',toks:=tk }):wpAny (model prog w) A (pyNext (.ref it)) Q E s:=by
 have hT:s.TypeIs (.ref it) "reversed" := ⟨_,hit,rfl⟩;unfold pyNext;refine lA (wpAny_attempt (wpAny_callSpecial?_slot (name:=Str.ofString "__next__") hT zDT (wpAny_call_entry zDT hT zCn ?_ (zC8 _))));unfold Builtin.«reversed.__next__»;refine lA (wpAny_of_eq (a:=(Value.ref it,[])) rfl ?_);dsimp only;refine lA (wpAny_field hit rfl (x:=.ref t) rfl ?_);refine lA (wpAny_field hit rfl (x:=rawInt i) rfl ?_);show wpAny _ _ (if i<0 then _ else _) _ _ s;rw[if_pos hi];refine lA (wpAny_rule ?_);refine lA ?_;show wpAny _ _ (setField (.ref it) 1 (rawInt (-1)) >>= _) _ _ s;refine lA (wpAny_setField_rec hit (by simp) λ q1 h1 hs1=>?_);refine wpAny_setField_rec h1 (by simp) λ q2 h2 hs2=>?_;refine lA ?_;show wpAny _ _ (newExc (.type "StopIteration") [] >>= _) _ _ _;refine lA ?_;simp only[newExc,newTuple];refine lA (wpAny_newObj_type ?_ (by size_fits));refine lA (m:=firstArgMember _ _) (wpAny_of_eq (a:=Value.none) (by first|rfl|(simp only[firstArgMember];rfl)) ?_);refine wpAny_newObj_type ?_ (by size_fits);simp only[raiseNew];refine lA (wpAny_handled ?_);first|rw[show A.in1.handled=none from hh]|rw[hh]
 refine lA (lB (wpAny_throw ?_));refine lA (wpAny_isInstance (T := "StopIteration") (b:=true) ⟨_,lH _ rfl,rfl⟩ isSubtype_stop ?_);exact lB (hQ _ _ (((hs1.extBut.trans hs2.extBut).push _).push _))
end
noncomputable def Itv (K:W.Frag) (a:Addr) (n:Nat):It :=
 ⟨λ i H=>i<n/\∃xs x,SqT K H a xs/\xs.length=n/\xs[n - 1 - i]?=some x,λ i H x H'=>H'=H/\∀xs,SqT K H a xs->xs[n - 1 - i]?=some x,λ i U=>n<=i⟩
theorem zJn {P:Program}{w:World}{K:W.Frag}{tg:Expr}(a it:Addr) (n:Nat):Turn P w K tg (Itv K a n) [it] it (λ i h=>h.get? it=some (rvObj a ((n:Int) - 1 - (i:Nat)))) where
 mem:=by simp
 obj:=λ i h st b hb=>by
  have e:b=it:=by simpa using hb
  subst e;exact⟨_,st,λ v z=>by have z':Data.fields _=Data.cell v:=z;cases z'⟩
 keep:=λ i h h' st k=>k it (by simp) _ st
 item:=by
  intro X hP hw hK hc i jP s σ H E I hf st hg;subst hP hw hK;obtain⟨hin,xs,x,hq,hl,hx⟩:=hg;obtain⟨its,rv,p,hz⟩:=I.tuple hq;obtain⟨u,hu,ru⟩:=rv.get hx;obtain⟨f0,f1,f2,f3,f4,f5⟩:=hf it (by simp);have hn:=zDd;have hlv:=rv.length
  have hai:a≠it:=λ z=>by
   obtain⟨o1,q1,c1,_⟩:=p;rw[z,st] at q1;cases q1;injection c1 with c3;exact absurd c3 (by decide)
  have e:(n:Int) - 1 - (i:Nat)=((n - 1 - i:Nat):Int):=by omega
  rw[e] at st;refine zKl st p hai (by rw[lS];omega) (x:=u) (by simpa using hu) λ h' tk st' sb=>?_;have I1:Inv X jP σ H { s with heap:=h',toks:=tk }:=I.turned (t':=tk) (λ b o hb e=>(sb.2 b hb).trans e) f0 f1 f3 f4 f5;refine⟨u,rfl,go_of (s:={ s with heap:=h',toks:=tk }) (n := "reversed") st' rfl rfl (by decide) ⟨x,H,I1,ru,⟨rfl,λ ys hy=>by rw[I.tuple_inj hy hq];exact hx⟩,?_,λ b hb=>(hf b hb).1⟩⟩;have e2:(n:Int) - 1 - ((i+1:Nat):Int)=((n - 1 - i:Nat):Int) - 1:=by omega
  show h'.get? it=some (rvObj a ((n:Int) - 1 - ((i+1:Nat):Int)));rw[e2];exact st'
 done:=by
  intro X hP hw hK hc i jP s σ H E I hf st hg;subst hP hw hK;obtain⟨f0,f1,f2,f3,f4,f5⟩:=hf it (by simp);have hg':n<=i:=hg;exact zLh (I.ok.hd hc) st (by omega) λ h' tk eb=>⟨rfl,I.turned (t':=tk) (λ b o hb e=>eb b o hb e) f0 f1 f3 f4 f5⟩
 self:=λ U U U U U st h=>zID st h
def iRev (K:W.Frag) (ta:TA):TI:=λ σ H R=>ta σ H λ vs H1=>∃a,vs=[.ref a]/\∃xs,SqT K H1 a xs/\R (Itv K a xs.length) H1
theorem zKK {X:Cx}{tg a:Expr}{ta:TA}{p pos:Pos}(hg:Gl X "reversed") (hm:X.mg "reversed" = none) (ha:PA X [a] ta) (hs:starEach [a] X.env=[(false,eval a X.env)]:=by rfl):PI X tg (.Call (.Name "reversed" p) [a] [] pos) (iRev X.K ta):=by
 intro jP s σ H R I h;refine Call_ (zEC I hg hm boot_reversed (PyProof.Rows.callWith_type1 (thn (ha pos jP s σ H _ I h) λ us s1 ⟨vs,H1,I1,r1,q1⟩=>?_) hs rfl));obtain⟨b,e,xs,hq,q⟩:=q1;subst e;obtain⟨u,rfl,ru⟩:=vals1 r1;cases ru;obtain⟨its,rv,tp,hz⟩:=I1.tuple hq;have hl:=rv.length;have hn:=zDd;refine zIT tp (by rw[lS];omega) ?_;have hnew:(s1.heap.push (rvObj b ((its.toArray.size:Int) - 1))).get? s1.heap.objs.size=some (rvObj b ((its.toArray.size:Int) - 1)):=lH _ rfl;refine zID hnew ⟨_,[s1.heap.objs.size],_,_,H1,rfl,I1.kept (t':=s1.toks+1+1) (λ c o e=>lG _ e),zJn b _ xs.length,?_,λ c hc=>?_,q⟩
 ·show _=some (rvObj b ((xs.length:Int) - 1 - ((0:Nat):Int)))
  rw[hnew,lS,hl];simp
 ·have e:=mR.mp hc
  subst e;exact I1.fpOk (lP _) (I1.hok.fresh (lP _))
theorem zKw {K:W.Frag}{a:Addr}{xs:List V}{g:TG}{tb:TS}{D:Ends}{σ:St}{H:Hp}(Pv:Nat->St->Hp->Prop) (h0:Pv 0 σ H) (hl:∀i σ H,i<=xs.length->Pv i σ H->SqT K H a xs)
  (hs:∀i x σ H,i<xs.length->xs[xs.length - 1 - i]?=some x->Pv i σ H->g x σ H λ σ2 H2=>tb { D with nx:=Pv (i+1),ct:=Pv (i+1),bk:=D.nx } σ2 H2) (hd:∀σ H,Pv xs.length σ H->D.nx σ H) :
  ∃W:Nat->Nat->St->Hp->Prop,(∃m,W 0 m σ H)/\∀i m σ H,W i m σ H ->
   ((Itv K a xs.length).stop i H/\D.nx σ H)\/((Itv K a xs.length).go i H/\∃N:St->Hp->Prop,(∀σ' H',N σ' H'->∃m',m'<m/\W (i+1) m' σ' H')/\∀x H',(Itv K a xs.length).yld i H x H'->g x σ H' λ σ2 H2=>tb { D with nx:=N,ct:=N,bk:=D.nx } σ2 H2):=by
 refine⟨λ i m σ H=>m=xs.length - i/\i<=xs.length/\Pv i σ H,⟨xs.length,by simp,lX _,h0⟩,?_⟩;rintro i m σ H ⟨rfl,hi,p⟩;have q:=hl i σ H hi p
 by_cases hlt:i<xs.length
 ·have hk:xs.length - 1 - i<xs.length:=by omega
  refine .inr ⟨⟨hlt,xs,xs[xs.length - 1 - i],q,rfl,by simp[hk]⟩,Pv (i+1),λ σ' H' p'=>⟨xs.length - (i+1),by omega,rfl,hlt,p'⟩,λ x H' y=>?_⟩;obtain⟨eH,y⟩:=y;subst eH;exact hs i x σ _ hlt (y xs q) p
 ·have e:i=xs.length:=by omega
  subst e;exact .inl ⟨lP _,hd σ H p⟩
theorem zEt:∀{ys:List Str}{us:List Value},Vals (ys.map V.str) us->StrsAre us ys
 |[],_,h=>by cases h;exact .nil
 |y::ys,_,h=>by
  cases h with
  |cons r t =>
   obtain⟨tk,rfl⟩:=r;exact .cons y tk (zEt t)
def rJoin:V->List V->Hp->VK->Prop:=λ x xs H Q=>∃(z:Str) (l:Addr) (ys:List Str),x = .str z/\xs=[.ref l]/\H l=some (.lst (ys.map V.str))/\z.length<=16/\(ys.map (·.length)).sum+ys.length<=1048576/\Q (.str (Txt.join z ys)) H
theorem zKm {X:Cx}:MtR X "str.join" rJoin:=by
 intro jP s σ H x xs v us Q I rx rs h;obtain⟨z,l,ys,rfl,rfl,hl,hz,hw,q⟩:=h;obtain⟨t,rfl⟩:=rx;obtain⟨u,rfl,ru⟩:=Vals.one rs;cases ru;obtain⟨_,its,n,r,le,e⟩:=I.lstM hl;have L1:s.heap.IsList l its.toArray:=⟨_,e,rfl,_,rfl⟩;exact join_listW L1 (zEt r) hz hw λ t' k=>⟨.str _,H,I.tok k,⟨t',rfl⟩,q⟩
theorem zFx {lo:Int}{n:Nat}{acc:Addr}{g:TG}{tt:TT}{te:TE}{σ:L2.St}{H:Hp}{R:Hp->Prop}(Pv:Nat->Hp->Prop) (h0:Pv 0 (upd H acc (.lst [])))
  (hs:∀i H,i<n->Pv i H->g (.int (lo+i)) σ H λ σ2 H4=>Ext σ σ2/\tt σ2 H4 λ b H5 =>
   if b=true then te σ2 H5 λ y H6=>∃zs,H6 acc=some (.lst zs)/\zs.length<sizeLine/\Pv (i+1) (upd H6 acc (.lst (zs++[y]))) else Pv (i+1) H5) (hd:∀H,Pv n H->R H) :
  ∃W:Nat->Nat->Hp->Prop,(∃m,W 0 m (upd H acc (.lst [])))/\∀i m H2,W i m H2 ->
   ((Itr lo n).stop i H2/\R H2)\/((Itr lo n).go i H2/\∃N:Hp->Prop,(∀H',N H'->∃m',m'<m/\W (i+1) m' H')/\∀x H3,(Itr lo n).yld i H2 x H3->g x σ H3 λ σ2 H4=>Ext σ σ2/\tt σ2 H4 λ b H5 =>
    if b=true then te σ2 H5 λ y H6=>∃zs,H6 acc=some (.lst zs)/\zs.length<sizeLine/\N (upd H6 acc (.lst (zs++[y])))
    else N H5):=zHA (Q:=λ U H=>R H) Pv h0 hs hd
theorem zCR {K:W.Frag}{a:Addr}{xs:List V}{acc:Addr}{g:TG}{tt:TT}{te:TE}{σ:L2.St}{H:Hp}{R:Hp->Prop}(Pv:Nat->Hp->Prop) (h0:Pv 0 (upd H acc (.lst []))) (hl:∀i H,i<=xs.length->Pv i H->SqL K H a xs)
  (hs:∀i x H,xs[i]?=some x->Pv i H->g x σ H λ σ2 H4=>Ext σ σ2/\tt σ2 H4 λ b H5 =>
   if b=true then te σ2 H5 λ y H6=>∃zs,H6 acc=some (.lst zs)/\zs.length<sizeLine/\Pv (i+1) (upd H6 acc (.lst (zs++[y]))) else Pv (i+1) H5) (hd:∀H,Pv xs.length H->R H) :
  ∃W:Nat->Nat->Hp->Prop,(∃m,W 0 m (upd H acc (.lst [])))/\∀i m H2,W i m H2 ->
   ((Itl K a).stop i H2/\R H2)\/((Itl K a).go i H2/\∃N:Hp->Prop,(∀H',N H'->∃m',m'<m/\W (i+1) m' H')/\∀x H3,(Itl K a).yld i H2 x H3->g x σ H3 λ σ2 H4=>Ext σ σ2/\tt σ2 H4 λ b H5 =>
    if b=true then te σ2 H5 λ y H6=>∃zs,H6 acc=some (.lst zs)/\zs.length<sizeLine/\N (upd H6 acc (.lst (zs++[y])))
    else N H5):=by
 refine⟨λ i m H=>m=xs.length - i/\i<=xs.length/\Pv i H,⟨xs.length,by simp,lX _,h0⟩,?_⟩;rintro i m H2 ⟨rfl,hi,p⟩;have q:=hl i H2 hi p
 by_cases hlt:i<xs.length
 ·refine .inr ⟨⟨xs,xs[i],q,by simp[hlt]⟩,Pv (i+1),λ H' p'=>⟨xs.length - (i+1),by omega,rfl,hlt,p'⟩,λ x H' y=>?_⟩
  obtain⟨e,y⟩:=y;subst e;exact hs i x _ (y xs q) p
 ·have e:i=xs.length:=by omega
  subst e;exact .inl ⟨⟨xs,q,lP _⟩,hd H2 p⟩
section
variable {X:Cx}
theorem zKF {elt tg iter:Expr}{y:Str}{py spos:Pos}{jj:Nat}{ifs:List Expr}{sc:Scope}{pos:Pos}{wi:TI}{g:TG}{tt:TT}{te:TE}(N:List Str) (cap:List (Option Nat)) (hc:X.calm=true) (hi:PI X tg iter wi)
    (hg:∀cl s H C ex,PG (X.block sc cl N s H C ex) tg g) (ht:∀cl s H C ex,PTs (X.block sc cl N s H C ex) ifs tt) (he:∀cl s H C ex,PE (X.block sc cl N s H C ex) elt te)
    (hk:sc.kind = .function) (nc:∀y∈sc.names,y.2 ≠ .cell) (hnames:∀y∈sc.names,y.2 = .local->sc.names.lookup y.1=some .local)
    (hfree:∀n,(n,NameKind.free)∈sc.names->X.env.kindOf n=some .cell)
    (hcap:∀(i j:Nat),cap[i]?=some (some j)->∃x,N[i]?=some x/\X.N[j]?=some x/\sc.names.lookup x=some .free) (hlen:cap.length=N.length)
    (hN:X.N.Nodup) (hjj:X.N[jj]?=some y) (hxx:Loc X.env.scope y) (hf:X.fn y=true\/X.env.scope.names.lookup y=some .local)
    (hsw:swapsWith (.ListComp elt [⟨tg,iter,ifs,0⟩] sc pos) (some (.Name y py)) spos.line X.env=pure true)
    (hs:∀x,foldedSetIterable iter X.env x=pure x:=by intro _;rfl):PS X (.Assign [.Name y py] (.ListComp elt [⟨tg,iter,ifs,0⟩] sc pos) spos) (tAsg (tComp cap wi g tt te) (gName jj)):=by
  intro jP s σ H D I h;obtain⟨cl,hclos,c1,c2⟩:=zEF (sc:=sc) (env:=X.env) λ n hn=>I.ok.has n (.inl (hfree n hn));rw[exec_Assign_Name_used _ _ _ _ hsw];refine lA (wpAny_standAt (lA ?_));show wpAny _ X.A (do let _ ← comprehension (.ListComp elt [⟨tg,iter,ifs,0⟩] sc pos) sc X.env _ (newList []) false (eval iter X.env) (some (assign (.Name y py) X.env))) _ _ s;refine lA (wpAny_mono (wpAny_comprehension_free (use:=some (assign (.Name y py) X.env)) (Q:=λ U s'=>SP X jP D .next s') rfl hs hclos hk hnames ?_) (λ U s' hq=>lB (lB hq)) λ U U e=>e);refine thn (hi jP s σ H _ I h) λ v s1 h1=>thn h1 λ itv s2 h2=>?_;obtain⟨it,fp,tn,J,H2,e,I2,T,st2,f2,q2⟩:=h2;subst e;have hfr:H2 s2.heap.objs.size=none:=I2.fresh;obtain⟨W,⟨m0,w0⟩,turn⟩:=q2 s2.heap.objs.size hfr;have I3:=I2.lnew (ys:=[]) (its:=[]) (t':=s2.toks) .nil (lX _);have hacc:H2 s2.heap.objs.size=none:=hfr;refine wpAny_newObj_type (wpAny_newFunctionEnv nc (by intro y hy;simp at hy) (λ h4 hns hsb=>?_) hk);generalize hs3:({ s2 with heap:=s2.heap.push { cls:=.type "list", data:=.seq ([]:List Value).toArray } }:Shared)=s3 at hns hsb I3 ⊢;have hheap:s3.heap=s2.heap.push { cls:=.type "list", data:=.seq ([]:List Value).toArray }:=by rw[←hs3]
  generalize hH3:upd H2 s2.heap.objs.size (.lst [])=H3 at I3 w0;have up2:∀b o,s2.heap.get? b=some o->s3.heap.get? b=some o:=λ b o q=>by rw[hheap];exact lG _ q
  have neA:∀b∈fp,b≠s2.heap.objs.size:=λ b hb=>by
    obtain⟨o,q,_⟩:=T.obj _ _ st2 b hb;exact lQ (lI q)
  have f3:∀b∈fp,FpOk X jP H3 b:=λ b hb=>⟨by rw[←hH3,zAJ (neA b hb)];exact(f2 b hb).1,(f2 b hb).2⟩
  have o3:∀b∈fp,∃o,s3.heap.get? b=some o:=λ b hb=>by
    obtain⟨o,q,_⟩:=T.obj _ _ st2 b hb;exact⟨o,up2 b o q⟩
  have ok':=zGg (N:=N) (C:=s3.heap.objs.size) I3 hk nc (lP _) f3 o3 c1 c2;generalize hC:s3.heap.objs.size=C at hns hsb ok' ⊢;have ltC:∀b o,s3.heap.get? b=some o->b≠C:=λ b o q=>by rw[←hC];exact lQ (lI q)
  have up4:∀b o,s3.heap.get? b=some o->h4.get? b=some o:=λ b o q=>hsb.extBut b o (ltC b o q) (lG _ q);have st4:tn 0 h4:=T.keep _ _ _ st2 λ b hb o q=>up4 b o (up2 b o q)
  have I4:Inv (X.block sc cl N s3 H3 C fp) [] (capSt cap σ) H3 { s3 with heap:=h4,toks:=s3.toks+([]:List (Str × Value)).length }:=by
    refine⟨ok',rfl,I3.bare,Un.kept up4,⟨_,hns,λ i x v e1 e2 e3=>?_⟩,λ x c q=>?_,?_,λ x c q=>I3.freeC x c (c1 x c q),λ p hp=>(nomatch hp),I3.hok.kept up4,?_⟩
    · have ee:∃j,cap[i]?=some (some j)/\σ[j]?=some (some v):=by
        unfold capSt at e2;rw[mH] at e2;cases q:cap[i]? with
        |none=>rw[q] at e2;cases e2
        |some o =>
          rw[q] at e2;cases o with
          |none=>cases e2
          |some j =>
            refine⟨j,rfl,?_⟩;have e2':some ((σ[j]?).join)=some (some v):=e2;cases z:σ[j]? with
            |none=>rw[z] at e2';cases e2'
            |some o' =>
              rw[z] at e2';have e2'':o'=some v:=mI e2';rw[e2'']
      obtain⟨j,ej,es⟩:=ee;obtain⟨x',n1,n2,n3⟩:=hcap i j ej;have e1':N[i]?=some x:=e1;rw[n1] at e1';cases e1';have hfr':(x,NameKind.free)∈sc.names:=zC1 n3;have kc:=hfree x hfr';obtain⟨m,_,hl⟩:=I3.loc;obtain⟨u,r,l⟩:=hl j x v n2 es (.inr (.inl kc));refine⟨u,r,?_⟩;rcases l with ⟨l,_⟩|⟨_,c,ec,z⟩
      · rw[kc] at l;cases l
      · obtain⟨c',ec'⟩:=c2 x hfr'
        have:=c1 x c' ec';rw[ec] at this;cases this;obtain⟨oc,q1,q2⟩:=z;exact .inr ⟨zA9 (sc:=sc) n3,c,ec',oc,up4 _ _ q1,q2⟩
    · obtain⟨v,oc,q1,q2⟩:=I3.cell x c (c1 x c q)
      exact⟨v,oc,up4 _ _ q1,q2⟩
    · exact I3.hok.fresh (by rw[hC];exact lP _)
    · show (capSt cap σ).length=N.length
      unfold capSt;rw[lC,hlen]
  have loop:codeAny (model X.prog X.w) X.A (.compLoop (.ListComp elt [⟨tg,iter,ifs,0⟩] sc pos) 0 (.ref it) (.ref s2.heap.objs.size) (compEnvC sc cl C X.env)) (compPost (model X.prog X.w) X.A X.xe (some (assign (.Name y py) X.env)) (λ U s'=>SP X jP D .next s') (.ref s2.heap.objs.size) C)
      { s3 with heap:=h4,toks:=s3.toks+([]:List (Str × Value)).length }:=by
    have stat:∀{H':Hp},(∀b∈fp,H' b=none)->∀b∈fp,FpOk (X.block sc cl N s3 H3 C fp) [] H' b:=λ hn b hb =>
      ⟨hn b hb,(ok'.exf b hb).1,ok'.exfs b hb,.inl hb,(ok'.exf b hb).2,λ p hp=>(nomatch hp)⟩
    refine zFK (λ n s'=>∃i H',Inv (X.block sc cl N s3 H3 C fp) [] (capSt cap σ) H' s'/\tn i s'.heap/\(∀b∈fp,H' b=none)/\W i n H') ?_ m0 ⟨0,H3,I4,st4,λ b hb=>(f3 b hb).1,w0⟩;rintro n s5 ⟨i,H5,I5,st5,fr5,w5⟩;rcases turn i n H5 w5 with ⟨stop,qn⟩|⟨go,N',hN',step⟩
    · refine thn (T.done (X.block sc cl N s3 H3 C fp) rfl rfl rfl hc i [] s5 _ H5 NoX I5 (stat fr5) st5 stop) λ r s6 ⟨hr,I6⟩=>?_
      subst hr;obtain⟨m,hm,_⟩:=I6.loc
      have I7:Inv X jP σ H5 s6:=by
        refine I3.call' (s':=s6) (ch:=fp) I6.os I6.base I6.hok I6.bare λ b hb=>?_;obtain⟨g0,g1,g2,g3,g4,g5⟩:=f3 b hb;exact⟨g3,g1,g4,g5⟩
      have hCl:X.env.locals≠C:=by
        obtain⟨_,hn3,_⟩:=I3.loc;rw[←hC];exact lQ hn3.lt
      have hCc:∀x c,X.env.cells.lookup x=some c->c≠C:=λ x c q=>by
        obtain⟨v,oc,q1,q2⟩:=I3.cell x c q;exact ltC _ _ q1
      refine wpAny_assign_Name (zEv I7 hN hjj hxx (v:=.ref s2.heap.objs.size) rfl (λ s9 I9 ⟨a9,sb9,ha9⟩=>?_) hf)
      have hCa:a9≠C:=by
        rcases ha9 with rfl|z
        · exact hCl
        · exact hCc _ _ z
      refine⟨m,hm.sameBut sb9 (Ne.symm hCa),λ h' sb=>⟨_,H5,?_,qn⟩⟩;refine I9.call' (s':={ s9 with heap:=h' }) (ch:=[C]) rfl ?_ (I9.hok.but I6.free sb) I9.bare λ b hb=>?_
      · have st:∀b o,s9.heap.get? b=some o->b∉[C]->h'.get? b=some o:=λ b o q hx=>(sb.2 b (λ z=>hx (by rw[z];exact mR.mpr rfl))).trans q
        exact⟨λ b o q U U hx=>st b o q hx,λ b o q U U hx=>⟨o.slots,st b o q hx⟩,λ b o q n U=>n,λ b o q hx=>⟨o,st b o q hx⟩,λ U U q=>q,λ U U U q=>q,λ b ps q=>⟨#[],by simpa using q⟩⟩
      · rw[mR.mp hb]
        exact⟨.inr (by rw[←hC];exact I3.sz),Ne.symm hCl,hCc,λ p hp=>ltC _ _ (I3.pin p hp).1⟩
    · refine thn (T.item (X.block sc cl N s3 H3 C fp) rfl rfl rfl hc i [] s5 _ H5 NoX I5 (stat fr5) st5 go) λ r s6 ⟨u,hr,h6⟩=>?_
      subst hr;refine thn h6 λ _ s7 ⟨x,H7,I7,r7,y7,st7,fr7⟩=>?_;have I7':=I7.pinned (stat fr7) (T.obj _ _ st7)
      have again:∀{σ8:St}{H8:Hp}{s8:Shared},Inv (X.block sc cl N s3 H3 C fp) ([]++zD7 fp s7.heap) σ8 H8 s8->Ext (capSt cap σ) σ8->N' H8 ->
          ∃m,m<n/\∃i H',Inv (X.block sc cl N s3 H3 C fp) [] (capSt cap σ) H' s8/\tn i s8.heap/\(∀b∈fp,H' b=none)/\W i m H':=λ{σ8 H8 s8} I8 ex n8=>by
        obtain⟨m',hm,w8⟩:=hN' H8 n8;have I8':=I8.unpinned.weak ex.len ex.get;refine⟨m',hm,i+1,H8,I8',T.keep _ _ _ st7 λ b hb o q=>(I8.pin (b,o) (lZ _ (lZ _ (zBb hb q)))).1,λ b hb=>?_,w8⟩;obtain⟨o,q,d⟩:=T.obj _ _ st7 b hb;exact(I8.pin (b,o) (lZ _ (lZ _ (zBb hb q)))).2.1
      refine thn (hg cl s3 H3 C fp _ s7 _ H7 x u _ I7' r7 (step x H7 y7)) λ _ s8 ⟨σ8,H8,I8,ex8,q8⟩=>?_;refine thn (ht cl s3 H3 C fp _ s8 σ8 H8 _ I8 q8) λ b s9 ⟨H9,I9,q9⟩=>?_;cases b with
      |false=>exact again I9 ex8 q9
      |true =>
        rw[if_pos rfl] at q9 ⊢;refine thn (he cl s3 H3 C fp _ s9 σ8 H9 _ I9 q9) λ yv s10 ⟨y,H10,I10,r10,zs,e10,l10,q10⟩=>?_;refine thn (zDc (X:=X.block sc cl N s3 H3 C fp) _ s10 σ8 H10 (.ref s2.heap.objs.size) [y] (.ref s2.heap.objs.size) [yv] (λ U H'=>N' H') I10 rfl (.cons r10 .nil) ⟨_,zs,y,rfl,rfl,e10,l10,q10⟩) λ _ s11 ⟨_,H11,I11,_,q11⟩=>?_;exact again I11 ex8 q11
  exact codeAny_compStart_list loop (T.self X.A 0 _ _ _ st4 loop)
theorem zIn {elt tg iter:Expr}{y:Str}{py spos:Pos}{jj:Nat}{ifs:List Expr}{sc:Scope}{pos:Pos}{wi:TI}{g:TG}{tt:TT}{te:TE}(N:List Str) (cap:List (Option Nat)) (hc:X.calm=true) (hi:PI X tg iter wi)
  (hg:∀cl s H C ex,PG (X.block sc cl N s H C ex) tg g) (ht:∀cl s H C ex,PTs (X.block sc cl N s H C ex) ifs tt) (he:∀cl s H C ex,PE (X.block sc cl N s H C ex) elt te)
  (ck:zGd sc X.env X.N N cap=true) (hN:X.N.Nodup) (hjj:X.N[jj]?=some y) (hxx:Loc X.env.scope y) (hf:X.fn y=true\/X.env.scope.names.lookup y=some .local)
  (hsw:swapsWith (.ListComp elt [⟨tg,iter,ifs,0⟩] sc pos) (some (.Name y py)) spos.line X.env=pure true:=by rfl) (hs:∀x,foldedSetIterable iter X.env x=pure x:=by intro _;rfl):PS X (.Assign [.Name y py] (.ListComp elt [⟨tg,iter,ifs,0⟩] sc pos) spos) (tAsg (tComp cap wi g tt te) (gName jj)):=by
 unfold zGd at ck;simp only[Bool.and_eq_true] at ck;obtain⟨⟨⟨⟨⟨k1,k2⟩,k3⟩,k4⟩,k5⟩,k6⟩:=ck;refine zKF N cap hc hi hg ht he (by simpa using k1) (λ y hy=>?_) (λ y hy z=>?_) (λ n hn=>?_) (λ i j e=>?_) (by simpa using k6) hN hjj hxx hf hsw hs
 ·have:=List.all_eq_true.mp k2 y hy
  simpa using this
 ·have:=List.all_eq_true.mp k3 y hy
  rw[z] at this;simpa using this
 ·have:=List.all_eq_true.mp k4 _ hn
  simpa using this
 ·have hi:i<cap.length:=(lJ.mp e).1
  have:=List.all_eq_true.mp k5 i (List.mem_range.mpr hi);rw[e] at this;dsimp only at this;cases q:N[i]? with
  |none=>rw[q] at this;cases this
  |some x =>
   rw[q] at this;dsimp only at this;rw[Bool.and_eq_true] at this;exact⟨x,rfl,by simpa using this.1,by simpa using this.2⟩
end
inductive Dt where
 |int (i:Int)|str (x:Str)|tup (ds:List Dt)
mutual
def Dt.beq:Dt->Dt->Bool
 |.int i,.int j=>decide (i=j)
 |.str x,.str y=>decide (x=y)
 |.tup ds,.tup es=>Dt.beqs ds es
 |_,_=>false
def Dt.beqs:List Dt->List Dt->Bool
 |[],[]=>true
 |d::ds,e::es=>Dt.beq d e && Dt.beqs ds es
 |_,_=>false
end
mutual
theorem Dt.beq_iff:∀{d e:Dt},Dt.beq d e=true↔d=e
 |.int i,.int j=>by simp[Dt.beq]
 |.str x,.str y=>by simp[Dt.beq]
 |.tup ds,.tup es=>by
  have:=Dt.beqs_iff (ds:=ds) (es:=es);simp[Dt.beq,this]
 |.int _,.str _=>by simp[Dt.beq]
 |.int _,.tup _=>by simp[Dt.beq]
 |.str _,.int _=>by simp[Dt.beq]
 |.str _,.tup _=>by simp[Dt.beq]
 |.tup _,.int _=>by simp[Dt.beq]
 |.tup _,.str _=>by simp[Dt.beq]
theorem Dt.beqs_iff:∀{ds es:List Dt},Dt.beqs ds es=true↔ds=es
 |[],[]=>by simp[Dt.beqs]
 |[],_::_=>by simp[Dt.beqs]
 |_::_,[]=>by simp[Dt.beqs]
 |d::ds,e::es=>by
  have h1:=Dt.beq_iff (d:=d) (e:=e);have h2:=Dt.beqs_iff (ds:=ds) (es:=es);simp[Dt.beqs,h1,h2]
end
mutual
noncomputable def Dt.deep:Dt->Nat
 |.tup ds=>Dt.deeps ds+1
 |_=>0
noncomputable def Dt.deeps:List Dt->Nat
 |[]=>0
 |d::ds=>max (Dt.deep d) (Dt.deeps ds)
end
mutual
inductive DR (H:Hp):Dt->V->Prop
 |int (i:Int):DR H (.int i) (.int i)
 |str (x:Str):DR H (.str x) (.str x)
 |tup {a:Addr}{xs:List V}{ds:List Dt}:H a=some (.tup xs)->DRs H ds xs->DR H (.tup ds) (.ref a)
inductive DRs (H:Hp):List Dt->List V->Prop
 |nil:DRs H [] []
 |cons {d:Dt}{v:V}{ds:List Dt}{vs:List V}:DR H d v->DRs H ds vs->DRs H (d::ds) (v::vs)
end
mutual
theorem DR.mono {H H':Hp}(k:Tk H H'):∀{d:Dt}{v:V},DR H d v->DR H' d v
 |_,_,.int i=>.int i
 |_,_,.str x=>.str x
 |_,_,.tup h r=>.tup (k _ _ h) (DRs.mono k r)
theorem DRs.mono {H H':Hp}(k:Tk H H'):∀{ds:List Dt}{vs:List V},DRs H ds vs->DRs H' ds vs
 |_,_,.nil=>.nil
 |_,_,.cons r t=>.cons (DR.mono k r) (DRs.mono k t)
end
theorem DRs.length {H:Hp}:∀{ds:List Dt}{vs:List V},DRs H ds vs->ds.length=vs.length
 |_,_,.nil=>rfl
 |_,_,.cons _ t=>congrArg (· + 1) t.length
mutual
theorem DR.inj {H:Hp}:∀{d e:Dt}{v:V},DR H d v->DR H e v->d=e
 |_,_,_,.int _,.int _=>rfl
 |_,_,_,.str _,.str _=>rfl
 |_,_,_,.tup h r,.tup h' r'=>by
  rw[h] at h';cases h';rw[DRs.inj r r']
theorem DRs.inj {H:Hp}:∀{ds es:List Dt}{vs:List V},DRs H ds vs->DRs H es vs->ds=es
 |_,_,_,.nil,.nil=>rfl
 |_,_,_,.cons r t,.cons r' t'=>by rw[DR.inj r r',DRs.inj t t']
end
theorem DRs.get {H:Hp}:∀{ds:List Dt}{vs:List V}{j:Nat}{v:V},DRs H ds vs->vs[j]?=some v->∃d,ds[j]?=some d/\DR H d v
 |_,_,_,_,.nil,e=>by simp at e
 |_,_,0,_,.cons r _,e=>by simp at e;subst e;exact⟨_,rfl,r⟩
 |_,_,j+1,v,.cons _ t,e=>by
  obtain⟨d,h1,h2⟩:=DRs.get (j:=j) (v:=v) t (by simpa using e);exact⟨d,by simpa using h1,h2⟩
theorem zBY:∀{ds:List Dt}{j:Nat}{d:Dt},ds[j]?=some d->d.deep<=Dt.deeps ds
 |[],_,_,h=>by simp at h
 |e::ds,0,d,h=>by simp at h;subst h;simp[Dt.deeps];omega
 |e::ds,j+1,d,h=>by
  have:=zBY (ds:=ds) (j:=j) (d:=d) (by simpa using h);simp[Dt.deeps];omega
theorem zEo:∀(ds es:List Dt),Dt.beqs ds es=((List.range (min ds.length es.length)).all (λ j=>match ds[j]?,es[j]? with|some d,some e=>Dt.beq d e|_,_=>false) && ds.length == es.length):=by
 intro ds es;rw[Bool.eq_iff_iff,Dt.beqs_iff,Bool.and_eq_true,List.all_eq_true];constructor
 ·rintro rfl
  refine⟨λ j hj=>?_,by simp⟩;have hj':j<ds.length:=by simpa using List.mem_range.mp hj
  simp[nT hj',Dt.beq_iff]
 ·rintro⟨h,hl⟩
  have hl':ds.length=es.length:=by simpa using hl
  refine List.ext_getElem hl' λ j h1 h2=>?_;have:=h j (List.mem_range.mpr (by omega));simpa[nT h1,nT h2,Dt.beq_iff] using this
section
variable {X:Cx}{jP:List (Addr × Obj)}{σ:St}{H:Hp}{s:Shared}
theorem zII (I:Inv X jP σ H s):∀(n:Nat) (A:Around) {d e:Dt}{v z:V}{u y:Value},d.deep<=n->DR H d v->DR H e z->RelV v u->RelV z y->A.units+n<cLine->SeqAt.EqAt A s u y (Dt.beq d e):=by
 intro n
 induction n with
 |zero =>
  intro A d e v z u y hn rd re ru ry hu;cases rd with
  |int i =>
   obtain⟨t,rfl⟩:=ru;cases re with
   |int j=>obtain⟨t',rfl⟩:=ry;rw[show Dt.beq (.int i) (.int j)=(i == j) by simp[Dt.beq,Bool.beq_eq_decide_eq]];exact SeqAt.EqAt.int_int i t j t'
   |str x=>obtain⟨t',rfl⟩:=ry;exact SeqAt.EqAt.int_str i t x t'
   |tup h r =>
    cases ry;obtain⟨its,rv,p,_⟩:=I.tuple (SqT.of h);exact SeqAt.EqAt.int_tuple i t (show s.heap.IsTuple _ its.toArray from p) (by omega)
  |str x =>
   obtain⟨t,rfl⟩:=ru;cases re with
   |int j=>obtain⟨t',rfl⟩:=ry;exact SeqAt.EqAt.str_int x t j t'
   |str w'=>obtain⟨t',rfl⟩:=ry;rw[show Dt.beq (.str x) (.str w')=(x == w') by simp[Dt.beq,Bool.beq_eq_decide_eq]];exact SeqAt.EqAt.str_str x t w' t'
   |tup h r =>
    cases ry;obtain⟨its,rv,p,_⟩:=I.tuple (SqT.of h);exact SeqAt.EqAt.str_tuple x t (show s.heap.IsTuple _ its.toArray from p) (by omega)
  |tup h r=>simp[Dt.deep] at hn
 |succ n ih =>
  intro A d e v z u y hn rd re ru ry hu;cases rd with
  |int i =>
   obtain⟨t,rfl⟩:=ru;cases re with
   |int j=>obtain⟨t',rfl⟩:=ry;rw[show Dt.beq (.int i) (.int j)=(i == j) by simp[Dt.beq,Bool.beq_eq_decide_eq]];exact SeqAt.EqAt.int_int i t j t'
   |str x=>obtain⟨t',rfl⟩:=ry;exact SeqAt.EqAt.int_str i t x t'
   |tup h r =>
    cases ry;obtain⟨its,rv,p,_⟩:=I.tuple (SqT.of h);exact SeqAt.EqAt.int_tuple i t (show s.heap.IsTuple _ its.toArray from p) (by omega)
  |str x =>
   obtain⟨t,rfl⟩:=ru;cases re with
   |int j=>obtain⟨t',rfl⟩:=ry;exact SeqAt.EqAt.str_int x t j t'
   |str w'=>obtain⟨t',rfl⟩:=ry;rw[show Dt.beq (.str x) (.str w')=(x == w') by simp[Dt.beq,Bool.beq_eq_decide_eq]];exact SeqAt.EqAt.str_str x t w' t'
   |tup h r =>
    cases ry;obtain⟨its,rv,p,_⟩:=I.tuple (SqT.of h);exact SeqAt.EqAt.str_tuple x t (show s.heap.IsTuple _ its.toArray from p) (by omega)
  | @tup a xs ds ha rs =>
   cases ru;obtain⟨its,rv,p,_⟩:=I.tuple (SqT.of ha);have hn':Dt.deeps ds<=n:=by simpa[Dt.deep] using hn
   cases re with
   |int j=>obtain⟨t',rfl⟩:=ry;exact SeqAt.EqAt.tuple_int j t' (show s.heap.IsTuple _ its.toArray from p) (by omega)
   |str w'=>obtain⟨t',rfl⟩:=ry;exact SeqAt.EqAt.tuple_str w' t' (show s.heap.IsTuple _ its.toArray from p) (by omega)
   | @tup b ys es hb rs' =>
    cases ry
    by_cases hab:a=b
    ·subst hab
     rw[ha] at hb;cases hb;have:ds=es:=DRs.inj rs rs';subst this;rw[show Dt.beq (.tup ds) (.tup ds)=true from Dt.beq_iff.mpr rfl];exact SeqAt.EqAt.same _
    ·obtain⟨its2,rv2,p2,_⟩:=I.tuple (SqT.of hb)
     refine SeqAt.EqAt.of_refs hab ?_;have l1:=rv.length;have l2:=rv2.length;have m1:=rs.length;have m2:=rs'.length
     have key:=SeqAt.RcAt.tuples (A:=A) (s:=s) (e:=λ j=>match ds[j]?,es[j]? with|some d,some e=>Dt.beq d e|_,_=>false) (show s.heap.IsTuple _ its.toArray from p) (show s.heap.IsTuple _ its2.toArray from p2) (by omega) λ j h1 h2=>by
      have g1:j<xs.length:=by rw[l1];simpa using h1
      have g2:j<ys.length:=by rw[l2];simpa using h2
      obtain⟨u1,eu,r1⟩:=rv.get (lU g1);obtain⟨u2,ev,r2⟩:=rv2.get (lU g2);obtain⟨d1,ed,rd1⟩:=rs.get (lU g1);obtain⟨d2,ed2,rd2⟩:=rs'.get (lU g2);have e1:its.toArray[j]=u1:=by obtain⟨_,q⟩:=lJ.mp eu;simpa using q
      have e2:its2.toArray[j]=u2:=by obtain⟨_,q⟩:=lJ.mp ev;simpa using q
      simp only[ed,ed2,e1,e2];exact ih A.in1 (mK (zBY ed) hn') rd1 rd2 r1 r2 (by rw[show A.in1.units=A.units+1 from rfl];omega)
     have ez:Dt.beq (.tup ds) (.tup es)=((List.range (min its.toArray.size its2.toArray.size)).all (λ j=>match ds[j]?,es[j]? with|some d,some e=>Dt.beq d e|_,_=>false) && its.toArray.size == its2.toArray.size):=by
      rw[show Dt.beq (.tup ds) (.tup es)=Dt.beqs ds es by simp[Dt.beq],zEo];have a1:its.toArray.size=ds.length:=by simp;omega
      have a2:its2.toArray.size=es.length:=by simp;omega
      rw[a1,a2]
     rw[ez];exact key
theorem hu150 {k:Nat}{A:Around}(hr:Room k A):A.units+150<cLine:=by have:=hr.un;omega
end
theorem zDn {K:W.Frag}{a:Addr}{xs:List V}{acc:Addr}{g:TG}{tt:TT}{te:TE}{σ:L2.St}{H:Hp}{R:Hp->Prop}(Pv:Nat->Hp->Prop) (h0:Pv 0 (upd H acc (.lst []))) (hl:∀i H,i<=xs.length->Pv i H->SqT K H a xs)
  (hs:∀i x H,xs[i]?=some x->Pv i H->g x σ H λ σ2 H4=>Ext σ σ2/\tt σ2 H4 λ b H5 =>
   if b=true then te σ2 H5 λ y H6=>∃zs,H6 acc=some (.lst zs)/\zs.length<sizeLine/\Pv (i+1) (upd H6 acc (.lst (zs++[y]))) else Pv (i+1) H5) (hd:∀H,Pv xs.length H->R H) :
  ∃W:Nat->Nat->Hp->Prop,(∃m,W 0 m (upd H acc (.lst [])))/\∀i m H2,W i m H2 ->
   ((Itt K a).stop i H2/\R H2)\/((Itt K a).go i H2/\∃N:Hp->Prop,(∀H',N H'->∃m',m'<m/\W (i+1) m' H')/\∀x H3,(Itt K a).yld i H2 x H3->g x σ H3 λ σ2 H4=>Ext σ σ2/\tt σ2 H4 λ b H5 =>
    if b=true then te σ2 H5 λ y H6=>∃zs,H6 acc=some (.lst zs)/\zs.length<sizeLine/\N (upd H6 acc (.lst (zs++[y])))
    else N H5):=by
 refine⟨λ i m H=>m=xs.length - i/\i<=xs.length/\Pv i H,⟨xs.length,by simp,lX _,h0⟩,?_⟩;rintro i m H2 ⟨rfl,hi,p⟩;have q:=hl i H2 hi p
 by_cases hlt:i<xs.length
 ·refine .inr ⟨⟨xs,xs[i],q,by simp[hlt]⟩,Pv (i+1),λ H' p'=>⟨xs.length - (i+1),by omega,rfl,hlt,p'⟩,λ x H' y=>?_⟩
  obtain⟨e,y⟩:=y;subst e;exact hs i x _ (y xs q) p
 ·have e:i=xs.length:=by omega
  subst e;exact .inl ⟨⟨xs,q,lP _⟩,hd H2 p⟩
theorem zFi {X:Cx}{K:W.Frag}{es:List Expr}{k:Nat}{t:TGs}{n:Nat}{pos:Pos}(hK:X.K=K) (hc:X.calm=true) (h:PGs X es t)
  (hn:(assignEach es X.env).length=n:=by rfl) (hst:(assignEach es X.env).findIdx? (·.1)=none:=by rfl):PG X (.Tuple es k pos) (gTup K n t):=hK▸zD8 hc h hn hst
section
variable {X:Cx}
theorem zEI:∀{bs:List Bool}{us:List Value},Vals (bs.map V.bl) us->LSm.BoolsAre us bs
 |[],_,h=>by cases h;exact .nil
 |b::bs,_,h=>by
  cases h with
  |cons r t =>
   cases r;exact .cons b (zEI t)
theorem zJb (hu:X.A.units+1<cLine):OpR X (compareOp .In) (λ x y H Q=>∃(a:Addr) (o:Option V),y = .ref a/\DGet H a x o/\Q (.bl o.isSome) H):=by
 intro jP s σ H x y v u Q I rx ry h;obtain⟨a,o,rfl,g,q⟩:=h;cases ry;exact d_in hu I g rx λ s' I'=>⟨.bl o.isSome,H,I',rfl,q⟩
end
structure Sd (p:Prop):Prop where
 un:p
section
variable {X:Cx}{st:Stmt}{rest:List Stmt}{t u:TS}{e a b:Expr}{es:List Expr}{te ta tb:TE}{tA:TA}{pos:Pos}
theorem zAO (h1:Sd (PS X st t)) (h2:Sd (PSs X rest u)):Sd (PSs X (st::rest) (tSeq t u)):=⟨zAG h1.un h2.un⟩
theorem zAu (h1:Sd (PS X st t)):Sd (PSs X [st] t):=⟨zAF h1.un⟩
theorem zB7 {c:Expr}{x y:List Stmt}{tc:TT}(hc:Sd (PT X c tc)) (ha:Sd (PSs X x t)) (hb:Sd (PSs X y u)):Sd (PS X (.If c x y pos) (tIfS tc t u)):=⟨ps_if hc.un ha.un hb.un⟩
theorem zBJ (he:Sd (PE X e te)):Sd (PS X (.Return (some e) pos) (tRet te)):=⟨zAY he.un⟩
theorem zKC {i:Nat}{x:Str}{pos':Pos}(hN:X.N.Nodup) (hi:X.N[i]?=some x) (hx:Loc X.env.scope x) (he:Sd (PE X e te)) (hs:swapsWith e (some (.Name x pos')) pos.line X.env=pure false:=by rfl) (hf:X.fn x=true\/X.env.scope.names.lookup x=some .local:=by first|exact .inl rfl|exact .inr rfl|assumption) :
  Sd (PS X (.Assign [.Name x pos'] e pos) (tAsg te (gName i))):=⟨zD5 hN hi hx he.un hs hf⟩
theorem pSS {i:Nat}{x:Str}{pos':Pos}(hN:X.N.Nodup)(he:Sd (PE X e te))(hi:X.N[i]?=some x:=by rfl)(hx:Loc X.env.scope x:=by exact Or.inl rfl)(hs:swapsWith e (some (.Name x pos')) pos.line X.env=pure false:=by rfl)(hf:X.fn x=true\/X.env.scope.names.lookup x=some .local:=by first|exact .inl rfl|exact .inr rfl|assumption):Sd (PS X (.Assign [.Name x pos'] e pos) (tAsg te (gName i))):=zKC hN hi hx he hs hf
theorem zAl {k:Nat}(h:Sd (PA X es tA)):Sd (PE X (.Tuple es k pos) (tTup tA)):=⟨zAi h.un⟩
theorem zHl (h:Sd (PA X es tA)):Sd (PE X (.List es pos) (tLst tA)):=⟨zBQ h.un⟩
theorem zBO (ha:Sd (PE X e te)) (hr:Sd (PA X es tA)) (hs:starEach (e::es) X.env=(false,eval e X.env)::starEach es X.env:=by rfl):Sd (PA X (e::es) (tCons te tA)):=⟨zAB ha.un hr.un hs⟩
theorem zBF {r:R2}(hr:IxR X r) (ha:Sd (PE X a ta)) (hb:Sd (PE X b tb)) (hs:zIa b):Sd (PE X (.Subscript a b pos) (tOp r ta tb)):=⟨pe_ix hr ha.un hb.un hs⟩
end
section
variable {X:Cx}
theorem zGo (bs:List Bool):((List.range bs.length).any λ i=>(bs[i]?).getD false)=bs.any id:=by
 rw[Bool.eq_iff_iff,List.any_eq_true,List.any_eq_true];constructor
 ·rintro⟨i,hi,h⟩
  have hl:=List.mem_range.mp hi;rw[nT hl] at h;exact⟨bs[i],List.getElem_mem hl,h⟩
 ·rintro⟨b,hb,h⟩
  obtain⟨i,hl,e⟩:=List.getElem_of_mem hb;exact⟨i,List.mem_range.mpr hl,by rw[nT hl,e];exact h⟩
theorem zFO (hc:X.calm=true):CallR X (.builtin "any") (λ xs H Q=>∃(l:Addr) (bs:List Bool),xs=[.ref l]/\H l=some (.lst (bs.map V.bl))/\Q (.bl (bs.any id)) H):=by
 intro jP s σ H xs us Q I r h;obtain⟨l,bs,rfl,hl,q⟩:=h;obtain⟨u,rfl,ru⟩:=vals1 r;cases ru;obtain⟨_,its,n,rv,le,e⟩:=I.lstM hl;have L1:s.heap.IsList l its.toArray:=⟨_,e,rfl,_,rfl⟩;have hb:=zEI rv;have hlt:l<s.heap.objs.size:=lI e;refine call_any_walk (wpAny_pyIter_list L1 ?_)
 refine⟨s.heap.objs.size,[s.heap.objs.size,l],[s.heap.objs.size],its.toArray.size,_,_,λ i=>(bs[i]?).getD false,rfl,Walks.list (A:=X.A.in1) (I.ok.hd hc) _ l (lQ hlt) its.toArray,
  ⟨⟨_,lH _ rfl,rfl,rfl⟩,L1.push _⟩,λ i v s' Q' E' hP hQ=>?_,λ h' tk hk=>?_⟩
 ·obtain⟨b,e,rfl⟩:=hb.get i v (by simpa using hP)
  simp only[e,Option.getD_some] at hQ;exact wpAny_truthy_bool hQ
 ·have e:((List.range its.toArray.size).any λ i=>(bs[i]?).getD false)=bs.any id:=by
   rw[lS,hb.length];exact zGo bs
  rw[e];exact⟨.bl (bs.any id),H,I.kept (LSm.kept_iter hk),rfl,q⟩
end
section
variable {X:Cx}
open Classical in
noncomputable def eqW (H:Hp) (dx:Dt) (w:Value):Bool:=decide (∃x d,RelV x w/\DR H d x/\Dt.beq d dx=true)
end
end L2
namespace PySem
open Sem (wp)
namespace F
theorem dul_entry:entryFor table "dict.update.loop" = some Builtin.«dict.update.loop»:=entryFor_of_tree (by kernel_rfl)
theorem dul_plain:plainId "dict.update.loop" = true:=by right
theorem tuple_no_keys:typeLookup (.type "tuple") "keys" = pure none:=am_miss_of_fast (by right)
end F
theorem zCs {prog:Program}{w:World}{A:Around}{E:XQ}{s:Shared}{a:Addr}{o:Obj}{xs:Array Value}{k:Nat}{name:Str}{Q:Option Value->Shared->Prop}
  (hx:s.heap.get? a=some o) (hc:o.cls = .type "tuple") (hdat:o.data = .seq xs k) (hd:o.dict=none) (hmiss:typeLookup (.type "tuple") name=pure none)
  (hname:(["__module__", "__name__", "__qualname__", "__doc__", "__annotations__"]:List Str).contains name=false) (hA:A.handled=none) (hsz:name.length+100<=sizeLine)
  (h:∀h' tk,(∀b ob,s.heap.get? b=some ob->h'.get? b=some ob)->Q none { s with heap:=h',toks:=tk }):wpAny (model prog w) A (getAttr? (.ref a) name) Q E s:=by
 obtain⟨c,dct,dat,sl⟩:=o;simp only at hc hdat hd;subst hc hdat hd;obtain⟨hp,g,d,tk,os⟩:=s;have hT:∀tk',(⟨hp,g,d,tk',os⟩:Shared).TypeIs (.ref a) "tuple" := λ U=>⟨_,hx,rfl⟩;have f1:=sub_AttributeError;have f3:=F.slot_tuple_getattribute.lookup;have f4:=F.slot_tuple_getattribute.bind (.ref a);have f5:=am_tuple_getattr_none;unfold getAttr? getAttrBy? getAttrBy
 repeat (any_goals (first|assumption|exact hT _|((with_reducible show wpAny _ _ (call (Value.builtin "tuple.__getattribute__") _ _) _ _ _);refine call_meets F.slot_tuple_getattribute (hT _) am_entry_tuple_getattribute (F.args_tuple_getattribute_2 _ _) (meets_getattribute_miss_tuple a xs k sl name _ hmiss hname hsz) ⟨hx,hA,λ h' tk' e hx'=>?_⟩)|wp_step))
 obtain⟨t',u',he⟩:=hx'.there;show wpAny _ _ (getattributeRaised _ _ _ _ _ _ _) _ _ _;unfold getattributeRaised
 repeat (any_goals (first|assumption|wp_step))
 all_goals first
  |exact h _ _ hx'.keeps
  |skip
section
variable {prog:Program}{w:World}{K:Type} [DecidableEq K] {knd:KeyKind prog w K}{A:Around}{R:Result->Shared->Prop}{E:XQ}
def zF0 (knd:KeyKind prog w K) (h:Heap) (its:List Value) (prs:List (K × Value)):Prop :=
 its.length=prs.length/\∀(i:Nat) (x:Value),its[i]?=some x->∃(pa:Addr) (key:Value) (kv:K × Value),x=Value.ref pa/\prs[i]?=some kv/\h.IsTuple pa #[key,kv.2]/\knd.is kv.1 key=true
theorem Heap.IsTuple.kept {h h':Heap}{a:Addr}{xs:Array Value}(x:h.IsTuple a xs) (k:∀b o,h.get? b=some o->h'.get? b=some o):h'.IsTuple a xs :=
 let ⟨o,ho,r⟩:=x;⟨o,k a o ho,r⟩
theorem zJJ {h0:Heap}{d it t:Addr}{items:Array Value}{prs:List (K × Value)}(hA:A.handled=none) (hld:h0.objs.size<=d) (hli:h0.objs.size<=it) (hne:d≠it)
  (ht:h0.IsTuple t items) (hp:zF0 knd h0 items.toList prs) (hsz:prs.length<=sizeLine) :
  ∀(n i:Nat) (s:Shared),items.size - i=n->i<=items.size->(∀b o,h0.get? b=some o->s.heap.get? b=some o)->s.heap.IsTupleIter it t i->s.heap.DictOf knd d (merged [] (prs.take i)) ->
   (∀h' tk,(∀b o,h0.get? b=some o->h'.get? b=some o)->h'.DictOf knd d (merged [] prs)->R (.ok (.ret .none)) { s with heap:=h',toks:=tk }) ->
   codeAny (model prog w) A (.builtin "dict.update.loop" ⟨[.ref d,.ref it,.int (i:Int) 0,.none],[]⟩) R s:=by
 have hlen:items.size=prs.length:=by rw[←hp.1];simp
 intro n
 induction n with
 |zero =>
  intro i s hn hi kp hit hd hR;have e:i=items.size:=by omega
  subst e;refine codeAny_builtin F.dul_entry ?_;rw[Around.under_plainId F.dul_plain _];refine lA (wpAny_pyNext_tuple_end (show A.in1.handled=none from hA) hit (ht.kept kp) (by simp) λ h' he=>?_);show wpAny _ _ (Builtin.Dict.addKeywords d [] >>= _) _ _ _;refine lA (lB (lB (hR h' s.toks (λ b o hb=>he b o (lQ (lY (lI hb) hli)) (kp b o hb)) ?_)));rw[hlen,List.take_length] at hd;obtain⟨o,es,ep,ho,rest⟩:=hd;exact⟨o,es,ep,he d o hne ho,rest⟩
 |succ n ih =>
  intro i s hn hi kp hit hd hR;have hlt:i<items.size:=by omega
  obtain⟨pa,key,kv,ex,ekv,htp,hkey⟩:=hp.2 i items[i] (by simp[hlt]);refine codeAny_builtin F.dul_entry ?_;rw[Around.under_plainId F.dul_plain _];refine lA (wpAny_pyNext_tuple_item hit (ht.kept kp) (x:=items[i]) (by simp[hlt]) λ h1 hit1 hs1=>?_);have kp1:∀b o,h0.get? b=some o->h1.get? b=some o:=λ b o hb=>hs1.extBut b o (lQ (lY (lI hb) hli)) (kp b o hb);rw[ex];have htp1:=htp.kept kp1;refine lA (lF (lA (wpAny_tryCatch ?_)));unfold Builtin.Dict.pairItems;refine lA (wpAny_typeOf (s:={ s with heap:=h1 }) (v:=.ref pa) (T := "tuple") htp1.typeIs ?_);rw[if_pos (by decide)];obtain⟨o2,ho2,hc2,n2,hd2⟩:=htp1;refine lA (wpAny_seqItems ho2 hd2 (lB ?_))
  have hd1:h1.DictOf knd d (merged [] (prs.take i)):=by
   obtain⟨o,es,ep,ho,rest⟩:=hd;exact⟨o,es,ep,hs1.extBut d o hne ho,rest⟩
  have hml:(merged [] (prs.take i)).length<=sizeLine:=by
   have e1:=merged_length_le ([]:List (K × Value)) (prs.take i);rw[List.length_nil,mO] at e1;omega
  show wpAny _ _ (holding [key,kv.2] (dictSet d key kv.2)) _ _ _;refine lF (wpAny_dictSet_pairs (hsz:=hml) hkey hd1 λ h2 hd2 hs2=>?_);refine lB ⟨plainId_quiet F.dul_plain _,?_⟩;refine ih (i+1) _ (by omega) hlt (λ b o hb=>hs2.extBut b o (lQ (lY (lI hb) hld)) (kp1 b o hb)) (hit1.extBut hs2.extBut (Ne.symm hne)) ?_ λ h' tk k' d'=>hR h' tk k' d';rw[merged_take_succ [] prs i kv ekv];exact hd2
theorem zDo {s:Shared}{t:Addr}{o:Obj}{items:Array Value}{n:Nat}{prs:List (K × Value)}{Q:XQ}(hA:A.handled=none) (hx:s.heap.get? t=some o) (hc:o.cls = .type "tuple") (hdat:o.data = .seq items n) (hdn:o.dict=none)
  (hp:zF0 knd s.heap items.toList prs) (hsz:prs.length<=sizeLine)
  (h:∀h' tk,(∀b o,s.heap.get? b=some o->h'.get? b=some o)->h'.DictOf knd s.heap.objs.size (merged [] prs)->Q (.ref s.heap.objs.size) { s with heap:=h',toks:=tk }) :
  wpAny (model prog w) A (call (.type "dict") [.ref t]) Q E s:=by
 refine callType_codes (Q₁:=λ obj s₁=>obj = .ref s.heap.objs.size/\s₁={ s with heap:=s.heap.push { cls:=.type "dict", data:=.dict #[] } }) F.kt_called_dict (F.kt_typeCall_dict_1 _) F.entry_dict_init (kt_code_dict_new _ ⟨rfl,rfl⟩) ?_;rintro obj s₁ ⟨rfl,rfl⟩;have hnew:(s.heap.push { cls:=.type "dict", data:=.dict #[] }).DictOf knd s.heap.objs.size []:=Heap.DictOf.new s.heap;have kp0:∀b o,s.heap.get? b=some o->(s.heap.push { cls:=.type "dict", data:=.dict #[] }).get? b=some o:=λ b o hb=>lG _ hb;have ht0:s.heap.IsTuple t items:=⟨o,hx,hc,n,hdat⟩;refine⟨hnew.typeIs,F.args_dict_init_2 _ _,?_⟩;unfold Builtin.«dict.__init__»;refine lA ?_;unfold Builtin.Dict.selfAndRest;refine lA (wpAny_notOrdered_dict hnew.typeIs ?_);show wpAny _ _ (pure (s.heap.objs.size,[Value.ref t])) _ _ _;refine lB ?_;show wpAny _ _ (Builtin.Dict.updateFrom "dict.__init__" s.heap.objs.size (.ref t) [] .none) _ _ _;unfold Builtin.Dict.updateFrom;refine lA (wpAny_typeOf (v:=.ref t) (T := "tuple") (ht0.kept kp0).typeIs ?_);rw[if_pos (by decide)];refine lA (zCs (kp0 _ _ hx) hc hdat hdn F.tuple_no_keys (by right) hA (by size_fits) λ h1 tk kp1=>?_);rw[if_pos (show (Option.none:Option Value).isNone=true from rfl)];have kp01:∀b o,s.heap.get? b=some o->h1.get? b=some o:=λ b o hb=>kp1 b o (kp0 b o hb);refine lA (wpAny_rule ?_);refine lA (wpAny_pyIter_tuple (ht0.kept kp01) ?_)
 have hd1:h1.DictOf knd s.heap.objs.size []:=by
  obtain⟨o,es,ep,ho,rest⟩:=hnew;exact⟨o,es,ep,kp1 _ _ ho,rest⟩
 have hsd:s.heap.objs.size<h1.objs.size:=let ⟨_,_,_,ho,_⟩:=hd1;lI ho;refine lB ⟨plainId_quiet F.dul_plain _,?_⟩;refine zJJ (h0:=s.heap) (knd:=knd) (A:=A.in1) hA (lP _) (Nat.le_of_lt hsd) (lQ hsd) ht0 hp hsz items.size 0 _ (by omega) (lX _) (λ b o hb=>lG _ (kp01 b o hb)) ⟨_,lH _ rfl,rfl,rfl⟩ (hd1.push _) λ h' tk' k' d'=>?_;exact⟨rfl,h h' tk' k' d'⟩
end
end PySem
namespace L2
open PySem PySem.Spec PyProof.Rows
section
variable {X:Cx}
theorem zFy:CallR X (.type "tuple") (λ xs H Q=>∃p ys,xs=[.ref p]/\SqL X.K H p ys/\∀(l:Addr) (o:Obj),H l=none->o.dict=none->Q (.ref l) (upd H l (.frz o (.tup ys)))):=by
 intro jP s σ H xs us Q I r h;obtain⟨p,ys,rfl,hq,q⟩:=h;obtain⟨u,rfl,rx⟩:=vals1 r;cases rx;obtain⟨its,r',pl,hz⟩:=I.list hq;have hlen:=r'.length;refine call_tuple_list pl.isList (λ h' kp=>?_) (by simp only[lS]<;>omega);have I1:Inv X jP σ H { s with heap:=h' }:=I.kept (t':=s.toks) kp;have I2:=I1.laid (o:=.frz { cls:=.type "tuple", data:=.seq its.toArray } (.tup ys)) (t':=s.toks) (h':=h'.push { cls:=.type "tuple", data:=.seq its.toArray }) (λ b o e=>lG _ e) (lP h'.objs.size) ⟨lH _ rfl,hz,its,r',IsTup.new _ _⟩;exact⟨.ref h'.objs.size,_,I2,rfl,q _ _ (I1.hok.fresh (lP _)) rfl⟩
def PrV (H:Hp) (y:V) (kv:Key × V):Prop:=∃b,y = .ref b/\H b=some (.tup [kV kv.1,kv.2])
set_option tactic.hygienic true in
theorem zJW {P:Program}{w:World}{H:Hp}{h:Heap}(ok:HOk P w H h):∀{ys:List V}{kvs:List (Key × V)},Paired (PrV H) ys kvs->∀{its:List Value},Vals ys its->∃prs,zF0 (zAo P w) h its prs/\KV kvs prs
 |_,_,.nil,its,r=>by
  cases r;exact⟨[],⟨rfl,λ i x hx=>by simp at hx⟩,.nil⟩
 |_,_,.cons (b:=kv) hy hr,its,r=>by
  cases r with
  |cons r1 r2 =>
   obtain⟨prs,⟨pl,pp⟩,k⟩:=zJW ok hr r2;obtain⟨b,rfl,hb⟩:=hy;cases r1;obtain⟨_,its2,rv,tp⟩:=(show ObjOk P w H h b (.tup [kV kv.1,kv.2]) from ok b _ hb);cases rv with
   |cons q1 rv=>cases rv with
    |cons q2 rv =>
     cases rv;rename_i key val;refine⟨(kv.1,val)::prs,⟨by simp[pl],λ i x hx=>?_⟩,.cons ⟨rfl,q2⟩ k⟩;cases i with
     |zero =>
      simp at hx;exact⟨b,key,(kv.1,val),hx.symm,rfl,tp,kV_is q1⟩
     |succ i =>
      simp at hx;obtain⟨pa,key',kv',h1,h2,h3,h4⟩:=pp i x hx;exact⟨pa,key',kv',h1,by simpa using h2,h3,h4⟩
def zJV:List V->Hp->VK->Prop:=λ xs H Q=>∃(a:Addr) (o:Obj) (ys:List V) (kvs:List (Key × V)),xs=[.ref a]/\H a=some (.frz o (.tup ys))/\o.dict=none/\Paired (PrV H) ys kvs/\kvs.length<=1000/\∀p,H p=none->Q (.ref p) (upd H p (.dK (zA3 [] kvs)))
theorem zEH (hc:X.calm=true):CallR X (.type "dict") zJV:=by
 intro jP s σ H xs us Q I r h;obtain⟨a,o,ys,kvs,rfl,ha,hdn,hp,hl,q⟩:=h;obtain⟨u,rfl,ru⟩:=vals1 r;cases ru;obtain⟨hx,hz,its,rv,o',ho',hcl,n,hdat⟩:=(show ObjOk X.prog X.w H s.heap a (.frz o (.tup ys)) from I.hok a _ ha);rw[hx] at ho';cases ho';obtain⟨prs,hpi,k⟩:=zJW I.hok hp rv;have hkl:prs.length<=sizeLine:=by rw[←k.length];exact zBm hl
 have hm:(zA3 [] kvs).length<=sizeLine:=by
  have:=zB5 kvs [];rw[List.length_nil] at this;exact zBm (by omega)
 refine zDo (knd:=zAo X.prog X.w) (I.ok.hd hc) hx hcl hdat hdn (by simpa using hpi) hkl λ h' tk kp d'=>?_;have hn:=I.hok.fresh (lP s.heap.objs.size);refine⟨.ref s.heap.objs.size,_,I.laid (a:=s.heap.objs.size) (o:=.dK (zA3 [] kvs)) (t':=tk) kp (lP _) (zGb hm (beq_eq_false_iff_ne.mpr (Ne.symm (lQ I.big))) (k.merge .nil) d'),rfl,q _ hn⟩
end
theorem zDx:∀(more kvs:List (Key × V)) (k:Key),valV (zA3 kvs more) k=match valV more.reverse k with|some v=>some v|none=>valV kvs k
 |[],kvs,k=>rfl
 |p::more,kvs,k=>by
  show valV (zA3 (putK kvs p.1 p.2) more) k=_;rw[zDx more,zCh,List.reverse_cons];unfold valV;rw[List.find?_append];cases e:List.find? (λ kv:Key × V=>decide (kv.1=k)) more.reverse with
  |some z=>simp
  |none =>
   by_cases h:k=p.1
   ·simp[h]
   ·have h':¬p.1=k:=λ z=>h z.symm
    simp[h,h']
open PySem.W
section
variable {n:Nat}{r:Nat->Nat->Bool}
abbrev lt (r:Nat->Nat->Bool) (p:Array Nat) (i j:Nat):Bool:=r (p.getD i 0) (p.getD j 0)
end
end L2
namespace PySem
open PySem.Calls PyProof.Rows PySem.W L2
open AutoSeq1 (wpAny_loadPart')
section
variable {prog:Program}{w:World}{A:Around}{E:XQ}{s:Shared}
theorem zIe:∀{vs:List Value},vs.length<2->(vs.toArray.zip vs.toArray).map (·.2)=List.toArray ((List.toArray (List.range vs.length)).toList.map λ i=>vs.getD i Value.none)
 |[],_=>by simp
 |[x],_=>by simp[List.range_succ]
 |_::_::_,h=>by simp at h;omega
end
end PySem
namespace L2
open PySem PySem.Spec PyProof.Rows PySem.W
end L2
namespace PySem
open AutoSeq1
set_option maxRecDepth 8000 in
theorem zEf (l:Addr) (items:Array Value) (n:Nat) (b:Addr) (items2:Array Value) (n2:Nat) (dd:Option Addr) (sl:Array (Option Value)) (hs0:¬(!items.isEmpty && Builtin.List.listTooLong (items.size+items2.size))=true) (hs1:items.size<=sizeLine) (hs2:items.size+items2.size<=sizeLine+1) :
  Meets (Builtin.«list.extend» ⟨[.ref l,.ref b],[]⟩) (λ U R s=>s.heap.get? l=some { cls:=.type "list", dict:=none,data:=.seq items n,slots:=#[] }/\s.heap.get? b=some { cls:=.type "tuple", dict:=dd,data:=.seq items2 n2,slots:=sl }/\R (.ok (.ret Value.none)) { s with heap:=s.heap.update l (Obj.mapSeq λ x=>x++items2),toks:=s.toks }) :=
 .of_wp λ prog w A R s h=>by
  obtain⟨hp,g,d,tk,os⟩:=s;obtain⟨hl,hb,h⟩:=h;have f1:=idx_int;have f2:=sub_tuple_tuple;have f3:=sub_list_list;have f4:=sub_tuple_list;have f5:=sub_list_tuple;have hz':(items++items2).size<=sizeLine+1:=by rw[Array.size_append];exact hs2
  wp_walk using (wpAny_updateSeq hl rfl (hz:=hs1) (_hz':=hz')),wpAny_loadPart' hl,wpAny_loadPart' hb
  exact⟨_,rfl,h⟩
end PySem
namespace L2
open PySem PySem.Spec PyProof.Rows
section
variable {X:Cx}
def zIl (K:W.Frag):V->List V->Hp->VK->Prop:=λ x vs H Q=>∃l b xs zs,x = .ref l/\vs=[.ref b]/\H l=some (.lst xs)/\SqT K H b zs/\xs.length+zs.length<=sizeLine/\Q .non (upd H l (.lst (xs++zs)))
theorem zGw:MtM X "list.extend" (zIl X.K):=by
 intro jP s σ H x vs v us Q I rx rv h;obtain⟨l,b,xs,zs,rfl,rfl,hH,hB,hz,q⟩:=h;cases rx;obtain⟨u,rfl,ru⟩:=rv.one;cases ru;obtain⟨z,its,n,r,hl,e⟩:=I.lstM hH;obtain⟨its2,r2,p2,z2⟩:=I.tuple hB;obtain⟨⟨cls,dd,data,sl⟩,e2,hc,n2,hd⟩:=id p2;simp only at hc hd;subst hc hd;have hl2:=r2.length;have hsz:its.toArray.size+its2.toArray.size<=sizeLine:=by rw[lS,lS];omega
 have hlong:¬(!its.toArray.isEmpty && Builtin.List.listTooLong (its.toArray.size+its2.toArray.size))=true:=by
  rw[zGU hsz,Bool.and_false];exact lV
 refine call_meets F.slot_list_extend ⟨_,e,rfl⟩ F.entry_list_extend (F.args_list_extend_2 _ _)
  (zEf l its.toArray n b its2.toArray n2 dd sl hlong (by rw[lS];omega) (by omega)) ⟨e,e2,?_⟩
 refine⟨.non,_,I.lset (its':=its++its2) hH e (by simp) (r.append r2) ?_,rfl,q⟩;rw[mL];omega
def tTupF (t:TA):TE:=λ σ H Q=>t σ H λ xs H1=>xs.length<=sizeLine/\∀(p:Addr) (o:Obj),H1 p=none->o.dict=none->Q (.ref p) (upd H1 p (.frz o (.tup xs)))
theorem zHk {es:List Expr}{t:TA}{x1} {pos:Pos}(h:PA X es t):PE X (.Tuple es x1 pos) (tTupF t):=by
 intro jP s σ H Q I hq;refine wpAny_Tuple_spliced (thn (h pos jP s σ H _ I hq) λ us s1 ⟨xs,H1,I1,r,z,q⟩=>⟨by rw[←r.length];exact z,?_⟩);have hf:H1 s1.heap.objs.size=none:=I1.hok.fresh (lP _);refine⟨.ref s1.heap.objs.size,_,I1.laid (o:=.frz { cls:=.type "tuple", data:=.seq us.toArray } (.tup xs)) (t':=s1.toks) (λ b u e=>lG _ e) (lP _) ?_,rfl,q _ _ hf rfl⟩;exact⟨lH _ rfl,z,us,r,⟨_,lH _ rfl,rfl,_,rfl⟩⟩
end
open PySem.W
instance:DecidableEq Dt:=λ d e=>decidable_of_iff (Dt.beq d e=true) Dt.beq_iff
theorem zK1 (d e:Dt):Dt.beq d e=decide (d=e):=by
 by_cases h:d=e
 ·rw[decide_eq_true h];exact Dt.beq_iff.mpr h
 ·rw[decide_eq_false h]
  cases z:Dt.beq d e with
  |false=>rfl
  |true=>exact absurd (Dt.beq_iff.mp z) h
mutual
inductive DA (h:Heap):Dt->Value->Prop
 |int (i:Int) (t:Tok):DA h (.int i) (.int i t)
 |str (x:Str) (t:Tok):DA h (.str x) (.str x t)
 |tup {a:Addr}{items:Array Value}{ds:List Dt}:h.IsTuple a items->DAs h ds items.toList->DA h (.tup ds) (.ref a)
inductive DAs (h:Heap):List Dt->List Value->Prop
 |nil:DAs h [] []
 |cons {d:Dt}{u:Value}{ds:List Dt}{us:List Value}:DA h d u->DAs h ds us->DAs h (d::ds) (u::us)
end
theorem zFD {h:Heap}{a:Addr}{x y:Array Value}(hx:h.IsTuple a x) (hy:h.IsTuple a y):x=y:=by
 obtain⟨o,ho,_,n,hd⟩:=hx;obtain⟨o',ho',_,n',hd'⟩:=hy;rw[ho] at ho';cases ho';rw[hd] at hd';cases hd';rfl
mutual
theorem DA.inj {h:Heap}:∀{d e:Dt}{u:Value},DA h d u->DA h e u->d=e
 |_,_,_,.int _ _,.int _ _=>rfl
 |_,_,_,.str _ _,.str _ _=>rfl
 |_,_,_,.tup h1 r1,.tup h2 r2=>by
  have:=zFD h1 h2;subst this;rw[DAs.inj r1 r2]
theorem DAs.inj {h:Heap}:∀{d e:List Dt}{u:List Value},DAs h d u->DAs h e u->d=e
 |_,_,_,.nil,.nil=>rfl
 |_,_,_,.cons r q,.cons r2 q2=>by rw[DA.inj r r2,DAs.inj q q2]
end
theorem zCP {h h':Heap}(k:∀b o,o.cls = .type "tuple" -> h.get? b=some o->h'.get? b=some o) {a:Addr}{x:Array Value}:h.IsTuple a x->h'.IsTuple a x
 |⟨o,ho,hc,r⟩=>⟨o,k _ _ hc ho,hc,r⟩
mutual
theorem DA.kept {h h':Heap}(k:∀b x,h.IsTuple b x->h'.IsTuple b x):∀{d:Dt}{u:Value},DA h d u->DA h' d u
 |_,_,.int _ _=>.int _ _
 |_,_,.str _ _=>.str _ _
 |_,_,.tup h r=>.tup (k _ _ h) (DAs.kept k r)
theorem DAs.kept {h h':Heap}(k:∀b x,h.IsTuple b x->h'.IsTuple b x):∀{d:List Dt}{u:List Value},DAs h d u->DAs h' d u
 |_,_,.nil=>.nil
 |_,_,.cons r q=>.cons (DA.kept k r) (DAs.kept k q)
end
theorem DAs.length {h:Heap}:∀{ds:List Dt}{us:List Value},DAs h ds us->ds.length=us.length
 |_,_,.nil=>rfl
 |_,_,.cons _ q=>by simp[DAs.length q]
theorem DAs.get {h:Heap}:∀{ds:List Dt}{us:List Value}{j:Nat}{u:Value},DAs h ds us->us[j]?=some u->∃d,ds[j]?=some d/\DA h d u
 |_,_,0,_,.cons r _,e=>⟨_,rfl,by cases e;exact r⟩
 |_,_,j+1,_,.cons _ q,e=>by
  obtain⟨d,e1,r⟩:=DAs.get q (j:=j) (by simpa using e);exact⟨d,by simpa using e1,r⟩
section
variable {P:Program}{w:World}{H:Hp}{h:Heap}
mutual
theorem DR.da (ok:HOk P w H h):∀{d:Dt}{v:V}{u:Value},DR H d v->RelV v u->DA h d u
 |_,_,_,.int i,r=>by obtain⟨t,rfl⟩:=r;exact .int _ _
 |_,_,_,.str x,r=>by obtain⟨t,rfl⟩:=r;exact .str _ _
 |_,_,_,.tup (a:=a) ha q,r=>by
  cases r;obtain⟨_,its,rv,p⟩:=ok a _ ha;exact .tup p (by rw[List.toList_toArray];exact DRs.da ok q rv)
theorem DRs.da (ok:HOk P w H h):∀{d:List Dt}{v:List V}{u:List Value},DRs H d v->Vals v u->DAs h d u
 |_,_,_,.nil,.nil=>.nil
 |_,_,_,.cons r q,.cons a b=>.cons (DR.da ok r a) (DRs.da ok q b)
end
end
section
variable {s:Shared}
theorem zEi:∀(n:Nat) (A:Around) {d e:Dt}{u y:Value},d.deep<=n->DA s.heap d u->DA s.heap e y->A.units+n<cLine->SeqAt.EqAt A s u y (Dt.beq d e):=by
 intro n
 induction n with
 |zero =>
  intro A d e u y hn rd re hu;cases rd with
  |int i t =>
   cases re with
   |int j t'=>rw[show Dt.beq (.int i) (.int j)=(i == j) by simp[Dt.beq,Bool.beq_eq_decide_eq]];exact SeqAt.EqAt.int_int i t j t'
   |str x t'=>exact SeqAt.EqAt.int_str i t x t'
   |tup h r=>exact SeqAt.EqAt.int_tuple i t h (by omega)
  |str x t =>
   cases re with
   |int j t'=>exact SeqAt.EqAt.str_int x t j t'
   |str w' t'=>rw[show Dt.beq (.str x) (.str w')=(x == w') by simp[Dt.beq,Bool.beq_eq_decide_eq]];exact SeqAt.EqAt.str_str x t w' t'
   |tup h r=>exact SeqAt.EqAt.str_tuple x t h (by omega)
  |tup h r=>simp[Dt.deep] at hn
 |succ n ih =>
  intro A d e u y hn rd re hu;cases rd with
  |int i t =>
   cases re with
   |int j t'=>rw[show Dt.beq (.int i) (.int j)=(i == j) by simp[Dt.beq,Bool.beq_eq_decide_eq]];exact SeqAt.EqAt.int_int i t j t'
   |str x t'=>exact SeqAt.EqAt.int_str i t x t'
   |tup h r=>exact SeqAt.EqAt.int_tuple i t h (by omega)
  |str x t =>
   cases re with
   |int j t'=>exact SeqAt.EqAt.str_int x t j t'
   |str w' t'=>rw[show Dt.beq (.str x) (.str w')=(x == w') by simp[Dt.beq,Bool.beq_eq_decide_eq]];exact SeqAt.EqAt.str_str x t w' t'
   |tup h r=>exact SeqAt.EqAt.str_tuple x t h (by omega)
  | @tup a items ds ha rs =>
   have hn':Dt.deeps ds<=n:=by simpa[Dt.deep] using hn
   cases re with
   |int j t'=>exact SeqAt.EqAt.tuple_int j t' ha (by omega)
   |str w' t'=>exact SeqAt.EqAt.tuple_str w' t' ha (by omega)
   | @tup b items2 es hb rs' =>
    by_cases hab:a=b
    ·subst hab
     have:=zFD ha hb;subst this;have:ds=es:=DAs.inj rs rs';subst this;rw[show Dt.beq (.tup ds) (.tup ds)=true from Dt.beq_iff.mpr rfl];exact SeqAt.EqAt.same _
    ·refine SeqAt.EqAt.of_refs hab ?_
     have m1:=rs.length;have m2:=rs'.length
     have key:=SeqAt.RcAt.tuples (A:=A) (s:=s) (e:=λ j=>match ds[j]?,es[j]? with|some d,some e=>Dt.beq d e|_,_=>false) ha hb (by omega) λ j h1 h2=>by
      obtain⟨d1,ed,rd1⟩:=rs.get (show items.toList[j]?=some items[j] by simp[h1]);obtain⟨d2,ed2,rd2⟩:=rs'.get (show items2.toList[j]?=some items2[j] by simp[h2]);simp only[ed,ed2];exact ih A.in1 (mK (zBY ed) hn') rd1 rd2 (by rw[show A.in1.units=A.units+1 from rfl];omega)
     have ez:Dt.beq (.tup ds) (.tup es)=((List.range (min items.size items2.size)).all (λ j=>match ds[j]?,es[j]? with|some d,some e=>Dt.beq d e|_,_=>false) && items.size == items2.size):=by
      rw[show Dt.beq (.tup ds) (.tup es)=Dt.beqs ds es by simp[Dt.beq],zEo];have a1:items.size=ds.length:=by rw[m1];simp
      have a2:items2.size=es.length:=by rw[m2];simp
      rw[a1,a2]
      try rfl
     rw[ez];exact key
end
mutual
noncomputable def Dt.hsh (w:World):Dt->Int
 |.int i=>hashInt i
 |.str x=>hashStr w x
 |.tup ds=>reduceHash (Builtin.Tuple.tupleHashOf (Dt.hshs w ds))
noncomputable def Dt.hshs (w:World):List Dt->List Int
 |[]=>[]
 |d::ds=>Dt.hsh w d::Dt.hshs w ds
end
mutual
noncomputable def Dt.draws:Dt->Nat
 |.int _=>1
 |.str _=>1
 |.tup ds=>Dt.drawss ds+1
noncomputable def Dt.drawss:List Dt->Nat
 |[]=>0
 |d::ds=>Dt.draws d+Dt.drawss ds
end
theorem zEe (w:World):∀(a b:List Dt),Dt.hshs w (a++b)=Dt.hshs w a++Dt.hshs w b
 |[],b=>rfl
 |d::a,b=>by simp[Dt.hshs,zEe w a b]
theorem zC4:∀(a b:List Dt),Dt.drawss (a++b)=Dt.drawss a+Dt.drawss b
 |[],b=>by simp[Dt.drawss]
 |d::a,b=>by simp[Dt.drawss,zC4 a b];omega
theorem zFI:∀(a b:List Dt),Dt.deeps (a++b)=max (Dt.deeps a) (Dt.deeps b)
 |[],b=>by simp[Dt.deeps]
 |d::a,b=>by simp[Dt.deeps,zFI a b,Nat.max_assoc]
section
variable {prog:Program}{w:World}{E:XQ}
theorem zKs:∀(n:Nat) (A:Around) (s:Shared) {E:XQ}{d:Dt}{u:Value}{Q:Int->Shared->Prop},d.deep<=n->DA s.heap d u->A.units+n<cLine->Q (d.hsh w) { s with toks:=s.toks+d.draws } ->
  wpAny (model prog w) A (pyHash u) Q E s:=by
 intro n
 induction n with
 |zero =>
  intro A s E d u Q hn hd hu h;cases hd with
  |int i t=>exact(zAo prog w).pyHash (k:=.inl i) (zDh i t) h
  |str x t=>exact(zAo prog w).pyHash (k:=.inr x) (zDg x t) h
  |tup _ _=>simp[Dt.deep] at hn
 |succ n ih =>
  intro A s E d u Q hn hd hu h;cases hd with
  |int i t=>exact(zAo prog w).pyHash (k:=.inl i) (zDh i t) h
  |str x t=>exact(zAo prog w).pyHash (k:=.inr x) (zDg x t) h
  | @tup a items ds ha hi =>
   have hn':Dt.deeps ds<=n:=by simpa[Dt.deep] using hn
   obtain⟨o,ho,hc,m,hd⟩:=ha;have hT:s.TypeIs (.ref a) "tuple" := ⟨o,ho,hc⟩;unfold pyHash
   first|unfold pyHashByItsType|skip
   first|refine lA (wpAny_cRoomFor_or (.inr (by omega)) ?_)|skip
   refine lA (wpAny_specialOf hT F.slot_tuple_hash.lookup ?_);show wpAny _ _ (if (some (Value.builtin "tuple.__hash__") == some Value.none)=true then _ else _) Q E s;rw[if_neg (by rw[beq_builtin_none];exact lV)];refine lA (wpAny_specialOf hT F.slot_tuple_hash.lookup ?_);show wpAny _ _ (callSpecialIfBoundUnlessNone? (.ref a) "__hash__" _ >>= _) Q E s;refine lA (wpAny_callSpecialIfBoundUnlessNone?_slot hT F.slot_tuple_hash (wpAny_call_entry F.slot_tuple_hash hT F.entry_tuple_hash ?_ (F.args_tuple_hash_1 _)));show wpAny _ _ (Builtin.Tuple.tupleItemsOf (.ref a) >>= _) _ _ s;refine lA (wpAny_tupleItemsOf ho hd ?_);refine lA ?_;rw[←Array.forIn_toList]
   refine wpAny_forIn_list _
    (λ rest (b:Array Int) s'=>∃done left,ds=done++left/\DAs s.heap left rest/\b.toList=Dt.hshs w done/\s'={ s with toks:=s.toks+Dt.drawss done })
    _ ?_ ?_ _ _ ⟨[],ds,rfl,hi,rfl,rfl⟩
   ·rintro x rest b s' ⟨done,left,rfl,hl,hb,rfl⟩
    cases hl with
    | @cons k _ ks' _ h1 hl' =>
     have hk:k.deep<=n:=by
      rw[zFI,Dt.deeps] at hn';omega
     refine lA (ih _ _ hk h1 (by show A.units+1+n<cLine;omega) ?_)
     first
      |exact lB ⟨done++[k],ks',by simp,hl',by simp[hb,zEe,Dt.hshs],by simp[zC4,Dt.drawss,Nat.add_assoc]⟩
      |exact lA (lB (lB ⟨done++[k],ks',by simp,hl',by simp[hb,zEe,Dt.hshs],by simp[zC4,Dt.drawss,Nat.add_assoc]⟩))
   ·rintro b s' ⟨done,left,rfl,hl,hb,rfl⟩
    cases hl;rw[nV] at h;show wpAny _ _ (retInt (Builtin.Tuple.tupleHashOf b.toList)) _ _ _;rw[hb];refine wpAny_ret_mkInt ?_;show wpAny _ _ (if (decide (-(2:Int) ^ 63<=Builtin.Tuple.tupleHashOf (Dt.hshs w done)) && decide (Builtin.Tuple.tupleHashOf (Dt.hshs w done)<2 ^ 63))=true then _ else _) Q E _;unfold Dt.hsh reduceHash Dt.draws at h
    by_cases hr:(decide (-(2:Int) ^ 63<=Builtin.Tuple.tupleHashOf (Dt.hshs w done)) && decide (Builtin.Tuple.tupleHashOf (Dt.hshs w done)<2 ^ 63))=true
    ·rw[if_pos hr]
     rw[if_pos hr] at h;exact lB (by simpa[Nat.add_assoc] using h)
    ·rw[if_neg hr]
     rw[if_neg hr] at h;exact lA (wpAny_rule (lB (by simpa[Nat.add_assoc] using h)))
theorem zIm {M:Model}{A:Around}{E:XQ}{s:Shared}:∀(n:Nat) {d:Dt}{u:Value}{Q:Bool->Shared->Prop},d.deep<=n->DA s.heap d u->Q true s->wpAny (model prog w) A (eqIsQuiet n u) Q E s:=by
 intro n
 induction n with
 |zero =>
  intro d u Q hn hd h;cases hd with
  |int i t=>rw[eqIsQuiet_byValue _ rfl];exact lB h
  |str x t=>rw[eqIsQuiet_byValue _ rfl];exact lB h
  |tup _ _=>simp[Dt.deep] at hn
 |succ n ih =>
  intro d u Q hn hd h;cases hd with
  |int i t=>rw[eqIsQuiet_byValue _ rfl];exact lB h
  |str x t=>rw[eqIsQuiet_byValue _ rfl];exact lB h
  | @tup a items ds ha hi =>
   have hn':Dt.deeps ds<=n:=by simpa[Dt.deep] using hn
   obtain⟨o,ho,hc,m,hd⟩:=ha;have hT:s.TypeIs (.ref a) "tuple" := ⟨o,ho,hc⟩;unfold eqIsQuiet;refine lA (wpAny_specialOf hT F.slot_tuple_eq.lookup ?_);show wpAny _ _ (isInstance (.ref a) (.type "tuple") >>= _) _ _ s;refine lA (wpAny_isInstance hT isSubtype_tuple_tuple ?_);simp only[Bool.not_true,Bool.false_eq_true,if_false];refine lA (wpAny_seqItems ho hd ?_);refine lA ?_;show wpAny _ _ (forIn items _ _) _ _ s;rw[←Array.forIn_toList];refine wpAny_forIn_list _ (λ rest r s'=>r.1=none/\s'=s/\∃ds',DAs s.heap ds' rest/\Dt.deeps ds'<=n) _ ?_ ?_ _ _ ⟨rfl,rfl,ds,hi,hn'⟩
   ·rintro v rest r s' ⟨hr,rfl,ds',hall,hdp⟩
    cases hall with
    | @cons k _ ks' _ h1 hl' =>
     have hk:k.deep<=n/\Dt.deeps ks'<=n:=by
      rw[Dt.deeps] at hdp;omega
     refine lA (ih hk.1 h1 ?_);simp only[Bool.not_true,Bool.false_eq_true,if_false];exact lB ⟨rfl,rfl,ks',hl',hk.2⟩
   ·rintro⟨r1,r2⟩ s' ⟨hr,rfl,_⟩
    simp only at hr;subst hr;exact lB h
end
noncomputable def zBt (prog:Program) (w:World):HeapKind prog w Dt where
 is:=λ h d a=>DA h d (.ref a)/\d.deep<=8
 hash:=Dt.hsh w
 draws:=Dt.draws
 room:=λ A=>A.units+8<cLine
 inj:=λ hx hy=>hx.1.inj hy.1
 keeps:=λ{h h' k a d o es ep} x ho hd hs=>⟨x.1.kept λ b x hb=>by
  obtain⟨o',ho',hc,n,hd'⟩:=hb
  have hne:b≠d:=by
   rintro rfl;rw[ho'] at ho;cases ho;rw[hd'] at hd;cases hd
  exact⟨o',(hs.2 b hne).trans ho',hc,n,hd'⟩,x.2⟩
 pyHash:=λ hu hk h=>zKs 8 _ _ hk.2 hk.1 hu h
 eqBool:=λ{A E s x y a b Q} hu hx hy h=>zEi 8 A hx.2 hx.1 hy.1 hu prog w E Q (by rw[zK1];exact h)
 quiet:=λ hk h=>zIm (M:=model prog w) 8 hk.2 hk.1 h
noncomputable def strLt (x y:Str):Bool:=decide (x.cps.toList<y.cps.toList)
theorem zEu (x:Str):strLt x x=false:=by unfold strLt;exact decide_eq_false (List.lt_irrefl _)
theorem zDL {x y z:Str}(h:strLt x y=true) (k:strLt y z=true):strLt x z=true:=by
 unfold strLt at *;exact decide_eq_true (List.lt_trans (lR h) (lR k))
theorem zHP {x y:Str}(h:strLt x y=false) (k:strLt y x=false):x=y:=by
 unfold strLt at *;have a:=of_decide_eq_false h;have b:=of_decide_eq_false k;have:x.cps.toList=y.cps.toList:=List.le_antisymm (List.not_lt.mp b) (List.not_lt.mp a);cases x;cases y;congr 1;exact Array.toList_inj.mp this
mutual
noncomputable def Dt.lt:Dt->Dt->Bool
 |.int i,.int j=>decide (i<j)
 |.str x,.str y=>strLt x y
 |.tup ds,.tup es=>Dt.lts ds es
 |.int _,.str _=>true
 |.int _,.tup _=>true
 |.str _,.tup _=>true
 |.str _,.int _=>false
 |.tup _,.int _=>false
 |.tup _,.str _=>false
noncomputable def Dt.lts:List Dt->List Dt->Bool
 |[],[]=>false
 |[],_::_=>true
 |_::_,[]=>false
 |d::ds,e::es=>if Dt.beq d e=true then Dt.lts ds es else Dt.lt d e
end
theorem zCK (d:Dt):Dt.beq d d=true:=Dt.beq_iff.mpr rfl
mutual
theorem Dt.lt_irr:∀d:Dt,Dt.lt d d=false
 |.int i=>by simp[Dt.lt]
 |.str x=>by rw[Dt.lt];exact zEu x
 |.tup ds=>by rw[Dt.lt];exact Dt.lts_irr ds
theorem Dt.lts_irr:∀ds:List Dt,Dt.lts ds ds=false
 |[]=>rfl
 |d::ds=>by rw[Dt.lts,if_pos (zCK d)];exact Dt.lts_irr ds
end
mutual
theorem Dt.lt_tri:∀{d e:Dt},Dt.lt d e=false->Dt.lt e d=false->d=e
 |.int i,.int j,h,k=>by simp[Dt.lt] at h k;rw[show i=j by omega]
 |.str x,.str y,h,k=>by rw[Dt.lt] at h k;rw[zHP h k]
 |.tup ds,.tup es,h,k=>by rw[Dt.lt] at h k;rw[Dt.lts_tri h k]
 |.int _,.str _,h,k=>by simp[Dt.lt] at h
 |.int _,.tup _,h,k=>by simp[Dt.lt] at h
 |.str _,.tup _,h,k=>by simp[Dt.lt] at h
 |.str _,.int _,h,k=>by simp[Dt.lt] at k
 |.tup _,.int _,h,k=>by simp[Dt.lt] at k
 |.tup _,.str _,h,k=>by simp[Dt.lt] at k
theorem Dt.lts_tri:∀{ds es:List Dt},Dt.lts ds es=false->Dt.lts es ds=false->ds=es
 |[],[],_,_=>rfl
 |[],_::_,h,k=>by simp[Dt.lts] at h
 |_::_,[],h,k=>by simp[Dt.lts] at k
 |d::ds,e::es,h,k=>by
  rw[Dt.lts] at h k
  by_cases c:d=e
  ·subst c
   rw[if_pos (zCK d)] at h k;rw[Dt.lts_tri h k]
  ·rw[if_neg (λ z=>c (Dt.beq_iff.mp z))] at h
   rw[if_neg (λ z=>c (Dt.beq_iff.mp z).symm)] at k;exact absurd (Dt.lt_tri h k) c
end
theorem zGl {x y:Str}(h:strLt x y=true):strLt y x=false:=by
 cases e:strLt y x with
 |false=>rfl
 |true=>have:=zDL h e;rw[zEu] at this;cases this
mutual
theorem Dt.lt_asym:∀{d e:Dt},Dt.lt d e=true->Dt.lt e d=false
 |.int i,.int j,h=>by simp[Dt.lt] at h ⊢;omega
 |.str x,.str y,h=>by rw[Dt.lt] at h ⊢;exact zGl h
 |.tup ds,.tup es,h=>by rw[Dt.lt] at h ⊢;exact Dt.lts_asym h
 |.int _,.str _,h=>by simp[Dt.lt]
 |.int _,.tup _,h=>by simp[Dt.lt]
 |.str _,.tup _,h=>by simp[Dt.lt]
 |.str _,.int _,h=>by simp[Dt.lt] at h
 |.tup _,.int _,h=>by simp[Dt.lt] at h
 |.tup _,.str _,h=>by simp[Dt.lt] at h
theorem Dt.lts_asym:∀{ds es:List Dt},Dt.lts ds es=true->Dt.lts es ds=false
 |[],[],h=>by simp[Dt.lts] at h
 |[],_::_,h=>by simp[Dt.lts]
 |_::_,[],h=>by simp[Dt.lts] at h
 |d::ds,e::es,h=>by
  rw[Dt.lts] at h ⊢
  by_cases c:d=e
  ·subst c
   rw[if_pos (zCK d)] at h ⊢;exact Dt.lts_asym h
  ·rw[if_neg (λ z=>c (Dt.beq_iff.mp z))] at h
   rw[if_neg (λ z=>c (Dt.beq_iff.mp z).symm)];exact Dt.lt_asym h
end
mutual
theorem Dt.lt_trans:∀{d e f:Dt},Dt.lt d e=true->Dt.lt e f=true->Dt.lt d f=true
 |.int i,.int j,.int k,h,l=>by simp[Dt.lt] at h l ⊢;omega
 |.str x,.str y,.str z,h,l=>by rw[Dt.lt] at h l ⊢;exact zDL h l
 |.tup ds,.tup es,.tup fs,h,l=>by rw[Dt.lt] at h l ⊢;exact Dt.lts_trans h l
 |.int _,_,.str _,h,l=>by simp[Dt.lt]
 |.int _,_,.tup _,h,l=>by simp[Dt.lt]
 |.str _,_,.tup _,h,l=>by simp[Dt.lt]
 |.int _,.str _,.int _,h,l=>by simp[Dt.lt] at l
 |.int _,.tup _,.int _,h,l=>by simp[Dt.lt] at l
 |.str _,.int _,_,h,l=>by simp[Dt.lt] at h
 |.str _,.str _,.int _,h,l=>by simp[Dt.lt] at l
 |.str _,.tup _,.int _,h,l=>by simp[Dt.lt] at l
 |.str _,.tup _,.str _,h,l=>by simp[Dt.lt] at l
 |.tup _,.int _,_,h,l=>by simp[Dt.lt] at h
 |.tup _,.str _,_,h,l=>by simp[Dt.lt] at h
 |.tup _,.tup _,.int _,h,l=>by simp[Dt.lt] at l
 |.tup _,.tup _,.str _,h,l=>by simp[Dt.lt] at l
theorem Dt.lts_trans:∀{ds es fs:List Dt},Dt.lts ds es=true->Dt.lts es fs=true->Dt.lts ds fs=true
 |[],_,_::_,h,l=>by simp[Dt.lts]
 |[],[],[],h,l=>by simp[Dt.lts] at h
 |[],_::_,[],h,l=>by simp[Dt.lts] at l
 |_::_,[],_,h,l=>by simp[Dt.lts] at h
 |_::_,_::_,[],h,l=>by simp[Dt.lts] at l
 |d::ds,e::es,f::fs,h,l=>by
  rw[Dt.lts] at h l ⊢
  by_cases c:d=e
  ·subst c
   rw[if_pos (zCK d)] at h
   by_cases c2:d=f
   ·subst c2
    rw[if_pos (zCK d)] at l ⊢;exact Dt.lts_trans h l
   ·rw[if_neg (λ z=>c2 (Dt.beq_iff.mp z))] at l ⊢
    exact l
  ·rw[if_neg (λ z=>c (Dt.beq_iff.mp z))] at h
   by_cases c2:e=f
   ·subst c2
    rw[if_neg (λ z=>c (Dt.beq_iff.mp z))];exact h
   ·rw[if_neg (λ z=>c2 (Dt.beq_iff.mp z))] at l
    have c3:d≠f:=λ z=>by
     subst z;have:=Dt.lt_asym h;rw[l] at this;cases this
    rw[if_neg (λ z=>c3 (Dt.beq_iff.mp z))];exact Dt.lt_trans h l
end
theorem Dt.lt_neg {d e f:Dt}(h:Dt.lt d e=false) (k:Dt.lt e f=false):Dt.lt d f=false:=by
 cases z:Dt.lt d f with
 |false=>rfl
 |true =>
  cases a:Dt.lt f e with
  |true=>have:=Dt.lt_trans z a;rw[h] at this;cases this
  |false =>
   have:=Dt.lt_tri k a;subst this;rw[h] at z;cases z
inductive Ty where
 |int|str|many (t:Ty)|two (a b:Ty)
mutual
noncomputable def Dt.has:Ty->Dt->Bool
 |.int,.int _=>true
 |.str,.str _=>true
 |.many t,.tup ds=>Dt.hass t ds
 |.two a b,.tup ds=>Dt.hasp a b ds
 |_,_=>false
noncomputable def Dt.hass:Ty->List Dt->Bool
 |_,[]=>true
 |t,d::ds=>Dt.has t d && Dt.hass t ds
noncomputable def Dt.hasp:Ty->Ty->List Dt->Bool
 |a,b,d::es=>Dt.has a d && Dt.hasq b es
 |_,_,_=>false
noncomputable def Dt.hasq:Ty->List Dt->Bool
 |b,e::es=>Dt.has b e && (es.length == 0)
 |_,_=>false
end
mutual
noncomputable def Dt.cmp:Dt->Dt->Bool
 |.int _,.int _=>true
 |.str _,.str _=>true
 |.tup ds,.tup es=>Dt.cmps ds es
 |_,_=>false
noncomputable def Dt.cmps:List Dt->List Dt->Bool
 |[],_=>true
 |_::_,[]=>true
 |d::ds,e::es=>if Dt.beq d e=true then Dt.cmps ds es else Dt.cmp d e
end
theorem zK0 {ds es:List Dt}:(∀d∈ds,∀e∈es,Dt.cmp d e=true)->Dt.cmps ds es=true:=by
 induction ds generalizing es with
 |nil=>intro _;cases es<;>rfl
 |cons d ds ih =>
  intro h;cases es with
  |nil=>rfl
  |cons e es =>
   rw[Dt.cmps]
   by_cases c:Dt.beq d e=true
   ·rw[if_pos c]
    exact ih λ x hx y hy=>h x (lO _ hx) y (lO _ hy)
   ·rw[if_neg c]
    exact h d lN e lN
theorem zDK {t:Ty}:∀{ds:List Dt},Dt.hass t ds=true↔∀d∈ds,Dt.has t d=true
 |[]=>by simp[Dt.hass]
 |d::ds=>by simp[Dt.hass,zDK (ds:=ds)]
theorem zEE:∀(t:Ty) {d e:Dt},Dt.has t d=true->Dt.has t e=true->Dt.cmp d e=true
 |.int,d,e,h,k=>by cases d<;>simp[Dt.has] at h;cases e<;>simp[Dt.has] at k;rfl
 |.str,d,e,h,k=>by cases d<;>simp[Dt.has] at h;cases e<;>simp[Dt.has] at k;rfl
 |.many t,d,e,h,k=>by
  cases d with
  |tup ds =>
   cases e with
   |tup es =>
    rw[Dt.has] at h k;rw[Dt.cmp];exact zK0 λ x hx y hy=>zEE t (zDK.mp h x hx) (zDK.mp k y hy)
   |_=>simp[Dt.has] at k
  |_=>simp[Dt.has] at h
 |.two a b,d,e,h,k=>by
  cases d with
  |tup ds =>
   cases e with
   |tup es =>
    rw[Dt.has] at h k;rw[Dt.cmp]
    match ds,es,h,k with
    |[d1,d2],[e1,e2],h,k =>
     simp[Dt.hasp,Dt.hasq] at h k;rw[Dt.cmps]
     by_cases c:Dt.beq d1 e1=true
     ·rw[if_pos c,Dt.cmps]
      by_cases c2:Dt.beq d2 e2=true
      ·rw[if_pos c2];rfl
      ·rw[if_neg c2];exact zEE b h.2 k.2
     ·rw[if_neg c];exact zEE a h.1 k.1
    |[],_,h,_=>simp[Dt.hasp] at h
    |[_],_,h,_=>simp[Dt.hasp,Dt.hasq] at h
    |_::_::_::_,_,h,_=>simp[Dt.hasp,Dt.hasq] at h
    |[_,_],[],_,k=>simp[Dt.hasp] at k
    |[_,_],[_],_,k=>simp[Dt.hasp,Dt.hasq] at k
    |[_,_],_::_::_::_,_,k=>simp[Dt.hasp,Dt.hasq] at k
   |_=>simp[Dt.has] at k
  |_=>simp[Dt.has] at h
open PySem.Calls
open AutoSeq1 (wpAny_loadPart')
def LtAt (A:Around) (s:Shared) (u y:Value) (b:Bool):Prop :=
 ∀(prog:Program) (w:World) (E:XQ) (Q:XQ),Q (.bool b) s->wpAny (model prog w) A (compareOp .Lt u y) Q E s
noncomputable def lexF (e f:Nat->Bool) (n m i:Nat):Nat->Bool
 |0=>decide (n<m)
 |k+1=>if e i=true then lexF e f n m (i+1) k else f i
theorem zEs (l b:Addr) (items items2:Array Value) (n n2:Nat) (dd dd2:Option Addr) (sl sl2:Array (Option Value)) (e f:Nat->Bool) :
  Meets (Builtin.«tuple.__lt__» ⟨[.ref l,.ref b],[]⟩)
   (λ A R s=>s.heap.get? l=some { cls:=.type "tuple", dict:=dd,data:=.seq items n,slots:=sl }/\s.heap.get? b=some { cls:=.type "tuple", dict:=dd2,data:=.seq items2 n2,slots:=sl2 } /\
    (∀j (h1:j<items.size) (h2:j<items2.size),SeqAt.EqAt A.in1 s items[j] items2[j] (e j)) /\
    (∀j (h1:j<items.size) (h2:j<items2.size),e j=false->(∀i,i<j->e i=true)->LtAt A.in1 s items[j] items2[j] (f j)) /\
    R (.ok (.ret (.bool (lexF e f items.size items2.size 0 (min items.size items2.size))))) s) :=
 .of_wp λ prog w A R s h=>by
  obtain⟨hp,g,d,tk,os⟩:=s;obtain⟨hl,hb,he,hf,h⟩:=h;have f2:=AutoSeq1.sub_tuple_tuple;have hZ:(items.toList.zip items2.toList).length=min items.size items2.size:=by simp
  wp_walk using wpAny_loadPart' hl,wpAny_loadPart' hb,wpAny_forIn_list _ (λ rest b s'=>b.1=none/\s'=⟨hp,g,d,tk,os⟩/\∃i,rest=(items.toList.zip items2.toList).drop i/\i<=min items.size items2.size/\(∀j,j<i->e j=true) /\
   R (.ok (.ret (.bool (lexF e f items.size items2.size i (min items.size items2.size - i))))) ⟨hp,g,d,tk,os⟩) _
  case turn =>
   rintro⟨y,x⟩ rest b s' ⟨hb',rfl,i,hz,him,hpre,hR⟩
   have hlt:i<(items.toList.zip items2.toList).length:=by
    rcases Nat.lt_or_ge i (items.toList.zip items2.toList).length with h'|h'
    ·exact h'
    ·rw[List.drop_of_length_le h'] at hz;cases hz
   have hm:i<min items.size items2.size:=hZ▸hlt;have h1:i<items.size:=lY hm (Nat.min_le_left _ _);have h2:i<items2.size:=lY hm (Nat.min_le_right _ _);rw[List.drop_eq_getElem_cons hlt] at hz;injection hz with hyx hrest
   have hy:y=items[i]:=by have:=congrArg Prod.fst hyx;simpa using this
   have hx:x=items2[i]:=by have:=congrArg Prod.snd hyx;simpa using this
   subst hy hx;obtain⟨k,hk⟩:∃k,min items.size items2.size - i=k+1:=⟨min items.size items2.size - i - 1,by omega⟩;have hk':min items.size items2.size - (i+1)=k:=by omega
   rw[hk,lexF] at hR;refine lA (he i h1 h2 prog w _ _ ?_);cases hy:e i with
   |true =>
    rw[hy,if_pos rfl] at hR
    wp_walk
    exact⟨rfl,rfl,i+1,hrest,by omega,λ j hj=>by
     by_cases c:j=i
     ·rw[c];exact hy
     ·exact hpre j (by omega),by rw[hk'];exact hR⟩
   |false =>
    rw[hy] at hR;rw[if_pos (by rfl)];refine lA (wpAny_rule (lA (hf i h1 h2 hy hpre prog w _ _ ?_)))
    wp_walk
    exact⟨_,rfl,by simpa using hR⟩
  case fin =>
   rintro⟨b1,b2⟩ s' ⟨hb',rfl,i,hz,him,hpre,hR⟩;simp only at hb';subst hb'
   have hge:min items.size items2.size<=i:=by
    rcases Nat.lt_or_ge i (items.toList.zip items2.toList).length with h'|h'
    ·rw[List.drop_eq_getElem_cons h'] at hz;cases hz
    ·exact hZ▸h'
   rw[show min items.size items2.size - i=0 by omega,lexF] at hR
   wp_walk
   exact⟨_,rfl,by simpa[Builtin.Tuple.tupleCompareSizes] using hR⟩
  case h =>
   exact⟨rfl,rfl,0,rfl,lX _,λ j hj=>by omega,by simpa using h⟩
theorem LtAt.tuples {A:Around}{s:Shared}{l b:Addr}{items items2:Array Value}{e f:Nat->Bool}(hl:s.heap.IsTuple l items) (hb:s.heap.IsTuple b items2) (hu:A.units<cLine)
  (he:∀j (h1:j<items.size) (h2:j<items2.size),SeqAt.EqAt A.in1 s items[j] items2[j] (e j))
  (hf:∀j (h1:j<items.size) (h2:j<items2.size),e j=false->(∀i,i<j->e i=true)->LtAt A.in1 s items[j] items2[j] (f j)):LtAt A s (.ref l) (.ref b) (lexF e f items.size items2.size 0 (min items.size items2.size)):=λ prog w E Q h=>by
 obtain⟨⟨cls,dd,data,sl⟩,ho,hc,n,hd⟩:=id hl;obtain⟨⟨cls2,dd2,data2,sl2⟩,ho2,hc2,n2,hd2⟩:=id hb;simp only at hc hd hc2 hd2;subst hc hd hc2 hd2
 exact richCompare_meets_room (op:=.Lt) ⟨_,ho,rfl⟩ ⟨_,ho2,rfl⟩ F.slot_tuple_lt F.entry_tuple_lt (F.args_tuple_lt_2 _ _) (zEs l b items items2 n n2 dd dd2 sl sl2 e f)
  ⟨ho,ho2,he,hf,show Value.bool (lexF e f items.size items2.size 0 (min items.size items2.size))≠Value.notImplemented/\Q (.bool (lexF e f items.size items2.size 0 (min items.size items2.size))) s from⟨(λ x=>nomatch x),h⟩⟩ hu
noncomputable def eAt (ds es:List Dt) (j:Nat):Bool:=match ds[j]?,es[j]? with|some d,some e=>Dt.beq d e|_,_=>false
noncomputable def fAt (ds es:List Dt) (j:Nat):Bool:=match ds[j]?,es[j]? with|some d,some e=>Dt.lt d e|_,_=>false
theorem zEc:∀(ds es ds0 es0:List Dt) (i:Nat),ds=ds0.drop i->es=es0.drop i->i<=min ds0.length es0.length->lexF (eAt ds0 es0) (fAt ds0 es0) ds0.length es0.length i (min ds0.length es0.length - i)=Dt.lts ds es
 |[],es,ds0,es0,i,h1,h2,hi=>by
  have:ds0.length<=i:=List.drop_eq_nil_iff.mp h1.symm;have l2:es.length=es0.length - i:=by rw[h2,mX]
  rw[show min ds0.length es0.length - i=0 by omega,lexF];cases es with
  |nil=>rw[Dt.lts];exact decide_eq_false (by simp at l2;omega)
  |cons e es=>rw[Dt.lts];exact decide_eq_true (by simp at l2;omega)
 |d::ds,[],ds0,es0,i,h1,h2,hi=>by
  have:es0.length<=i:=List.drop_eq_nil_iff.mp h2.symm;rw[show min ds0.length es0.length - i=0 by omega,lexF,Dt.lts];exact decide_eq_false (by omega)
 |d::ds,e::es,ds0,es0,i,h1,h2,hi=>by
  have l1:(d::ds).length=ds0.length - i:=by rw[h1,mX]
  have l2:(e::es).length=es0.length - i:=by rw[h2,mX]
  simp only[mN] at l1 l2;have g1:ds0[i]?=some d:=by have:=congrArg (·[0]?) h1;simpa using this.symm
  have g2:es0[i]?=some e:=by have:=congrArg (·[0]?) h2;simpa using this.symm
  have t1:ds=ds0.drop (i+1):=by have:=congrArg List.tail h1;simpa using this
  have t2:es=es0.drop (i+1):=by have:=congrArg List.tail h2;simpa using this
  rw[show min ds0.length es0.length - i=(min ds0.length es0.length - (i+1))+1 by omega,lexF,Dt.lts];have a1:eAt ds0 es0 i=Dt.beq d e:=by unfold eAt;rw[g1,g2]
  have a2:fAt ds0 es0 i=Dt.lt d e:=by unfold fAt;rw[g1,g2]
  rw[a1,a2,zEc ds es ds0 es0 (i+1) t1 t2 (by omega)]
theorem zC5:∀{ds es:List Dt}{j:Nat}{d e:Dt},Dt.cmps ds es=true->ds[j]?=some d->es[j]?=some e->Dt.beq d e=false->(∀i,i<j->eAt ds es i=true)->Dt.cmp d e=true
 |[],_,_,_,_,_,h,_,_,_=>by simp at h
 |_::_,[],_,_,_,_,_,h,_,_=>by simp at h
 |x::ds,y::es,0,d,e,h,h1,h2,hb,_=>by
  simp at h1 h2;subst h1 h2;rw[Dt.cmps,if_neg (by rw[hb];simp)] at h;exact h
 |x::ds,y::es,j+1,d,e,h,h1,h2,hb,hp=>by
  have h0:Dt.beq x y=true:=by have:=hp 0 (by omega);simpa[eAt] using this
  rw[Dt.cmps,if_pos h0] at h;exact zC5 h (by simpa using h1) (by simpa using h2) hb λ i hi=>by have:=hp (i+1) (by omega);simpa[eAt] using this
theorem zFn {s:Shared}:∀(n:Nat) (A:Around) {d e:Dt}{u y:Value},d.deep<=n->Dt.cmp d e=true->DA s.heap d u->DA s.heap e y->A.units+n<cLine->LtAt A s u y (Dt.lt d e):=by
 intro n
 induction n with
 |zero =>
  intro A d e u y hn hc rd re hu;cases rd with
  |int i t =>
   cases re with
   |int j t'=>intro prog w E Q h;exact PyProof.Rows.lt_int (by rw[Dt.lt] at h;exact h)
   |_=>simp[Dt.cmp] at hc
  |str x t =>
   cases re with
   |str x' t'=>intro prog w E Q h;exact PyProof.Rows.lt_str (by rw[Dt.lt] at h;exact h)
   |_=>simp[Dt.cmp] at hc
  |tup _ _=>simp[Dt.deep] at hn
 |succ n ih =>
  intro A d e u y hn hc rd re hu;cases rd with
  |int i t =>
   cases re with
   |int j t'=>intro prog w E Q h;exact PyProof.Rows.lt_int (by rw[Dt.lt] at h;exact h)
   |_=>simp[Dt.cmp] at hc
  |str x t =>
   cases re with
   |str x' t'=>intro prog w E Q h;exact PyProof.Rows.lt_str (by rw[Dt.lt] at h;exact h)
   |_=>simp[Dt.cmp] at hc
  | @tup a items ds ha rs =>
   have hn':Dt.deeps ds<=n:=by simpa[Dt.deep] using hn
   cases re with
   | @tup b items2 es hb rs' =>
    have m1:=rs.length;have m2:=rs'.length;have s1:items.size=ds.length:=by rw[m1];simp
    have s2:items2.size=es.length:=by rw[m2];simp
    rw[Dt.cmp] at hc
    have key:=LtAt.tuples (A:=A) (s:=s) (e:=eAt ds es) (f:=fAt ds es) ha hb (by omega)
     (λ j h1 h2=>by
      obtain⟨d1,ed,rd1⟩:=rs.get (show items.toList[j]?=some items[j] by simp[h1]);obtain⟨d2,ed2,rd2⟩:=rs'.get (show items2.toList[j]?=some items2[j] by simp[h2]);have:eAt ds es j=Dt.beq d1 d2:=by unfold eAt;rw[ed,ed2]
      rw[this];exact zEi n A.in1 (mK (zBY ed) hn') rd1 rd2 (by rw[show A.in1.units=A.units+1 from rfl];omega))
     (λ j h1 h2 hne hpre=>by
      obtain⟨d1,ed,rd1⟩:=rs.get (show items.toList[j]?=some items[j] by simp[h1]);obtain⟨d2,ed2,rd2⟩:=rs'.get (show items2.toList[j]?=some items2[j] by simp[h2]);have e1:eAt ds es j=Dt.beq d1 d2:=by unfold eAt;rw[ed,ed2]
      have e2:fAt ds es j=Dt.lt d1 d2:=by unfold fAt;rw[ed,ed2]
      rw[e2];exact ih A.in1 (mK (zBY ed) hn') (zC5 hc ed ed2 (e1▸hne) hpre) rd1 rd2 (by rw[show A.in1.units=A.units+1 from rfl];omega))
    rw[s1,s2] at key;have ez:=zEc ds es ds es 0 rfl rfl (lX _);rw[Nat.sub_zero] at ez;rw[ez] at key;rw[Dt.lt];exact key
   |_=>simp[Dt.cmp] at hc
section
variable {prog:Program}{w:World}{A:Around}{E:XQ}{s:Shared}
theorem zFs {u y:Value}{b:Bool}{Q:Bool->Shared->Prop}(hl:LtAt A s u y b) (h:Q b s):wpAny (model prog w) A (keyLt' general' u y) Q E s:=by
 show wpAny (model prog w) A (oneLt' false u y) Q E s;exact kat_one _ _ (hl prog w E _ h)
theorem zFq {a b:Addr}{ds es:List Dt}{items items2:Array Value}{Q:Bool->Shared->Prop}(ha:s.heap.IsTuple a items) (hb:s.heap.IsTuple b items2) (n:Nat) (hn:Dt.deeps ds<=n) (hc:Dt.cmps ds es=true)
  (rs:DAs s.heap ds items.toList) (rs':DAs s.heap es items2.toList) (hu:A.units+(n+1)<cLine) (h:Q (Dt.lts ds es) s):wpAny (model prog w) A (keyLt' oneType' (.ref a) (.ref b)) Q E s:=by
 rw[keyLt'_oneType,oneLt'_eq];simp only[if_true];refine lA (wpAny_cRoomFor (by omega) ?_);obtain⟨⟨cls,dd,data,sl⟩,ho,hcl,m,hd⟩:=id ha;obtain⟨⟨cls2,dd2,data2,sl2⟩,ho2,hcl2,m2,hd2⟩:=id hb;simp only at hcl hd hcl2 hd2;subst hcl hd hcl2 hd2;have l1:=rs.length;have l2:=rs'.length;have s1:items.size=ds.length:=by rw[l1];simp
 have s2:items2.size=es.length:=by rw[l2];simp
 have ez:=zEc ds es ds es 0 rfl rfl (lX _);rw[Nat.sub_zero] at ez;refine lA (wpAny_callSpecialIfBound?_slot (s:=s) (T := "tuple") ⟨_,ho,rfl⟩ F.slot_tuple_lt (call_meets (s:=s) F.slot_tuple_lt ⟨_,ho,rfl⟩ F.entry_tuple_lt (F.args_tuple_lt_2 _ _) (zEs a b items items2 m m2 dd dd2 sl sl2 (eAt ds es) (fAt ds es)) ⟨ho,ho2,?_,?_,?_⟩))
 ·intro j h1 h2
  obtain⟨d1,ed,rd1⟩:=rs.get (show items.toList[j]?=some items[j] by simp[h1]);obtain⟨d2,ed2,rd2⟩:=rs'.get (show items2.toList[j]?=some items2[j] by simp[h2]);have:eAt ds es j=Dt.beq d1 d2:=by unfold eAt;rw[ed,ed2]
  rw[this];exact zEi n A.in1 (mK (zBY ed) hn) rd1 rd2 (by rw[show A.in1.units=A.units+1 from rfl];omega)
 ·intro j h1 h2 hne hpre
  obtain⟨d1,ed,rd1⟩:=rs.get (show items.toList[j]?=some items[j] by simp[h1]);obtain⟨d2,ed2,rd2⟩:=rs'.get (show items2.toList[j]?=some items2[j] by simp[h2]);have e1:eAt ds es j=Dt.beq d1 d2:=by unfold eAt;rw[ed,ed2]
  have e2:fAt ds es j=Dt.lt d1 d2:=by unfold fAt;rw[ed,ed2]
  rw[e2];exact zFn n A.in1 (mK (zBY ed) hn) (zC5 hc ed ed2 (e1▸hne) hpre) rd1 rd2 (by rw[show A.in1.units=A.units+1 from rfl];omega)
 ·rw[s1,s2,ez]
  show wpAny _ _ (truthOfDropped (.bool (Dt.lts ds es))) Q E s;exact wpAny_truthy_bool h
theorem zFr {b:Bool}{Q:Bool->Shared->Prop}(n:Nat) (hu:A.units+(n+1)<cLine):∀{ds es:List Dt}{us ys:List Value}(i:Nat),DAs s.heap ds us->DAs s.heap es ys->Dt.deeps ds<=n->Dt.cmps ds es=true ->
  (b=true->i=0->∀d∈ds.head?,∀e∈es.head?,∃x z,d = .str x/\e = .str z)->∀{fin:Bool},fin=decide (ds.length<es.length)->Q (Dt.lts ds es) s->KatLex prog w A b fin Q (us.zip ys) i s
 |_,_,_,_,i,.nil,.nil,_,_,_,_,hf,h=>by subst hf;exact h
 |_,_,_,_,i,.nil,.cons _ _,_,_,_,_,hf,h=>by subst hf;exact h
 |_,_,_,_,i,.cons _ _,.nil,_,_,_,_,hf,h=>by subst hf;exact h
 |d::ds,e::es,u::us,y::ys,i,.cons r q,.cons r' q',hn,hc,hb,fin,hf,h=>by
  rw[Dt.deeps] at hn;rw[Dt.lts] at h;rw[List.zip_cons_cons];refine kat_cons (zEi n A (by omega) r r' (by omega) prog w _ _ ?_)
  by_cases c:Dt.beq d e=true
  ·rw[c]
   rw[if_pos c] at h;rw[Dt.cmps,if_pos c] at hc;exact kat_yes (zFr n hu (i+1) q q' (by omega) hc (λ U z=>by omega) (by rw[hf];simp) h)
  ·rw[if_neg c] at h
   rw[Dt.cmps,if_neg c] at hc;rw[show Dt.beq d e=false by simpa using c];refine kat_no ?_;cases hb':(b && i == 0) with
   |false=>exact kat_one _ _ (zFn n A (by omega) hc r r' (by omega) prog w _ _ h)
   |true =>
    rw[Bool.and_eq_true] at hb';obtain⟨x,z,rfl,rfl⟩:=hb hb'.1 (by simpa using hb'.2) d rfl e rfl;cases r with
    |str _ t=>cases r' with
     |str _ t'=>exact oneLt_str (by rw[Dt.lt] at h;exact h)
theorem zFE:∀{ds:List Dt}{vs:List Value},DAs s.heap ds vs->(∀d∈ds,∃r,d = .tup r)->∀{Q:List (Option Value)->Shared->Prop},(∀fs:List (Option Value),fs.length=ds.length->(∀j:Nat,(fs[j]?=some none)↔ds[j]?=some (Dt.tup []))->Q fs s)->wpAny (model prog w) A (vs.mapM firstOfTuple') Q E s
 |_,_,.nil,_,Q,h=>by rw[List.mapM_nil];exact lB (h [] rfl (by simp))
 |d::ds,v::vs,.cons r q,ht,Q,h=>by
  obtain⟨l,rfl⟩:=ht d lN;cases r with
  | @tup a items _ ha ri =>
   obtain⟨o,ho,hc,n,hd⟩:=ha;rw[List.mapM_cons];refine lA ?_;rw[kas_first_eq];refine lA (Looks.here (show Looks (model prog w) s.heap (typeOf (.ref a)) o.cls from(Looks.ld ho).andThen .now) ?_);rw[hc,if_neg (by first|decide|simp)];refine lA (listItems_at ho hd (lB ?_));refine lA (zFE q (λ d hd=>ht d (lO _ hd)) (Q:=λ bs s'=>wpAny _ A (pure (items[0]?::bs)) Q E s') λ fs hl hj=>lB (h _ (by simp[hl]) λ j=>?_));cases j with
   |zero =>
    have l1:=ri.length;cases l with
    |nil =>
     have:items.size=0:=by simpa using l1.symm
     simp[this]
    |cons x l =>
     have:0<items.size:=by simp at l1;omega
     simp[this]
   |succ j=>simpa using hj j
def GoodK (κ:SortKind) (ds:List Dt):Prop:=κ=general'\/κ=oneType'\/κ=tuples' false\/(κ=tuples' true/\∀d∈ds,∃x r,d = .tup (.str x::r))
def Heads (ds:List Dt):Prop:=(∀d∈ds,∃x r,d = .tup (.str x::r))\/∀d∈ds,d = .tup []\/∃l r,d = .tup (.tup l::r)
theorem zC2 {T:Value}(hT:∀{d:Dt}{v:Value},DA s.heap d v->(T = .type "str" /\ ∃x,d = .str x)\/(T = .type "tuple" /\ ∃l,d = .tup l)->Looks (model prog w) s.heap (typeOf v) T):∀{ds:List Dt}{vs:List Value},DAs s.heap ds vs->(∀d∈ds,∃f r,d = .tup (f::r)/\((T = .type "str" /\ ∃x,f = .str x)\/(T = .type "tuple" /\ ∃l,f = .tup l))) ->
  ∃fs,KatTups s.heap vs fs/\fs.length=vs.length/\∀v∈fs,Looks (model prog w) s.heap (typeOf v) T
 |_,_,.nil,_=>⟨[],trivial,rfl,λ v hv=>nomatch hv⟩
 |d::ds,v::vs,.cons r q,ht=>by
  obtain⟨fs,h1,h2,h3⟩:=zC2 hT q λ d hd=>ht d (lO _ hd);obtain⟨f,l,rfl,hf⟩:=ht d lN;cases r with
  | @tup a items _ ha ri =>
   obtain⟨o,ho,hc,n,hd⟩:=ha;generalize hit:items.toList=its at ri;cases ri with
   | @cons _ u _ us r0 _ =>
    have h0:items[0]?=some u:=by rw[←nN,hit];rfl
    refine⟨u::fs,KatTups.cons ho hc hd h0 h1,by simp[h2],λ v hv=>?_⟩;rcases lM.mp hv with rfl|hv
    ·exact hT r0 hf
    ·exact h3 v hv
theorem zEa {T:Value}{d:Dt}{v:Value}(r:DA s.heap d v):(T = .type "str" /\ ∃x,d = .str x)\/(T = .type "tuple" /\ ∃l,d = .tup l)->Looks (model prog w) s.heap (typeOf v) T:=by
 rintro (⟨rfl,x,rfl⟩|⟨rfl,l,rfl⟩)
 ·cases r with
  |str _ t=>exact Looks.of_pure rfl
 ·cases r with
  | @tup a items _ ha _ =>
   obtain⟨o,ho,hc,n,hd⟩:=ha;have:=(show Looks (model prog w) s.heap (typeOf (.ref a)) o.cls from(Looks.ld ho).andThen .now);rw[hc] at this;exact this
theorem zKp {ds:List Dt}{vs:List Value}{Q:SortKind->Shared->Prop}(hd:DAs s.heap ds vs) (h2:2<=vs.length) (hh:Heads ds) (h:∀κ,GoodK κ ds->Q κ s):wpAny (model prog w) A (keyKind' vs.toArray) Q E s:=by
 have hl:=hd.length;rcases hh with hh|hh
 ·obtain⟨fs,t1,t2,t3⟩:=zC2 (prog:=prog) (w:=w) (T:=.type "str") zEa hd λ d hd=>by
   obtain⟨x,r,rfl⟩:=hh d hd;exact⟨_,_,rfl,.inl ⟨rfl,x,rfl⟩⟩
  refine kat_kind (T:=.type "str") t1 (by omega) t3 (by decide) (h _ (.inr (.inr (.inr ⟨?_,hh⟩))));rw[show (Value.type "str" != Value.type "tuple")=true by decide]
 ·by_cases hall:∀d∈ds,d ≠ .tup []
  ·obtain⟨fs,t1,t2,t3⟩:=zC2 (prog:=prog) (w:=w) (T:=.type "tuple") zEa hd λ d hd=>by
    rcases hh d hd with rfl|⟨l,r,rfl⟩
    ·exact absurd rfl (hall _ hd)
    ·exact⟨_,_,rfl,.inr ⟨rfl,l,rfl⟩⟩
   refine kat_kind (T:=.type "tuple") t1 (by omega) t3 (by decide) (h _ (.inr (.inr (.inl ?_))));rw[show (Value.type "tuple" != Value.type "tuple")=false by decide]
  ·have ht:∀d∈ds,∃r,d = .tup r:=λ d hd=>by
    rcases hh d hd with rfl|⟨l,r,rfl⟩
    ·exact⟨_,rfl⟩
    ·exact⟨_,rfl⟩
   rw[kat_kind_eq,List.mapM_toArray,map_eq_pure_bind];refine lA (lA (zFE hd ht λ fs hfl hj=>lB ?_))
   have hno:¬(fs.toArray.all λ x=>x.isSome)=true:=by
    intro z;apply hall;intro d hd e;subst e;obtain⟨j,hjl,hje⟩:=List.getElem_of_mem hd;have:=(hj j).mpr (by rw[nT hjl,hje]);rw[List.all_toArray,List.all_eq_true] at z;have:=z none (lL this);cases this
   rw[if_neg hno]
   by_cases c0:((fs.toArray[0]?.bind id).isSome)=true
   ·rw[if_pos c0]
    exact lB (h _ (.inl rfl))
   ·rw[if_neg c0]
    rw[oneTypeOnly'_eq,List.mapM_toArray,map_eq_pure_bind]
    have hT:∀v∈vs,Looks (model prog w) s.heap (typeOf v) (.type "tuple"):=λ v hv=>by
     obtain⟨j,hjl,hje⟩:=List.getElem_of_mem hv;obtain⟨d,ed,rd⟩:=hd.get (show vs[j]?=some v by rw[nT hjl,hje]);obtain⟨l,rfl⟩:=ht d (lL ed);exact zEa rd (.inr ⟨rfl,l,rfl⟩)
    refine lA (lA (lA (kas_mapM (r:=Value.type "tuple") _ (λ v hv Q' hq=>(hT v hv).here hq) (lB ?_))))
    obtain⟨v1,vr,rfl⟩:∃v1 vr,vs=v1::vr:=by
     match vs,h2 with
     |v1::vr,_=>exact⟨v1,vr,rfl⟩
    have h0:(List.map (λ U=>Value.type "tuple") (v1::vr)).toArray[0]?=some (.type "tuple"):=by simp
    have hall2:((List.map (λ U=>Value.type "tuple") (v1::vr)).toArray.all λ x=>x == Value.type "tuple")=true:=by
     simp only[List.all_toArray,List.all_map,List.all_eq_true];intro _ _;show (Value.type "tuple" == Value.type "tuple")=true;decide
    rw[h0];simp only[hall2,if_true];exact lB (lB (h _ (.inr (.inl rfl))))
theorem zLj {κ:SortKind}{ds:List Dt}(hg:GoodK κ ds) {d e:Dt}(hd:d∈ds) (he:e∈ds) (htd:∃r,d = .tup r) (hte:∃r,e = .tup r) (n:Nat) (hn:d.deep<=n) (hc:Dt.cmp d e=true) {u y:Value}(rd:DA s.heap d u) (re:DA s.heap e y) (hu:A.units+n<cLine) {Q:Bool->Shared->Prop}(h:Q (Dt.lt d e) s) :
  wpAny (model prog w) A (keyLt' κ u y) Q E s:=by
 obtain⟨r1,rfl⟩:=htd;obtain⟨r2,rfl⟩:=hte;obtain⟨m,rfl⟩:∃m,n=m+1:=⟨n - 1,by rw[Dt.deep] at hn;omega⟩;rcases hg with rfl|rfl|rfl|⟨rfl,hs⟩
 ·exact zFs (zFn (m+1) A hn hc rd re hu) h
 ·cases rd with
  |tup ha ra=>cases re with
   |tup hb rb=>exact zFq ha hb m (by rw[Dt.deep] at hn;omega) (by rw[Dt.cmp] at hc;exact hc) ra rb hu (by rw[Dt.lt] at h;exact h)
 ·cases rd with
  |tup ha ra=>cases re with
   |tup hb rb =>
    obtain⟨o,ho,_,k,hd'⟩:=ha;obtain⟨o',ho',_,k',hd''⟩:=hb;have l1:=ra.length;have l2:=rb.length;exact kat_lt ho hd' ho' hd'' (zFr m hu 0 ra rb (by rw[Dt.deep] at hn;omega) (by rw[Dt.cmp] at hc;exact hc) (λ z=>by cases z) (by rw[l1,l2];simp) (by rw[Dt.lt] at h;exact h))
 ·cases rd with
  |tup ha ra=>cases re with
   |tup hb rb =>
    obtain⟨o,ho,_,k,hd'⟩:=ha;obtain⟨o',ho',_,k',hd''⟩:=hb;have l1:=ra.length;have l2:=rb.length;refine kat_lt ho hd' ho' hd'' (zFr m hu 0 ra rb (by rw[Dt.deep] at hn;omega) (by rw[Dt.cmp] at hc;exact hc) (λ U U d1 h1 e1 h2=>?_) (by rw[l1,l2];simp) (by rw[Dt.lt] at h;exact h));obtain⟨x,q,e3⟩:=hs _ hd;obtain⟨x',q',e4⟩:=hs _ he;injection e3 with e3
    injection e4 with e4
    subst e3 e4;simp at h1 h2;exact⟨x,x',h1.symm,h2.symm⟩
end
noncomputable def insD (d:Dt):List Dt->List Dt
 |[]=>[d]
 |e::es=>if Dt.lt e d=true then e::insD d es else d::e::es
noncomputable def sortD:List Dt->List Dt
 |[]=>[]
 |d::ds=>insD d (sortD ds)
def OrdD (ds:List Dt):Prop:=ds.Pairwise λ a b=>Dt.lt b a=false
theorem zDj (d:Dt):∀ds:List Dt,(insD d ds).Perm (d::ds)
 |[]=>.refl _
 |e::es=>by
  unfold insD;split
  ·exact((zDj d es).cons e).trans (.swap d e es)
  ·exact .refl _
theorem zAV:∀ds:List Dt,(sortD ds).Perm ds
 |[]=>.refl _
 |d::ds=>(zDj d _).trans ((zAV ds).cons d)
theorem zGY (d:Dt):∀{ds:List Dt},OrdD ds->OrdD (insD d ds)
 |[],_=>by unfold insD OrdD;exact List.pairwise_singleton _ _
 |e::es,h=>by
  unfold OrdD at h ⊢;obtain⟨h1,h2⟩:=List.pairwise_cons.mp h;unfold insD
  by_cases c:Dt.lt e d=true
  ·rw[if_pos c]
   refine List.pairwise_cons.mpr ⟨λ x hx=>?_,zGY d h2⟩;rcases lM.mp ((zDj d es).mem_iff.mp hx) with rfl|hx
   ·exact Dt.lt_asym c
   ·exact h1 x hx
  ·rw[if_neg c]
   have c':Dt.lt e d=false:=by simpa using c
   refine List.pairwise_cons.mpr ⟨λ x hx=>?_,h⟩;rcases lM.mp hx with rfl|hx
   ·exact c'
   ·exact Dt.lt_neg (h1 x hx) c'
theorem zCl:∀ds:List Dt,OrdD (sortD ds)
 |[]=>.nil
 |d::ds=>zGY d (zCl ds)
theorem zEA:∀{a b:List Dt},OrdD a->OrdD b->a.Perm b->a=b
 |[],b,_,_,p=>(List.nil_perm.mp p).symm
 |x::a,[],_,_,p=>absurd p.length_eq (by simp)
 |x::a,y::b,ha,hb,p=>by
  obtain⟨h1,h2⟩:=List.pairwise_cons.mp ha;obtain⟨k1,k2⟩:=List.pairwise_cons.mp hb
  have e:x=y:=by
   have m1:x∈y::b:=p.mem_iff.mp lN;have m2:y∈x::a:=p.mem_iff.mpr lN;rcases lM.mp m1 with e|m1
   ·exact e
   ·rcases lM.mp m2 with e|m2
    ·exact e.symm
    ·exact Dt.lt_tri (k1 x m1) (h1 y m2)
  subst e;rw[zEA h2 k2 (List.perm_cons x |>.mp p)]
theorem zGJ {a b:List Dt}(h:OrdD a) (p:a.Perm b):a=sortD b:=zEA h (zCl b) (p.trans (zAV b).symm)
theorem zCW {a b:List Dt}(p:a.Perm b):sortD a=sortD b:=zGJ (zCl a) ((zAV a).trans p)
noncomputable def zKu:Bool->Keyed->Array Keyed->Nat->Nat->Nat->StateT SortSt Sem (Option Nat):=sortPriv% PySem.Builtin.gallop
noncomputable def zI9:Array Keyed->Array Keyed->StateT SortSt Sem (Array Keyed):=sortPriv% PySem.Builtin.mergeLo
noncomputable def zJA:Array Keyed->Array Keyed->StateT SortSt Sem (Array Keyed):=sortPriv% PySem.Builtin.mergeHi
structure LtE (M:Model) (A:Around) (E:XQ) (s:Shared) (κ:SortKind) (G:Keyed->Prop) (R:Keyed->Keyed->Bool):Prop where
 lt:∀x y,G x->G y->∀(st:SortSt) (Q:Option Bool->SortSt->Prop),kindOf st=κ->Q (some (R x y)) st->wpS M A E s (lt' x y) Q st
 asym:∀x y,G x->G y->R x y=true->R y x=false
 tr:∀x y z,G x->G y->G z->R x y=false->R y z=false->R x z=false
section
variable {M:Model}{A:Around}{E:XQ}{s:Shared}{κ:SortKind}{G:Keyed->Prop}{R:Keyed->Keyed->Bool}
theorem zBx {n:String}{Q:Unit->SortSt->Prop}{st:SortSt}(h:Q () st):wpS M A E s (liftM (rule n):StateT SortSt Sem Unit) Q st:=wpS_lift (wpAny_rule ⟨rfl,h⟩)
theorem zAK {arr:Array Keyed}{i:Nat}{x:Keyed}{Q:Keyed->SortSt->Prop}{st:SortSt}(e:arr[i]?=some x) (h:Q x st):wpS M A E s (elem' arr i) Q st:=by
 rw[elem'_eq,e];exact wpS_pure h
noncomputable def byd (R:Keyed->Keyed->Bool) (left:Bool) (key x:Keyed):Bool:=if left=true then R x key else !R key x
theorem bey (L:LtE M A E s κ G R) {left:Bool}{key:Keyed}{arr:Array Keyed}{base n i:Nat}{f:Nat->Keyed}{st:SortSt}{Q:Option Bool->SortSt->Prop}(hk:kindOf st=κ) (gk:G key) (hf:∀i,i<n->arr[base+i]?=some (f i)) (gf:∀i,i<n->G (f i)) (hi:i<n) (h:Q (some (byd R left key (f i))) st) :
    wpS M A E s ((do let x ← elem' arr (base+i);if left=true then lt' x key else do let r ← lt' key x;pure (r.map (!·))):StateT SortSt Sem (Option Bool)) Q st:=by
  refine wpS_bind (zAK (hf i hi) ?_);unfold byd at h
  by_cases c:left=true
  · rw[if_pos c] at h ⊢
    exact L.lt _ _ (gf i hi) gk st Q hk h
  · rw[if_neg c] at h ⊢
    exact wpS_bind (L.lt _ _ gk (gf i hi) st _ hk (wpS_pure h))
theorem zAq (L:LtE M A E s κ G R) {left:Bool}{key:Keyed}{arr:Array Keyed}{base n hint:Nat}{f:Nat->Keyed}{st:SortSt}{Q:Option Nat->SortSt->Prop}(hk:kindOf st=κ) (gk:G key) (hf:∀i,i<n->arr[base+i]?=some (f i)) (gf:∀i,i<n->G (f i)) (hh:hint<n)
  (hmono:∀i j,i<=j->j<n->byd R left key (f j)=true->byd R left key (f i)=true)
  (h:∀k,k<=n->(∀i,i<k->byd R left key (f i)=true)->(∀i,k<=i->i<n->byd R left key (f i)=false)->Q (some k) st):wpS M A E s (zKu left key arr base n hint) Q st:=by
 refine wpS_bind (bey L hk gk hf gf hh ?_);dsimp only;cases hc:byd R left key (f hint) with
 |true =>
  rw[if_pos rfl];refine wpS_bind (wpS_mono (wpS_forRange (I:=λ i (c:Option (Option Nat) × Nat × Nat) st'=>st=st'/\c.1=none/\i+1<=c.2.2/\c.2.1<c.2.2/\hint+c.2.1<n/\byd R left key (f (hint+c.2.1))=true) (Q:=λ c st'=>st=st'/\c.1=none/\hint+c.2.1<n/\c.2.1<c.2.2/\byd R left key (f (hint+c.2.1))=true/\(n - hint<=c.2.2\/(hint+c.2.2<n/\byd R left key (f (hint+c.2.2))=false))) ?_ ?_ ⟨rfl,rfl,lP _,Nat.zero_lt_one,hh,hc⟩) ?_)
  ·rintro i ⟨r,la,o⟩ st' _ hin ⟨rfl,rfl,h1,h2,h3,h4⟩
   dsimp only at h1 h2 h3 h4 ⊢
   by_cases c:o ≥ n - hint
   ·rw[if_pos c]
    exact wpS_pure ⟨rfl,rfl,h3,h2,h4,.inl c⟩
   ·rw[if_neg c]
    refine wpS_bind (bey L hk gk hf gf (i:=hint+o) (by omega) ?_);dsimp only;cases hm:byd R left key (f (hint+o)) with
    |true=>exact wpS_pure ⟨rfl,rfl,(by dsimp only;omega),(by dsimp only;omega),(by dsimp only;omega),hm⟩
    |false=>exact wpS_pure ⟨rfl,rfl,h3,h2,h4,.inr ⟨by dsimp only;omega,hm⟩⟩
  ·rintro⟨r,la,o⟩ st' ⟨rfl,rfl,h1,h2,h3,h4⟩
   dsimp only at h1 h2 h3 h4 ⊢;exact⟨rfl,rfl,h3,h2,h4,.inl (by omega)⟩
  rintro⟨r,la,o⟩ st' ⟨rfl,rfl,h1,h2,h3,h4⟩;dsimp only at h1 h2 h3 h4 ⊢
  refine wpS_bind (wpS_forRange (I:=λ i (c:Option (Option Nat) × Nat × Nat) st'=>st=st'/\c.1=none/\c.2.1<=c.2.2/\c.2.2<=n/\c.2.2 - c.2.1<=n - i/\(∀j,j<c.2.1->byd R left key (f j)=true)/\(∀j,c.2.2<=j->j<n->byd R left key (f j)=false)) ?_ ?_ ⟨rfl,rfl,(by dsimp only;omega),(by dsimp only;omega),(by dsimp only;omega),(λ j hj=>hmono j _ (by dsimp only at hj;omega) h1 h3),(λ j hj hjn=>by
   dsimp only at hj;rcases h4 with h4|⟨h5,h6⟩
   ·omega
   ·cases z:byd R left key (f j) with
    |false=>rfl
    |true=>rw[hmono _ j (by omega) hjn z] at h6;cases h6)⟩)
  ·rintro i ⟨r,lo,hi⟩ st' _ hin ⟨rfl,rfl,hlh,hhn,hfu,hlo,hhi⟩
   dsimp only at hlh hhn hfu hlo hhi ⊢
   by_cases c:lo ≥ hi
   ·rw[if_pos c]
    refine wpS_pure ?_;have:lo=hi:=by omega
    subst this;exact wpS_pure (h lo hhn hlo hhi)
   ·rw[if_neg c]
    refine wpS_bind (bey L hk gk hf gf (i:=lo+(hi - lo) / 2) (by omega) ?_);dsimp only;cases hm:byd R left key (f (lo+(hi - lo) / 2)) with
    |true=>exact wpS_pure ⟨rfl,rfl,(by dsimp only;omega),hhn,(by dsimp only;omega),λ j hj=>hmono j _ (by dsimp only at hj;omega) (by omega) hm,hhi⟩
    |false=>exact wpS_pure ⟨rfl,rfl,(by dsimp only;omega),(by dsimp only;omega),(by dsimp only;omega),hlo,λ j hj hjn=>by
      cases z:byd R left key (f j) with
      |false=>rfl
      |true=>rw[hmono _ j hj hjn z] at hm;cases hm⟩
  ·rintro⟨r,lo,hi⟩ st' ⟨rfl,rfl,hlh,hhn,hfu,hlo,hhi⟩
   dsimp only at hlh hhn hfu hlo hhi ⊢;have:lo=hi:=by omega
   subst this;exact wpS_pure (h lo hhn hlo hhi)
 |false =>
  rw[if_neg (by simp)];refine wpS_bind (wpS_mono (wpS_forRange (I:=λ i (c:Option (Option Nat) × Nat × Nat) st'=>st=st'/\c.1=none/\i+1<=c.2.2/\c.2.1<c.2.2/\c.2.1<=hint/\byd R left key (f (hint - c.2.1))=false) (Q:=λ c st'=>st=st'/\c.1=none/\c.2.1<=hint/\c.2.1<c.2.2/\byd R left key (f (hint - c.2.1))=false/\(hint+1<=c.2.2\/(c.2.2<=hint/\byd R left key (f (hint - c.2.2))=true))) ?_ ?_ ⟨rfl,rfl,lP _,Nat.zero_lt_one,lX _,hc⟩) ?_)
  ·rintro i ⟨r,la,o⟩ st' _ hin ⟨rfl,rfl,h1,h2,h3,h4⟩
   dsimp only at h1 h2 h3 h4 ⊢
   by_cases c:o ≥ hint+1
   ·rw[if_pos c]
    exact wpS_pure ⟨rfl,rfl,h3,h2,h4,.inl c⟩
   ·rw[if_neg c]
    refine wpS_bind (bey L hk gk hf gf (i:=hint - o) (by omega) ?_);dsimp only;cases hm:byd R left key (f (hint - o)) with
    |false=>exact wpS_pure ⟨rfl,rfl,(by dsimp only;omega),(by dsimp only;omega),(by dsimp only;omega),hm⟩
    |true=>exact wpS_pure ⟨rfl,rfl,h3,h2,h4,.inr ⟨by dsimp only;omega,hm⟩⟩
  ·rintro⟨r,la,o⟩ st' ⟨rfl,rfl,h1,h2,h3,h4⟩
   dsimp only at h1 h2 h3 h4 ⊢;exact⟨rfl,rfl,h3,h2,h4,.inl (by omega)⟩
  rintro⟨r,la,o⟩ st' ⟨rfl,rfl,h1,h2,h3,h4⟩;dsimp only at h1 h2 h3 h4 ⊢
  refine wpS_bind (wpS_forRange (I:=λ i (c:Option (Option Nat) × Nat × Nat) st'=>st=st'/\c.1=none/\c.2.1<=c.2.2/\c.2.2<=n/\c.2.2 - c.2.1<=n - i/\(∀j,j<c.2.1->byd R left key (f j)=true)/\(∀j,c.2.2<=j->j<n->byd R left key (f j)=false)) ?_ ?_ ⟨rfl,rfl,(by dsimp only;omega),(by dsimp only;omega),(by dsimp only;omega),(λ j hj=>by
   dsimp only at hj;rcases h4 with h4|⟨h5,h6⟩
   ·omega
   ·exact hmono j _ (by omega) (by omega) h6),(λ j hj hjn=>by
   dsimp only at hj
   cases z:byd R left key (f j) with
    |false=>rfl
    |true=>rw[hmono _ j (by omega) hjn z] at h3;cases h3)⟩)
  ·rintro i ⟨r,lo,hi⟩ st' _ hin ⟨rfl,rfl,hlh,hhn,hfu,hlo,hhi⟩
   dsimp only at hlh hhn hfu hlo hhi ⊢
   by_cases c:lo ≥ hi
   ·rw[if_pos c]
    refine wpS_pure ?_;have:lo=hi:=by omega
    subst this;exact wpS_pure (h lo hhn hlo hhi)
   ·rw[if_neg c]
    refine wpS_bind (bey L hk gk hf gf (i:=lo+(hi - lo) / 2) (by omega) ?_);dsimp only;cases hm:byd R left key (f (lo+(hi - lo) / 2)) with
    |true=>exact wpS_pure ⟨rfl,rfl,(by dsimp only;omega),hhn,(by dsimp only;omega),λ j hj=>hmono j _ (by dsimp only at hj;omega) (by omega) hm,hhi⟩
    |false=>exact wpS_pure ⟨rfl,rfl,(by dsimp only;omega),(by dsimp only;omega),(by dsimp only;omega),hlo,λ j hj hjn=>by
      cases z:byd R left key (f j) with
      |false=>rfl
      |true=>rw[hmono _ j hj hjn z] at hm;cases hm⟩
  ·rintro⟨r,lo,hi⟩ st' ⟨rfl,rfl,hlh,hhn,hfu,hlo,hhi⟩
   dsimp only at hlh hhn hfu hlo hhi ⊢;have:lo=hi:=by omega
   subst this;exact wpS_pure (h lo hhn hlo hhi)
end
def OL (R:Keyed->Keyed->Bool) (l:List Keyed):Prop:=l.Pairwise λ x y=>R y x=false
structure MI (R:Keyed->Keyed->Bool) (A B o as bs:List Keyed):Prop where
 ord:OL R o
 le:∀x∈o,∀y,y∈as\/y∈bs->R y x=false
 perm:(o++(as++bs)).Perm (A++B)
 sa:OL R as
 sb:OL R bs
section
variable {R:Keyed->Keyed->Bool}{A B o as bs p:List Keyed}
theorem MI.a (h:MI R A B o (p++as) bs) (hp:∀x∈p,∀y∈bs,R y x=false):MI R A B (o++p) as bs:=by
 obtain⟨s1,s2,s3⟩:=List.pairwise_append.mp h.sa;refine⟨List.pairwise_append.mpr ⟨h.ord,s1,λ x hx y hy=>h.le x hx y (.inl (mJ _ hy))⟩,λ x hx y hy=>?_,?_,s2,h.sb⟩
 ·rcases lK.mp hx with hx|hx
  ·exact h.le x hx y (hy.imp (lZ _) id)
  ·rcases hy with hy|hy
   ·exact s3 x hx y hy
   ·exact hp x hx y hy
 ·have e:o++p++(as++bs)=o++(p++as++bs):=by simp[mZ]
  rw[e];exact h.perm
theorem MI.b (h:MI R A B o as (p++bs)) (hp:∀x∈p,∀y∈as,R y x=false):MI R A B (o++p) as bs:=by
 obtain⟨s1,s2,s3⟩:=List.pairwise_append.mp h.sb;refine⟨List.pairwise_append.mpr ⟨h.ord,s1,λ x hx y hy=>h.le x hx y (.inr (mJ _ hy))⟩,λ x hx y hy=>?_,?_,h.sa,s2⟩
 ·rcases lK.mp hx with hx|hx
  ·exact h.le x hx y (hy.imp id (lZ _))
  ·rcases hy with hy|hy
   ·exact hp x hx y hy
   ·exact s3 x hx y hy
 ·refine List.Perm.trans ?_ h.perm
  rw[mZ];refine List.Perm.append_left _ ?_;rw[←mZ,←mZ];exact List.Perm.append_right _ List.perm_append_comm
theorem MI.fin (h:MI R A B o as bs) (hp:∀x∈as,∀y∈bs,R y x=false):OL R (o++as++bs)/\(o++as++bs).Perm (A++B):=by
 rw[mZ];refine⟨List.pairwise_append.mpr ⟨h.ord,List.pairwise_append.mpr ⟨h.sa,h.sb,hp⟩,λ x hx y hy=>h.le x hx y (lK.mp hy)⟩,h.perm⟩
theorem MI.fin2 (h:MI R A B o as bs) (hp:∀x∈bs,∀y∈as,R y x=false):OL R (o++bs++as)/\(o++bs++as).Perm (A++B):=by
 rw[mZ];refine⟨List.pairwise_append.mpr ⟨h.ord,List.pairwise_append.mpr ⟨h.sb,h.sa,hp⟩,λ x hx y hy=>h.le x hx y (lK.mp hy).symm⟩,?_⟩;exact(List.Perm.append_left _ List.perm_append_comm).trans h.perm
end
abbrev setG (st:SortSt) (g:Nat):SortSt:=SortSt.mk' (kindOf st) (arrOf st) (pendingOf st) g (failedOf st)
section
variable {M:Model}{A:Around}{E:XQ}{s:Shared}{κ:SortKind}{G:Keyed->Prop}{R:Keyed->Keyed->Bool}
abbrev d0:Keyed:=(.none,.none)
theorem zGa (a:Array Keyed) (i:Nat):(a.extract i).toList=a.toList.drop i:=by
 rw[Array.toList_extract,List.extract_eq_take_drop];exact mV (by simp)
theorem ex_k (a:Array Keyed) (i k:Nat):(a.extract i (i+k)).toList=(a.toList.drop i).take k:=by
 rw[Array.toList_extract,List.extract_eq_take_drop,Nat.add_sub_cancel_left]
theorem zIL {a:Array Keyed}{i:Nat}(h:i<a.size):a.toList.drop i=a.getD i d0::a.toList.drop (i+1):=by
 rw[List.drop_eq_getElem_cons (by simpa using h)];congr 1;simp[Array.getD,h]
theorem zAQ {a:Array Keyed}{i:Nat}(h:i<a.size):a[i]?=some (a.getD i d0):=by simp[Array.getD,h]
theorem zAT {a:Array Keyed}{i:Nat}(h:i<a.size):a.getD i d0∈a.toList:=by
 have:a.getD i d0=a[i]:=by simp[Array.getD,h]
 rw[this];simp
theorem zBP {a:Array Keyed}{i:Nat}{x:Keyed}(h:x∈a.toList.drop i):∃j,i<=j/\j<a.size/\x=a.getD j d0:=by
 obtain⟨j,hj,e⟩:=List.getElem_of_mem h;rw[mX] at hj;have hj':i+j<a.size:=by simp at hj;omega
 refine⟨i+j,by omega,hj',?_⟩;rw[←e,List.getElem_drop];simp[Array.getD,hj']
theorem zGW {a:Array Keyed}{i k:Nat}{x:Keyed}(h:x∈(a.toList.drop i).take k):∃j,j<k/\i+j<a.size/\x=a.getD (i+j) d0:=by
 obtain⟨j,hj,e⟩:=List.getElem_of_mem h;rw[mO,mX] at hj;have hj':i+j<a.size:=by simp at hj;omega
 refine⟨j,by omega,hj',?_⟩;rw[←e,List.getElem_take,List.getElem_drop];simp[Array.getD,hj']
theorem ol_at {a:Array Keyed}(h:OL R a.toList) {i j:Nat}(hij:i<j) (hj:j<a.size):R (a.getD j d0) (a.getD i d0)=false:=by
 have:=List.pairwise_iff_getElem.mp h i j (by simp;omega) (by simpa using hj) hij;simpa[Array.getD,hj,show i<a.size by omega] using this
theorem zFA (L:LtE M A E s κ G R) {key:Keyed}{f:Nat->Keyed}{n:Nat}(gk:G key) (gf:∀i,i<n->G (f i)) (sg:∀i j,i<j->j<n->R (f j) (f i)=false):∀i j,i<=j->j<n->byd R false key (f j)=true->byd R false key (f i)=true:=λ i j hij hj h=>by
 by_cases e:i=j
 ·rw[e];exact h
 ·simp[byd] at h ⊢
  exact L.tr _ _ _ gk (gf j hj) (gf i (by omega)) h (sg i j (by omega) hj)
theorem zCq (L:LtE M A E s κ G R) {key:Keyed}{f:Nat->Keyed}{n:Nat}(gk:G key) (gf:∀i,i<n->G (f i)) (sg:∀i j,i<j->j<n->R (f j) (f i)=false):∀i j,i<=j->j<n->byd R true key (f j)=true->byd R true key (f i)=true:=λ i j hij hj h=>by
 by_cases e:i=j
 ·rw[e];exact h
 ·simp[byd] at h ⊢
  cases z:R (f i) key with
  |true=>rfl
  |false=>rw[L.tr _ _ _ (gf j hj) (gf i (by omega)) gk (sg i j (by omega) hj) z] at h;cases h
structure ML (R:Keyed->Keyed->Bool) (G:Keyed->Prop) (a b:Array Keyed):Prop where
 ga:∀x∈a.toList,G x
 gb:∀x∈b.toList,G x
 oa:OL R a.toList
 ob:OL R b.toList
section
variable {a b o:Array Keyed}{ia ib k:Nat}
abbrev MA (R:Keyed->Keyed->Bool) (a b o:Array Keyed) (ia ib:Nat):Prop:=MI R a.toList b.toList o.toList (a.toList.drop ia) (b.toList.drop ib)
theorem ML.ga_at (m:ML R G a b) {i:Nat}(h:i<a.size):G (a.getD i d0):=m.ga _ (zAT h)
theorem ML.gb_at (m:ML R G a b) {i:Nat}(h:i<b.size):G (b.getD i d0):=m.gb _ (zAT h)
theorem ML.a_le (L:LtE M A E s κ G R) (m:ML R G a b) {i j:Nat}(hij:i<=j) (hj:j<a.size):R (a.getD j d0) (a.getD i d0)=false:=by
 by_cases e:i=j
 ·subst e
  cases z:R (a.getD i d0) (a.getD i d0) with
  |false=>rfl
  |true=>have:=L.asym _ _ (m.ga_at hj) (m.ga_at hj) z;rw[z] at this;cases this
 ·exact ol_at m.oa (by omega) hj
theorem ML.b_le (L:LtE M A E s κ G R) (m:ML R G a b) {i j:Nat}(hij:i<=j) (hj:j<b.size):R (b.getD j d0) (b.getD i d0)=false:=by
 by_cases e:i=j
 ·subst e
  cases z:R (b.getD i d0) (b.getD i d0) with
  |false=>rfl
  |true=>have:=L.asym _ _ (m.gb_at hj) (m.gb_at hj) z;rw[z] at this;cases this
 ·exact ol_at m.ob (by omega) hj
theorem MA.pb (h:MA R a b o ia ib) (hb:ib<b.size) (hp:∀j,ia<=j->j<a.size->R (a.getD j d0) (b.getD ib d0)=false):MA R a b (o.push (b.getD ib d0)) ia (ib+1):=by
 unfold MA at h ⊢;rw[zIL hb] at h;rw[Array.toList_push];refine MI.b (p:=[b.getD ib d0]) h λ x hx y hy=>?_;rw[mR] at hx;subst hx;obtain⟨j,h1,h2,rfl⟩:=zBP hy;exact hp j h1 h2
theorem MA.pa (h:MA R a b o ia ib) (ha:ia<a.size) (hp:∀j,ib<=j->j<b.size->R (b.getD j d0) (a.getD ia d0)=false):MA R a b (o.push (a.getD ia d0)) (ia+1) ib:=by
 unfold MA at h ⊢;rw[zIL ha] at h;rw[Array.toList_push];refine MI.a (p:=[a.getD ia d0]) h λ x hx y hy=>?_;rw[mR] at hx;subst hx;obtain⟨j,h1,h2,rfl⟩:=zBP hy;exact hp j h1 h2
theorem MA.ka (h:MA R a b o ia ib) (hp:∀i,i<k->ia+i<a.size->∀j,ib<=j->j<b.size->R (b.getD j d0) (a.getD (ia+i) d0)=false):MA R a b (o++a.extract ia (ia+k)) (ia+k) ib:=by
 unfold MA at h ⊢;rw[Array.toList_append,ex_k];refine MI.a (p:=(a.toList.drop ia).take k) (by rw[←List.drop_drop,List.take_append_drop];exact h) λ x hx y hy=>?_;obtain⟨i,i1,i2,rfl⟩:=zGW hx;obtain⟨j,h1,h2,rfl⟩:=zBP hy;exact hp i i1 i2 j h1 h2
theorem MA.kb (h:MA R a b o ia ib) (hp:∀i,i<k->ib+i<b.size->∀j,ia<=j->j<a.size->R (a.getD j d0) (b.getD (ib+i) d0)=false):MA R a b (o++b.extract ib (ib+k)) ia (ib+k):=by
 unfold MA at h ⊢;rw[Array.toList_append,ex_k];refine MI.b (p:=(b.toList.drop ib).take k) (by rw[←List.drop_drop,List.take_append_drop];exact h) λ x hx y hy=>?_;obtain⟨i,i1,i2,rfl⟩:=zGW hx;obtain⟨j,h1,h2,rfl⟩:=zBP hy;exact hp i i1 i2 j h1 h2
abbrev Mgd (R:Keyed->Keyed->Bool) (a b x:Array Keyed):Prop:=OL R x.toList/\x.toList.Perm (a.toList++b.toList)
theorem MA.done (h:MA R a b o ia ib) (hd:a.size<=ia\/b.size<=ib):Mgd R a b (o++a.extract ia++b.extract ib):=by
 unfold Mgd;rw[Array.toList_append,Array.toList_append,zGa,zGa];refine MI.fin h λ x hx y hy=>?_;obtain⟨i,i1,i2,_⟩:=zBP hx;obtain⟨j,j1,j2,_⟩:=zBP hy;omega
theorem MA.last (h:MA R a b o ia ib) (hl:∀j,ib<=j->j<b.size->∀i,ia<=i->i<a.size->R (a.getD i d0) (b.getD j d0)=false):Mgd R a b (o++b.extract ib++a.extract ia):=by
 unfold Mgd;rw[Array.toList_append,Array.toList_append,zGa,zGa];refine MI.fin2 h λ x hx y hy=>?_;obtain⟨j,j1,j2,rfl⟩:=zBP hx;obtain⟨i,i1,i2,rfl⟩:=zBP hy;exact hl j j1 j2 i i1 i2
end
end
noncomputable def zJy:Nat->StateT SortSt Sem Unit:=sortPriv% PySem.Builtin.setMinGallop
section
variable {M:Model}{A:Around}{E:XQ}{s:Shared}{κ:SortKind}{G:Keyed->Prop}{R:Keyed->Keyed->Bool}
theorem zBa {g:Nat}{Q:Unit->SortSt->Prop}{st:SortSt}(h:Q () (setG st g)):wpS M A E s (zJy g) Q st:=wpS_modify h
theorem zGx (L:LtE M A E s κ G R) {a b:Array Keyed}{st:SortSt}{Q:Array Keyed->SortSt->Prop}(hk:kindOf st=κ) (m:ML R G a b) (ha:0<a.size) (hb:0<b.size)
  (h0:∀i,i<a.size->R (a.getD i d0) (b.getD 0 d0)=false) (hl:∀j,j<b.size->R (a.getD (a.size - 1) d0) (b.getD j d0)=false)
  (h:∀out g,Mgd R a b out->Q out (setG st g)):wpS M A E s (zI9 a b) Q st:=by
 have start:MA R a b #[b.getD 0 d0] 0 1:=by
  have z:MA R a b #[] 0 0:=⟨List.Pairwise.nil,(λ x hx=>nomatch hx),by simp,by simpa using m.oa,by simpa using m.ob⟩
  have:=z.pb hb λ j U hj=>h0 j hj;simpa using this
 have hlast:∀{o:Array Keyed}{ia ib:Nat},MA R a b o ia ib->ia+1=a.size->Mgd R a b (o++b.extract ib++a.extract ia):=λ{o ia ib} h e=>h.last λ j U hj i hi1 hi2=>by
  have:i=a.size - 1:=by omega
  rw[this];exact hl j hj
 refine wpS_bind (zBx ?_);refine wpS_bind (zAK (zAQ hb) ?_);dsimp only
 by_cases c1:(1 == b.size)=true
 ·rw[if_pos c1]
  exact wpS_pure (h _ (gallopOf st) (start.done (.inr (by have:=eq_of_beq c1;omega))))
 ·rw[if_neg c1]
  have c1':1<b.size:=by
   have:¬1=b.size:=by simpa using c1
   omega
  by_cases c2:(0+1 == a.size)=true
  ·rw[if_pos c2]
   exact wpS_pure (h _ (gallopOf st) (hlast start (by simpa using c2)))
  ·rw[if_neg c2]
   have c2':1<a.size:=by
    have:¬1=a.size:=by simpa using c2
    omega
   refine wpS_bind (wpS_get ?_)
   refine wpS_bind (wpS_mono (wpS_forRange (I:=λ i (c:Option (Array Keyed) × Array Keyed × Nat × Nat × Nat) st'=>(∃g,st'=setG st g)/\c.1=none/\MA R a b c.2.1 c.2.2.1 c.2.2.2.1/\c.2.2.1+1<a.size/\c.2.2.2.1<b.size/\i+1<=c.2.2.1+c.2.2.2.1)
    (Q:=λ c st'=>(∃g,st'=setG st g)/\∃X,c.1=some X/\Mgd R a b X) ?_ ?_ ⟨⟨gallopOf st,rfl⟩,rfl,start,c2',c1',lP _⟩) ?_)
   ·rintro i ⟨r,o,ia,ib,mg⟩ st1 _ hin ⟨⟨g,rfl⟩,rfl,hm,hia,hib,hcnt⟩
    dsimp only at hm hia hib hcnt ⊢
    refine wpS_bind (wpS_mono (wpS_forRange (I:=λ i (d:Option (Array Keyed) × Array Keyed × Nat × Nat × Nat × Nat) st'=>(∃g,st'=setG st g)/\d.1=none/\MA R a b d.2.1 d.2.2.1 d.2.2.2.1/\d.2.2.1+1<a.size/\d.2.2.2.1<b.size/\ia+ib+i<=d.2.2.1+d.2.2.2.1)
     (Q:=λ d st'=>(∃g,st'=setG st g)/\((∃X,d.1=some X/\Mgd R a b X)\/(d.1=none/\MA R a b d.2.1 d.2.2.1 d.2.2.2.1/\d.2.2.1+1<a.size/\d.2.2.2.1<b.size/\ia+ib+1<=d.2.2.1+d.2.2.2.1))) ?_ ?_ ⟨⟨g,rfl⟩,rfl,hm,hia,hib,lP _⟩) ?_)
    ·rintro i2 ⟨r,o,ja,jb,ac,bc⟩ st2 _ hin2 ⟨⟨g,rfl⟩,rfl,hm,hja,hjb,hcn⟩
     dsimp only at hm hja hjb hcn ⊢;refine wpS_bind (zAK (zAQ hjb) (wpS_bind (zAK (zAQ (show ja<a.size by omega)) ?_)));refine wpS_bind (L.lt _ _ (m.gb_at hjb) (m.ga_at (by omega)) _ _ hk ?_);dsimp only
     by_cases c:R (b.getD jb d0) (a.getD ja d0)=true
     ·rw[if_pos c]
      refine wpS_bind (zAK (zAQ hjb) ?_);have hm2:=hm.pb hjb λ j h1 h2=>L.tr _ _ _ (m.ga_at h2) (m.ga_at (by omega)) (m.gb_at hjb) (m.a_le L h1 h2) (L.asym _ _ (m.gb_at hjb) (m.ga_at (by omega)) c)
      by_cases e:(jb+1 == b.size)=true
      ·rw[if_pos e]
       exact wpS_pure ⟨⟨g,rfl⟩,.inl ⟨_,rfl,hm2.done (.inr (by have:=eq_of_beq e;omega))⟩⟩
      ·rw[if_neg e]
       have e':jb+1<b.size:=by
        have:¬jb+1=b.size:=by simpa using e
        omega
       by_cases f:bc+1 ≥ mg
       ·rw[if_pos f]
        exact wpS_pure ⟨⟨g,rfl⟩,.inr ⟨rfl,hm2,hja,e',by dsimp only;omega⟩⟩
       ·rw[if_neg f]
        exact wpS_pure ⟨⟨g,rfl⟩,rfl,hm2,hja,e',by dsimp only;omega⟩
     ·rw[if_neg c]
      have c':R (b.getD jb d0) (a.getD ja d0)=false:=by simpa using c
      refine wpS_bind (zAK (zAQ (show ja<a.size by omega)) ?_);have hm2:=hm.pa (show ja<a.size by omega) λ j h1 h2=>L.tr _ _ _ (m.gb_at h2) (m.gb_at hjb) (m.ga_at (by omega)) (m.b_le L h1 h2) c'
      by_cases e:(ja+1+1 == a.size)=true
      ·rw[if_pos e]
       exact wpS_pure ⟨⟨g,rfl⟩,.inl ⟨_,rfl,hlast hm2 (eq_of_beq e)⟩⟩
      ·rw[if_neg e]
       have e':ja+1+1<a.size:=by
        have:¬ja+1+1=a.size:=by simpa using e
        omega
       by_cases f:ac+1 ≥ mg
       ·rw[if_pos f]
        exact wpS_pure ⟨⟨g,rfl⟩,.inr ⟨rfl,hm2,e',hjb,by dsimp only;omega⟩⟩
       ·rw[if_neg f]
        exact wpS_pure ⟨⟨g,rfl⟩,rfl,hm2,e',hjb,by dsimp only;omega⟩
    ·rintro⟨r,o,ja,jb,ac,bc⟩ st2 ⟨⟨g,rfl⟩,rfl,hm,hja,hjb,hcn⟩
     dsimp only at hm hja hjb hcn;exfalso;omega
    rintro⟨r,o,ja,jb,ac,bc⟩ st2 ⟨⟨g,rfl⟩,hres⟩;rcases hres with ⟨X,hX,hM⟩|⟨hX,hm,hja,hjb,hcn⟩
    ·dsimp only at hX
     subst hX;exact wpS_pure ⟨⟨g,rfl⟩,X,rfl,hM⟩
    ·dsimp only at hX hm hja hjb hcn ⊢
     subst hX;dsimp only;refine wpS_bind (zBx ?_)
     refine wpS_bind (wpS_mono (wpS_forRange (I:=λ i (d:Option (Array Keyed) × Array Keyed × Nat × Nat × Nat × Nat × Nat) st'=>(∃g,st'=setG st g)/\d.1=none/\MA R a b d.2.1 d.2.2.1 d.2.2.2.1/\d.2.2.1+1<a.size/\d.2.2.2.1<b.size/\ja+jb+i<=d.2.2.1+d.2.2.2.1)
      (Q:=λ d st'=>(∃g,st'=setG st g)/\((∃X,d.1=some X/\Mgd R a b X)\/(d.1=none/\MA R a b d.2.1 d.2.2.1 d.2.2.2.1/\d.2.2.1+1<a.size/\d.2.2.2.1<b.size/\ja+jb<=d.2.2.1+d.2.2.2.1))) ?_ ?_ ⟨⟨g,rfl⟩,rfl,hm,hja,hjb,lP _⟩) ?_)
     ·rintro i2 ⟨r,o,ka,kb,mg2,ac2,bc2⟩ st3 _ hin2 ⟨⟨g,rfl⟩,rfl,hm,hka,hkb,hcn2⟩
      dsimp only at hm hka hkb hcn2 ⊢
      by_cases cg:mg2 > 1
      ·rw[if_pos cg]
       refine wpS_bind (zBa ?_);refine wpS_bind (zAK (zAQ hkb) ?_);refine wpS_bind (zAq L (left:=false) (f:=λ i=>a.getD (ka+i) d0) hk (m.gb_at hkb) (λ i hi=>zAQ (by omega)) (λ i hi=>m.ga_at (by omega)) (by omega) (zFA L (m.gb_at hkb) (λ i hi=>m.ga_at (by omega)) (λ i j hij hj=>m.a_le L (by omega) (by omega))) λ k hkn hk1 hk2=>?_);dsimp only;have le1:∀i,i<k->∀j,kb<=j->j<b.size->R (b.getD j d0) (a.getD (ka+i) d0)=false:=λ i hi j h1 h2=>L.tr _ _ _ (m.gb_at h2) (m.gb_at hkb) (m.ga_at (by omega)) (m.b_le L h1 h2) (by have:=hk1 i hi;simpa[byd] using this);have gt1:∀j,ka+k<=j->j<a.size->R (a.getD j d0) (b.getD kb d0)=false:=λ j h1 h2=>L.asym _ _ (m.gb_at hkb) (m.ga_at h2) (by have:=hk2 (j - ka) (by omega) (by omega);simpa[byd,show ka+(j - ka)=j by omega] using this)
       by_cases ck:k > 0
       ·rw[if_pos ck]
        have hm1:=hm.ka (k:=k) λ i hi U j h1 h2=>le1 i hi j h1 h2
        by_cases e:(ka+k+1 == a.size)=true
        ·rw[if_pos e]
         exact wpS_pure ⟨⟨_,rfl⟩,.inl ⟨_,rfl,hlast hm1 (eq_of_beq e)⟩⟩
        ·rw[if_neg e]
         have e':¬ka+k+1=a.size:=by simpa using e
         by_cases e2:(ka+k == a.size)=true
         ·rw[if_pos e2]
          exact wpS_pure ⟨⟨_,rfl⟩,.inl ⟨_,rfl,hm1.done (.inl (by have:=eq_of_beq e2;omega))⟩⟩
         ·rw[if_neg e2]
          have e2':¬ka+k=a.size:=by simpa using e2
          refine wpS_bind (zAK (zAQ hkb) ?_);have hm3:=hm1.pb hkb λ j h1 h2=>gt1 j (by omega) h2
          by_cases e3:(kb+1 == b.size)=true
          ·rw[if_pos e3]
           exact wpS_pure ⟨⟨_,rfl⟩,.inl ⟨_,rfl,hm3.done (.inr (by have:=eq_of_beq e3;omega))⟩⟩
          ·rw[if_neg e3]
           have e3':¬kb+1=b.size:=by simpa using e3
           refine wpS_bind (zAK (zAQ (show ka+k<a.size by omega)) ?_);refine wpS_bind (zAq L (left:=true) (f:=λ i=>b.getD (kb+1+i) d0) hk (m.ga_at (by omega)) (λ i hi=>zAQ (by omega)) (λ i hi=>m.gb_at (by omega)) (by omega) (zCq L (m.ga_at (by omega)) (λ i hi=>m.gb_at (by omega)) (λ i j hij hj=>m.b_le L (by omega) (by omega))) λ k1 hk1n hk11 hk12=>?_);dsimp only;have le2:∀i,i<k1->kb+1+i<b.size->∀j,ka+k<=j->j<a.size->R (a.getD j d0) (b.getD (kb+1+i) d0)=false:=λ i hi hib j h1 h2=>L.tr _ _ _ (m.ga_at h2) (m.ga_at (by omega)) (m.gb_at hib) (m.a_le L h1 h2) (L.asym _ _ (m.gb_at hib) (m.ga_at (by omega)) (by have:=hk11 i hi;simpa[byd] using this));have gt2:∀j,kb+1+k1<=j->j<b.size->R (b.getD j d0) (a.getD (ka+k) d0)=false:=λ j h1 h2=>by have:=hk12 (j - (kb+1)) (by omega) (by omega);simpa[byd,show kb+1+(j - (kb+1))=j by omega] using this
           by_cases ck1:k1 > 0
           ·rw[if_pos ck1]
            have hm4:=hm3.kb (k:=k1) λ i hi hib j h1 h2=>le2 i hi hib j h1 h2
            by_cases e4:(kb+1+k1 == b.size)=true
            ·rw[if_pos e4]
             exact wpS_pure ⟨⟨_,rfl⟩,.inl ⟨_,rfl,hm4.done (.inr (by have:=eq_of_beq e4;omega))⟩⟩
            ·rw[if_neg e4]
             have e4':¬kb+1+k1=b.size:=by simpa using e4
             refine wpS_bind (zAK (zAQ (show ka+k<a.size by omega)) ?_);have hm5:=hm4.pa (show ka+k<a.size by omega) λ j h1 h2=>gt2 j (by omega) h2
             by_cases e5:(ka+k+1+1 == a.size)=true
             ·rw[if_pos e5]
              exact wpS_pure ⟨⟨_,rfl⟩,.inl ⟨_,rfl,hlast hm5 (eq_of_beq e5)⟩⟩
             ·rw[if_neg e5]
              have e5':¬ka+k+1+1=a.size:=by simpa using e5
              by_cases f:(decide (k<7) && decide (k1<7))=true
              ·rw[if_pos f]
               exact wpS_pure ⟨⟨_,rfl⟩,.inr ⟨rfl,hm5,(by dsimp only;omega),(by dsimp only;omega),by dsimp only;omega⟩⟩
              ·rw[if_neg f]
               exact wpS_pure ⟨⟨_,rfl⟩,rfl,hm5,(by dsimp only;omega),(by dsimp only;omega),by dsimp only;omega⟩
           ·rw[if_neg ck1]
            have:k1=0:=by omega
            subst this;refine wpS_bind (zAK (zAQ (show ka+k<a.size by omega)) ?_);have hm5:=hm3.pa (show ka+k<a.size by omega) λ j h1 h2=>gt2 j (by omega) h2
            by_cases e5:(ka+k+1+1 == a.size)=true
            ·rw[if_pos e5]
             exact wpS_pure ⟨⟨_,rfl⟩,.inl ⟨_,rfl,hlast hm5 (eq_of_beq e5)⟩⟩
            ·rw[if_neg e5]
             have e5':¬ka+k+1+1=a.size:=by simpa using e5
             by_cases f:(decide (k<7) && decide (0<7))=true
             ·rw[if_pos f]
              exact wpS_pure ⟨⟨_,rfl⟩,.inr ⟨rfl,hm5,(by dsimp only;omega),(by dsimp only;omega),by dsimp only;omega⟩⟩
             ·rw[if_neg f]
              exact wpS_pure ⟨⟨_,rfl⟩,rfl,hm5,(by dsimp only;omega),(by dsimp only;omega),by dsimp only;omega⟩
       ·rw[if_neg ck]
        have:k=0:=by omega
        subst this;have hm1:=hm;refine wpS_bind (zAK (zAQ hkb) ?_);have hm3:=hm1.pb hkb λ j h1 h2=>gt1 j (by omega) h2
        by_cases e3:(kb+1 == b.size)=true
        ·rw[if_pos e3]
         exact wpS_pure ⟨⟨_,rfl⟩,.inl ⟨_,rfl,hm3.done (.inr (by have:=eq_of_beq e3;omega))⟩⟩
        ·rw[if_neg e3]
         have e3':¬kb+1=b.size:=by simpa using e3
         refine wpS_bind (zAK (zAQ (show ka<a.size by omega)) ?_);refine wpS_bind (zAq L (left:=true) (f:=λ i=>b.getD (kb+1+i) d0) hk (m.ga_at (by omega)) (λ i hi=>zAQ (by omega)) (λ i hi=>m.gb_at (by omega)) (by omega) (zCq L (m.ga_at (by omega)) (λ i hi=>m.gb_at (by omega)) (λ i j hij hj=>m.b_le L (by omega) (by omega))) λ k1 hk1n hk11 hk12=>?_);dsimp only;have le2:∀i,i<k1->kb+1+i<b.size->∀j,ka<=j->j<a.size->R (a.getD j d0) (b.getD (kb+1+i) d0)=false:=λ i hi hib j h1 h2=>L.tr _ _ _ (m.ga_at h2) (m.ga_at (by omega)) (m.gb_at hib) (m.a_le L h1 h2) (L.asym _ _ (m.gb_at hib) (m.ga_at (by omega)) (by have:=hk11 i hi;simpa[byd] using this));have gt2:∀j,kb+1+k1<=j->j<b.size->R (b.getD j d0) (a.getD (ka) d0)=false:=λ j h1 h2=>by have:=hk12 (j - (kb+1)) (by omega) (by omega);simpa[byd,show kb+1+(j - (kb+1))=j by omega] using this
         by_cases ck1:k1 > 0
         ·rw[if_pos ck1]
          have hm4:=hm3.kb (k:=k1) λ i hi hib j h1 h2=>le2 i hi hib j h1 h2
          by_cases e4:(kb+1+k1 == b.size)=true
          ·rw[if_pos e4]
           exact wpS_pure ⟨⟨_,rfl⟩,.inl ⟨_,rfl,hm4.done (.inr (by have:=eq_of_beq e4;omega))⟩⟩
          ·rw[if_neg e4]
           have e4':¬kb+1+k1=b.size:=by simpa using e4
           refine wpS_bind (zAK (zAQ (show ka<a.size by omega)) ?_);have hm5:=hm4.pa (show ka<a.size by omega) λ j h1 h2=>gt2 j (by omega) h2
           by_cases e5:(ka+1+1 == a.size)=true
           ·rw[if_pos e5]
            exact wpS_pure ⟨⟨_,rfl⟩,.inl ⟨_,rfl,hlast hm5 (eq_of_beq e5)⟩⟩
           ·rw[if_neg e5]
            have e5':¬ka+1+1=a.size:=by simpa using e5
            by_cases f:(decide (0<7) && decide (k1<7))=true
            ·rw[if_pos f]
             exact wpS_pure ⟨⟨_,rfl⟩,.inr ⟨rfl,hm5,(by dsimp only;omega),(by dsimp only;omega),by dsimp only;omega⟩⟩
            ·rw[if_neg f]
             exact wpS_pure ⟨⟨_,rfl⟩,rfl,hm5,(by dsimp only;omega),(by dsimp only;omega),by dsimp only;omega⟩
         ·rw[if_neg ck1]
          have:k1=0:=by omega
          subst this;refine wpS_bind (zAK (zAQ (show ka<a.size by omega)) ?_);have hm5:=hm3.pa (show ka<a.size by omega) λ j h1 h2=>gt2 j (by omega) h2
          by_cases e5:(ka+1+1 == a.size)=true
          ·rw[if_pos e5]
           exact wpS_pure ⟨⟨_,rfl⟩,.inl ⟨_,rfl,hlast hm5 (eq_of_beq e5)⟩⟩
          ·rw[if_neg e5]
           have e5':¬ka+1+1=a.size:=by simpa using e5
           by_cases f:(decide (0<7) && decide (0<7))=true
           ·rw[if_pos f]
            exact wpS_pure ⟨⟨_,rfl⟩,.inr ⟨rfl,hm5,(by dsimp only;omega),(by dsimp only;omega),by dsimp only;omega⟩⟩
           ·rw[if_neg f]
            exact wpS_pure ⟨⟨_,rfl⟩,rfl,hm5,(by dsimp only;omega),(by dsimp only;omega),by dsimp only;omega⟩
      ·rw[if_neg cg]
       refine wpS_bind (zBa ?_);refine wpS_bind (zAK (zAQ hkb) ?_);refine wpS_bind (zAq L (left:=false) (f:=λ i=>a.getD (ka+i) d0) hk (m.gb_at hkb) (λ i hi=>zAQ (by omega)) (λ i hi=>m.ga_at (by omega)) (by omega) (zFA L (m.gb_at hkb) (λ i hi=>m.ga_at (by omega)) (λ i j hij hj=>m.a_le L (by omega) (by omega))) λ k hkn hk1 hk2=>?_);dsimp only;have le1:∀i,i<k->∀j,kb<=j->j<b.size->R (b.getD j d0) (a.getD (ka+i) d0)=false:=λ i hi j h1 h2=>L.tr _ _ _ (m.gb_at h2) (m.gb_at hkb) (m.ga_at (by omega)) (m.b_le L h1 h2) (by have:=hk1 i hi;simpa[byd] using this);have gt1:∀j,ka+k<=j->j<a.size->R (a.getD j d0) (b.getD kb d0)=false:=λ j h1 h2=>L.asym _ _ (m.gb_at hkb) (m.ga_at h2) (by have:=hk2 (j - ka) (by omega) (by omega);simpa[byd,show ka+(j - ka)=j by omega] using this)
       by_cases ck:k > 0
       ·rw[if_pos ck]
        have hm1:=hm.ka (k:=k) λ i hi U j h1 h2=>le1 i hi j h1 h2
        by_cases e:(ka+k+1 == a.size)=true
        ·rw[if_pos e]
         exact wpS_pure ⟨⟨_,rfl⟩,.inl ⟨_,rfl,hlast hm1 (eq_of_beq e)⟩⟩
        ·rw[if_neg e]
         have e':¬ka+k+1=a.size:=by simpa using e
         by_cases e2:(ka+k == a.size)=true
         ·rw[if_pos e2]
          exact wpS_pure ⟨⟨_,rfl⟩,.inl ⟨_,rfl,hm1.done (.inl (by have:=eq_of_beq e2;omega))⟩⟩
         ·rw[if_neg e2]
          have e2':¬ka+k=a.size:=by simpa using e2
          refine wpS_bind (zAK (zAQ hkb) ?_);have hm3:=hm1.pb hkb λ j h1 h2=>gt1 j (by omega) h2
          by_cases e3:(kb+1 == b.size)=true
          ·rw[if_pos e3]
           exact wpS_pure ⟨⟨_,rfl⟩,.inl ⟨_,rfl,hm3.done (.inr (by have:=eq_of_beq e3;omega))⟩⟩
          ·rw[if_neg e3]
           have e3':¬kb+1=b.size:=by simpa using e3
           refine wpS_bind (zAK (zAQ (show ka+k<a.size by omega)) ?_);refine wpS_bind (zAq L (left:=true) (f:=λ i=>b.getD (kb+1+i) d0) hk (m.ga_at (by omega)) (λ i hi=>zAQ (by omega)) (λ i hi=>m.gb_at (by omega)) (by omega) (zCq L (m.ga_at (by omega)) (λ i hi=>m.gb_at (by omega)) (λ i j hij hj=>m.b_le L (by omega) (by omega))) λ k1 hk1n hk11 hk12=>?_);dsimp only;have le2:∀i,i<k1->kb+1+i<b.size->∀j,ka+k<=j->j<a.size->R (a.getD j d0) (b.getD (kb+1+i) d0)=false:=λ i hi hib j h1 h2=>L.tr _ _ _ (m.ga_at h2) (m.ga_at (by omega)) (m.gb_at hib) (m.a_le L h1 h2) (L.asym _ _ (m.gb_at hib) (m.ga_at (by omega)) (by have:=hk11 i hi;simpa[byd] using this));have gt2:∀j,kb+1+k1<=j->j<b.size->R (b.getD j d0) (a.getD (ka+k) d0)=false:=λ j h1 h2=>by have:=hk12 (j - (kb+1)) (by omega) (by omega);simpa[byd,show kb+1+(j - (kb+1))=j by omega] using this
           by_cases ck1:k1 > 0
           ·rw[if_pos ck1]
            have hm4:=hm3.kb (k:=k1) λ i hi hib j h1 h2=>le2 i hi hib j h1 h2
            by_cases e4:(kb+1+k1 == b.size)=true
            ·rw[if_pos e4]
             exact wpS_pure ⟨⟨_,rfl⟩,.inl ⟨_,rfl,hm4.done (.inr (by have:=eq_of_beq e4;omega))⟩⟩
            ·rw[if_neg e4]
             have e4':¬kb+1+k1=b.size:=by simpa using e4
             refine wpS_bind (zAK (zAQ (show ka+k<a.size by omega)) ?_);have hm5:=hm4.pa (show ka+k<a.size by omega) λ j h1 h2=>gt2 j (by omega) h2
             by_cases e5:(ka+k+1+1 == a.size)=true
             ·rw[if_pos e5]
              exact wpS_pure ⟨⟨_,rfl⟩,.inl ⟨_,rfl,hlast hm5 (eq_of_beq e5)⟩⟩
             ·rw[if_neg e5]
              have e5':¬ka+k+1+1=a.size:=by simpa using e5
              by_cases f:(decide (k<7) && decide (k1<7))=true
              ·rw[if_pos f]
               exact wpS_pure ⟨⟨_,rfl⟩,.inr ⟨rfl,hm5,(by dsimp only;omega),(by dsimp only;omega),by dsimp only;omega⟩⟩
              ·rw[if_neg f]
               exact wpS_pure ⟨⟨_,rfl⟩,rfl,hm5,(by dsimp only;omega),(by dsimp only;omega),by dsimp only;omega⟩
           ·rw[if_neg ck1]
            have:k1=0:=by omega
            subst this;refine wpS_bind (zAK (zAQ (show ka+k<a.size by omega)) ?_);have hm5:=hm3.pa (show ka+k<a.size by omega) λ j h1 h2=>gt2 j (by omega) h2
            by_cases e5:(ka+k+1+1 == a.size)=true
            ·rw[if_pos e5]
             exact wpS_pure ⟨⟨_,rfl⟩,.inl ⟨_,rfl,hlast hm5 (eq_of_beq e5)⟩⟩
            ·rw[if_neg e5]
             have e5':¬ka+k+1+1=a.size:=by simpa using e5
             by_cases f:(decide (k<7) && decide (0<7))=true
             ·rw[if_pos f]
              exact wpS_pure ⟨⟨_,rfl⟩,.inr ⟨rfl,hm5,(by dsimp only;omega),(by dsimp only;omega),by dsimp only;omega⟩⟩
             ·rw[if_neg f]
              exact wpS_pure ⟨⟨_,rfl⟩,rfl,hm5,(by dsimp only;omega),(by dsimp only;omega),by dsimp only;omega⟩
       ·rw[if_neg ck]
        have:k=0:=by omega
        subst this;have hm1:=hm;refine wpS_bind (zAK (zAQ hkb) ?_);have hm3:=hm1.pb hkb λ j h1 h2=>gt1 j (by omega) h2
        by_cases e3:(kb+1 == b.size)=true
        ·rw[if_pos e3]
         exact wpS_pure ⟨⟨_,rfl⟩,.inl ⟨_,rfl,hm3.done (.inr (by have:=eq_of_beq e3;omega))⟩⟩
        ·rw[if_neg e3]
         have e3':¬kb+1=b.size:=by simpa using e3
         refine wpS_bind (zAK (zAQ (show ka<a.size by omega)) ?_);refine wpS_bind (zAq L (left:=true) (f:=λ i=>b.getD (kb+1+i) d0) hk (m.ga_at (by omega)) (λ i hi=>zAQ (by omega)) (λ i hi=>m.gb_at (by omega)) (by omega) (zCq L (m.ga_at (by omega)) (λ i hi=>m.gb_at (by omega)) (λ i j hij hj=>m.b_le L (by omega) (by omega))) λ k1 hk1n hk11 hk12=>?_);dsimp only;have le2:∀i,i<k1->kb+1+i<b.size->∀j,ka<=j->j<a.size->R (a.getD j d0) (b.getD (kb+1+i) d0)=false:=λ i hi hib j h1 h2=>L.tr _ _ _ (m.ga_at h2) (m.ga_at (by omega)) (m.gb_at hib) (m.a_le L h1 h2) (L.asym _ _ (m.gb_at hib) (m.ga_at (by omega)) (by have:=hk11 i hi;simpa[byd] using this));have gt2:∀j,kb+1+k1<=j->j<b.size->R (b.getD j d0) (a.getD (ka) d0)=false:=λ j h1 h2=>by have:=hk12 (j - (kb+1)) (by omega) (by omega);simpa[byd,show kb+1+(j - (kb+1))=j by omega] using this
         by_cases ck1:k1 > 0
         ·rw[if_pos ck1]
          have hm4:=hm3.kb (k:=k1) λ i hi hib j h1 h2=>le2 i hi hib j h1 h2
          by_cases e4:(kb+1+k1 == b.size)=true
          ·rw[if_pos e4]
           exact wpS_pure ⟨⟨_,rfl⟩,.inl ⟨_,rfl,hm4.done (.inr (by have:=eq_of_beq e4;omega))⟩⟩
          ·rw[if_neg e4]
           have e4':¬kb+1+k1=b.size:=by simpa using e4
           refine wpS_bind (zAK (zAQ (show ka<a.size by omega)) ?_);have hm5:=hm4.pa (show ka<a.size by omega) λ j h1 h2=>gt2 j (by omega) h2
           by_cases e5:(ka+1+1 == a.size)=true
           ·rw[if_pos e5]
            exact wpS_pure ⟨⟨_,rfl⟩,.inl ⟨_,rfl,hlast hm5 (eq_of_beq e5)⟩⟩
           ·rw[if_neg e5]
            have e5':¬ka+1+1=a.size:=by simpa using e5
            by_cases f:(decide (0<7) && decide (k1<7))=true
            ·rw[if_pos f]
             exact wpS_pure ⟨⟨_,rfl⟩,.inr ⟨rfl,hm5,(by dsimp only;omega),(by dsimp only;omega),by dsimp only;omega⟩⟩
            ·rw[if_neg f]
             exact wpS_pure ⟨⟨_,rfl⟩,rfl,hm5,(by dsimp only;omega),(by dsimp only;omega),by dsimp only;omega⟩
         ·rw[if_neg ck1]
          have:k1=0:=by omega
          subst this;refine wpS_bind (zAK (zAQ (show ka<a.size by omega)) ?_);have hm5:=hm3.pa (show ka<a.size by omega) λ j h1 h2=>gt2 j (by omega) h2
          by_cases e5:(ka+1+1 == a.size)=true
          ·rw[if_pos e5]
           exact wpS_pure ⟨⟨_,rfl⟩,.inl ⟨_,rfl,hlast hm5 (eq_of_beq e5)⟩⟩
          ·rw[if_neg e5]
           have e5':¬ka+1+1=a.size:=by simpa using e5
           by_cases f:(decide (0<7) && decide (0<7))=true
           ·rw[if_pos f]
            exact wpS_pure ⟨⟨_,rfl⟩,.inr ⟨rfl,hm5,(by dsimp only;omega),(by dsimp only;omega),by dsimp only;omega⟩⟩
           ·rw[if_neg f]
            exact wpS_pure ⟨⟨_,rfl⟩,rfl,hm5,(by dsimp only;omega),(by dsimp only;omega),by dsimp only;omega⟩
     ·rintro⟨r,o,ka,kb,mg2,ac2,bc2⟩ st3 ⟨⟨g,rfl⟩,rfl,hm,hka,hkb,hcn2⟩
      dsimp only at hm hka hkb hcn2;exfalso;omega
     rintro⟨r,o,ka,kb,mg2,ac2,bc2⟩ st3 ⟨⟨g,rfl⟩,hres⟩;rcases hres with ⟨X,hX,hM⟩|⟨hX,hm,hka,hkb,hcn2⟩
     ·dsimp only at hX
      subst hX;exact wpS_pure ⟨⟨g,rfl⟩,X,rfl,hM⟩
     ·dsimp only at hX hm hka hkb hcn2 ⊢
      subst hX;dsimp only;refine wpS_bind (zBa (wpS_pure ⟨⟨_,rfl⟩,rfl,hm,hka,hkb,?_⟩));dsimp only;omega
   ·rintro⟨r,o,ia,ib,mg⟩ st1 ⟨⟨g,rfl⟩,rfl,hm,hia,hib,hcnt⟩
    dsimp only at hm hia hib hcnt;exfalso;omega
   rintro⟨r,o,ia,ib,mg⟩ st1 ⟨⟨g,rfl⟩,X,hX,hM⟩;dsimp only at hX ⊢;subst hX;exact wpS_pure (h X g hM)
end
section
variable {M:Model}{A:Around}{E:XQ}{s:Shared}{κ:SortKind}{G:Keyed->Prop}{R:Keyed->Keyed->Bool}
abbrev flR (R:Keyed->Keyed->Bool):Keyed->Keyed->Bool:=λ x y=>R y x
theorem zHt {l:List Keyed}:OL (flR R) l.reverse↔OL R l:=by
 unfold OL;rw[List.pairwise_reverse]
section
variable {a b o:Array Keyed}{na nb k:Nat}
abbrev MB (R:Keyed->Keyed->Bool) (a b o:Array Keyed) (na nb:Nat):Prop:=MI (flR R) a.toList.reverse b.toList.reverse o.toList (a.toList.take na).reverse (b.toList.take nb).reverse
theorem zHL {a:Array Keyed}{i:Nat}(h0:0<i) (h:i<=a.size):(a.toList.take i).reverse=a.getD (i - 1) d0::(a.toList.take (i - 1)).reverse:=by
 obtain⟨j,rfl⟩:∃j,i=j+1:=⟨i - 1,by omega⟩;rw[List.take_succ_eq_append_getElem (by simp;omega),rE];have:a.getD j d0=a[j]'(by omega):=by simp[Array.getD,show j<a.size by omega]
 rw[Nat.add_sub_cancel,this];rfl
theorem zBS {a:Array Keyed}{i:Nat}{x:Keyed}(h:x∈(a.toList.take i).reverse):∃j,j<i/\j<a.size/\x=a.getD j d0:=by
 rw[List.mem_reverse] at h;obtain⟨j,hj,e⟩:=List.getElem_of_mem h;rw[mO] at hj;have hj':j<a.size:=by simp at hj;omega
 refine⟨j,by omega,hj',?_⟩;rw[←e,List.getElem_take];simp[Array.getD,hj']
theorem MB.pb (h:MB R a b o na nb) (h1:0<nb) (hb:nb<=b.size) (hp:∀j,j<na->j<a.size->R (b.getD (nb - 1) d0) (a.getD j d0)=false):MB R a b (o.push (b.getD (nb - 1) d0)) na (nb - 1):=by
 unfold MB at h ⊢;rw[zHL h1 hb] at h;rw[Array.toList_push];refine MI.b (p:=[b.getD (nb - 1) d0]) h λ x hx y hy=>?_;rw[mR] at hx;subst hx;obtain⟨j,j1,j2,rfl⟩:=zBS hy;exact hp j j1 j2
theorem MB.pa (h:MB R a b o na nb) (h1:0<na) (ha:na<=a.size) (hp:∀j,j<nb->j<b.size->R (a.getD (na - 1) d0) (b.getD j d0)=false):MB R a b (o.push (a.getD (na - 1) d0)) (na - 1) nb:=by
 unfold MB at h ⊢;rw[zHL h1 ha] at h;rw[Array.toList_push];refine MI.a (p:=[a.getD (na - 1) d0]) h λ x hx y hy=>?_;rw[mR] at hx;subst hx;obtain⟨j,j1,j2,rfl⟩:=zBS hy;exact hp j j1 j2
theorem zJe (a:Array Keyed) (i n:Nat):(a.extract i n).reverse.toList=((a.toList.take n).drop i).reverse:=by
 rw[Array.toList_reverse,Array.toList_extract,List.extract_eq_take_drop,List.drop_take]
theorem zDy (l:List Keyed) {i n:Nat}(h:i<=n):(l.take n).reverse=((l.take n).drop i).reverse++(l.take i).reverse:=by
 rw[←rE];congr 1;have:l.take i=(l.take n).take i:=by rw[List.take_take,Nat.min_eq_left h]
 rw[this,List.take_append_drop]
theorem zH6 {a:Array Keyed}{i n:Nat}{x:Keyed}(h:x∈((a.toList.take n).drop i).reverse):∃j,i<=j/\j<n/\j<a.size/\x=a.getD j d0:=by
 rw[List.mem_reverse] at h;obtain⟨j,hj,e⟩:=List.getElem_of_mem h;rw[mX,mO] at hj;have hj':i+j<a.size:=by simp at hj;omega
 refine⟨i+j,by omega,by omega,hj',?_⟩;rw[←e,List.getElem_drop,List.getElem_take];simp[Array.getD,hj']
theorem MB.ka (h:MB R a b o na nb) (hk:k<=na) (hp:∀i,k<=i->i<na->i<a.size->∀j,j<nb->j<b.size->R (a.getD i d0) (b.getD j d0)=false):MB R a b (o++(a.extract k na).reverse) k nb:=by
 unfold MB at h ⊢;rw[Array.toList_append,zJe];refine MI.a (p:=((a.toList.take na).drop k).reverse) (by rw[←zDy _ hk];exact h) λ x hx y hy=>?_;obtain⟨i,i1,i2,i3,rfl⟩:=zH6 hx;obtain⟨j,h1,h2,rfl⟩:=zBS hy;exact hp i i1 i2 i3 j h1 h2
theorem MB.kb (h:MB R a b o na nb) (hk:k<=nb) (hp:∀i,k<=i->i<nb->i<b.size->∀j,j<na->j<a.size->R (b.getD i d0) (a.getD j d0)=false):MB R a b (o++(b.extract k nb).reverse) na k:=by
 unfold MB at h ⊢;rw[Array.toList_append,zJe];refine MI.b (p:=((b.toList.take nb).drop k).reverse) (by rw[←zDy _ hk];exact h) λ x hx y hy=>?_;obtain⟨i,i1,i2,i3,rfl⟩:=zH6 hx;obtain⟨j,h1,h2,rfl⟩:=zBS hy;exact hp i i1 i2 i3 j h1 h2
theorem ex_0 (a:Array Keyed) (n:Nat):(a.extract 0 n).toList=a.toList.take n:=by
 rw[Array.toList_extract,List.extract_eq_take_drop];simp
theorem zH4 {x:Array Keyed}(h:OL (flR R) x.toList.reverse/\x.toList.reverse.Perm (a.toList.reverse++b.toList.reverse)):Mgd R a b x:=by
 refine⟨zHt.mp h.1,?_⟩;exact(List.reverse_perm _).symm.trans (h.2.trans ((List.reverse_perm _).append (List.reverse_perm _)))
theorem MB.done (h:MB R a b o na nb) (hd:na=0\/nb=0):Mgd R a b (a.extract 0 na++b.extract 0 nb++o.reverse):=by
 refine zH4 ?_;rw[Array.toList_append,Array.toList_append,ex_0,ex_0,Array.toList_reverse,rE,rE,List.reverse_reverse,←mZ];refine MI.fin2 h λ x hx y hy=>?_;obtain⟨i,i1,i2,_⟩:=zBS hx;obtain⟨j,j1,j2,_⟩:=zBS hy;omega
theorem MB.first (h:MB R a b o na nb) (hl:∀i,i<na->i<a.size->∀j,j<nb->j<b.size->R (a.getD i d0) (b.getD j d0)=false):Mgd R a b (b.extract 0 nb++a.extract 0 na++o.reverse):=by
 refine zH4 ?_;rw[Array.toList_append,Array.toList_append,ex_0,ex_0,Array.toList_reverse,rE,rE,List.reverse_reverse,←mZ];refine MI.fin h λ x hx y hy=>?_;obtain⟨i,i1,i2,rfl⟩:=zBS hx;obtain⟨j,j1,j2,rfl⟩:=zBS hy;exact hl i i1 i2 j j1 j2
end
theorem zGy (L:LtE M A E s κ G R) {a b:Array Keyed}{st:SortSt}{Q:Array Keyed->SortSt->Prop}(hk:kindOf st=κ) (m:ML R G a b) (ha:0<a.size) (hb:0<b.size)
  (h0:∀i,i<a.size->R (a.getD i d0) (b.getD 0 d0)=false) (hl:∀j,j<b.size->R (a.getD (a.size - 1) d0) (b.getD j d0)=false)
  (h:∀out g,Mgd R a b out->Q out (setG st g)):wpS M A E s (zJA a b) Q st:=by
 have start:MB R a b #[a.getD (a.size - 1) d0] (a.size - 1) b.size:=by
  have z:MB R a b #[] a.size b.size:=⟨List.Pairwise.nil,(λ x hx=>nomatch hx),by
   have e1:a.toList.take a.size=a.toList:=mV (by simp);have e2:b.toList.take b.size=b.toList:=mV (by simp);rw[e1,e2];simp,by
   have e1:a.toList.take a.size=a.toList:=mV (by simp);rw[e1];exact zHt.mpr m.oa,by
   have e2:b.toList.take b.size=b.toList:=mV (by simp);rw[e2];exact zHt.mpr m.ob⟩
  have:=z.pa ha (lP _) λ j U hj=>hl j hj;simpa using this
 have hfirst:∀{o:Array Keyed}{na nb:Nat},MB R a b o na nb->nb=1->Mgd R a b (b.extract 0 nb++a.extract 0 na++o.reverse):=λ{o na nb} h e=>h.first λ i U hi j hj1 hj2=>by
  have:j=0:=by omega
  rw[this];exact h0 i hi
 refine wpS_bind (zBx ?_);refine wpS_bind (zAK (zAQ (show a.size - 1<a.size by omega)) ?_);dsimp only
 by_cases c1:(a.size - 1 == 0)=true
 ·rw[if_pos c1]
  exact wpS_pure (h _ (gallopOf st) (start.done (.inl (eq_of_beq c1))))
 ·rw[if_neg c1]
  have c1':¬a.size - 1=0:=by simpa using c1
  by_cases c2:(b.size == 1)=true
  ·rw[if_pos c2]
   exact wpS_pure (h _ (gallopOf st) (hfirst start (eq_of_beq c2)))
  ·rw[if_neg c2]
   have c2':¬b.size=1:=by simpa using c2
   refine wpS_bind (wpS_get ?_)
   refine wpS_bind (wpS_mono (wpS_forRange (I:=λ i (c:Option (Array Keyed) × Nat × Nat × Array Keyed × Nat) st'=>(∃g,st'=setG st g)/\c.1=none/\MB R a b c.2.2.2.1 c.2.1 c.2.2.1/\0<c.2.1/\1<c.2.2.1/\c.2.1<=a.size/\c.2.2.1<=b.size/\i+1+c.2.1+c.2.2.1<=a.size+b.size)
    (Q:=λ c st'=>(∃g,st'=setG st g)/\∃X,c.1=some X/\Mgd R a b X) ?_ ?_ ⟨⟨gallopOf st,rfl⟩,rfl,start,(by dsimp only;omega),(by dsimp only;omega),(by dsimp only;omega),lP _,by dsimp only;omega⟩) ?_)
   ·rintro i ⟨r,na,nb,o,mg⟩ st1 _ hin ⟨⟨g,rfl⟩,rfl,hm,hia,hib,hia2,hib2,hcnt⟩
    dsimp only at hm hia hib hia2 hib2 hcnt ⊢
    refine wpS_bind (wpS_mono (wpS_forRange (I:=λ i (d:Option (Array Keyed) × Nat × Nat × Array Keyed × Nat × Nat) st'=>(∃g,st'=setG st g)/\d.1=none/\MB R a b d.2.2.2.1 d.2.1 d.2.2.1/\0<d.2.1/\1<d.2.2.1/\d.2.1<=a.size/\d.2.2.1<=b.size/\i+d.2.1+d.2.2.1<=na+nb)
     (Q:=λ d st'=>(∃g,st'=setG st g)/\((∃X,d.1=some X/\Mgd R a b X)\/(d.1=none/\MB R a b d.2.2.2.1 d.2.1 d.2.2.1/\0<d.2.1/\1<d.2.2.1/\d.2.1<=a.size/\d.2.2.1<=b.size/\1+d.2.1+d.2.2.1<=na+nb))) ?_ ?_ ⟨⟨g,rfl⟩,rfl,hm,hia,hib,hia2,hib2,by dsimp only;omega⟩) ?_)
    ·rintro i2 ⟨r,ja,jb,o,ac,bc⟩ st2 _ hin2 ⟨⟨g,rfl⟩,rfl,hm,hja,hjb,hja2,hjb2,hcn⟩
     dsimp only at hm hja hjb hja2 hjb2 hcn ⊢;refine wpS_bind (zAK (zAQ (show jb - 1<b.size by omega)) (wpS_bind (zAK (zAQ (show ja - 1<a.size by omega)) ?_)));refine wpS_bind (L.lt _ _ (m.gb_at (by omega)) (m.ga_at (by omega)) _ _ hk ?_);dsimp only
     by_cases c:R (b.getD (jb - 1) d0) (a.getD (ja - 1) d0)=true
     ·rw[if_pos c]
      refine wpS_bind (zAK (zAQ (show ja - 1<a.size by omega)) ?_);have hm2:=hm.pa hja hja2 λ j h1 h2=>L.tr _ _ _ (m.ga_at (by omega)) (m.gb_at (show jb - 1<b.size by omega)) (m.gb_at h2) (L.asym _ _ (m.gb_at (by omega)) (m.ga_at (by omega)) c) (m.b_le L (by omega) (by omega))
      by_cases e:(ja - 1 == 0)=true
      ·rw[if_pos e]
       exact wpS_pure ⟨⟨g,rfl⟩,.inl ⟨_,rfl,hm2.done (.inl (eq_of_beq e))⟩⟩
      ·rw[if_neg e]
       have e':¬ja - 1=0:=by simpa using e
       by_cases f:ac+1 ≥ mg
       ·rw[if_pos f]
        exact wpS_pure ⟨⟨g,rfl⟩,.inr ⟨rfl,hm2,(by dsimp only;omega),hjb,(by dsimp only;omega),hjb2,by dsimp only;omega⟩⟩
       ·rw[if_neg f]
        exact wpS_pure ⟨⟨g,rfl⟩,rfl,hm2,(by dsimp only;omega),hjb,(by dsimp only;omega),hjb2,by dsimp only;omega⟩
     ·rw[if_neg c]
      have c':R (b.getD (jb - 1) d0) (a.getD (ja - 1) d0)=false:=by simpa using c
      refine wpS_bind (zAK (zAQ (show jb - 1<b.size by omega)) ?_);have hm2:=hm.pb (by omega) hjb2 λ j h1 h2=>L.tr _ _ _ (m.gb_at (by omega)) (m.ga_at (show ja - 1<a.size by omega)) (m.ga_at h2) c' (m.a_le L (by omega) (by omega))
      by_cases e:(jb - 1 == 1)=true
      ·rw[if_pos e]
       exact wpS_pure ⟨⟨g,rfl⟩,.inl ⟨_,rfl,hfirst hm2 (eq_of_beq e)⟩⟩
      ·rw[if_neg e]
       have e':¬jb - 1=1:=by simpa using e
       by_cases f:bc+1 ≥ mg
       ·rw[if_pos f]
        exact wpS_pure ⟨⟨g,rfl⟩,.inr ⟨rfl,hm2,hja,(by dsimp only;omega),hja2,(by dsimp only;omega),by dsimp only;omega⟩⟩
       ·rw[if_neg f]
        exact wpS_pure ⟨⟨g,rfl⟩,rfl,hm2,hja,(by dsimp only;omega),hja2,(by dsimp only;omega),by dsimp only;omega⟩
    ·rintro⟨r,ja,jb,o,ac,bc⟩ st2 ⟨⟨g,rfl⟩,rfl,hm,hja,hjb,hja2,hjb2,hcn⟩
     dsimp only at hm hja hjb hja2 hjb2 hcn;exfalso;omega
    rintro⟨r,ja,jb,o,ac,bc⟩ st2 ⟨⟨g,rfl⟩,hres⟩;rcases hres with ⟨X,hX,hM⟩|⟨hX,hm,hja,hjb,hja2,hjb2,hcn⟩
    ·dsimp only at hX
     subst hX;exact wpS_pure ⟨⟨g,rfl⟩,X,rfl,hM⟩
    ·dsimp only at hX hm hja hjb hja2 hjb2 hcn ⊢
     subst hX;dsimp only;refine wpS_bind (zBx ?_)
     refine wpS_bind (wpS_mono (wpS_forRange (I:=λ i (d:Option (Array Keyed) × Nat × Nat × Array Keyed × Nat × Nat × Nat) st'=>(∃g,st'=setG st g)/\d.1=none/\MB R a b d.2.2.2.1 d.2.1 d.2.2.1/\0<d.2.1/\1<d.2.2.1/\d.2.1<=a.size/\d.2.2.1<=b.size/\i+d.2.1+d.2.2.1<=ja+jb)
      (Q:=λ d st'=>(∃g,st'=setG st g)/\((∃X,d.1=some X/\Mgd R a b X)\/(d.1=none/\MB R a b d.2.2.2.1 d.2.1 d.2.2.1/\0<d.2.1/\1<d.2.2.1/\d.2.1<=a.size/\d.2.2.1<=b.size/\d.2.1+d.2.2.1<=ja+jb))) ?_ ?_ ⟨⟨g,rfl⟩,rfl,hm,hja,hjb,hja2,hjb2,by dsimp only;omega⟩) ?_)
     ·rintro i2 ⟨r,ka,kb,o,mg2,ac2,bc2⟩ st3 _ hin2 ⟨⟨g,rfl⟩,rfl,hm,hka,hkb,hka2,hkb2,hcn2⟩
      dsimp only at hm hka hkb hka2 hkb2 hcn2 ⊢
      by_cases cg:mg2 > 1
      ·rw[if_pos cg]
       refine wpS_bind (zBa ?_);refine wpS_bind (zAK (zAQ (show kb - 1<b.size by omega)) ?_);refine wpS_bind (zAq L (left:=false) (f:=λ i=>a.getD (0+i) d0) hk (m.gb_at (by omega)) (λ i hi=>zAQ (by omega)) (λ i hi=>m.ga_at (by omega)) (by omega) (zFA L (m.gb_at (by omega)) (λ i hi=>m.ga_at (by omega)) (λ i j hij hj=>m.a_le L (by omega) (by omega))) λ k hkn hk1 hk2=>?_);dsimp only;have le1:∀i,k<=i->i<ka->i<a.size->∀j,j<kb->j<b.size->R (a.getD i d0) (b.getD j d0)=false:=λ i h1 h2 h3 j h4 h5=>L.tr _ _ _ (m.ga_at h3) (m.gb_at (show kb - 1<b.size by omega)) (m.gb_at h5) (L.asym _ _ (m.gb_at (by omega)) (m.ga_at h3) (by have:=hk2 i h1 h2;simpa[byd] using this)) (m.b_le L (by omega) (by omega));have gt1:∀j,j<k->j<a.size->R (b.getD (kb - 1) d0) (a.getD j d0)=false:=λ j h1 h2=>by have:=hk1 j h1;simpa[byd] using this
       by_cases ck:ka - k > 0
       ·rw[if_pos ck]
        have hm1:=hm.ka (k:=k) (by omega) λ i h1 h2 h3 j h4 h5=>le1 i h1 h2 h3 j h4 h5
        by_cases e:(k == 0)=true
        ·rw[if_pos e]
         exact wpS_pure ⟨⟨_,rfl⟩,.inl ⟨_,rfl,hm1.done (.inl (eq_of_beq e))⟩⟩
        ·rw[if_neg e]
         have e':¬k=0:=by simpa using e
         refine wpS_bind (zAK (zAQ (show kb - 1<b.size by omega)) ?_);have hm3:=hm1.pb (show 0<kb by omega) (by omega) λ j h1 h2=>gt1 j (by omega) h2
         by_cases e3:(kb - 1 == 1)=true
         ·rw[if_pos e3]
          exact wpS_pure ⟨⟨_,rfl⟩,.inl ⟨_,rfl,hfirst hm3 (eq_of_beq e3)⟩⟩
         ·rw[if_neg e3]
          have e3':¬kb - 1=1:=by simpa using e3
          refine wpS_bind (zAK (zAQ (show k - 1<a.size by omega)) ?_);refine wpS_bind (zAq L (left:=true) (f:=λ i=>b.getD (0+i) d0) hk (m.ga_at (by omega)) (λ i hi=>zAQ (by omega)) (λ i hi=>m.gb_at (by omega)) (by omega) (zCq L (m.ga_at (by omega)) (λ i hi=>m.gb_at (by omega)) (λ i j hij hj=>m.b_le L (by omega) (by omega))) λ k1 hk1n hk11 hk12=>?_);dsimp only;have le2:∀i,k1<=i->i<kb - 1->i<b.size->∀j,j<k->j<a.size->R (b.getD i d0) (a.getD j d0)=false:=λ i hi hib hi2 j h1 h2=>L.tr _ _ _ (m.gb_at hi2) (m.ga_at (show k - 1<a.size by omega)) (m.ga_at h2) (by have:=hk12 i hi hib;simpa[byd] using this) (m.a_le L (by omega) (by omega));have gt2:∀j,j<k1->j<b.size->R (a.getD (k - 1) d0) (b.getD j d0)=false:=λ j h1 h2=>L.asym _ _ (m.gb_at h2) (m.ga_at (by omega)) (by have:=hk11 j h1;simpa[byd] using this)
          by_cases ck1:kb - 1 - k1 > 0
          ·rw[if_pos ck1]
           have hm4:=hm3.kb (k:=k1) (by omega) λ i h1 h2 h3 j h4 h5=>le2 i h1 h2 h3 j h4 h5
           by_cases e4:(k1 == 1)=true
           ·rw[if_pos e4]
            exact wpS_pure ⟨⟨_,rfl⟩,.inl ⟨_,rfl,hfirst hm4 (eq_of_beq e4)⟩⟩
           ·rw[if_neg e4]
            have e4':¬k1=1:=by simpa using e4
            by_cases e6:(k1 == 0)=true
            ·rw[if_pos e6]
             exact wpS_pure ⟨⟨_,rfl⟩,.inl ⟨_,rfl,hm4.done (.inr (eq_of_beq e6))⟩⟩
            ·rw[if_neg e6]
             have e6':¬k1=0:=by simpa using e6
             refine wpS_bind (zAK (zAQ (show k - 1<a.size by omega)) ?_);have hm5:=hm4.pa (show 0<k by omega) (by omega) λ j h1 h2=>gt2 j (by omega) h2
             by_cases e5:(k - 1 == 0)=true
             ·rw[if_pos e5]
              exact wpS_pure ⟨⟨_,rfl⟩,.inl ⟨_,rfl,hm5.done (.inl (eq_of_beq e5))⟩⟩
             ·rw[if_neg e5]
              have e5':¬k - 1=0:=by simpa using e5
              by_cases f:(decide (ka - k<7) && decide (kb - 1 - k1<7))=true
              ·rw[if_pos f]
               exact wpS_pure ⟨⟨_,rfl⟩,.inr ⟨rfl,hm5,(by dsimp only;omega),(by dsimp only;omega),(by dsimp only;omega),(by dsimp only;omega),by dsimp only;omega⟩⟩
              ·rw[if_neg f]
               exact wpS_pure ⟨⟨_,rfl⟩,rfl,hm5,(by dsimp only;omega),(by dsimp only;omega),(by dsimp only;omega),(by dsimp only;omega),by dsimp only;omega⟩
          ·rw[if_neg ck1]
           have:k1=kb - 1:=by omega
           refine wpS_bind (zAK (zAQ (show k - 1<a.size by omega)) ?_);have hm5:=hm3.pa (show 0<k by omega) (by omega) λ j h1 h2=>gt2 j (by omega) h2
           by_cases e5:(k - 1 == 0)=true
           ·rw[if_pos e5]
            exact wpS_pure ⟨⟨_,rfl⟩,.inl ⟨_,rfl,hm5.done (.inl (eq_of_beq e5))⟩⟩
           ·rw[if_neg e5]
            have e5':¬k - 1=0:=by simpa using e5
            by_cases f:(decide (ka - k<7) && decide (kb - 1 - k1<7))=true
            ·rw[if_pos f]
             exact wpS_pure ⟨⟨_,rfl⟩,.inr ⟨rfl,hm5,(by dsimp only;omega),(by dsimp only;omega),(by dsimp only;omega),(by dsimp only;omega),by dsimp only;omega⟩⟩
            ·rw[if_neg f]
             exact wpS_pure ⟨⟨_,rfl⟩,rfl,hm5,(by dsimp only;omega),(by dsimp only;omega),(by dsimp only;omega),(by dsimp only;omega),by dsimp only;omega⟩
       ·rw[if_neg ck]
        have:k=ka:=by omega
        have hm1:=hm;refine wpS_bind (zAK (zAQ (show kb - 1<b.size by omega)) ?_);have hm3:=hm1.pb (show 0<kb by omega) (by omega) λ j h1 h2=>gt1 j (by omega) h2
        by_cases e3:(kb - 1 == 1)=true
        ·rw[if_pos e3]
         exact wpS_pure ⟨⟨_,rfl⟩,.inl ⟨_,rfl,hfirst hm3 (eq_of_beq e3)⟩⟩
        ·rw[if_neg e3]
         have e3':¬kb - 1=1:=by simpa using e3
         refine wpS_bind (zAK (zAQ (show ka - 1<a.size by omega)) ?_);refine wpS_bind (zAq L (left:=true) (f:=λ i=>b.getD (0+i) d0) hk (m.ga_at (by omega)) (λ i hi=>zAQ (by omega)) (λ i hi=>m.gb_at (by omega)) (by omega) (zCq L (m.ga_at (by omega)) (λ i hi=>m.gb_at (by omega)) (λ i j hij hj=>m.b_le L (by omega) (by omega))) λ k1 hk1n hk11 hk12=>?_);dsimp only;have le2:∀i,k1<=i->i<kb - 1->i<b.size->∀j,j<ka->j<a.size->R (b.getD i d0) (a.getD j d0)=false:=λ i hi hib hi2 j h1 h2=>L.tr _ _ _ (m.gb_at hi2) (m.ga_at (show ka - 1<a.size by omega)) (m.ga_at h2) (by have:=hk12 i hi hib;simpa[byd] using this) (m.a_le L (by omega) (by omega));have gt2:∀j,j<k1->j<b.size->R (a.getD (ka - 1) d0) (b.getD j d0)=false:=λ j h1 h2=>L.asym _ _ (m.gb_at h2) (m.ga_at (by omega)) (by have:=hk11 j h1;simpa[byd] using this)
         by_cases ck1:kb - 1 - k1 > 0
         ·rw[if_pos ck1]
          have hm4:=hm3.kb (k:=k1) (by omega) λ i h1 h2 h3 j h4 h5=>le2 i h1 h2 h3 j h4 h5
          by_cases e4:(k1 == 1)=true
          ·rw[if_pos e4]
           exact wpS_pure ⟨⟨_,rfl⟩,.inl ⟨_,rfl,hfirst hm4 (eq_of_beq e4)⟩⟩
          ·rw[if_neg e4]
           have e4':¬k1=1:=by simpa using e4
           by_cases e6:(k1 == 0)=true
           ·rw[if_pos e6]
            exact wpS_pure ⟨⟨_,rfl⟩,.inl ⟨_,rfl,hm4.done (.inr (eq_of_beq e6))⟩⟩
           ·rw[if_neg e6]
            have e6':¬k1=0:=by simpa using e6
            refine wpS_bind (zAK (zAQ (show ka - 1<a.size by omega)) ?_);have hm5:=hm4.pa (show 0<ka by omega) (by omega) λ j h1 h2=>gt2 j (by omega) h2
            by_cases e5:(ka - 1 == 0)=true
            ·rw[if_pos e5]
             exact wpS_pure ⟨⟨_,rfl⟩,.inl ⟨_,rfl,hm5.done (.inl (eq_of_beq e5))⟩⟩
            ·rw[if_neg e5]
             have e5':¬ka - 1=0:=by simpa using e5
             by_cases f:(decide (ka - k<7) && decide (kb - 1 - k1<7))=true
             ·rw[if_pos f]
              exact wpS_pure ⟨⟨_,rfl⟩,.inr ⟨rfl,hm5,(by dsimp only;omega),(by dsimp only;omega),(by dsimp only;omega),(by dsimp only;omega),by dsimp only;omega⟩⟩
             ·rw[if_neg f]
              exact wpS_pure ⟨⟨_,rfl⟩,rfl,hm5,(by dsimp only;omega),(by dsimp only;omega),(by dsimp only;omega),(by dsimp only;omega),by dsimp only;omega⟩
         ·rw[if_neg ck1]
          have:k1=kb - 1:=by omega
          refine wpS_bind (zAK (zAQ (show ka - 1<a.size by omega)) ?_);have hm5:=hm3.pa (show 0<ka by omega) (by omega) λ j h1 h2=>gt2 j (by omega) h2
          by_cases e5:(ka - 1 == 0)=true
          ·rw[if_pos e5]
           exact wpS_pure ⟨⟨_,rfl⟩,.inl ⟨_,rfl,hm5.done (.inl (eq_of_beq e5))⟩⟩
          ·rw[if_neg e5]
           have e5':¬ka - 1=0:=by simpa using e5
           by_cases f:(decide (ka - k<7) && decide (kb - 1 - k1<7))=true
           ·rw[if_pos f]
            exact wpS_pure ⟨⟨_,rfl⟩,.inr ⟨rfl,hm5,(by dsimp only;omega),(by dsimp only;omega),(by dsimp only;omega),(by dsimp only;omega),by dsimp only;omega⟩⟩
           ·rw[if_neg f]
            exact wpS_pure ⟨⟨_,rfl⟩,rfl,hm5,(by dsimp only;omega),(by dsimp only;omega),(by dsimp only;omega),(by dsimp only;omega),by dsimp only;omega⟩
      ·rw[if_neg cg]
       refine wpS_bind (zBa ?_);refine wpS_bind (zAK (zAQ (show kb - 1<b.size by omega)) ?_);refine wpS_bind (zAq L (left:=false) (f:=λ i=>a.getD (0+i) d0) hk (m.gb_at (by omega)) (λ i hi=>zAQ (by omega)) (λ i hi=>m.ga_at (by omega)) (by omega) (zFA L (m.gb_at (by omega)) (λ i hi=>m.ga_at (by omega)) (λ i j hij hj=>m.a_le L (by omega) (by omega))) λ k hkn hk1 hk2=>?_);dsimp only;have le1:∀i,k<=i->i<ka->i<a.size->∀j,j<kb->j<b.size->R (a.getD i d0) (b.getD j d0)=false:=λ i h1 h2 h3 j h4 h5=>L.tr _ _ _ (m.ga_at h3) (m.gb_at (show kb - 1<b.size by omega)) (m.gb_at h5) (L.asym _ _ (m.gb_at (by omega)) (m.ga_at h3) (by have:=hk2 i h1 h2;simpa[byd] using this)) (m.b_le L (by omega) (by omega));have gt1:∀j,j<k->j<a.size->R (b.getD (kb - 1) d0) (a.getD j d0)=false:=λ j h1 h2=>by have:=hk1 j h1;simpa[byd] using this
       by_cases ck:ka - k > 0
       ·rw[if_pos ck]
        have hm1:=hm.ka (k:=k) (by omega) λ i h1 h2 h3 j h4 h5=>le1 i h1 h2 h3 j h4 h5
        by_cases e:(k == 0)=true
        ·rw[if_pos e]
         exact wpS_pure ⟨⟨_,rfl⟩,.inl ⟨_,rfl,hm1.done (.inl (eq_of_beq e))⟩⟩
        ·rw[if_neg e]
         have e':¬k=0:=by simpa using e
         refine wpS_bind (zAK (zAQ (show kb - 1<b.size by omega)) ?_);have hm3:=hm1.pb (show 0<kb by omega) (by omega) λ j h1 h2=>gt1 j (by omega) h2
         by_cases e3:(kb - 1 == 1)=true
         ·rw[if_pos e3]
          exact wpS_pure ⟨⟨_,rfl⟩,.inl ⟨_,rfl,hfirst hm3 (eq_of_beq e3)⟩⟩
         ·rw[if_neg e3]
          have e3':¬kb - 1=1:=by simpa using e3
          refine wpS_bind (zAK (zAQ (show k - 1<a.size by omega)) ?_);refine wpS_bind (zAq L (left:=true) (f:=λ i=>b.getD (0+i) d0) hk (m.ga_at (by omega)) (λ i hi=>zAQ (by omega)) (λ i hi=>m.gb_at (by omega)) (by omega) (zCq L (m.ga_at (by omega)) (λ i hi=>m.gb_at (by omega)) (λ i j hij hj=>m.b_le L (by omega) (by omega))) λ k1 hk1n hk11 hk12=>?_);dsimp only;have le2:∀i,k1<=i->i<kb - 1->i<b.size->∀j,j<k->j<a.size->R (b.getD i d0) (a.getD j d0)=false:=λ i hi hib hi2 j h1 h2=>L.tr _ _ _ (m.gb_at hi2) (m.ga_at (show k - 1<a.size by omega)) (m.ga_at h2) (by have:=hk12 i hi hib;simpa[byd] using this) (m.a_le L (by omega) (by omega));have gt2:∀j,j<k1->j<b.size->R (a.getD (k - 1) d0) (b.getD j d0)=false:=λ j h1 h2=>L.asym _ _ (m.gb_at h2) (m.ga_at (by omega)) (by have:=hk11 j h1;simpa[byd] using this)
          by_cases ck1:kb - 1 - k1 > 0
          ·rw[if_pos ck1]
           have hm4:=hm3.kb (k:=k1) (by omega) λ i h1 h2 h3 j h4 h5=>le2 i h1 h2 h3 j h4 h5
           by_cases e4:(k1 == 1)=true
           ·rw[if_pos e4]
            exact wpS_pure ⟨⟨_,rfl⟩,.inl ⟨_,rfl,hfirst hm4 (eq_of_beq e4)⟩⟩
           ·rw[if_neg e4]
            have e4':¬k1=1:=by simpa using e4
            by_cases e6:(k1 == 0)=true
            ·rw[if_pos e6]
             exact wpS_pure ⟨⟨_,rfl⟩,.inl ⟨_,rfl,hm4.done (.inr (eq_of_beq e6))⟩⟩
            ·rw[if_neg e6]
             have e6':¬k1=0:=by simpa using e6
             refine wpS_bind (zAK (zAQ (show k - 1<a.size by omega)) ?_);have hm5:=hm4.pa (show 0<k by omega) (by omega) λ j h1 h2=>gt2 j (by omega) h2
             by_cases e5:(k - 1 == 0)=true
             ·rw[if_pos e5]
              exact wpS_pure ⟨⟨_,rfl⟩,.inl ⟨_,rfl,hm5.done (.inl (eq_of_beq e5))⟩⟩
             ·rw[if_neg e5]
              have e5':¬k - 1=0:=by simpa using e5
              by_cases f:(decide (ka - k<7) && decide (kb - 1 - k1<7))=true
              ·rw[if_pos f]
               exact wpS_pure ⟨⟨_,rfl⟩,.inr ⟨rfl,hm5,(by dsimp only;omega),(by dsimp only;omega),(by dsimp only;omega),(by dsimp only;omega),by dsimp only;omega⟩⟩
              ·rw[if_neg f]
               exact wpS_pure ⟨⟨_,rfl⟩,rfl,hm5,(by dsimp only;omega),(by dsimp only;omega),(by dsimp only;omega),(by dsimp only;omega),by dsimp only;omega⟩
          ·rw[if_neg ck1]
           have:k1=kb - 1:=by omega
           refine wpS_bind (zAK (zAQ (show k - 1<a.size by omega)) ?_);have hm5:=hm3.pa (show 0<k by omega) (by omega) λ j h1 h2=>gt2 j (by omega) h2
           by_cases e5:(k - 1 == 0)=true
           ·rw[if_pos e5]
            exact wpS_pure ⟨⟨_,rfl⟩,.inl ⟨_,rfl,hm5.done (.inl (eq_of_beq e5))⟩⟩
           ·rw[if_neg e5]
            have e5':¬k - 1=0:=by simpa using e5
            by_cases f:(decide (ka - k<7) && decide (kb - 1 - k1<7))=true
            ·rw[if_pos f]
             exact wpS_pure ⟨⟨_,rfl⟩,.inr ⟨rfl,hm5,(by dsimp only;omega),(by dsimp only;omega),(by dsimp only;omega),(by dsimp only;omega),by dsimp only;omega⟩⟩
            ·rw[if_neg f]
             exact wpS_pure ⟨⟨_,rfl⟩,rfl,hm5,(by dsimp only;omega),(by dsimp only;omega),(by dsimp only;omega),(by dsimp only;omega),by dsimp only;omega⟩
       ·rw[if_neg ck]
        have:k=ka:=by omega
        have hm1:=hm;refine wpS_bind (zAK (zAQ (show kb - 1<b.size by omega)) ?_);have hm3:=hm1.pb (show 0<kb by omega) (by omega) λ j h1 h2=>gt1 j (by omega) h2
        by_cases e3:(kb - 1 == 1)=true
        ·rw[if_pos e3]
         exact wpS_pure ⟨⟨_,rfl⟩,.inl ⟨_,rfl,hfirst hm3 (eq_of_beq e3)⟩⟩
        ·rw[if_neg e3]
         have e3':¬kb - 1=1:=by simpa using e3
         refine wpS_bind (zAK (zAQ (show ka - 1<a.size by omega)) ?_);refine wpS_bind (zAq L (left:=true) (f:=λ i=>b.getD (0+i) d0) hk (m.ga_at (by omega)) (λ i hi=>zAQ (by omega)) (λ i hi=>m.gb_at (by omega)) (by omega) (zCq L (m.ga_at (by omega)) (λ i hi=>m.gb_at (by omega)) (λ i j hij hj=>m.b_le L (by omega) (by omega))) λ k1 hk1n hk11 hk12=>?_);dsimp only;have le2:∀i,k1<=i->i<kb - 1->i<b.size->∀j,j<ka->j<a.size->R (b.getD i d0) (a.getD j d0)=false:=λ i hi hib hi2 j h1 h2=>L.tr _ _ _ (m.gb_at hi2) (m.ga_at (show ka - 1<a.size by omega)) (m.ga_at h2) (by have:=hk12 i hi hib;simpa[byd] using this) (m.a_le L (by omega) (by omega));have gt2:∀j,j<k1->j<b.size->R (a.getD (ka - 1) d0) (b.getD j d0)=false:=λ j h1 h2=>L.asym _ _ (m.gb_at h2) (m.ga_at (by omega)) (by have:=hk11 j h1;simpa[byd] using this)
         by_cases ck1:kb - 1 - k1 > 0
         ·rw[if_pos ck1]
          have hm4:=hm3.kb (k:=k1) (by omega) λ i h1 h2 h3 j h4 h5=>le2 i h1 h2 h3 j h4 h5
          by_cases e4:(k1 == 1)=true
          ·rw[if_pos e4]
           exact wpS_pure ⟨⟨_,rfl⟩,.inl ⟨_,rfl,hfirst hm4 (eq_of_beq e4)⟩⟩
          ·rw[if_neg e4]
           have e4':¬k1=1:=by simpa using e4
           by_cases e6:(k1 == 0)=true
           ·rw[if_pos e6]
            exact wpS_pure ⟨⟨_,rfl⟩,.inl ⟨_,rfl,hm4.done (.inr (eq_of_beq e6))⟩⟩
           ·rw[if_neg e6]
            have e6':¬k1=0:=by simpa using e6
            refine wpS_bind (zAK (zAQ (show ka - 1<a.size by omega)) ?_);have hm5:=hm4.pa (show 0<ka by omega) (by omega) λ j h1 h2=>gt2 j (by omega) h2
            by_cases e5:(ka - 1 == 0)=true
            ·rw[if_pos e5]
             exact wpS_pure ⟨⟨_,rfl⟩,.inl ⟨_,rfl,hm5.done (.inl (eq_of_beq e5))⟩⟩
            ·rw[if_neg e5]
             have e5':¬ka - 1=0:=by simpa using e5
             by_cases f:(decide (ka - k<7) && decide (kb - 1 - k1<7))=true
             ·rw[if_pos f]
              exact wpS_pure ⟨⟨_,rfl⟩,.inr ⟨rfl,hm5,(by dsimp only;omega),(by dsimp only;omega),(by dsimp only;omega),(by dsimp only;omega),by dsimp only;omega⟩⟩
             ·rw[if_neg f]
              exact wpS_pure ⟨⟨_,rfl⟩,rfl,hm5,(by dsimp only;omega),(by dsimp only;omega),(by dsimp only;omega),(by dsimp only;omega),by dsimp only;omega⟩
         ·rw[if_neg ck1]
          have:k1=kb - 1:=by omega
          refine wpS_bind (zAK (zAQ (show ka - 1<a.size by omega)) ?_);have hm5:=hm3.pa (show 0<ka by omega) (by omega) λ j h1 h2=>gt2 j (by omega) h2
          by_cases e5:(ka - 1 == 0)=true
          ·rw[if_pos e5]
           exact wpS_pure ⟨⟨_,rfl⟩,.inl ⟨_,rfl,hm5.done (.inl (eq_of_beq e5))⟩⟩
          ·rw[if_neg e5]
           have e5':¬ka - 1=0:=by simpa using e5
           by_cases f:(decide (ka - k<7) && decide (kb - 1 - k1<7))=true
           ·rw[if_pos f]
            exact wpS_pure ⟨⟨_,rfl⟩,.inr ⟨rfl,hm5,(by dsimp only;omega),(by dsimp only;omega),(by dsimp only;omega),(by dsimp only;omega),by dsimp only;omega⟩⟩
           ·rw[if_neg f]
            exact wpS_pure ⟨⟨_,rfl⟩,rfl,hm5,(by dsimp only;omega),(by dsimp only;omega),(by dsimp only;omega),(by dsimp only;omega),by dsimp only;omega⟩
     ·rintro⟨r,ka,kb,o,mg2,ac2,bc2⟩ st3 ⟨⟨g,rfl⟩,rfl,hm,hka,hkb,hka2,hkb2,hcn2⟩
      dsimp only at hm hka hkb hka2 hkb2 hcn2;exfalso;omega
     rintro⟨r,ka,kb,o,mg2,ac2,bc2⟩ st3 ⟨⟨g,rfl⟩,hres⟩;rcases hres with ⟨X,hX,hM⟩|⟨hX,hm,hka,hkb,hka2,hkb2,hcn2⟩
     ·dsimp only at hX
      subst hX;exact wpS_pure ⟨⟨g,rfl⟩,X,rfl,hM⟩
     ·dsimp only at hX hm hka hkb hka2 hkb2 hcn2 ⊢
      subst hX;dsimp only;refine wpS_bind (zBa (wpS_pure ⟨⟨_,rfl⟩,rfl,hm,hka,hkb,hka2,hkb2,?_⟩));dsimp only;omega
   ·rintro⟨r,na,nb,o,mg⟩ st1 ⟨⟨g,rfl⟩,rfl,hm,hia,hib,hia2,hib2,hcnt⟩
    dsimp only at hm hia hib hia2 hib2 hcnt;exfalso;omega
   rintro⟨r,na,nb,o,mg⟩ st1 ⟨⟨g,rfl⟩,X,hX,hM⟩;dsimp only at hX ⊢;subst hX;exact wpS_pure (h X g hM)
end
section
variable {M:Model}{A:Around}{E:XQ}{s:Shared}{κ:SortKind}{G:Keyed->Prop}{R:Keyed->Keyed->Bool}
def SegO (R:Keyed->Keyed->Bool) (xs:Array Keyed) (l u:Nat):Prop:=∀i j,l<=i->i<j->j<u->R (xs.getD j d0) (xs.getD i d0)=false
theorem SegO.le (L:LtE M A E s κ G R) {xs:Array Keyed}{l u:Nat}(h:SegO R xs l u) (g:∀x∈xs.toList,G x) (hu:u<=xs.size) {i j:Nat}(hl:l<=i) (hij:i<=j) (hj:j<u):R (xs.getD j d0) (xs.getD i d0)=false:=by
 by_cases e:i=j
 ·subst e
  have gi:=g _ (zAT (a:=xs) (i:=i) (by omega));cases z:R (xs.getD i d0) (xs.getD i d0) with
  |false=>rfl
  |true=>have:=L.asym _ _ gi gi z;rw[z] at this;cases this
 ·exact h i j hl (by omega) hj
noncomputable def layB (sa:Nat) (ms:List (Keyed × Nat)) (arr:Array Keyed):Array Keyed:=ms.foldl (λ a x=>a.setIfInBounds (sa+x.2) x.1) arr
theorem zEd (sa:Nat):∀(ms:List Keyed) (off:Nat) (arr:Array Keyed) (k:Nat),sa+off+ms.length<=arr.size->(layB sa (ms.zipIdx off) arr)[k]?=if sa+off<=k/\k<sa+off+ms.length then ms[k - (sa+off)]? else arr[k]?
 |[],off,arr,k,h=>by
  rw[if_neg (by simp)];rfl
 |m::ms,off,arr,k,h=>by
  simp only[mN] at h ⊢;have ih:=zEd sa ms (off+1) (arr.setIfInBounds (sa+off) m) k (by simp;omega);have e:layB sa ((m::ms).zipIdx off) arr=layB sa (ms.zipIdx (off+1)) (arr.setIfInBounds (sa+off) m):=rfl;rw[e,ih]
  by_cases c:k=sa+off
  ·subst c
   rw[if_neg (by omega),if_pos (by omega)];simp[Array.getElem?_setIfInBounds,show sa+off<arr.size by omega]
  ·by_cases d:sa+(off+1)<=k/\k<sa+(off+1)+ms.length
   ·rw[if_pos d,if_pos (by omega),show k - (sa+off)=(k - (sa+(off+1)))+1 by omega,List.getElem?_cons_succ]
   ·rw[if_neg d,if_neg (by omega),Array.getElem?_setIfInBounds,if_neg (by omega)]
theorem zIB {sa:Nat}{ms:List Keyed}{arr:Array Keyed}(h:sa+ms.length<=arr.size):(layB sa ms.zipIdx arr).toList=arr.toList.take sa++(ms++arr.toList.drop (sa+ms.length)):=by
 refine List.ext_getElem? λ k=>?_;rw[nN,zEd sa ms 0 arr k (by omega),Nat.add_zero];have l1:(arr.toList.take sa).length=sa:=by rw[mO];simp;omega
 by_cases c:k<sa
 ·rw[if_neg (by omega),mT (by omega),List.getElem?_take,if_pos c,nN]
 ·rw[mU (by omega),l1]
  by_cases d:k<sa+ms.length
  ·rw[if_pos (by omega),mT (by omega)]
  ·rw[if_neg (by omega),mU (by omega),List.getElem?_drop,nN]
   congr 1;omega
theorem zJf {a:Array Keyed}{i n j:Nat}(hn:n<=a.size) (h:i+j<n):(a.extract i n).getD j d0=a.getD (i+j) d0:=by
 have h1:j<(a.extract i n).size:=by rw[Array.size_extract];omega
 simp only[Array.getD,h1,dif_pos,show i+j<a.size by omega];simp
theorem zIH {a:Array Keyed}{i n:Nat}(hn:n<=a.size):(a.extract i n).size=n - i:=by rw[Array.size_extract,Nat.min_eq_left hn]
theorem ol_of {a:Array Keyed}(h:∀i j,i<j->j<a.size->R (a.getD j d0) (a.getD i d0)=false):OL R a.toList:=by
 refine List.pairwise_iff_getElem.mpr λ i j hi hj hij=>?_;have:=h i j hij (by simpa using hj);simpa[Array.getD,show j<a.size by simpa using hj,show i<a.size by simpa using hi] using this
theorem zIA {sa:Nat}{mr arr:Array Keyed}(h:sa+mr.size<=arr.size) (k:Nat):(layB sa mr.toList.zipIdx arr).getD k d0=if sa<=k/\k<sa+mr.size then mr.getD (k - sa) d0 else arr.getD k d0:=by
 have:=zEd sa mr.toList 0 arr k (by simpa using h);rw[Nat.add_zero,Array.length_toList] at this;rw[Array.getD_eq_getD_getElem?,this]
 by_cases c:sa<=k/\k<sa+mr.size
 ·rw[if_pos c,if_pos c,nN,Array.getD_eq_getD_getElem?]
 ·rw[if_neg c,if_neg c,Array.getD_eq_getD_getElem?]
theorem zH5 {a b x:Array Keyed}(h:Mgd R a b x) {i:Nat}(hi:i<x.size):(∃j,j<a.size/\x.getD i d0=a.getD j d0)\/(∃j,j<b.size/\x.getD i d0=b.getD j d0):=by
 have m:=h.2.mem_iff.mp (zAT hi);rcases lK.mp m with m|m
 ·obtain⟨j,_,hj,e⟩:=zBP (i:=0) (by rw[List.drop_zero];exact m)
  exact .inl ⟨j,hj,e⟩
 ·obtain⟨j,_,hj,e⟩:=zBP (i:=0) (by rw[List.drop_zero];exact m)
  exact .inr ⟨j,hj,e⟩
theorem zJk {st1 st:SortSt}{Q:PUnit->SortSt->Prop}(h:Q ⟨⟩ st1):wpS M A E s (set st1:StateT SortSt Sem PUnit) Q st:=by
 unfold wpS;rw[StateT.run_set];exact lB ⟨rfl,h⟩
theorem zGz (L:LtE M A E s κ G R) {i:Nat}{st:SortSt}{sa na pa sb nb pb:Nat}{Q:Bool->SortSt->Prop}(hk:kindOf st=κ) (hf:failedOf st=none) (gl:∀x∈(arrOf st).toList,G x) (p1:(pendingOf st)[i]?=some (sa,na,pa)) (p2:(pendingOf st)[i+1]?=some (sb,nb,pb)) (hs:sa+na=sb) (hn:sb+nb<=(arrOf st).size) (h1:0<na) (h2:0<nb)
  (o1:SegO R (arrOf st) sa sb) (o2:SegO R (arrOf st) sb (sb+nb))
  (h:∀arr g,arr.toList.Perm (arrOf st).toList->(∀j,j<sa\/sb+nb<=j->arr.getD j d0=(arrOf st).getD j d0)->SegO R arr sa (sb+nb)->Q true (SortSt.mk' κ arr (((pendingOf st).setIfInBounds i (sa,na+nb,pa)).eraseIdxIfInBounds (i+1)) g none)):wpS M A E s (mergeAt' i) Q st:=by
 have G1:∀{j:Nat},j<(arrOf st).size->G ((arrOf st).getD j d0):=λ h=>gl _ (zAT h);have le1:∀{i j:Nat},sa<=i->i<=j->j<sb->R ((arrOf st).getD j d0) ((arrOf st).getD i d0)=false:=λ a b c=>o1.le L gl (by omega) a b c;have le2:∀{i j:Nat},sb<=i->i<=j->j<sb+nb->R ((arrOf st).getD j d0) ((arrOf st).getD i d0)=false:=λ a b c=>o2.le L gl hn a b c;refine wpS_bind (wpS_get ?_);rw[p1,p2];dsimp only;refine wpS_bind (zJk ?_);refine wpS_bind (zAK (zAQ (show sb<(arrOf st).size by omega)) ?_);refine wpS_bind (zAq L (left:=false) (f:=λ i=>(arrOf st).getD (sa+i) d0) hk (G1 (by omega)) (λ i hi=>zAQ (a:=arrOf st) (by omega)) (λ i hi=>G1 (by omega)) h1 (zFA L (G1 (by omega)) (λ i hi=>G1 (by omega)) (λ i j hij hj=>le1 (by omega) (by omega) (by omega))) λ k hkn hk1 hk2=>?_);dsimp only;have low:∀i,i<k->R ((arrOf st).getD sb d0) ((arrOf st).getD (sa+i) d0)=false:=λ i hi=>by have:=hk1 i hi;simpa[byd] using this
 have high:∀i,k<=i->i<na->R ((arrOf st).getD sb d0) ((arrOf st).getD (sa+i) d0)=true:=λ i h1 h2=>by have:=hk2 i h1 h2;simpa[byd] using this
 have lowB:∀i j,sa<=i->i<sa+k->sb<=j->j<sb+nb->R ((arrOf st).getD j d0) ((arrOf st).getD i d0)=false:=λ i j a b c d=>by
  have z:=low (i - sa) (by omega);rw[show sa+(i - sa)=i by omega] at z;exact L.tr _ _ _ (G1 (by omega)) (G1 (by omega)) (G1 (by omega)) (le2 (lP _) c d) z
 by_cases c1:(na - k == 0)=true
 ·rw[if_pos c1]
  have c1':na - k=0:=eq_of_beq c1;refine wpS_pure ?_
  have z:=h (arrOf st) (gallopOf st) (.refl _) (λ U U=>rfl) λ i j hi hij hj=>by
   by_cases ci:i<sb
   ·by_cases cj:j<sb
    ·exact le1 hi (by omega) cj
    ·exact lowB i j hi (by omega) (by omega) hj
   ·exact le2 (by omega) (by omega) hj
  rw[←hk,←hf] at z;exact z
 ·rw[if_neg c1]
  have c1':¬na - k=0:=by simpa using c1
  refine wpS_bind (zAK (zAQ (show sa+k+(na - k) - 1<(arrOf st).size by omega)) ?_);have eL:sa+k+(na - k) - 1=sb - 1:=by omega
  rw[eL];refine wpS_bind (zAq L (left:=true) (f:=λ i=>(arrOf st).getD (sb+i) d0) hk (G1 (by omega)) (λ i hi=>zAQ (a:=arrOf st) (by omega)) (λ i hi=>G1 (by omega)) (by omega) (zCq L (G1 (by omega)) (λ i hi=>G1 (by omega)) (λ i j hij hj=>le2 (by omega) (by omega) (by omega))) λ n2 hn2 hn21 hn22=>?_);dsimp only;have below:∀i,i<n2->R ((arrOf st).getD (sb+i) d0) ((arrOf st).getD (sb - 1) d0)=true:=λ i hi=>by have:=hn21 i hi;simpa[byd] using this
  have above:∀i j,sa<=i->i<sb->sb+n2<=j->j<sb+nb->R ((arrOf st).getD j d0) ((arrOf st).getD i d0)=false:=λ i j a b c d=>by
   have z:R ((arrOf st).getD j d0) ((arrOf st).getD (sb - 1) d0)=false:=by
    have:=hn22 (j - sb) (by omega) (by omega);simpa[byd,show sb+(j - sb)=j by omega] using this
   exact L.tr _ _ _ (G1 (by omega)) (G1 (by omega)) (G1 (by omega)) z (le1 a (by omega) (by omega))
  by_cases c2:(n2 == 0)=true
  ·rw[if_pos c2]
   have c2':n2=0:=eq_of_beq c2;refine wpS_pure ?_
   have z:=h (arrOf st) (gallopOf st) (.refl _) (λ U U=>rfl) λ i j hi hij hj=>by
    by_cases ci:i<sb
    ·by_cases cj:j<sb
     ·exact le1 hi (by omega) cj
     ·exact above i j hi ci (by omega) hj
    ·exact le2 (by omega) (by omega) hj
   rw[←hk,←hf] at z;exact z
  ·rw[if_neg c2]
   have c2':¬n2=0:=by simpa using c2
   have sx:((arrOf st).extract (sa+k) sb).size=sb - (sa+k):=zIH (by omega);have sy:((arrOf st).extract sb (sb+n2)).size=n2:=by rw[zIH (by omega)];omega
   have gx:∀{j:Nat},j<sb - (sa+k)->((arrOf st).extract (sa+k) sb).getD j d0=(arrOf st).getD (sa+k+j) d0:=λ hj=>zJf (by omega) (by omega);have gy:∀{j:Nat},j<n2->((arrOf st).extract sb (sb+n2)).getD j d0=(arrOf st).getD (sb+j) d0:=λ hj=>zJf (by omega) (by omega)
   have mem:∀{i n:Nat}{x:Keyed},x∈((arrOf st).extract i n).toList->G x:=λ{i n x} hx=>by
    rw[Array.toList_extract,List.extract_eq_take_drop] at hx;exact gl x (List.mem_of_mem_drop (List.mem_of_mem_take hx))
   have m:ML R G ((arrOf st).extract (sa+k) sb) ((arrOf st).extract sb (sb+n2)):=⟨λ x=>mem,λ x=>mem,ol_of λ i j hij hj=>by
     rw[sx] at hj;rw[gx (by omega),gx (by omega)];exact le1 (by omega) (by omega) (by omega),ol_of λ i j hij hj=>by
     rw[sy] at hj;rw[gy (by omega),gy (by omega)];exact le2 (by omega) (by omega) (by omega)⟩
   have q0:∀i,i<((arrOf st).extract (sa+k) sb).size->R (((arrOf st).extract (sa+k) sb).getD i d0) (((arrOf st).extract sb (sb+n2)).getD 0 d0)=false:=λ i hi=>by
    rw[sx] at hi;rw[gx hi,gy (by omega)];refine L.asym _ _ (G1 (by omega)) (G1 (by omega)) ?_;have:=high (k+i) (by omega) (by omega);rw[←Nat.add_assoc] at this;exact this
   have q1:∀j,j<((arrOf st).extract sb (sb+n2)).size->R (((arrOf st).extract (sa+k) sb).getD (((arrOf st).extract (sa+k) sb).size - 1) d0) (((arrOf st).extract sb (sb+n2)).getD j d0)=false:=λ j hj=>by
    rw[sy] at hj;rw[sx,gx (by omega),gy hj,show sa+k+(sb - (sa+k) - 1)=sb - 1 by omega];exact L.asym _ _ (G1 (by omega)) (G1 (by omega)) (below j hj)
   have mfin:∀mr,Mgd R ((arrOf st).extract (sa+k) sb) ((arrOf st).extract sb (sb+n2)) mr->(layB (sa+k) mr.toList.zipIdx (arrOf st)).toList.Perm (arrOf st).toList/\(∀j,j<sa\/sb+nb<=j->(layB (sa+k) mr.toList.zipIdx (arrOf st)).getD j d0=(arrOf st).getD j d0)/\SegO R (layB (sa+k) mr.toList.zipIdx (arrOf st)) sa (sb+nb):=λ mr hM=>by
    have sm:mr.size=sb+n2 - (sa+k):=by
     have:=hM.2.length_eq;rw[mL,Array.length_toList,Array.length_toList,Array.length_toList,sx,sy] at this;omega
    refine⟨?_,λ j hj=>?_,λ i j hi hij hj=>?_⟩
    ·rw[zIB (by rw[Array.length_toList,sm];omega)]
     have e:(arrOf st).toList=(arrOf st).toList.take (sa+k)++(((arrOf st).extract (sa+k) sb).toList++((arrOf st).extract sb (sb+n2)).toList++(arrOf st).toList.drop (sa+k+mr.toList.length)):=by
      rw[Array.length_toList,sm,Array.toList_extract,Array.toList_extract,List.extract_eq_take_drop,List.extract_eq_take_drop];have e1:((arrOf st).toList.drop sb).take (sb+n2 - sb)=(((arrOf st).toList.drop (sa+k)).drop (sb - (sa+k))).take (n2):=by rw[List.drop_drop,show sa+k+(sb - (sa+k))=sb by omega,Nat.add_sub_cancel_left]
      have e2:(arrOf st).toList.drop (sa+k+(sb+n2 - (sa+k)))=(((arrOf st).toList.drop (sa+k)).drop (sb - (sa+k))).drop n2:=by rw[List.drop_drop,List.drop_drop];congr 1;omega
      rw[e1,e2,mZ,List.take_append_drop,List.take_append_drop,List.take_append_drop]
     conv=>rhs;rw[e]
     exact List.Perm.append_left _ (List.Perm.append_right _ hM.2)
    ·rw[zIA (by omega),if_neg (by omega)]
    ·rw[zIA (by omega),zIA (by omega)]
     by_cases ci:sa+k<=i/\i<sa+k+mr.size
     ·rw[if_pos ci]
      by_cases cj:sa+k<=j/\j<sa+k+mr.size
      ·rw[if_pos cj]
       exact ol_at hM.1 (by omega) (by omega)
      ·rw[if_neg cj]
       rcases zH5 hM (i:=i - (sa+k)) (by omega) with ⟨t,ht,et⟩|⟨t,ht,et⟩
       ·rw[sx] at ht
        rw[et,gx ht];exact above _ j (by omega) (by omega) (by omega) hj
       ·rw[sy] at ht
        rw[et,gy ht];exact le2 (by omega) (by omega) hj
     ·rw[if_neg ci]
      by_cases cj:sa+k<=j/\j<sa+k+mr.size
      ·rw[if_pos cj]
       rcases zH5 hM (i:=j - (sa+k)) (by omega) with ⟨t,ht,et⟩|⟨t,ht,et⟩
       ·rw[sx] at ht
        rw[et,gx ht];exact le1 hi (by omega) (by omega)
       ·rw[sy] at ht
        rw[et,gy ht];exact lowB i _ hi (by omega) (by omega) (by omega)
      ·rw[if_neg cj]
       by_cases di:i<sa+k
       ·by_cases dj:j<sb
        ·exact le1 hi (by omega) dj
        ·exact lowB i j hi di (by omega) hj
       ·exact le2 (by omega) (by omega) hj
   by_cases c3:na - k<=n2
   ·rw[if_pos c3]
    refine wpS_bind (zGx L (a:=(arrOf st).extract (sa+k) sb) (b:=(arrOf st).extract sb (sb+n2)) hk m (by omega) (by omega) q0 q1 λ mr g hM=>?_);refine wpS_bind (wpS_modify (wpS_bind (wpS_get ?_)));refine wpS_pure ?_;show Q (failedOf st).isNone (SortSt.mk' (kindOf st) (layB (sa+k) mr.toList.zipIdx (arrOf st)) _ g (failedOf st));rw[hf,hk];exact h _ g (mfin mr hM).1 (mfin mr hM).2.1 (mfin mr hM).2.2
   ·rw[if_neg c3]
    refine wpS_bind (zGy L (a:=(arrOf st).extract (sa+k) sb) (b:=(arrOf st).extract sb (sb+n2)) hk m (by omega) (by omega) q0 q1 λ mr g hM=>?_);refine wpS_bind (wpS_modify (wpS_bind (wpS_get ?_)));refine wpS_pure ?_;show Q (failedOf st).isNone (SortSt.mk' (kindOf st) (layB (sa+k) mr.toList.zipIdx (arrOf st)) _ g (failedOf st));rw[hf,hk];exact h _ g (mfin mr hM).1 (mfin mr hM).2.1 (mfin mr hM).2.2
end
section
variable {M:Model}{A:Around}{E:XQ}{s:Shared}{κ:SortKind}{G:Keyed->Prop}{R:Keyed->Keyed->Bool}
theorem zAz (L:LtE M A E s κ G R) {st:SortSt}{i j:Nat}{Q:Option Bool->SortSt->Prop}(hk:kindOf st=κ) (gl:∀x∈(arrOf st).toList,G x) (hi:i<(arrOf st).size) (hj:j<(arrOf st).size) (h:Q (some (R ((arrOf st).getD i d0) ((arrOf st).getD j d0))) st):wpS M A E s (ltAt' i j) Q st:=by
 rw[ltAt'_eq];refine wpS_bind (wpS_get (wpS_bind (zAK (zAQ hi) (wpS_bind (zAK (zAQ hj) ?_)))));exact L.lt _ _ (gl _ (zAT hi)) (gl _ (zAT hj)) _ _ hk h
theorem zFB {xs:Array Keyed}{i j:Nat}(hj:j<=xs.size) (k:Nat):(mirror xs i j ((j - i) / 2)).getD k d0=if i<=k/\k<j then xs.getD (i+j - 1 - k) d0 else xs.getD k d0:=by
 rw[Array.getD_eq_getD_getElem?,getElem?_mirror_all hj]
 by_cases c:i<=k/\k<j
 ·rw[if_pos c,if_pos c,Array.getD_eq_getD_getElem?]
 ·rw[if_neg c,if_neg c,Array.getD_eq_getD_getElem?]
theorem zIW {xs:Array Keyed}{src n:Nat}(h:src<xs.size) (hn:n<=src) (k:Nat):(bubble xs src n).getD k d0=if k=src - n then xs.getD src d0 else if src - n<k/\k<=src then xs.getD (k - 1) d0 else xs.getD k d0:=by
 rw[Array.getD_eq_getD_getElem?,getElem?_bubble h n hn]
 by_cases c:k=src - n
 ·rw[if_pos c,if_pos c,Array.getD_eq_getD_getElem?]
 ·rw[if_neg c,if_neg c]
  by_cases d:src - n<k/\k<=src
  ·rw[if_pos d,if_pos d,Array.getD_eq_getD_getElem?]
  ·rw[if_neg d,if_neg d,Array.getD_eq_getD_getElem?]
structure Agr (xs ys:Array Keyed) (l u:Nat):Prop where
 perm:ys.toList.Perm xs.toList
 out:∀j,j<l\/u<=j->ys.getD j d0=xs.getD j d0
theorem Agr.refl (xs:Array Keyed) (l u:Nat):Agr xs xs l u:=⟨.refl _,λ U U=>rfl⟩
theorem Agr.trans {xs ys zs:Array Keyed}{l u:Nat}(a:Agr xs ys l u) (b:Agr ys zs l u):Agr xs zs l u:=⟨b.perm.trans a.perm,λ j hj=>(b.out j hj).trans (a.out j hj)⟩
theorem Agr.wide {xs ys:Array Keyed}{l u l' u':Nat}(a:Agr xs ys l u) (hl:l'<=l) (hu:u<=u'):Agr xs ys l' u':=⟨a.perm,λ j hj=>a.out j (by omega)⟩
theorem Agr.size {xs ys:Array Keyed}{l u:Nat}(a:Agr xs ys l u):ys.size=xs.size:=by have:=a.perm.length_eq;simpa using this
theorem Agr.gl {xs ys:Array Keyed}{l u:Nat}(a:Agr xs ys l u) (g:∀x∈xs.toList,G x):∀x∈ys.toList,G x:=λ x hx=>g x (a.perm.mem_iff.mp hx)
theorem zB6 {xs:Array Keyed}{i j:Nat}(hj:j<=xs.size):Agr xs (mirror xs i j ((j - i) / 2)) i j:=⟨Array.perm_iff_toList_perm.mp (mirror_perm _ _ _ _),λ k hk=>by rw[zFB hj,if_neg (by omega)]⟩
theorem zK4 {xs:Array Keyed}{src n:Nat}(h:src<xs.size) (hn:n<=src):Agr xs (bubble xs src n) (src - n) (src+1):=⟨Array.perm_iff_toList_perm.mp (bubble_perm _ _ _),λ k hk=>by rw[zIW h hn,if_neg (by omega),if_neg (by omega)]⟩
def DsO (R:Keyed->Keyed->Bool) (xs:Array Keyed) (l u:Nat):Prop:=∀i j,l<=i->i<j->j<u->R (xs.getD i d0) (xs.getD j d0)=false
def EqO (R:Keyed->Keyed->Bool) (xs:Array Keyed) (l u:Nat):Prop:=∀i j,l<=i->i<u->l<=j->j<u->R (xs.getD i d0) (xs.getD j d0)=false
theorem zC0 (L:LtE M A E s κ G R) {x:Keyed}(g:G x):R x x=false:=by
 cases z:R x x with
 |false=>rfl
 |true=>have:=L.asym _ _ g g z;rw[z] at this;cases this
theorem SegO.more (L:LtE M A E s κ G R) {xs:Array Keyed}{l u:Nat}(g:∀x∈xs.toList,G x) (hu:u<xs.size) (hlu:l<u) (h:SegO R xs l u) (e:R (xs.getD u d0) (xs.getD (u - 1) d0)=false):SegO R xs l (u+1):=λ i j hi hij hj=>by
 by_cases c:j=u
 ·subst c
  by_cases d:i=j - 1
  ·rw[d];exact e
  ·exact L.tr _ _ _ (g _ (zAT (by omega))) (g _ (zAT (by omega))) (g _ (zAT (by omega))) e (h i (j - 1) hi (by omega) (by omega))
 ·exact h i j hi hij (by omega)
theorem DsO.more (L:LtE M A E s κ G R) {xs:Array Keyed}{l u:Nat}(g:∀x∈xs.toList,G x) (hu:u<xs.size) (hlu:l<u) (h:DsO R xs l u) (e:R (xs.getD (u - 1) d0) (xs.getD u d0)=false):DsO R xs l (u+1):=λ i j hi hij hj=>by
 by_cases c:j=u
 ·subst c
  by_cases d:i=j - 1
  ·rw[d];exact e
  ·exact L.tr _ _ _ (g _ (zAT (by omega))) (g _ (zAT (by omega))) (g _ (zAT (by omega))) (h i (j - 1) hi (by omega) (by omega)) e
 ·exact h i j hi hij (by omega)
theorem zDl {xs:Array Keyed}{l a k m:Nat}(hla:l<=a) (hkm:k<=m) (hk:k<=xs.size) (h:DsO R xs l m) (e:EqO R xs a k):DsO R (mirror xs a k ((k - a) / 2)) l m:=λ i j hi hij hj=>by
 rw[zFB hk,zFB hk]
 by_cases ci:a<=i/\i<k
 ·rw[if_pos ci]
  by_cases cj:a<=j/\j<k
  ·rw[if_pos cj];exact e _ _ (by omega) (by omega) (by omega) (by omega)
  ·rw[if_neg cj];exact h _ _ (by omega) (by omega) hj
 ·rw[if_neg ci]
  by_cases cj:a<=j/\j<k
  ·rw[if_pos cj];exact h _ _ hi (by omega) (by omega)
  ·rw[if_neg cj];exact h _ _ hi hij hj
theorem zES {xs:Array Keyed}{l u:Nat}(hu:u<=xs.size) (h:DsO R xs l u):SegO R (mirror xs l u ((u - l) / 2)) l u:=λ i j hi hij hj=>by
 rw[zFB hu,zFB hu,if_pos (by omega),if_pos (by omega)];exact h _ _ (by omega) (by omega) (by omega)
theorem zBV {st:SortSt}{arr:Array Keyed}{i j:Nat}{Q:Unit->SortSt->Prop}(h:Q () (setArr st (mirror arr i j ((j - i) / 2)))):wpS M A E s (reverseSlice' i j) Q (setArr st arr):=by
 rw[reverseSlice'_eq];exact wpS_modify h
theorem zHF {st:SortSt}{arr:Array Keyed}{i j:Nat}{Q:Unit->SortSt->Prop}(h:Q () (setArr st (bubble arr i (i - j)))):wpS M A E s (moveDown' i j) Q (setArr st arr):=by
 rw[moveDown'_eq];exact wpS_modify h
theorem zIY (L:LtE M A E s κ G R) {st:SortSt}{lo n ok:Nat}{Q:Bool->SortSt->Prop}(hk:kindOf st=κ) (gl:∀x∈(arrOf st).toList,G x) (hn:lo+n<=(arrOf st).size) (h1:1<=ok) (hok:ok<=n) (hs:SegO R (arrOf st) lo (lo+ok))
  (h:∀arr,Agr (arrOf st) arr lo (lo+n)->SegO R arr lo (lo+n)->Q true (setArr st arr)):wpS M A E s (binarySort' lo n ok) Q st:=by
 rw[binarySort'_eq];refine wpS_bind (wpS_mono (wpS_forRange (I:=λ k (c:Option Bool × Unit) st'=>∃arr,st'=setArr st arr/\c.1=none/\Agr (arrOf st) arr lo (lo+n)/\SegO R arr lo (lo+k)) (Q:=λ c st'=>∃arr,st'=setArr st arr/\c.1=none/\Agr (arrOf st) arr lo (lo+n)/\SegO R arr lo (lo+n)) ?_ ?_ ⟨arrOf st,rfl,rfl,Agr.refl _ _ _,by rw[Nat.max_eq_left h1];exact hs⟩) ?_)
 ·rintro k ⟨r,u⟩ st' hk1 hk2 ⟨arr,rfl,rfl,ag,sg⟩
  have sz:=ag.size;have ga:=ag.gl gl;dsimp only at sg ⊢
  refine wpS_bind (wpS_mono (wpS_forRange (I:=λ i (c:Option Bool × Nat × Nat) st2=>st2=setArr st arr/\c.1=none/\c.2.1<=c.2.2/\c.2.2<=k/\c.2.2 - c.2.1<=k - i/\(∀j,j<c.2.1->R (arr.getD (lo+k) d0) (arr.getD (lo+j) d0)=false)/\(∀j,c.2.2<=j->j<k->R (arr.getD (lo+j) d0) (arr.getD (lo+k) d0)=false))
   (Q:=λ c st2=>st2=setArr st arr/\c.1=none/\c.2.1<=k/\(∀j,j<c.2.1->R (arr.getD (lo+k) d0) (arr.getD (lo+j) d0)=false)/\(∀j,c.2.1<=j->j<k->R (arr.getD (lo+j) d0) (arr.getD (lo+k) d0)=false)) ?_ ?_ ⟨rfl,rfl,lX _,lP _,lP _,(λ j hj=>by dsimp only at hj;omega),(λ j h1 h2=>by dsimp only at h1;omega)⟩) ?_)
  ·rintro i ⟨r,l,u⟩ st2 _ hi ⟨rfl,rfl,q1,q2,q3,q4,q5⟩
   dsimp only at q1 q2 q3 q4 q5 ⊢
   by_cases c:l ≥ u
   ·rw[if_pos c]
    exact wpS_pure ⟨rfl,rfl,(by dsimp only;omega),q4,λ j j1 j2=>q5 j (by dsimp only at j1;omega) j2⟩
   ·rw[if_neg c]
    refine wpS_bind (zAz L (st:=setArr st arr) hk ga (show lo+k<arr.size by omega) (show lo+(l+u) / 2<arr.size by omega) ?_);dsimp only;cases z:R (arr.getD (lo+k) d0) (arr.getD (lo+(l+u) / 2) d0) with
    |true =>
     have z':=L.asym _ _ (ga _ (zAT (by omega))) (ga _ (zAT (by omega))) z
     exact wpS_pure ⟨rfl,rfl,(by dsimp only;omega),(by dsimp only;omega),(by dsimp only;omega),q4,λ j j1 j2=>by
      dsimp only at j1;exact L.tr _ _ _ (ga _ (zAT (by omega))) (ga _ (zAT (by omega))) (ga _ (zAT (by omega))) (sg.le L ga (by omega) (by omega) (by omega) (by omega)) z'⟩
    |false =>
     exact wpS_pure ⟨rfl,rfl,(by dsimp only;omega),(by dsimp only;omega),(by dsimp only;omega),(λ j j1=>by
      dsimp only at j1;exact L.tr _ _ _ (ga _ (zAT (by omega))) (ga _ (zAT (by omega))) (ga _ (zAT (by omega))) z (sg.le L ga (by omega) (by omega) (by omega) (by omega))),q5⟩
  ·rintro⟨r,l,u⟩ st2 ⟨rfl,rfl,q1,q2,q3,q4,q5⟩
   dsimp only at q1 q2 q3 q4 q5 ⊢;exact⟨rfl,rfl,(by omega),q4,λ j j1 j2=>q5 j (by omega) j2⟩
  rintro⟨r,l,u⟩ st2 ⟨rfl,rfl,q2,q4,q5⟩;dsimp only at q2 q4 q5 ⊢;refine wpS_bind (zHF (wpS_pure ⟨_,rfl,rfl,ag.trans ((zK4 (src:=lo+k) (n:=lo+k - (lo+l)) (by omega) (by omega)).wide (by omega) (by omega)),?_⟩));intro i j hi hij hj;rw[zIW (by omega) (by omega),zIW (by omega) (by omega)];have es:lo+k - (lo+k - (lo+l))=lo+l:=by omega
  rw[es]
  by_cases i1:i=lo+l
  ·rw[if_pos i1,if_neg (by omega),if_pos ⟨by omega,by omega⟩]
   have:=q5 (j - 1 - lo) (by omega) (by omega);rw[show lo+(j - 1 - lo)=j - 1 by omega] at this;exact this
  ·rw[if_neg i1]
   by_cases j1:j=lo+l
   ·rw[if_pos j1,if_neg (by omega)]
    have:=q4 (i - lo) (by omega);rw[show lo+(i - lo)=i by omega] at this;exact this
   ·rw[if_neg j1]
    by_cases i2:lo+l<i/\i<=lo+k
    ·rw[if_pos i2,if_pos ⟨by omega,by omega⟩]
     exact sg (i - 1) (j - 1) (by omega) (by omega) (by omega)
    ·rw[if_neg i2]
     by_cases j2:lo+l<j/\j<=lo+k
     ·rw[if_pos j2]
      exact sg i (j - 1) hi (by omega) (by omega)
     ·rw[if_neg j2]
      exact sg i j hi hij (by omega)
 ·rintro⟨r,u⟩ st' ⟨arr,rfl,rfl,ag,sg⟩
  exact⟨arr,rfl,rfl,ag,by rw[show max (max ok 1) n=n by omega] at sg;exact sg⟩
 rintro⟨r,u⟩ st' ⟨arr,rfl,rfl,ag,sg⟩;exact wpS_pure (h arr ag sg)
theorem zJM (L:LtE M A E s κ G R) {st:SortSt}{lo nrem:Nat}{Q:Option Nat->SortSt->Prop}(hk:kindOf st=κ) (gl:∀x∈(arrOf st).toList,G x) (hn:lo+nrem<=(arrOf st).size) (h1:1<=nrem)
  (h:∀n arr,1<=n->n<=nrem->Agr (arrOf st) arr lo (lo+nrem)->SegO R arr lo (lo+n)->Q (some n) (setArr st arr)):wpS M A E s (countRun' lo nrem) Q st:=by
 rw[countRun'_eq];have sg0:SegO R (arrOf st) lo (lo+1):=λ i j hi hij hj=>by omega
 refine wpS_bind (wpS_mono (wpS_forRange (I:=λ i (c:Option (Option Nat) × Nat) st2=>st2=setArr st (arrOf st)/\c.1=none/\c.2=i/\1<=c.2/\c.2<=nrem/\SegO R (arrOf st) lo (lo+c.2)) (Q:=λ c st2=>st2=setArr st (arrOf st)/\c.1=none/\1<=c.2/\c.2<=nrem/\SegO R (arrOf st) lo (lo+c.2)/\(c.2<nrem->R ((arrOf st).getD (lo+c.2) d0) ((arrOf st).getD (lo+c.2 - 1) d0)=true)) ?_ ?_ ⟨rfl,rfl,rfl,lP _,h1,sg0⟩) ?_)
 ·rintro i ⟨r,n⟩ st2 _ hi ⟨rfl,rfl,rfl,q1,q2,q3⟩
  dsimp only at q1 q2 q3 hi ⊢;refine wpS_bind (zAz L (st:=setArr st (arrOf st)) hk gl (show lo+n<(arrOf st).size by omega) (show lo+n - 1<(arrOf st).size by omega) ?_);dsimp only;cases z:R ((arrOf st).getD (lo+n) d0) ((arrOf st).getD (lo+n - 1) d0) with
  |true=>exact wpS_pure ⟨rfl,rfl,q1,q2,q3,λ U=>z⟩
  |false=>exact wpS_pure ⟨rfl,rfl,rfl,(by dsimp only;omega),(by dsimp only;omega),q3.more (u:=lo+n) L gl (by omega) (by omega) z⟩
 ·rintro⟨r,n⟩ st2 ⟨rfl,rfl,q0,q1,q2,q3⟩
  dsimp only at q0 q1 q2 q3 ⊢;exact⟨rfl,rfl,q1,q2,q3,λ z=>by omega⟩
 rintro⟨r,m⟩ st2 ⟨rfl,rfl,q1,q2,q3,q4⟩;dsimp only at q1 q2 q3 q4 ⊢
 by_cases e0:(m == nrem)=true
 ·rw[if_pos e0]
  exact wpS_pure (h m (arrOf st) q1 q2 (Agr.refl _ _ _) q3)
 ·rw[if_neg e0]
  have e0':¬m=nrem:=by simpa using e0
  have lm:=q4 (by omega);have gm:=L.asym _ _ (gl _ (zAT (by omega))) (gl _ (zAT (by omega))) lm
  by_cases e1:m > 1
  ·rw[if_pos e1]
   refine wpS_bind (zAz L (st:=setArr st (arrOf st)) hk gl (show lo<(arrOf st).size by omega) (show lo+m - 1<(arrOf st).size by omega) ?_);dsimp only;cases z:R ((arrOf st).getD lo d0) ((arrOf st).getD (lo+m - 1) d0) with
   |true=>exact wpS_pure (h m (arrOf st) q1 q2 (Agr.refl _ _ _) q3)
   |false =>
    rw[if_neg (by simp)];have le0:∀j,lo<=j->j<lo+m->R ((arrOf st).getD lo d0) ((arrOf st).getD j d0)=false:=λ j j1 j2=>L.tr _ _ _ (gl _ (zAT (by omega))) (gl _ (zAT (by omega))) (gl _ (zAT (by omega))) z (q3.le L gl (by omega) j1 (by omega) (by omega));have eq:EqO R (arrOf st) lo (lo+m):=λ i j i1 i2 j1 j2=>L.tr _ _ _ (gl _ (zAT (by omega))) (gl _ (zAT (by omega))) (gl _ (zAT (by omega))) (q3.le L gl (by omega) (lP _) i1 i2) (le0 j j1 j2)
    have ds:DsO R (arrOf st) lo (lo+m+1):=λ i j i1 ij j2=>by
     by_cases c:j=lo+m
     ·rw[c]
      exact L.tr _ _ _ (gl _ (zAT (by omega))) (gl _ (zAT (by omega))) (gl _ (zAT (by omega))) (eq i (lo+m - 1) i1 (by omega) (by omega) (by omega)) gm
     ·exact eq i j i1 (by omega) (by omega) (by omega)
    refine wpS_bind (zBV ?_);have ag0:Agr (arrOf st) (mirror (arrOf st) lo (lo+m) ((lo+m - lo) / 2)) lo (lo+nrem):=(zB6 (by omega)).wide (by omega) (by omega);have ds0:=zDl (l:=lo) (lP _) (show lo+m<=lo+(m+1) by omega) (by omega) ds eq;generalize mirror (arrOf st) lo (lo+m) ((lo+m - lo) / 2)=arr0 at ag0 ds0 ⊢;refine wpS_bind (zBx ?_)
    refine wpS_bind (wpS_mono (wpS_forRange (I:=λ i (c:Option (Option Nat) × Nat × Nat) st2=>∃arr,st2=setArr st arr/\c.1=none/\c.2.1=i/\c.2.1<=nrem/\Agr (arrOf st) arr lo (lo+nrem)/\DsO R arr lo (lo+c.2.1)/\c.2.2+1<=c.2.1/\EqO R arr (lo+c.2.1 - (c.2.2+1)) (lo+c.2.1)) (Q:=λ c st2=>∃arr,st2=setArr st arr/\c.1=none/\c.2.1<=nrem/\Agr (arrOf st) arr lo (lo+nrem)/\DsO R arr lo (lo+c.2.1)/\c.2.2+1<=c.2.1/\EqO R arr (lo+c.2.1 - (c.2.2+1)) (lo+c.2.1)) ?_ ?_ ⟨arr0,rfl,rfl,rfl,(by dsimp only;omega),ag0,ds0,(by dsimp only;omega),λ i j i1 i2 j1 j2=>by
      dsimp only at i1 i2 j1 j2;have e1:i=lo+m:=by omega
      have e2:j=lo+m:=by omega
      rw[e1,e2];exact zC0 L (ag0.gl gl _ (zAT (by have:=ag0.size;omega)))⟩) ?_)
    ·rintro i ⟨r,n,q⟩ st2 _ hi ⟨arr,rfl,rfl,rfl,q2,ag,ds,hq,eb⟩
     dsimp only at q2 ds hq eb hi ⊢;have ga:=ag.gl gl;have sz:=ag.size;refine wpS_bind (zAz L (st:=setArr st arr) hk ga (show lo+n<arr.size by omega) (show lo+n - 1<arr.size by omega) ?_);dsimp only
     have one:∀{xs:Array Keyed},Agr (arrOf st) xs lo (lo+nrem)->EqO R xs (lo+(n+1) - (0+1)) (lo+(n+1)):=λ{xs} agx i j i1 i2 j1 j2=>by
      have e1:i=lo+n:=by omega
      have e2:j=lo+n:=by omega
      rw[e1,e2];exact zC0 L (agx.gl gl _ (zAT (by have:=agx.size;omega)))
     cases z:R (arr.getD (lo+n) d0) (arr.getD (lo+n - 1) d0) with
     |true =>
      have d2:=ds.more L ga (by omega) (by omega) (L.asym _ _ (ga _ (zAT (by omega))) (ga _ (zAT (by omega))) z);rw[if_pos rfl]
      by_cases c:q > 0
      ·rw[if_pos c]
       have ag3:=ag.trans ((zB6 (xs:=arr) (i:=lo+n - (q+1)) (j:=lo+n) (by omega)).wide (by omega) (by omega));exact wpS_bind (zBV (wpS_pure ⟨_,rfl,rfl,rfl,(by dsimp only;omega),ag3,zDl (m:=lo+n+1) (by omega) (by omega) (by omega) d2 eb,(by dsimp only;omega),one ag3⟩))
      ·rw[if_neg c]
       exact wpS_pure ⟨_,rfl,rfl,rfl,(by dsimp only;omega),ag,d2,(by dsimp only;omega),one ag⟩
     |false =>
      rw[if_neg (by simp)];refine wpS_bind (zAz L (st:=setArr st arr) hk ga (show lo+n - 1<arr.size by omega) (show lo+n<arr.size by omega) ?_);dsimp only;cases z2:R (arr.getD (lo+n - 1) d0) (arr.getD (lo+n) d0) with
      |true=>exact wpS_pure ⟨_,rfl,rfl,q2,ag,ds,hq,eb⟩
      |false =>
       have d2:=ds.more L ga (by omega) (by omega) z2;refine wpS_pure ⟨_,rfl,rfl,rfl,(by dsimp only;omega),ag,d2,(by dsimp only;omega),λ i j i1 i2 j1 j2=>?_⟩;dsimp only at i1 i2 j1 j2;have b1:∀i,lo+n - (q+1)<=i->i<lo+n->R (arr.getD i d0) (arr.getD (lo+n) d0)=false:=λ i i1 i2=>L.tr _ _ _ (ga _ (zAT (by omega))) (ga _ (zAT (by omega))) (ga _ (zAT (by omega))) (eb i (lo+n - 1) i1 i2 (by omega) (by omega)) z2;have b2:∀i,lo+n - (q+1)<=i->i<lo+n->R (arr.getD (lo+n) d0) (arr.getD i d0)=false:=λ i i1 i2=>L.tr _ _ _ (ga _ (zAT (by omega))) (ga _ (zAT (by omega))) (ga _ (zAT (by omega))) z (eb (lo+n - 1) i (by omega) (by omega) i1 i2)
       by_cases ci:i=lo+n
       ·by_cases cj:j=lo+n
        ·rw[ci,cj];exact zC0 L (ga _ (zAT (by omega)))
        ·rw[ci];exact b2 j (by omega) (by omega)
       ·by_cases cj:j=lo+n
        ·rw[cj];exact b1 i (by omega) (by omega)
        ·exact eb i j (by omega) (by omega) (by omega) (by omega)
    ·rintro⟨r,n,q⟩ st2 ⟨arr,rfl,rfl,q0,q2,ag,ds,hq,eb⟩
     exact⟨arr,rfl,rfl,q2,ag,ds,hq,eb⟩
    rintro⟨r,n2,q⟩ st2 ⟨arr,rfl,rfl,q2,ag,ds,hq,eb⟩;dsimp only at q2 ds hq eb ⊢;have sz:=ag.size
    by_cases c:q > 0
    ·rw[if_pos c]
     have ag3:=ag.trans ((zB6 (xs:=arr) (i:=lo+n2 - (q+1)) (j:=lo+n2) (by omega)).wide (by omega) (by omega));have sz3:=ag3.size;have d3:=zDl (l:=lo) (by omega) (lP (lo+n2)) (by omega) ds eb;refine wpS_bind (zBV (wpS_bind (zBV ?_)));have ag2:=ag3.trans ((zB6 (i:=lo) (j:=lo+n2) (by omega)).wide (by omega) (by omega));have sg2:=zES (by omega) d3;generalize mirror (mirror arr (lo+n2 - (q+1)) (lo+n2) ((lo+n2 - (lo+n2 - (q+1))) / 2)) lo (lo+n2) ((lo+n2 - lo) / 2)=arr2 at ag2 sg2 ⊢;have ga2:=ag2.gl gl;have sz2:=ag2.size;refine wpS_bind (wpS_mono (wpS_forRange (I:=λ i (c:Option (Option Nat) × Nat) st2=>st2=setArr st arr2/\c.1=none/\c.2=i/\1<=c.2/\c.2<=nrem/\SegO R arr2 lo (lo+c.2)) (Q:=λ c st2=>st2=setArr st arr2/\c.1=none/\1<=c.2/\c.2<=nrem/\SegO R arr2 lo (lo+c.2)/\(c.2<nrem->R (arr2.getD (lo+c.2) d0) (arr2.getD (lo+c.2 - 1) d0)=true)) ?_ ?_ ⟨rfl,rfl,rfl,(by dsimp only;omega),(by dsimp only;omega),sg2⟩) ?_)
     ·rintro i ⟨r,n⟩ st2 _ hi ⟨rfl,rfl,rfl,q1,q2,q3⟩
      dsimp only at q1 q2 q3 hi ⊢;refine wpS_bind (zAz L (st:=setArr st arr2) hk ga2 (show lo+n<arr2.size by omega) (show lo+n - 1<arr2.size by omega) ?_);dsimp only;cases z:R (arr2.getD (lo+n) d0) (arr2.getD (lo+n - 1) d0) with
      |true=>exact wpS_pure ⟨rfl,rfl,q1,q2,q3,λ U=>z⟩
      |false=>exact wpS_pure ⟨rfl,rfl,rfl,(by dsimp only;omega),(by dsimp only;omega),q3.more (u:=lo+n) L ga2 (by omega) (by omega) z⟩
     ·rintro⟨r,n⟩ st2 ⟨rfl,rfl,q0,q1,q2,q3⟩
      dsimp only at q0 q1 q2 q3 ⊢;exact⟨rfl,rfl,q1,q2,q3,λ z=>by omega⟩
     rintro⟨r,n⟩ st2 ⟨rfl,rfl,q1,q2,q3,q4⟩;dsimp only at q1 q2 q3 q4 ⊢;exact wpS_pure (h n arr2 q1 q2 ag2 q3)
    ·rw[if_neg c]
     refine wpS_bind (zBV ?_);have ag2:=ag.trans ((zB6 (xs:=arr) (i:=lo) (j:=lo+n2) (by omega)).wide (by omega) (by omega));have sg2:=zES (by omega) ds;generalize mirror arr lo (lo+n2) ((lo+n2 - lo) / 2)=arr2 at ag2 sg2 ⊢;have ga2:=ag2.gl gl;have sz2:=ag2.size;refine wpS_bind (wpS_mono (wpS_forRange (I:=λ i (c:Option (Option Nat) × Nat) st2=>st2=setArr st arr2/\c.1=none/\c.2=i/\1<=c.2/\c.2<=nrem/\SegO R arr2 lo (lo+c.2)) (Q:=λ c st2=>st2=setArr st arr2/\c.1=none/\1<=c.2/\c.2<=nrem/\SegO R arr2 lo (lo+c.2)/\(c.2<nrem->R (arr2.getD (lo+c.2) d0) (arr2.getD (lo+c.2 - 1) d0)=true)) ?_ ?_ ⟨rfl,rfl,rfl,(by dsimp only;omega),(by dsimp only;omega),sg2⟩) ?_)
     ·rintro i ⟨r,n⟩ st2 _ hi ⟨rfl,rfl,rfl,q1,q2,q3⟩
      dsimp only at q1 q2 q3 hi ⊢;refine wpS_bind (zAz L (st:=setArr st arr2) hk ga2 (show lo+n<arr2.size by omega) (show lo+n - 1<arr2.size by omega) ?_);dsimp only;cases z:R (arr2.getD (lo+n) d0) (arr2.getD (lo+n - 1) d0) with
      |true=>exact wpS_pure ⟨rfl,rfl,q1,q2,q3,λ U=>z⟩
      |false=>exact wpS_pure ⟨rfl,rfl,rfl,(by dsimp only;omega),(by dsimp only;omega),q3.more (u:=lo+n) L ga2 (by omega) (by omega) z⟩
     ·rintro⟨r,n⟩ st2 ⟨rfl,rfl,q0,q1,q2,q3⟩
      dsimp only at q0 q1 q2 q3 ⊢;exact⟨rfl,rfl,q1,q2,q3,λ z=>by omega⟩
     rintro⟨r,n⟩ st2 ⟨rfl,rfl,q1,q2,q3,q4⟩;dsimp only at q1 q2 q3 q4 ⊢;exact wpS_pure (h n arr2 q1 q2 ag2 q3)
  ·rw[if_neg e1]
   have em:m=1:=by omega
   have ag0:=Agr.refl (arrOf st) lo (lo+nrem)
   have ds0:DsO R (arrOf st) lo (lo+(m+1)):=λ i j i1 ij j2=>by
    have c1:i=lo+m - 1:=by omega
    have c2:j=lo+m:=by omega
    rw[c1,c2];exact gm
   have hx:∃arr0,arr0=arrOf st:=⟨_,rfl⟩;obtain⟨arr0,harr⟩:=hx;rw[←harr] at ag0 ds0 ⊢;rw[harr] at ag0
   conv at ag0=>arg 2;rw[←harr]
   refine wpS_bind (zBx ?_)
   refine wpS_bind (wpS_mono (wpS_forRange (I:=λ i (c:Option (Option Nat) × Nat × Nat) st2=>∃arr,st2=setArr st arr/\c.1=none/\c.2.1=i/\c.2.1<=nrem/\Agr (arrOf st) arr lo (lo+nrem)/\DsO R arr lo (lo+c.2.1)/\c.2.2+1<=c.2.1/\EqO R arr (lo+c.2.1 - (c.2.2+1)) (lo+c.2.1)) (Q:=λ c st2=>∃arr,st2=setArr st arr/\c.1=none/\c.2.1<=nrem/\Agr (arrOf st) arr lo (lo+nrem)/\DsO R arr lo (lo+c.2.1)/\c.2.2+1<=c.2.1/\EqO R arr (lo+c.2.1 - (c.2.2+1)) (lo+c.2.1)) ?_ ?_ ⟨arr0,rfl,rfl,rfl,(by dsimp only;omega),ag0,ds0,(by dsimp only;omega),λ i j i1 i2 j1 j2=>by
     dsimp only at i1 i2 j1 j2;have e1:i=lo+m:=by omega
     have e2:j=lo+m:=by omega
     rw[e1,e2];exact zC0 L (ag0.gl gl _ (zAT (by have:=ag0.size;omega)))⟩) ?_)
   ·rintro i ⟨r,n,q⟩ st2 _ hi ⟨arr,rfl,rfl,rfl,q2,ag,ds,hq,eb⟩
    dsimp only at q2 ds hq eb hi ⊢;have ga:=ag.gl gl;have sz:=ag.size;refine wpS_bind (zAz L (st:=setArr st arr) hk ga (show lo+n<arr.size by omega) (show lo+n - 1<arr.size by omega) ?_);dsimp only
    have one:∀{xs:Array Keyed},Agr (arrOf st) xs lo (lo+nrem)->EqO R xs (lo+(n+1) - (0+1)) (lo+(n+1)):=λ{xs} agx i j i1 i2 j1 j2=>by
     have e1:i=lo+n:=by omega
     have e2:j=lo+n:=by omega
     rw[e1,e2];exact zC0 L (agx.gl gl _ (zAT (by have:=agx.size;omega)))
    cases z:R (arr.getD (lo+n) d0) (arr.getD (lo+n - 1) d0) with
    |true =>
     have d2:=ds.more L ga (by omega) (by omega) (L.asym _ _ (ga _ (zAT (by omega))) (ga _ (zAT (by omega))) z);rw[if_pos rfl]
     by_cases c:q > 0
     ·rw[if_pos c]
      have ag3:=ag.trans ((zB6 (xs:=arr) (i:=lo+n - (q+1)) (j:=lo+n) (by omega)).wide (by omega) (by omega));exact wpS_bind (zBV (wpS_pure ⟨_,rfl,rfl,rfl,(by dsimp only;omega),ag3,zDl (m:=lo+n+1) (by omega) (by omega) (by omega) d2 eb,(by dsimp only;omega),one ag3⟩))
     ·rw[if_neg c]
      exact wpS_pure ⟨_,rfl,rfl,rfl,(by dsimp only;omega),ag,d2,(by dsimp only;omega),one ag⟩
    |false =>
     rw[if_neg (by simp)];refine wpS_bind (zAz L (st:=setArr st arr) hk ga (show lo+n - 1<arr.size by omega) (show lo+n<arr.size by omega) ?_);dsimp only;cases z2:R (arr.getD (lo+n - 1) d0) (arr.getD (lo+n) d0) with
     |true=>exact wpS_pure ⟨_,rfl,rfl,q2,ag,ds,hq,eb⟩
     |false =>
      have d2:=ds.more L ga (by omega) (by omega) z2;refine wpS_pure ⟨_,rfl,rfl,rfl,(by dsimp only;omega),ag,d2,(by dsimp only;omega),λ i j i1 i2 j1 j2=>?_⟩;dsimp only at i1 i2 j1 j2;have b1:∀i,lo+n - (q+1)<=i->i<lo+n->R (arr.getD i d0) (arr.getD (lo+n) d0)=false:=λ i i1 i2=>L.tr _ _ _ (ga _ (zAT (by omega))) (ga _ (zAT (by omega))) (ga _ (zAT (by omega))) (eb i (lo+n - 1) i1 i2 (by omega) (by omega)) z2;have b2:∀i,lo+n - (q+1)<=i->i<lo+n->R (arr.getD (lo+n) d0) (arr.getD i d0)=false:=λ i i1 i2=>L.tr _ _ _ (ga _ (zAT (by omega))) (ga _ (zAT (by omega))) (ga _ (zAT (by omega))) z (eb (lo+n - 1) i (by omega) (by omega) i1 i2)
      by_cases ci:i=lo+n
      ·by_cases cj:j=lo+n
       ·rw[ci,cj];exact zC0 L (ga _ (zAT (by omega)))
       ·rw[ci];exact b2 j (by omega) (by omega)
      ·by_cases cj:j=lo+n
       ·rw[cj];exact b1 i (by omega) (by omega)
       ·exact eb i j (by omega) (by omega) (by omega) (by omega)
   ·rintro⟨r,n,q⟩ st2 ⟨arr,rfl,rfl,q0,q2,ag,ds,hq,eb⟩
    exact⟨arr,rfl,rfl,q2,ag,ds,hq,eb⟩
   rintro⟨r,n2,q⟩ st2 ⟨arr,rfl,rfl,q2,ag,ds,hq,eb⟩;dsimp only at q2 ds hq eb ⊢;have sz:=ag.size
   by_cases c:q > 0
   ·rw[if_pos c]
    have ag3:=ag.trans ((zB6 (xs:=arr) (i:=lo+n2 - (q+1)) (j:=lo+n2) (by omega)).wide (by omega) (by omega));have sz3:=ag3.size;have d3:=zDl (l:=lo) (by omega) (lP (lo+n2)) (by omega) ds eb;refine wpS_bind (zBV (wpS_bind (zBV ?_)));have ag2:=ag3.trans ((zB6 (i:=lo) (j:=lo+n2) (by omega)).wide (by omega) (by omega));have sg2:=zES (by omega) d3;generalize mirror (mirror arr (lo+n2 - (q+1)) (lo+n2) ((lo+n2 - (lo+n2 - (q+1))) / 2)) lo (lo+n2) ((lo+n2 - lo) / 2)=arr2 at ag2 sg2 ⊢;have ga2:=ag2.gl gl;have sz2:=ag2.size;refine wpS_bind (wpS_mono (wpS_forRange (I:=λ i (c:Option (Option Nat) × Nat) st2=>st2=setArr st arr2/\c.1=none/\c.2=i/\1<=c.2/\c.2<=nrem/\SegO R arr2 lo (lo+c.2)) (Q:=λ c st2=>st2=setArr st arr2/\c.1=none/\1<=c.2/\c.2<=nrem/\SegO R arr2 lo (lo+c.2)/\(c.2<nrem->R (arr2.getD (lo+c.2) d0) (arr2.getD (lo+c.2 - 1) d0)=true)) ?_ ?_ ⟨rfl,rfl,rfl,(by dsimp only;omega),(by dsimp only;omega),sg2⟩) ?_)
    ·rintro i ⟨r,n⟩ st2 _ hi ⟨rfl,rfl,rfl,q1,q2,q3⟩
     dsimp only at q1 q2 q3 hi ⊢;refine wpS_bind (zAz L (st:=setArr st arr2) hk ga2 (show lo+n<arr2.size by omega) (show lo+n - 1<arr2.size by omega) ?_);dsimp only;cases z:R (arr2.getD (lo+n) d0) (arr2.getD (lo+n - 1) d0) with
     |true=>exact wpS_pure ⟨rfl,rfl,q1,q2,q3,λ U=>z⟩
     |false=>exact wpS_pure ⟨rfl,rfl,rfl,(by dsimp only;omega),(by dsimp only;omega),q3.more (u:=lo+n) L ga2 (by omega) (by omega) z⟩
    ·rintro⟨r,n⟩ st2 ⟨rfl,rfl,q0,q1,q2,q3⟩
     dsimp only at q0 q1 q2 q3 ⊢;exact⟨rfl,rfl,q1,q2,q3,λ z=>by omega⟩
    rintro⟨r,n⟩ st2 ⟨rfl,rfl,q1,q2,q3,q4⟩;dsimp only at q1 q2 q3 q4 ⊢;exact wpS_pure (h n arr2 q1 q2 ag2 q3)
   ·rw[if_neg c]
    refine wpS_bind (zBV ?_);have ag2:=ag.trans ((zB6 (xs:=arr) (i:=lo) (j:=lo+n2) (by omega)).wide (by omega) (by omega));have sg2:=zES (by omega) ds;generalize mirror arr lo (lo+n2) ((lo+n2 - lo) / 2)=arr2 at ag2 sg2 ⊢;have ga2:=ag2.gl gl;have sz2:=ag2.size;refine wpS_bind (wpS_mono (wpS_forRange (I:=λ i (c:Option (Option Nat) × Nat) st2=>st2=setArr st arr2/\c.1=none/\c.2=i/\1<=c.2/\c.2<=nrem/\SegO R arr2 lo (lo+c.2)) (Q:=λ c st2=>st2=setArr st arr2/\c.1=none/\1<=c.2/\c.2<=nrem/\SegO R arr2 lo (lo+c.2)/\(c.2<nrem->R (arr2.getD (lo+c.2) d0) (arr2.getD (lo+c.2 - 1) d0)=true)) ?_ ?_ ⟨rfl,rfl,rfl,(by dsimp only;omega),(by dsimp only;omega),sg2⟩) ?_)
    ·rintro i ⟨r,n⟩ st2 _ hi ⟨rfl,rfl,rfl,q1,q2,q3⟩
     dsimp only at q1 q2 q3 hi ⊢;refine wpS_bind (zAz L (st:=setArr st arr2) hk ga2 (show lo+n<arr2.size by omega) (show lo+n - 1<arr2.size by omega) ?_);dsimp only;cases z:R (arr2.getD (lo+n) d0) (arr2.getD (lo+n - 1) d0) with
     |true=>exact wpS_pure ⟨rfl,rfl,q1,q2,q3,λ U=>z⟩
     |false=>exact wpS_pure ⟨rfl,rfl,rfl,(by dsimp only;omega),(by dsimp only;omega),q3.more (u:=lo+n) L ga2 (by omega) (by omega) z⟩
    ·rintro⟨r,n⟩ st2 ⟨rfl,rfl,q0,q1,q2,q3⟩
     dsimp only at q0 q1 q2 q3 ⊢;exact⟨rfl,rfl,q1,q2,q3,λ z=>by omega⟩
    rintro⟨r,n⟩ st2 ⟨rfl,rfl,q1,q2,q3,q4⟩;dsimp only at q1 q2 q3 q4 ⊢;exact wpS_pure (h n arr2 q1 q2 ag2 q3)
end
abbrev Run3:=Nat × Nat × Nat
def CovR:List Run3->Nat->Nat->Prop
 |[],lo,hi=>lo=hi
 |r::rs,lo,hi=>r.1=lo/\0<r.2.1/\CovR rs (lo+r.2.1) hi
theorem CovR.app:∀{a b:List Run3}{lo hi:Nat},CovR (a++b) lo hi↔∃m,CovR a lo m/\CovR b m hi
 |[],b,lo,hi=>by simp[CovR]
 |r::a,b,lo,hi=>by
  simp only[List.cons_append,CovR,CovR.app (a:=a)];constructor
  ·rintro⟨h1,h2,m,h3,h4⟩;exact⟨m,⟨h1,h2,h3⟩,h4⟩
  ·rintro⟨m,⟨h1,h2,h3⟩,h4⟩;exact⟨h1,h2,m,h3,h4⟩
theorem CovR.le:∀{a:List Run3}{lo hi:Nat},CovR a lo hi->lo+a.length<=hi
 |[],lo,hi,h=>by simp[CovR] at h ⊢;omega
 |r::a,lo,hi,h=>by
  obtain⟨h1,h2,h3⟩:=h;have:=h3.le;simp;omega
theorem CovR.mem:∀{a:List Run3}{lo hi:Nat},CovR a lo hi->∀r∈a,lo<=r.1/\r.1+r.2.1<=hi
 |r::a,lo,hi,⟨h1,h2,h3⟩,x,hx=>by
  have:=h3.le;rcases lM.mp hx with rfl|hx
  ·omega
  ·have:=h3.mem x hx
   omega
section
variable {M:Model}{A:Around}{E:XQ}{s:Shared}{κ:SortKind}{G:Keyed->Prop}{R:Keyed->Keyed->Bool}{a₀:Array Keyed}
structure RunS (κ:SortKind) (R:Keyed->Keyed->Bool) (a₀:Array Keyed) (st:SortSt) (lo:Nat):Prop where
 kind:kindOf st=κ
 fail:failedOf st=none
 perm:(arrOf st).toList.Perm a₀.toList
 cov:CovR (pendingOf st).toList 0 lo
 seg:∀r∈(pendingOf st).toList,SegO R (arrOf st) r.1 (r.1+r.2.1)
theorem RunS.size {st:SortSt}{lo:Nat}(p:RunS κ R a₀ st lo):(arrOf st).size=a₀.size:=by have:=p.perm.length_eq;simpa using this
theorem SegO.same {xs ys:Array Keyed}{l u:Nat}(h:SegO R xs l u) (e:∀j,l<=j->j<u->ys.getD j d0=xs.getD j d0):SegO R ys l u:=λ i j hi hij hj=>by
 rw[e i hi (by omega),e j (by omega) hj];exact h i j hi hij hj
theorem RunS.above {st:SortSt}{lo u:Nat}(p:RunS κ R a₀ st lo) {arr:Array Keyed}(ag:Agr (arrOf st) arr lo u):RunS κ R a₀ (setArr st arr) lo :=
 ⟨p.kind,p.fail,ag.perm.trans p.perm,p.cov,λ r hr=>(p.seg r hr).same λ j h1 h2=>ag.out j (.inl (by have:=p.cov.mem r hr;omega))⟩
theorem zLD {p:List Run3}{i:Nat}(h:i+1<p.length):∃pre x y post,p=pre++x::y::post/\pre.length=i:=by
 refine⟨p.take i,p[i],p[i+1],p.drop (i+2),?_,by simp;omega⟩;rw[←List.drop_eq_getElem_cons (i:=i+1) (by omega),←List.drop_eq_getElem_cons (i:=i) (by omega),List.take_append_drop]
theorem zCz (L:LtE M A E s κ G R) (ga:∀x∈a₀.toList,G x) {st:SortSt}{lo i:Nat}(p:RunS κ R a₀ st lo) (hlo:lo<=a₀.size) (hi:i+1<(pendingOf st).size) {Q:Bool->SortSt->Prop}
  (h:∀st':SortSt,RunS κ R a₀ st' lo->(pendingOf st').size+1=(pendingOf st).size->(∀j,lo<=j->(arrOf st').getD j d0=(arrOf st).getD j d0)->Q true st'):wpS M A E s (mergeAt' i) Q st:=by
 obtain⟨pre,⟨sa,na,pa⟩,⟨sb,nb,pb⟩,post,ep,el⟩:=zLD (p:=(pendingOf st).toList) (i:=i) (by simpa using hi);have cv:=p.cov;rw[ep] at cv;obtain⟨m,c1,c2,c3,c4,c5,c6⟩:=CovR.app.mp cv;dsimp only at c2 c3 c4 c5 c6;have hle:=c6.le;have g1:(pendingOf st)[i]?=some (sa,na,pa):=by rw[←nN,ep,mU (by omega),el];simp
 have g2:(pendingOf st)[i+1]?=some (sb,nb,pb):=by rw[←nN,ep,mU (by omega),el];simp
 have s1:=p.seg (sa,na,pa) (by rw[ep];simp);have s2:=p.seg (sb,nb,pb) (by rw[ep];simp);dsimp only at s1 s2;have sz:=p.size;refine zGz L p.kind p.fail (λ x hx=>ga x (p.perm.mem_iff.mp hx)) g1 g2 (by omega) (by omega) c3 c5 (by rw[show sb=sa+na by omega];exact s1) s2 λ arr g pm same sg=>?_
 have en:(((pendingOf st).setIfInBounds i (sa,na+nb,pa)).eraseIdxIfInBounds (i+1)).toList=pre++(sa,na+nb,pa)::post:=by
  rw[Array.toList_eraseIdxIfInBounds,Array.toList_setIfInBounds,ep,List.set_append_right _ _ (by omega),el,Nat.sub_self];rw[List.eraseIdx_append_of_length_le (by omega),el,Nat.add_sub_cancel_left];simp
 refine h _ ⟨rfl,rfl,pm.trans p.perm,?_,?_⟩ ?_ λ j hj=>same j (.inr (by omega))
 ·show CovR (((pendingOf st).setIfInBounds i (sa,na+nb,pa)).eraseIdxIfInBounds (i+1)).toList 0 lo
  rw[en];refine CovR.app.mpr ⟨m,c1,c2,by show 0<na+nb;omega,?_⟩;show CovR post (m+(na+nb)) lo;rw[←Nat.add_assoc];exact c6
 ·intro r hr
  have hr':r∈pre++(sa,na+nb,pa)::post:=by rw[←en];exact hr
  rcases lK.mp hr' with hr'|hr'
  ·have z:=c1.mem r hr'
   exact(p.seg r (by rw[ep];exact mJ _ hr')).same λ j h1 h2=>same j (.inl (by omega))
  ·rcases lM.mp hr' with rfl|hr'
   ·show SegO R arr sa (sa+(na+nb))
    rw[show sa+(na+nb)=sb+nb by omega];exact sg
   ·have z:=c6.mem r hr'
    exact(p.seg r (by rw[ep];simp[hr'])).same λ j h1 h2=>same j (.inr (by omega))
 ·have:=congrArg List.length en
  have e2:=congrArg List.length ep;simp only[Array.length_toList,mL,mN] at this e2;show (((pendingOf st).setIfInBounds i (sa,na+nb,pa)).eraseIdxIfInBounds (i+1)).size+1=_;omega
theorem zHG {α:Type}{c:Prop} [Decidable c] {m n:StateT SortSt Sem α}{Q:α->SortSt->Prop}{st:SortSt}(h1:c->wpS M A E s m Q st) (h2:¬c->wpS M A E s n Q st):wpS M A E s (if c then m else n) Q st:=by
 by_cases z:c
 ·rw[if_pos z];exact h1 z
 ·rw[if_neg z];exact h2 z
theorem CovR.of_map:∀{a b:List Run3}{lo hi:Nat},a.map (λ r=>(r.1,r.2.1))=b.map (λ r=>(r.1,r.2.1))->CovR a lo hi->CovR b lo hi
 |[],[],_,_,_,h=>h
 |[],_::_,_,_,e,_=>by simp at e
 |_::_,[],_,_,e,_=>by simp at e
 |r::a,q::b,lo,hi,e,⟨h1,h2,h3⟩=>by
  simp only[mM,List.cons.injEq,Prod.mk.injEq] at e;obtain⟨⟨e1,e2⟩,e3⟩:=e;exact⟨e1▸h1,e2▸h2,e2▸CovR.of_map e3 h3⟩
theorem RunS.push {st:SortSt}{lo n:Nat}(p:RunS κ R a₀ st lo) (hn:0<n) (sg:SegO R (arrOf st) lo (lo+n)):RunS κ R a₀ (setPending st ((pendingOf st).push (lo,n,0))) (lo+n):=by
 refine⟨p.kind,p.fail,p.perm,?_,?_⟩
 ·show CovR ((pendingOf st).push (lo,n,0)).toList 0 (lo+n)
  rw[Array.toList_push];exact CovR.app.mpr ⟨lo,p.cov,rfl,hn,rfl⟩
 ·intro r hr
  have hr':r∈((pendingOf st).push (lo,n,0)).toList:=hr;rw[Array.toList_push] at hr';rcases lK.mp hr' with hr'|hr'
  ·exact p.seg r hr'
  ·rw[mR] at hr'
   subst hr';exact sg
theorem RunS.modify {st:SortSt}{lo k w:Nat}(p:RunS κ R a₀ st lo):RunS κ R a₀ (setPending st ((pendingOf st).modify k λ x=>(x.1,x.2.1,w))) lo:=by
 have em:((pendingOf st).modify k λ x=>(x.1,x.2.1,w)).toList.map (λ r=>(r.1,r.2.1))=(pendingOf st).toList.map (λ r=>(r.1,r.2.1)):=by
  rw[Array.toList_modify];refine List.ext_getElem? λ j=>?_;rw[mH,mH,List.getElem?_modify];cases (pendingOf st).toList[j]? with
  |none=>rfl
  |some x=>by_cases c:k=j<;>simp[c]
 refine⟨p.kind,p.fail,p.perm,p.cov.of_map em.symm,λ r hr=>?_⟩;have hr':(r.1,r.2.1)∈((pendingOf st).modify k λ x=>(x.1,x.2.1,w)).toList.map (λ r=>(r.1,r.2.1)):=mG.mpr ⟨r,hr,rfl⟩;rw[em] at hr';obtain⟨q,hq,e⟩:=mG.mp hr';have:=p.seg q hq;simp only[Prod.mk.injEq] at e;rw[e.1,e.2] at this;exact this
theorem zFX (L:LtE M A E s κ G R) (ga:∀x∈a₀.toList,G x) {st:SortSt}{Q:Unit->SortSt->Prop}(p:RunS κ R a₀ st 0) (h0:0<a₀.size)
  (h:∀st':SortSt,kindOf st'=κ->failedOf st'=none->(arrOf st').toList.Perm a₀.toList->SegO R (arrOf st') 0 a₀.size->Q () st'):wpS M A E s sortRuns' Q st:=by
 rw[sortRuns'_eq];refine wpS_bind (wpS_get ?_);dsimp only;have sz0:=p.size;refine wpS_bind (wpS_mono (wpS_forRange (I:=λ i (c:Option Unit × Nat) st'=>c.1=none/\RunS κ R a₀ st' c.2/\c.2<=a₀.size/\i<=c.2) (Q:=λ c st'=>c.1=none/\RunS κ R a₀ st' a₀.size) ?_ ?_ ⟨rfl,p,lX _,lP _⟩) ?_)
 ·rintro i ⟨r,lo⟩ st' _ hi ⟨rfl,p',hlo,hil⟩
  dsimp only at p' hlo hil ⊢;have szp:=p'.size
  by_cases c0:lo ≥ (arrOf st).size
  ·rw[if_pos c0]
   have:lo=a₀.size:=by omega
   rw[this] at p' ⊢;exact wpS_pure ⟨rfl,p'⟩
  ·rw[if_neg c0]
   refine wpS_bind (zJM L p'.kind (λ x hx=>ga x (p'.perm.mem_iff.mp hx)) (by omega) (by omega) λ n arr hn1 hn2 ag sg=>?_);dsimp only;have pa:=p'.above ag;have aga:=ag.size
   by_cases cm:n<minRun' (arrOf st).size (arrOf st).size 0
   ·rw[if_pos cm]
    refine wpS_bind (zBx ?_);refine wpS_bind (zIY L (st:=setArr st' arr) pa.kind (λ x hx=>ga x (pa.perm.mem_iff.mp hx)) (show lo+min ((arrOf st).size - lo) (minRun' (arrOf st).size (arrOf st).size 0)<=arr.size by omega) hn1 (by omega) sg λ arr2 ag2 sg2=>?_);rw[if_neg (by simp)];have p1:RunS κ R a₀ (setArr st' arr2) lo:=pa.above ag2;have sg1:SegO R (arrOf (setArr st' arr2)) lo (lo+min ((arrOf st).size - lo) (minRun' (arrOf st).size (arrOf st).size 0)):=sg2;have hN:0<min ((arrOf st).size - lo) (minRun' (arrOf st).size (arrOf st).size 0):=by omega
    have hN2:lo+min ((arrOf st).size - lo) (minRun' (arrOf st).size (arrOf st).size 0)<=a₀.size:=by omega
    show wpS M A E s _ _ (setArr st' arr2);generalize setArr st' arr2=st1 at p1 sg1 ⊢;generalize min ((arrOf st).size - lo) (minRun' (arrOf st).size (arrOf st).size 0)=N at hN hN2 sg1 ⊢;refine wpS_bind (wpS_get ?_);cases hb:(pendingOf st1).back? with
    |none =>
     dsimp only;refine wpS_bind (wpS_modify (wpS_pure ⟨rfl,p1.push hN sg1,?_,?_⟩))
     ·exact hN2
     ·dsimp only;omega
    |some r3 =>
     obtain⟨s1,n1,o1⟩:=r3;dsimp only;refine wpS_bind (wpS_mono (wpS_forRange (I:=λ i (c:Option Unit × Unit) st2=>c.1=none/\RunS κ R a₀ st2 lo/\SegO R (arrOf st2) lo (lo+N)) (Q:=λ c st2=>c.1=none/\RunS κ R a₀ st2 lo/\SegO R (arrOf st2) lo (lo+N)) ?_ ?_ ⟨rfl,p1,sg1⟩) ?_)
     ·rintro i2 ⟨r,u⟩ st2 _ _ ⟨rfl,p2,sg2⟩
      refine wpS_bind (wpS_get ?_)
      by_cases c:(pendingOf st2).size > 1
      ·rw[if_pos c]
       obtain⟨⟨x1,x2,x3⟩,hx⟩:∃x,(pendingOf st2)[(pendingOf st2).size - 2]?=some x:=⟨_,Array.getElem?_eq_getElem (by omega)⟩;rw[hx];dsimp only;refine zHG (λ U=>wpS_pure ⟨rfl,p2,sg2⟩) λ U=>?_;refine wpS_bind (zCz L ga p2 (by omega) (by omega) λ st3 p3 U same=>?_);rw[if_neg (by simp)];exact wpS_pure ⟨rfl,p3,sg2.same λ j h1 h2=>same j h1⟩
      ·rw[if_neg c]
       exact wpS_pure ⟨rfl,p2,sg2⟩
     ·rintro⟨r,u⟩ st2 ⟨rfl,p2,sg2⟩
      exact⟨rfl,p2,sg2⟩
     rintro⟨r,u⟩ st2 ⟨rfl,p2,sg2⟩;dsimp only;refine wpS_bind (wpS_modify (wpS_bind (wpS_modify (wpS_pure ⟨rfl,(p2.modify).push hN sg2,?_,?_⟩))))
     ·exact hN2
     ·dsimp only;omega
   ·rw[if_neg cm]
    have p1:=pa;have sg1:SegO R (arrOf (setArr st' arr)) lo (lo+n):=sg;have hN:0<n:=hn1;have hN2:lo+n<=a₀.size:=by omega
    generalize setArr st' arr=st1 at p1 sg1 ⊢;refine wpS_bind (wpS_get ?_);cases hb:(pendingOf st1).back? with
    |none =>
     dsimp only;refine wpS_bind (wpS_modify (wpS_pure ⟨rfl,p1.push hN sg1,?_,?_⟩))
     ·exact hN2
     ·dsimp only;omega
    |some r3 =>
     obtain⟨s1,n1,o1⟩:=r3;dsimp only;refine wpS_bind (wpS_mono (wpS_forRange (I:=λ i (c:Option Unit × Unit) st2=>c.1=none/\RunS κ R a₀ st2 lo/\SegO R (arrOf st2) lo (lo+n)) (Q:=λ c st2=>c.1=none/\RunS κ R a₀ st2 lo/\SegO R (arrOf st2) lo (lo+n)) ?_ ?_ ⟨rfl,p1,sg1⟩) ?_)
     ·rintro i2 ⟨r,u⟩ st2 _ _ ⟨rfl,p2,sg2⟩
      refine wpS_bind (wpS_get ?_)
      by_cases c:(pendingOf st2).size > 1
      ·rw[if_pos c]
       obtain⟨⟨x1,x2,x3⟩,hx⟩:∃x,(pendingOf st2)[(pendingOf st2).size - 2]?=some x:=⟨_,Array.getElem?_eq_getElem (by omega)⟩;rw[hx];dsimp only;refine zHG (λ U=>wpS_pure ⟨rfl,p2,sg2⟩) λ U=>?_;refine wpS_bind (zCz L ga p2 (by omega) (by omega) λ st3 p3 U same=>?_);rw[if_neg (by simp)];exact wpS_pure ⟨rfl,p3,sg2.same λ j h1 h2=>same j h1⟩
      ·rw[if_neg c]
       exact wpS_pure ⟨rfl,p2,sg2⟩
     ·rintro⟨r,u⟩ st2 ⟨rfl,p2,sg2⟩
      exact⟨rfl,p2,sg2⟩
     rintro⟨r,u⟩ st2 ⟨rfl,p2,sg2⟩;dsimp only;refine wpS_bind (wpS_modify (wpS_bind (wpS_modify (wpS_pure ⟨rfl,(p2.modify).push hN sg2,?_,?_⟩))))
     ·exact hN2
     ·dsimp only;omega
 ·rintro⟨r,lo⟩ st' ⟨rfl,p',hlo,hil⟩
  dsimp only at p' hlo hil ⊢;have:lo=a₀.size:=by omega
  rw[this] at p';exact⟨rfl,p'⟩
 rintro⟨r,lo⟩ st' ⟨rfl,p'⟩;dsimp only
 have hend:∀st2,RunS κ R a₀ st2 a₀.size->(pendingOf st2).size<=1->Q () st2:=λ st2 p2 hs=>by
  refine h st2 p2.kind p2.fail p2.perm ?_;have cv:=p2.cov;have sg:=p2.seg;have hs':(pendingOf st2).toList.length<=1:=by simpa using hs
  match hp:(pendingOf st2).toList,hs' with
  |[],_ =>
   rw[hp] at cv;simp[CovR] at cv;omega
  |[x],_ =>
   rw[hp] at cv sg;obtain⟨c1,c2,c3⟩:=cv;have:=sg x lN;rw[c1] at this;have c3':0+x.2.1=a₀.size:=c3;rw[c3'] at this;exact this
  |_::_::_,z=>simp at z
 have sz':(pendingOf st').size<=a₀.size:=by have:=p'.cov.le;simpa using this
 refine wpS_bind (wpS_mono (wpS_forRange (I:=λ i (c:Option Unit × Unit) st2=>c.1=none/\RunS κ R a₀ st2 a₀.size/\(pendingOf st2).size+i<=a₀.size) (Q:=λ c st2=>c.1=none/\RunS κ R a₀ st2 a₀.size/\(pendingOf st2).size<=1) ?_ ?_ ⟨rfl,p',sz'⟩) ?_)
 ·rintro i ⟨r,u⟩ st2 _ hi ⟨rfl,p2,hc⟩
  refine wpS_bind (wpS_get ?_)
  by_cases c:(pendingOf st2).size<=1
  ·rw[if_pos c]
   exact wpS_pure ⟨rfl,p2,c⟩
  ·rw[if_neg c]
   refine wpS_bind (zCz L ga p2 (lP _) ?_ λ st3 p3 hs U=>?_)
   ·have ite_le:∀(b:Prop) [Decidable b] (x:Nat),(if b then x - 1 else x)<=x:=λ b U x=>by split<;>omega
    refine Nat.lt_of_le_of_lt (Nat.succ_le_succ (ite_le _ _)) ?_;omega
   ·rw[if_neg (by simp)]
    exact wpS_pure ⟨rfl,p3,by omega⟩
 ·rintro⟨r,u⟩ st2 ⟨rfl,p2,hc⟩
  exact⟨rfl,p2,by omega⟩
 rintro⟨r,u⟩ st2 ⟨rfl,p2,hs⟩;exact wpS_pure (hend st2 p2 hs)
end
section
variable {prog:Program}{w:World}{A:Around}{E:XQ}{s:Shared}{κ:SortKind}{G:Keyed->Prop}{R:Keyed->Keyed->Bool}
theorem zLY (hlt:∀x y,G x->G y->∀(E':XQ) (Q:Bool->Shared->Prop),Q (R x y) s->wpAny (model prog w) A (keyLt' κ x.1 y.1) Q E' s)
  (asym:∀x y,G x->G y->R x y=true->R y x=false) (tr:∀x y z,G x->G y->G z->R x y=false->R y z=false->R x z=false):LtE (model prog w) A E s κ G R :=
 ⟨λ x y gx gy st Q hk h=>by
  rw[lt'_eq];refine wpS_bind (wpS_get ?_);rw[hk];exact wpS_bind (wpS_lift (wpAny_attempt (hlt x y gx gy _ _ ⟨rfl,wpS_pure h⟩))),asym,tr⟩
theorem zF1 (vs:List Value):(vs.toArray.zip vs.toArray).toList=vs.map λ v=>(v,v):=by
 simp only[Array.toList_zip]
 induction vs with
 |nil=>rfl
 |cons v vs ih=>simpa using ih
theorem zEb {a:Addr}{vs:List Value}{n:Nat}{P:PySem.Fin->Shared->Prop}(Kd:SortKind->Prop) (ho:s.heap.get? a=some (seqObj "list" vs.toArray n)) (hz:vs.length<=1000)
  (hk:∀h':Heap,(∀b x,s.heap.IsTuple b x->h'.IsTuple b x)->2<=vs.length->∀Q:SortKind->Shared->Prop,(∀κ,Kd κ->Q κ { s with heap:=h' })->wpAny (model prog w) A (keyKind' vs.toArray) Q E { s with heap:=h' })
  (hL:∀h':Heap,(∀b x,s.heap.IsTuple b x->h'.IsTuple b x)->∀κ,Kd κ->LtE (model prog w) A E { s with heap:=h' } κ G R) (hG:∀v∈vs,G (v,v))
  (h:∀ws:List Value,ws.Perm vs->ws.Pairwise (λ x y=>R (y,y) (x,x)=false)->P (.done (.ret .none)) { s with heap:=sortedHeap s.heap a vs ws.toArray }) :
  wpAny (model prog w) A (Builtin.«list.sort» ⟨[.ref a],[]⟩) P E s:=by
 have zl:vs.length<=sizeLine:=Nat.le_of_lt (zAS hz);rw[list_sort_plain];have ha:a<s.heap.objs.size:=lI ho;refine lA (listItems_at ho rfl (lA (listUpdate_at ho rfl ?_ (by rw[lS];exact zl) (lX _))));obtain⟨e1,ho1⟩:∃e1,(s.heap.update a (Obj.mapSeq λ U=>#[])).get? a=some (seqObj "list" #[] e1):=⟨_,get?_update_seq ho (λ U=>#[])⟩;refine lA (seqEpoch_at ho1 rfl (lA (wpAny_newTuple ?_ (by show vs.length<=_;exact zl))));refine lA (wpAny_newList ?_ (lX _));refine lF ?_;have ho6:(((s.heap.update a (Obj.mapSeq λ U=>#[])).push (seqObj "tuple" vs.toArray 0)).push (seqObj "list" #[] 0)).get? a=some (seqObj "list" #[] e1):=by rw[Heap.get?_push_ne _ _ _ (by rw[size_push',Heap.size_update];exact lQ (Nat.lt_succ_of_lt ha)),Heap.get?_push_ne _ _ _ (by rw[Heap.size_update];exact lQ ha)];exact ho1
 have keep:∀b x,s.heap.IsTuple b x->(((s.heap.update a (Obj.mapSeq λ U=>#[])).push (seqObj "tuple" vs.toArray 0)).push (seqObj "list" #[] 0)).IsTuple b x:=λ b x hb=>zCP (λ b o hc hb=>by
  have hne:b≠a:=λ z=>by
   rw[z,ho] at hb;cases hb;injection hc with hh
   exact absurd hh (by decide)
  exact lG _ (lG _ (by rw[Heap.get?_update_ne _ _ _ _ hne];exact hb))) hb
 show wpAny (model prog w) A _ P E { s with heap:=((s.heap.update a (Obj.mapSeq λ U=>#[])).push (seqObj "tuple" vs.toArray 0)).push (seqObj "list" #[] 0) };dsimp only
 have outs:∀arr:Array Keyed,arr.toList.Perm (vs.map λ v=>(v,v))->∃ws:List Value,ws.Perm vs/\arr.map (·.2)=ws.toArray/\arr.toList=ws.map λ v=>(v,v):=λ arr pm=>by
  refine⟨arr.toList.map (·.2),?_,?_,?_⟩
  ·have:=pm.map (·.2)
   rw[nX] at this;have e:((λ x:Keyed=>x.2) ∘ λ v:Value=>(v,v))=id:=rfl;rw[e,List.map_id] at this;exact this
  ·rw[←Array.toList_map]
  ·rw[nX]
   refine(List.map_id _).symm.trans (List.map_congr_left λ x hx=>?_);obtain⟨v,_,rfl⟩:=mG.mp (pm.mem_iff.mp hx);rfl
 by_cases h2:vs.toArray.size<2
 ·rw[if_pos h2,if_pos h2]
  refine lA (lB ?_);rw[StateT.run_pure];refine lA (lB ?_);dsimp only;have h2':vs.length<2:=by simpa using h2
  have hid:(arrOf (SortSt.mk' general' (vs.toArray.zip vs.toArray) #[] 7 none)).map (·.2)=vs.toArray:=by
   show (vs.toArray.zip vs.toArray).map (·.2)=_;rw[zIe h2']
   match vs,h2' with
   |[],_=>rfl
   |[x],_=>simp[List.range_succ]
  rw[hid];refine lA (seqEpoch_at ho6 rfl ?_);refine lA (listUpdate_at ho6 rfl ?_ (lX _) (by rw[lS];omega));simp only[bne_self_eq_false,Bool.false_eq_true,if_false];refine lB (h vs (.refl _) ?_)
  match vs,h2' with
  |[],_=>exact List.Pairwise.nil
  |[x],_=>exact List.pairwise_singleton _ _
 ·rw[if_neg h2,if_neg h2]
  have h2':2<=vs.length:=by simpa using h2
  refine lA (hk _ keep h2' _ λ κ hκ=>?_);have L:=hL _ keep κ hκ
  have ga:∀x∈(vs.toArray.zip vs.toArray).toList,G x:=λ x hx=>by
   rw[zF1] at hx;obtain⟨v,hv,rfl⟩:=mG.mp hx;exact hG v hv
  show wpAny (model prog w) A ((sortRuns').run (SortSt.mk' κ (vs.toArray.zip vs.toArray) #[] 7 none) >>= _) P E _
  have sr:=zFX L (a₀:=vs.toArray.zip vs.toArray) ga (st:=SortSt.mk' κ (vs.toArray.zip vs.toArray) #[] 7 none) (Q:=λ U st'=>failedOf st'=none/\(arrOf st').toList.Perm (vs.map λ v=>(v,v))/\SegO R (arrOf st') 0 vs.length) ⟨rfl,rfl,.refl _,rfl,λ r hr=>by cases hr⟩ (by simp;omega) λ st' U q2 q3 q4=>⟨q2,by rw[zF1] at q3;exact q3,by
   have:(vs.toArray.zip vs.toArray).size=vs.length:=by simp
   rw[this] at q4;exact q4⟩
  refine lA (wpAny_mono sr ?_ λ U U e=>e);rintro⟨⟨⟩,st'⟩ s' ⟨rfl,hf,pm,sg⟩;dsimp only at hf pm sg ⊢;obtain⟨ws,pw,ew,el⟩:=outs (arrOf st') pm;have szw:ws.length=vs.length:=pw.length_eq;have sza:(arrOf st').size=vs.length:=by have:=pm.length_eq;simpa using this
  rw[ew];refine lA (seqEpoch_at ho6 rfl ?_);refine lA (listUpdate_at ho6 rfl ?_ (lX _) (by rw[lS,szw];omega));rw[hf];simp only[bne_self_eq_false,Bool.false_eq_true,if_false];refine lB (h ws pw ?_);have ol:OL R (arrOf st').toList:=ol_of λ i j hij hj=>sg i j (lX _) hij (by omega);rw[el] at ol;unfold OL at ol;rw[List.pairwise_map] at ol;exact ol
end
open Classical in
noncomputable def dtOf (h:Heap) (v:Value):Dt:=if e:∃d,DA h d v then e.choose else .tup []
theorem zBs {h:Heap}{d:Dt}{v:Value}(r:DA h d v):dtOf h v=d:=by
 unfold dtOf;have e:∃d,DA h d v:=⟨d,r⟩;rw[dif_pos e];exact e.choose_spec.inj r
theorem zJh {h:Heap}:∀{ds:List Dt}{vs:List Value},DAs h ds vs->vs.map (dtOf h)=ds
 |_,_,.nil=>rfl
 |_,_,.cons r q=>by rw[mM,zBs r,zJh q]
theorem zFJ {h:Heap}{ds:List Dt}{vs:List Value}(r:DAs h ds vs) {v:Value}(hv:v∈vs):∃d∈ds,DA h d v:=by
 obtain⟨j,hj,e⟩:=List.getElem_of_mem hv;obtain⟨d,ed,rd⟩:=r.get (show vs[j]?=some v by rw[nT hj,e]);exact⟨d,lL ed,rd⟩
theorem zCJ {ds:List Dt}(hh:Heads ds):∀d∈ds,∃r,d=Dt.tup r:=λ d hd=>by
 rcases hh with hh|hh
 ·obtain⟨x,r,rfl⟩:=hh d hd;exact⟨_,rfl⟩
 ·rcases hh d hd with rfl|⟨l,r,rfl⟩<;>exact⟨_,rfl⟩
section
variable {prog:Program}{w:World}{A:Around}{E:XQ}{s:Shared}
theorem zBr {a:Addr}{vs:List Value}{ds:List Dt}{n m:Nat}{P:PySem.Fin->Shared->Prop}(ho:s.heap.get? a=some (seqObj "list" vs.toArray n)) (hp:DAs s.heap ds vs) (hh:Heads ds) (hc:∀d∈ds,∀e∈ds,Dt.cmp d e=true) (hm:Dt.deeps ds<=m) (hz:vs.length<=1000) (hu:A.units+m<cLine)
  (h:∀ws:List Value,ws.Perm vs->ws.map (dtOf s.heap)=sortD ds->P (.done (.ret .none)) { s with heap:=sortedHeap s.heap a vs ws.toArray }) :
  wpAny (model prog w) A (Builtin.«list.sort» ⟨[.ref a],[]⟩) P E s:=by
 refine zEb (G:=λ x=>x.1∈vs) (R:=λ x y=>Dt.lt (dtOf s.heap x.1) (dtOf s.heap y.1)) (λ κ=>GoodK κ ds) ho hz (λ h' kp h2 Q q=>zKp (hp.kept kp) h2 hh q) (λ h' kp κ hκ=>?_) (λ v hv=>hv) λ ws pw od=>h ws pw ?_
 ·refine zLY (λ x y gx gy E' Q q=>?_) (λ x y U U=>Dt.lt_asym) λ x y z U U U=>Dt.lt_neg
  obtain⟨d,hd,rd⟩:=zFJ hp gx;obtain⟨e,he,re⟩:=zFJ hp gy;rw[zBs rd,zBs re] at q;obtain⟨j,hj,ej⟩:=List.getElem_of_mem hd;exact zLj hκ hd he (zCJ hh d hd) (zCJ hh e he) m (mK (zBY (show ds[j]?=some d by rw[nT hj,ej])) hm) (hc d hd e he) (rd.kept kp) (re.kept kp) hu q
 ·refine zGJ ?_ ?_
  ·unfold OrdD
   rw[List.pairwise_map];exact od
  ·have:=pw.map (dtOf s.heap)
   rw[zJh hp] at this;exact this
end
noncomputable def absR:Value->V
 |.ref a=>.ref a
 |_=>.non
theorem zF2:∀{vs:List V}{its:List Value},Vals vs its->∀{u:Value},u∈its->∃v∈vs,RelV v u
 |_,_,.cons r q,u,hu=>by
  rcases lM.mp hu with rfl|hu
  ·exact⟨_,lN,r⟩
  ·obtain⟨v,hv,rv⟩:=zF2 q hu
   exact⟨v,lO _ hv,rv⟩
theorem zIK {H:Hp}:∀{ds:List Dt}{vs:List V},DRs H ds vs->∀{v:V},v∈vs->∃d∈ds,DR H d v
 |_,_,.cons r q,v,hv=>by
  rcases lM.mp hv with rfl|hv
  ·exact⟨_,lN,r⟩
  ·obtain⟨d,hd,rd⟩:=zIK q hv
   exact⟨d,lO _ hd,rd⟩
theorem zDH {P:Program}{w:World}{H:Hp}{h:Heap}(ok:HOk P w H h) {ds:List Dt}{vs:List V}{its:List Value}(rv:Vals vs its) (hd:DRs H ds vs) (ht:∀d∈ds,∃r,d=Dt.tup r) :
  ∀{ws:List Value},(∀u∈ws,u∈its)->Vals (ws.map absR) ws/\DRs H (ws.map (dtOf h)) (ws.map absR)
 |[],_=>⟨.nil,.nil⟩
 |u::ws,hm=>by
  obtain⟨i1,i2⟩:=zDH ok rv hd ht (ws:=ws) λ x hx=>hm x (lO _ hx);obtain⟨v,hv,r⟩:=zF2 rv (hm u lN);obtain⟨d,hdm,rd⟩:=zIK hd hv;obtain⟨l,rfl⟩:=ht d hdm;obtain⟨a,rfl⟩:∃a,v = .ref a:=by cases rd;exact⟨_,rfl⟩
  cases r;refine⟨.cons rfl i1,?_⟩;rw[mM,mM,zBs (DR.da ok rd rfl)];exact .cons rd i2
structure SrtOk (ds:List Dt):Prop where
 heads:Heads ds
 cmp:∀d∈ds,∀e∈ds,Dt.cmp d e=true
 deep:Dt.deeps ds<=100
 few:ds.length<=1000
section
variable {X:Cx}
def zJ9:List V->Hp->VK->Prop:=λ xs H Q=>∃(l:Addr) (vs:List V) (ds:List Dt),xs=[.ref l]/\H l=some (.lst vs)/\DRs H ds vs/\SrtOk ds /\
 ∀(l':Addr) (ws:List V),H l'=none->DRs H (sortD ds) ws->Q (.ref l') (upd H l' (.lst ws))
theorem zEm (hu:X.A.units+150<cLine):CallR X (.builtin "sorted") zJ9:=by
 intro jP s σ H xs us Q I r h;obtain⟨l,vs,ds,rfl,hl,hd,so,q⟩:=h;obtain⟨u,rfl,ru⟩:=vals1 r;cases ru;obtain⟨_,its,n0,rv,hlen,el⟩:=I.lstM hl;have hlv:its.length=vs.length:=rv.length.symm;have hlp:ds.length=vs.length:=hd.length;have line:its.length<=sizeLine:=Nat.le_of_lt (zAS (by have:=so.few;omega));refine Calls.call_function_entry kind_sorted plain_sorted entry_sorted (args_sorted1 _) ?_;unfold Builtin.«sorted»;refine lA (m:=checkCount "sorted" 1 1 _) (lB ?_);have hL:s.heap.IsList l its.toArray:=⟨_,el,rfl,_,rfl⟩;refine lA (collect_list hL ?_ (by simpa using line));refine lA (wpAny_newList ?_ (by simpa using line))
 have keep1:∀b o,s.heap.get? b=some o->((s.heap.push (seqObj "list" #[] 0)).update s.heap.objs.size (Obj.mapSeq (·++its.toArray))).get? b=some o:=λ b o q=>by
  have hlt:b<s.heap.objs.size:=lI q;rw[Heap.get?_update_ne _ _ _ _ (Nat.ne_of_lt hlt)];exact lG _ q
 show wpAny _ _ _ _ _ { s with heap:=((s.heap.push (seqObj "list" #[] 0)).update s.heap.objs.size (Obj.mapSeq (·++its.toArray))).push { cls:=.type "list", data:=.seq its.toArray } };generalize (s.heap.push (seqObj "list" #[] 0)).update s.heap.objs.size (Obj.mapSeq (·++its.toArray))=h1 at keep1 ⊢;have I1:Inv X jP σ H { s with heap:=h1 }:=I.kept (t':=s.toks) keep1;have hoL:(h1.push { cls:=.type "list", data:=.seq its.toArray }).get? h1.objs.size=some (seqObj "list" its.toArray 0):=lH _ rfl;have keepT:∀b x,h1.IsTuple b x->(h1.push { cls:=.type "list", data:=.seq its.toArray }).IsTuple b x:=λ b x hb=>zCP (λ b o U e=>lG _ e) hb;have hda0:DAs h1 ds its:=DRs.da I1.hok hd rv;have hda:DAs (h1.push { cls:=.type "list", data:=.seq its.toArray }) ds its:=hda0.kept keepT;have hld:ds.length=vs.length:=hd.length;have hdl:its.length=ds.length:=by omega
 refine lA (lF (wpAny_call_entry slot_list_sort ⟨_,hoL,rfl⟩ entry_list_sort (zBr (m:=100) hoL hda so.heads so.cmp so.deep (by have:=so.few;omega) (by show X.A.units+1+1+100<cLine;omega) λ ws pw od=>⟨_,rfl,?_⟩) (args_list_sort _)));have hwl:ws.length=ds.length:=by rw[pw.length_eq];exact hdl
 obtain⟨e,he⟩:∃e,(sortedHeap (h1.push { cls:=.type "list", data:=.seq its.toArray }) h1.objs.size its ws.toArray).get? h1.objs.size=some (seqObj "list" ws.toArray e):=sortedHeap_at hoL;have hn1:=I1.hok.fresh (lP h1.objs.size);obtain⟨v1,v2⟩:=zDH I1.hok rv hd (zCJ so.heads) (ws:=ws) λ u hu=>pw.mem_iff.mp hu
 have eqd:ws.map (dtOf h1)=sortD ds:=by
  rw[←od];refine List.map_congr_left λ u hu=>?_;obtain⟨d,_,rd⟩:=zFJ hda0 (pw.mem_iff.mp hu);rw[zBs rd,zBs (rd.kept keepT)]
 rw[eqd] at v2;refine lB ⟨_,rfl,⟨.ref h1.objs.size,upd H h1.objs.size (.lst (ws.map absR)),I1.laid (t':=s.toks) (a:=h1.objs.size) (o:=.lst (ws.map absR)) (λ b o hb=>?_) (lP _) ⟨?_,_,e,v1,?_⟩,rfl,q _ _ hn1 v2⟩⟩
 ·rw[sortedHeap_old (Nat.ne_of_lt (Heap.lt_size hb)) (by rw[Heap.size_push];exact Nat.lt_succ_of_lt (lI hb))]
  exact lG _ hb
 ·rw[lC,hwl]
  exact Nat.le_of_lt (zAS so.few)
 ·rw[he]
end
abbrev XN:=List (Dt × Addr × V)
noncomputable def prs (xs:XN):List (Dt × V):=xs.map λ x=>(x.1,x.2.2)
abbrev KTN:XN->List (Dt × Addr × Value)->Prop:=Paired λ p q=>p.1=q.1/\p.2.1=q.2.1/\RelV p.2.2 q.2.2
theorem KTN.val {xs:XN}{raw:List (Dt × Addr × Value)}(r:KTN xs raw) (k:Dt):RelO (valV (prs xs) k) ((atKey raw k).map (·.2)):=by
 induction r with
 |nil=>exact True.intro
 | @cons p q ps qs h t ih =>
  obtain⟨h1,_,h2⟩:=h
  by_cases e:p.1=k
  ·have e':q.1=k:=h1.symm.trans e
   have b:atKey (q::qs) k=some q.2:=by simp[atKey,List.find?_cons,e']
   rw[b];show RelO (valV ((p.1,p.2.2)::prs ps) k) _;rw[zA6 e];exact h2
  ·have e':¬q.1=k:=λ z=>e (h1.trans z)
   have b:atKey (q::qs) k=atKey qs k:=by simp[atKey,List.find?_cons,e']
   rw[b];show RelO (valV ((p.1,p.2.2)::prs ps) k) _;rw[zA7 e];exact ih
noncomputable def putN (xs:XN) (k:Dt) (b:Addr) (v:V):XN:=if ((prs xs).any λ kv=>decide (kv.1=k))=true then xs.map (λ x=>if x.1=k then (x.1,x.2.1,v) else x) else xs++[(k,b,v)]
theorem zKG (xs:XN) (k:Dt) (b:Addr) (v:V):prs (putN xs k b v)=putK (prs xs) k v:=by
 unfold putN putK
 by_cases c:((prs xs).any λ kv=>decide (kv.1=k))=true
 ·rw[if_pos c,if_pos c]
  unfold prs;rw[nX,nX];refine List.map_congr_left λ x U=>?_;dsimp only[Function.comp]
  by_cases e:x.1=k
  ·rw[if_pos e,if_pos e]
  ·rw[if_neg e,if_neg e]
 ·rw[if_neg c,if_neg c]
  simp[prs]
theorem KTN.put {xs:XN}{raw:List (Dt × Addr × Value)}(r:KTN xs raw) (k:Dt) (b:Addr) {v:V}{u:Value}(rv:RelV v u):KTN (putN xs k b v) (storedH raw k b u):=by
 have e:((prs xs).any λ kv=>decide (kv.1=k))=(atKey raw k).isSome:=by
  rw[zBy,(r.val k).isSome_eq,Option.isSome_map]
 unfold putN storedH;rw[e]
 by_cases q:(atKey raw k).isSome=true
 ·rw[if_pos q,if_pos q]
  clear e q
  induction r with
  |nil=>exact .nil
  | @cons p q ps qs h t ih =>
   rw[mM,mM];refine .cons ?_ ih;obtain⟨h1,h2,h3⟩:=h;unfold putAt
   by_cases e:p.1=k
   ·rw[if_pos e,if_pos (h1.symm.trans e)];exact⟨h1,h2,rv⟩
   ·rw[if_neg e,if_neg (λ z=>e (h1.trans z))];exact⟨h1,h2,h3⟩
 ·rw[if_neg q,if_neg q];exact Paired.snoc r ⟨rfl,rfl,rv⟩
def dNp (P:Program) (w:World) (a:Addr) (xs:XN) (h:Heap):Prop:=(a == sysModules)=false/\∃raw,KTN xs raw/\∃o es ep,h.get? a=some o/\o.ExactDict/\o.data = .dict es ep/\es.toList=raw.map (entryOfKey (zBt P w))/\(raw.map (·.1)).Nodup
noncomputable def dN (P:Program) (w:World) (a:Addr) (xs:XN):HO:=.ext (dNp P w a xs)
def KeysN (H:Hp) (xs:XN):Prop:=∀x∈xs,DR H x.1 (.ref x.2.1)/\x.1.deep<=8
def DicR (P:Program) (w:World) (H:Hp) (a:Addr) (kvs:List (Dt × V)):Prop:=∃xs,kvs=prs xs/\Rd H a (dN P w a xs)/\KeysN H xs/\xs.length<=1000
def DicN (P:Program) (w:World) (H:Hp) (a:Addr) (kvs:List (Dt × V)):Prop:=∃xs,kvs=prs xs/\H a=some (dN P w a xs)/\KeysN H xs/\xs.length<=1000
section
variable {P:Program}{w:World}{H H':Hp}{h:Heap}{a:Addr}{kvs:List (Dt × V)}
theorem DicN.rd:DicN P w H a kvs->DicR P w H a kvs
 |⟨xs,e,r,k,l⟩=>⟨xs,e,.inl r,k,l⟩
theorem KeysN.mono (t:Tk H H') {xs:XN}(k:KeysN H xs):KeysN H' xs:=λ x hx=>⟨(k x hx).1.mono t,(k x hx).2⟩
theorem DicR.mono (t:Tk H H') (e:H' a=H a):DicR P w H a kvs->DicR P w H' a kvs
 |⟨xs,e1,r,k,l⟩=>⟨xs,e1,by unfold Rd at r ⊢;rw[e];exact r,k.mono t,l⟩
theorem DicR.raw (ok:HOk P w H h):DicR P w H a kvs->∃raw,(a == sysModules)=false/\(∃xs,kvs=prs xs/\KTN xs raw)/\h.DictOfH (zBt P w) a raw/\raw.length<=1000
 |⟨xs,e,r,k,l⟩=>by
  obtain⟨⟨hs,raw,rel,o,es,ep,h1,h2,h3,h4,h5⟩,_⟩:=r.ok ok;have hl:raw.length=xs.length:=(Paired.length rel).symm;refine⟨raw,hs,⟨xs,e,rel⟩,⟨o,es,ep,h1,h2,h3,h4,?_,h5⟩,by omega⟩
  have all:∀{l:XN}{m:List (Dt × Addr × Value)},KTN l m->KeysN H l->∀x∈m,(zBt P w).is h x.1 x.2.1:=by
   intro l m q
   induction q with
   |nil=>intro _ x hx;exact nomatch hx
   | @cons p q ps qs hq t ih =>
    intro hk x hx;rcases lM.mp hx with e|hx
    ·subst e
     have:=hk p lN;rw[←hq.1,←hq.2.1];exact⟨DR.da ok this.1 rfl,this.2⟩
    ·exact ih (λ y hy=>hk y (lO _ hy)) x hx
  exact all rel k
theorem zKz {xs:XN}(x:dNp P w a xs h):ObjOk P w H h a (dN P w a xs):=by
 refine⟨x,?_,λ h1 h2 y k=>?_⟩
 ·obtain⟨_,raw,_,o,_,_,q,_⟩:=x
  exact⟨o,q⟩
 ·obtain⟨hs,raw,rel,o,es,ep,q,r⟩:=y
  exact⟨hs,raw,rel,o,es,ep,k o q,r⟩
theorem zEj {A:Around}(hu:A.units+20<cLine):(zBt P w).room A.in1:=by show A.units+1+8<cLine;omega
end
section
variable {X:Cx}{jP:List (Addr × Obj)}{σ:L2.St}{H:Hp}{s:Shared}{a b:Addr}{k:Dt}{kvs:List (Dt × V)}{v:V}{A:Around}{E:XQ}
theorem n_is (I:Inv X jP σ H s) (hk:DR H k (.ref b)) (hd:k.deep<=8):(zBt X.prog X.w).is s.heap k b:=⟨DR.da I.hok hk rfl,hd⟩
theorem zLX (I:Inv X jP σ H s) (d:DicR X.prog X.w H a kvs):s.TypeIs (.ref a) "dict" /\ (∀c,Value.ref a = .ref c->∃ob,s.heap.get? c=some ob/\ob.dict=none)/\(a == sysModules)=false:=by
 obtain⟨raw,hs,_,dd,_⟩:=d.raw I.hok;refine⟨dd.typeIs,λ c q=>?_,hs⟩;cases q;obtain⟨ob,_,_,h1,h2,_⟩:=dd;exact⟨ob,h1,h2.2.1⟩
theorem zH1 {Q:XQ}(hu:A.units+20<cLine) (I:Inv X jP σ H s) (d:DicR X.prog X.w H a kvs) (hk:DR H k (.ref b)) (hd:k.deep<=8) (hv:valV kvs k=some v) (h:∀w' s',Inv X jP σ H s'->RelV v w'->Q w' s') :
  wpAny (model X.prog X.w) A (getItem (.ref a) (.ref b)) Q E s:=by
 obtain⟨raw,hs,⟨xs,e,rel⟩,dd,_⟩:=d.raw I.hok;subst e;obtain⟨w',hw,rw'⟩:=RelO.some_of (v:=v) (o:=(atKey raw k).map (·.2)) (by rw[←hv];exact rel.val k);obtain⟨p,hp,hp2⟩:=lT.mp hw;refine wpAny_getItem_heap (zEj hu) (n_is I hk hd) dd hp ?_;rw[hp2];exact h w' _ (I.tok _) rw'
def DicP (P:Program) (w:World) (H:Hp) (a:Addr) (kvs:List (Dt × V)):Prop:=DicN P w H a kvs\/(H a=some (.dK [])/\kvs=[])
theorem zH0 {r:Value}{Q:Unit->Shared->Prop}(hu:A.units+20<cLine) (I:Inv X jP σ H s) (d:DicP X.prog X.w H a kvs) (hl:kvs.length<1000) (hk:DR H k (.ref b)) (hd:k.deep<=8) (rv:RelV v r)
  (h:∀o s',Inv X jP σ (upd H a o) s'->DicN X.prog X.w (upd H a o) a (putK kvs k v)->Tk H (upd H a o)->Q () s') :
  wpAny (model X.prog X.w) A (setItem (.ref a) (.ref b) r) Q E s:=by
 obtain⟨xs,raw,e,hs,rel,dd,hlen,hkeys,mu⟩:∃(xs:XN) (raw:List (Dt × Addr × Value)),kvs=prs xs/\(a == sysModules)=false/\KTN xs raw/\s.heap.DictOfH (zBt X.prog X.w) a raw/\raw.length<=1000/\KeysN H xs/\Mut (H a):=by
  rcases d with d|⟨ea,rfl⟩
  ·obtain⟨xs',e',q',kk,ll⟩:=id d
   obtain⟨⟨hs,raw,rel,o,es,ep,h1,h2,h3,h4,h5⟩,_⟩:=(show ObjOk X.prog X.w H s.heap a (dN X.prog X.w a xs') from I.hok a _ q');obtain⟨raw',hs',⟨xs2,e2,rel2⟩,dd,hl2⟩:=d.rd.raw I.hok;refine⟨xs',raw,e',hs,rel,⟨o,es,ep,h1,h2,h3,h4,?_,h5⟩,by have:=Paired.length rel;omega,kk,by rw[q'];exact True.intro⟩;obtain⟨o2,es2,ep2,g1,g2,g3,g4,g5,g6⟩:=dd;rw[h1] at g1;cases g1;rw[h3] at g3;cases g3;have er:raw.map (λ x=>(x.1,x.2.1))=raw.map (λ x=>(x.1,x.2.1)):=rfl
   have all:∀{l:XN}{m:List (Dt × Addr × Value)},KTN l m->KeysN H l->∀x∈m,(zBt X.prog X.w).is s.heap x.1 x.2.1:=by
    intro l m q
    induction q with
    |nil=>intro _ x hx;exact nomatch hx
    | @cons p q ps qs hq t ih =>
     intro hk x hx;rcases lM.mp hx with e|hx
     ·subst e
      have:=hk p lN;rw[←hq.1,←hq.2.1];exact⟨DR.da I.hok this.1 rfl,this.2⟩
     ·exact ih (λ y hy=>hk y (lO _ hy)) x hx
   exact all rel kk
  ·obtain⟨_,hs,vs,rel,o,es,ep,h1,h2,h3,_,h4,_⟩:=dk_of I.hok ea
   cases rel
   have e0:es.toList=[]:=by
    generalize es.toList=L at h4;cases h4;rfl
   exact⟨[],[],rfl,hs,.nil,⟨o,es,ep,h1,h2,h3,by simpa using e0,(λ x hx=>by cases hx),List.nodup_nil⟩,by simp,(λ x hx=>by cases hx),by rw[ea];exact True.intro⟩
 subst e;have hz:raw.length<=sizeLine:=Nat.le_of_lt (zAS hlen);have ntup:∀c ys,H c=some (.tup ys)->c≠a:=λ c ys r z=>by subst z;rw[r] at mu;exact mu
 refine wpAny_setItem_heap (hsz:=hz) (zEj hu) (n_is I hk hd) dd λ h' dd' hsb=>?_;obtain⟨q,es,ep,hq,h2,h3,h4,_,h5⟩:=dd';have tk:Tk H (upd H a (dN X.prog X.w a (putN xs k b v))):=λ c ys ec=>by rw[zAJ (ntup c ys ec)];exact ec
 refine h (dN X.prog X.w a (putN xs k b v)) _ (zEk I mu hsb ⟨q,hq⟩ (zKz ⟨hs,_,rel.put k b rv,q,es,ep,hq,h2,h3,h4,h5⟩)) ⟨putN xs k b v,(zKG xs k b v).symm,zAA,λ x hx=>?_,?_⟩ tk
 ·have:(x.1=k/\x.2.1=b)\/∃y∈xs,x.1=y.1/\x.2.1=y.2.1:=by
   unfold putN at hx;split at hx
   ·obtain⟨y,hy,rfl⟩:=mG.mp hx
    refine .inr ⟨y,hy,?_⟩;split<;>exact⟨rfl,rfl⟩
   ·rcases lK.mp hx with hx|hx
    ·exact .inr ⟨x,hx,rfl,rfl⟩
    ·rw[mR] at hx
     subst hx;exact .inl ⟨rfl,rfl⟩
  rcases this with ⟨e1,e2⟩|⟨y,hy,e1,e2⟩
  ·rw[e1,e2];exact⟨hk.mono tk,hd⟩
  ·rw[e1,e2];exact⟨(hkeys y hy).1.mono tk,(hkeys y hy).2⟩
 ·unfold putN
  split
  ·rw[lC];simp[prs] at hl;omega
  ·rw[mL];simp[prs] at hl ⊢;omega
end
end L2
namespace PySem
open Sem (wp)
def zCM (h:Heap) (d:Addr) (es:Array DictEntry) (ep:Nat):Prop:=∃o,h.get? d=some o/\o.ExactDict/\o.data = .dict es ep
theorem zCM.at {h h':Heap}{d:Addr}{es:Array DictEntry}{ep:Nat}(x:zCM h d es ep) (e:∀o,h.get? d=some o->h'.get? d=some o):zCM h' d es ep:=let ⟨o,ho,r⟩:=x;⟨o,e _ ho,r⟩
theorem zCM.typeIs {s:Shared}{d:Addr}{es:Array DictEntry}{ep:Nat}(x:zCM s.heap d es ep):s.TypeIs (.ref d) "dict" := let ⟨o,ho,hc,_⟩:=x;⟨o,ho,hc.1⟩
section
variable {prog:Program}{w:World}{A:Around}{E:XQ}{s:Shared}{d it:Addr}{es:Array DictEntry}{ep i:Nat}
abbrev zLZ (d:Addr) (n ep:Nat):Obj:={ cls:=.type "dict_keyiterator", data:=.fields #[.ref d,.int 0 0,.int n 0,.int ep 0] }
theorem zJ1 {Q:XQ}(lo:(d == sysModules)=false) (hm:zCM s.heap d es ep) (hQ:Q (.ref s.heap.objs.size) { s with heap:=s.heap.push (zLZ d es.size ep) }):wpAny (model prog w) A (pyIter (.ref d)) Q E s:=by
 have hT:=hm.typeIs;obtain⟨o,ho,hc,hdat⟩:=hm;refine wpAny_pyIter_slot hT F.slot_dict_iter (wpAny_call_entry F.slot_dict_iter hT F.entry_dict_iter ?_ (F.args_dict_iter_1 _));unfold Builtin.«dict.__iter__»;refine lA ?_;unfold Builtin.Dict.dictSlotNone;refine lA (wpAny_notOrdered_dict hT (lB ?_));(show wpAny _ _ (Builtin.Dict.showsAll d >>= _) _ _ s);unfold Builtin.Dict.showsAll;rw[if_neg (by rw[lo];exact lV)];refine lA (lB (lA (wpAny_dictEntries ho hdat (lA (wpAny_dictEpoch ho hdat ?_)))));refine lA (wpAny_newObj_type (lB ⟨_,rfl, "dict_keyiterator", _,⟨_,lH _ rfl,rfl⟩,F.slot_dict_keyiterator_next.lookup,?_⟩));simpa[rawInt] using hQ
theorem zJ0 {Q:Option Value->Shared->Prop}(hit:s.heap.IsKeyIter it d i es.size ep) (hm:zCM s.heap d es ep) (hi:i<es.size)
  (hQ:∀h',h'.IsKeyIter it d (i+1) es.size ep->Heap.SameBut it s.heap h'->Q (some es[i].key) { s with heap:=h' }):wpAny (model prog w) A (pyNext (.ref it)) Q E s:=by
 obtain⟨o,ho,hc,hd⟩:=id hit;obtain⟨od,hod,hcd,hdd⟩:=id hm;unfold pyNext;refine lA (wpAny_attempt (wpAny_callSpecial?_slot (name:=Str.ofString "__next__") hit.typeIs F.slot_dict_keyiterator_next (wpAny_call_entry F.slot_dict_keyiterator_next hit.typeIs F.entry_dict_keyiterator_next ?_ (F.args_dict_keyiterator_next_1 _))));refine lA (lB (lA (lA ?_)))
 first|refine lA (wpAny_typeNameOfWhole_keyiter hit.typeIs (lB (lA (wpAny_fieldsOf ho hd ?_))))|refine lA (wpAny_typeNameOf_keyiter hit.typeIs (lB (lA (wpAny_fieldsOf ho hd ?_))))
 simp only[show Builtin.Dict_items.ownsTuple "dict_keyiterator" = false by decide,Bool.false_eq_true,if_false];show wpAny _ _ (if (Value.ref d == Value.none)=true then _ else _) _ _ s;rw[if_neg (show ¬((Value.ref d == Value.none)=true) from Bool.false_ne_true)];refine lA (lB (lA (wpAny_dictEntries hod hdd ?_)));rw[if_neg (by simp)];refine lA (lB (lA (wpAny_dictEpoch hod hdd ?_)));rw[if_neg (by simp)];refine lB ?_;simp only[show ¬((i:Int)<0) from by omega,if_false,Int.toNat_natCast,Array.getElem?_eq_getElem hi];refine lA ?_
 first|refine lA (wpAny_typeNameOfWhole_keyiter hit.typeIs (lB (lA (wpAny_isOneOf_keyiter hit.typeIs ?_))))|refine lA (wpAny_typeNameOf_keyiter hit.typeIs (lB (lA (wpAny_isOneOf_keyiter hit.typeIs ?_))))
 show wpAny _ _ (setField (.ref it) 1 (rawInt ((i:Int)+1)) >>= _) _ _ s;refine lA (wpAny_setField ho hd (by simp) ?_);have hit':(s.heap.update it (Obj.mapFields (·.setIfInBounds 1 (rawInt ((i:Int)+1))))).IsKeyIter it d (i+1) es.size ep:=⟨_,Heap.get?_update_self _ ho (Obj.isFreed_of_fields (Obj.data_mapFields hd _)),(Obj.cls_mapFields ..).trans hc,by rw[Obj.data_mapFields hd];simp[rawInt]⟩;refine lA (lF (lA (wpAny_isOneOf_keyiter (s:={ s with heap:=s.heap.update it (Obj.mapFields (·.setIfInBounds 1 (rawInt ((i:Int)+1)))) }) hit'.typeIs ?_)));show wpAny _ _ (pure es[i].key) _ _ _;exact lB (lB ⟨_,rfl,lB (hQ _ hit' (Heap.SameBut.update ..))⟩)
theorem zLG {Q:Option Value->Shared->Prop}(hh:A.handled=none) (hit:s.heap.IsKeyIter it d i es.size ep) (hm:zCM s.heap d es ep) (hi:es.size<=i)
  (hQ:∀h',Heap.ExtBut it s.heap h'->Q none { s with heap:=h' }):wpAny (model prog w) A (pyNext (.ref it)) Q E s:=by
 obtain⟨o,ho,hc,hd⟩:=id hit;obtain⟨od,hod,hcd,hdd⟩:=id hm;unfold pyNext;refine lA (wpAny_attempt (wpAny_callSpecial?_slot (name:=Str.ofString "__next__") hit.typeIs F.slot_dict_keyiterator_next (wpAny_call_entry F.slot_dict_keyiterator_next hit.typeIs F.entry_dict_keyiterator_next ?_ (F.args_dict_keyiterator_next_1 _))));refine lA (lB (lA (lA ?_)))
 first|refine lA (wpAny_typeNameOfWhole_keyiter hit.typeIs (lB (lA (wpAny_fieldsOf ho hd ?_))))|refine lA (wpAny_typeNameOf_keyiter hit.typeIs (lB (lA (wpAny_fieldsOf ho hd ?_))))
 simp only[show Builtin.Dict_items.ownsTuple "dict_keyiterator" = false by decide,Bool.false_eq_true,if_false];show wpAny _ _ (if (Value.ref d == Value.none)=true then _ else _) _ _ s;rw[if_neg (show ¬((Value.ref d == Value.none)=true) from Bool.false_ne_true)];refine lA (lB (lA (wpAny_dictEntries hod hdd ?_)));rw[if_neg (by simp)];refine lA (lB (lA (wpAny_dictEpoch hod hdd ?_)));rw[if_neg (by simp)];refine lB ?_;simp only[show ¬((i:Int)<0) from by omega,if_false,Int.toNat_natCast,Array.getElem?_eq_none hi];refine lA ?_
 first|refine lA (wpAny_typeNameOfWhole_keyiter hit.typeIs (lB ?_))|refine lA (wpAny_typeNameOf_keyiter hit.typeIs (lB ?_))|skip
 show wpAny _ _ (setField (.ref it) 0 .none >>= _) _ _ s;refine lA (wpAny_setField ho hd (by simp) ?_);show wpAny _ _ (newExc (.type "StopIteration") [] >>= _) _ _ _;refine lA ?_;simp only[newExc,newTuple];refine lA (wpAny_newObj_type ?_ (by size_fits));refine lA (m:=firstArgMember _ _) (wpAny_of_eq (a:=Value.none) (by first|rfl|(simp only[firstArgMember];rfl)) (wpAny_newObj_type ?_ (by size_fits)));simp only[raiseNew];refine lA (wpAny_handled ?_);rw[show A.in1.handled=none from hh];refine lA (lB (wpAny_throw ?_));refine lA (wpAny_isInstance (T := "StopIteration") (b:=true) ⟨_,lH _ rfl,rfl⟩ isSubtype_stop ?_);exact lB (hQ _ (((Heap.SameBut.update ..).extBut.push _).push _))
theorem zIb (hh:A.handled=none) (I d:Addr) (hne:d≠I) (es:Array DictEntry) (ep:Nat) :
  Walks prog w A I [I,d] [I] es.size (λ i v=>∃e,es[i]?=some e/\v=e.key) (λ i h=>h.IsKeyIter I d i es.size ep/\zCM h d es ep) where
 sub:=λ b hb=>by simp at hb;simp[hb]
 frame:=λ U U U st hk=>⟨st.1.at λ o e=>hk I (by simp) o e,st.2.at λ o e=>hk d (by simp) o e⟩
 item:=λ i s Q E hi st hQ=>zJ0 st.1 st.2 hi λ h' hit' hs'=>hQ _ h' s.toks ⟨es[i],by simp[hi],rfl⟩ ⟨hit',st.2.at λ o e=>hs'.extBut d o hne e⟩ λ b o hb e=>hs'.extBut b o (λ h=>hb (by simp[h])) e
 done:=λ s Q E st hQ=>zLG hh st.1 st.2 (lP _) λ h' he'=>hQ h' s.toks λ b o hb e=>he' b o (λ h=>hb (by simp[h])) e
 self:=λ U U U U st hQ=>wpAny_pyIter_keyiter st.1 hQ
end
end PySem
namespace PySem.W
open PySem
section
variable {prog:Program}{w:World}{d r:Addr}{es:Array DictEntry}{ep:Nat}
theorem src_rw (lo:(d == sysModules)=false):KdlSrc prog w "dict" d d es.size (λ i v=>∃e,es[i]?=some e/\v=e.key) (λ h=>zCM h d es ep) where
 type:=λ U hm=>hm.typeIs
 there:=λ U hm=>let ⟨o,ho,_⟩:=hm;⟨lI ho,lI ho⟩
 keep:=λ U U hm hk=>hm.at λ o e=>hk d (.inl rfl) o e
 notList:=by decide
 notTuple:=by decide
 hint:=λ U U U U hm hq=>kdl_hint_dict hm.typeIs hq
 iter:=λ U s hh hm=>⟨_,_,(λ U U hq=>zJ1 lo hm hq),zIb hh _ d (let ⟨o,ho,_⟩:=hm;lQ (lI ho)) es ep,⟨⟨_,lH _ rfl,rfl,rfl⟩,hm.at λ o e=>lG _ e⟩⟩
end
end PySem.W
namespace PySem.W
open PySem PySem.Spec PySem.Calls PyProof.Rows
end PySem.W
namespace L2
open PySem PySem.Spec PyProof.Rows
end L2
namespace PySem.W
open PySem PySem.Spec PySem.Calls PyProof.Rows
end PySem.W
namespace L2
open PySem PySem.Spec PyProof.Rows
abbrev HR:=Ends->Addr->St->Hp->Prop
noncomputable def ov (H N:Hp):Hp:=λ a=>(N a).or (H a)
open PySem.Calls PySem.W
def KyN (H:Hp) (y:V) (k:Dt):Prop:=∃b,y = .ref b/\DR H k y/\k.deep<=8
def tNGet (P:Program) (w:World) (td ty:TE):TE:=λ σ H Q=>td σ H λ x H1=>ty σ H1 λ y H2=>∃a k v kvs,x = .ref a/\DicR P w H2 a kvs/\KyN H2 y k/\valV kvs k=some v/\Q v H2
def sNPut (P:Program) (w:World) (td ty tv:TE):TS:=λ D σ H=>tv σ H λ v H1=>td σ H1 λ x H2=>ty σ H2 λ y H3=>∃a k kvs,x = .ref a/\DicP P w H3 a kvs/\kvs.length<1000/\KyN H3 y k/\∀o,DicN P w (upd H3 a o) a (putK kvs k v)->Tk H3 (upd H3 a o)->D.nx σ (upd H3 a o)
def DicE (P:Program) (w:World) (H:Hp) (a:Addr) (kvs:List (Dt × V)):Prop:=DicR P w H a kvs\/(H a=some (.dK [])/\kvs=[])
def zLA (P:Program) (w:World) (td ty tx:TE):TE:=λ σ H Q=>td σ H λ x H1=>∃a kvs,x = .ref a/\DicE P w H1 a kvs/\ty σ H1 λ y H2=>tx σ H2 λ z H3=>∃k kvs,DicE P w H3 a kvs/\KyN H3 y k/\Q ((valV kvs k).getD z) H3
section
variable {X:Cx}{o i e f value:Expr}{pos pos' tpos apos cpos:Pos}{td ty tv tx:TE}
theorem e_raw {jP:List (Addr × Obj)}{σ:L2.St}{H:Hp}{s:Shared}{a:Addr}{kvs:List (Dt × V)}(I:Inv X jP σ H s) (d:DicE X.prog X.w H a kvs):∃raw,(a == sysModules)=false/\(∃xs,kvs=prs xs/\KTN xs raw)/\s.heap.DictOfH (zBt X.prog X.w) a raw/\raw.length<=1000:=by
 rcases d with d|⟨ea,rfl⟩
 ·exact d.raw I.hok
 ·obtain⟨_,hs,vs,rel,o,es,ep,h1,h2,h3,_,h4,_⟩:=dk_of I.hok ea
  cases rel
  have e0:es.toList=[]:=by
   generalize es.toList=L at h4;cases h4;rfl
  exact⟨[],hs,⟨[],rfl,.nil⟩,⟨o,es,ep,h1,h2,h3,by simpa using e0,(λ x hx=>by cases hx),List.nodup_nil⟩,by simp⟩
theorem zKM (hu:X.A.units+150<cLine) (ho:PE X o td) (hi:PE X i ty) (hs:NoSl i):PE X (.Subscript o i pos) (tNGet X.prog X.w td ty):=by
 intro jP s σ H Q I h;refine zHO PySem.F.slot_dict_getitem.lookup hs (thn (ho jP s σ H _ I h) λ u s1 ⟨x,H1,I1,rx,q1⟩=>thn (hi jP s1 σ H1 _ I1 q1) λ iv s2 ⟨y,H2,I2,ry,a,k,v,kvs,ex,d,⟨b,eb,hk,hd⟩,hv,q2⟩=>?_);subst ex eb;obtain rfl:u=Value.ref a:=rx;obtain rfl:iv=Value.ref b:=ry;exact⟨(zLX I2 d).1,zH1 (by omega) I2 d hk hd hv λ w' s3 I3 rw'=>⟨v,H2,I3,rw',q2⟩⟩
theorem zKE (hu:X.A.units+150<cLine) (ho:PE X o td) (hi:PE X i ty) (hv:PE X value tv) (hs:swapsWith value (some (.Subscript o i pos')) pos.line X.env=pure false) :
  PS X (.Assign [.Subscript o i pos'] value pos) (sNPut X.prog X.w td ty tv):=by
 intro jP s σ H D I h;refine wpAny_Assign_Subscript (thn (hv jP s σ H _ I h) λ r s1 ⟨v,H1,I1,rv,q1⟩=>thn (ho jP s1 σ H1 _ I1 q1) λ u s2 ⟨x,H2,I2,rx,q2⟩=>thn (hi jP s2 σ H2 _ I2 q2) λ iv s3 ⟨y,H3,I3,ry,a,k,kvs,ex,d,hl,⟨b,eb,hk,hd⟩,q3⟩=>?_) hs;subst ex eb;obtain rfl:u=Value.ref a:=rx;obtain rfl:iv=Value.ref b:=ry;exact zH0 (by omega) I3 d hl hk hd rv λ o s4 I4 d4 t4=>⟨σ,_,I4,q3 o d4 t4⟩
theorem zIr (hu:X.A.units+150<cLine) (ho:PE X o td) (he:PE X e ty) (hf:PE X f tx) (m:M2 X o "get" apos e f cpos):PE X (.Call (.Attribute o "get" apos) [e,f] [] cpos) (zLA X.prog X.w td ty tx):=by
 intro jP s σ H Q I h;refine wpAny_Call_method m.base m.few m.line PySem.F.plainAttrs_dict PySem.F.slot_dict_get PySem.F.type_dict_get (thn (ho jP s σ H _ I h) λ u s1 ⟨x,H1,I1,rx,a,kvs1,ex,d,q1⟩=>?_);subst ex;obtain rfl:u=Value.ref a:=rx;obtain⟨raw,hs,_,dd,_⟩:=e_raw I1 d;refine⟨dd.typeIs,λ c q=>?_,?_⟩
 ·cases q
  obtain⟨ob,_,_,h1,h2,_⟩:=dd;exact⟨ob,h1,h2.2.1⟩
 rw[m.trees]
 refine Calls.callWith_builtin rfl (Calls.evalArgs_plain (Calls.spliced_cons (thn (he jP s1 σ H1 _ I1 q1) λ iv s2 ⟨y,H2,I2,ry,q2⟩ =>
  Calls.spliced_cons (thn (hf jP s2 σ H2 _ I2 q2) λ fv s3 ⟨z,H3,I3,rz,k,kvs,d3,⟨b,eb,hk,hd⟩,q3⟩=>Calls.spliced_nil ?_))))
 subst eb;obtain rfl:iv=Value.ref b:=ry;obtain⟨raw3,hs3,⟨xs,e3,rel⟩,dd3,_⟩:=e_raw I3 d3;subst e3;refine call_meetsIn PySem.F.slot_dict_get dd3.typeIs PySem.F.entry_dict_get (PySem.F.args_dict_get_3 _ _ _) (meetsH_dict_get_default (zBt X.prog X.w) a b hs3 fv) ⟨zEj (by omega),k,raw3,n_is I3 hk hd,dd3,?_⟩;exact⟨_,H3,I3.tok _,(rel.val k).getD rz,q3⟩
theorem zFp {H:Hp}{h:Heap}{P:Program}{w:World}(ok:HOk P w H h) {a:Addr}{kvs:List (Dt × V)}(d:DicE P w H a kvs):∃(es:Array DictEntry) (ep:Nat),(a == sysModules)=false/\zCM h a es ep/\es.size=kvs.length/\es.size<=1000/\(kvs.map (·.1)).Nodup/\∃vs:List V,DRs H (kvs.map (·.1)) vs/\∀acc:List Value,acc.length=es.size->(∀(j:Nat) (v:Value),acc[j]?=some v->∃e:DictEntry,es[j]?=some e/\v=e.key)->Vals vs acc:=by
 rcases d with d|⟨ea,rfl⟩
 rotate_left
 ·obtain⟨_,hs,vs,rel,o,es,ep,h1,h2,h3,_,h4,_⟩:=dk_of ok ea
  cases rel
  have e0:es.toList=[]:=by
   generalize es.toList=L at h4;cases h4;rfl
  have e1:es.size=0:=by rw[←Array.length_toList,e0];rfl
  exact⟨es,ep,hs,⟨o,h1,h2,h3⟩,e1,by omega,List.nodup_nil,[],.nil,λ acc ha U=>by
   have:acc=[]:=List.length_eq_zero_iff.mp (by omega);subst this;exact .nil⟩
 obtain⟨xs,e,r,k,l⟩:=d;obtain⟨⟨hs,raw,rel,o,es,ep,h1,h2,h3,h4,h5⟩,hX⟩:=r.ok ok;clear hX;subst e;have hl:raw.length=xs.length:=(Paired.length rel).symm;have hes:es.size=raw.length:=by rw[←Array.length_toList,h4,lC]
 refine⟨es,ep,hs,⟨o,h1,h2,h3⟩,by rw[hes,hl];simp[prs],by omega,?_,xs.map (λ x=>.ref x.2.1),?_,λ acc ha hj=>?_⟩
 ·have ek:∀{l:XN}{m:List (Dt × Addr × Value)},KTN l m->(prs l).map (·.1)=m.map (·.1):=by
   intro l m q
   induction q with
   |nil=>rfl
   | @cons p q ps qs hq t ih =>
    show p.1::(prs ps).map (·.1)=q.1::qs.map (·.1);rw[ih,hq.1]
  rw[ek rel];exact h5
 ·have:∀{l:XN},KeysN H l->DRs H ((prs l).map (·.1)) (l.map λ x=>.ref x.2.1):=by
   intro l
   induction l with
   |nil=>intro _;exact .nil
   |cons x l ih=>intro hk;exact .cons (hk x lN).1 (ih λ y hy=>hk y (lO _ hy))
  exact this k
 ·have hk:acc=raw.map (λ q=>Value.ref q.2.1):=by
   refine List.ext_getElem? λ j=>?_
   by_cases c:j<acc.length
   ·obtain⟨e,he,hv⟩:=hj j _ (lU c)
    rw[nT c,hv,mH];rw[←nN,h4,mH] at he;obtain⟨q,hq,rfl⟩:=lT.mp he;rw[hq];rfl
   ·rw[List.getElem?_eq_none (by omega),List.getElem?_eq_none (by rw[lC];omega)]
  rw[hk];clear hj hk h4 h5 l hl hes k r ha
  induction rel with
  |nil=>exact .nil
  | @cons p q ps qs hq t ih=>exact .cons (by show Value.ref q.2.1=Value.ref p.2.1;rw[hq.2.1]) ih
def zLH (P:Program) (w:World):List V->Hp->VK->Prop:=λ xs H Q=>∃(d:Addr) (kvs:List (Dt × V)),xs=[.ref d]/\DicE P w H d kvs/\SrtOk (kvs.map (·.1)) /\
 ∀(l':Addr) (ws:List V),H l'=none->(kvs.map (·.1)).Nodup->DRs H (sortD (kvs.map (·.1))) ws->Q (.ref l') (upd H l' (.lst ws))
theorem zFM (hc:X.calm=true) (hu:X.A.units+150<cLine):CallR X (.builtin "sorted") (zLH X.prog X.w):=by
 intro jP s σ H xs us Q I r h;obtain⟨d,kvs,rfl,hdd,so,q⟩:=h;obtain⟨u,rfl,ru⟩:=vals1 r;cases ru;obtain⟨es,ep,lo,hrw,hsz,hle,hnd,vs,hd,hvals⟩:=zFp I.hok hdd;generalize kvs.map (·.1)=ds at so hd q hnd;have line:es.size<=sizeLine:=Nat.le_of_lt (zAS hle);refine Calls.call_function_entry kind_sorted plain_sorted entry_sorted (args_sorted1 _) ?_;unfold Builtin.«sorted»;refine lA (m:=checkCount "sorted" 1 1 _) (lB ?_);refine lA (W.kdu_collect (A:=X.A.in1) (W.src_rw (es:=es) (ep:=ep) lo) (I.ok.hd hc) hrw line λ h1 tk acc hk1 hacc=>?_);have la:acc.toList.length=es.size:=by rw[Array.length_toList];exact hacc.1
 have rv0:Vals vs acc.toList:=hvals acc.toList la λ j v hv=>hacc.2 j v (by rw[←nN];exact hv);generalize acc.toList=its at la rv0 ⊢;have rv:Vals vs its:=rv0;have hld0:ds.length=vs.length:=hd.length;have hlv:its.length=vs.length:=rv.length.symm;have I1:Inv X jP σ H { s with heap:=h1,toks:=tk }:=I.kept hk1;refine lA (wpAny_newList ?_ (by rw[la];exact line));have hoL:(h1.push { cls:=.type "list", data:=.seq its.toArray }).get? h1.objs.size=some (seqObj "list" its.toArray 0):=lH _ rfl;have keepT:∀b x,h1.IsTuple b x->(h1.push { cls:=.type "list", data:=.seq its.toArray }).IsTuple b x:=λ b x hb=>zCP (λ b o U e=>lG _ e) hb;have hda0:DAs h1 ds its:=DRs.da I1.hok hd rv;have hda:DAs (h1.push { cls:=.type "list", data:=.seq its.toArray }) ds its:=hda0.kept keepT;have hld:ds.length=vs.length:=hd.length;have hdl:its.length=ds.length:=by omega
 refine lA (lF (wpAny_call_entry slot_list_sort ⟨_,hoL,rfl⟩ entry_list_sort (zBr (m:=100) hoL hda so.heads so.cmp so.deep (by have:=so.few;omega) (by show X.A.units+1+1+100<cLine;omega) λ ws pw od=>⟨_,rfl,?_⟩) (args_list_sort _)));have hwl:ws.length=ds.length:=by rw[pw.length_eq];exact hdl
 obtain⟨e,he⟩:∃e,(sortedHeap (h1.push { cls:=.type "list", data:=.seq its.toArray }) h1.objs.size its ws.toArray).get? h1.objs.size=some (seqObj "list" ws.toArray e):=sortedHeap_at hoL;have hn1:=I1.hok.fresh (lP h1.objs.size);obtain⟨v1,v2⟩:=zDH I1.hok rv hd (zCJ so.heads) (ws:=ws) λ u hu=>pw.mem_iff.mp hu
 have eqd:ws.map (dtOf h1)=sortD ds:=by
  rw[←od];refine List.map_congr_left λ u hu=>?_;obtain⟨d,_,rd⟩:=zFJ hda0 (pw.mem_iff.mp hu);rw[zBs rd,zBs (rd.kept keepT)]
 rw[eqd] at v2;refine lB ⟨_,rfl,⟨.ref h1.objs.size,upd H h1.objs.size (.lst (ws.map absR)),I1.laid (t':=tk) (a:=h1.objs.size) (o:=.lst (ws.map absR)) (λ b o hb=>?_) (lP _) ⟨?_,_,e,v1,?_⟩,rfl,q _ _ hn1 hnd v2⟩⟩
 ·rw[sortedHeap_old (Nat.ne_of_lt (Heap.lt_size hb)) (by rw[Heap.size_push];exact Nat.lt_succ_of_lt (lI hb))]
  exact lG _ hb
 ·rw[lC,hwl]
  exact Nat.le_of_lt (zAS so.few)
 ·rw[he]
end
theorem DicP.e {P:Program}{w:World}{H:Hp}{a:Addr}{kvs:List (Dt × V)}:DicP P w H a kvs->DicE P w H a kvs
 |.inl d=>.inl d.rd
 |.inr d=>.inr d
theorem DicE.mono {P:Program}{w:World}{H H':Hp}{a:Addr}{kvs:List (Dt × V)}(t:Tk H H') (e:H' a=H a):DicE P w H a kvs->DicE P w H' a kvs
 |.inl d=>.inl (d.mono t e)
 |.inr ⟨d,z⟩=>.inr ⟨e▸d,z⟩
theorem DicE.r {P:Program}{w:World}{H:Hp}{a:Addr}{kvs:List (Dt × V)}{k:Dt}{v:V}(hv:valV kvs k=some v):DicE P w H a kvs->DicR P w H a kvs
 |.inl d=>d
 |.inr ⟨_,z⟩=>by subst z;cases hv
theorem zJB {κ:Type} [DecidableEq κ] {kvs:List (κ × V)}{k:κ}:k∈kvs.map (·.1)↔(valV kvs k).isSome=true:=by
 rw[←zBy,List.any_eq_true];constructor
 ·intro h
  obtain⟨p,hp,rfl⟩:=mG.mp h;exact⟨p,hp,by simp⟩
 ·rintro⟨p,hp,e⟩
  exact mG.mpr ⟨p,hp,by simpa using e⟩
noncomputable def ItE (K:W.Frag) (a:Addr) (t:Bool):It:=if t=true then Itt K a else Itl K a
def SqE (K:W.Frag) (H:Hp) (a:Addr) (t:Bool) (xs:List V):Prop:=if t=true then SqT K H a xs else SqL K H a xs
def iSeq (K:W.Frag) (i:Nat):TI:=λ σ H R=>∃a t xs,σ[i]?=some (some (.ref a))/\SqE K H a t xs/\R (ItE K a t) H
theorem zLM {X:Cx}{tg l:Expr}{i:Nat}(he:PE X l (tVar i)):PI X tg l (iSeq X.K i):=by
 intro jP s σ H R I h;obtain⟨a,t,xs,hv,hs,hR⟩:=h;cases t with
 |true=>exact zCo he jP s σ H R I ⟨_,hv,a,rfl,⟨xs,hs⟩,hR⟩
 |false=>exact zDY he jP s σ H R I ⟨_,hv,a,rfl,⟨xs,hs⟩,hR⟩
theorem zKv {K:W.Frag}{a:Addr}{t:Bool}{xs:List V}{g:TG}{tb:TS}{D:Ends}{σ:L2.St}{H:Hp}(Pv:Nat->L2.St->Hp->Prop) (h0:Pv 0 σ H) (hl:∀i σ H,i<=xs.length->Pv i σ H->SqE K H a t xs)
  (hs:∀i x σ H,xs[i]?=some x->Pv i σ H->g x σ H λ σ2 H2=>tb { D with nx:=Pv (i+1),ct:=Pv (i+1),bk:=D.nx } σ2 H2) (hd:∀σ H,Pv xs.length σ H->D.nx σ H) :
  ∃W:Nat->Nat->L2.St->Hp->Prop,(∃m,W 0 m σ H)/\∀i m σ H,W i m σ H ->
   ((ItE K a t).stop i H/\D.nx σ H)\/((ItE K a t).go i H/\∃N:L2.St->Hp->Prop,(∀σ' H',N σ' H'->∃m',m'<m/\W (i+1) m' σ' H')/\∀x H',(ItE K a t).yld i H x H'->g x σ H' λ σ2 H2=>tb { D with nx:=N,ct:=N,bk:=D.nx } σ2 H2):=by
 cases t with
 |true=>exact zC3 Pv h0 hl hs hd
 |false=>exact zJI Pv h0 hl hs hd
end L2
namespace PyProof.Rows
open PySem PySem.Calls
theorem zFL {prog:Program}{w:World}{A:Around}{E:XQ}{s:Shared}{l:Addr}{vs:List Value}{Q:List Value->Shared->Prop}(hl:s.heap.IsTuple l vs.toArray)
    (h:Q vs { s with heap:=(s.heap.push (seqObj "list" #[] 0)).update s.heap.objs.size (Obj.mapSeq (·++vs.toArray)) }) (hsz:vs.length<=sizeLine):wpAny (model prog w) A (collect (.ref l)) Q E s:=by
  obtain⟨o,ho,hc,n,hd⟩:=id hl;unfold collect;refine lA (wpAny_runValue (codeAny_builtin entry_proto_collect' ?_));show wpAny _ _ (do again (.builtin "list.__iadd__" ⟨[←newList [],.ref l],[]⟩)) _ _ s;refine lA (wpAny_newList (lB ⟨Code.quiet_builtin _ (by right),codeAny_builtin entry_list_iadd' ?_⟩));show wpAny _ _ (Builtin.List.listExtendWith (.ref s.heap.objs.size) (.ref l) (.ref s.heap.objs.size)) _ _ { s with heap:=s.heap.push (seqObj "list" #[] 0) };unfold Builtin.List.listExtendWith;have ho':(s.heap.push (seqObj "list" #[] 0)).get? l=some o:=lG _ ho;refine lA (wpAny_typeOf (T := "tuple") ⟨o,ho',hc⟩ ?_);rw[if_pos (by rw[show (Value.type "tuple" == Value.type "tuple")=true by decide];simp)];refine lA (listItems_at ho' hd (lA (listItems_at (xs:=#[]) (n:=0) (lH _ rfl) rfl ?_)));rw[if_neg (by simp)];refine lA (listUpdate_at (xs:=#[]) (n:=0) (lH _ rfl) rfl (lB ?_) (lX _) (by show (#[]++vs.toArray).size<=sizeLine+1;simp only[Array.size_append,lS,List.length_nil];omega));refine lA (wpAny_load (get?_update_seq (lH _ rfl) _) ?_);show wpAny _ _ (pure ((#[]:Array Value)++vs.toArray).toList) Q E _;rw[show ((#[]:Array Value)++vs.toArray).toList=vs by simp];exact lB h
end PyProof.Rows
namespace L2
open PySem PySem.Calls PySem.Spec PyProof.Rows PySem.W
section
variable {X:Cx}
def zJ8:List V->Hp->VK->Prop:=λ xs H Q=>∃(l:Addr) (vs:List V) (ds:List Dt),xs=[.ref l]/\H l=some (.tup vs)/\DRs H ds vs/\SrtOk ds /\
 ∀(l':Addr) (ws:List V),H l'=none->DRs H (sortD ds) ws->Q (.ref l') (upd H l' (.lst ws))
theorem zEl (hu:X.A.units+150<cLine):CallR X (.builtin "sorted") zJ8:=by
 intro jP s σ H xs us Q I r h;obtain⟨l,vs,ds,rfl,hl,hd,so,q⟩:=h;obtain⟨u,rfl,ru⟩:=vals1 r;cases ru;obtain⟨its,rv,pl,_⟩:=I.tuple (SqT.of hl);have hlv:its.length=vs.length:=rv.length.symm;have hlp:ds.length=vs.length:=hd.length;have line:its.length<=sizeLine:=Nat.le_of_lt (zAS (by have:=so.few;omega));refine Calls.call_function_entry kind_sorted plain_sorted entry_sorted (args_sorted1 _) ?_;unfold Builtin.«sorted»;refine lA (m:=checkCount "sorted" 1 1 _) (lB ?_);refine lA (zFL pl ?_ line);refine lA (wpAny_newList ?_ (by simpa using line))
 have keep1:∀b o,s.heap.get? b=some o->((s.heap.push (seqObj "list" #[] 0)).update s.heap.objs.size (Obj.mapSeq (·++its.toArray))).get? b=some o:=λ b o q=>by
  have hlt:b<s.heap.objs.size:=lI q;rw[Heap.get?_update_ne _ _ _ _ (Nat.ne_of_lt hlt)];exact lG _ q
 show wpAny _ _ _ _ _ { s with heap:=((s.heap.push (seqObj "list" #[] 0)).update s.heap.objs.size (Obj.mapSeq (·++its.toArray))).push { cls:=.type "list", data:=.seq its.toArray } };generalize (s.heap.push (seqObj "list" #[] 0)).update s.heap.objs.size (Obj.mapSeq (·++its.toArray))=h1 at keep1 ⊢;have I1:Inv X jP σ H { s with heap:=h1 }:=I.kept (t':=s.toks) keep1;have hoL:(h1.push { cls:=.type "list", data:=.seq its.toArray }).get? h1.objs.size=some (seqObj "list" its.toArray 0):=lH _ rfl;have keepT:∀b x,h1.IsTuple b x->(h1.push { cls:=.type "list", data:=.seq its.toArray }).IsTuple b x:=λ b x hb=>zCP (λ b o U e=>lG _ e) hb;have hda0:DAs h1 ds its:=DRs.da I1.hok hd rv;have hda:DAs (h1.push { cls:=.type "list", data:=.seq its.toArray }) ds its:=hda0.kept keepT;have hld:ds.length=vs.length:=hd.length;have hdl:its.length=ds.length:=by omega
 refine lA (lF (wpAny_call_entry slot_list_sort ⟨_,hoL,rfl⟩ entry_list_sort (zBr (m:=100) hoL hda so.heads so.cmp so.deep (by have:=so.few;omega) (by show X.A.units+1+1+100<cLine;omega) λ ws pw od=>⟨_,rfl,?_⟩) (args_list_sort _)));have hwl:ws.length=ds.length:=by rw[pw.length_eq];exact hdl
 obtain⟨e,he⟩:∃e,(sortedHeap (h1.push { cls:=.type "list", data:=.seq its.toArray }) h1.objs.size its ws.toArray).get? h1.objs.size=some (seqObj "list" ws.toArray e):=sortedHeap_at hoL;have hn1:=I1.hok.fresh (lP h1.objs.size);obtain⟨v1,v2⟩:=zDH I1.hok rv hd (zCJ so.heads) (ws:=ws) λ u hu=>pw.mem_iff.mp hu
 have eqd:ws.map (dtOf h1)=sortD ds:=by
  rw[←od];refine List.map_congr_left λ u hu=>?_;obtain⟨d,_,rd⟩:=zFJ hda0 (pw.mem_iff.mp hu);rw[zBs rd,zBs (rd.kept keepT)]
 rw[eqd] at v2;refine lB ⟨_,rfl,⟨.ref h1.objs.size,upd H h1.objs.size (.lst (ws.map absR)),I1.laid (t':=s.toks) (a:=h1.objs.size) (o:=.lst (ws.map absR)) (λ b o hb=>?_) (lP _) ⟨?_,_,e,v1,?_⟩,rfl,q _ _ hn1 v2⟩⟩
 ·rw[sortedHeap_old (Nat.ne_of_lt (Heap.lt_size hb)) (by rw[Heap.size_push];exact Nat.lt_succ_of_lt (lI hb))]
  exact lG _ hb
 ·rw[lC,hwl]
  exact Nat.le_of_lt (zAS so.few)
 ·rw[he]
end
inductive A3(a b c:Prop):Prop
 |mk:a->b->c->A3 a b c
inductive A4(a b c d:Prop):Prop
 |mk:a->b->c->d->A4 a b c d
inductive A5(a b c d e:Prop):Prop
 |mk:a->b->c->d->e->A5 a b c d e
inductive A6(a b c d e f:Prop):Prop
 |mk:a->b->c->d->e->f->A6 a b c d e f
inductive A7(a b c d e f g:Prop):Prop
 |mk:a->b->c->d->e->f->g->A7 a b c d e f g
inductive A8(a b c d e f g h:Prop):Prop
 |mk:a->b->c->d->e->f->g->h->A8 a b c d e f g h
inductive A10(a b c d e f g h i j:Prop):Prop
 |mk:a->b->c->d->e->f->g->h->i->j->A10 a b c d e f g h i j
inductive E2{a b:Type}(p:a->b->Prop):Prop
 |mk:∀A B,p A B->E2 p
inductive E3{a b c:Type}(p:a->b->c->Prop):Prop
 |mk:∀A B C,p A B C->E3 p
inductive E4{a b c d:Type}(p:a->b->c->d->Prop):Prop
 |mk:∀A B C D,p A B C D->E4 p
inductive E5{a b c d e:Type}(p:a->b->c->d->e->Prop):Prop
 |mk:∀A B C D E,p A B C D E->E5 p
inductive E6{a b c d e f:Type}(p:a->b->c->d->e->f->Prop):Prop
 |mk:∀A B C D E F,p A B C D E F->E6 p
inductive E7{a b c d e f g:Type}(p:a->b->c->d->e->f->g->Prop):Prop
 |mk:∀A B C D E F G,p A B C D E F G->E7 p
inductive E8{a b c d e f g h:Type}(p:a->b->c->d->e->f->g->h->Prop):Prop
 |mk:∀A B C D E F G H,p A B C D E F G H->E8 p
inductive E9{a b c d e f g h i:Type}(p:a->b->c->d->e->f->g->h->i->Prop):Prop
 |mk:∀A B C D E F G H I,p A B C D E F G H I->E9 p
inductive E11{a b c d e f g h i j k:Type}(p:a->b->c->d->e->f->g->h->i->j->k->Prop):Prop
 |mk:∀A B C D E F G H I J K,p A B C D E F G H I J K->E11 p
abbrev NN:Int:=10 ^ 30
abbrev Rws:=List (Dt × Int)
noncomputable def prR (a:Rws) (f:Dt->Int):Int:=(a.map λ r=>r.2 * f r.1).sum
theorem zDW (f:Dt->Int):prR [] f=0:=rfl
theorem zAg (r:Dt × Int) (a:Rws) (f:Dt->Int):prR (r::a) f=r.2 * f r.1+prR a f:=by simp[prR]
theorem zBC (a b:Rws) (f:Dt->Int):prR (a++b) f=prR a f+prR b f:=by simp[prR]
theorem zFg (a:Rws) (f g:Dt->Int):prR a (λ p=>f p+g p)=prR a f+prR a g:=by
 induction a with
 |nil=>rfl
 |cons r a ih=>rw[zAg,zAg,zAg,ih,Int.mul_add];omega
theorem zFf (a:Rws) (c:Int) (f:Dt->Int):prR a (λ p=>c * f p)=c * prR a f:=by
 induction a with
 |nil=>simp[prR]
 |cons r a ih=>rw[zAg,zAg,ih,Int.mul_add,Int.mul_left_comm]
theorem zGQ (a:Rws):prR a (λ U=>0)=0:=by
 induction a with
 |nil=>rfl
 |cons r a ih=>rw[zAg,ih];simp
theorem zDG (a b:Rws) (f:Dt->Dt->Int):prR a (λ p=>prR b (λ q=>f p q))=prR b (λ q=>prR a (λ p=>f p q)):=by
 induction a with
 |nil=>rw[zDW];exact(zGQ b).symm
 |cons r a ih =>
  rw[zAg,ih,←zFf,←zFg];rfl
def Eqv (a b:Rws):Prop:=∀f:Dt->Int,prR a f % NN=prR b f % NN
theorem Eqv.refl (a:Rws):Eqv a a:=λ U=>rfl
theorem Eqv.symm {a b:Rws}(h:Eqv a b):Eqv b a:=λ f=>(h f).symm
theorem Eqv.trans {a b c:Rws}(h:Eqv a b) (k:Eqv b c):Eqv a c:=λ f=>(h f).trans (k f)
noncomputable def negR (a:Rws):Rws:=a.map λ r=>(r.1,0 - r.2)
theorem zCf (a:Rws) (f:Dt->Int):prR (negR a) f = - prR a f:=by
 induction a with
 |nil=>rfl
 |cons r a ih =>
  show prR ((r.1,0 - r.2)::negR a) f=_;rw[zAg,zAg,ih];simp only[Int.zero_sub,Int.neg_mul];omega
noncomputable def mulD:Dt->Dt->Dt
 |.tup a,.tup b=>.tup (sortD (a++b))
 |_,_=>.tup []
noncomputable def mulR (a b:Rws):Rws:=a.flatMap λ r=>b.map λ q=>(mulD r.1 q.1,r.2 * q.2)
theorem zAv (a b:Rws) (f:Dt->Int):prR (mulR a b) f=prR a (λ p=>prR b (λ q=>f (mulD p q))):=by
 induction a with
 |nil=>rfl
 |cons r a ih =>
  show prR ((b.map λ q=>(mulD r.1 q.1,r.2 * q.2))++mulR a b) f=_;rw[zBC,ih,zAg];congr 1;rw[←zFf];unfold prR;rw[nX];congr 1;refine List.map_congr_left λ q U=>?_;dsimp only[Function.comp];rw[Int.mul_comm r.2 q.2,Int.mul_assoc]
theorem zFH {a b c d:Int}(h:a % NN=b % NN) (k:c % NN=d % NN):(a+c) % NN=(b+d) % NN:=by rw[Int.add_emod,h,k,←Int.add_emod]
theorem zIJ {a b:Int}(h:a % NN=b % NN):(-a) % NN=(-b) % NN:=by
 have e:(a - b) % NN=0:=by rw[Int.sub_emod,h,Int.sub_self];rfl
 have:=Int.emod_emod_of_dvd (-a+b) (Int.dvd_refl NN)
 have e2:(-a+b) % NN=0:=by
  have : -a+b = -(a - b):=by omega
  rw[this];exact Int.emod_eq_zero_of_dvd (Int.dvd_neg.mpr (Int.dvd_of_emod_eq_zero e))
 have : -a=(-a+b)+(-b):=by omega
 rw[this,Int.add_emod,e2,Int.zero_add,Int.emod_emod]
theorem Eqv.app {a b c d:Rws}(h:Eqv a b) (k:Eqv c d):Eqv (a++c) (b++d):=λ f=>by
 rw[zBC,zBC];exact zFH (h f) (k f)
theorem Eqv.neg {a b:Rws}(h:Eqv a b):Eqv (negR a) (negR b):=λ f=>by
 rw[zCf,zCf];exact zIJ (h f)
theorem Eqv.mul {a b c d:Rws}(h:Eqv a b) (k:Eqv c d):Eqv (mulR a c) (mulR b d):=λ f=>by
 rw[zAv,zAv];refine(h _).trans ?_;rw[zDG,zDG b d];exact k _
theorem zE8:∀p q:Dt,mulD p q=mulD q p
 |.tup a,.tup b=>by
  show Dt.tup (sortD (a++b))=Dt.tup (sortD (b++a));rw[zCW List.perm_append_comm]
 |.int _,.int _=>rfl
 |.int _,.str _=>rfl
 |.int _,.tup _=>rfl
 |.str _,.int _=>rfl
 |.str _,.str _=>rfl
 |.str _,.tup _=>rfl
 |.tup _,.int _=>rfl
 |.tup _,.str _=>rfl
def TupR (a:Rws):Prop:=∀r∈a,∃l,r.1=Dt.tup l
theorem zBe {a:Rws}{f g:Dt->Int}(h:∀r∈a,f r.1=g r.1):prR a f=prR a g:=by
 unfold prR;congr 1;exact List.map_congr_left λ r hr=>by rw[h r hr]
theorem zGv {a b c:List Dt}:mulD (mulD (.tup a) (.tup b)) (.tup c)=mulD (.tup a) (mulD (.tup b) (.tup c)):=by
 show Dt.tup (sortD (sortD (a++b)++c))=Dt.tup (sortD (a++sortD (b++c)));congr 1;refine zCW ?_;refine((zAV (a++b)).append_right c).trans ?_;rw[mZ];exact((zAV (b++c)).append_left a).symm
theorem zDw {x y z:Rws}(hx:TupR x) (hy:TupR y) (hz:TupR z):Eqv (mulR (mulR x y) z) (mulR x (mulR z y)):=λ f=>by
 rw[zAv,zAv,zAv];congr 1;refine zBe λ r hr=>?_;rw[zAv,zDG];refine zBe λ q hq=>zBe λ k hk=>?_;obtain⟨a,ea⟩:=hx r hr;obtain⟨b,eb⟩:=hy _ hk;obtain⟨c,ec⟩:=hz _ hq;rw[ea,eb,ec,zGv,zE8 (.tup c) (.tup b)]
theorem zH2 (x y z:Rws):Eqv (mulR z (x++negR y)) (mulR z x++negR (mulR z y)):=λ f=>by
 rw[zAv,zBC,zCf,zAv,zAv];congr 1;rw[show (λ p=>prR (x++negR y) λ q=>f (mulD p q))=λ p=>(prR x λ q=>f (mulD p q))+(-1) * (prR y λ q=>f (mulD p q)) from funext λ p=>by rw[zBC,zCf];omega];rw[zFg,zFf];omega
noncomputable def dl (p q:Dt):Int:=if q=p then 1 else 0
structure Can (a:Rws):Prop where
 ord:a.Pairwise λ r q=>Dt.lt r.1 q.1=true
 num:∀r∈a,0<r.2/\r.2<NN
theorem Can.tail {r:Dt × Int}{a:Rws}(h:Can (r::a)):Can a:=⟨(List.pairwise_cons.mp h.ord).2,λ q hq=>h.num q (lO _ hq)⟩
theorem zFe {a:Rws}{p:Dt}(h:∀r∈a,r.1≠p):prR a (dl p)=0:=by
 rw[zBe (g:=λ U=>0) λ r hr=>if_neg (h r hr)];exact zGQ a
theorem lt_ne {p q:Dt}(h:Dt.lt p q=true):p≠q:=λ e=>by subst e;rw[Dt.lt_irr] at h;cases h
theorem zIS:∀{a:Rws},Can a->∀{p:Dt}{v:Int},(p,v)∈a->prR a (dl p)=v
 |r::a,h,p,v,hm=>by
  obtain⟨h1,h2⟩:=List.pairwise_cons.mp h.ord;rw[zAg];rcases lM.mp hm with e|hm
  ·subst e
   rw[zFe λ q hq=>Ne.symm (lt_ne (h1 q hq))];simp[dl]
  ·rw[zIS h.tail hm,dl,if_neg (lt_ne (h1 _ hm))]
   omega
theorem zGf {a b:Rws}(ha:Can a) (hb:Can b) (e:Eqv a b) {r:Dt × Int}(hr:r∈a):r∈b:=by
 obtain⟨p,v⟩:=r;have hv:=ha.num _ hr;dsimp only at hv;have e1:=e (dl p);rw[zIS ha hr,Int.emod_eq_of_lt (by omega) hv.2] at e1
 by_cases c:∃q∈b,q.1=p
 ·obtain⟨⟨p',v'⟩,hq,rfl⟩:=c
  have hv':=hb.num _ hq;dsimp only at hv';rw[zIS hb hq,Int.emod_eq_of_lt (by omega) hv'.2] at e1;rw[e1];exact hq
 ·rw[zFe λ q hq z=>c ⟨q,hq,z⟩] at e1
  simp at e1;omega
theorem zHo:∀{a b:Rws},(a.Pairwise λ r q=>Dt.lt r.1 q.1=true)->(b.Pairwise λ r q=>Dt.lt r.1 q.1=true)->(∀x,x∈a↔x∈b)->a=b
 |[],[],_,_,_=>rfl
 |[],y::b,_,_,h=>absurd ((h y).mpr lN) (by simp)
 |x::a,[],_,_,h=>absurd ((h x).mp lN) (by simp)
 |x::a,y::b,ha,hb,h=>by
  obtain⟨a1,a2⟩:=List.pairwise_cons.mp ha;obtain⟨b1,b2⟩:=List.pairwise_cons.mp hb
  have e:x=y:=by
   rcases lM.mp ((h x).mp lN) with e|hx
   ·exact e
   ·rcases lM.mp ((h y).mpr lN) with e|hy
    ·exact e.symm
    ·have:=Dt.lt_asym (a1 y hy)
     rw[b1 x hx] at this;cases this
  subst e;congr 1;refine zHo a2 b2 λ z=>⟨λ hz=>?_,λ hz=>?_⟩
  ·rcases lM.mp ((h z).mp (lO _ hz)) with e|hz'
   ·subst e;exact absurd rfl (lt_ne (a1 _ hz))
   ·exact hz'
  ·rcases lM.mp ((h z).mpr (lO _ hz)) with e|hz'
   ·subst e;exact absurd rfl (lt_ne (b1 _ hz))
   ·exact hz'
theorem zHB {a b:Rws}(ha:Can a) (hb:Can b) (e:Eqv a b):a=b:=zHo ha.ord hb.ord λ x=>⟨λ h=>zGf ha hb e h,λ h=>zGf hb ha e.symm h⟩
noncomputable def tot (rows:Rws) (p:Dt):Int:=prR rows (dl p)
noncomputable def resR (ks:List Dt) (g:Dt->Int):Rws:=((sortD ks).map λ p=>(p,g p % NN)).filter λ r=>r.2 != 0
theorem zE1 {ks:List Dt}(nd:ks.Nodup):(sortD ks).Pairwise λ p q=>Dt.lt p q=true:=by
 have nd':(sortD ks).Nodup:=(zAV ks).nodup_iff.mpr nd;have o:=zCl ks;unfold OrdD at o;refine(o.and nd').imp λ{p q} h=>?_;cases z:Dt.lt p q with
 |true=>rfl
 |false=>exact absurd (Dt.lt_tri z h.1) h.2
theorem zJ7 {ks:List Dt}{g:Dt->Int}(nd:ks.Nodup):Can (resR ks g):=by
 refine⟨?_,λ r hr=>?_⟩
 ·refine List.Pairwise.filter _ ?_
  rw[List.pairwise_map];exact zE1 nd
 ·obtain⟨h1,h2⟩:=List.mem_filter.mp hr
  obtain⟨p,_,rfl⟩:=mG.mp h1;have a1:=rH (g p) (show NN≠0 by decide);have a2:=rJ (g p) (show 0<NN by decide);simp at h2;dsimp only;omega
theorem zGp (a:Rws) (f:Dt->Int):prR (a.filter λ r=>r.2 != 0) f=prR a f:=by
 induction a with
 |nil=>rfl
 |cons r a ih =>
  rw[List.filter_cons]
  by_cases c:(r.2 != 0)=true
  ·rw[if_pos c,zAg,zAg,ih]
  ·rw[if_neg c,zAg,ih]
   have:r.2=0:=by simpa using c
   rw[this];simp
theorem zKH (ks:List Dt) (g f:Dt->Int):prR (ks.map λ p=>(p,g p % NN)) f % NN=prR (ks.map λ p=>(p,g p)) f % NN:=by
 induction ks with
 |nil=>rfl
 |cons p ks ih =>
  rw[mM,mM,zAg,zAg];refine zFH ?_ ih;dsimp only;rw[Int.mul_emod,Int.emod_emod,←Int.mul_emod]
theorem zEL:∀ks:List Dt,(ks.map λ U=>(0:Int)).sum=0
 |[]=>rfl
 |_::ks=>by rw[mM,List.sum_cons,zEL ks];rfl
theorem zJc:∀{ks:List Dt},ks.Nodup->∀{q:Dt},q∈ks->∀(f:Dt->Int),(ks.map λ p=>dl p q * f p).sum=f q
 |p::ks,nd,q,hq,f=>by
  obtain⟨n1,n2⟩:=rK.mp nd;rw[mM,List.sum_cons]
  by_cases c:q=p
  ·subst c
   have z:(ks.map λ p=>dl p q * f p)=ks.map λ U=>(0:Int):=List.map_congr_left λ p hp=>by
    have:q≠p:=λ e=>n1 (e▸hp);rw[dl,if_neg this];simp
   rw[z,zEL];simp[dl]
  ·rcases lM.mp hq with e|hq
   ·exact absurd e c
   ·rw[zJc n2 hq f,dl,if_neg c]
    omega
theorem zHK {ks:List Dt}(nd:ks.Nodup):∀{rows:Rws},(∀r∈rows,r.1∈ks)->∀f:Dt->Int,prR (ks.map λ p=>(p,tot rows p)) f=prR rows f
 |[],_,f=>by
  have:(ks.map λ p=>(p,tot [] p))=ks.map λ p=>(p,(0:Int)):=rfl;rw[this];unfold prR;rw[nX];have z:(ks.map ((λ r:Dt × Int=>r.2 * f r.1) ∘ λ p=>(p,0)))=ks.map λ U=>(0:Int):=List.map_congr_left λ p U=>by simp
  rw[z,zEL];rfl
 |r::rows,h,f=>by
  have ih:=zHK nd (rows:=rows) (λ q hq=>h q (lO _ hq)) f;rw[zAg,←ih,←zJc nd (h r List.mem_cons_self) f];unfold prR;rw[nX,nX]
  have:∀ks:List Dt,(ks.map ((λ q:Dt × Int=>q.2 * f q.1) ∘ λ p=>(p,tot (r::rows) p))).sum=r.2 * (ks.map λ p=>dl p r.1 * f p).sum+(ks.map ((λ q:Dt × Int=>q.2 * f q.1) ∘ λ p=>(p,tot rows p))).sum:=by
   intro ks
   induction ks with
   |nil=>simp
   |cons p ks ih =>
    simp only[mM,List.sum_cons,Function.comp] at ih ⊢;rw[ih];have e:tot (r::rows) p=r.2 * dl p r.1+tot rows p:=by unfold tot;rw[zAg]
    rw[e,Int.add_mul,Int.mul_add,Int.mul_assoc];omega
  exact this ks
theorem zJ6 {ks:List Dt}{rows:Rws}(nd:ks.Nodup) (h:∀r∈rows,r.1∈ks):Eqv (resR ks (tot rows)) rows:=λ f=>by
 unfold resR;rw[zGp,zKH,zHK ((zAV ks).nodup_iff.mpr nd) λ r hr=>(zAV ks).mem_iff.mpr (h r hr)]
theorem zJ4 {ks:List Dt}{g:Dt->Int}:∀r∈resR ks g,r.1∈ks:=λ r hr=>by
 obtain⟨h1,_⟩:=List.mem_filter.mp hr;obtain⟨p,hp,rfl⟩:=mG.mp h1;exact(zAV ks).mem_iff.mp hp
theorem zJ5 {ks:List Dt}{g:Dt->Int}:(resR ks g).length<=ks.length:=by
 refine mK (List.length_filter_le _ _) ?_;rw[lC,(zAV ks).length_eq];exact lP _
noncomputable def unkD (g:Str):Dt:=.tup [.str g,.tup []]
noncomputable def polyT:Tr->Rws
 |.num n=>if n=0 then [] else [(.tup [],n)]
 |.gap g _=>[(.tup [unkD g],1)]
 |.bin .add a b=>polyT a++polyT b
 |.bin .sub a b=>polyT a++negR (polyT b)
 |.bin .mul a b=>mulR (polyT a) (polyT b)
 |_=>[]
noncomputable def lvT:Tr->Nat
 |.bin _ a b=>lvT a+lvT b
 |_=>1
def SmT (S:Str->Prop):Tr->Prop
 |.num n=>0<=n/\n<NN
 |.gap g as=>as=[]/\S g
 |.bin o a b=>(o = .add\/o = .sub\/o = .mul)/\SmT S a/\SmT S b
 |_=>False
theorem SmT.up {S S':Str->Prop}(h:∀g,S g->S' g):∀{t:Tr},SmT S t->SmT S' t
 |.num _,k=>k
 |.gap g _,k=>⟨k.1,h g k.2⟩
 |.bin _ _ _,k=>⟨k.1,SmT.up h k.2.1,SmT.up h k.2.2⟩
theorem zH8:∀t:Tr,1<=lvT t
 |.bin _ a b=>by have:=zH8 a;show 1<=lvT a+lvT b;omega
 |.num _|.name _|.ask _|.stop _|.gap _ _|.say _|.ite _ _ _|.lett _ _ _=>lP 1
def SrtR (a:Rws):Prop:=∀r∈a,∃l,r.1=Dt.tup l/\sortD l=l
theorem SrtR.tup {a:Rws}(h:SrtR a):TupR a:=λ r hr=>let ⟨l,e,_⟩:=h r hr;⟨l,e⟩
theorem SrtR.app {a b:Rws}(h:SrtR a) (k:SrtR b):SrtR (a++b):=λ r hr=>(lK.mp hr).elim (h r) (k r)
theorem SrtR.neg {a:Rws}(h:SrtR a):SrtR (negR a):=λ r hr=>by
 obtain⟨q,hq,rfl⟩:=mG.mp hr;exact h q hq
theorem SrtR.mul {a b:Rws}(h:SrtR a) (k:SrtR b):SrtR (mulR a b):=λ r hr=>by
 obtain⟨q,hq,hr⟩:=List.mem_flatMap.mp hr;obtain⟨s,hs,rfl⟩:=mG.mp hr;obtain⟨l,e,_⟩:=h q hq;obtain⟨m,f,_⟩:=k s hs;dsimp only;rw[e,f];exact⟨sortD (l++m),rfl,zCW (zAV _)⟩
theorem zHY (d:Dt):sortD [d]=[d]:=List.perm_singleton.mp (zAV [d])
theorem zBN:∀t:Tr,SrtR (polyT t)
 |.num n=>by
  unfold polyT;split
  ·exact λ r hr=>nomatch hr
  ·exact λ r hr=>by rw[mR.mp hr];exact⟨[],rfl,rfl⟩
 |.gap g _=>λ r hr=>by rw[mR.mp hr];exact⟨_,rfl,zHY _⟩
 |.bin .add a b=>(zBN a).app (zBN b)
 |.bin .sub a b=>(zBN a).app (zBN b).neg
 |.bin .mul a b=>(zBN a).mul (zBN b)
 |.bin .thn _ _|.name _|.ask _|.stop _|.say _|.ite _ _ _|.lett _ _ _=>λ r hr=>nomatch hr
theorem zFG (a b:Rws):Eqv (a++b) (b++a):=λ f=>by rw[zBC,zBC,Int.add_comm]
theorem zDC (a b:Rws):Eqv (mulR a b) (mulR b a):=λ f=>by
 rw[zAv,zAv,zDG];congr 1;refine zBe λ r U=>zBe λ q U=>?_;rw[zE8]
theorem zEg {x y z:Rws}(hx:TupR x) (hy:TupR y) (hz:TupR z):Eqv (mulR (mulR x y) z) (mulR x (mulR y z)) :=
 (zDw hx hy hz).trans (Eqv.mul (.refl x) (zDC z y))
theorem zEh (a b c:Rws):Eqv ((a++b)++c) (a++(b++c)):=by rw[mZ];exact .refl _
theorem zFu (a b c:Rws):Eqv (a++negR (b++negR c)) ((a++negR b)++c):=λ f=>by
 simp only[zBC,zCf];congr 1;omega
theorem zFv (a b c:Rws):Eqv (a++negR (b++c)) ((a++negR b)++negR c):=λ f=>by
 simp only[zBC,zCf];congr 1;omega
theorem zG9 (a:Rws):Eqv a ([]++negR ([]++negR a)):=λ f=>by
 simp only[zBC,zCf,zDW];congr 1;omega
theorem zKx {a:Rws}(h:SrtR a):Eqv a (mulR a [(.tup [],1)]):=λ f=>by
 rw[zAv];congr 1;refine zBe λ r hr=>?_;obtain⟨l,e,s⟩:=h r hr;rw[zAg,zDW,e];show f (.tup l)=1 * f (.tup (sortD (l++[])))+0;rw[nV,s];omega
theorem zFF (x y z:Rws):Eqv (mulR z (x++y)) (mulR z x++mulR z y):=λ f=>by
 rw[zAv,zBC,zAv,zAv,←zFg];congr 2;funext p;rw[zBC]
noncomputable def pB (n:Nat):Nat:=([0,1,2,3,4,6,9,12,18,27,36]:List Nat).getD n 0
theorem zKT:∀a<11,∀b<11,(decide (1<=a) && decide (1<=b) && decide (a+b<=10))=true->(decide (pB a+pB b<=pB (a+b)) && decide (pB a * pB b<=pB (a+b)))=true:=by decide
theorem zLR {a b:Nat}(h1:1<=a) (h2:1<=b) (h:a+b<=10):pB a+pB b<=pB (a+b)/\pB a * pB b<=pB (a+b):=by
 have:=zKT a (by omega) b (by omega) (by simp[h1,h2,h]);simpa using this
theorem pB_le:∀n<11,pB n<=36:=by decide
structure SmR (t:Tr) (a:Rws):Prop where
 can:Can a
 eqv:Eqv a (polyT t)
 few:a.length<=pB (lvT t)
 fac:∀r∈a,∃l,r.1=Dt.tup l/\l.length<=lvT t/\∀d∈l,∃g:Str,d=unkD g
theorem SmR.unique {t u:Tr}{a b:Rws}(h:SmR t a) (k:SmR u b) (e:Eqv (polyT t) (polyT u)):a=b:=zHB h.can k.can (h.eqv.trans (e.trans k.eqv.symm))
theorem SmR.unlike {t:Tr}{a b:Rws}{n:Int}(h:SmR t a) (hb:Can b) (e:Eqv b (polyT t++[(.tup [],n)])) (h1:0<n) (h2:n<NN):a≠b:=λ z=>by
 subst z;have k:=h.eqv.symm.trans e;have:=k λ U=>1;rw[zBC,zAg,zDW] at this;simp only[Int.mul_one,Int.add_zero] at this
 have e1:(prR (polyT t) (λ U=>1)+n - prR (polyT t) (λ U=>1)) % NN=0:=by
  rw[Int.sub_emod,←this,Int.sub_self,Int.zero_emod]
 have e2:prR (polyT t) (λ U=>1)+n - prR (polyT t) (λ U=>1)=n:=by omega
 rw[e2,Int.emod_eq_of_lt (by omega) h2] at e1;omega
noncomputable def U1:Ty:=.two .str (.many .int)
noncomputable def UT:Ty:=.two .str (.many (.many (.two (.many U1) .int)))
structure UOk (u:Dt):Prop where
 ty:Dt.has UT u=true
 deep:u.deep<=7
 uk:∃g:Str,u=unkD g
def POk (n:Nat) (p:Dt):Prop:=∃us,p = .tup us/\us.length<=n/\∀u∈us,UOk u
noncomputable def rowD (r:Dt × Int):Dt:=.tup [r.1,.int r.2]
noncomputable def sumD (a:Rws):Dt:=.tup (a.map rowD)
def ROk (n:Nat) (a:Rws):Prop:=∀r∈a,POk n r.1
theorem zCQ:∀{ds:List Dt}{n:Nat},(∀d∈ds,d.deep<=n)->Dt.deeps ds<=n
 |[],_,_=>lX _
 |d::ds,n,h=>by
  rw[Dt.deeps];have:=h d lN;have:=zCQ (ds:=ds) λ e he=>h e (lO _ he);omega
theorem POk.deep {n:Nat}{p:Dt}(h:POk n p):p.deep<=8:=by
 obtain⟨us,rfl,_,hu⟩:=h;rw[Dt.deep];have:=zCQ (ds:=us) (n:=7) λ u h=>(hu u h).deep;omega
theorem POk.ty {n:Nat}{p:Dt}(h:POk n p):Dt.has (.many UT) p=true:=by
 obtain⟨us,rfl,_,hu⟩:=h;rw[Dt.has];exact zDK.mpr λ u h=>(hu u h).ty
theorem UOk.head {u:Dt}(h:UOk u):∃x r,u = .tup (.str x::r):=by
 have t:=h.ty;unfold UT at t;cases u with
 |tup ds =>
  rw[Dt.has] at t;cases ds with
  |nil=>simp[Dt.hasp] at t
  |cons d ds =>
   cases d with
   |str x=>exact⟨x,ds,rfl⟩
   |int _=>simp[Dt.hasp,Dt.has] at t
   |tup _=>simp[Dt.hasp,Dt.has] at t
 |int _=>simp[Dt.has] at t
 |str _=>simp[Dt.has] at t
theorem zEw {us:List Dt}(h:∀u∈us,UOk u) (hl:us.length<=1000):SrtOk us :=
 ⟨.inl λ d hd=>(h d hd).head,λ d hd e he=>zEE UT (h d hd).ty (h e he).ty,zCQ λ d hd=>mK (h d hd).deep (by decide),hl⟩
theorem zEx {n:Nat}{ps:List Dt}(h:∀p∈ps,POk n p) (hl:ps.length<=1000):SrtOk ps :=
 ⟨.inr λ d hd=>by
  obtain⟨us,rfl,_,hu⟩:=h d hd;cases us with
  |nil=>exact .inl rfl
  |cons u us =>
   obtain⟨x,r,rfl⟩:=(hu u lN).head;exact .inr ⟨_,_,rfl⟩,λ d hd e he=>zEE (.many UT) (h d hd).ty (h e he).ty,zCQ λ d hd=>mK (h d hd).deep (by decide),hl⟩
theorem POk.mul {n m:Nat}{p q:Dt}(h:POk n p) (k:POk m q):POk (n+m) (mulD p q):=by
 obtain⟨us,rfl,l1,hu⟩:=h;obtain⟨vs,rfl,l2,hv⟩:=k;refine⟨_,rfl,by rw[(zAV _).length_eq,mL];omega,λ u hm=>?_⟩;rcases lK.mp ((zAV _).mem_iff.mp hm) with h|h
 ·exact hu u h
 ·exact hv u h
theorem ROk.app {n:Nat}{a b:Rws}(h:ROk n a) (k:ROk n b):ROk n (a++b):=λ r hr=>(lK.mp hr).elim (h r) (k r)
theorem ROk.neg {n:Nat}{a:Rws}(h:ROk n a):ROk n (negR a):=λ r hr=>by
 obtain⟨q,hq,rfl⟩:=mG.mp hr;exact h q hq
theorem ROk.mul {n m:Nat}{a b:Rws}(h:ROk n a) (k:ROk m b):ROk (n+m) (mulR a b):=λ r hr=>by
 obtain⟨x,hx,hr⟩:=List.mem_flatMap.mp hr;obtain⟨y,hy,rfl⟩:=mG.mp hr;exact(h x hx).mul (k y hy)
theorem DRs.app {H:Hp}:∀{a b:List Dt}{us vs:List V},DRs H a us->DRs H b vs->DRs H (a++b) (us++vs)
 |_,_,_,_,.nil,q=>q
 |_,_,_,_,.cons r p,q=>.cons r (DRs.app p q)
theorem zDU {H:Hp}{r:Dt × Int}{v:V}(h:DR H (rowD r) v):∃b u,v = .ref b/\H b=some (.tup [u,.int r.2])/\DR H r.1 u:=by
 unfold rowD at h;cases h with
 |tup ha rs =>
  cases rs with
  |cons r1 rs =>
   cases rs with
   |cons r2 rs =>
    cases rs;cases r2;exact⟨_,_,rfl,ha,r1⟩
theorem POk.ref {H:Hp}{n:Nat}{p:Dt}{u:V}(h:POk n p) (r:DR H p u):KyN H u p:=by
 have hd:=h.deep;obtain⟨us,rfl,_,_⟩:=h;cases r with
 |tup ha rs=>exact⟨_,rfl,.tup ha rs,hd⟩
theorem zHJ (rows:Rws) (r:Dt × Int) (p:Dt):tot (rows++[r]) p=tot rows p+r.2 * dl p r.1:=by
 unfold tot;rw[zBC,zAg,zDW];omega
theorem zJo {rows:Rws}{p:Dt}(h:p∉rows.map (·.1)):tot rows p=0:=zFe λ r hr e=>h (mG.mpr ⟨r,hr,e⟩)
structure GdR (rows:Rws) (kvs:List (Dt × V)):Prop where
 val:∀p,valV kvs p=if p∈rows.map (·.1) then some (.int (tot rows p)) else none
 len:kvs.length<=rows.length
theorem GdR.get {rows:Rws}{kvs:List (Dt × V)}(g:GdR rows kvs) (p:Dt):(valV kvs p).getD (.int 0) = .int (tot rows p):=by
 rw[g.val p]
 by_cases c:p∈rows.map (·.1)
 ·rw[if_pos c];rfl
 ·rw[if_neg c,zJo c];rfl
theorem GdR.put {rows:Rws}{kvs:List (Dt × V)}(g:GdR rows kvs) (p:Dt) (m:Int):GdR (rows++[(p,m)]) (putK kvs p (.int (tot rows p+m))):=by
 refine⟨λ q=>?_,?_⟩
 ·rw[zCh,g.val q]
  by_cases c:q=p
  ·subst c
   rw[if_pos rfl,if_pos (by simp),zHJ];simp[dl]
  ·rw[if_neg c]
   have e:tot (rows++[(p,m)]) q=tot rows q:=by
    rw[zHJ];show tot rows q+m * dl q p=_;rw[dl,if_neg (λ z=>c z.symm)];omega
   rw[e]
   by_cases d:q∈rows.map (·.1)
   ·rw[if_pos d,if_pos (by simp at d ⊢;exact .inl d)]
   ·rw[if_neg d,if_neg (by simp at d ⊢;exact⟨d,λ z=>c z⟩)]
 ·have:=zBh kvs p (.int (tot rows p+m))
  have:=g.len;simp;omega
theorem GdR.keys {rows:Rws}{kvs:List (Dt × V)}(g:GdR rows kvs) (p:Dt):p∈kvs.map (·.1)↔p∈rows.map (·.1):=by
 rw[zJB,g.val p]
 by_cases c:p∈rows.map (·.1)
 ·rw[if_pos c];simp[c]
 ·rw[if_neg c];simp[c]
theorem zBA {α:Type}{l:List α}{i:Nat}{x:α}(h:l[i]?=some x):l.take (i+1)=l.take i++[x]:=by
 rw[List.take_add_one,h];rfl
structure SumA (H:Hp) (n:Nat) (a:Rws) (v:V):Prop where
 dr:DR H (sumD a) v
 ok:ROk n a
 can:Can a
theorem SumA.mono {H H':Hp}(k:Tk H H') {n:Nat}{a:Rws}{v:V}(h:SumA H n a v):SumA H' n a v:=⟨h.dr.mono k,h.ok,h.can⟩
theorem SumA.at {H:Hp}{n:Nat}{a:Rws}{v:V}(h:SumA H n a v):∃b us,v = .ref b/\H b=some (.tup us)/\DRs H (a.map rowD) us:=by
 have:=h.dr;unfold sumD at this;cases this with
 |tup ha rs=>exact⟨_,_,rfl,ha,rs⟩
theorem ROk.up {n m:Nat}{a:Rws}(h:ROk n a) (k:n<=m):ROk m a:=λ r hr=>by
 obtain⟨us,e,l,hu⟩:=h r hr;exact⟨us,e,by omega,hu⟩
theorem zI8 {a:Rws}{i:Nat}{r:Dt × Int}(h:a[i]?=some r):negR (a.take (i+1))=negR (a.take i)++[(r.1,0 - r.2)]:=by
 rw[zBA h];simp[negR]
theorem zEZ (a b:Rws):(mulR a b).length=a.length * b.length:=by
 unfold mulR
 induction a with
 |nil=>simp
 |cons r a ih=>rw[List.flatMap_cons,mL,ih,lC,mN,Nat.succ_mul];omega
theorem zJd {m:Int}(h:0<m/\m<NN):m.natAbs<2 ^ 100:=by
 have:(10:Int) ^ 30<2 ^ 100:=by decide
 have h2:m<10 ^ 30:=h.2;omega
section
variable {prog:Program}{w:World}{A:Around}{E:XQ}{s:Shared}
theorem zIZ (a d:Value):argsOk "max" ⟨[a],[("default", d)]⟩:=by unfold argsOk;kernel_rfl
theorem zEn {l:Addr}{d:Value}{Q:XQ}(hh:A.handled=none) (hl:s.heap.IsList l (intItems #[]))
  (h:∀h' tk,(∀b o,s.heap.get? b=some o->h'.get? b=some o)->Q d { s with heap:=h',toks:=tk }) :
  wpAny (model prog w) A (call (.builtin "max") [.ref l] [("default", d)]) Q E s:=by
 have hname:(toString "max" ++ toString ".loop" : String) = "max.loop" := by decide
 refine wpAny_call (codeAny_call_builtin F.plain_max F.entry_max ?_);simp only[checkBuiltinCall,F.kind_max];have ha:=zIZ (.ref l) d
 have go:wpAny (model prog w) A.in1 (Builtin.«max» ⟨[.ref l],[("default", d)]⟩) (λ fin s'=>match fin with
   |.done f=>(match (Except.ok f:Result) with|.ok (.ret v)=>Q v s'|.ok _=>False|.error e=>E e s')
   |.again c'=>c'.quiet=true/\codeAny (model prog w) A c' (λ r s'=>match r with|.ok (.ret v)=>Q v s'|.ok _=>False|.error e=>E e s') s') E s:=by
  show wpAny _ A.in1 (Builtin.Builtins.bindParams "max" ["key", "default"] 0 ⟨[],[("default", d)]⟩ >>= _) _ _ s;refine lA (wpAny_of_eq (show Builtin.Builtins.bindParams "max" ["key", "default"] 0 ⟨[],[("default", d)]⟩=pure [none,some d] from rfl) ?_);refine lA (lB ?_);refine lA (iter_intList hl λ s₂ e st hfp hlI=>?_);refine lA (wpAny_newObj_type ?_);rw[hname];refine lB ⟨plainId_quiet F.plain_max_loop _,?_⟩;refine codeAny_builtin F.entry_max_loop ?_;rw[Around.under_plainId F.plain_max_loop _];show wpAny _ A.in1 (seqItems? _ >>= _) _ _ _;refine lA (wpAny_seqItems (lH _ rfl) rfl ?_);show wpAny _ A.in1 (tryCatch (pyNext _) _ >>= _) _ _ _;have W:=Walks.list (prog:=prog) (w:=w) (A:=A.in1) hh _ l hlI (intItems #[]);refine lA (wpAny_tryCatch (W.done _ _ _ (W.frame _ _ _ (by simpa[intItems] using st) λ b U o e=>lG _ e) λ h' tk hk=>?_));refine lA (wpAny_rule (lB ?_));subst e;refine h h' tk λ b o eb=>hk b o ?_ (lG _ (lG _ eb));intro hm;rw[mR.mp hm] at eb;exact absurd (lI eb) (Nat.lt_irrefl _)
 cases hsig:Manifest.signature? "max" with
 |none=>exact lB go
 |some sig =>
  simp only[argsOk,hsig] at ha;have h2:Bind.checkArgs "max" sig ⟨[.ref l],[("default", d)]⟩=pure ():=ha;show wpAny _ A.in1 (Bind.checkArgs "max" sig ⟨[.ref l],[("default", d)]⟩) _ _ s;rw[h2];exact lB go
end
section
variable {X:Cx}{x:Str}{p pos kpos:Pos}{e:Expr}{te:TE}{d:Expr}{td:TE}
def tMaxD (te td:TE):TE:=λ σ H Q=>tCons te tNil σ H λ vs H1=>tCons td tNil σ H1 λ us H2=>∃(l:Addr) (u:V),vs=[.ref l]/\us=[u]/\H2 l=some (.lst [])/\Q u H2
theorem zKN (hc:X.calm=true) (hg:Gl X "max") (hm:X.mg "max" = none) (ha:PE X e te) (hd:PE X d td) (he:starEach [e] X.env=(false,eval e X.env)::starEach [] X.env:=by rfl)
  (hpl:((backTo pos (starEach [e] X.env)).any (·.1) || (backToKw pos (keywordEach [⟨some "default", d,kpos⟩] X.env)).any (·.1.isNone))=false:=by rfl) :
  PE X (.Call (.Name "max" p) [e] [⟨some "default", d,kpos⟩] pos) (tMaxD te td):=by
 intro jP s σ H Q I h;refine wpAny_Call_Name_kw (zEC I hg hm PyProof.Rows.boot_max ?_ (by decide) (by decide));refine W.callWith_of (P:=λ U=>True) hpl (λ h U=>⟨.machine,.inr (.inl rfl),W.Looks.of_pure rfl⟩) (PyProof.Rows.evalArgs_kw2 rfl (thn ((zAB ha zAD he) pos jP s σ H _ I h) λ us s1 ⟨vs,H1,I1,r,q⟩=>?_) he);refine thn ((zKJ (nm:=some "default") (kpos:=kpos) hd zLL) pos jP s1 σ H1 _ I1 q) λ ws s2 ⟨zs,H2,I2,rz,q2⟩=>⟨trivial,?_⟩;obtain⟨l,u,rfl,rfl,el,q3⟩:=q2;obtain⟨u1,rfl,ru⟩:=vals1 r;obtain⟨u2,rfl,rd⟩:=vals1 rz;cases ru;obtain⟨_,its,n,rv,le,e⟩:=I2.lstM el;cases rv;have z0:intItems #[]=#[]:=by simp[intItems]
 have L1:s2.heap.IsList l (intItems #[]):=by rw[z0];exact⟨_,e,rfl,_,rfl⟩
 refine zEn (I2.ok.hd hc) L1 λ h' tk hk=>?_;exact⟨u,H2,I2.kept hk,rd,q3⟩
end
theorem uok (g:Str):UOk (unkD g):=⟨by rfl,by simp[unkD,Dt.deep,Dt.deeps],g,rfl⟩
noncomputable def dtL:Dt->List Dt
 |.tup l=>l
 |_=>[]
noncomputable def unks (a:Rws):List Dt:=a.flatMap λ r=>dtL r.1
theorem zEr {a:Rws}{i:Nat}{r:Dt × Int}(h:a[i]?=some r):unks (a.take (i+1))=unks (a.take i)++dtL r.1:=by
 unfold unks;rw[zBA h,List.flatMap_append];simp
theorem zEK {n:Nat}:∀{a:Rws},ROk n a->(unks a).length<=a.length * n
 |[],_=>by simp[unks]
 |r::a,h=>by
  have h1:=zEK (a:=a) λ q hq=>h q (lO _ hq);obtain⟨l,e,hl,_⟩:=h r lN;have e2:unks (r::a)=dtL r.1++unks a:=by simp[unks]
  rw[e2,mL,e,mN,Nat.succ_mul];show l.length+_<=_;omega
theorem zEJ {n i:Nat}{a:Rws}(h:ROk n a):(unks (a.take i)).length<=a.length * n:=by
 have h1:=zEK (a:=a.take i) λ q hq=>h q (List.mem_of_mem_take hq);have h2:(a.take i).length<=a.length:=by rw[mO];omega
 exact mK h1 (Nat.mul_le_mul_right n h2)
theorem zJm {n:Nat}{a:Rws}(h:ROk n a):∀u∈unks a,∃g:Str,u=unkD g:=λ u hu=>by
 obtain⟨r,hr,hm⟩:=List.mem_flatMap.mp hu;obtain⟨l,e,_,ho⟩:=h r hr;rw[e] at hm;exact(ho u hm).uk
theorem zHs (g:Str):Can [(Dt.tup [unkD g],(1:Int))]:=⟨List.pairwise_singleton _ _,λ r hr=>by rw[mR.mp hr];exact⟨by show (0:Int)<1;decide,by show (1:Int)<10 ^ 30;decide⟩⟩
theorem zJ3 (g:Str):ROk 1 [(Dt.tup [unkD g],(1:Int))]:=λ r hr=>by
 rw[mR.mp hr];exact⟨_,rfl,lP 1,λ u hu=>by rw[mR.mp hu];exact uok g⟩
theorem zFk {n:Int}(h0:0<=n) (h1:n<NN):Can (polyT (.num n))/\ROk 0 (polyT (.num n)):=by
 unfold polyT
 by_cases c:n=0
 ·rw[if_pos c]
  exact⟨⟨List.Pairwise.nil,λ r hr=>nomatch hr⟩,λ r hr=>nomatch hr⟩
 ·rw[if_neg c]
  refine⟨⟨List.pairwise_singleton _ _,λ r hr=>?_⟩,λ r hr=>?_⟩
  ·rw[mR.mp hr]
   exact⟨by show 0<n;omega,h1⟩
  ·rw[mR.mp hr]
   exact⟨[],rfl,lP 0,λ u hu=>nomatch hu⟩
theorem zFN {X:Cx}:CallR X (.builtin "len") (rLen1 X.K):=zDD
theorem zJj (n:Nat):((List.replicate n false).any id)=false:=by
 induction n with
 |zero=>rfl
 |succ n ih=>rw[List.replicate_succ,List.any_cons,ih];rfl
theorem zHz (n:Nat):(List.replicate n false).map V.bl++[V.bl false]=(List.replicate (n+1) false).map V.bl:=by
 rw[List.replicate_succ',mQ];rfl
theorem SmR.two {o:Bin}{t u:Tr}{a b res op:Rws}(h:SmR t a) (k:SmR u b) (c:Can res) (ho:Eqv op (polyT (.bin o t u))) (e:Eqv res op) (l:res.length<=op.length) (l2:op.length<=pB (lvT t+lvT u)) (r:ROk (lvT t+lvT u) res):SmR (.bin o t u) res :=
 ⟨c,e.trans ho,mK l l2,λ q hq=>by
  obtain⟨us,e1,l1,h1⟩:=r q hq;exact⟨us,e1,l1,λ d hd=>(h1 d hd).uk⟩⟩
noncomputable def thrT:Tr->Tr
 |.bin .add (.bin .add x y) z=>.bin .add x (.bin .add y z)
 |.bin .mul (.bin .mul x y) z=>.bin .mul x (.bin .mul y z)
 |.bin .sub x (.bin .sub y z)=>.bin .add (.bin .sub x y) z
 |.bin .sub x (.bin .add y z)=>.bin .sub (.bin .sub x y) z
 |t=>t
theorem zK7 (t:Tr):lvT (thrT t)=lvT t:=by
 unfold thrT;split<;>first|rfl|(simp only[lvT];omega)
theorem zK6 {S:Str->Prop}{t:Tr}(h:SmT S t):SmT S (thrT t):=by
 unfold thrT;split<;>simp_all [SmT]
theorem zJq (t:Tr):Eqv (polyT t) (polyT (thrT t)):=by
 unfold thrT;split
 ·exact zEh _ _ _
 ·exact zEg (zBN _).tup (zBN _).tup (zBN _).tup
 ·exact zFu _ _ _
 ·exact zFv _ _ _
 ·exact .refl _
theorem atI0 (x:V) (xs:List V):atI (x::xs) 0=some x:=by
 have e:ixN (x::xs).length 0=some 0:=by simp[ixN]
 unfold atI;rw[e];rfl
noncomputable def hdS:Tr->Str
 |.num _ => "num"
 |.gap _ _ => "gap"
 |.bin o _ _=>o.s
 |_ => ""
theorem zCt {S:Str->Prop}{H:Hp}{t:Tr}{v:V}(h:SmT S t) (r:Rep H t v):∃p xs,v = .ref p/\H p=some (.tup (.str (hdS t)::xs)):=by
 cases t with
 |num n=>obtain⟨p,rfl,e⟩:=r;exact⟨p,_,rfl,e⟩
 |gap g as=>obtain⟨p,b,us,rfl,e,_⟩:=r;exact⟨p,_,rfl,e⟩
 |bin o a b=>obtain⟨p,x,y,rfl,e,_⟩:=r;exact⟨p,_,rfl,e⟩
 |_=>exact h.elim
theorem zE2 {S:Str->Prop}{t:Tr}{o:Bin}(h:SmT S t) (e:hdS t=o.s) (ho:o = .add\/o = .sub\/o = .mul):∃a b,t = .bin o a b:=by
 cases t with
 |num n=>rcases ho with rfl|rfl|rfl<;>(dsimp only[hdS,Bin.s] at e;exact absurd e (by decide))
 |gap g as=>rcases ho with rfl|rfl|rfl<;>(dsimp only[hdS,Bin.s] at e;exact absurd e (by decide))
 |bin o' a b =>
  have:o'=o:=by
   rcases ho with rfl|rfl|rfl<;>cases o'<;>first|rfl|(dsimp only[hdS,Bin.s] at e;exact absurd e (by decide))
  subst this;exact⟨a,b,rfl⟩
 |_=>exact h.elim
noncomputable def stK (c:Addr) (i r e:Int) (g w:Addr):List (Key × V):=[(.inr "cells", .ref c),(.inr "at", .int i),(.inr "room", .int r),(.inr "extra", .int e),(.inr "gaps", .ref g),(.inr "words", .ref w)]
theorem zId (c:Addr) (i r e:Int) (g w:Addr):valV (stK c i r e g w) (Sum.inr "cells" : Key)=some (.ref c):=rfl
theorem st_at (c:Addr) (i r e:Int) (g w:Addr):valV (stK c i r e g w) (Sum.inr "at" : Key)=some (.int i):=rfl
theorem zJs (c:Addr) (i r e:Int) (g w:Addr):valV (stK c i r e g w) (Sum.inr "room" : Key)=some (.int r):=rfl
theorem zCi (c:Addr) (i r e:Int) (g w:Addr):valV (stK c i r e g w) (Sum.inr "extra" : Key)=some (.int e):=rfl
theorem zHR (c:Addr) (i r e:Int) (g w:Addr):valV (stK c i r e g w) (Sum.inr "gaps" : Key)=some (.ref g):=rfl
theorem zEM (c:Addr) (i r e:Int) (g w:Addr):valV (stK c i r e g w) (Sum.inr "words" : Key)=some (.ref w):=rfl
theorem zHQ (c:Addr) (i r e j:Int) (g w:Addr):putK (stK c i r e g w) (Sum.inr "at" : Key) (.int j)=stK c j r e g w:=rfl
theorem zFU (c:Addr) (i r e j:Int) (g w:Addr):putK (stK c i r e g w) (Sum.inr "room" : Key) (.int j)=stK c i j e g w:=rfl
theorem zBj (c:Addr) (i r e j:Int) (g w:Addr):putK (stK c i r e g w) (Sum.inr "extra" : Key) (.int j)=stK c i r j g w:=rfl
theorem zLi {ns:List Int}{i:Int}(h0:0<=i) (h1:i<(ns.length:Int)):∃n:Int,atI (ns.map V.int) i=some (.int n):=by
 have e:ixN (ns.map V.int).length i=some i.toNat:=by
  unfold ixN;rw[if_pos h0,lC,if_pos h1]
 have hl:i.toNat<ns.length:=by omega
 refine⟨ns[i.toNat],?_⟩;unfold atI;rw[e];show (ns.map V.int)[i.toNat]?=_;rw[mH,nT hl];rfl
theorem zGR {X:Cx}{e:Expr}(vs:List V) (h:rowL e=some vs):Sd (PE X e (tLst (tRow vs))):=⟨@zHm X e vs h⟩
theorem zBU {X:Cx}{a b:Expr}{ta tb:TE}{pos:Pos}{op:Operator}{r:R2}(ho:OpR X (binaryOp op) r) (ha:Sd (PE X a ta)) (hb:Sd (PE X b tb)):Sd (PE X (.BinOp a op b pos) (tOp r ta tb)):=⟨pe_op ho ha.un hb.un⟩
theorem pa_cS {X:Cx}{es:List Expr}{te:TE}{tA:TA}{c:Const}{k:Nat}{p:Pos}(ha:Sd (PE X (.Constant c k p) te)) (hr:Sd (PA X es tA)):Sd (PA X (.Constant c k p::es) (tCons te tA)):=⟨zAB ha.un hr.un rfl⟩
theorem pa_bS {X:Cx}{es:List Expr}{te:TE}{tA:TA}{a b:Expr}{op:Operator}{p:Pos}(ha:Sd (PE X (.BinOp a op b p) te)) (hr:Sd (PA X es tA)):Sd (PA X (.BinOp a op b p::es) (tCons te tA)):=⟨zAB ha.un hr.un rfl⟩
theorem zHb {X:Cx}{st:List Stmt}{G:TS->Prop}(h:∃t,Sd (PSs X st t)/\G t):∃t,PSs X st t/\G t:=h.elim λ t ht=>⟨t,ht.1.un,ht.2⟩
theorem pa_tS {X:Cx}{es xs:List Expr}{te:TE}{tA:TA}{k:Nat}{p:Pos}(ha:Sd (PE X (.Tuple xs k p) te)) (hr:Sd (PA X es tA)):Sd (PA X (.Tuple xs k p::es) (tCons te tA)):=⟨zAB ha.un hr.un rfl⟩
theorem pa_iS {X:Cx}{es:List Expr}{te:TE}{tA:TA}{a b:Expr}{p:Pos}(ha:Sd (PE X (.Subscript a b p) te)) (hr:Sd (PA X es tA)):Sd (PA X (.Subscript a b p::es) (tCons te tA)):=⟨zAB ha.un hr.un rfl⟩
theorem pa_nS {X:Cx}{es:List Expr}{te:TE}{tA:TA}{x:Str}{p:Pos}(ha:Sd (PE X (.Name x p) te)) (hr:Sd (PA X es tA)):Sd (PA X (.Name x p::es) (tCons te tA)):=⟨zAB ha.un hr.un rfl⟩
theorem pa_kS {X:Cx}{es xs:List Expr}{ks:List Keyword}{te:TE}{tA:TA}{f:Expr}{p:Pos}(ha:Sd (PE X (.Call f xs ks p) te)) (hr:Sd (PA X es tA)):Sd (PA X (.Call f xs ks p::es) (tCons te tA)):=⟨zAB ha.un hr.un rfl⟩
theorem zBG {X:Cx}{CX:CXT}{k:Nat}{f:Addr}{fd:FuncData}{ps:List Str}{sp:Sp}{ds:List Value}{dvs:List V}{E:XK}{x:Str}{p pos:Pos}{e:Expr}{es:List Expr}{t:TA}(F:FnOk X.prog X.w X.K X.mg X.base CX k f fd ps sp) (hr:Room k X.A) (hg:Gl X x) (hm:X.mg x=some (.ref f)) (hk:W.keepIn X.K (.ref f)=true) (hb:Binds X.K fd ps ds) (hd:Vals dvs ds) (hx:zDE CX X E)
  (ha:Sd (PA X (e::es) t)) (hdb:(x == ("__debug__" : Str))=false:=by decide) (he:starEach (e::es) X.env=(false,eval e X.env)::starEach es X.env:=by rfl) (hpl:(backTo pos (starEach es X.env)).any (·.1)=false:=by rfl) :
  Sd (PE X (.Call (.Name x p) (e::es) [] pos) (tCall sp dvs E t)):=⟨zHn F hr hg hm hk hb hd hx ha.un hdb he hpl⟩
def Sx (d:Addr) (H H':Hp):Prop:=∀b u,b≠d->H b=some u->H' b=some u
theorem Sx.of {d:Addr}{H H':Hp}(g:Same H H'):Sx d H H':=λ b u U e=>g b u e
theorem Sx.trans {d:Addr}{H H1 H':Hp}(g:Sx d H H1) (k:Sx d H1 H'):Sx d H H':=λ b u n e=>k b u n (g b u n e)
theorem Sx.put {d:Addr}{H:Hp}{o:HO}:Sx d H (upd H d o):=λ b u n e=>by rw[zAJ n];exact e
theorem Sx.tk {d:Addr}{H H':Hp}(g:Sx d H H') (hd:∀xs,H d≠some (.tup xs)):Tk H H':=λ b xs e=>g b _ (λ z=>hd xs (z▸e)) e
theorem zGK {S:Str->Prop}{n:Int}(h0:0<=n) (h1:n<NN):SmT S (.num n):=⟨h0,h1⟩
noncomputable def tkN:Nat->Nat
 |0=>1
 |n+1=>2+2 * tkN n
def kIn (gk:List (Key × V)) (x:Str):Prop:=(valV gk (Sum.inr x:Key)).isSome=true
theorem zKq {gk:List (Key × V)}{x:Str}{v:V}:kIn (putK gk (Sum.inr x) v) x:=by
 unfold kIn;rw[zCh,if_pos rfl];rfl
theorem zLe {gk:List (Key × V)}{x y:Str}{v:V}(h:kIn gk y):kIn (putK gk (Sum.inr x) v) y:=by
 unfold kIn at h ⊢;rw[zCh];split
 ·rfl
 ·exact h
theorem kIn_of {gk:List (Key × V)}{x y:Str}{v:V}(h:kIn (putK gk (Sum.inr x) v) y):y=x\/kIn gk y:=by
 unfold kIn at h ⊢;rw[zCh] at h
 by_cases c:(Sum.inr y:Key)=Sum.inr x
 ·exact .inl (Sum.inr.inj c)
 ·rw[if_neg c] at h
  exact .inr h
def Sy (d g:Addr) (H H':Hp):Prop:=∀b u,b≠d->b≠g->H b=some u->H' b=some u
theorem Sy.trans {d g:Addr}{H H1 H':Hp}(a:Sy d g H H1) (b:Sy d g H1 H'):Sy d g H H':=λ c u n m e=>b c u n m (a c u n m e)
theorem Sx.sy {d g:Addr}{H H':Hp}(a:Sx d H H'):Sy d g H H':=λ c u n U e=>a c u n e
theorem Sy.of {d g:Addr}{H H':Hp}(a:Same H H'):Sy d g H H':=λ c u U U e=>a c u e
theorem Sy.put {d g:Addr}{H:Hp}{o:HO}:Sy d g H (upd H g o):=λ b u U n e=>by rw[zAJ n];exact e
theorem Sy.tk {d g:Addr}{H H':Hp}(a:Sy d g H H') {k1 k2:List (Key × V)}(hd:H d=some (.dK k1)) (hg:H g=some (.dK k2)):Tk H H':=λ b xs e=>a b _ (λ z=>by rw[z,hd] at e;cases e) (λ z=>by rw[z,hg] at e;cases e) e
structure Stt (H:Hp) (d c g wl:Addr) (ns:List Int) (ws:List Str) (gk:List (Key × V)) (i r e:Int):Prop where
 hd:H d=some (.dK (stK c i r e g wl))
 hc:H c=some (.lst (ns.map V.int))
 hg:H g=some (.dK gk)
 hw:H wl=some (.lst (ws.map V.str))
 w4:ws.length=4
 dg:d≠g
 i0:0<=i
 r0:0<=r
 e0:0<=e
 kw:∀x,kIn gk x->x∈ws
section
variable {H H':Hp}{d c g wl:Addr}{ns:List Int}{ws:List Str}{gk:List (Key × V)}{i r e:Int}
theorem Stt.same (s:Stt H d c g wl ns ws gk i r e) (k:Same H H'):Stt H' d c g wl ns ws gk i r e:=⟨k _ _ s.hd,k _ _ s.hc,k _ _ s.hg,k _ _ s.hw,s.w4,s.dg,s.i0,s.r0,s.e0,s.kw⟩
theorem Stt.sx (s:Stt H d c g wl ns ws gk i r e) (k:Sx d H H') {i' r' e':Int}(hd:H' d=some (.dK (stK c i' r' e' g wl))) (h1:0<=i') (h2:0<=r') (h3:0<=e'):Stt H' d c g wl ns ws gk i' r' e' :=
 ⟨hd,k _ _ (λ z=>by have:=s.hc;rw[z,s.hd] at this;cases this) s.hc,k _ _ s.dg.symm s.hg,k _ _ (λ z=>by have:=s.hw;rw[z,s.hd] at this;cases this) s.hw,s.w4,s.dg,h1,h2,h3,s.kw⟩
theorem Stt.gap (s:Stt H d c g wl ns ws gk i r e) {x:Str}{v:V}(hx:x∈ws):Stt (upd H g (.dK (putK gk (Sum.inr x) v))) d c g wl ns ws (putK gk (Sum.inr x) v) i r e :=
 ⟨by rw[zAJ s.dg];exact s.hd,by rw[zAJ (λ z=>by have:=s.hc;rw[z,s.hg] at this;cases this)];exact s.hc,zAA,by rw[zAJ (λ z=>by have:=s.hw;rw[z,s.hg] at this;cases this)];exact s.hw,s.w4,s.dg,s.i0,s.r0,s.e0,λ y hy=>(kIn_of hy).elim (λ z=>z▸hx) (s.kw y)⟩
theorem Stt.tk (s:Stt H d c g wl ns ws gk i r e) (k:Sy d g H H'):Tk H H':=k.tk s.hd s.hg
end
theorem zJl {ws:List Str}(h:ws.length=4) (z:Int):∃x∈ws,atI (ws.map V.str) (z % 4)=some (.str x):=by
 have h0:=rH z (show (4:Int)≠0 by decide);have h1:=rJ z (show (0:Int)<4 by decide);have hl:(z % 4).toNat<ws.length:=by omega
 have e:(((z % 4).toNat:Nat):Int)=z % 4:=by omega
 refine⟨ws[(z % 4).toNat],List.getElem_mem hl,?_⟩;have:=zCL (xs:=ws.map V.str) (j:=(z % 4).toNat) (v:=.str ws[(z % 4).toNat]) (by simp[hl]);rw[e] at this;exact this
theorem zLW (z m:Int) (h0:0<=m) (h1:m<NN):∃n:Int,atI [V.int 0,.int 1,.int 2,.int m] (z % 4)=some (.int n)/\0<=n/\n<NN:=by
 have h:z % 4=0\/z % 4=1\/z % 4=2\/z % 4=3:=by omega
 rcases h with h|h|h|h<;>rw[h]
 ·exact⟨0,rfl,by decide,by decide⟩
 ·exact⟨1,rfl,by decide,by decide⟩
 ·exact⟨2,rfl,by decide,by decide⟩
 ·exact⟨m,rfl,h0,h1⟩
theorem zJw (z:Int):∃o:Bin,(o = .add\/o = .sub\/o = .mul)/\atI [V.str "add", .str "sub", .str "mul", .str "add"] (z % 4)=some (.str o.s):=by
 have h:z % 4=0\/z % 4=1\/z % 4=2\/z % 4=3:=by omega
 rcases h with h|h|h|h<;>rw[h]
 ·exact⟨.add,.inl rfl,rfl⟩
 ·exact⟨.sub,.inr (.inl rfl),rfl⟩
 ·exact⟨.mul,.inr (.inr rfl),rfl⟩
 ·exact⟨.add,.inl rfl,rfl⟩
theorem zHp {t u:TT}{σ:L2.St}{H:Hp}{b c:Bool}(h1:∀Q:Bool->Hp->Prop,Q b H->t σ H Q) (h2:∀Q:Bool->Hp->Prop,Q c H->u σ H Q) (Q:Bool->Hp->Prop) (h:Q (b || c) H):tOr t u σ H Q:=by
 refine h1 _ ?_;cases b
 ·exact iteF (h2 _ h)
 ·exact iteT h
theorem zJN {t u:TT}{σ:L2.St}{H:Hp}{b c:Bool}(h1:∀Q:Bool->Hp->Prop,Q b H->t σ H Q) (h2:∀Q:Bool->Hp->Prop,Q c H->u σ H Q) (Q:Bool->Hp->Prop) (h:Q (b && c) H):tAnd t u σ H Q:=by
 refine h1 _ ?_;cases b
 ·exact iteF h
 ·exact iteT (h2 _ h)
theorem viaN {D:Ends}{t1 t2:TS}{σ:L2.St}{H:Hp}(h:∀N:L2.St->Hp->Prop,(∀σ' H',t2 D σ' H'->N σ' H')->t1 { D with nx:=N } σ H):tSeq t1 t2 D σ H:=h _ λ U U z=>z
theorem zKy {o:Bin}{a a' b b':Tr}(ho:o = .add\/o = .sub\/o = .mul) (h:Eqv (polyT a) (polyT a')) (k:Eqv (polyT b) (polyT b')):Eqv (polyT (.bin o a b)) (polyT (.bin o a' b')):=by
 rcases ho with rfl|rfl|rfl
 ·exact Eqv.app h k
 ·exact Eqv.app h (Eqv.neg k)
 ·exact Eqv.mul h k
section
variable {X:Cx}
def Told (H:Hp) (v:V) (dl:Addr) (ds:List Dt) (e:Dt):Prop:=∃(p:Addr) (us:List V) (ev:V),v = .ref p/\H p=some (.tup [.str "through", .ref dl,ev])/\H dl=some (.lst us)/\DRs H ds us/\DR H e ev
def rEqTo:R2:=λ x y H Q=>∃(d1 d2:Addr) (ds es:List Dt) (d e:Dt),Told H x d1 ds d/\Told H y d2 es e/\d1≠d2/\ds.length=es.length/\Dt.deeps ds<=100/\d.deep<=100/\Q (.bl (Dt.beqs ds es && Dt.beq d e)) H
set_option tactic.hygienic true in
theorem zKW (hu:X.A.units+150<cLine):OpR X (compareOp .Eq) rEqTo:=by
 intro jP s σ H x y v u Q I rx ry h;obtain⟨d1,d2,ds,es,d,e,⟨p,us,ev,rfl,hp,hd1,ru,rd⟩,⟨p2,us2,ev2,rfl,hp2,hd2,ru2,re⟩,hne,hl,dd1,dd2,q⟩:=h;cases rx;cases ry;obtain⟨its,rv,tp,_⟩:=I.tuple (SqT.of hp);obtain⟨its2,rv2,tp2,_⟩:=I.tuple (SqT.of hp2);cases rv with|cons a0 rv=>cases rv with|cons a1 rv=>cases rv with|cons a2 rv =>
 cases rv;cases rv2 with|cons b0 rv2=>cases rv2 with|cons b1 rv2=>cases rv2 with|cons b2 rv2 =>
 cases rv2;rename_i x0 x1 x2 y0 y1 y2;obtain⟨t0,rfl⟩:=a0;obtain⟨t1,rfl⟩:=b0;cases a1;cases b1;have n1:X.A.in1.units=X.A.units+1:=rfl;have n2:X.A.in1.in1.units=X.A.units+2:=rfl;refine SeqAt.eq_tupleAt (e:=λ j=>match j with|0=>true|1=>Dt.beqs ds es|_=>Dt.beq d e) tp tp2 (by omega) (λ j h1 h2=>?_) ?_
 ·match j,h1,h2 with
  |0,_,_ =>
   have:=SeqAt.EqAt.str_str (A:=X.A.in1) (s:=s) "through" t0 "through" t1;simpa using this
  |1,_,_ =>
   refine SeqAt.EqAt.of_refs hne ?_;obtain⟨_,li,n,r1,l1,e1⟩:=I.lstM hd1;obtain⟨_,li2,n2,r2,l2,e2⟩:=I.lstM hd2;have L1:s.heap.IsList d1 li.toArray:=⟨_,e1,rfl,_,rfl⟩;have L2:s.heap.IsList d2 li2.toArray:=⟨_,e2,rfl,_,rfl⟩;have m1:=ru.length;have m2:=ru2.length
   have key:=SeqAt.RcAt.lists (A:=X.A.in1) (s:=s) (e:=λ j=>match ds[j]?,es[j]? with|some d,some e=>Dt.beq d e|_,_=>false) L1 L2 (by simp;omega) (by omega) λ j h1 h2=>by
    have g1:j<us.length:=by simp at h1;omega
    have g2:j<us2.length:=by simp at h2;omega
    obtain⟨u1,eu,q1⟩:=r1.get (lU g1);obtain⟨u2,ev,q2⟩:=r2.get (lU g2);obtain⟨z1,ed,rd1⟩:=ru.get (lU g1);obtain⟨z2,ed2,rd2⟩:=ru2.get (lU g2);have f1:li.toArray[j]=u1:=by obtain⟨_,q⟩:=lJ.mp eu;simpa using q
    have f2:li2.toArray[j]=u2:=by obtain⟨_,q⟩:=lJ.mp ev;simpa using q
    simp only[ed,ed2,f1,f2];exact zII I 100 X.A.in1.in1 (mK (zBY ed) dd1) rd1 rd2 q1 q2 (by omega)
   have ez:Dt.beqs ds es=(List.range li.toArray.size).all (λ j=>match ds[j]?,es[j]? with|some d,some e=>Dt.beq d e|_,_=>false):=by
    rw[zEo,hl,Nat.min_self];have:li.toArray.size=es.length:=by simp;omega
    rw[this,beq_self_eq_true,Bool.and_true]
    try rfl
   show SeqAt.RcAt _ _ _ _ (Dt.beqs ds es);rw[ez];exact key
  |2,_,_=>exact zII I 100 X.A.in1 dd2 rd re a2 b2 (by omega)
 ·have ez:((List.range (min [Value.str "through" t0,.ref d1,x2].toArray.size [Value.str "through" t1,.ref d2,y2].toArray.size)).all (λ j=>match j with|0=>true|1=>Dt.beqs ds es|_=>Dt.beq d e) && [Value.str "through" t0,.ref d1,x2].toArray.size == [Value.str "through" t1,.ref d2,y2].toArray.size)=(Dt.beqs ds es && Dt.beq d e):=by
   show ((List.range 3).all _ && true)=_;simp[List.range,List.range.loop]
  rw[ez];exact⟨.bl _,H,I,rfl,q⟩
theorem zF4 {jP:List (Addr × Obj)}{σ:St}{H:Hp}{s:Shared}(I:Inv X jP σ H s) {a b:Addr}{x y:Str}(ha:SqT X.K H a [.str x]) (hb:SqT X.K H b [.str y]):∃t t':Tok,s.heap.IsTuple a #[.str x t]/\s.heap.IsTuple b #[.str y t']:=by
 obtain⟨its,rv,tp,_⟩:=I.tuple ha;obtain⟨its2,rv2,tp2,_⟩:=I.tuple hb;cases rv with|cons a0 rv =>
 cases rv;cases rv2 with|cons b0 rv2 =>
 cases rv2;obtain⟨t0,rfl⟩:=a0;obtain⟨t1,rfl⟩:=b0;exact⟨t0,t1,tp,tp2⟩
theorem zJR {A:Around}{s:Shared}{x y:Str}{t t':Tok}(j:Nat) (h1:j < #[Value.str x t].size) (h2:j < #[Value.str y t'].size):SeqAt.EqAt A s #[Value.str x t][j] #[Value.str y t'][j] ((λ U=>x == y) j):=by
 have:j=0:=by simp at h1;omega
 subst this;exact SeqAt.EqAt.str_str x t y t'
theorem zKX (hu:X.A.units<cLine):OpR X (compareOp .Eq) (λ x y H Q=>∃(a b:Addr) (z w:Str),x = .ref a/\y = .ref b/\SqT X.K H a [.str z]/\SqT X.K H b [.str w]/\Q (.bl (z == w)) H):=by
 intro jP s σ H x y v u Q I rx ry h;obtain⟨a,b,z,w',rfl,rfl,ha,hb,q⟩:=h;cases rx;cases ry;obtain⟨t,t',p,p2⟩:=zF4 I ha hb;refine SeqAt.eq_tupleAt p p2 hu (λ j h1 h2=>zJR j h1 h2) ⟨.bl (z == w'),H,I,?_,q⟩;show Value.bool _=_;simp[List.range,List.range.loop]
theorem zHr (hu:X.A.units<cLine):OpR X (compareOp .NotEq) (λ x y H Q=>∃(b:Addr) (w:Str),y = .ref b/\SqT X.K H b [.str w]/\((x = .non/\Q (.bl true) H)\/∃(a:Addr) (z:Str),x = .ref a/\SqT X.K H a [.str z]/\Q (.bl (!(z == w))) H)):=by
 intro jP s σ H x y v u Q I rx ry h;obtain⟨b,w',rfl,hb,⟨rfl,q⟩|⟨a,z,rfl,ha,q⟩⟩:=h
 ·cases rx
  cases ry;obtain⟨its2,rv2,tp2,_⟩:=I.tuple hb;exact SeqAt.RcNeAt.none_tuple tp2 hu _ _ _ _ ⟨.bl true,H,I,rfl,q⟩
 ·cases rx
  cases ry;obtain⟨t,t',p,p2⟩:=zF4 I ha hb;refine SeqAt.RcNeAt.tuples p p2 hu (λ j h1 h2=>zJR j h1 h2) _ _ _ _ ⟨.bl (!(z == w')),H,I,?_,q⟩;show Value.bool _=_;simp[List.range,List.range.loop]
def zLB (P:Program) (w:World) (td ty:TE):TE:=λ σ H Q=>td σ H λ x H1=>∃a kvs,x = .ref a/\DicE P w H1 a kvs/\ty σ H1 λ y H2=>∃k kvs,DicE P w H2 a kvs/\KyN H2 y k/\Q ((valV kvs k).getD .non) H2
theorem zIs {o e:Expr}{apos cpos:Pos}{td ty:TE}(hu:X.A.units+150<cLine) (ho:PE X o td) (he:PE X e ty) (m:M1 X o "get" apos e cpos):PE X (.Call (.Attribute o "get" apos) [e] [] cpos) (zLB X.prog X.w td ty):=by
 intro jP s σ H Q I h;refine wpAny_Call_method m.base m.few m.line PySem.F.plainAttrs_dict PySem.F.slot_dict_get PySem.F.type_dict_get (thn (ho jP s σ H _ I h) λ u s1 ⟨x,H1,I1,rx,a,kvs1,ex,d,q1⟩=>?_);subst ex;obtain rfl:u=Value.ref a:=rx;obtain⟨raw,hs,_,dd,_⟩:=e_raw I1 d;refine⟨dd.typeIs,λ c q=>?_,?_⟩
 ·cases q
  obtain⟨ob,_,_,h1,h2,_⟩:=dd;exact⟨ob,h1,h2.2.1⟩
 rw[m.trees];refine Calls.callWith_builtin rfl (Calls.evalArgs_plain (Calls.spliced_cons (thn (he jP s1 σ H1 _ I1 q1) λ iv s2 ⟨y,H2,I2,ry,k,kvs,d3,⟨b,eb,hk,hd⟩,q3⟩=>Calls.spliced_nil ?_)));subst eb;obtain rfl:iv=Value.ref b:=ry;obtain⟨raw3,hs3,⟨xs,e3,rel⟩,dd3,_⟩:=e_raw I2 d3;subst e3;refine call_meetsIn PySem.F.slot_dict_get dd3.typeIs PySem.F.entry_dict_get (PySem.F.args_dict_get_2 _ _) (meetsH_dict_get (zBt X.prog X.w) a b hs3) ⟨zEj (by omega),k,raw3,n_is I2 hk hd,dd3,?_⟩;exact⟨_,H2,I2.tok _,(rel.val k).getD (show RelV .non Value.none from rfl),q3⟩
def zLI:List V->Hp->VK->Prop:=λ xs H Q=>zJV xs H Q\/∃a kvs,xs=[V.ref a]/\H a=some (.dK kvs)/\∀p,H p=none->Q (.ref p) (upd H p (.dK kvs))
theorem zHC (hc:X.calm=true):CallR X (.type "dict") zLI:=λ jP s σ H xs us Q I r h=>h.elim (zEH hc jP s σ H xs us Q I r) (zHD jP s σ H xs us Q I r)
def tNvr:TE:=λ U U U=>False
theorem zLP {e:Expr}:PE X e tNvr:=λ U U U U U U h=>h.elim
theorem zJa:OpR X (compareOp .Is) (λ x y H Q=>∃c,y = .bl c/\((x = .non/\Q (.bl false) H)\/∃b,x = .bl b/\Q (.bl (b == c)) H)):=by
 intro jP s σ H x y v u Q I rx ry h;obtain⟨c,rfl,⟨rfl,q⟩|⟨b,rfl,q⟩⟩:=h
 ·cases rx
  cases ry;cases c<;>exact lB ⟨.bl false,H,I,rfl,q⟩
 ·cases rx
  cases ry;cases b<;>cases c<;>exact lB ⟨.bl _,H,I,rfl,q⟩
theorem zKU:OpR X (compareOp .IsNot) (λ x y H Q=>∃b,x = .bl b/\y = .bl true/\Q (.bl (!b)) H):=by
 intro jP s σ H x y v u Q I rx ry h;obtain⟨b,rfl,rfl,q⟩:=h;cases rx;cases ry;cases b<;>exact lB ⟨.bl _,H,I,rfl,q⟩
end
structure TD (H H':Hp):Prop where
 tk:Tk H H'
 dk:∀b kvs,H b=some (.dK kvs)->H' b=some (.dK kvs)
theorem TD.trans {H H1 H2:Hp}(a:TD H H1) (b:TD H1 H2):TD H H2:=⟨a.tk.trans b.tk,λ c kvs h=>b.dk c kvs (a.dk c kvs h)⟩
theorem Same.td {H H':Hp}(h:Same H H'):TD H H':=⟨h.tk,λ b U e=>h b _ e⟩
theorem TD.lst {H:Hp}{p:Addr}{xs:List V}{o:HO}(h:H p=some (.lst xs)):TD H (upd H p o):=⟨Tk.lst h,λ b kvs e=>by
 rw[zAJ (λ z=>by subst z;rw[h] at e;cases e)];exact e⟩
theorem zA8 (f:Str) (v:V):∀fs:List (Str × V),(putF f v fs).length<=fs.length+1
 |[]=>lP _
 |p::r=>by
  unfold putF;split
  ·simp
  ·have:=zA8 f v r
   simp;omega
noncomputable def cfld0 (dl el wl:Addr):List (Str × V):=putF "halt" .non (putF "waiting" (.ref wl) (putF "ends" (.ref el) (putF "deeds" (.ref dl) [])))
def Kp (dl el wl:Addr) (H H':Hp):Prop:=∀b o,H b=some o->b≠dl->b≠el->b≠wl->H' b=some o
theorem Kp.refl {dl el wl:Addr}(H:Hp):Kp dl el wl H H:=λ U U h U U U=>h
theorem Kp.trans {dl el wl:Addr}{H H1 H2:Hp}(a:Kp dl el wl H H1) (b:Kp dl el wl H1 H2):Kp dl el wl H H2:=λ c o h x y z=>b c o (a c o h x y z) x y z
theorem Same.kp {dl el wl:Addr}{H H':Hp}(h:Same H H'):Kp dl el wl H H':=λ b o e U U U=>h b o e
section
variable {C:Addr}{H H':Hp}{p aA dl el wl:Addr}{ds es ws:List V}
theorem kp_d {o:HO}:Kp dl el wl H (upd H dl o):=λ b U h x U U=>by rw[zAJ x];exact h
theorem kp_e {o:HO}:Kp dl el wl H (upd H el o):=λ b U h U x U=>by rw[zAJ x];exact h
theorem kp_w {o:HO}:Kp dl el wl H (upd H wl o):=λ b U h U U x=>by rw[zAJ x];exact h
end
theorem zBX {α:Type}{F:α->V->Prop}{as bs:List α}{us vs:List V}(h:Paired F as us) (k:Paired F bs vs):Paired F (as++bs) (us++vs):=by
 induction h with
 |nil=>exact k
 |cons r t ih=>exact .cons r ih
theorem zBB {α:Type}{F:α->V->Prop}{as:List α}{us:List V}(h:Paired F as us):us.length=as.length:=h.length.symm
noncomputable def bgn (a:En) (t:Tr) (e:En) (W:List Item) (E:List Int) (D:List DRow):Option (List Item × List Int × List DRow) :=
 match t with
 |.num n=>some (W,n::E,D)
 |.name x=>some (W,e x::E,D)
 |.ask x=>some (W,a x::E,D++[askR x])
 |.stop _=>none
 |.gap _ _=>none
 |.say s=>some ((s,e,false)::(t,e,true)::W,E,D)
 |.bin .thn s _=>some ((s,e,false)::(t,e,true)::W,E,D)
 |.bin _ s u=>some ((s,e,false)::(u,e,false)::(t,e,true)::W,E,D)
 |.ite c _ _=>some ((c,e,false)::(t,e,true)::W,E,D)
 |.lett _ s _=>some ((s,e,false)::(t,e,true)::W,E,D)
theorem zHZ (t:Tr):1<=t.size:=by cases t<;>simp[Tr.size]<;>omega
structure ClsM (K:W.Frag) (B:Addr) (m:Str) (f:Addr):Prop where
 gt:W.specialIn K (.ref B) "__getattribute__" = some (some (.builtin "type.__getattribute__"))
 rd:∃mc,W.readsIn K B mc=true/\W.findCls K (.ref B) mc m=some (.val (.ref f))
 kp:W.keepIn K (.ref f)=true
def tClsM (B:Addr) (sp:Sp) (dvs:List V) (E:XK) (ta:TE) (t:TA):TE:=λ σ H Q=>ta σ H λ x H1=>x = .ref B/\t σ H1 λ vs H2=>sp (vs++dvs) H2 Q E
theorem zKR {X:Cx}{o e:Expr}{es:List Expr}{ta:TE}{t:TA}{B f:Addr}{m:Str}{fd:FuncData}{ps:List Str}{sp:Sp}{CX:CXT}{k:Nat}{ds:List Value}{dvs:List V}{E:XK}{apos pos:Pos}{pl:Sem Bool}
  (he:PE X o ta) (M:ClsM X.K B m f) (F:FnOk X.prog X.w X.K X.mg X.base CX k f fd ps sp) (hr:Room k X.A) (hb:Binds X.K fd ps ds) (hd:Vals dvs ds) (hx:zDE CX X E) (ha:PA X (e::es) t)
  (hst:starEach (e::es) X.env=(false,eval e X.env)::starEach es X.env:=by rfl) (hpl:(backTo pos (starEach es X.env)).any (·.1)=false:=by rfl)
  (ht:eval (.Call (.Attribute o m apos) (e::es) [] pos) X.env=(do
   let ov ← eval o X.env
   standAt apos.atName
   let (f,first) ← holding [ov] (getMethod ov m pl)
   callWith pos f first (backTo pos (starEach (e::es) X.env)) (backToKw pos (keywordEach [] X.env))):=by rfl) :
  PE X (.Call (.Attribute o m apos) (e::es) [] pos) (tClsM B sp dvs E ta t):=by
 intro jP s σ H Q I h;refine W.methodCall_KW (pl:=pl) (thn (he jP s σ H _ I h) λ u s1 ⟨x,H1,I1,rx,ex,q⟩=>?_) ht;subst ex;obtain rfl:u=Value.ref B:=rx;obtain⟨mc,r1,r2⟩:=M.rd;refine W.method_cls I1.kIn M.gt (W.cls_value I1.kIn r1 r2 rfl ?_);refine W.callWith_K (first:=[]) (h₀:=X.base) I.ok.mod.kin M.kp (thn (ha pos jP _ σ H1 _ (I1.tok (s1.toks+1)) q) λ us s2 ⟨vs,H2,I2,r,q2⟩=>⟨I2.kIn,?_⟩) hst hpl;exact zHh (us:=us) (vs:=vs) F hr hb hd hx I2 r q2
structure CA where
 p:Addr
 kA:Addr
 fA:Addr
 dl:Addr
 el:Addr
 wl:Addr
noncomputable def CA.fl (a:CA):List (Str × V):=putF "facts" (.ref a.fA) (putF "kinds" (.ref a.kA) (cfld0 a.dl a.el a.wl))
section
variable {a:CA}
theorem CA.facts:a.fl.lookup ("facts" : Str)=some (.ref a.fA):=by
 unfold CA.fl;rw[zAM,if_pos rfl]
theorem CA.kinds:a.fl.lookup ("kinds" : Str)=some (.ref a.kA):=by
 unfold CA.fl;rw[zAM,if_neg (by right),zAM,if_pos rfl]
theorem CA.halt:a.fl.lookup ("halt" : Str)=some .non:=by
 unfold CA.fl cfld0;rw[zAM,if_neg (by right),zAM,if_neg (by right),zAM,if_pos rfl]
theorem CA.waiting:a.fl.lookup ("waiting" : Str)=some (.ref a.wl):=by
 unfold CA.fl cfld0;rw[zAM,if_neg (by right),zAM,if_neg (by right),zAM,if_neg (by right),zAM,if_pos rfl]
theorem CA.ends:a.fl.lookup ("ends" : Str)=some (.ref a.el):=by
 unfold CA.fl cfld0;rw[zAM,if_neg (by right),zAM,if_neg (by right),zAM,if_neg (by right),zAM,if_neg (by right),zAM,if_pos rfl]
theorem CA.deeds:a.fl.lookup ("deeds" : Str)=some (.ref a.dl):=by
 unfold CA.fl cfld0;rw[zAM,if_neg (by right),zAM,if_neg (by right),zAM,if_neg (by right),zAM,if_neg (by right),zAM,if_neg (by right),zAM,if_pos rfl]
theorem CA.no {m:Str}(h:(["facts", "kinds", "halt", "waiting", "ends", "deeds"]:List Str).all (λ x=>!decide (m=x))=true):a.fl.lookup m=none:=by
 simp only[List.all_cons,List.all_nil,Bool.and_true,Bool.and_eq_true,Bool.not_eq_true',decide_eq_false_iff_not] at h;obtain⟨h1,h2,h3,h4,h5,h6⟩:=h;unfold CA.fl cfld0;rw[zAM,if_neg h1,zAM,if_neg h2,zAM,if_neg h3,zAM,if_neg h4,zAM,if_neg h5,zAM,if_neg h6];rfl
end
structure Cs (C:Addr) (H:Hp) (a:CA) (ds es ws:List V):Prop where
 ob:∃dx,H a.p=some (.ins C dx a.fl)
 d:H a.dl=some (.lst ds)
 e:H a.el=some (.lst es)
 w:H a.wl=some (.lst ws)
 de:a.dl≠a.el
 dw:a.dl≠a.wl
 ew:a.el≠a.wl
abbrev CA.Kp (a:CA) (H H':Hp):Prop:=L2.Kp a.dl a.el a.wl H H'
section
variable {C:Addr}{H H':Hp}{a:CA}{ds es ws:List V}
theorem Cs.same (c:Cs C H a ds es ws) (g:Same H H'):Cs C H' a ds es ws :=
 ⟨let ⟨dx,h⟩:=c.ob;⟨dx,g _ _ h⟩,g _ _ c.d,g _ _ c.e,g _ _ c.w,c.de,c.dw,c.ew⟩
theorem Cs.pd (c:Cs C H a ds es ws):a.p≠a.dl:=let ⟨_,h⟩:=c.ob;ne_of h c.d (by intro z;cases z)
theorem Cs.pe (c:Cs C H a ds es ws):a.p≠a.el:=let ⟨_,h⟩:=c.ob;ne_of h c.e (by intro z;cases z)
theorem Cs.pw (c:Cs C H a ds es ws):a.p≠a.wl:=let ⟨_,h⟩:=c.ob;ne_of h c.w (by intro z;cases z)
theorem Cs.setd (c:Cs C H a ds es ws) (ds':List V):Cs C (upd H a.dl (.lst ds')) a ds' es ws :=
 ⟨let ⟨dx,h⟩:=c.ob;⟨dx,by rw[zAJ c.pd];exact h⟩,zAA,by rw[zAJ c.de.symm];exact c.e,by rw[zAJ c.dw.symm];exact c.w,c.de,c.dw,c.ew⟩
theorem Cs.sete (c:Cs C H a ds es ws) (es':List V):Cs C (upd H a.el (.lst es')) a ds es' ws :=
 ⟨let ⟨dx,h⟩:=c.ob;⟨dx,by rw[zAJ c.pe];exact h⟩,by rw[zAJ c.de];exact c.d,zAA,by rw[zAJ c.ew.symm];exact c.w,c.de,c.dw,c.ew⟩
theorem Cs.setw (c:Cs C H a ds es ws) (ws':List V):Cs C (upd H a.wl (.lst ws')) a ds es ws' :=
 ⟨let ⟨dx,h⟩:=c.ob;⟨dx,by rw[zAJ c.pw];exact h⟩,by rw[zAJ c.dw];exact c.d,by rw[zAJ c.ew];exact c.e,zAA,c.de,c.dw,c.ew⟩
theorem Cs.td (c:Cs C H a ds es ws) (k:a.Kp H H'):TD H H' :=
 ⟨λ b xs e=>k b _ e (ne_of e c.d (by intro z;cases z)) (ne_of e c.e (by intro z;cases z)) (ne_of e c.w (by intro z;cases z)),
 λ b xs e=>k b _ e (ne_of e c.d (by intro z;cases z)) (ne_of e c.e (by intro z;cases z)) (ne_of e c.w (by intro z;cases z))⟩
end
def KnR (H:Hp) (v:V) (kvs:List (Key × V)):Prop:=∃(a:Addr) (o:Obj) (ys:List V),v = .ref a/\H a=some (.frz o (.tup ys))/\o.dict=none/\Paired (PrV H) ys kvs/\kvs.length<=1000
def FcR (H:Hp) (v:V):Prop:=∃a,v = .ref a/\((∃o:Obj,H a=some (.frz o (.tup []))/\o.dict=none)\/H a=some (.dK []))
theorem KnR.mono {H H':Hp}(k:Same H H') {v:V}{kvs:List (Key × V)}:KnR H v kvs->KnR H' v kvs
 |⟨a,o,ys,e,h,d,p,l⟩=>⟨a,o,ys,e,k _ _ h,d,Paired.mapP p λ _ _ ⟨b,e1,e2⟩=>⟨b,e1,k _ _ e2⟩,l⟩
def KpP (p:Addr) (H H':Hp):Prop:=∀b o,H b=some o->b≠p->H' b=some o
theorem KnR.kpP {H H':Hp}{p C dx:Addr}{fl:List (Str × V)}(hp:H p=some (.ins C dx fl)) (k:KpP p H H') {v:V}{kvs:List (Key × V)}:KnR H v kvs->KnR H' v kvs
 |⟨a,o,ys,e,h,d,q,l⟩=>⟨a,o,ys,e,k _ _ h (ne_of h hp (by intro z;cases z)),d,Paired.mapP q λ _ _ ⟨b,e1,e2⟩=>⟨b,e1,k _ _ e2 (ne_of e2 hp (by intro z;cases z))⟩,l⟩
theorem FcR.kpP {H H':Hp}{p C dx:Addr}{fl:List (Str × V)}(hp:H p=some (.ins C dx fl)) (k:KpP p H H') {v:V}:FcR H v->FcR H' v
 |⟨a,e,.inl ⟨o,h,d⟩⟩=>⟨a,e,.inl ⟨o,k _ _ h (ne_of h hp (by intro z;cases z)),d⟩⟩
 |⟨a,e,.inr h⟩=>⟨a,e,.inr (k _ _ h (ne_of h hp (by intro z;cases z)))⟩
theorem FcR.mono {H H':Hp}(k:Same H H') {v:V}:FcR H v->FcR H' v
 |⟨a,e,.inl ⟨o,h,d⟩⟩=>⟨a,e,.inl ⟨o,k _ _ h,d⟩⟩
 |⟨a,e,.inr h⟩=>⟨a,e,.inr (k _ _ h)⟩
theorem SumA.more {H:Hp}{n m:Nat}{a:Rws}{v:V}(h:SumA H n a v) (l:n<=m):SumA H m a v:=⟨h.dr,h.ok.up l,h.can⟩
theorem zJu (g:Str):SmR (.gap g []) [(.tup [unkD g],1)]:=⟨zHs g,.refl _,lP 1,λ r hr=>by
 rw[mR.mp hr];exact⟨_,rfl,lP 1,λ d hd=>⟨g,mR.mp hd⟩⟩⟩
theorem zJt {n:Int}(h0:0<=n) (h1:n<NN):SmR (.num n) (polyT (.num n)):=⟨(zFk h0 h1).1,.refl _,by
 unfold polyT;split
 ·exact lX _
 ·exact lP 1,λ r hr=>by
 obtain⟨l,e,hl,_⟩:=(zFk h0 h1).2 r hr;refine⟨l,e,mK hl (lX _),λ d hd=>?_⟩;rw[List.length_eq_zero_iff.mp (Nat.le_zero.mp hl)] at hd;cases hd⟩
def EndR (H:Hp) (t:Tr) (v:V):Prop:=∃a,SumA H (lvT t) a v/\SmR t a
theorem EndR.mono {H H':Hp}(k:Tk H H') {t:Tr}{v:V}:EndR H t v->EndR H' t v
 |⟨a,h,s⟩=>⟨a,h.mono k,s⟩
noncomputable def zD3:List V:=[.str "num", .str "name", .str "ask", .str "stop", .str "gap"]
def zDs (K:W.Frag) (lv:Addr):Prop:=∃(o:Obj) (its:Array Value) (n:Nat),K.lookup lv=some o/\o.cls = .type "tuple" /\ o.data = .seq its n/\its.size<=sizeLine/\Vals zD3 its.toList
theorem zGZ (k:Kd):inV (.str k.s) zD3=k.leaf:=by cases k<;>right
theorem zJG (t:Tr):1<=t.head:=by cases t<;>simp[Tr.head]
abbrev Itm2:=Tr × Bool
def DeedR (H:Hp) (t:Tr) (v:V):Prop:=∃b u,v = .ref b/\H b=some (.tup [.str "say", u])/\EndR H t u
theorem DeedR.mono {H H':Hp}(k:Tk H H') {t:Tr}{v:V}:DeedR H t v->DeedR H' t v
 |⟨b,u,e,h,r⟩=>⟨b,u,e,k _ _ h,r.mono k⟩
def ItR (H:Hp) (i:Itm2) (v:V):Prop:=∃b u dv,v = .ref b/\H b=some (.tup [u,dv,.bl i.2])/\Rep H i.1 u
theorem ItR.mono {H H':Hp}(k:Tk H H') {i:Itm2}{v:V}:ItR H i v->ItR H' i v
 |⟨b,u,dv,e,h,r⟩=>⟨b,u,dv,e,k _ _ h,r.mono k⟩
structure Cg (C:Addr) (S:Str->Prop) (H:Hp) (a:CA) (W:List Itm2) (E D:List Tr):Prop where
 co:∃ds es ws,Cs C H a ds es ws/\Paired (DeedR H) D ds/\Paired (EndR H) E.reverse es/\Paired (ItR H) W.reverse ws
 kn:∃kk,H a.kA=some (.dK kk)/\∀g,S g->kIn kk g
 fn:H a.fA=some (.dK [])
section
variable {C:Addr}{S:Str->Prop}{H H':Hp}{a:CA}{W:List Itm2}{E D:List Tr}
theorem Cg.td (c:Cg C S H a W E D) (k:a.Kp H H'):TD H H':=let ⟨_,_,_,h,_⟩:=c.co;h.td k
theorem Cg.ob (c:Cg C S H a W E D):∃dx,H a.p=some (.ins C dx a.fl):=let ⟨_,_,_,h,_⟩:=c.co;h.ob
theorem Cg.new (c:Cg C S H a W E D) (k:TD H H') {W':List Itm2}{E' D':List Tr}{ds es ws:List V}(s:Cs C H' a ds es ws) (h1:Paired (DeedR H') D' ds) (h2:Paired (EndR H') E'.reverse es) (h3:Paired (ItR H') W'.reverse ws):Cg C S H' a W' E' D' :=
 ⟨⟨ds,es,ws,s,h1,h2,h3⟩,let ⟨kk,h,g⟩:=c.kn;⟨kk,k.dk _ _ h,g⟩,k.dk _ _ c.fn⟩
theorem Cg.same (c:Cg C S H a W E D) (g:Same H H'):Cg C S H' a W E D :=
 let ⟨ds,es,ws,s,h1,h2,h3⟩:=c.co
 c.new g.td (s.same g) (Paired.mapP h1 λ U U z=>z.mono g.tk) (Paired.mapP h2 λ U U z=>z.mono g.tk) (Paired.mapP h3 λ U U z=>z.mono g.tk)
theorem Cg.await {i:Addr}{it:Itm2}{ds es ws:List V}(c:Cg C S H a W E D) (s:Cs C H a ds es ws) (h1:Paired (DeedR H) D ds) (h2:Paired (EndR H) E.reverse es) (h3:Paired (ItR H) W.reverse ws) (k:a.Kp H H') (s':Cs C H' a ds es (ws++[.ref i])) (r:ItR H' it (.ref i)):Cg C S H' a (it::W) E D :=
 c.new (s.td k) s' (Paired.mapP h1 λ U U z=>z.mono (s.td k).tk) (Paired.mapP h2 λ U U z=>z.mono (s.td k).tk) (by rw[List.reverse_cons];exact zBX (Paired.mapP h3 λ U U z=>z.mono (s.td k).tk) (.cons r .nil))
theorem Cg.push {t:Tr}{v:V}{ds es ws:List V}(c:Cg C S H a W E D) (s:Cs C H a ds es ws) (h1:Paired (DeedR H) D ds) (h2:Paired (EndR H) E.reverse es) (h3:Paired (ItR H) W.reverse ws) (r:EndR H t v):Cg C S (upd H a.el (.lst (es++[v]))) a W (t::E) D :=
 have k:TD H (upd H a.el (.lst (es++[v]))):=TD.lst s.e
 c.new k (s.sete _) (Paired.mapP h1 λ U U z=>z.mono k.tk) (by rw[List.reverse_cons];exact zBX (Paired.mapP h2 λ U U z=>z.mono k.tk) (.cons (r.mono k.tk) .nil)) (Paired.mapP h3 λ U U z=>z.mono k.tk)
end
theorem zB4 {α:Type}{F:α->V->Prop}{as:List α}{b:α}{us:List V}(h:Paired F (as++[b]) us):∃us' u,us=us'++[u]/\Paired F as us'/\F b u:=by
 induction as generalizing us with
 |nil =>
  cases h with
  |cons r t=>cases t;exact⟨[],_,rfl,.nil,r⟩
 |cons a as ih =>
  cases h with
  |cons r t =>
   obtain⟨us',u,rfl,p,f⟩:=ih t;exact⟨_::us',u,rfl,.cons r p,f⟩
noncomputable def bgW (t:Tr) (W:List Itm2):List Itm2:=match t with
 |.bin _ x y=>(x,false)::(y,false)::(t,true)::W
 |.say s=>(s,false)::(t,true)::W
 |_=>W
noncomputable def bgE (t:Tr) (E:List Tr):List Tr:=match t with
 |.bin _ _ _=>E
 |.say _=>E
 |_=>t::E
def MiT (S:Str->Prop) (t:Tr):Prop:=SmT S t\/∃s,t = .say s/\SmT S s
inductive MR (S:Str->Prop):List Itm2->List Tr->List Tr->List Tr->List Tr->Prop
 |nil {E D:List Tr}:MR S [] E D E D
 |lf {t:Tr}{W:List Itm2}{E D E' D':List Tr}:SmT S t->MR S W (t::E) D E' D'->MR S ((t,false)::W) E D E' D'
 |say {t:Tr}{W:List Itm2}{E D E' D':List Tr}:SmT S t->MR S W (t::E) (D++[t]) E' D'->MR S ((.say t,false)::W) E D E' D'
 |bin {o:Bin}{x y a b:Tr}{W:List Itm2}{E D E' D':List Tr}:(o = .add\/o = .sub\/o = .mul)->MR S W (.bin o a b::E) D E' D'->MR S ((.bin o x y,true)::W) (b::a::E) D E' D'
 |sayT {x a:Tr}{W:List Itm2}{E D E' D':List Tr}:MR S W (a::E) (D++[a]) E' D'->MR S ((.say x,true)::W) (a::E) D E' D'
noncomputable def lvI:Itm2->Nat
 | (_,true)=>0
 | (.say s,false)=>lvT s
 | (t,false)=>lvT t
noncomputable def lvW:List Itm2->Nat
 |[]=>0
 |i::W=>lvI i+lvW W
noncomputable def lvE:List Tr->Nat
 |[]=>0
 |t::E=>lvT t+lvE E
noncomputable def mW:List Itm2->Nat
 |[]=>0
 | (t,false)::W=>2 * t.size+mW W
 | (_,true)::W=>1+mW W
theorem zH7:∀W:List Itm2,W.length<=mW W
 |[]=>lP _
 | (t,false)::W=>by
  have:=zH7 W;have:=zHZ t;simp[mW];omega
 | (_,true)::W=>by
  have:=zH7 W;simp[mW];omega
set_option tactic.hygienic true in
theorem MR.bgn {S:Str->Prop}{t:Tr}{W:List Itm2}{E D E' D':List Tr}(h:MR S ((t,false)::W) E D E' D'):MiT S t/\MR S (bgW t W) (bgE t E) D E' D'/\lvW (bgW t W)+lvE (bgE t E)=lvW ((t,false)::W)+lvE E/\mW (bgW t W)+1<=mW ((t,false)::W)/\mW (bgW t W)+(bgE t E).length<=mW ((t,false)::W)+E.length:=by
 cases h with
 |lf sm r =>
  refine⟨.inl sm,?_⟩;cases t with
  |num n=>exact⟨r,by simp[bgW,bgE,lvW,lvE,lvI,lvT];omega,by simp[bgW,mW,Tr.size];omega,by simp[bgW,bgE,mW,Tr.size];omega⟩
  |gap g as=>exact⟨r,by simp[bgW,bgE,lvW,lvE,lvI,lvT];omega,by simp[bgW,mW,Tr.size];omega,by simp[bgW,bgE,mW,Tr.size];omega⟩
  |bin o x y=>exact⟨.lf sm.2.1 (.lf sm.2.2 (.bin sm.1 r)),by cases x<;>cases y<;>first|exact sm.2.1.elim|exact sm.2.2.elim|(simp[bgW,bgE,lvW,lvE,lvI,lvT]<;>omega),by simp[bgW,mW,Tr.size];omega,by simp[bgW,bgE,mW,Tr.size];omega⟩
  |_=>exact sm.elim
 |say sm r =>
  rename_i s;exact⟨.inr ⟨_,rfl,sm⟩,.lf sm (.sayT r),by cases s<;>first|exact sm.elim|(simp[bgW,bgE,lvW,lvE,lvI,lvT]<;>omega),by simp[bgW,mW,Tr.size];omega,by simp[bgW,bgE,mW,Tr.size];omega⟩
noncomputable def bodyT:Tr->Tr
 |.say s=>s
 |t=>t
noncomputable def saidT:Tr->List Tr
 |.say s=>[s]
 |_=>[]
theorem MR.start {S:Str->Prop}{t:Tr}(h:MiT S t):MR S [(t,false)] [] [] [bodyT t] (saidT t)/\lvW [(t,false)]=lvT (bodyT t):=by
 rcases h with h|⟨s,rfl,h⟩
 ·cases t with
  |num n=>exact⟨.lf h .nil,rfl⟩
  |gap g as=>exact⟨.lf h .nil,rfl⟩
  |bin o x y=>exact⟨.lf h .nil,rfl⟩
  |_=>exact h.elim
 ·exact⟨.say h .nil,rfl⟩
noncomputable def isSay:Tr->Bool
 |.say _=>true
 |_=>false
noncomputable def endD (A:Rws):Dt:=.tup [.str "is", sumD A]
noncomputable def saidD (b:Bool) (A:Rws):List Dt:=if b=true then [.tup [.str "say", sumD A]] else []
theorem zIj {r s:Dt × Int}(h:rowD r=rowD s):r=s:=by
 unfold rowD at h;injection h with h
 injection h with h1 h2
 injection h2 with h2 _
 injection h2 with h2
 exact Prod.ext h1 h2
theorem zIc {A B:Rws}(h:sumD A=sumD B):A=B:=by
 unfold sumD at h;injection h with h
 exact(List.map_inj_right λ U U=>zIj).mp h
theorem zJp (b:Bool) (A B:Rws):(Dt.beqs (saidD b A) (saidD b B) && Dt.beq (endD A) (endD B))=decide (A=B):=by
 rw[Bool.eq_iff_iff,Bool.and_eq_true,Dt.beqs_iff,Dt.beq_iff,decide_eq_true_iff];constructor
 ·rintro⟨_,h⟩
  unfold endD at h;injection h with h
  injection h with _ h
  injection h with h
  exact zIc h
 ·rintro rfl
  exact⟨rfl,rfl⟩
theorem zHN {n:Nat}{A:Rws}(h:ROk n A):(sumD A).deep<=10:=by
 have:Dt.deeps (A.map rowD)<=9:=zCQ λ d hd=>by
  obtain⟨r,hr,rfl⟩:=mG.mp hd;have:=(h r hr).deep;simp[rowD,Dt.deep,Dt.deeps];omega
 unfold sumD;rw[Dt.deep];omega
structure SdR (H:Hp) (t:Tr) (v:V) (dl:Addr) (A:Rws):Prop where
 told:Told H v dl (saidD (isSay t) A) (endD A)
 sm:SmR (bodyT t) A
 d1:Dt.deeps (saidD (isSay t) A)<=100
 d2:(endD A).deep<=100
theorem Told.mono {H H':Hp}(k:Same H H') {v:V}{dl:Addr}{ds:List Dt}{e:Dt}:Told H v dl ds e->Told H' v dl ds e
 |⟨p,us,ev,e1,e2,e3,e4,e5⟩=>⟨p,us,ev,e1,k _ _ e2,k _ _ e3,e4.mono k.tk,e5.mono k.tk⟩
theorem SdR.mono {H H':Hp}(k:Same H H') {t:Tr}{v:V}{dl:Addr}{A:Rws}(h:SdR H t v dl A):SdR H' t v dl A:=⟨h.told.mono k,h.sm,h.d1,h.d2⟩
structure Sid (H:Hp) (kvs:List (Key × V)) (t:Tr) (v:V):Prop where
 rp:Rep H t v
 mi:MiT (kIn (zA3 [] kvs)) t
 lv:lvT (bodyT t)<=10
 sz:t.size<=100
theorem Sid.mono {H H':Hp}(k:Tk H H') {kvs:List (Key × V)}{t:Tr}{v:V}(h:Sid H kvs t v):Sid H' kvs t v:=⟨h.rp.mono k,h.mi,h.lv,h.sz⟩
theorem or_kn {K:W.Frag}{i:Nat}{σ:L2.St}{H:Hp}{Q:VK}{kvs:List (Key × V)}{v:V}(hv:σ[i]?=some (some v)) (h:KnR H v kvs) (q:∀u H',Same H H'->KnR H' u kvs->Q u H'):tOrT K (tVar i) (tTupF tNil) σ H Q:=by
 obtain⟨a,o,ys,rfl,ha,hd,hp,hl⟩:=id h;refine⟨_,hv,!ys.isEmpty,(show TruV K (.ref a) H _ from .inr (.inl ⟨ys,.inl (.inr ⟨o,ha⟩),rfl⟩)),?_⟩;cases hp with
 |nil =>
  rw[if_neg (by simp)];exact⟨lX _,λ p o' hp hd'=>q _ _ (zAC hp) ⟨p,o',[],rfl,zAA,hd',.nil,lX _⟩⟩
 |cons r t =>
  rw[if_pos (by simp)];exact q _ _ (.refl H) h
def SameT (K:W.Frag) (sm:Addr):Prop:=∃(o:Obj) (its:Array Value) (n:Nat),K.lookup sm=some o/\o.cls = .type "tuple" /\ o.data = .seq its n/\its.size<=sizeLine/\Vals [.str "same"] its.toList
def RuP (H:Hp) (ru:Addr) (t1 t2:Tr):Prop:=∃(kvs:List (Key × V)) (u1 u2 kv:V),H ru=some (.tup [u1,u2,kv])/\Sid H kvs t1 u1/\Sid H kvs t2 u2/\KnR H kv kvs/\isSay t1=isSay t2
theorem RuP.mono {H H':Hp}(k:Same H H') {ru:Addr}{t1 t2:Tr}:RuP H ru t1 t2->RuP H' ru t1 t2
 |⟨kvs,u1,u2,kv,h,s1,s2,hk,hs⟩=>⟨kvs,u1,u2,kv,k _ _ h,s1.mono k.tk,s2.mono k.tk,hk.mono k,hs⟩
theorem zKn (x y:Str):(x++y).length=x.length+y.length:=strLen_append x y
noncomputable def nm (ws:List Str) (i:Int):Str:=ws.getD i.toNat ⟨#[]⟩
noncomputable def abc:Str:=Str.ofString "abcdefghijklmnopqrstuvwxyz"
theorem zJO:abc.cps.toList=List.range' 97 26:=by right
theorem zK5:abc.length=26:=by right
theorem zLk (z:Int):atI abc.cps.toList (z % 26)=some (97+(z % 26).toNat):=by
 have h0:=rH z (show (26:Int)≠0 by decide);have h1:=rJ z (show (0:Int)<26 by decide);have e:(((z % 26).toNat:Nat):Int)=z % 26:=by omega
 have hl:(z % 26).toNat<26:=by omega
 have:=zCL (xs:=abc.cps.toList) (j:=(z % 26).toNat) (v:=97+(z % 26).toNat) (by rw[zJO,List.getElem?_range' hl];simp);rw[e] at this;exact this
noncomputable def ltr (bs:List Int) (at_ k:Int) (t:Nat):Nat:=97+((bs.getD t 0+k * (if (t:Int)=at_ then 1 else 0)) % 26).toNat
noncomputable def wd (bs:List Int) (at_ k:Int):Str:=⟨((List.range bs.length).map (ltr bs at_ k)).toArray⟩
theorem zHH (bs:List Int) (at_ k:Int):(wd bs at_ k).length=bs.length:=by
 show ((List.range bs.length).map (ltr bs at_ k)).toArray.size=_;simp
theorem zG3 (l:List Nat):Txt.join (Str.ofString "") (l.map λ k=>(⟨#[k]⟩:Str))=⟨l.toArray⟩:=by
 show Builtin.Str.glued (Str.ofString "") _=_;rw[StrLaws.glued_eq_join];exact PyProof.Rows.join_ones l
theorem zD1 {bs:List Int}{at_:Int}{ws:List Str}{i:Nat}{x:Str}(l2:ws.length=i) (hws:∀t x,ws[t]?=some x->x=wd bs at_ (t:Nat)\/x=wd bs at_ (t:Nat)++Str.ofString "s") (hx:x=wd bs at_ (i:Nat)\/x=wd bs at_ (i:Nat)++Str.ofString "s") :
  ∀t y,(ws++[x])[t]?=some y->y=wd bs at_ (t:Nat)\/y=wd bs at_ (t:Nat)++Str.ofString "s" := by
 intro t y hy;rcases Nat.lt_or_ge t ws.length with h|h
 ·rw[mT h] at hy
  exact hws t y hy
 ·rw[mU h] at hy
  have h0:t - ws.length=0:=by
   rcases Nat.eq_zero_or_pos (t - ws.length) with z|z
   ·exact z
   ·rw[List.getElem?_eq_none (by simp;omega)] at hy
    cases hy
  rw[h0] at hy;have e:x=y:=by simpa using hy
  have et:t=i:=by omega
  rw[←e,et];exact hx
theorem zF5:∀{ys:List Str},(∀y∈ys,y.length=1)->(ys.map (·.length)).sum=ys.length
 |[],_=>rfl
 |y::ys,h=>by
  rw[mM,List.sum_cons,mN,h y List.mem_cons_self,zF5 λ z hz=>h z (List.mem_cons_of_mem _ hz)];omega
section
variable {X:Cx}{pos:Pos}{k v:Expr}{ks:List (Option Expr)}{vs:List Expr}{tk tv:TE}{trs:List (TE × TE)}
theorem zIo:Sd (PPs X pos [] [] []):=⟨zKI⟩
theorem zBv (hk:Sd (PE X k tk)) (hv:Sd (PE X v tv)) (hr:Sd (PPs X pos ks vs trs)):Sd (PPs X pos (some k::ks) (v::vs) ((tk,tv)::trs)):=⟨zIp hk.un hv.un hr.un⟩
theorem zIt (h:Sd (PPs X pos ks vs trs)) (hall:ks.all (·.isSome)=true) (hl:ks.length=vs.length) (h0:ks≠[]) (h15:ks.length<=15):Sd (PE X (.Dict ks vs pos) (tDisp trs)):=⟨zKP h.un hall hl h0 h15⟩
theorem zGr {T:String}{x:Str}{p:Pos}{e:Expr}{es:List Expr}{t:TA}{r:List V->Hp->VK->Prop}(hc:CallR X (.type T) r) (hg:Gl X x) (hm:X.mg x=none) (hv:bootBuiltins x=some (.type T)) (ha:Sd (PA X (e::es) t)) (hn:x ≠ "__name__" := by decide) (hdb:(x == ("__debug__" : Str))=false:=by decide)
  (he:starEach (e::es) X.env=(false,eval e X.env)::starEach es X.env:=by rfl) (hpl:(backTo pos (starEach es X.env)).any (·.1)=false:=by rfl):Sd (PE X (.Call (.Name x p) (e::es) [] pos) (tCB r t)):=⟨zBR hc hg hm hv ha.un hn hdb he hpl⟩
end
def rIsiQ (K:W.Frag):List V->Hp->VK->Prop:=λ xs H Q=>∃(a:Addr) (ys:List V) (T:String) (b:Bool),xs=[.ref a,.ty T]/\SqT K H a ys/\W.kitOne K (.type "tuple") (.type T)=some b/\Q (.bl b) H
theorem zIU {X:Cx}:CallR X (.builtin "isinstance") (rIsiQ X.K):=by
 intro jP s σ H xs us Q I r h;obtain⟨a,ys,T,b,rfl,ha,e,q⟩:=h;obtain⟨u,w',rfl,ru,rw'⟩:=vals2 r;cases ru;cases rw';obtain⟨its,rv,⟨o,h1,h2,_⟩,_⟩:=I.tuple ha;exact W.kia_one W.kitx_tuple I.kIn ⟨o,h1,h2⟩ e (λ z=>nomatch z) λ tk=>⟨.bl b,H,I.tok tk,rfl,q⟩
theorem zJL (ns:List Int) (lo hi:Option Int):∃ms:List Int,cutV (ns.map V.int) lo hi=ms.map V.int:=by
 unfold cutV;rw[←List.map_drop,←List.map_take];exact⟨_,rfl⟩
theorem zFZ {S:Str->Prop}:∀{t:Tr},SmT S t->t.size+1<=2 * lvT t
 |.num _,_=>by simp[Tr.size,lvT]
 |.gap _ _,_=>by simp[Tr.size,lvT]
 |.bin _ a b,h=>by
  have:=zFZ h.2.1;have:=zFZ h.2.2;simp only[Tr.size,lvT];omega
theorem zF7 {K:W.Frag}{H H':Hp}{a:Addr}{xs:List V}(g:Same H H') (h:SqL K H a xs):SqL K H' a xs:=by
 rcases h with (h|⟨o,h⟩)|h
 ·exact .inl (.inl (g _ _ h))
 ·exact .inl (.inr ⟨o,g _ _ h⟩)
 ·exact .inr h
noncomputable def wrS (b:Bool) (t:Tr):Tr:=if b=true then .say t else t
theorem zDp {S:Str->Prop}(b:Bool) {t:Tr}(h:SmT S t):bodyT (wrS b t)=t:=by
 cases b
 ·cases t<;>first|rfl|exact h.elim
 ·rfl
theorem zGL {S:Str->Prop}(b:Bool) {t:Tr}(h:SmT S t):isSay (wrS b t)=b:=by
 cases b
 ·cases t<;>first|rfl|exact h.elim
 ·rfl
theorem zHa {H:Hp}{kvs:List (Key × V)}{t:Tr}{v:V}(b:Bool) (h:SmT (kIn (zA3 [] kvs)) t) (r:Rep H (wrS b t) v) (l:lvT t<=10):Sid H kvs (wrS b t) v:=by
 refine⟨r,?_,by rw[zDp b h];exact l,?_⟩
 ·cases b
  ·exact .inl h
  ·exact .inr ⟨t,rfl,h⟩
 ·have:=zFZ h
  cases b
  ·show t.size<=100
   omega
  ·show t.size+1<=100
   omega
noncomputable def pairD (x y:Str):Dt:=.tup [.str x,.str y]
theorem zGT {H:Hp}:∀{ds:List Dt}{zs:List V},DRs H ds zs->(∀d∈ds,∃x y,d=pairD x y)->∃kvs:List (Key × V),Paired (PrV H) zs kvs/\kvs.length=ds.length/\∀x y,pairD x y∈ds->((Sum.inr x:Key),V.str y)∈kvs
 |_,_,.nil,_=>⟨[],.nil,rfl,λ U U h=>nomatch h⟩
 |_,_,.cons r t,h=>by
  obtain⟨kvs,p,l,m⟩:=zGT t λ d hd=>h d (lO _ hd);obtain⟨x,y,rfl⟩:=h _ lN;cases r with
  |tup ha rs =>
   cases rs with
   |cons r1 rs=>cases rs with
    |cons r2 rs =>
     cases rs;cases r1;cases r2;refine⟨((Sum.inr x:Key),.str y)::kvs,.cons ⟨_,rfl,ha⟩ p,by simp[l],λ x' y' hm=>?_⟩;rcases lM.mp hm with e|e
     ·injection e with e
      injection e with e1 e2
      injection e2 with e2 _
      injection e1 with e1
      injection e2 with e2
      subst e1 e2;exact lN
     ·exact lO _ (m x' y' e)
theorem zIC {kvs:List (Key × V)}{x:Str}{v:V}(h:((Sum.inr x:Key),v)∈kvs):kIn (zA3 [] kvs) x:=by
 unfold kIn;rw[zDx]
 have:(valV kvs.reverse (Sum.inr x:Key)).isSome=true:=by
  rw[←zBy];exact List.any_eq_true.mpr ⟨_,List.mem_reverse.mpr h,by simp⟩
 cases z:valV kvs.reverse (Sum.inr x:Key) with
 |none=>rw[z] at this;cases this
 |some u=>rfl
theorem zIu {ds:List Dt}(h:∀d∈ds,∃x y,d=pairD x y) (l:ds.length<=1000):SrtOk ds :=
 ⟨.inl λ d hd=>by obtain⟨x,y,rfl⟩:=h d hd;exact⟨x,_,rfl⟩,λ d hd e he=>by
  obtain⟨x,y,rfl⟩:=h d hd;obtain⟨x',y',rfl⟩:=h e he;exact zEE (.two .str .str) rfl rfl,zCQ λ d hd=>by obtain⟨x,y,rfl⟩:=h d hd;simp[pairD,Dt.deep,Dt.deeps],l⟩
theorem zKo (z:Int):∃y:Str,atI [V.str "quiet", .str "number"] (z % 2)=some (.str y):=by
 have h:z % 2=0\/z % 2=1:=by omega
 rcases h with h|h<;>rw[h]
 ·exact⟨_,rfl⟩
 ·exact⟨_,rfl⟩
end L2
namespace K41
open PySem PySem.Spec L2 PyProof.Rows
section
variable {P:Program}{w:World}{K:W.Frag}{mg:Str->Option Value}{base:Heap}{k n:Nat}{B C f fB g g1 g2 g3 g4 g5 lv sa sm:Addr}{fd gd gd1 gd2 gd3 gd4 gd5 gdB:FuncData}
def top (i:Nat):Stmt:=PySem.Challenge.pw_recastle_k41_sums_have_papers.main.body.getD i (.Pass ⟨0,0,0,0⟩)
abbrev zDS:Stmt:=top 9
theorem zGn:zAR ["number"] ["number"] (zAH zDS):=scI
abbrev zEU:Stmt:=top 11
theorem zCA:zAR ["rows", "many_of", "product", "many", "found"] ["rows"] (zAH zEU):=scI
abbrev zHe:Stmt:=top 12
theorem zJz:zAR ["one", "other"] ["one", "other"] (zAH zHe):=scI
abbrev zFd:Stmt:=top 13
theorem zIh:zAR ["one", "other"] ["one", "other"] (zAH zFd):=scI
abbrev zFa:Stmt:=top 14
theorem zCN:zAR ["one", "other", "rows", "mine", "my_many", "its", "its_many"] ["one", "other"] (zAH zFa):=scI
def zDz:Sp:=λ vs H Q U=>∃n:Int,vs=[.int n]/\Q (.int (n % NN)) H
theorem zGt (F:Fun K "wrapped" "wrapped" zDS f fd):FnOk P w K mg base CX0 (k+1) f fd ["number"] zDz:=by
 refine F.ok zGn (λ vs H Q E h=>?_) (λ cdv A outer s H vs Q E hr h=>?_)
 ·obtain⟨n,rfl,_⟩:=h
  rfl
 obtain⟨n,rfl,q⟩:=h;refine⟨_,(zAF (zAY (pe_op zBI (pv 0) (pe_op zHq zAE zAE)))),?_⟩;exact⟨_,rfl,_,_,rfl,rfl,⟨by decide,by decide,by decide⟩,_,_,rfl,rfl,(show (0:Int)<10 ^ 30 by decide),q⟩
def zCj:Sp:=λ vs H Q U=>E4 λ(a:Addr) (us:List V) (rows:Rws) (n:Nat)=>A6 (vs=[.ref a]) (H a=some (.tup us)\/H a=some (.lst us)) (DRs H (rows.map rowD) us) (ROk n rows) (rows.length<=500) (∀(v:V) (res:Rws) (H':Hp),Same H H'->Can res->Eqv res rows->ROk n res->res.length<=rows.length->DR H' (sumD res) v->Q v H')
theorem zHv (F:Fun K "summed" "summed" zEU f fd) (z_sorted:mg "sorted" = none) (z_tuple:mg "tuple" = none) (zLl:FnB P w K mg base k "wrapped" g1 gd1 ["number"] zDz):FnOk P w K mg base CX0 (k+1) f fd ["rows"] zCj:=by
 refine F.ok zCA (λ vs H Q E h=>?_) (λ cdv A outer s H vs Q E hr h=>?_)
 ·obtain⟨a,us,rows,n,rfl,_⟩:=h
  rfl
 obtain⟨a,us,rows,n,rfl,ha,hus,hR,hlen,q⟩:=h;have hu:=hu_of hr;have hu5:=hu150 hr;have hul:us.length=rows.length:=by rw[←hus.length];simp
 obtain⟨t,ht⟩:∃t,∀H',Same H H'->SqE K H' a t us:=by
  rcases ha with ha|ha
  ·exact⟨true,λ H' g=>SqT.of (g _ _ ha)⟩
  ·exact⟨false,λ H' g=>SqL.of (g _ _ ha)⟩
 refine⟨_,(zAG (zD5 (i:=1) zCA.nd rfl (Or.inr rfl) zDJ)
  (zAG (zCV PassesOwn.never rfl (zLM (pv 0)) (zD8 rfl (zAs (pGn (i:=2) zCA.nd) (zAs (pGn (i:=3) zCA.nd) zCI))) (zAF (zKE hu5 (pv 1) (pv 2) (pe_op zDB (zIr hu5 (pv 1) (pv 2) zAE ⟨rfl,rfl,rfl,rfl⟩) (pv 3)) rfl)))
  (zAG (zIn (jj:=4) ["product", "many_of"] [none,some 1] rfl (zDY (zBW (zFM rfl hu5) (by rfl) z_sorted PyProof.Rows.boot_sorted (zAB (pv 1) zAD))) (λ U U U U U=>(zBD (i:=0) (show List.Nodup (["product", "many_of"]:List Str) by right) rfl (Or.inl rfl))) (λ U U U U U=>zCe) (λ U U U U U=>(zAi (zAB (pv 0) (zAB (pe_cl zLl hr (zAB (zKM hu5 (pv 1) (pv 0) (λ U U=>rfl):PE _ _ (tNGet P w _ _)) zAD)) zAD)):PE _ _ _)) rfl zCA.nd rfl (Or.inl rfl) (Or.inr rfl))
  (zAF (zAY (zBR zBZ (by rfl) z_tuple rR (zAB (zB3 ["product", "many"] [none,none] rfl (zDY (pv 4)) (λ U U U U U=>(zFi (K:=K) (n:=2) rfl rfl (zAs (zBD (i:=0) (show List.Nodup (["product", "many"]:List Str) by right) rfl (Or.inl rfl)) (zAs (zBD (i:=1) (show List.Nodup (["product", "many"]:List Str) by right) rfl (Or.inl rfl)) zCI)))) (λ U U U U U=>(zKB (zAN op_ne (pv 1) zAE (zAU _)))) (λ U U U U U=>(zAi (zAB (pv 0) (zAB (pv 1) zAD)):PE _ _ _)) rfl) zAD))))))),?_⟩
 intro d hd;have g0:=zAC (o:=.dK []) hd;refine⟨a,t,us,rfl,ht _ g0,?_⟩;refine zKv (xs:=us) (λ i σ' H'=>E3 λ(kvs:List (Dt × V)) (s2 s3:Option V)=>A4 (σ'=[some (.ref a),some (.ref d),s2,s3,none]) (Same H H') (DicP P w H' d kvs) (GdR (rows.take i) kvs)) ?_ ?_ ?_ ?_
 ·exact⟨[],none,none,rfl,g0,.inr ⟨zAA,rfl⟩,⟨λ p=>by simp[valV],by simp⟩⟩
 ·rintro i σ' H' _ ⟨kvs,s2,s3,rfl,g,_,_⟩
  exact ht H' g
 ·rintro i x σ' H' hx ⟨kvs,s2,s3,rfl,g,dp,gd⟩
  obtain⟨dd,ed,rd⟩:=hus.get hx;rw[mH] at ed;obtain⟨r,er,rfl⟩:=lT.mp ed;obtain⟨b,u,rfl,hb,ru⟩:=zDU (rd.mono g.tk);have ky:=(hR r (lL er)).ref ru;have hl1:=gd.len;have hl2:(rows.take i).length<=rows.length:=by rw[mO];omega
  refine⟨b,[u,.int r.2],rfl,SqT.of hb,rfl,_,_,rfl,_,_,rfl,rfl,?_⟩;refine⟨_,rfl,d,kvs,rfl,dp.e,_,rfl,r.1,kvs,dp.e,ky,_,rfl,_,_,gd.get r.1,rfl,_,rfl,_,rfl,d,r.1,kvs,rfl,dp,by omega,ky,λ o dn tk=>?_⟩;exact⟨_,_,_,rfl,zAp g hd,.inl dn,by rw[zBA er];exact gd.put r.1 r.2⟩
 ·rintro σ' H' ⟨kvs,s2,s3,rfl,g,dp,gd⟩
  rw[mV (by omega)] at gd;have hl1:=gd.len
  have kp:∀p∈kvs.map (·.1),POk n p:=λ p hp=>by
   obtain⟨r,hr,rfl⟩:=mG.mp ((gd.keys p).mp hp);exact hR r hr
  refine⟨_,rfl,d,kvs,rfl,dp.e,zEx kp (by simp;omega),λ l ws hl nd dws=>⟨l,rfl,⟨ws,SqL.of zAA⟩,λ acc hacc=>?_⟩⟩;have gl:=zAC (o:=.lst ws) hl
  have ndl:d≠l:=λ z=>by
   rcases dp with ⟨xs,_,e,_⟩|⟨e,_⟩
   ·rw[z,hl] at e;cases e
   ·rw[z,hl] at e;cases e
  have de1:DicE P w (upd H' l (.lst ws)) d kvs:=dp.e.mono gl.tk (zAJ ndl);have hls:(sortD (kvs.map (·.1))).length=kvs.length:=by rw[(zAV _).length_eq,lC]
  have el:=@zAA H' l (.lst ws);have wl:ws.length=kvs.length:=by rw[←dws.length];exact hls
  have ksm:∀p,p∈sortD (kvs.map (·.1))↔p∈rows.map (·.1):=λ p=>by rw[(zAV _).mem_iff,gd.keys]
  have eres:resR (kvs.map (·.1)) (tot rows)=((sortD (kvs.map (·.1))).map λ p=>(p,tot rows p % NN)).filter λ r=>r.2 != 0:=rfl;have rc:=zJ7 (g:=tot rows) nd;have re:=zJ6 (ks:=kvs.map (·.1)) (rows:=rows) nd λ r hr=>(gd.keys _).mpr (mG.mpr ⟨r,hr,rfl⟩);have rl:=zJ5 (ks:=kvs.map (·.1)) (g:=tot rows);have rk:ROk n (resR (kvs.map (·.1)) (tot rows)):=λ r hr=>kp _ (zJ4 r hr);rw[lC] at rl;rw[eres] at rc re rl rk;generalize upd H' l _=H1 at gl hacc de1 el ⊢;generalize sortD (kvs.map (·.1))=ks at dws hls ksm rc re rl rk;refine zCR (xs:=ws) (λ i H2=>Same H1 H2/\∃zs,H2 acc=some (.lst zs)/\DRs H2 (((ks.take i).map λ p=>(p,tot rows p % NN)).map rowD) zs) ⟨zAC hacc,[],zAA,.nil⟩ (λ i H2 U h=>SqL.of (h.1 _ _ el)) ?_ ?_
  ·rintro i x H2 hx ⟨g2,zs,ez,dz⟩
   obtain⟨p,ep,rp⟩:=dws.get hx;have hi:i<ws.length:=(lJ.mp hx).1;have rp2:=rp.mono (gl.tk.trans g2.tk);have pm:=lL ep;have hpr:=(ksm p).mp pm;have hv:valV kvs p=some (.int (tot rows p)):=by rw[gd.val p,if_pos hpr]
   have pok:POk n p:=by
    obtain⟨r,hr,rfl⟩:=mG.mp hpr;exact hR r hr
   have ky:=pok.ref rp2;have lz:=dz.length;simp only[lC,mO] at lz
   have ed2:H2 d=H1 d:=by
    rcases de1 with ⟨xs,_,e,_⟩|⟨e,_⟩
    ·rcases e with e|⟨o,e⟩
     ·rw[e];exact g2 _ _ e
     ·rw[e];exact g2 _ _ e
    ·rw[e];exact g2 _ _ e
   refine⟨.skip (.keep .nil),?_⟩;refine⟨_,rfl,_,rfl,_,rfl,d,p,_,kvs,rfl,(de1.mono g2.tk ed2).r hv,ky,hv,_,rfl,(by show 2<=sizeLine;decide),λ tp htp=>?_⟩;have nat:tp≠acc:=Ne.symm (zAI ez htp);have g3:=zAC (o:=.tup [x,.int (tot rows p % NN)]) htp;refine⟨zs,g3 _ _ ez,zAS (by omega),zAp (g2.trans g3) hacc,zs++[.ref tp],zAA,?_⟩;have tk4:Tk (upd H2 tp (.tup [x,.int (tot rows p % NN)])) (upd (upd H2 tp (.tup [x,.int (tot rows p % NN)])) acc (.lst (zs++[.ref tp]))):=Tk.lst (g3 _ _ ez);rw[zBA ep,mQ,mQ];exact(dz.mono (g3.tk.trans tk4)).app (.cons ((DR.tup (a:=tp) zAA (.cons (rp2.mono g3.tk) (.cons (.int _) .nil))).mono tk4) .nil)
  ·rintro H3 ⟨g3,zs,ez,dz⟩
   rw[mV (by omega)] at dz;have lz:=dz.length;simp only[lC] at lz;refine⟨_,rfl,acc,rfl,⟨zs,SqL.of ez⟩,λ acc2 hacc2=>?_⟩;generalize hrs:(ks.map λ p=>(p,tot rows p % NN))=rs at dz rc re rl rk;have lrs:rs.length=ks.length:=by rw[←hrs,lC]
   refine zCR (xs:=zs) (λ i H4=>Same H3 H4/\∃ys,H4 acc2=some (.lst ys)/\DRs H4 (((rs.take i).filter λ r=>r.2 != 0).map rowD) ys) ⟨zAC hacc2,[],zAA,.nil⟩ (λ i H4 U h=>SqL.of (h.1 _ _ ez)) ?_ ?_
   ·rintro i x H4 hx ⟨g4,ys,ey,dy⟩
    obtain⟨dd,ed,rd⟩:=dz.get hx;rw[mH] at ed;obtain⟨r,er,rfl⟩:=lT.mp ed;obtain⟨b,u,rfl,hb,ru⟩:=zDU (rd.mono g4.tk);have hi:i<zs.length:=(lJ.mp hx).1;have ly:=dy.length;rw[lC] at ly;have lf:((rs.take i).filter λ r=>r.2 != 0).length<=i:=mK (List.length_filter_le _ _) (by rw[mO];omega);refine⟨b,_,rfl,SqT.of hb,rfl,_,_,rfl,_,_,rfl,rfl,.skip (.skip .nil),?_⟩;refine⟨_,rfl,rfl,_,rfl,ite2 (λ c=>?_) (λ c=>?_)⟩
    ·have c':(r.2 != 0)=true:=by
      have:¬(V.int r.2=V.int 0):=by simpa using c
      have:r.2≠0:=λ z=>this (by rw[z]);simpa using this
     refine⟨_,rfl,_,rfl,(by show 2<=sizeLine;decide),λ tp htp=>?_⟩;have g5:=zAC (o:=.tup [u,.int r.2]) htp;refine⟨ys,g5 _ _ ey,zAS (by omega),zAp (g4.trans g5) hacc2,ys++[.ref tp],zAA,?_⟩;have tk6:Tk (upd H4 tp (.tup [u,.int r.2])) (upd (upd H4 tp (.tup [u,.int r.2])) acc2 (.lst (ys++[.ref tp]))):=Tk.lst (g5 _ _ ey);rw[zBA er,List.filter_append,mQ,List.filter_cons,if_pos c',List.filter_nil];exact(dy.mono (g5.tk.trans tk6)).app (.cons ((DR.tup (a:=tp) zAA (.cons (ru.mono g5.tk) (.cons (.int _) .nil))).mono tk6) .nil)
    ·have c':¬(r.2 != 0)=true:=by
      have:V.int r.2=V.int 0:=by simpa using c
      have:r.2=0:=by injection this
      simp[this]
     refine⟨g4,ys,ey,?_⟩;rw[zBA er,List.filter_append,List.filter_cons,if_neg c',List.filter_nil,nV];exact dy
   ·rintro H5 ⟨g5,ys,ey,dy⟩
    rw[mV (by omega)] at dy;refine⟨acc2,ys,rfl,.inl ⟨SqL.of ey,λ l2 hl2=>?_⟩⟩;have g6:=zAC (o:=.tup ys) hl2;exact q _ _ _ (g.trans (gl.trans (g3.trans (g5.trans g6)))) rc re rk (by omega) (.tup zAA (dy.mono g6.tk))
def sp_op (op:Rws->Rws->Rws) (mn:Nat->Nat->Nat) (n:Nat):Sp:=λ vs H Q U=>E6 λ(v1 v2:V) (a b:Rws) (n1 n2:Nat)=>A8 (vs=[v1,v2]) (SumA H n1 a v1) (SumA H n2 b v2) (n1<=100) (n2<=100) (a.length<=n) (b.length<=n) (∀(v:V) (res:Rws) (H':Hp),Same H H'->SumA H' (mn n1 n2) res v->Eqv res (op a b)->res.length<=(op a b).length->Q v H')
noncomputable def opP (a b:Rws):Rws:=a++b
noncomputable def opM (a b:Rws):Rws:=a++negR b
theorem zKe (F:Fun K "plus" "plus" zHe f fd) (zLm:FnB P w K mg base k "summed" g1 gd1 ["rows"] zCj):FnOk P w K mg base CX0 (k+1) f fd ["one", "other"] (sp_op opP max 200):=by
 refine F.ok zJz (λ vs H Q E h=>?_) (λ cdv A outer s H vs Q E hr h=>?_)
 ·obtain⟨v1,v2,a,b,n1,n2,rfl,_⟩:=h
  rfl
 obtain⟨v1,v2,a,b,n1,n2,rfl,h1,h2,hn1,hn2,l1,l2,q⟩:=h;refine⟨_,(zAF (zAY (pe_cl zLm hr (zAB (pe_op zFj (pv 0) (pv 1)) zAD)))),?_⟩;obtain⟨p1,us1,rfl,e1,d1⟩:=h1.at;obtain⟨p2,us2,rfl,e2,d2⟩:=h2.at;have z1:=d1.length;have z2:=d2.length;rw[lC] at z1 z2;refine⟨_,rfl,_,rfl,p1,p2,us1,us2,rfl,rfl,e1,e2,zBm (by omega),λ p H' g e=>?_⟩;refine⟨p,us1++us2,a++b,max n1 n2,rfl,.inl e,by rw[mQ];exact(d1.mono g.tk).app (d2.mono g.tk),(h1.ok.up (Nat.le_max_left _ _)).app (h2.ok.up (Nat.le_max_right _ _)),by rw[mL];omega,λ v res H2 g2 c eq ok ln dr=>?_⟩;exact q v res H2 (g.trans g2) ⟨dr,ok,c⟩ eq ln
theorem zI3 (F:Fun K "minus" "minus" zFd f fd) (z_tuple:mg "tuple" = none) (zLm:FnB P w K mg base k "summed" g1 gd1 ["rows"] zCj):FnOk P w K mg base CX0 (k+1) f fd ["one", "other"] (sp_op opM max 200):=by
 refine F.ok zIh (λ vs H Q E h=>?_) (λ cdv A outer s H vs Q E hr h=>?_)
 ·obtain⟨v1,v2,a,b,n1,n2,rfl,_⟩:=h
  rfl
 obtain⟨v1,v2,a,b,n1,n2,rfl,h1,h2,hn1,hn2,l1,l2,q⟩:=h;refine⟨_,(zAF (zAY (pe_cl zLm hr (zAB (pe_op zFj (pv 0) (zBR zBZ (by rfl) z_tuple rR (zAB (zB3 ["product", "many"] [none,none] rfl (zCo (pv 1)) (λ U U U U U=>(zFi (K:=K) (n:=2) rfl rfl (zAs (zBD (i:=0) (show List.Nodup (["product", "many"]:List Str) by right) rfl (Or.inl rfl)) (zAs (zBD (i:=1) (show List.Nodup (["product", "many"]:List Str) by right) rfl (Or.inl rfl)) zCI)))) (λ U U U U U=>zCe) (λ U U U U U=>(zAi (zAB (pv 0) (zAB (pe_op zEB zAE (pv 1)) zAD)):PE _ _ _)) rfl) zAD))) zAD)))),?_⟩;obtain⟨p1,us1,rfl,e1,d1⟩:=h1.at;obtain⟨p2,us2,rfl,e2,d2⟩:=h2.at;have z1:=d1.length;have z2:=d2.length;rw[lC] at z1 z2;refine⟨_,rfl,_,rfl,p2,rfl,⟨us2,SqT.of e2⟩,λ acc hacc=>?_⟩;refine zDn (xs:=us2) (λ i H2=>Same H H2/\∃zs,H2 acc=some (.lst zs)/\DRs H2 ((negR (b.take i)).map rowD) zs) ⟨zAC hacc,[],zAA,.nil⟩ (λ i H2 U h=>SqT.of (h.1 _ _ e2)) ?_ ?_
 ·rintro i x H2 hx ⟨g2,zs,ez,dz⟩
  obtain⟨dd,ed,rd⟩:=d2.get hx;rw[mH] at ed;obtain⟨r,er,rfl⟩:=lT.mp ed;obtain⟨pb,u,rfl,hb,ru⟩:=zDU (rd.mono g2.tk);have hi:i<us2.length:=(lJ.mp hx).1;have lz:=dz.length;simp only[lC,negR,mO] at lz;refine⟨pb,_,rfl,SqT.of hb,rfl,_,_,rfl,_,_,rfl,rfl,.skip (.skip .nil),?_⟩;refine⟨_,rfl,_,rfl,_,_,rfl,rfl,(by show 2<=sizeLine;decide),λ tp htp=>?_⟩;have g5:=zAC (o:=.tup [u,.int (0 - r.2)]) htp;refine⟨zs,g5 _ _ ez,zAS (by omega),zAp (g2.trans g5) hacc,zs++[.ref tp],zAA,?_⟩;have tk6:Tk (upd H2 tp (.tup [u,.int (0 - r.2)])) (upd (upd H2 tp (.tup [u,.int (0 - r.2)])) acc (.lst (zs++[.ref tp]))):=Tk.lst (g5 _ _ ez);rw[zI8 er,mQ];exact(dz.mono (g5.tk.trans tk6)).app (.cons ((DR.tup (a:=tp) zAA (.cons (ru.mono g5.tk) (.cons (.int _) .nil))).mono tk6) .nil)
 ·rintro H3 ⟨g3,zs,ez,dz⟩
  rw[mV (by omega)] at dz;have lz:=dz.length;simp only[lC,negR] at lz;refine⟨acc,zs,rfl,.inl ⟨SqL.of ez,λ l2 hl2=>?_⟩⟩;have g4:=zAC (o:=.tup zs) hl2;refine⟨p1,l2,us1,zs,rfl,rfl,(g3.trans g4) _ _ e1,zAA,zBm (by omega),λ p H' g e=>?_⟩;refine⟨p,us1++zs,a++negR b,max n1 n2,rfl,.inl e,by rw[mQ];exact(d1.mono (g3.trans (g4.trans g)).tk).app (dz.mono (g4.trans g).tk),(h1.ok.up (Nat.le_max_left _ _)).app (h2.ok.up (Nat.le_max_right _ _)).neg,by rw[mL];simp only[negR,lC];omega,λ v res H2 g2 c eq ok ln dr=>?_⟩;exact q v res H2 (g3.trans (g4.trans (g.trans g2))) ⟨dr,ok,c⟩ eq ln
def zF9:Sp:=λ vs H Q U=>E6 λ(v1 v2:V) (a b:Rws) (n1 n2:Nat)=>A7 (vs=[v1,v2]) (SumA H n1 a v1) (SumA H n2 b v2) (n1<=100) (n2<=100) (a.length * b.length<=400) (∀(v:V) (res:Rws) (H':Hp),Same H H'->SumA H' (n1+n2) res v->Eqv res (mulR a b)->res.length<=(mulR a b).length->Q v H')
theorem zIw (F:Fun K "times" "times" zFa f fd) (z_sorted:mg "sorted" = none) (z_tuple:mg "tuple" = none) (zLm:FnB P w K mg base k "summed" g1 gd1 ["rows"] zCj):FnOk P w K mg base CX0 (k+1) f fd ["one", "other"] zF9:=by
 refine F.ok zCN (λ vs H Q E h=>?_) (λ cdv A outer s H vs Q E hr h=>?_)
 ·obtain⟨v1,v2,a,b,n1,n2,rfl,_⟩:=h
  rfl
 obtain⟨v1,v2,a,b,n1,n2,rfl,h1,h2,hn1,hn2,l1,q⟩:=h;have hu5:=hu150 hr
 refine⟨_,(zAG (pS (i:=2) zCN.nd (zBQ zAD:PE _ _ _))
  (zAG (zCV PassesOwn.never rfl (zCo (pv 0)) (zD8 rfl (zAs (pGn (i:=3) zCN.nd) (zAs (pGn (i:=4) zCN.nd) zCI))) (zAF (zCV PassesOwn.never rfl (zCo (pv 1)) (zD8 rfl (zAs (pGn (i:=5) zCN.nd) (zAs (pGn (i:=6) zCN.nd) zCI))) (zAF (pAp (pv 2) (zAi (zAB (zBR zBZ (by rfl) z_tuple rR (zAB (zBW (zEl hu5) (by rfl) z_sorted PyProof.Rows.boot_sorted (zAB (pe_op zFj (pv 3) (pv 5)) zAD)) zAD)) (zAB (pe_op zKV (pv 4) (pv 6)) zAD)):PE _ _ _))))))
  (zAF (zAY (pe_cl zLm hr (zAB (pv 2) zAD)))))),?_⟩
 obtain⟨p1,us1,rfl,e1,d1⟩:=h1.at;obtain⟨p2,us2,rfl,e2,d2⟩:=h2.at;have z1:=d1.length;have z2:=d2.length;rw[lC] at z1 z2;refine⟨(by show 0<=sizeLine;decide),λ rw hrw=>?_⟩;have g0:=zAC (o:=.lst []) hrw;refine⟨_,rfl,p1,rfl,⟨us1,SqT.of (g0 _ _ e1)⟩,?_⟩;refine zC3 (xs:=us1) (λ i σ' H'=>E5 λ(zs:List V) (s3 s4 s5 s6:Option V)=>A4 (σ'=[some (.ref p1),some (.ref p2),some (.ref rw),s3,s4,s5,s6]) (Same H H') (H' rw=some (.lst zs)) (DRs H' ((mulR (a.take i) b).map rowD) zs)) ?_ ?_ ?_ ?_
 ·exact⟨[],none,none,none,none,rfl,g0,zAA,.nil⟩
 ·rintro i σ' H' _ ⟨zs,s3,s4,s5,s6,rfl,g,_⟩
  exact SqT.of (g _ _ e1)
 ·rintro i x σ' H1 hx ⟨zs,s3,s4,s5,s6,rfl,g,ez,dz⟩
  obtain⟨dd,ed,rd⟩:=d1.get hx;rw[mH] at ed;obtain⟨r,er,rfl⟩:=lT.mp ed;obtain⟨pb,u,rfl,hb,ru⟩:=zDU (rd.mono g.tk);have hi:i<us1.length:=(lJ.mp hx).1;have hra:=lL er;obtain⟨as,eas,las,has⟩:=h1.ok r hra;refine⟨pb,_,rfl,SqT.of hb,rfl,_,_,rfl,_,_,rfl,rfl,?_⟩;refine⟨_,rfl,p2,rfl,⟨us2,SqT.of (g _ _ e2)⟩,?_⟩
  have lzz:(mulR (a.take i) b).length+b.length<=400:=by
   rw[zEZ,mO,←Nat.succ_mul];exact mK (Nat.mul_le_mul_right _ (by omega)) l1
  refine zC3 (xs:=us2) (λ j σ' H'=>E3 λ(ys:List V) (s5 s6:Option V)=>A5 (σ'=[some (.ref p1),some (.ref p2),some (.ref rw),some u,some (.int r.2),s5,s6]) (Same H H') (H' rw=some (.lst ys)) (DRs H' ((mulR (a.take i) b++(b.take j).map λ q=>(mulD r.1 q.1,r.2 * q.2)).map rowD) ys) (DR H' r.1 u)) ?_ ?_ ?_ ?_
  ·exact⟨zs,_,_,rfl,g,ez,by simpa using dz,ru⟩
  ·rintro j σ' H' _ ⟨ys,s5,s6,rfl,g',_⟩
   exact SqT.of (g' _ _ e2)
  ·rintro j y σ' H2 hy ⟨ys,s5,s6,rfl,g2,ey,dy,ru2⟩
   obtain⟨dd,ed,rd2⟩:=d2.get hy;rw[mH] at ed;obtain⟨t,et,rfl⟩:=lT.mp ed;obtain⟨qb,x2,rfl,hqb,rx2⟩:=zDU (rd2.mono g2.tk);have hj:j<us2.length:=(lJ.mp hy).1;have htb:=lL et;obtain⟨bs,ebs,lbs,hbs⟩:=h2.ok t htb;have ly:=dy.length;simp only[lC,mL,mO] at ly;rw[eas] at ru2;rw[ebs] at rx2
   obtain⟨ua,vs1,eu1,hua,dv1⟩:∃ua vs1,u = .ref ua/\H2 ua=some (.tup vs1)/\DRs H2 as vs1:=by
    cases ru2 with
    |tup q1 q2=>exact⟨_,_,rfl,q1,q2⟩
   obtain⟨ub,vs2,eu2,hub,dv2⟩:∃ub vs2,x2 = .ref ub/\H2 ub=some (.tup vs2)/\DRs H2 bs vs2:=by
    cases rx2 with
    |tup q1 q2=>exact⟨_,_,rfl,q1,q2⟩
   subst eu1 eu2;have y1:=dv1.length;have y2:=dv2.length;refine⟨qb,_,rfl,SqT.of hqb,rfl,_,_,rfl,_,_,rfl,rfl,?_⟩;refine⟨_,rfl,.inl ⟨rfl,_,SqL.of ey⟩,_,rfl,_,rfl,ua,ub,vs1,vs2,rfl,rfl,hua,hub,zBm (by omega),λ c1 H3 g3 ec1=>?_⟩;refine⟨c1,vs1++vs2,as++bs,rfl,ec1,(dv1.mono g3.tk).app (dv2.mono g3.tk),zEw (λ u hu=>(lK.mp hu).elim (has u) (hbs u)) (by rw[mL];omega),λ l' ws hl' dws=>?_⟩;have g4:=zAC (o:=.lst ws) hl';refine⟨l',ws,rfl,.inl ⟨SqL.of zAA,λ tp htp=>?_⟩⟩;have g5:=zAC (o:=.tup ws) htp;refine⟨_,rfl,_,rfl,_,_,rfl,rfl,⟨zJd (h1.can.2 r hra),zJd (h2.can.2 t htb)⟩,?_⟩;refine⟨(by show 2<=sizeLine;decide),λ tq htq=>?_⟩;have g6:=zAC (o:=.tup [.ref tp,.int (r.2 * t.2)]) htq;have gA:=g3.trans (g4.trans (g5.trans g6));have eyA:=gA _ _ ey;refine⟨rw,ys,_,rfl,rfl,eyA,zAS (by omega),?_⟩;have tkA:=Tk.lst (o:=.lst (ys++[.ref tq])) eyA;refine⟨_,_,_,rfl,zAp (g2.trans gA) hrw,zAA,?_,?_⟩
   ·have e8:(mulR (a.take i) b++(b.take (j+1)).map λ q=>(mulD r.1 q.1,r.2 * q.2)).map rowD=(mulR (a.take i) b++(b.take j).map λ q=>(mulD r.1 q.1,r.2 * q.2)).map rowD++[rowD (mulD r.1 t.1,r.2 * t.2)]:=by
     rw[zBA et];simp
    rw[e8];refine(dy.mono (gA.tk.trans tkA)).app (.cons ?_ .nil);show DR _ (rowD (mulD r.1 t.1,r.2 * t.2)) _;have e9:mulD r.1 t.1 = .tup (sortD (as++bs)):=by rw[eas,ebs];rfl
    rw[e9];exact DR.mono tkA (.tup zAA (.cons (.tup (g6 _ _ zAA) ((dws.mono g4.tk).mono (g5.trans g6).tk)) (.cons (.int _) .nil)))
   ·rw[eas]
    exact ru2.mono (gA.tk.trans tkA)
  ·rintro σ' H' ⟨ys,s5,s6,rfl,g',ey,dy,ru'⟩
   have e2:b.take us2.length=b:=mV (by omega);rw[e2] at dy;refine⟨ys,_,_,_,_,rfl,g',ey,?_⟩;rw[zBA er]
   have:mulR (a.take i++[r]) b=mulR (a.take i) b++b.map λ q=>(mulD r.1 q.1,r.2 * q.2):=by
    unfold mulR;rw[List.flatMap_append];simp
   rw[this];exact dy
 ·rintro σ' H' ⟨zs,s3,s4,s5,s6,rfl,g,ez,dz⟩
  rw[mV (by omega)] at dz;have lm:=zEZ a b;have lm2:=l1;refine⟨_,rfl,rw,zs,mulR a b,n1+n2,rfl,.inr ez,dz,h1.ok.mul h2.ok,by omega,λ v res H2 g2 c eq ok ln dr=>?_⟩;exact q v res H2 (g.trans g2) ⟨dr,ok,c⟩ eq ln
abbrev zEV:Stmt:=top 21
theorem zHd:zAR ["unknown"] ["unknown"] (zAH zEV):=scI
abbrev zCH:Stmt:=top 22
theorem zET:zAR ["number"] ["number"] (zAH zCH):=scI
abbrev zBz:Stmt:=top 23
theorem zBM:zAR ["told", "found", "product", "many"] ["told"] (zAH zBz):=scI
abbrev zBn:Stmt:=top 24
theorem zBc:zAR ["unknown", "inner", "told"] ["unknown"] (zAH zBn):=scI
def zGB:Sp:=λ vs H Q U=>E2 λ(v:V) (g:Str)=>A3 (vs=[v]) (DR H (unkD g) v) (∀(u:V) (H':Hp),Same H H'->SumA H' 1 [(.tup [unkD g],1)] u->Q u H')
theorem zIy (F:Fun K "sum_of" "sum_of" zEV f fd):FnOk P w K mg base CX0 (k+1) f fd ["unknown"] zGB:=by
 refine F.ok zHd (λ vs H Q E h=>?_) (λ cdv A outer s H vs Q E hr h=>?_)
 ·obtain⟨v,g,rfl,_⟩:=h
  rfl
 obtain⟨v,g,rfl,dv,q⟩:=h;refine⟨_,(zAF (zAY (zAi (zAB (zAi (zAB (zAi (zAB (pv 0) zAD):PE _ _ _) (zAB zAE zAD)):PE _ _ _) zAD):PE _ _ _))),?_⟩;refine⟨_,rfl,(by show 1<=sizeLine;decide),λ p1 h1=>⟨(by show 2<=sizeLine;decide),λ p2 h2=>⟨(by show 1<=sizeLine;decide),λ p3 h3=>?_⟩⟩⟩;have k1:=zAC (o:=.tup [v]) h1;have k2:=zAC (o:=.tup [.ref p1,.int 1]) h2;have k3:=zAC (o:=.tup [.ref p2]) h3;refine q _ _ (k1.trans (k2.trans k3)) ⟨?_,zJ3 g,zHs g⟩;exact .tup zAA (.cons (.tup (k3 _ _ zAA) (.cons (.tup ((k2.trans k3) _ _ zAA) (.cons (dv.mono (k1.trans (k2.trans k3)).tk) .nil)) (.cons (.int _) .nil))) .nil)
def zE0:Sp:=λ vs H Q U=>∃(n:Int),A4 (vs=[.int n]) (0<=n) (n<NN) (∀(u:V) (H':Hp),Same H H'->SumA H' 0 (polyT (.num n)) u->Q u H')
theorem zHx (F:Fun K "number_sum" "number_sum" zCH f fd):FnOk P w K mg base CX0 (k+1) f fd ["number"] zE0:=by
 refine F.ok zET (λ vs H Q E h=>?_) (λ cdv A outer s H vs Q E hr h=>?_)
 ·obtain⟨n,rfl,_⟩:=h
  rfl
 obtain⟨n,rfl,h0,h1,q⟩:=h;obtain⟨c1,c2⟩:=zFk h0 h1;refine⟨_,(zAF (zAY (zGS (zAN op_ne (pv 0) zAE (zAU _)) (zAi (zAB (zAi (zAB (zAi zAD:PE _ _ _) (zAB (pv 0) zAD)):PE _ _ _) zAD):PE _ _ _) (zAi zAD:PE _ _ _)))),?_⟩;refine⟨_,rfl,rfl,_,rfl,ite2 (λ c=>?_) (λ c=>?_)⟩
 ·have cn:n≠0:=λ z=>by subst z;simp at c
  have ep:polyT (.num n)=[(.tup [],n)]:=if_neg cn;refine⟨(by show 0<=sizeLine;decide),λ p1 h1=>⟨_,rfl,(by show 2<=sizeLine;decide),λ p2 h2=>⟨(by show 1<=sizeLine;decide),λ p3 h3=>?_⟩⟩⟩;have k1:=zAC (o:=.tup []) h1;have k2:=zAC (o:=.tup [.ref p1,.int n]) h2;have k3:=zAC (o:=.tup [.ref p2]) h3;refine q _ _ (k1.trans (k2.trans k3)) ⟨?_,c2,c1⟩;rw[ep];exact .tup zAA (.cons (.tup (k3 _ _ zAA) (.cons (.tup ((k2.trans k3) _ _ zAA) .nil) (.cons (.int _) .nil))) .nil)
 ·have cn:n=0:=by
   refine Classical.byContradiction λ z=>c ?_;simp[z]
  have ep:polyT (.num n)=[]:=if_pos cn;refine⟨(by show 0<=sizeLine;decide),λ p1 h1=>q _ _ (zAC h1) ⟨?_,c2,c1⟩⟩;rw[ep];exact .tup zAA .nil
def zFV:Sp:=λ vs H Q U=>E3 λ(v:V) (n:Nat) (a:Rws)=>A4 (vs=[v]) (SumA H n a v) (a.length * n<=1000) (∀(l:Addr) (us:List V) (H':Hp),Same H H'->H' l=some (.lst us)->DRs H' (unks a) us->Q (.ref l) H')
set_option tactic.hygienic true in
theorem zKa (F:Fun K "unknowns_in" "unknowns_in" zBz f fd):FnOk P w K mg base CX0 (k+1) f fd ["told"] zFV:=by
 refine F.ok zBM (λ vs H Q E h=>?_) (λ cdv A outer s H vs Q E hr h=>?_)
 ·obtain⟨v,n,a,rfl,_⟩:=h
  rfl
 obtain⟨v,n,a,rfl,hS,hb,q⟩:=h
 refine⟨_,(zAG (pS (i:=1) zBM.nd (zBQ zAD:PE _ _ _))
  (zAG (zCV PassesOwn.never rfl (zCo (pv 0)) (zD8 rfl (zAs (pGn (i:=2) zBM.nd) (zAs (pGn (i:=3) zBM.nd) zCI))) (zAF (zA4 (pe_bm rX PySem.F.slot_list_extend PySem.F.type_list_extend zGw (pv 1) (zAB (pv 2) zAD)))))
  (zAF (zAY (pv 1))))),?_⟩
 obtain⟨p,us,rfl,ep,du⟩:=hS.at;have lu:us.length=a.length:=by rw[←du.length,lC]
 refine⟨(by show 0<=sizeLine;decide),λ fl hfl=>?_⟩;have g0:=zAC (o:=.lst []) hfl;refine⟨_,rfl,p,rfl,⟨us,SqT.of (g0 _ _ ep)⟩,?_⟩;refine zC3 (xs:=us) (λ i σ' H'=>E3 λ(zs:List V) (s2 s3:Option V)=>A4 (σ'=[some (.ref p),some (.ref fl),s2,s3]) (Same H H') (H' fl=some (.lst zs)) (DRs H' (unks (a.take i)) zs)) ⟨[],none,none,rfl,g0,zAA,.nil⟩ ?_ ?_ ?_
 ·rintro i σ' H' _ ⟨zs,s2,s3,rfl,g,_⟩
  exact SqT.of (g _ _ ep)
 ·rintro i x σ' H' hx ⟨zs,s2,s3,rfl,g,ez,dz⟩
  obtain⟨dd,ed,rd⟩:=du.get hx;rw[mH] at ed;obtain⟨r,er,rfl⟩:=lT.mp ed;obtain⟨b,u,rfl,eb,ru⟩:=zDU (rd.mono g.tk);obtain⟨l,e1,ll,_⟩:=hS.ok r (lL er);have hlen:=zEJ (i:=i+1) hS.ok;rw[zEr er,mL,dz.length,e1] at hlen;rw[e1] at ru;cases ru with
  |tup hq rs =>
   rename_i q1 ws;have lw:=rs.length;have hlen2:zs.length+l.length<=a.length * n:=hlen;refine⟨b,[_,.int r.2],rfl,SqT.of eb,rfl,_,_,rfl,_,_,rfl,rfl,?_⟩;refine⟨_,rfl,.inl ⟨rfl,_,SqL.of ez⟩,_,rfl,fl,_,zs,ws,rfl,rfl,ez,SqT.of hq,zBm (by omega),zs++ws,_,_,rfl,zAp g hfl,zAA,?_⟩;rw[zEr er,e1];have tk:Tk H' (upd H' fl (.lst (zs++ws))):=Tk.lst ez;exact(dz.mono tk).app (rs.mono tk)
 ·rintro σ' H' ⟨zs,s2,s3,rfl,g,ez,dz⟩
  rw[mV (by omega)] at dz;exact⟨_,rfl,q fl zs H' g ez dz⟩
def sp_no:Sp:=λ U U U U=>False
theorem ok_no {k:Nat}{f:Addr}{fd:FuncData}{ps:List Str}:FnOk P w K mg base CX0 k f fd ps sp_no:=⟨λ vs H Q E h=>h.elim,λ A outer s H args us vs Q E U U U U h=>h.elim⟩
def zEy:Sp:=λ vs H Q U=>E2 λ(v:V) (g:Str)=>A3 (vs=[v]) (DR H (unkD g) v) (∀H',Same H H'->Q (.int 1) H')
set_option tactic.hygienic true in
theorem zHu (F:Fun K "within_count" "within_count" zBn f fd) (z_max:mg "max" = none) (zLn:FnB P w K mg base k "unknowns_in" g1 gd1 ["told"] zFV)
  (zLo:FnB P w K mg base k "within_count" g2 gd2 ["unknown"] sp_no):FnOk P w K mg base CX0 (k+1) f fd ["unknown"] zEy:=by
 refine F.ok zBc (λ vs H Q E h=>?_) (λ cdv A outer s H vs Q E hr h=>?_)
 ·obtain⟨v,g,rfl,_⟩:=h
  rfl
 obtain⟨v,g,rfl,dv,q⟩:=h
 refine⟨_,(zAG (pS (i:=1) zBc.nd (zBQ zAD:PE _ _ _))
  (zAG (zCV PassesOwn.never rfl (zCo (iC (r:=rIxT K) zAP (pv 0))) (pGn (i:=2) zBc.nd) (zAF (zA4 (pe_bm rX PySem.F.slot_list_extend PySem.F.type_list_extend zH3 (pv 1) (zAB (pe_cl zLn hr (zAB (pv 2) zAD)) zAD)))))
  (zAF (zAY (pe_op zDB zAE (zKN rfl (by rfl) z_max (zB3 ["each"] [none] rfl (zDY (pv 1)) (λ U U U U U=>(zBD (i:=0) (show List.Nodup (["each"]:List Str) by right) rfl (Or.inl rfl))) (λ U U U U U=>zCe) (λ U U U U U=>(pe_cl zLo hr (zAB (pv 0) zAD))) rfl) zAE)))))),?_⟩
 cases dv with
 |tup ha rs =>
  rename_i p us;cases rs with
  |cons r1 rs =>
   cases rs with
   |cons r2 rs =>
    cases rs;cases r2 with
    |tup hb rb =>
     rename_i v1 p2 us2;cases rb;refine⟨(by show 0<=sizeLine;decide),λ il hil=>?_⟩;have g0:=zAC (o:=.lst []) hil;refine⟨_,rfl,p,[v1,.ref p2],1,.ref p2,rfl,rfl,SqT.of (g0 _ _ ha),rfl,p2,rfl,⟨[],SqT.of (g0 _ _ hb)⟩,?_⟩;refine zC3 (xs:=[]) (λ i σ' H'=>σ'=[some (.ref p),some (.ref il),none]/\Same H H'/\H' il=some (.lst [])) ⟨rfl,g0,zAA⟩ ?_ ?_ ?_
     ·rintro i σ' H' _ ⟨rfl,g,_⟩
      exact SqT.of (g _ _ hb)
     ·rintro i x σ' H' hx _
      cases hx
     ·rintro σ' H' ⟨rfl,g,ei⟩
      refine⟨_,rfl,il,rfl,⟨[],SqL.of ei⟩,λ acc hacc=>?_⟩;refine zCR (xs:=[]) (λ i H2=>Same H' H2/\H2 acc=some (.lst [])) ⟨zAC hacc,zAA⟩ (λ i H2 U h=>SqL.of (h.1 _ _ ei)) ?_ ?_
      ·rintro i x H2 hx _
       cases hx
      ·rintro H2 ⟨k2,e2⟩
       exact⟨acc,_,rfl,rfl,e2,_,_,rfl,rfl,q _ (g.trans k2)⟩
abbrev zBq:Stmt:=top 25
theorem zDR:zAR ["told"] ["told"] (zAH zBq):=scI
abbrev zBp:Stmt:=top 26
theorem zDO:zAR ["sign", "one", "other"] ["sign", "one", "other"] (zAH zBp):=scI
def zGG:Sp:=λ vs H Q U=>E3 λ(v:V) (n:Nat) (a:Rws)=>A5 (vs=[v]) (SumA H n a v) (n<=10) (a.length<=36) (∀H',Same H H'->Q (.bl false) H')
set_option tactic.hygienic true in
theorem zI5 {k:Nat}{f g1 g2:Addr}{fd gd1 gd2:FuncData}{t1 t2 t3:Tok}(F:Fun K "is_too_great" "is_too_great" zBq f fd) (z_len:mg "len" = none) (z_any:mg "any" = none) (zLp:mg "MOST_PRODUCTS" = some (.int 40 t1)) (zLq:mg "MOST_FACTORS" = some (.int 40 t2)) (zLr:mg "MOST_WITHIN" = some (.int 4 t3))
  (zLn:FnB P w K mg base k "unknowns_in" g1 gd1 ["told"] zFV) (zLo:FnB P w K mg base k "within_count" g2 gd2 ["unknown"] zEy):FnOk P w K mg base CX0 (k+1) f fd ["told"] zGG:=by
 refine F.ok zDR (λ vs H Q E h=>?_) (λ cdv A outer s H vs Q E hr h=>?_)
 ·obtain⟨v,n,a,rfl,_⟩:=h
  rfl
 obtain⟨v,n,a,rfl,hS,hn,ha,q⟩:=h
 refine⟨_,(zAG (ps_if (zAN op_gt (zBW (r:=rLen1 K) zFN (by rfl) z_len PySem.boot_len (zAB (pv 0) zAD)) (zB2 (v:=.int 40) (by rfl) zLp ⟨_,rfl⟩) (zAU _)) (zAF (zAY pe_bl)) zAW)
  (zAG (ps_if (zGN (zBW (zFO rfl) (by rfl) z_any PyProof.Rows.boot_any (zAB (zB3 ["product", "many"] [none,none] rfl (zCo (pv 0)) (λ U U U U U=>(zFi (K:=K) (n:=2) rfl rfl (zAs (zBD (i:=0) (show List.Nodup (["product", "many"]:List Str) by right) rfl (Or.inl rfl)) (zAs (zBD (i:=1) (show List.Nodup (["product", "many"]:List Str) by right) rfl (Or.inl rfl)) zCI)))) (λ U U U U U=>zCe) (λ U U U U U=>(zDa op_gt (zBW (r:=rLen1 K) zFN (by rfl) z_len PySem.boot_len (zAB (pv 0) zAD)) (zB2 (v:=.int 40) (by rfl) zLq ⟨_,rfl⟩) (zAU _))) rfl) zAD))) (zAF (zAY pe_bl)) zAW)
  (zAF (zAY (zBW (zFO rfl) (by rfl) z_any PyProof.Rows.boot_any (zAB (zB3 ["unknown"] [none] rfl (zDY (pe_cl zLn hr (zAB (pv 0) zAD))) (λ U U U U U=>(zBD (i:=0) (show List.Nodup (["unknown"]:List Str) by right) rfl (Or.inl rfl))) (λ U U U U U=>zCe) (λ U U U U U=>(zDa op_gt (pe_cl zLo hr (zAB (pv 0) zAD)) (zB2 (v:=.int 4) (by rfl) zLr ⟨_,rfl⟩) (zAU _))) rfl) zAD)))))),?_⟩
 obtain⟨p,us,rfl,ep,du⟩:=hS.at;have lu:us.length=a.length:=by rw[←du.length,lC]
 refine⟨_,rfl,p,us,rfl,.inr (SqT.of ep),_,_,rfl,rfl,_,rfl,ite2 (λ c=>?_) (λ U=>?_)⟩
 ·exact absurd (lR c) (by omega)
 refine⟨_,rfl,p,rfl,⟨us,SqT.of ep⟩,λ acc hacc=>?_⟩;refine zDn (xs:=us) (λ i H2=>Same H H2/\H2 acc=some (.lst ((List.replicate i false).map V.bl))) ⟨zAC hacc,zAA⟩ (λ i H2 U h=>SqT.of (h.1 _ _ ep)) ?_ ?_
 ·rintro i x H2 hx ⟨g2,ez⟩
  obtain⟨dd,ed,rd⟩:=du.get hx;rw[mH] at ed;obtain⟨r,er,rfl⟩:=lT.mp ed;obtain⟨pb,u,rfl,hb,ru⟩:=zDU (rd.mono g2.tk);have hi:i<us.length:=(lJ.mp hx).1;obtain⟨l,e1,ll,_⟩:=hS.ok r (lL er);rw[e1] at ru;cases ru with
  |tup hq rs =>
   rename_i q1 ws;have lw:=rs.length;refine⟨pb,_,rfl,SqT.of hb,rfl,_,_,rfl,_,_,rfl,rfl,.skip (.skip .nil),?_⟩;refine⟨_,rfl,q1,ws,rfl,.inr (SqT.of hq),_,_,rfl,rfl,_,ez,zAS (by simp;omega),zAp g2 hacc,?_⟩;have e0:decide ((40:Int)<(ws.length:Int))=false:=decide_eq_false (by omega);rw[e0,zHz];exact zAA
 ·rintro H2 ⟨g2,ez⟩
  refine⟨acc,_,rfl,ez,_,rfl,ite2 (λ c=>absurd c (by rw[zJj];decide)) (λ U=>?_)⟩;have hm:a.length * n<=1000:=mK (Nat.mul_le_mul ha hn) (by decide);refine⟨_,rfl,.ref p,n,a,rfl,hS.mono g2.tk,hm,λ l vs H3 g3 el dl=>⟨l,rfl,⟨vs,SqL.of el⟩,λ ac2 hac2=>?_⟩⟩;have lv:=dl.length;have hul:=zEK hS.ok;refine zCR (xs:=vs) (λ i H4=>Same H3 H4/\H4 ac2=some (.lst ((List.replicate i false).map V.bl))) ⟨zAC hac2,zAA⟩ (λ i H4 U h=>SqL.of (h.1 _ _ el)) ?_ ?_
  ·rintro i x H4 hx ⟨g4,ez4⟩
   obtain⟨dd,ed,rd⟩:=dl.get hx;obtain⟨g,rfl⟩:=zJm hS.ok dd (lL ed);have hi:i<vs.length:=(lJ.mp hx).1;refine⟨.skip .nil,_,rfl,x,g,rfl,rd.mono g4.tk,λ H5 g5=>⟨_,_,rfl,rfl,_,g5 _ _ ez4,zAS (by simp;omega),zAp (g4.trans g5) hac2,?_⟩⟩;have e0:decide ((4:Int)<(1:Int))=false:=rfl;rw[e0,zHz];exact zAA
  ·rintro H4 ⟨g4,ez4⟩
   refine⟨ac2,_,rfl,ez4,?_⟩;rw[zJj];exact q _ (g2.trans (g3.trans g4))
def zHT:Sp:=λ vs H Q U=>E7 λ(o:Bin) (v1 v2:V) (t u:Tr) (a b:Rws)=>A8 (vs=[.str o.s,v1,v2]) (o = .add\/o = .sub\/o = .mul) (SumA H (lvT t) a v1) (SumA H (lvT u) b v2) (SmR t a) (SmR u b) (lvT t+lvT u<=10) (∀(v:V) (res:Rws) (H':Hp),Same H H'->SumA H' (lvT t+lvT u) res v->SmR (.bin o t u) res->Q v H')
theorem zKd (F:Fun K "reckoned_sum" "reckoned_sum" zBp f fd) (zLs:FnB P w K mg base k "plus" g1 gd1 ["one", "other"] (sp_op opP max 200)) (zLt:FnB P w K mg base k "minus" g2 gd2 ["one", "other"] (sp_op opM max 200))
  (zLu:FnB P w K mg base k "times" g3 gd3 ["one", "other"] zF9):FnOk P w K mg base CX0 (k+1) f fd ["sign", "one", "other"] zHT:=by
 refine F.ok zDO (λ vs H Q E h=>?_) (λ cdv A outer s H vs Q E hr h=>?_)
 ·obtain⟨o,v1,v2,t,u,a,b,rfl,_⟩:=h
  rfl
 obtain⟨o,v1,v2,t,u,a,b,rfl,ho,h1,h2,s1,s2,hl,q⟩:=h;have p1:=zH8 t;have p2:=zH8 u;obtain⟨b1,b2⟩:=zLR p1 p2 hl;have f1:=s1.few;have f2:=s2.few;have c1:=pB_le (lvT t) (by omega);have c2:=pB_le (lvT u) (by omega)
 refine⟨_,(zAG (ps_if (zAN op_eq (pv 0) zAL (zAU _)) (zAF (zAY (pe_cl zLs hr (zAB (pv 1) (zAB (pv 2) zAD))))) zAW)
  (zAG (ps_if (zAN op_eq (pv 0) zAL (zAU _)) (zAF (zAY (pe_cl zLt hr (zAB (pv 1) (zAB (pv 2) zAD))))) zAW)
  (zAF (zAY (pe_cl zLu hr (zAB (pv 1) (zAB (pv 2) zAD))))))),?_⟩
 have b3:a.length * b.length<=pB (lvT t+lvT u):=mK (Nat.mul_le_mul f1 f2) b2;have b4:=pB_le (lvT t+lvT u) (by omega);have mx:max (lvT t) (lvT u)<=lvT t+lvT u:=by omega
 rcases ho with rfl|rfl|rfl
 ·refine⟨_,rfl,rfl,_,rfl,ite2 (λ U=>?_) (λ c=>absurd (by rfl) c)⟩
  refine⟨_,rfl,_,rfl,v1,v2,a,b,lvT t,lvT u,rfl,h1,h2,by omega,by omega,by omega,by omega,λ v res H' g hs e l=>?_⟩;refine q v res H' g ⟨hs.dr,hs.ok.up mx,hs.can⟩ (s1.two s2 hs.can (Eqv.app s1.eqv s2.eqv) e l ?_ (hs.ok.up mx));rw[mL];omega
 ·refine⟨_,rfl,rfl,_,rfl,ite2 (λ c=>absurd c (by decide)) (λ U=>?_)⟩
  refine⟨_,rfl,rfl,_,rfl,ite2 (λ U=>?_) (λ c=>absurd (by rfl) c)⟩;refine⟨_,rfl,_,rfl,v1,v2,a,b,lvT t,lvT u,rfl,h1,h2,by omega,by omega,by omega,by omega,λ v res H' g hs e l=>?_⟩;refine q v res H' g ⟨hs.dr,hs.ok.up mx,hs.can⟩ (s1.two s2 hs.can (Eqv.app s1.eqv (Eqv.neg s2.eqv)) e l ?_ (hs.ok.up mx));unfold negR;rw[mL,lC];omega
 ·refine⟨_,rfl,rfl,_,rfl,ite2 (λ c=>absurd c (by decide)) (λ U=>?_)⟩
  refine⟨_,rfl,rfl,_,rfl,ite2 (λ c=>absurd c (by decide)) (λ U=>?_)⟩;refine⟨_,rfl,_,rfl,v1,v2,a,b,lvT t,lvT u,rfl,h1,h2,by omega,by omega,by omega,λ v res H' g hs e l=>?_⟩;exact q v res H' g hs (s1.two s2 hs.can (Eqv.mul s1.eqv s2.eqv) e l (by rw[zEZ];exact b3) hs.ok)
abbrev zCb:Stmt:=top 38
theorem zC7:zAR ["_law_tree", "_law_sign"] ["_law_tree"] (zAH zCb):=scI
def zGA:Sp:=λ vs H Q U=>E3 λ(v:V) (t:Tr) (S:Str->Prop)=>A4 (vs=[v]) (Rep H t v) (SmT S t) (∀(u:V) (H':Hp),Same H H'->Rep H' (thrT t) u->Q u H')
theorem zIx (F:Fun K "_law_three" "_law_three" zCb f fd):FnOk P w K mg base CX0 (k+1) f fd ["_law_tree"] zGA:=by
 refine F.ok zC7 (λ vs H Q E h=>?_) (λ cdv A outer s H vs Q E hr h=>?_)
 ·obtain⟨v,t,S,rfl,_⟩:=h
  rfl
 obtain⟨v,t,S,rfl,rt,st,q⟩:=h
 refine⟨_,(zAG (pS (i:=1) zC7.nd (iC (r:=rIxT K) zAP (pv 0)))
  (zAG (ps_if (zDV (zAN (r:=rIn K false) zBw (pv 1) (zBQ (zAB zAL (zAB zAL zAD)):PE _ _ _) rfl) (zCd (zAN op_eq (pe_ix (r:=rIxT K) zAP (iC (r:=rIxT K) zAP (pv 0)) zAE (λ U U=>rfl)) (pv 1) (zAU _)))).pt (zAF (zAY (zAi (zAB (pv 1) (zAB (pe_ix (r:=rIxT K) zAP (iC (r:=rIxT K) zAP (pv 0)) zAE (λ U U=>rfl)) (zAB (zAi (zAB (pv 1) (zAB (pe_ix (r:=rIxT K) zAP (iC (r:=rIxT K) zAP (pv 0)) zAE (λ U U=>rfl)) (zAB (iC (r:=rIxT K) zAP (pv 0)) zAD))):PE _ _ _) zAD))):PE _ _ _))) zAW)
  (zAG (ps_if (zDV (zAN op_eq (pv 1) zAL (zAU _)) (zCd (zAN op_eq (pe_ix (r:=rIxT K) zAP (iC (r:=rIxT K) zAP (pv 0)) zAE (λ U U=>rfl)) zAL (zAU _)))).pt (zAF (zAY (zAi (zAB zAL (zAB (zAi (zAB zAL (zAB (iC (r:=rIxT K) zAP (pv 0)) (zAB (pe_ix (r:=rIxT K) zAP (iC (r:=rIxT K) zAP (pv 0)) zAE (λ U U=>rfl)) zAD))):PE _ _ _) (zAB (pe_ix (r:=rIxT K) zAP (iC (r:=rIxT K) zAP (pv 0)) zAE (λ U U=>rfl)) zAD))):PE _ _ _))) zAW)
  (zAG (ps_if (zDV (zAN op_eq (pv 1) zAL (zAU _)) (zCd (zAN op_eq (pe_ix (r:=rIxT K) zAP (iC (r:=rIxT K) zAP (pv 0)) zAE (λ U U=>rfl)) zAL (zAU _)))).pt (zAF (zAY (zAi (zAB zAL (zAB (zAi (zAB zAL (zAB (iC (r:=rIxT K) zAP (pv 0)) (zAB (pe_ix (r:=rIxT K) zAP (iC (r:=rIxT K) zAP (pv 0)) zAE (λ U U=>rfl)) zAD))):PE _ _ _) (zAB (pe_ix (r:=rIxT K) zAP (iC (r:=rIxT K) zAP (pv 0)) zAE (λ U U=>rfl)) zAD))):PE _ _ _))) zAW)
  (zAF (zAY (pv 0))))))),?_⟩
 have d2:2<=sizeLine:=by decide
 have d3:3<=sizeLine:=by decide
 cases t with
 |num n =>
  obtain⟨p,rfl,hp⟩:=rt;refine⟨_,rfl,p,_,0,_,rfl,rfl,SqT.of hp,rfl,?_⟩;refine⟨_,rfl,d2,λ lp hlp=>⟨lp,_,rfl,.inl (SqL.of zAA),rfl,rfl,_,rfl,?_⟩⟩;refine ite2 (λ c=>absurd c (by decide)) (λ U=>iteF ?_);refine⟨_,rfl,rfl,_,rfl,ite2 (λ c=>absurd c (by decide)) (λ U=>iteF ?_)⟩;refine⟨_,rfl,rfl,_,rfl,ite2 (λ c=>absurd c (by decide)) (λ U=>iteF ?_)⟩;exact⟨_,rfl,q _ _ (zAC hlp) ⟨p,rfl,zAC hlp _ _ hp⟩⟩
 |gap g as =>
  have k0:=rt;obtain⟨p,b,us,rfl,hp,_⟩:=rt;refine⟨_,rfl,p,_,0,_,rfl,rfl,SqT.of hp,rfl,?_⟩;refine⟨_,rfl,d2,λ lp hlp=>⟨lp,_,rfl,.inl (SqL.of zAA),rfl,rfl,_,rfl,?_⟩⟩;refine ite2 (λ c=>absurd c (by decide)) (λ U=>iteF ?_);refine⟨_,rfl,rfl,_,rfl,ite2 (λ c=>absurd c (by decide)) (λ U=>iteF ?_)⟩;refine⟨_,rfl,rfl,_,rfl,ite2 (λ c=>absurd c (by decide)) (λ U=>iteF ?_)⟩;exact⟨_,rfl,q _ _ (zAC hlp) (k0.mono (zAC hlp).tk)⟩
 |bin o x y =>
  have k0:=rt;obtain⟨p,ux,uy,rfl,hp,rx,ry⟩:=rt;obtain⟨so,sx,sy⟩:=st;rcases so with rfl|rfl|rfl
  ·obtain⟨px,xs,rfl,hx⟩:=zCt sx rx
   refine⟨_,rfl,p,_,0,_,rfl,rfl,SqT.of hp,rfl,?_⟩;refine⟨_,rfl,d2,λ lp hlp=>⟨lp,_,rfl,.inl (SqL.of zAA),rfl,rfl,_,rfl,ite2 (λ U=>?_) (λ c=>absurd (by decide) c)⟩⟩;have g1:=zAC (o:=.lst [.str "add", .str "mul"]) hlp;have hp1:=g1 _ _ hp;refine⟨_,rfl,p,_,1,_,rfl,rfl,SqT.of hp1,rfl,px,_,0,_,rfl,rfl,SqT.of (g1 _ _ hx),atI0 _ _,_,rfl,rfl,_,rfl,ite2 (λ c=>?_) (λ c=>?_)⟩
   ·have e0:hdS x=Bin.add.s:=by
     have:=lR c;exact V.str.inj this
    obtain⟨a,b,rfl⟩:=zE2 sx e0 (by simp);obtain⟨px',ua,ub,ee,hx',ra,rb⟩:=rx;cases ee;have hx1:=g1 _ _ hx';refine⟨_,rfl,_,rfl,p,_,1,_,rfl,rfl,SqT.of hp1,rfl,px,_,1,_,rfl,rfl,SqT.of hx1,rfl,_,rfl,_,rfl,p,_,1,_,rfl,rfl,SqT.of hp1,rfl,px,_,2,_,rfl,rfl,SqT.of hx1,rfl,_,rfl,p,_,2,_,rfl,rfl,SqT.of hp1,rfl,d3,λ p1 h1=>⟨d3,λ p2 h2=>?_⟩⟩;have k1:=zAC (o:=.tup [.str "add", ub,uy]) h1;have k2:=zAC (o:=.tup [.str "add", ua,.ref p1]) h2;have kk:=g1.trans (k1.trans k2);exact q _ _ kk ⟨p2,ua,.ref p1,rfl,zAA,ra.mono kk.tk,p1,ub,uy,rfl,k2 _ _ zAA,rb.mono kk.tk,ry.mono kk.tk⟩
   ·have e0:thrT (.bin .add x y) = .bin .add x y:=by
     cases x with
     |bin o2 a b=>cases o2<;>first|rfl|exact absurd (by rfl) c
     |_=>rfl
    refine⟨_,rfl,rfl,_,rfl,ite2 (λ c=>absurd c (by decide)) (λ U=>iteF ?_)⟩;refine⟨_,rfl,rfl,_,rfl,ite2 (λ c=>absurd c (by decide)) (λ U=>iteF ?_)⟩;exact⟨_,rfl,q _ _ g1 (by rw[e0];exact k0.mono g1.tk)⟩
  ·obtain⟨py,ys,rfl,hy⟩:=zCt sy ry
   refine⟨_,rfl,p,_,0,_,rfl,rfl,SqT.of hp,rfl,?_⟩;refine⟨_,rfl,d2,λ lp hlp=>⟨lp,_,rfl,.inl (SqL.of zAA),rfl,rfl,_,rfl,ite2 (λ c=>absurd c (by decide)) (λ U=>iteF ?_)⟩⟩;have g1:=zAC (o:=.lst [.str "add", .str "mul"]) hlp;have hp1:=g1 _ _ hp;refine⟨_,rfl,rfl,_,rfl,ite2 (λ U=>?_) (λ c=>absurd (by decide) c)⟩;refine⟨_,rfl,p,_,2,_,rfl,rfl,SqT.of hp1,rfl,py,_,0,_,rfl,rfl,SqT.of (g1 _ _ hy),atI0 _ _,rfl,_,rfl,ite2 (λ c=>?_) (λ c=>?_)⟩
   ·have e0:hdS y=Bin.sub.s:=V.str.inj (lR c)
    obtain⟨a,b,rfl⟩:=zE2 sy e0 (by simp);obtain⟨py',ua,ub,ee,hy',ra,rb⟩:=ry;cases ee;have hy1:=g1 _ _ hy';refine⟨_,rfl,p,_,1,_,rfl,rfl,SqT.of hp1,rfl,_,rfl,p,_,2,_,rfl,rfl,SqT.of hp1,rfl,py,_,1,_,rfl,rfl,SqT.of hy1,rfl,d3,λ p1 h1=>⟨_,rfl,p,_,2,_,rfl,rfl,SqT.of (zAC h1 _ _ hp1),rfl,py,_,2,_,rfl,rfl,SqT.of (zAC h1 _ _ hy1),rfl,d3,λ p2 h2=>?_⟩⟩;have k1:=zAC (o:=.tup [.str "sub", ux,ua]) h1;have k2:=zAC (o:=.tup [.str "add", .ref p1,ub]) h2;have kk:=g1.trans (k1.trans k2);exact q _ _ kk ⟨p2,.ref p1,ub,rfl,zAA,⟨p1,ux,ua,rfl,k2 _ _ zAA,rx.mono kk.tk,ra.mono kk.tk⟩,rb.mono kk.tk⟩
   refine⟨_,rfl,rfl,_,rfl,ite2 (λ U=>?_) (λ c=>absurd (by decide) c)⟩;have c0:=c;refine⟨_,rfl,p,_,2,_,rfl,rfl,SqT.of hp1,rfl,py,_,0,_,rfl,rfl,SqT.of (g1 _ _ hy),atI0 _ _,rfl,_,rfl,ite2 (λ c=>?_) (λ c=>?_)⟩
   ·have e0:hdS y=Bin.add.s:=V.str.inj (lR c)
    obtain⟨a,b,rfl⟩:=zE2 sy e0 (by simp);obtain⟨py',ua,ub,ee,hy',ra,rb⟩:=ry;cases ee;have hy1:=g1 _ _ hy';refine⟨_,rfl,p,_,1,_,rfl,rfl,SqT.of hp1,rfl,_,rfl,p,_,2,_,rfl,rfl,SqT.of hp1,rfl,py,_,1,_,rfl,rfl,SqT.of hy1,rfl,d3,λ p1 h1=>⟨_,rfl,p,_,2,_,rfl,rfl,SqT.of (zAC h1 _ _ hp1),rfl,py,_,2,_,rfl,rfl,SqT.of (zAC h1 _ _ hy1),rfl,d3,λ p2 h2=>?_⟩⟩;have k1:=zAC (o:=.tup [.str "sub", ux,ua]) h1;have k2:=zAC (o:=.tup [.str "sub", .ref p1,ub]) h2;have kk:=g1.trans (k1.trans k2);exact q _ _ kk ⟨p2,.ref p1,ub,rfl,zAA,⟨p1,ux,ua,rfl,k2 _ _ zAA,rx.mono kk.tk,ra.mono kk.tk⟩,rb.mono kk.tk⟩
   ·have e0:thrT (.bin .sub x y) = .bin .sub x y:=by
     cases y with
     |bin o2 a b=>cases o2<;>first|rfl|exact absurd (by rfl) c|exact absurd (by rfl) c0
     |_=>rfl
    exact⟨_,rfl,q _ _ g1 (by rw[e0];exact k0.mono g1.tk)⟩
  ·obtain⟨px,xs,rfl,hx⟩:=zCt sx rx
   refine⟨_,rfl,p,_,0,_,rfl,rfl,SqT.of hp,rfl,?_⟩;refine⟨_,rfl,d2,λ lp hlp=>⟨lp,_,rfl,.inl (SqL.of zAA),rfl,rfl,_,rfl,ite2 (λ U=>?_) (λ c=>absurd (by decide) c)⟩⟩;have g1:=zAC (o:=.lst [.str "add", .str "mul"]) hlp;have hp1:=g1 _ _ hp;refine⟨_,rfl,p,_,1,_,rfl,rfl,SqT.of hp1,rfl,px,_,0,_,rfl,rfl,SqT.of (g1 _ _ hx),atI0 _ _,_,rfl,rfl,_,rfl,ite2 (λ c=>?_) (λ c=>?_)⟩
   ·have e0:hdS x=Bin.mul.s:=by
     have:=lR c;exact V.str.inj this
    obtain⟨a,b,rfl⟩:=zE2 sx e0 (by simp);obtain⟨px',ua,ub,ee,hx',ra,rb⟩:=rx;cases ee;have hx1:=g1 _ _ hx';refine⟨_,rfl,_,rfl,p,_,1,_,rfl,rfl,SqT.of hp1,rfl,px,_,1,_,rfl,rfl,SqT.of hx1,rfl,_,rfl,_,rfl,p,_,1,_,rfl,rfl,SqT.of hp1,rfl,px,_,2,_,rfl,rfl,SqT.of hx1,rfl,_,rfl,p,_,2,_,rfl,rfl,SqT.of hp1,rfl,d3,λ p1 h1=>⟨d3,λ p2 h2=>?_⟩⟩;have k1:=zAC (o:=.tup [.str "mul", ub,uy]) h1;have k2:=zAC (o:=.tup [.str "mul", ua,.ref p1]) h2;have kk:=g1.trans (k1.trans k2);exact q _ _ kk ⟨p2,ua,.ref p1,rfl,zAA,ra.mono kk.tk,p1,ub,uy,rfl,k2 _ _ zAA,rb.mono kk.tk,ry.mono kk.tk⟩
   ·have e0:thrT (.bin .mul x y) = .bin .mul x y:=by
     cases x with
     |bin o2 a b=>cases o2<;>first|rfl|exact absurd (by rfl) c
     |_=>rfl
    refine⟨_,rfl,rfl,_,rfl,ite2 (λ c=>absurd c (by decide)) (λ U=>iteF ?_)⟩;refine⟨_,rfl,rfl,_,rfl,ite2 (λ c=>absurd c (by decide)) (λ U=>iteF ?_)⟩;exact⟨_,rfl,q _ _ g1 (by rw[e0];exact k0.mono g1.tk)⟩
 |_=>exact st.elim
abbrev zCw:Stmt:=top 37
theorem zDQ:zAR ["_law_state", "_law_at"] ["_law_state"] (zAH zCw):=scI
def zFW:Sp:=λ vs H Q U=>E8 λ(d c g wl:Addr) (ns:List Int) (i r e:Int)=>A5 (vs=[.ref d]) (H d=some (.dK (stK c i r e g wl))) (H c=some (.lst (ns.map V.int))) (0<=i) (∀n:Int,Q (.int n) (upd H d (.dK (stK c (i+1) r e g wl))))
theorem zKb (F:Fun K "_law_take" "_law_take" zCw f fd) (z_len:mg "len" = none):FnOk P w K mg base CX0 (k+1) f fd ["_law_state"] zFW:=by
 refine F.ok zDQ (λ vs H Q E h=>?_) (λ cdv A outer s H vs Q E hr h=>?_)
 ·obtain⟨d,c,g,wl,ns,i,r,e,rfl,_⟩:=h
  rfl
 obtain⟨d,c,g,wl,ns,i,r,e,rfl,hd,hc,hi,q⟩:=h;have hu:=hu_of hr
 refine⟨_,(zAG (pS (i:=1) zDQ.nd (zBg hu (pv 0) zAL (λ U U=>rfl)))
  (zAG (zEX hu (pv 0) zAL (pe_op zDB (pv 1) zAE) rfl)
  (zAG (ps_if (zAN op_lt (pv 1) (cL z_len (zAB (zBg hu (pv 0) zAL (λ U U=>rfl)) zAD)) (zAU _)) (zAF (zAY (pe_ix (r:=rIxL K) zBK (zBg hu (pv 0) zAL (λ U U=>rfl)) (pv 1) (λ U U=>rfl)))) zAW)
  (zAF (zAY zAE))))),?_⟩
 have ncd:c≠d:=λ z=>by rw[z,hd] at hc;cases hc
 have dg0:DGet H d (.str "at") (some (.int i)):=st_at c i r e g wl▸DGet.k (k:=Sum.inr "at") hd;refine⟨_,rfl,d,_,rfl,dg0,?_⟩;refine⟨_,rfl,_,_,rfl,rfl,_,rfl,d,_,rfl,DPut.k (k:=Sum.inr "at") hd (by show 6<sizeLine;decide),?_⟩;rw[zHQ];have hd1:=@zAA H d (.dK (stK c (i+1) r e g wl));have hc1:(upd H d (.dK (stK c (i+1) r e g wl))) c=some (.lst (ns.map V.int)):=by rw[zAJ ncd];exact hc
 have dg1:DGet (upd H d (.dK (stK c (i+1) r e g wl))) d (.str "cells") (some (.ref c)):=zId c (i+1) r e g wl▸DGet.k (k:=Sum.inr "cells") hd1;refine⟨_,rfl,_,rfl,d,_,rfl,dg1,c,_,rfl,.inl (SqL.of hc1),_,_,rfl,rfl,_,rfl,ite2 (λ h=>?_) (λ U=>q 0)⟩;have h2:=lR h;rw[lC] at h2;obtain⟨n,en⟩:=zLi hi h2;exact⟨_,rfl,d,_,rfl,dg1,_,rfl,c,_,i,_,rfl,rfl,SqL.of hc1,en,q n⟩
abbrev zCc:Stmt:=top 39
theorem zBl:zAR ["_law_tree", "_law_cell", "_law_state", "_law_way", "_law_sign", "_law_cost"] ["_law_tree", "_law_cell", "_law_state"] (zAH zCc):=scI
def zEQ:Sp:=λ vs H Q U=>E11 λ(v:V) (C:Int) (d c g wl:Addr) (t:Tr) (S:Str->Prop) (i r e:Int)=>A6 (vs=[v,.int C,.ref d]) (Rep H t v) (SmT S t) (H d=some (.dK (stK c i r e g wl))) (0<=e) (∀(u:V) (t':Tr) (e':Int) (H':Hp),Sx d H H'->H' d=some (.dK (stK c i r e' g wl))->Rep H' t' u->SmT S t'->Eqv (polyT t) (polyT t')->0<=e'->2 * (lvT t':Int)+e'<=2 * (lvT t:Int)+e->Q u H')
theorem zI2 (F:Fun K "_law_other" "_law_other" zCc f fd) (zLv:FnB P w K mg base k "_law_three" g1 gd1 ["_law_tree"] zGA):FnOk P w K mg base CX0 (k+1) f fd ["_law_tree", "_law_cell", "_law_state"] zEQ:=by
 refine F.ok zBl (λ vs H Q E h=>?_) (λ cdv A outer s H vs Q E hr h=>?_)
 ·obtain⟨v,C,d,c,g,wl,t,S,i,r,e,rfl,_⟩:=h
  rfl
 obtain⟨v,C,d,c,g,wl,t,S,i,r,e,rfl,rt,st,hd,he,q⟩:=h;have hu:=hu_of hr
 refine zHb ⟨_,(zAO (pSS (i:=3) zBl.nd (zBU zBI ⟨pv 1⟩ ⟨zAE⟩))
  (zAO (pSS (i:=4) zBl.nd (zBF (r:=rIxT K) zAP ⟨pv 0⟩ ⟨zAE⟩ (λ U U=>rfl)))
  (zAO (zB7 ⟨(zDV (zAN op_eq (pv 3) zAE (zAU _)) (zCd (zAN (r:=rIn K false) zBw (pv 4) (zBQ (zAB zAL (zAB zAL zAD)):PE _ _ _) rfl))).pt⟩ (zAu (zBJ (zAl (pa_nS ⟨pv 4⟩ (pa_iS (zBF (r:=rIxT K) zAP ⟨pv 0⟩ ⟨zAE⟩ (λ U U=>rfl)) (pa_iS (zBF (r:=rIxT K) zAP ⟨pv 0⟩ ⟨zAE⟩ (λ U U=>rfl)) ⟨zAD⟩)))))) ⟨zAW⟩)
  (zAO (zB7 ⟨zAN op_eq (pv 3) zAE (zAU _)⟩ (zAu (zBJ (zBG zLv.ok hr (by rfl) zLv.gl zLv.kp zLv.bd .nil pass0 (pa_nS ⟨pv 0⟩ ⟨zAD⟩)))) ⟨zAW⟩)
  (zAO (pSS (i:=5) zBl.nd (zBF (r:=rIxL K) zBK (zGR [.int 0,.int 0,.int 2,.int 2,.int 4,.int 2,.int 0,.int 0] (by right)) ⟨pv 3⟩ (λ U U=>rfl)))
  (zAO (zB7 ⟨(pw_or (zAN op_eq (pv 5) zAE (zAU _)) (zD4 (zAN op_lt (zBg hu (pv 2) zAL (λ U U=>rfl)) (pv 5) (zAU _)))).pt⟩ (zAu (zBJ ⟨pv 0⟩)) ⟨zAW⟩)
  (zAO (zB7 ⟨(zDV (zAN op_eq (pv 3) zAE (zAU _)) (zCd (pw_or (zAN op_ne (pv 4) zAL (zAU _)) (pw_or (zAN (r:=rIn K true) zDA (pe_ix (r:=rIxT K) zAP (iC (r:=rIxT K) zAP (pv 0)) zAE (λ U U=>rfl)) (zBQ (zAB zAL (zAB zAL zAD)):PE _ _ _) rfl) (zD4 (zAN (r:=rIn K true) zDA (pe_ix (r:=rIxT K) zAP (iC (r:=rIxT K) zAP (pv 0)) zAE (λ U U=>rfl)) (zBQ (zAB zAL (zAB zAL zAD)):PE _ _ _) rfl)))).pt)).pt⟩ (zAu (zBJ ⟨pv 0⟩)) ⟨zAW⟩)
  (zAO ⟨zEX hu (pv 2) zAL (pe_op zEB (zBg hu (pv 2) zAL (λ U U=>rfl)) (pv 5)) rfl⟩
  (zAO (zB7 ⟨zAN op_eq (pv 3) zAE (zAU _)⟩ (zAu (zBJ (zAl (pa_cS ⟨zAL⟩ (pa_tS (zAl (pa_cS ⟨zAL⟩ (zBO ⟨zAE⟩ ⟨zAD⟩))) (pa_nS ⟨pv 0⟩ ⟨zAD⟩)))))) ⟨zAW⟩)
  (zAO (zB7 ⟨zAN op_eq (pv 3) zAE (zAU _)⟩ (zAu (zBJ (zAl (pa_cS ⟨zAL⟩ (pa_nS ⟨pv 0⟩ (pa_tS (zAl (pa_cS ⟨zAL⟩ (zBO ⟨zAE⟩ ⟨zAD⟩))) ⟨zAD⟩)))))) ⟨zAW⟩)
  (zAO (zB7 ⟨zAN op_eq (pv 3) zAE (zAU _)⟩ (zAu (zBJ (zAl (pa_cS ⟨zAL⟩ (pa_tS (zAl (pa_cS ⟨zAL⟩ (zBO ⟨zAE⟩ ⟨zAD⟩))) (pa_tS (zAl (pa_cS ⟨zAL⟩ (pa_tS (zAl (pa_cS ⟨zAL⟩ (zBO ⟨zAE⟩ ⟨zAD⟩))) (pa_nS ⟨pv 0⟩ ⟨zAD⟩)))) ⟨zAD⟩)))))) ⟨zAW⟩)
  (zAu (zBJ (zAl (pa_iS (zBF (r:=rIxT K) zAP (zBF (r:=rIxT K) zAP ⟨pv 0⟩ ⟨zAE⟩ (λ U U=>rfl)) ⟨zAE⟩ (λ U U=>rfl)) (pa_tS (zAl (pa_cS ⟨zAL⟩ (pa_iS (zBF (r:=rIxT K) zAP ⟨pv 0⟩ ⟨zAE⟩ (λ U U=>rfl)) (pa_iS (zBF (r:=rIxT K) zAP (zBF (r:=rIxT K) zAP ⟨pv 0⟩ ⟨zAE⟩ (λ U U=>rfl)) ⟨zAE⟩ (λ U U=>rfl)) ⟨zAD⟩)))) (pa_tS (zAl (pa_cS ⟨zAL⟩ (pa_iS (zBF (r:=rIxT K) zAP ⟨pv 0⟩ ⟨zAE⟩ (λ U U=>rfl)) (pa_iS (zBF (r:=rIxT K) zAP (zBF (r:=rIxT K) zAP ⟨pv 0⟩ ⟨zAE⟩ (λ U U=>rfl)) ⟨zAE⟩ (λ U U=>rfl)) ⟨zAD⟩)))) ⟨zAD⟩))))))))))))))))),?_⟩
 have d2:2<=sizeLine:=by decide
 have d3:3<=sizeLine:=by decide
 have d8:8<=sizeLine:=by decide
 have nt:∀xs,H d≠some (.tup xs):=λ xs z=>by rw[hd] at z;cases z
 have stay:∀H',Same H H'->Q v H':=λ H' g=>q v t e H' (.of g) (g _ _ hd) (rt.mono g.tk) st (.refl _) he (by omega);obtain⟨p,xs,rfl,hp⟩:=zCt st rt;refine⟨_,rfl,_,_,rfl,rfl,(show (0:Int)<8 by decide),_,rfl,p,_,0,_,rfl,rfl,SqT.of hp,atI0 _ _,?_⟩;have w8:C % 8=0\/C % 8=1\/C % 8=2\/C % 8=3\/C % 8=4\/C % 8=5\/C % 8=6\/C % 8=7:=by omega
 dsimp only[gName];generalize C % 8=W at w8 ⊢;rcases w8 with rfl|rfl|rfl|rfl|rfl|rfl|rfl|rfl
 ·refine⟨_,rfl,rfl,_,rfl,iteT ?_⟩
  refine⟨_,rfl,d2,λ lp hlp=>⟨lp,_,rfl,.inl (SqL.of zAA),rfl,rfl,_,rfl,ite2 (λ c=>?_) (λ c=>?_)⟩⟩
  ·have k1:=zAC (o:=.lst [.str "add", .str "mul"]) hlp
   cases t with
   |num n=>exact absurd c (by dsimp only[hdS];decide)
   |gap n as=>exact absurd c (by dsimp only[hdS];decide)
   |bin o x y =>
    obtain⟨p',ux,uy,ee,hp',rx,ry⟩:=rt;cases ee;have hp1:=k1 _ _ hp';refine⟨_,rfl,_,rfl,p,_,2,_,rfl,rfl,SqT.of hp1,rfl,_,rfl,p,_,1,_,rfl,rfl,SqT.of hp1,rfl,d3,λ p1 h1=>?_⟩;have kk:=k1.trans (zAC (o:=.tup [.str o.s,uy,ux]) h1);refine q _ (.bin o y x) e _ (.of kk) (kk _ _ hd) ⟨p1,uy,ux,rfl,zAA,ry.mono kk.tk,rx.mono kk.tk⟩ ⟨st.1,st.2.2,st.2.1⟩ ?_ he (by simp only[lvT];omega);rcases st.1 with rfl|rfl|rfl
    ·exact zFG _ _
    ·exact absurd c (by dsimp only[hdS];decide)
    ·exact zDC _ _
   |_=>exact st.elim
  ·have k1:=zAC (o:=.lst [.str "add", .str "mul"]) hlp
   refine⟨_,rfl,rfl,_,rfl,iteF ?_⟩;refine⟨d8,λ cl hcl=>⟨_,rfl,cl,_,0,_,rfl,rfl,SqL.of zAA,rfl,?_⟩⟩;refine⟨_,rfl,rfl,_,rfl,iteT ?_⟩;exact iteT ⟨_,rfl,stay _ (k1.trans (zAC hcl))⟩
 ·refine⟨_,rfl,rfl,_,rfl,iteF (iteF ?_)⟩
  refine⟨_,rfl,rfl,_,rfl,iteT ?_⟩;exact⟨_,rfl,.ref p,t,S,rfl,rt,st,λ u H' k1 ru=>q u (thrT t) e H' (.of k1) (k1 _ _ hd) ru (zK6 st) (zJq t) he (by rw[zK7];omega)⟩
 ·refine⟨_,rfl,rfl,_,rfl,iteF (iteF ?_)⟩
  refine⟨_,rfl,rfl,_,rfl,iteF ?_⟩;refine⟨d8,λ cl hcl=>⟨_,rfl,cl,_,2,_,rfl,rfl,SqL.of zAA,rfl,?_⟩⟩;have k1:=zAC (o:=.lst [.int 0,.int 0,.int 2,.int 2,.int 4,.int 2,.int 0,.int 0]) hcl;refine⟨_,rfl,rfl,_,rfl,iteF ?_⟩;have hd1:=k1 _ _ hd;have dg1:DGet _ d (.str "extra") (some (.int e)):=zCi c i r e g wl▸DGet.k (k:=Sum.inr "extra") hd1;refine⟨_,rfl,d,_,rfl,dg1,_,rfl,_,_,rfl,rfl,_,rfl,ite2 (λ U=>⟨_,rfl,stay _ k1⟩) (λ ce=>?_)⟩
  have ce2:2<=e:=by
   refine Int.not_lt.mp λ z=>ce ?_;simp[z]
  refine⟨_,rfl,rfl,_,rfl,iteF (iteF ?_)⟩;refine⟨_,rfl,d,_,rfl,dg1,_,rfl,_,_,rfl,rfl,_,rfl,d,_,rfl,DPut.k (k:=Sum.inr "extra") hd1 (by show 6<sizeLine;decide),?_⟩;rw[zBj];have sx:Sx d H _:=(Sx.of k1).trans (Sx.put (o:=.dK (stK c i r (e - 2) g wl)));have hd2:=@zAA (upd H cl (.lst [.int 0,.int 0,.int 2,.int 2,.int 4,.int 2,.int 0,.int 0])) d (.dK (stK c i r (e - 2) g wl));have tk2:=sx.tk nt;generalize upd (upd H cl _) d _=H2 at sx hd2 tk2 ⊢;refine⟨_,rfl,rfl,_,rfl,iteT ?_⟩;refine⟨d2,λ p1 h1=>⟨_,rfl,d3,λ p2 h2=>?_⟩⟩;have k3:=zAC (o:=.tup [.str "num", .int 0]) h1;have k4:=zAC (o:=.tup [.str "add", .ref p1,.ref p]) h2;have kk:=k3.trans k4;exact q _ (.bin .add (.num 0) t) (e - 2) _ (sx.trans (.of kk)) (kk _ _ hd2) ⟨p2,.ref p1,.ref p,rfl,zAA,⟨p1,rfl,k4 _ _ zAA⟩,rt.mono (tk2.trans kk.tk)⟩ ⟨.inl rfl,zGK (by decide) (by decide),st⟩ (by show Eqv (polyT t) ([]++polyT t);exact .refl _) (by omega) (by simp only[lvT];omega)
 ·refine⟨_,rfl,rfl,_,rfl,iteF (iteF ?_)⟩
  refine⟨_,rfl,rfl,_,rfl,iteF ?_⟩;refine⟨d8,λ cl hcl=>⟨_,rfl,cl,_,3,_,rfl,rfl,SqL.of zAA,rfl,?_⟩⟩;have k1:=zAC (o:=.lst [.int 0,.int 0,.int 2,.int 2,.int 4,.int 2,.int 0,.int 0]) hcl;refine⟨_,rfl,rfl,_,rfl,iteF ?_⟩;have hd1:=k1 _ _ hd;have dg1:DGet _ d (.str "extra") (some (.int e)):=zCi c i r e g wl▸DGet.k (k:=Sum.inr "extra") hd1;refine⟨_,rfl,d,_,rfl,dg1,_,rfl,_,_,rfl,rfl,_,rfl,ite2 (λ U=>⟨_,rfl,stay _ k1⟩) (λ ce=>?_)⟩
  have ce2:2<=e:=by
   refine Int.not_lt.mp λ z=>ce ?_;simp[z]
  refine⟨_,rfl,rfl,_,rfl,iteF (iteF ?_)⟩;refine⟨_,rfl,d,_,rfl,dg1,_,rfl,_,_,rfl,rfl,_,rfl,d,_,rfl,DPut.k (k:=Sum.inr "extra") hd1 (by show 6<sizeLine;decide),?_⟩;rw[zBj];have sx:Sx d H _:=(Sx.of k1).trans (Sx.put (o:=.dK (stK c i r (e - 2) g wl)));have hd2:=@zAA (upd H cl (.lst [.int 0,.int 0,.int 2,.int 2,.int 4,.int 2,.int 0,.int 0])) d (.dK (stK c i r (e - 2) g wl));have tk2:=sx.tk nt;generalize upd (upd H cl _) d _=H2 at sx hd2 tk2 ⊢;refine⟨_,rfl,rfl,_,rfl,iteF ?_⟩;refine⟨_,rfl,rfl,_,rfl,iteT ?_⟩;refine⟨_,rfl,d2,λ p1 h1=>⟨d3,λ p2 h2=>?_⟩⟩;have k3:=zAC (o:=.tup [.str "num", .int 1]) h1;have k4:=zAC (o:=.tup [.str "mul", .ref p,.ref p1]) h2;have kk:=k3.trans k4;exact q _ (.bin .mul t (.num 1)) (e - 2) _ (sx.trans (.of kk)) (kk _ _ hd2) ⟨p2,.ref p,.ref p1,rfl,zAA,rt.mono (tk2.trans kk.tk),⟨p1,rfl,k4 _ _ zAA⟩⟩ ⟨.inr (.inr rfl),st,zGK (by decide) (by decide)⟩ (zKx (zBN t)) (by omega) (by simp only[lvT];omega)
 ·refine⟨_,rfl,rfl,_,rfl,iteF (iteF ?_)⟩
  refine⟨_,rfl,rfl,_,rfl,iteF ?_⟩;refine⟨d8,λ cl hcl=>⟨_,rfl,cl,_,4,_,rfl,rfl,SqL.of zAA,rfl,?_⟩⟩;have k1:=zAC (o:=.lst [.int 0,.int 0,.int 2,.int 2,.int 4,.int 2,.int 0,.int 0]) hcl;refine⟨_,rfl,rfl,_,rfl,iteF ?_⟩;have hd1:=k1 _ _ hd;have dg1:DGet _ d (.str "extra") (some (.int e)):=zCi c i r e g wl▸DGet.k (k:=Sum.inr "extra") hd1;refine⟨_,rfl,d,_,rfl,dg1,_,rfl,_,_,rfl,rfl,_,rfl,ite2 (λ U=>⟨_,rfl,stay _ k1⟩) (λ ce=>?_)⟩
  have ce2:4<=e:=by
   refine Int.not_lt.mp λ z=>ce ?_;simp[z]
  refine⟨_,rfl,rfl,_,rfl,iteF (iteF ?_)⟩;refine⟨_,rfl,d,_,rfl,dg1,_,rfl,_,_,rfl,rfl,_,rfl,d,_,rfl,DPut.k (k:=Sum.inr "extra") hd1 (by show 6<sizeLine;decide),?_⟩;rw[zBj];have sx:Sx d H _:=(Sx.of k1).trans (Sx.put (o:=.dK (stK c i r (e - 4) g wl)));have hd2:=@zAA (upd H cl (.lst [.int 0,.int 0,.int 2,.int 2,.int 4,.int 2,.int 0,.int 0])) d (.dK (stK c i r (e - 4) g wl));have tk2:=sx.tk nt;generalize upd (upd H cl _) d _=H2 at sx hd2 tk2 ⊢;refine⟨_,rfl,rfl,_,rfl,iteF ?_⟩;refine⟨_,rfl,rfl,_,rfl,iteF ?_⟩;refine⟨_,rfl,rfl,_,rfl,iteT ?_⟩;refine⟨d2,λ p1 h1=>⟨d2,λ p2 h2=>⟨_,rfl,d3,λ p3 h3=>⟨d3,λ p4 h4=>?_⟩⟩⟩⟩;have k3:=zAC (o:=.tup [.str "num", .int 0]) h1;have k4:=zAC (o:=.tup [.str "num", .int 0]) h2;have k5:=zAC (o:=.tup [.str "sub", .ref p2,.ref p]) h3;have k6:=zAC (o:=.tup [.str "sub", .ref p1,.ref p3]) h4;have kk:=k3.trans (k4.trans (k5.trans k6));exact q _ (.bin .sub (.num 0) (.bin .sub (.num 0) t)) (e - 4) _ (sx.trans (.of kk)) (kk _ _ hd2) ⟨p4,.ref p1,.ref p3,rfl,zAA,⟨p1,rfl,(k4.trans (k5.trans k6)) _ _ zAA⟩,p3,.ref p2,.ref p,rfl,k6 _ _ zAA,⟨p2,rfl,(k5.trans k6) _ _ zAA⟩,rt.mono (tk2.trans kk.tk)⟩ ⟨.inr (.inl rfl),zGK (by decide) (by decide),.inr (.inl rfl),zGK (by decide) (by decide),st⟩ (zG9 _) (by omega) (by simp only[lvT];omega)
 ·refine⟨_,rfl,rfl,_,rfl,iteF (iteF ?_)⟩
  refine⟨_,rfl,rfl,_,rfl,iteF ?_⟩;refine⟨d8,λ cl hcl=>⟨_,rfl,cl,_,5,_,rfl,rfl,SqL.of zAA,rfl,?_⟩⟩;have k1:=zAC (o:=.lst [.int 0,.int 0,.int 2,.int 2,.int 4,.int 2,.int 0,.int 0]) hcl;refine⟨_,rfl,rfl,_,rfl,iteF ?_⟩;have hd1:=k1 _ _ hd;have dg1:DGet _ d (.str "extra") (some (.int e)):=zCi c i r e g wl▸DGet.k (k:=Sum.inr "extra") hd1;refine⟨_,rfl,d,_,rfl,dg1,_,rfl,_,_,rfl,rfl,_,rfl,ite2 (λ U=>⟨_,rfl,stay _ k1⟩) (λ ce=>?_)⟩
  have ce2:2<=e:=by
   refine Int.not_lt.mp λ z=>ce ?_;simp[z]
  refine⟨_,rfl,rfl,_,rfl,iteT ?_⟩;refine⟨_,rfl,rfl,_,rfl,ite2 (λ U=>iteT ⟨_,rfl,stay _ k1⟩) (λ cm=>?_)⟩
  have em:hdS t=Bin.mul.s:=by
   refine Classical.byContradiction λ z=>cm ?_;have:V.str (hdS t)≠V.str "mul" := λ y=>z (V.str.inj y);simp[this]
  obtain⟨x,y,rfl⟩:=zE2 st em (by simp);obtain⟨p',ux,uy,ee,hp',rx,ry⟩:=id rt;cases ee;obtain⟨_,sx0,sy0⟩:=st;obtain⟨px,xs2,rfl,hx⟩:=zCt sx0 rx;obtain⟨py,ys2,rfl,hy⟩:=zCt sy0 ry;have hp1:=k1 _ _ hp';refine⟨_,rfl,p,_,2,_,rfl,rfl,SqT.of hp1,rfl,py,_,0,_,rfl,rfl,SqT.of (k1 _ _ hy),atI0 _ _,d2,λ l1 hl1=>⟨l1,_,rfl,.inl (SqL.of zAA),rfl,rfl,_,rfl,ite2 (λ U=>iteT ⟨_,rfl,stay _ (k1.trans (zAC hl1))⟩) (λ cy=>?_)⟩⟩;have k2:=k1.trans (zAC (o:=.lst [.str "add", .str "sub"]) hl1);refine⟨_,rfl,p,_,1,_,rfl,rfl,SqT.of (k2 _ _ hp'),rfl,px,_,0,_,rfl,rfl,SqT.of (k2 _ _ hx),atI0 _ _,d2,λ l2 hl2=>⟨l2,_,rfl,.inl (SqL.of zAA),rfl,rfl,_,rfl,ite2 (λ U=>⟨_,rfl,stay _ (k2.trans (zAC hl2))⟩) (λ cx=>?_)⟩⟩;have k3:=k2.trans (zAC (o:=.lst [.str "num", .str "gap"]) hl2)
  have lx:lvT x=1:=by
   cases x with
   |bin o a b=>exact absurd (by rcases sx0.1 with rfl|rfl|rfl<;>rfl) cx
   |_=>rfl
  obtain⟨oy,a,b,rfl,hoy⟩:∃oy a b,y = .bin oy a b/\(oy = .add\/oy = .sub):=by
   cases y with
   |num n=>exact absurd (by rfl) cy
   |gap n as=>exact absurd (by rfl) cy
   |bin o a b =>
    refine⟨o,a,b,rfl,?_⟩;rcases sy0.1 with rfl|rfl|rfl
    ·exact .inl rfl
    ·exact .inr rfl
    ·exact absurd (by rfl) cy
   |_=>exact sy0.elim
  generalize upd (upd (upd H cl _) l1 _) l2 _=H3 at k3 ⊢;have hd3:=k3 _ _ hd;have dg3:DGet H3 d (.str "extra") (some (.int e)):=zCi c i r e g wl▸DGet.k (k:=Sum.inr "extra") hd3;refine⟨_,rfl,d,_,rfl,dg3,_,rfl,_,_,rfl,rfl,_,rfl,d,_,rfl,DPut.k (k:=Sum.inr "extra") hd3 (by show 6<sizeLine;decide),?_⟩;rw[zBj];have sx:Sx d H _:=(Sx.of k3).trans (Sx.put (o:=.dK (stK c i r (e - 2) g wl)));have hd2:=@zAA H3 d (.dK (stK c i r (e - 2) g wl));have tk2:=sx.tk nt;generalize upd H3 d _=H2 at sx hd2 tk2 ⊢;refine⟨_,rfl,rfl,_,rfl,iteF ?_⟩;refine⟨_,rfl,rfl,_,rfl,iteF ?_⟩;refine⟨_,rfl,rfl,_,rfl,iteF ?_⟩;obtain⟨py',ua,ub,ee2,hy',ra,rb⟩:=ry;cases ee2;have hpF:=tk2 _ _ hp';have hyF:=tk2 _ _ hy';refine⟨_,rfl,p,_,2,_,rfl,rfl,SqT.of hpF,rfl,py,_,0,_,rfl,rfl,SqT.of hyF,rfl,_,rfl,p,_,1,_,rfl,rfl,SqT.of hpF,rfl,_,rfl,p,_,2,_,rfl,rfl,SqT.of hpF,rfl,py,_,1,_,rfl,rfl,SqT.of hyF,rfl,d3,λ p1 h1=>?_⟩;have k5:=zAC (o:=.tup [.str "mul", .ref px,ua]) h1;refine⟨_,rfl,p,_,1,_,rfl,rfl,SqT.of (k5 _ _ hpF),rfl,_,rfl,p,_,2,_,rfl,rfl,SqT.of (k5 _ _ hpF),rfl,py,_,2,_,rfl,rfl,SqT.of (k5 _ _ hyF),rfl,d3,λ p2 h2=>⟨d3,λ p3 h3=>?_⟩⟩;have k6:=zAC (o:=.tup [.str "mul", .ref px,ub]) h2;have k7:=zAC (o:=.tup [.str oy.s,.ref p1,.ref p2]) h3;have kk:=k5.trans (k6.trans k7);have tA:=tk2.trans kk.tk;refine q _ (.bin oy (.bin .mul x a) (.bin .mul x b)) (e - 2) _ (sx.trans (.of kk)) (kk _ _ hd2) ⟨p3,.ref p1,.ref p2,rfl,zAA,⟨p1,.ref px,ua,rfl,(k6.trans k7) _ _ zAA,rx.mono tA,ra.mono tA⟩,p2,.ref px,ub,rfl,k7 _ _ zAA,rx.mono tA,rb.mono tA⟩ ⟨sy0.1,⟨.inr (.inr rfl),sx0,sy0.2.1⟩,.inr (.inr rfl),sx0,sy0.2.2⟩ ?_ (by omega) (by simp only[lvT,lx];omega);rcases hoy with rfl|rfl
  ·exact zFF _ _ _
  ·exact zH2 _ _ _
 ·refine⟨_,rfl,rfl,_,rfl,iteF (iteF ?_)⟩
  refine⟨_,rfl,rfl,_,rfl,iteF ?_⟩;refine⟨d8,λ cl hcl=>⟨_,rfl,cl,_,6,_,rfl,rfl,SqL.of zAA,rfl,?_⟩⟩;refine⟨_,rfl,rfl,_,rfl,iteT ?_⟩;exact iteT ⟨_,rfl,stay _ (zAC hcl)⟩
 ·refine⟨_,rfl,rfl,_,rfl,iteF (iteF ?_)⟩
  refine⟨_,rfl,rfl,_,rfl,iteF ?_⟩;refine⟨d8,λ cl hcl=>⟨_,rfl,cl,_,7,_,rfl,rfl,SqL.of zAA,rfl,?_⟩⟩;refine⟨_,rfl,rfl,_,rfl,iteT ?_⟩;exact iteT ⟨_,rfl,stay _ (zAC hcl)⟩
abbrev zCO:Stmt:=top 40
theorem zA0:zAR ["_law_state", "_law_deep", "_law_cell", "_law_more", "_law_leaf", "_law_sign", "_law_one", "_law_other_here"] ["_law_state", "_law_deep"] (zAH zCO):=scI
def zEP (N:Nat):Sp:=λ vs H Q U=>E11 λ(d c g wl:Addr) (D:Nat) (ns:List Int) (ws:List Str) (gk:List (Key × V)) (i r e:Int)=>A5 (vs=[.ref d,.int (D:Int)]) (D<N) (Stt H d c g wl ns ws gk i r e) (gk.length+tkN D<=100) (∀(p:Addr) (u u':V) (t t':Tr) (gk':List (Key × V)) (i' r' e':Int) (H':Hp),Sy d g H H'->Stt H' d c g wl ns ws gk' i' r' e'->H' p=some (.tup [u,u'])->Rep H' t u->Rep H' t' u'->SmT (kIn gk') t->SmT (kIn gk') t'->Eqv (polyT t) (polyT t')->2 * (lvT t:Int)+r'<=2+r->2 * (lvT t':Int)+e'<=2 * (lvT t:Int)+e->gk'.length<=gk.length+tkN D->(∀x,kIn gk x->kIn gk' x)->Q (.ref p) H')
theorem zKf {k N:Nat}{f g1 g2:Addr}{fd gd1 gd2:FuncData}(F:Fun K "_law_pair" "_law_pair" zCO f fd) (zLw:FnB P w K mg base (k+N) "_law_take" g1 gd1 ["_law_state"] zFW) (zLx:FnB P w K mg base (k+N) "_law_other" g2 gd2 ["_law_tree", "_law_cell", "_law_state"] zEQ)
  (zLy:FnB P w K mg base (k+N) "_law_pair" f fd ["_law_state", "_law_deep"] (zEP N)):FnOk P w K mg base CX0 (k+N+1) f fd ["_law_state", "_law_deep"] (zEP (N+1)):=by
 refine F.ok zA0 (λ vs H Q E h=>?_) (λ cdv A outer s H vs Q E hr h=>?_)
 ·obtain⟨d,c,g,wl,D,ns,ws,gk,i,r,e,rfl,_⟩:=h
  rfl
 obtain⟨d,c,g,wl,D,ns,ws,gk,i,r,e,rfl,hD,st,hgk,q⟩:=h;have hu:=hu_of hr
 refine zHb ⟨_,(zAO (pSS (i:=2) zA0.nd (zBG zLw.ok hr (by rfl) zLw.gl zLw.kp zLw.bd .nil pass0 (pa_nS ⟨pv 0⟩ ⟨zAD⟩)))
  (zAO (pSS (i:=3) zA0.nd (zBU zCy ⟨pv 2⟩ ⟨zAE⟩))
  (zAO (zB7 ⟨(pw_or (zAN op_eq (pv 1) zAE (zAU _)) (pw_or (zDV (zAN op_lt (pv 1) zAE (zAU _)) (zCd (zAN op_eq (pe_op zBI (pv 2) zAE) zAE (zAU _)))).pt (zD4 (zAN op_lt (zBg hu (pv 0) zAL (λ U U=>rfl)) zAE (zAU _))))).pt⟩ (zAO (pSS (i:=4) zA0.nd (zAl (pa_cS ⟨zAL⟩ (pa_iS (zBF (r:=rIxL K) zBK (zHl (zBO ⟨zAE⟩ (zBO ⟨zAE⟩ (zBO ⟨zAE⟩ (pa_bS (zBU zBI (zBU zCy ⟨pv 3⟩ ⟨zAE⟩) (zBU zHq ⟨zAE⟩ ⟨zAE⟩)) ⟨zAD⟩))))) (zBU zBI ⟨pv 3⟩ ⟨zAE⟩) (λ U U=>rfl)) ⟨zAD⟩))))
  (zAO (zB7 ⟨zAN op_gt (pe_op zBI (pe_op zCy (pv 2) zAE) zAE) zAE (zAU _)⟩ (zAO (pSS (i:=4) zA0.nd (zAl (pa_cS ⟨zAL⟩ (pa_iS (zBF (r:=rIxL K) zBK ⟨zBg hu (pv 0) zAL (λ U U=>rfl)⟩ (zBU zBI ⟨pv 3⟩ ⟨zAE⟩) (λ U U=>rfl)) (pa_tS (zAl ⟨zAD⟩) ⟨zAD⟩)))))
  (zAu ⟨zEX hu (zBg hu (pv 0) zAL (λ U U=>rfl)) (pe_ix (r:=rIxL K) zBK (zBg hu (pv 0) zAL (λ U U=>rfl)) (pe_op zBI (pv 3) zAE) (λ U U=>rfl)) pe_bl rfl⟩)) ⟨zAW⟩)
  (zAu (zBJ (zAl (pa_nS ⟨pv 4⟩ (pa_kS (zBG zLx.ok hr (by rfl) zLx.gl zLx.kp zLx.bd .nil pass0 (pa_nS ⟨pv 4⟩ (pa_bS (zBU zCy ⟨pv 3⟩ ⟨zAE⟩) (pa_nS ⟨pv 0⟩ ⟨zAD⟩)))) ⟨zAD⟩))))))) ⟨zAW⟩)
  (zAO ⟨zEX hu (pv 0) zAL (pe_op zEB (zBg hu (pv 0) zAL (λ U U=>rfl)) zAE) rfl⟩
  (zAO (pSS (i:=5) zA0.nd (zBF (r:=rIxL K) zBK (zGR [.str "add", .str "sub", .str "mul", .str "add"] (by right)) (zBU zBI (zBU zCy ⟨pv 2⟩ ⟨zAE⟩) ⟨zAE⟩) (λ U U=>rfl)))
  (zAO (pSS (i:=6) zA0.nd (zBG zLy.ok hr (by rfl) zLy.gl zLy.kp zLy.bd .nil pass0 (pa_nS ⟨pv 0⟩ (pa_bS (zBU zEB ⟨pv 1⟩ ⟨zAE⟩) ⟨zAD⟩))))
  (zAO (pSS (i:=7) zA0.nd (zBG zLy.ok hr (by rfl) zLy.gl zLy.kp zLy.bd .nil pass0 (pa_nS ⟨pv 0⟩ (pa_bS (zBU zEB ⟨pv 1⟩ ⟨zAE⟩) ⟨zAD⟩))))
  (zAu (zBJ (zAl (pa_tS (zAl (pa_nS ⟨pv 5⟩ (pa_iS (zBF (r:=rIxT K) zAP ⟨pv 6⟩ ⟨zAE⟩ (λ U U=>rfl)) (pa_iS (zBF (r:=rIxT K) zAP ⟨pv 7⟩ ⟨zAE⟩ (λ U U=>rfl)) ⟨zAD⟩)))) (pa_kS (zBG zLx.ok hr (by rfl) zLx.gl zLx.kp zLx.bd .nil pass0 (pa_tS (zAl (pa_nS ⟨pv 5⟩ (pa_iS (zBF (r:=rIxT K) zAP ⟨pv 6⟩ ⟨zAE⟩ (λ U U=>rfl)) (pa_iS (zBF (r:=rIxT K) zAP ⟨pv 7⟩ ⟨zAE⟩ (λ U U=>rfl)) ⟨zAD⟩)))) (pa_kS (zBG zLw.ok hr (by rfl) zLw.gl zLw.kp zLw.bd .nil pass0 (pa_nS ⟨pv 0⟩ ⟨zAD⟩)) (pa_nS ⟨pv 0⟩ ⟨zAD⟩)))) ⟨zAD⟩)))))))))))),?_⟩
 have d2:2<=sizeLine:=by decide
 have d3:3<=sizeLine:=by decide
 have d4:4<=sizeLine:=by decide
 refine⟨_,rfl,d,c,g,wl,ns,i,r,e,rfl,st.hd,st.hc,st.i0,λ C=>?_⟩;have sx1:Sx d H (upd H d (.dK (stK c (i+1) r e g wl))):=Sx.put;have st1:Stt (upd H d (.dK (stK c (i+1) r e g wl))) d c g wl ns ws gk (i+1) r e:=st.sx sx1 zAA (by have:=st.i0;omega) st.r0 st.e0;generalize upd H d _=H1 at sx1 st1 ⊢;have cd3:CDiv C 3:=⟨by decide,by decide⟩;have cd12:CDiv C 12:=⟨by decide,by decide⟩;have cd4:CDiv (C / 12) 4:=⟨by decide,by decide⟩;have tk1:=st.tk (sx1.sy (g:=g));have dgr:DGet H1 d (.str "room") (some (.int r)):=zJs c (i+1) r e g wl▸DGet.k (k:=Sum.inr "room") st1.hd;have dgw:DGet H1 d (.str "words") (some (.ref wl)):=zEM c (i+1) r e g wl▸DGet.k (k:=Sum.inr "words") st1.hd;refine⟨_,rfl,_,_,rfl,rfl,cd12,?_⟩;dsimp only[gName];refine zHp (λ Q h=>⟨_,rfl,rfl,_,rfl,h⟩) (zHp (zJN (λ Q h=>⟨_,rfl,_,_,rfl,rfl,_,rfl,h⟩) (λ Q h=>⟨_,rfl,_,_,rfl,rfl,(show (0:Int)<3 by decide),rfl,_,rfl,h⟩)) (λ Q h=>⟨_,rfl,d,_,rfl,dgr,_,_,rfl,rfl,_,rfl,h⟩)) _ ?_;refine ite2 (λ U=>?_) (λ cc=>?_)
 ·have hM0:0<=C / 12 / 4 % 10 ^ Int.toNat 30:=rH _ (by decide)
  have hM1:C / 12 / 4 % 10 ^ Int.toNat 30<NN:=rJ _ (by decide);obtain⟨n,en,n0,n1⟩:=zLW (C / 12) _ hM0 hM1;refine⟨_,rfl,_,_,rfl,rfl,cd4,_,_,rfl,rfl,⟨by decide,by decide,by decide⟩,_,_,rfl,rfl,(show (0:Int)<10 ^ 30 by decide),d4,λ lp hlp=>⟨_,rfl,_,_,rfl,rfl,(show (0:Int)<4 by decide),lp,_,_,_,rfl,rfl,SqL.of zAA,en,d2,λ p1 h1=>?_⟩⟩;have k1:=(zAC (o:=.lst [.int 0,.int 1,.int 2,.int (C / 12 / 4 % 10 ^ Int.toNat 30)]) hlp).trans (zAC (o:=.tup [.str "num", .int n]) h1);have w1:SmT (kIn gk) (.num n):=⟨n0,n1⟩;have st2:=st1.same k1;have e2:upd (upd H1 lp (.lst [.int 0,.int 1,.int 2,.int (C / 12 / 4 % 10 ^ Int.toNat 30)])) p1 (.tup [.str "num", .int n]) p1=some (.tup [.str "num", .int n]):=zAA;have sy2:Sy d g H _:=sx1.sy.trans (.of k1);generalize upd (upd H1 lp _) p1 _=H2 at st2 e2 sy2 ⊢;dsimp only[gName];refine viaN λ N hN=>?_
  have fin:∀(lv:Addr) (t:Tr) (gk2:List (Key × V)) (H3:Hp),Sy d g H H3->Stt H3 d c g wl ns ws gk2 (i+1) r e->Rep H3 t (.ref lv)->SmT (kIn gk2) t->lvT t=1->gk2.length<=gk.length+1->(∀x,kIn gk x->kIn gk2 x)->N [some (.ref d),some (.int D),some (.int C),some (.int (C / 12)),some (.ref lv),none,none,none] H3:=λ lv t gk2 H3 sy3 st3 rt sm lt lg up=>by
   refine hN _ _ ⟨_,rfl,_,rfl,_,rfl,_,_,rfl,rfl,cd4,_,rfl,.ref lv,_,d,c,g,wl,t,kIn gk2,_,_,_,rfl,rt,sm,st3.hd,st3.e0,λ u t' e' H4 sx4 hd4 ru sm' eq he hl=>⟨d2,λ p5 h5=>?_⟩⟩;have k5:=zAC (o:=.tup [.ref lv,u]) h5;have tk4:Tk H3 H4:=st3.tk (sx4.sy (g:=g));have tD:1<=tkN D:=by cases D<;>simp[tkN]<;>omega
   exact q p5 (.ref lv) u t t' gk2 (i+1) r e' _ (sy3.trans (sx4.sy.trans (.of k5))) ((st3.sx sx4 hd4 st3.i0 st3.r0 he).same k5) zAA (rt.mono (tk4.trans k5.tk)) (ru.mono k5.tk) sm sm' eq (by omega) hl (by omega) up
  refine⟨_,rfl,_,_,rfl,rfl,cd3,_,_,rfl,rfl,(show (0:Int)<4 by decide),_,_,rfl,rfl,_,rfl,ite2 (λ U=>?_) (λ U=>?_)⟩
  ·obtain⟨x,hx,ex⟩:=zJl st.w4 (C / 12)
   have dgw2:DGet H2 d (.str "words") (some (.ref wl)):=zEM c (i+1) r e g wl▸DGet.k (k:=Sum.inr "words") st2.hd;refine⟨_,rfl,d,_,rfl,dgw2,_,rfl,_,_,rfl,rfl,(show (0:Int)<4 by decide),wl,_,_,_,rfl,rfl,SqL.of st2.hw,ex,(by show 0<=sizeLine;decide),λ p3 h3=>⟨d3,λ p4 h4=>?_⟩⟩;have k3:=zAC (o:=.tup []) h3;have k4:=zAC (o:=.tup [.str "gap", .str x,.ref p3]) h4;have k34:=k3.trans k4;have st4:=st2.same k34;have r4:Rep (upd (upd H2 p3 (.tup [])) p4 (.tup [.str "gap", .str x,.ref p3])) (.gap x []) (.ref p4):=⟨p4,p3,[],rfl,zAA,k4 _ _ zAA,lX _,.nil⟩;have sy4:=sy2.trans (Sy.of k34);generalize upd (upd H2 p3 _) p4 _=H4 at st4 r4 sy4 ⊢;have dgw4:DGet H4 d (.str "words") (some (.ref wl)):=zEM c (i+1) r e g wl▸DGet.k (k:=Sum.inr "words") st4.hd;have dgg4:DGet H4 d (.str "gaps") (some (.ref g)):=zHR c (i+1) r e g wl▸DGet.k (k:=Sum.inr "gaps") st4.hd;refine⟨_,rfl,d,_,rfl,dgg4,_,rfl,d,_,rfl,dgw4,_,rfl,_,_,rfl,rfl,(show (0:Int)<4 by decide),wl,_,_,_,rfl,rfl,SqL.of st4.hw,ex,g,_,rfl,DPut.k (k:=Sum.inr x) st4.hg (zAS (by omega)),?_⟩;have sy5:Sy d g H4 (upd H4 g (.dK (putK gk (Sum.inr x) (.bl true)))):=Sy.put;exact fin p4 (.gap x []) _ _ (sy4.trans sy5) (st4.gap hx) (r4.mono (st4.tk sy5)) ⟨rfl,zKq⟩ rfl (zBh _ _ _) λ y hy=>zLe hy
  ·exact fin p1 (.num n) gk H2 sy2 st2 ⟨p1,rfl,e2⟩ w1 rfl (by omega) λ U h=>h
 ·simp only[Bool.or_eq_true,not_or,decide_eq_true_eq] at cc
  obtain⟨c1,_,c2⟩:=cc
  obtain⟨D',rfl⟩:∃D',D=D'+1:=by
   cases D with
   |zero=>exact absurd rfl c1
   |succ D'=>exact⟨D',rfl⟩
  have eD:((D'+1:Nat):Int) - 1=(D':Int):=by omega
  have et:tkN (D'+1)=2+2 * tkN D':=rfl;refine⟨_,rfl,d,_,rfl,dgr,_,_,rfl,rfl,_,rfl,d,_,rfl,DPut.k (k:=Sum.inr "room") st1.hd (by show 6<sizeLine;decide),?_⟩;rw[zFU];have sx2:Sx d H1 (upd H1 d (.dK (stK c (i+1) (r - 2) e g wl))):=Sx.put;have st2:Stt (upd H1 d (.dK (stK c (i+1) (r - 2) e g wl))) d c g wl ns ws gk (i+1) (r - 2) e:=st1.sx sx2 zAA st1.i0 (by omega) st1.e0;have sy2:Sy d g H _:=(sx1.trans sx2).sy;generalize upd H1 d _=H2 at st2 sy2 ⊢;obtain⟨o,ho,eo⟩:=zJw (C / 3);refine⟨d4,λ lp hlp=>⟨_,rfl,_,_,rfl,rfl,cd3,_,_,rfl,rfl,(show (0:Int)<4 by decide),lp,_,_,_,rfl,rfl,SqL.of zAA,eo,?_⟩⟩;have k3:=zAC (o:=.lst [.str "add", .str "sub", .str "mul", .str "add"]) hlp;have st3:=st2.same k3;have sy3:=sy2.trans (Sy.of k3);generalize upd H2 lp _=H3 at st3 sy3 ⊢;refine⟨_,rfl,_,rfl,_,_,rfl,rfl,d,c,g,wl,D',ns,ws,gk,_,_,_,by rw[eD];rfl,by omega,st3,by omega,λ pa ua ua' ta ta' ga ia ra ea H4 sy4 st4 ep4 r4 r4' sm4 sm4' eq4 l4 l4' lg4 up4=>?_⟩;refine⟨_,rfl,_,rfl,_,_,rfl,rfl,d,c,g,wl,D',ns,ws,ga,_,_,_,by rw[eD];rfl,by omega,st4,by omega,λ pb ub ub' tb tb' gb ib rb eb H5 sy5 st5 ep5 r5 r5' sm5 sm5' eq5 l5 l5' lg5 up5=>?_⟩;have tk5:=st4.tk sy5;have ep4':=tk5 _ _ ep4;refine⟨_,rfl,_,rfl,pa,_,0,_,rfl,rfl,SqT.of ep4',rfl,_,rfl,pb,_,0,_,rfl,rfl,SqT.of ep5,rfl,d3,λ p6 h6=>?_⟩;have k6:=zAC (o:=.tup [.str o.s,ua,ub]) h6;have ep4a:=k6 _ _ ep4';have ep5a:=k6 _ _ ep5;refine⟨_,rfl,_,rfl,pa,_,1,_,rfl,rfl,SqT.of ep4a,rfl,_,rfl,pb,_,1,_,rfl,rfl,SqT.of ep5a,rfl,d3,λ p7 h7=>?_⟩;have k7:=zAC (o:=.tup [.str o.s,ua',ub']) h7;have st7:=st5.same (k6.trans k7);have rA:Rep (upd (upd H5 p6 (.tup [.str o.s,ua,ub])) p7 (.tup [.str o.s,ua',ub'])) (.bin o ta tb) (.ref p6):=⟨p6,ua,ub,rfl,k7 _ _ zAA,r4.mono (tk5.trans (k6.trans k7).tk),r5.mono (k6.trans k7).tk⟩;have rB:Rep (upd (upd H5 p6 (.tup [.str o.s,ua,ub])) p7 (.tup [.str o.s,ua',ub'])) (.bin o ta' tb') (.ref p7):=⟨p7,ua',ub',rfl,zAA,r4'.mono (tk5.trans (k6.trans k7).tk),r5'.mono (k6.trans k7).tk⟩;have sy7:=(sy3.trans sy4).trans (sy5.trans (Sy.of (k6.trans k7)));generalize upd (upd H5 p6 _) p7 _=H7 at st7 rA rB sy7 ⊢;refine⟨_,rfl,d,c,g,wl,ns,_,_,_,rfl,st7.hd,st7.hc,st7.i0,λ C2=>?_⟩;have sx8:Sx d H7 (upd H7 d (.dK (stK c (ib+1) rb eb g wl))):=Sx.put;have st8:Stt (upd H7 d (.dK (stK c (ib+1) rb eb g wl))) d c g wl ns ws gb (ib+1) rb eb:=st7.sx sx8 zAA (by have:=st7.i0;omega) st7.r0 st7.e0;have tk8:=st7.tk (sx8.sy (g:=g));have sy8:=sy7.trans (sx8.sy (g:=g));generalize upd H7 d _=H8 at st8 tk8 sy8 ⊢;have smB:SmT (kIn gb) (.bin o ta' tb'):=⟨ho,sm4'.up up5,sm5'⟩;refine⟨_,rfl,.ref p7,_,d,c,g,wl,.bin o ta' tb',kIn gb,_,_,_,rfl,rB.mono tk8,smB,st8.hd,st8.e0,λ u t' e' H9 sx9 hd9 ru sm' eq he hl=>⟨d2,λ p9 h9=>?_⟩⟩;have k9:=zAC (o:=.tup [.ref p6,u]) h9;have tk9:Tk H8 H9:=st8.tk (sx9.sy (g:=g));have hl':2 * (lvT t':Int)+e'<=2 * ((lvT ta'+lvT tb':Nat):Int)+eb:=hl;have el:lvT (.bin o ta tb)=lvT ta+lvT tb:=rfl;exact q p9 (.ref p6) u (.bin o ta tb) t' gb _ _ e' _ (sy8.trans (sx9.sy.trans (.of k9))) ((st8.sx sx9 hd9 st8.i0 st8.r0 he).same k9) zAA (rA.mono (tk8.trans (tk9.trans k9.tk))) (ru.mono k9.tk) ⟨ho,sm4.up up5,sm5⟩ sm' ((zKy ho eq4 eq5).trans eq) (by omega) (by omega) (by omega) λ x hx=>up5 x (up4 x hx)
theorem zGh (F:Fun K "_law_pair" "_law_pair" zCO f fd) (b:Binds K fd ["_law_state", "_law_deep"] []) (m:mg "_law_pair" = some (.ref f)) (G1:FnB P w K mg base k "_law_take" g1 gd1 ["_law_state"] zFW) (G2:FnB P w K mg base k "_law_other" g2 gd2 ["_law_tree", "_law_cell", "_law_state"] zEQ):∀n:Nat,FnB P w K mg base (k+n) "_law_pair" f fd ["_law_state", "_law_deep"] (zEP n)
 |0=>⟨⟨λ vs H Q E h=>by obtain⟨d,c,g,wl,D,ns,ws,gk,i,r,e,_,hD,_⟩:=h;omega,λ A outer s H args us vs Q E U U U U h=>by obtain⟨d,c,g,wl,D,ns,ws,gk,i,r,e,_,hD,_⟩:=h;omega⟩,b,F.kp,m⟩
 |n+1=>⟨zKf F (G1.up (by omega)) (G2.up (by omega)) (zGh F b m G1 G2 n),b,F.kp,m⟩
noncomputable abbrev zAm:Stmt:=zBL (top 7) 0
theorem zCm:zAR ["self"] ["self"] (zAH zAm):=scI
noncomputable abbrev zAk:Stmt:=zBL (top 7) 1
theorem zCY:zAR ["self", "tree", "known"] ["self", "tree", "known"] (zAH zAk):=scI
noncomputable abbrev zAf:Stmt:=zBL (top 7) 2
theorem zCT:zAR ["self", "tree", "known"] ["self", "tree", "known"] (zAH zAf):=scI
noncomputable abbrev zAc:Stmt:=zBL (top 27) 0
theorem zCE:zAR ["self", "kinds", "facts"] ["self", "kinds", "facts"] (zAH zAc):=scI
structure Txt (K:W.Frag) (mg:Str->Option Value) (C B fB:Addr):Prop where
 cl:Cls K C
 nK:zB8 K C "kinds"
 nF:zB8 K C "facts"
 nD:zB8 K C "deeds"
 nE:zB8 K C "ends"
 nW:zB8 K C "waiting"
 nH:zB8 K C "halt"
 mgC:mg "SumCourse" = some (.ref C)
 mgB:mg "Course" = some (.ref B)
 cm:ClsM K B "__init__" fB
def zGH (C:Addr):Sp:=λ vs H Q U=>E2 λ(p dx:Addr)=>A3 (vs=[.ref p]) (H p=some (.ins C dx [])) (∀(dl el wl:Addr) (H':Hp),H dl=none->H el=none->H wl=none->H' p=some (.ins C dx (cfld0 dl el wl))->H' dl=some (.lst [])->H' el=some (.lst [])->H' wl=some (.lst [])->dl≠el->dl≠wl->el≠wl ->
 (∀b o,H b=some o->b≠p->H' b=some o)->Q .non H')
theorem zI6 (F:Fun K "__init__" "Course.__init__" zAm f fd) (T:Txt K mg C B fB):FnOk P w K mg base CX0 (k+1) f fd ["self"] (zGH C):=by
 refine F.ok zCm (λ vs H Q E h=>?_) (λ cdv A outer s H vs Q E hr h=>?_)
 ·obtain⟨p,dx,rfl,_⟩:=h
  rfl
 obtain⟨p,dx,rfl,hp,q⟩:=h
 refine⟨_,(zAG (zD6 (pv 0) (zBQ zAD:PE _ _ _) rfl)
  (zAG (zD6 (pv 0) (zBQ zAD:PE _ _ _) rfl)
  (zAG (zD6 (pv 0) (zBQ zAD:PE _ _ _) rfl)
  (zAF (zD6 (pv 0) zDZ rfl))))),?_⟩
 refine⟨(by show 0<=sizeLine;decide),λ dl hdl=>⟨_,rfl,p,C,dx,[],rfl,zAC hdl _ _ hp,T.cl,T.nD,(by show 0<1000;decide),?_⟩⟩;have pd:p≠dl:=zAI hp hdl;refine⟨(by show 0<=sizeLine;decide),λ el hel=>⟨_,rfl,p,C,dx,putF "deeds" (.ref dl) [],rfl,?_,T.cl,T.nE,(by have h1:=zA8 "deeds" (.ref dl) [];simp at h1 ⊢;omega),?_⟩⟩
 ·rw[zAJ (zAI zAA hel)]
  exact zAA
 have pe:p≠el:=zAI zAA hel;have de:dl≠el:=zAI (by rw[zAJ (Ne.symm pd)];exact zAA) hel
 have e1:H el=none:=by
  have z:=hel;rw[zAJ (Ne.symm pe),zAJ (Ne.symm de)] at z;exact z
 refine⟨(by show 0<=sizeLine;decide),λ wl hwl=>⟨_,rfl,p,C,dx,putF "ends" (.ref el) (putF "deeds" (.ref dl) []),rfl,?_,T.cl,T.nW,(by have h1:=zA8 "deeds" (.ref dl) [];have h2:=zA8 "ends" (.ref el) (putF "deeds" (.ref dl) []);simp at h1 h2 ⊢;omega),?_⟩⟩
 ·rw[zAJ (zAI zAA hwl)]
  exact zAA
 have pw:p≠wl:=zAI zAA hwl;have ew:el≠wl:=zAI (by rw[zAJ (Ne.symm pe)];exact zAA) hwl;have dw:dl≠wl:=zAI (by rw[zAJ (Ne.symm pd),zAJ de,zAJ (Ne.symm pd)];exact zAA) hwl
 have w1:H wl=none:=by
  have z:=hwl;rw[zAJ (Ne.symm pw),zAJ (Ne.symm ew),zAJ (Ne.symm pw),zAJ (Ne.symm dw)] at z;exact z
 refine⟨_,rfl,p,C,dx,putF "waiting" (.ref wl) (putF "ends" (.ref el) (putF "deeds" (.ref dl) [])),rfl,zAA,T.cl,T.nH,(by have h1:=zA8 "deeds" (.ref dl) [];have h2:=zA8 "ends" (.ref el) (putF "deeds" (.ref dl) []);have h3:=zA8 "waiting" (.ref wl) (putF "ends" (.ref el) (putF "deeds" (.ref dl) []));simp at h1 h2 h3 ⊢;omega),?_⟩;refine q dl el wl _ hdl e1 w1 zAA ?_ ?_ ?_ de dw ew λ b o hb hne=>?_
 ·rw[zAJ (Ne.symm pd),zAJ (Ne.symm pd),zAJ dw,zAJ (Ne.symm pd),zAJ de,zAJ (Ne.symm pd)]
  exact zAA
 ·rw[zAJ (Ne.symm pe),zAJ (Ne.symm pe),zAJ ew,zAJ (Ne.symm pe)]
  exact zAA
 ·rw[zAJ (Ne.symm pw),zAJ (Ne.symm pw)]
  exact zAA
 ·rw[zAJ hne,zAJ hne,zAJ (zAI hb w1),zAJ hne,zAJ (zAI hb e1),zAJ hne,zAJ (zAI hb hdl)]
  exact hb
def zHV (C:Addr):Sp:=λ vs H Q U=>E5 λ(p dx:Addr) (kv fv:V) (kvs:List (Key × V))=>A5 (vs=[.ref p,kv,fv]) (H p=some (.ins C dx [])) (KnR H kv kvs) (FcR H fv) (∀(a:CA) (H':Hp),a.p=p->H a.dl=none->H a.el=none->H a.wl=none->Cs C H' a [] [] []->H' a.kA=some (.dK (zA3 [] kvs))->H' a.fA=some (.dK []) ->
 (∀b o,H b=some o->b≠p->H' b=some o)->Q .non H')
theorem zKh (F:Fun K "__init__" "SumCourse.__init__" zAc f fd) (T:Txt K mg C B fB) (z_dict:mg "dict" = none) (zLz:FnM P w K mg base k B "__init__" fB gdB ["self"] (zGH C)):FnOk P w K mg base CX0 (k+1) f fd ["self", "kinds", "facts"] (zHV C):=by
 refine F.ok zCE (λ vs H Q E h=>?_) (λ cdv A outer s H vs Q E hr h=>?_)
 ·obtain⟨p,dx,kv,fv,kvs,rfl,_⟩:=h
  rfl
 obtain⟨p,dx,kv,fv,kvs,rfl,hp,hk,hf,q⟩:=h
 refine⟨_,(zAG (zA4 (zKR (zB2 (v:=.ref _) (by rfl) T.mgB (by rfl)) T.cm zLz.ok hr zLz.bd .nil pass0 (zAB (pv 0) zAD)))
  (zAG (zD6 (pv 0) (zBR (zEH rfl) (by rfl) z_dict PyProof.Rows.boot_dict (zAB (pv 1) zAD)) rfl)
  (zAF (zD6 (pv 0) (zBR (zHC rfl) (by rfl) z_dict PyProof.Rows.boot_dict (zAB (pv 2) zAD)) rfl)))),?_⟩
 refine⟨rfl,_,rfl,p,dx,rfl,hp,λ dl el wl H1 ndl nel nwl hp1 h1 h2 h3 de dw ew fr=>?_⟩;have pd:p≠dl:=zAI hp ndl;have pe:p≠el:=zAI hp nel;have pw:p≠wl:=zAI hp nwl
 have c0:(cfld0 dl el wl).length<=4:=by
  have h1:=zA8 "deeds" (.ref dl) [];have h2:=zA8 "ends" (.ref el) (putF "deeds" (.ref dl) []);have h3:=zA8 "waiting" (.ref wl) (putF "ends" (.ref el) (putF "deeds" (.ref dl) []));have h5:=zA8 "halt" .non (putF "waiting" (.ref wl) (putF "ends" (.ref el) (putF "deeds" (.ref dl) [])));unfold cfld0;simp at h1;omega
 obtain⟨ka,ko,ys,rfl,hka,hkd,hkp,hkl⟩:=hk.kpP hp fr;refine⟨_,rfl,ka,ko,ys,kvs,rfl,hka,hkd,hkp,hkl,λ kA hkA=>?_⟩;have pk:p≠kA:=zAI hp1 hkA;refine⟨_,rfl,p,C,dx,_,rfl,zAC hkA _ _ hp1,T.cl,T.nK,(by omega),?_⟩
 have fr2:KpP p H (upd (upd H1 kA (.dK (zA3 [] kvs))) p (.ins C dx (putF "kinds" (.ref kA) (cfld0 dl el wl)))):=λ b o hb hne=>by
  rw[zAJ hne];exact zAC hkA _ _ (fr b o hb hne)
 have hp2:=@zAA (upd H1 kA (.dK (zA3 [] kvs))) p (.ins C dx (putF "kinds" (.ref kA) (cfld0 dl el wl)));have hk2:(upd (upd H1 kA (.dK (zA3 [] kvs))) p (.ins C dx (putF "kinds" (.ref kA) (cfld0 dl el wl)))) kA=some (.dK (zA3 [] kvs)):=by rw[zAJ (Ne.symm pk)];exact zAA
 have keep:∀b o,H1 b=some o->b≠p->(upd (upd H1 kA (.dK (zA3 [] kvs))) p (.ins C dx (putF "kinds" (.ref kA) (cfld0 dl el wl)))) b=some o:=λ b o hb hne=>by
  rw[zAJ hne];exact zAC hkA _ _ hb
 have h12:=keep _ _ h1 (Ne.symm pd);have h22:=keep _ _ h2 (Ne.symm pe);have h32:=keep _ _ h3 (Ne.symm pw);generalize upd (upd H1 kA _) p _=H2 at fr2 hp2 hk2 h12 h22 h32 ⊢;have c1:=zA8 "kinds" (.ref kA) (cfld0 dl el wl)
 have fin:∀fA,H2 fA=none->Q .non (upd (upd H2 fA (.dK [])) p (.ins C dx (putF "facts" (.ref fA) (putF "kinds" (.ref kA) (cfld0 dl el wl))))):=λ fA hfA=>by
  have g3:=zAC (o:=.dK []) hfA;have pf:p≠fA:=zAI hp2 hfA
  have up:∀b o,H2 b=some o->b≠p->(upd (upd H2 fA (.dK [])) p (.ins C dx (putF "facts" (.ref fA) (putF "kinds" (.ref kA) (cfld0 dl el wl))))) b=some o:=λ b o hb hne=>by
   rw[zAJ hne];exact g3 _ _ hb
  refine q ⟨p,kA,fA,dl,el,wl⟩ _ rfl ndl nel nwl ⟨⟨dx,zAA⟩,up _ _ h12 (Ne.symm pd),up _ _ h22 (Ne.symm pe),up _ _ h32 (Ne.symm pw),de,dw,ew⟩ (up _ _ hk2 (Ne.symm pk)) ?_ λ b o hb hne=>up _ _ (fr2 b o hb hne) hne;rw[zAJ (Ne.symm pf)];exact zAA
 obtain⟨fa,rfl,⟨fo,hfa,hfd⟩|hfa⟩:=hf.kpP hp fr2
 ·refine⟨_,rfl,.inl ⟨fa,fo,[],[],rfl,hfa,hfd,.nil,lX _,λ fA hfA=>?_⟩⟩
  exact⟨_,rfl,p,C,dx,_,rfl,zAC hfA _ _ hp2,T.cl,T.nF,(by omega),fin fA hfA⟩
 ·refine⟨_,rfl,.inr ⟨fa,[],rfl,hfa,λ fA hfA=>?_⟩⟩
  exact⟨_,rfl,p,C,dx,_,rfl,zAC hfA _ _ hp2,T.cl,T.nF,(by omega),fin fA hfA⟩
def zCk (C:Addr) (b:Bool):Sp:=λ vs H Q U=>E6 λ(a:CA) (ds es ws:List V) (t k:V)=>A4 (vs=[.ref a.p,t,k]) (Cs C H a ds es ws) (ws.length<=900) (∀(i:Addr) (H':Hp),H i=none->H' i=some (.tup [t,k,.bl b])->Cs C H' a ds es (ws++[.ref i])->a.Kp H H'->Q .non H')
theorem zFT {C:Addr}{H:Hp}{a:CA}{i:Addr}{ds es ws:List V}{t k:V}{b:Bool}(c:Cs C H a ds es ws) (hi:H i=none) :
  let H':=upd (upd H i (.tup [t,k,.bl b])) a.wl (.lst (ws++[.ref i]));H' i=some (.tup [t,k,.bl b])/\Cs C H' a ds es (ws++[.ref i])/\a.Kp H H' :=
 ⟨by rw[zAJ (Ne.symm (zAI c.w hi))];exact zAA,(c.same (zAC hi)).setw _,(zAC hi).kp.trans kp_w⟩
theorem zE7 (F:Fun K "await_run" "Course.await_run" zAk f fd) (T:Txt K mg C B fB):FnOk P w K mg base CX0 (k+1) f fd ["self", "tree", "known"] (zCk C false):=by
 refine F.ok zCY (λ vs H Q E h=>?_) (λ cdv A outer s H vs Q E hr h=>?_)
 ·obtain⟨a,ds,es,ws,t,k,rfl,_⟩:=h
  rfl
 obtain⟨a,ds,es,ws,t,k,rfl,c,hl,q⟩:=h;obtain⟨dx,hp⟩:=c.ob;refine⟨_,(zAF (pAp (zBf (pv 0) rfl) (zAi (zAB (pv 1) (zAB (pv 2) (zAB pe_bl zAD))):PE _ _ _))),?_⟩;refine⟨_,rfl,a.p,C,dx,_,_,rfl,hp,T.cl,T.nW,CA.waiting,.inl ⟨rfl,_,SqL.of c.w⟩,_,rfl,_,rfl,(by show 3<=sizeLine;decide),λ i hi=>?_⟩;refine⟨a.wl,ws,_,rfl,rfl,zAC hi _ _ c.w,zAS (by omega),?_⟩;obtain⟨h1,h2,h3⟩:=zFT (t:=t) (k:=k) (b:=false) c hi;exact q i _ hi h1 h2 h3
theorem zEY (F:Fun K "await_rest" "Course.await_rest" zAf f fd) (T:Txt K mg C B fB):FnOk P w K mg base CX0 (k+1) f fd ["self", "tree", "known"] (zCk C true):=by
 refine F.ok zCT (λ vs H Q E h=>?_) (λ cdv A outer s H vs Q E hr h=>?_)
 ·obtain⟨a,ds,es,ws,t,k,rfl,_⟩:=h
  rfl
 obtain⟨a,ds,es,ws,t,k,rfl,c,hl,q⟩:=h;obtain⟨dx,hp⟩:=c.ob;refine⟨_,(zAF (pAp (zBf (pv 0) rfl) (zAi (zAB (pv 1) (zAB (pv 2) (zAB pe_bl zAD))):PE _ _ _))),?_⟩;refine⟨_,rfl,a.p,C,dx,_,_,rfl,hp,T.cl,T.nW,CA.waiting,.inl ⟨rfl,_,SqL.of c.w⟩,_,rfl,_,rfl,(by show 3<=sizeLine;decide),λ i hi=>?_⟩;refine⟨a.wl,ws,_,rfl,rfl,zAC hi _ _ c.w,zAS (by omega),?_⟩;obtain⟨h1,h2,h3⟩:=zFT (t:=t) (k:=k) (b:=true) c hi;exact q i _ hi h1 h2 h3
noncomputable abbrev zAZ:Stmt:=zBL (top 27) 2
theorem zCB:zAR ["self", "told"] ["self", "told"] (zAH zAZ):=scI
noncomputable abbrev zAX:Stmt:=zBL (top 27) 3
theorem zBH:zAR ["self", "unknown", "told"] ["self", "unknown"] (zAH zAX):=scI
noncomputable abbrev zAb:Stmt:=zBL (top 27) 4
theorem zCD:zAR ["self", "atom", "known"] ["self", "atom", "known"] (zAH zAb):=scI
noncomputable abbrev zAe:Stmt:=zBL (top 27) 5
theorem zBT:zAR ["self", "gap", "known", "unknown", "ends"] ["self", "gap", "known"] (zAH zAe):=scI
noncomputable abbrev zAa:Stmt:=zBL (top 27) 6
theorem zCC:zAR ["self", "leaf", "known"] ["self", "leaf", "known"] (zAH zAa):=scI
noncomputable abbrev zAd:Stmt:=zBL (top 27) 7
theorem zCS:zAR ["self", "sign", "one", "other"] ["self", "sign", "one", "other"] (zAH zAd):=scI
def zEN (C:Addr):Sp:=λ vs H Q U=>E6 λ(a:CA) (ds es ws:List V) (t:Tr) (v:V)=>A6 (vs=[.ref a.p,v]) (Cs C H a ds es ws) (es.length<=900) (EndR H t v) (lvT t<=10) (∀H',Same H H'->Q .non (upd H' a.el (.lst (es++[v]))))
theorem zKZ (F:Fun K "end_with" "SumCourse.end_with" zAZ f fd) (T:Txt K mg C B fB) (zL0:FnB P w K mg base k "is_too_great" g1 gd1 ["told"] zGG):FnOk P w K mg base CX0 (k+1) f fd ["self", "told"] (zEN C):=by
 refine F.ok zCB (λ vs H Q E h=>?_) (λ cdv A outer s H vs Q E hr h=>?_)
 ·obtain⟨a,ds,es,ws,t,v,rfl,_⟩:=h
  rfl
 obtain⟨a,ds,es,ws,t,v,rfl,c,hl,⟨A1,hA,hS⟩,ht,q⟩:=h;refine⟨_,(zAF (ps_if (zGN (pe_cl zL0 hr (zAB (pv 1) zAD))) zA1 (zAF (pAp (zBf (pv 0) rfl) (pv 1))))),?_⟩;have f1:=hS.few;have f2:=pB_le (lvT t) (by omega);refine⟨_,rfl,v,lvT t,A1,rfl,hA,ht,by omega,λ H1 g1=>?_⟩;have c1:=c.same g1;obtain⟨dx,hp⟩:=c1.ob;refine⟨_,rfl,iteF ?_⟩;exact⟨_,rfl,a.p,C,dx,_,_,rfl,hp,T.cl,T.nE,CA.ends,.inl ⟨rfl,_,SqL.of c1.e⟩,_,rfl,a.el,es,_,rfl,rfl,c1.e,zAS (by omega),q H1 g1⟩
def zGF (C:Addr):Sp:=λ vs H Q U=>E6 λ(a:CA) (ds es ws:List V) (g:Str) (v:V)=>A5 (vs=[.ref a.p,v]) (Cs C H a ds es ws) (H a.fA=some (.dK [])) (DR H (unkD g) v) (∀(u:V) (H':Hp),Same H H'->SumA H' 1 [(.tup [unkD g],1)] u->Q u H')
theorem zI4 (F:Fun K "known_sum" "SumCourse.known_sum" zAX f fd) (T:Txt K mg C B fB) (zL1:FnB P w K mg base k "sum_of" g1 gd1 ["unknown"] zGB):FnOk P w K mg base CX0 (k+1) f fd ["self", "unknown"] (zGF C):=by
 refine F.ok zBH (λ vs H Q E h=>?_) (λ cdv A outer s H vs Q E hr h=>?_)
 ·obtain⟨a,ds,es,ws,g,v,rfl,_⟩:=h
  rfl
 obtain⟨a,ds,es,ws,g,v,rfl,c,hf,hv,q⟩:=h;have hu5:=hu150 hr
 refine⟨_,(zAG (pS (i:=2) zBH.nd (pe_cl zL1 hr (zAB (pv 1) zAD)))
  (zAG (ps_if (zAN zJa (zIs hu5 (zBf (pv 0) rfl) (zAi (zAB zAL (zAB (pv 2) zAD)):PE _ _ _) ⟨rfl,rfl,rfl,rfl⟩) pe_bl (zAU _)) (zAF (zAY (zAi zAD:PE _ _ _))) zAW)
  (zAF (zAY (pv 2))))),?_⟩
 refine⟨_,rfl,v,g,rfl,hv,λ u H1 k1 hs=>?_⟩;have c1:=c.same k1;obtain⟨dx,hp⟩:=c1.ob;have hf1:=k1 _ _ hf;refine⟨_,rfl,a.p,C,dx,_,_,rfl,hp,T.cl,T.nF,CA.facts,a.fA,[],rfl,.inr ⟨hf1,rfl⟩,_,rfl,(by show 2<=sizeLine;decide),λ p2 h2=>?_⟩;have k2:=zAC (o:=.tup [.str "nought", u]) h2;refine⟨.tup [.str "nought", sumD [(.tup [unkD g],1)]],[],.inr ⟨k2 _ _ hf1,rfl⟩,⟨p2,rfl,?_,?_⟩,?_⟩
 ·exact .tup zAA (.cons (.str _) (.cons (hs.dr.mono k2.tk) .nil))
 ·simp[Dt.deep,Dt.deeps,sumD,rowD,unkD]
 ·refine⟨true,rfl,.inl ⟨rfl,_,rfl,iteF ?_⟩⟩
  exact⟨_,rfl,q u _ (k1.trans k2) (hs.mono k2.tk)⟩
def zHX:Sp:=λ vs H Q U=>E4 λ(s v dv:V) (n:Int)=>A5 (vs=[s,v,dv]) (Rep H (.num n) v) (0<=n) (n<NN) (∀(u:V) (H':Hp),Same H H'->SumA H' 0 (polyT (.num n)) u->Q u H')
theorem zKj (F:Fun K "atom_sum" "SumCourse.atom_sum" zAb f fd) (zL2:FnB P w K mg base k "number_sum" g1 gd1 ["number"] zE0):FnOk P w K mg base CX0 (k+1) f fd ["self", "atom", "known"] zHX:=by
 refine F.ok zCD (λ vs H Q E h=>?_) (λ cdv A outer s H vs Q E hr h=>?_)
 ·obtain⟨s,v,dv,n,rfl,_⟩:=h
  rfl
 obtain⟨s,v,dv,n,rfl,⟨b,rfl,hb⟩,n0,n1,q⟩:=h
 refine⟨_,(zAG (ps_if (zAN op_eq (iC (r:=rIxT K) zAP (pv 1)) zAL (zAU _)) (zAF (zAY (pe_cl zL2 hr (zAB (iC (r:=rIxT K) zAP (pv 1)) zAD)))) zAW)
  zA1),?_⟩
 refine⟨_,rfl,b,_,0,_,rfl,rfl,SqT.of hb,rfl,rfl,_,rfl,iteY rfl ?_⟩;exact⟨_,rfl,b,_,1,_,rfl,rfl,SqT.of hb,rfl,n,rfl,n0,n1,q⟩
def zJU (C:Addr):Sp:=λ vs H Q U=>E8 λ(a:CA) (ds es ws:List V) (g:Str) (kk:List (Key × V)) (v dv:V)=>A8 (vs=[.ref a.p,v,dv]) (Cs C H a ds es ws) (es.length<=900) (H a.fA=some (.dK [])) (H a.kA=some (.dK kk)) (kIn kk g) (Rep H (.gap g []) v) (∀(u:V) (H':Hp),Same H H'->EndR H' (.gap g []) u->Q .non (upd H' a.el (.lst (es++[u]))))
theorem zLV (F:Fun K "end_gap" "SumCourse.end_gap" zAe f fd) (T:Txt K mg C B fB) (z_tuple:mg "tuple" = none) (zL3:FnM P w K mg base k C "end_with" g1 gd1 ["self", "told"] (zEN C)) (zL4:FnM P w K mg base k C "known_sum" g2 gd2 ["self", "unknown"] (zGF C)):FnOk P w K mg base CX0 (k+1) f fd ["self", "gap", "known"] (zJU C):=by
 refine F.ok zBT (λ vs H Q E h=>?_) (λ cdv A outer s H vs Q E hr h=>?_)
 ·obtain⟨a,ds,es,ws,g,kk,v,dv,rfl,_⟩:=h
  rfl
 obtain⟨a,ds,es,ws,g,kk,v,dv,rfl,c,hl,hf,hk,hg,⟨b,b2,us,rfl,hb,hb2,hlu,hus⟩,q⟩:=h;cases hus;have hu:=hu_of hr
 refine⟨_,(zAG (pS (i:=3) zBT.nd (zAi (zAB (iC (r:=rIxT K) zAP (pv 1)) (zAB (zBR zBZ (by rfl) z_tuple rR (zAB (zB3 ["atom", "known", "self"] [none,some 2,some 0] rfl (zCo (iC (r:=rIxT K) zAP (pv 1))) (λ U U U U U=>(zBD (i:=0) (show List.Nodup (["atom", "known", "self"]:List Str) by right) rfl (Or.inl rfl))) (λ U U U U U=>zCe) (λ U U U U U=>zLP) rfl) zAD)) zAD)):PE _ _ _))
  (zAG (ps_if (zAN (zJb hu) (iC (r:=rIxT K) zAP (pv 1)) (zBf (pv 0) rfl) rfl) (zAG (zA4 (zBE (pv 0) T.cl zL3.mt zL3.ok hr zL3.bd .nil pass0 (zAB (zBE (pv 0) T.cl zL4.mt zL4.ok hr zL4.bd .nil pass0 (zAB (pv 3) zAD)) zAD)))
  (zAF zKD)) zAW) zA1)),?_⟩
 refine⟨_,rfl,b,_,1,_,rfl,rfl,SqT.of hb,rfl,_,rfl,b,_,2,_,rfl,rfl,SqT.of hb,rfl,b2,rfl,⟨[],SqT.of hb2⟩,λ acc hacc=>?_⟩;refine zDn (xs:=[]) (λ i H2=>Same H H2/\H2 acc=some (.lst [])) ⟨zAC hacc,zAA⟩ (λ i H2 U h=>SqT.of (h.1 _ _ hb2)) ?_ ?_
 ·rintro i x H2 hx _
  cases hx
 rintro H2 ⟨k2,e2⟩;refine⟨acc,[],rfl,.inl ⟨SqL.of e2,λ l hl2=>⟨(by show 2<=sizeLine;decide),λ u hu2=>?_⟩⟩⟩;have k3:=zAC (o:=.tup []) hl2;have k4:=zAC (o:=.tup [.str g,.ref l]) hu2;have kk4:=k2.trans (k3.trans k4);have du:DR (upd (upd H2 l (.tup [])) u (.tup [.str g,.ref l])) (unkD g) (.ref u):=.tup zAA (.cons (.str _) (.cons (.tup (k4 _ _ zAA) .nil) .nil));generalize upd (upd H2 l _) u _=H4 at kk4 du ⊢;have c4:=c.same kk4;obtain⟨dx,hp⟩:=c4.ob;refine⟨_,rfl,b,_,1,_,rfl,rfl,SqT.of (kk4 _ _ hb),rfl,_,rfl,a.p,C,dx,_,_,rfl,hp,T.cl,T.nK,CA.kinds,a.kA,_,rfl,DGet.k (k:=Sum.inr g) (kk4 _ _ hk),_,rfl,?_⟩;have hg':(valV kk (Sum.inr g:Key)).isSome=true:=hg;rw[hg'];refine iteT ?_;refine⟨_,rfl,a.p,dx,_,rfl,hp,CA.no (by right),_,rfl,a.p,dx,_,rfl,hp,CA.no (by right),_,rfl,?_⟩;refine⟨a,ds,es,ws,g,.ref u,rfl,c4,kk4 _ _ hf,du,λ w5 H5 k5 hs5=>?_⟩;have e5:EndR H5 (.gap g []) w5:=⟨_,hs5,zJu g⟩;refine⟨a,ds,es,ws,.gap g [],w5,rfl,c4.same k5,hl,e5,(by show 1<=10;decide),λ H6 k6=>?_⟩;exact q w5 H6 (kk4.trans (k5.trans k6)) (e5.mono k6.tk)
def zHU (C:Addr):Sp:=λ vs H Q U=>E9 λ(a:CA) (ds es ws:List V) (S:Str->Prop) (t:Tr) (kk:List (Key × V)) (v dv:V)=>A10 (vs=[.ref a.p,v,dv]) (Cs C H a ds es ws) (es.length<=900) (H a.fA=some (.dK [])) (H a.kA=some (.dK kk)) (∀g,S g->kIn kk g) (Rep H t v) (SmT S t) (t.kd.leaf=true) (∀(u:V) (H':Hp),Same H H'->EndR H' t u->Q .non (upd H' a.el (.lst (es++[u]))))
theorem zKg (F:Fun K "end_leaf" "SumCourse.end_leaf" zAa f fd) (T:Txt K mg C B fB) (zL3:FnM P w K mg base k C "end_with" g1 gd1 ["self", "told"] (zEN C)) (zL5:FnM P w K mg base k C "end_gap" g2 gd2 ["self", "gap", "known"] (zJU C))
  (zL6:FnM P w K mg base k C "atom_sum" g3 gd3 ["self", "atom", "known"] zHX):FnOk P w K mg base CX0 (k+1) f fd ["self", "leaf", "known"] (zHU C):=by
 refine F.ok zCC (λ vs H Q E h=>?_) (λ cdv A outer s H vs Q E hr h=>?_)
 ·obtain⟨a,ds,es,ws,S,t,kk,v,dv,rfl,_⟩:=h
  rfl
 obtain⟨a,ds,es,ws,S,t,kk,v,dv,rfl,c,hl,hf,hk,hg,rt,st,lf,q⟩:=h;refine⟨_,(zAF (ps_if (zAN op_eq (iC (r:=rIxT K) zAP (pv 1)) zAL (zAU _)) (zAF (zA4 (zBE (pv 0) T.cl zL5.mt zL5.ok hr zL5.bd .nil pass0 (zAB (pv 1) (zAB (pv 2) zAD))))) (zAF (ps_if (zAN op_eq (iC (r:=rIxT K) zAP (pv 1)) zAL (zAU _)) zA1 (zAF (zA4 (zBE (pv 0) T.cl zL3.mt zL3.ok hr zL3.bd .nil pass0 (zAB (zBE (pv 0) T.cl zL6.mt zL6.ok hr zL6.bd .nil pass0 (zAB (pv 1) (zAB (pv 2) zAD))) zAD)))))))),?_⟩;obtain⟨dx,hp⟩:=c.ob;cases t with
 |num n =>
  obtain⟨b,rfl,hb⟩:=id rt;refine⟨_,rfl,b,_,0,_,rfl,rfl,SqT.of hb,rfl,rfl,_,rfl,iteN (by right) ?_⟩;refine⟨_,rfl,b,_,0,_,rfl,rfl,SqT.of hb,rfl,rfl,_,rfl,iteN (by right) ?_⟩;refine⟨_,rfl,a.p,dx,_,rfl,hp,CA.no (by right),_,rfl,a.p,dx,_,rfl,hp,CA.no (by right),_,rfl,_,rfl,?_⟩;refine⟨_,_,dv,n,rfl,rt,st.1,st.2,λ u H1 k1 hs=>?_⟩;have e1:EndR H1 (.num n) u:=⟨_,hs.more (lX _),zJt st.1 st.2⟩;refine⟨a,ds,es,ws,.num n,u,rfl,c.same k1,hl,e1,(by show 1<=10;decide),λ H2 k2=>q u H2 (k1.trans k2) (e1.mono k2.tk)⟩
 |gap g as =>
  obtain⟨rfl,sg⟩:=st;obtain⟨b,b2,us,rfl,hb,_⟩:=id rt;refine⟨_,rfl,b,_,0,_,rfl,rfl,SqT.of hb,rfl,rfl,_,rfl,iteY rfl ?_⟩;refine⟨_,rfl,a.p,dx,_,rfl,hp,CA.no (by right),_,rfl,_,rfl,?_⟩;exact⟨a,ds,es,ws,g,kk,_,dv,rfl,c,hl,hf,hk,hg g sg,rt,q⟩
 |bin o x y=>cases o<;>cases lf
 |_=>exact st.elim
def zJS (C:Addr):Sp:=λ vs H Q U=>E9 λ(a:CA) (ds es ws:List V) (o:Bin) (t u:Tr) (v1 v2:V)=>A8 (vs=[.ref a.p,.str o.s,v1,v2]) (Cs C H a ds es ws) (es.length<=900) (o = .add\/o = .sub\/o = .mul) (EndR H t v1) (EndR H u v2) (lvT t+lvT u<=10) (∀(x:V) (H':Hp),Same H H'->EndR H' (.bin o t u) x->Q .non (upd H' a.el (.lst (es++[x]))))
theorem zLS (F:Fun K "end_two" "SumCourse.end_two" zAd f fd) (T:Txt K mg C B fB) (zL3:FnM P w K mg base k C "end_with" g1 gd1 ["self", "told"] (zEN C)) (zL7:FnB P w K mg base k "reckoned_sum" g2 gd2 ["sign", "one", "other"] zHT):FnOk P w K mg base CX0 (k+1) f fd ["self", "sign", "one", "other"] (zJS C):=by
 refine F.ok zCS (λ vs H Q E h=>?_) (λ cdv A outer s H vs Q E hr h=>?_)
 ·obtain⟨a,ds,es,ws,o,t,u,v1,v2,rfl,_⟩:=h
  rfl
 obtain⟨a,ds,es,ws,o,t,u,v1,v2,rfl,c,hl,ho,⟨A1,hA,sA⟩,⟨B1,hB,sB⟩,hlv,q⟩:=h;refine⟨_,(zAF (zA4 (zBE (pv 0) T.cl zL3.mt zL3.ok hr zL3.bd .nil pass0 (zAB (pe_cl zL7 hr (zAB (pv 1) (zAB (pv 2) (zAB (pv 3) zAD)))) zAD)))),?_⟩;obtain⟨dx,hp⟩:=c.ob;refine⟨_,rfl,a.p,dx,_,rfl,hp,CA.no (by right),_,rfl,_,rfl,_,rfl,o,v1,v2,t,u,A1,B1,rfl,ho,hA,hB,sA,sB,hlv,λ x R1 H1 k1 hs sR=>?_⟩;have e1:EndR H1 (.bin o t u) x:=⟨R1,hs,sR⟩;exact⟨a,ds,es,ws,.bin o t u,x,rfl,c.same k1,hl,e1,hlv,λ H2 k2=>q x H2 (k1.trans k2) (e1.mono k2.tk)⟩
abbrev zB0:Stmt:=top 2
theorem zDt:zAR ["tree"] ["tree"] (zAH zB0):=scI
abbrev zFb:Stmt:=top 3
theorem zIf:zAR ["tree"] ["tree"] (zAH zFb):=scI
abbrev zBo:Stmt:=top 5
theorem zDN:zAR ["tree"] ["tree"] (zAH zBo):=scI
noncomputable def zDq (t:Tr):Int:=t.head
def zCU:Sp:=λ vs H Q U=>E2 λ t v=>A3 (vs=[v]) (Rep H t v) (Q (.int (zDq t)) H)
theorem zDv {k:Nat}{f:Addr}{fd:FuncData}{lv:Addr}(F:Fun K "parts_begin" "parts_begin" zB0 f fd) (z_len:mg "len" = none) (zL8:mg "LEAF_SIGNS" = some (.ref lv)) (hL:zDs K lv) :
  FnOk P w K mg base CX0 (k+1) f fd ["tree"] zCU:=by
 refine F.ok zDt (λ vs H Q E h=>?_) (λ cdv A outer s H vs Q E hr h=>?_)
 ·obtain⟨t,v,rfl,_⟩:=h
  rfl
 obtain⟨t,v,rfl,hR,q⟩:=h
 refine⟨_,(zAG (ps_if (zAN (r:=rIn K false) zBw (iC (r:=rIxT K) zAP (pv 0)) (zB2 (v:=.ref _) (by rfl) zL8 (by rfl)) rfl) (zAF (zAY (cL z_len (zAB (pv 0) zAD)))) zAW)
  (zAG (ps_if (zAN op_eq (iC (r:=rIxT K) zAP (pv 0)) zAL (zAU _)) (zAF (zAY zAE)) zAW)
  (zAF (zAY zAE)))),?_⟩
 obtain⟨a,hs,us,rfl,ha,hl,hp⟩:=hR.all;have h0:atI (V.str t.kd.s::hs++us) 0=some (.str t.kd.s):=zCL (j:=0) rfl;refine⟨_,rfl,a,_,0,_,rfl,rfl,SqT.of ha,h0,lv,zD3,rfl,.inr (.inr hL),rfl,rfl,_,rfl,?_⟩;show if inV (.str t.kd.s) zD3=true then _ else _
 rw[zGZ];refine ite2 (λ c=>?_) (λ c=>?_)
 ·refine⟨_,rfl,a,_,rfl,.inr (SqT.of ha),?_⟩
  have e:((V.str t.sign::hs++us).length:Int)=zDq t:=by
   have hu:us.length=0:=by
    rw[←hp.length];cases t with
    |bin o a b=>cases o<;>cases c
    |_=>first|rfl|cases c
   rw[mL,mN,hu];unfold zDq;omega
  rw[e];exact q
 ·refine⟨_,rfl,a,_,0,_,rfl,rfl,SqT.of ha,h0,rfl,_,rfl,?_⟩
  refine ite2 (λ d=>?_) (λ d=>?_)
  ·have z:t.kd = .lett:=Kd.eq_iff.mp (lR d)
   have e:zDq t=2:=by
    cases t with
    |lett x a b=>rfl
    |bin o a b=>cases o<;>cases z
    |_=>cases z
   rw[e] at q;exact q
  ·have e:zDq t=1:=by
    cases t with
    |lett x a b=>exact absurd rfl d
    |bin o a b=>rfl
    |ite a b c=>rfl
    |say a=>rfl
    |_=>exact absurd rfl c
   rw[e] at q;exact q
def zGC:Sp:=λ vs H Q U=>E2 λ t v=>A3 (vs=[v]) (Rep H t v) (∀p H' us,Same H H'->H' p=some (.tup us)->Paired (Rep H') t.parts us->Q (.ref p) H')
theorem zI0 (F:Fun K "parts" "parts" zFb f fd) (zL9:FnB P w K mg base k "parts_begin" g gd ["tree"] zCU) :
  FnOk P w K mg base CX0 (k+1) f fd ["tree"] zGC:=by
 refine F.ok zIf (λ vs H Q E h=>?_) (λ cdv A outer s H vs Q E hr h=>?_)
 ·obtain⟨t,v,rfl,_⟩:=h
  rfl
 obtain⟨t,v,rfl,hR,q⟩:=h;refine⟨_,(zAF (zAY (zDI zFY (pv 0) (zDX (pe_cl zL9 hr (zAB (pv 0) zAD))) zFh))),?_⟩;obtain⟨a,hs,us,rfl,ha,hl,hp⟩:=hR.all;have hn:(V.str t.sign::hs++us).length=t.head+us.length:=by rw[mL,mN];omega
 have h1:=zJG t
 have e1:HT.sIx (V.str t.sign::hs++us).length 0 (some (zDq t))=t.head:=by
  show HT.sIx _ 0 (some ((t.head:Nat):Int))=_;rw[HT.sIx_nat,hn];omega
 have e2:cutV (V.str t.sign::hs++us) (some (zDq t)) none=us:=by
  unfold cutV;rw[e1,HT.sIx_none,hn]
  have:(V.str t.sign::hs++us).drop t.head=us:=by
   rw[←hl];exact List.drop_left' rfl
  rw[this,mV (by omega)]
 refine⟨_,rfl,_,rfl,t,_,rfl,hR,_,rfl,a,_,rfl,ha,λ z=>?_,λ p H' g e=>?_⟩
 ·rw[e1] at z
  omega
 ·rw[e2] at e
  exact q p H' us g e (Paired.mapP hp λ U U r=>r.mono g.tk)
noncomputable def zA2:Tr->List Tr
 |.say a=>[a]
 |.bin .thn a _=>[a]
 |.bin _ a b=>[a,b]
 |.ite a _ _=>[a]
 |.lett _ a _=>[a]
 |_=>[]
def zB9:Sp:=λ vs H Q U=>E2 λ t v=>A4 (vs=[v]) (Rep H t v) (t.kd.leaf=false) (∀p H' us,Same H H'->H' p=some (.tup us)->Paired (Rep H') (zA2 t) us->Q (.ref p) H')
theorem zJE (k:Kd):inV (.str k.s) [.str "then", .str "if", .str "let"]=(decide (k = .thn) || decide (k = .ite) || decide (k = .lett)):=by cases k<;>right
theorem zDb (F:Fun K "run_at_first" "run_at_first" zBo f fd) (zMA:FnB P w K mg base k "parts" g gd ["tree"] zGC):FnOk P w K mg base CX0 (k+1) f fd ["tree"] zB9:=by
 refine F.ok zDN (λ vs H Q E h=>?_) (λ cdv A outer s H vs Q E hr h=>?_)
 ·obtain⟨t,v,rfl,_⟩:=h
  rfl
 obtain⟨t,v,rfl,hR,hleaf,q⟩:=h
 refine⟨_,(zAG (ps_if (zAN (r:=rIn K false) zBw (iC (r:=rIxT K) zAP (pv 0)) (zKL [.str "then", .str "if", .str "let"] (by rfl):PE _ _ _) rfl) (zAF (zAY (zDI zFY (pe_cl zMA hr (zAB (pv 0) zAD)) zFh (zDX zAE)))) zAW)
  (zAF (zAY (pe_cl zMA hr (zAB (pv 0) zAD))))),?_⟩
 obtain⟨a,hs,us,rfl,ha,hl,hp⟩:=hR.all;have h0:atI (V.str t.kd.s::hs++us) 0=some (.str t.kd.s):=zCL (j:=0) rfl;refine⟨_,rfl,a,_,0,_,rfl,rfl,SqT.of ha,h0,(by show 3<=sizeLine;decide),λ p3 hp3=>⟨p3,_,rfl,.inr (SqT.of zAA),rfl,rfl,_,rfl,?_⟩⟩;have g3:=zAC (o:=.tup [.str "then", .str "if", .str "let"]) hp3;show if inV (.str t.kd.s) [.str "then", .str "if", .str "let"]=true then _ else _
 rw[zJE];have hR3:=hR.mono g3.tk;refine ite2 (λ c=>?_) (λ c=>?_)
 ·refine⟨_,rfl,t,_,rfl,hR3,λ p4 H4 us4 g4 e4 hp4=>?_⟩
  obtain⟨b,r,ep,hne,ef⟩:∃b r,t.parts=b::r/\r≠[]/\zA2 t=[b]:=by
   cases t with
   |bin o s u =>
    cases o with
    |thn=>exact⟨s,[u],rfl,by simp,rfl⟩
    |_=>exact absurd (show false=true from c) (by decide)
   |ite c' s u=>exact⟨c',[s,u],rfl,by simp,rfl⟩
   |lett x s u=>exact⟨s,[u],rfl,by simp,rfl⟩
   |say s=>exact absurd (show false=true from c) (by decide)
   |_=>exact absurd (show true=false from hleaf) (by decide)
  rw[ep] at hp4;cases hp4 with
  | @cons _ u _ rest h1 h2 =>
   have hlen:1<=rest.length:=by
    rw[←h2.length];cases r with
    |nil=>exact absurd rfl hne
    |cons _ _=>simp
   have e1:HT.sIx (u::rest).length (u::rest).length (some 1)=1:=by
    have:HT.sIx (u::rest).length (u::rest).length (some ((1:Nat):Int))=min 1 (u::rest).length:=HT.sIx_nat _ _ _;rw[show ((1:Nat):Int)=1 from rfl] at this;rw[this,mN];omega
   refine⟨_,rfl,p4,_,rfl,e4,λ z=>?_,λ p5 H5 g5 e5=>?_⟩
   ·have z2:=z.2
    rw[e1,mN] at z2;omega
   ·refine q p5 H5 [u] (g3.trans (g4.trans g5)) ?_ ?_
    ·rw[e5]
     unfold cutV;rw[e1,HT.sIx_none];rfl
    ·rw[ef]
     exact .cons (h1.mono g5.tk) .nil
 ·refine⟨_,rfl,t,_,rfl,hR3,λ p4 H4 us4 g4 e4 hp4=>?_⟩
  have ef:zA2 t=t.parts:=by
   cases t with
   |bin o s u =>
    cases o with
    |thn=>exact absurd rfl c
    |_=>rfl
   |ite c' s u=>exact absurd rfl c
   |lett x s u=>exact absurd rfl c
   |_=>rfl
  exact q p4 H4 us4 (g3.trans g4) e4 (by rw[ef];exact hp4)
noncomputable abbrev zAy:Stmt:=zBL (top 7) 3
theorem zCG:zAR ["self", "tree", "known", "part"] ["self", "tree", "known"] (zAH zAy):=scI
noncomputable abbrev zAx:Stmt:=zBL (top 7) 4
theorem zCF:zAR ["self", "tree", "known", "end"] ["self", "tree", "known"] (zAH zAx):=scI
theorem zG7 (t:Tr):(zA2 t).length<=2:=by
 cases t with
 |bin o p q=>cases o<;>simp[zA2]
 |_=>simp[zA2]
def zGI (C:Addr):Sp:=λ vs H Q U=>E8 λ(a:CA) (S:Str->Prop) (t:Tr) (W:List Itm2) (E D:List Tr) (v dv:V)=>A7 (vs=[.ref a.p,v,dv]) (Cg C S H a W E D) (Rep H t v) (MiT S t) (W.length<=800) (E.length<=800) (∀H',Cg C S H' a (bgW t W) (bgE t E) D->a.Kp H H'->Q .non H')
theorem zI7 (F:Fun K "begin" "Course.begin" zAy f fd) (T:Txt K mg C B fB) (z_reversed:mg "reversed" = none) (zL8:mg "LEAF_SIGNS" = some (.ref lv)) (hL:zDs K lv)
  (zMB:FnB P w K mg base k "run_at_first" g1 gd1 ["tree"] zB9) (zMC:FnM P w K mg base k C "end_leaf" g2 gd2 ["self", "leaf", "known"] (zHU C))
  (zMD:FnM P w K mg base k C "await_rest" g3 gd3 ["self", "tree", "known"] (zCk C true)) (zME:FnM P w K mg base k C "await_run" g4 gd4 ["self", "tree", "known"] (zCk C false)) :
  FnOk P w K mg base CX0 (k+1) f fd ["self", "tree", "known"] (zGI C):=by
 refine F.ok zCG (λ vs H Q E h=>?_) (λ cdv A outer s H vs Q E hr h=>?_)
 ·obtain⟨a,S,t,W,E,D,v,dv,rfl,_⟩:=h
  rfl
 obtain⟨a,S,t,W,E0,D,v,dv,rfl,c,hR,hm,lW,lE,q⟩:=h
 refine⟨_,(zAF (ps_if (zAN op_eq (iC (r:=rIxT K) zAP (pv 1)) zAL (zAU _)) zA1 (zAF (ps_if (zAN (r:=rIn K false) zBw (iC (r:=rIxT K) zAP (pv 1)) (zB2 (v:=.ref _) (by rfl) zL8 (by rfl)) rfl) (zAF (zA4 (zBE (pv 0) T.cl zMC.mt zMC.ok hr zMC.bd .nil pass0 (zAB (pv 1) (zAB (pv 2) zAD))))) (zAG (zA4 (zBE (pv 0) T.cl zMD.mt zMD.ok hr zMD.bd .nil pass0 (zAB (pv 1) (zAB (pv 2) zAD))))
  (zAF (zCV PassesOwn.never rfl (zKK (by rfl) z_reversed (zAB (pe_cl zMB hr (zAB (pv 1) zAD)) zAD)) (pGn (i:=3) zCG.nd) (zAF (zA4 (zBE (pv 0) T.cl zME.mt zME.ok hr zME.bd .nil pass0 (zAB (pv 3) (zAB (pv 2) zAD)))))))))))),?_⟩
 obtain⟨b,hs,us,rfl,hb1,hl,hpp⟩:=hR.all;have h0:atI (V.str t.kd.s::hs++us) 0=some (.str t.kd.s):=zCL (j:=0) rfl
 have hns:¬V.str t.kd.s=V.str "stop" := λ z=>by
  have z1:t.kd = .stop:=Kd.eq_iff.mp z;cases t with
  |stop x=>rcases hm with h|⟨s,h,_⟩<;>cases h
  |bin o s u=>cases o<;>cases z1
  |_=>cases z1
 refine⟨_,rfl,b,_,0,_,rfl,rfl,SqT.of hb1,h0,rfl,_,rfl,iteN hns ?_⟩;refine⟨_,rfl,b,_,0,_,rfl,rfl,SqT.of hb1,h0,lv,zD3,rfl,.inr (.inr hL),rfl,rfl,_,rfl,?_⟩;show if inV (.str t.kd.s) zD3=true then _ else _
 rw[zGZ];obtain⟨dx,hp⟩:=c.ob;obtain⟨ds,es,ws,co,h1,h2,h3⟩:=id c.co;have lw:ws.length=W.length:=by rw[zBB h3,List.length_reverse]
 have le:es.length=E0.length:=by rw[zBB h2,List.length_reverse]
 refine ite2 (λ cl=>?_) (λ cl=>?_)
 ·have sm:SmT S t:=hm.elim id λ⟨s,e,_⟩=>by subst e;cases cl
  obtain⟨kk,hk,hg⟩:=c.kn;refine⟨_,rfl,a.p,dx,_,rfl,hp,CA.no (by right),_,rfl,_,rfl,?_⟩;refine⟨a,ds,es,ws,S,t,kk,_,dv,rfl,co,by omega,c.fn,hk,hg,hR,sm,cl,λ u H1 k1 e1=>?_⟩;have c1:=c.same k1
  have eb:bgW t W=W/\bgE t E0=t::E0:=by
   cases t with
   |bin o x y=>cases o<;>cases cl
   |say s=>cases cl
   |_=>exact⟨rfl,rfl⟩
  rw[eb.1,eb.2] at q;exact q _ (c1.push (co.same k1) (Paired.mapP h1 λ U U z=>z.mono k1.tk) (Paired.mapP h2 λ U U z=>z.mono k1.tk) (Paired.mapP h3 λ U U z=>z.mono k1.tk) e1) (k1.kp.trans kp_e)
 ·have cl':t.kd.leaf=false:=by simpa using cl
  have eb:bgW t W=(zA2 t).map (λ s=>(s,false))++(t,true)::W/\bgE t E0=E0:=by
   cases t with
   |bin o x y =>
    have ho:o ≠ .thn:=by
     rcases hm with h|⟨s,h,_⟩
     ·rcases h.1 with rfl|rfl|rfl<;>(intro z;cases z)
     ·cases h
    cases o<;>first|exact⟨rfl,rfl⟩|exact absurd rfl ho
   |say s=>exact⟨rfl,rfl⟩
   |ite x y z=>rcases hm with h|⟨s,h,_⟩<;>cases h
   |lett x y z=>rcases hm with h|⟨s,h,_⟩<;>cases h
   |_=>cases cl'
  rw[eb.1,eb.2] at q;refine⟨_,rfl,a.p,dx,_,rfl,hp,CA.no (by right),_,rfl,_,rfl,?_⟩;refine⟨a,ds,es,ws,_,dv,rfl,co,by omega,λ i H1 hi ei co1 k1=>?_⟩;have t1:=co.td k1;have c1:Cg C S H1 a ((t,true)::W) E0 D:=c.await co h1 h2 h3 k1 co1 ⟨i,_,dv,rfl,ei,hR.mono t1.tk⟩;refine⟨_,rfl,t,_,rfl,hR.mono t1.tk,cl',λ pf H2 fs g2 ef hf=>⟨pf,rfl,fs,SqT.of ef,?_⟩⟩;have lf:fs.length=(zA2 t).length:=zBB hf;have l2:=zG7 t;refine zKw (xs:=fs) (λ j σ' H'=>∃(s3:Option V),A3 (σ'=[some (.ref a.p),some (.ref b),some dv,s3]) (Cg C S H' a (((zA2 t).drop ((zA2 t).length - j)).map (λ s=>(s,false))++(t,true)::W) E0 D) (a.Kp H2 H')) ?_ ?_ ?_ ?_
  ·refine⟨none,rfl,?_,Kp.refl _⟩
   rw[Nat.sub_zero,List.drop_length];exact c1.same g2
  ·rintro j σ1 H3 _ ⟨s3,rfl,c3,k3⟩
   exact SqT.of ((c1.same g2).td k3 |>.tk _ _ ef)
  ·rintro j x σ1 H3 hj hx ⟨s3,rfl,c3,k3⟩
   obtain⟨s,es',rs⟩:=zD9 hf hx;have t3:=(c1.same g2).td k3;obtain⟨dx3,hp3⟩:=c3.ob;obtain⟨ds3,es3,ws3,co3,h13,h23,h33⟩:=id c3.co
   have lw3:ws3.length<=900:=by
    rw[zBB h33,List.length_reverse,mL,lC,mX,mN];omega
   refine⟨_,rfl,a.p,dx3,_,rfl,hp3,CA.no (by right),_,rfl,_,rfl,?_⟩;refine⟨a,ds3,es3,ws3,_,dv,rfl,co3,lw3,λ i4 H4 hi4 ei4 co4 k4=>⟨some x,rfl,?_,k3.trans k4⟩⟩;have t4:=co3.td k4;have c4:Cg C S H4 a ((s,false)::(((zA2 t).drop ((zA2 t).length - j)).map (λ s=>(s,false))++(t,true)::W)) E0 D:=c3.await co3 h13 h23 h33 k4 co4 ⟨i4,x,dv,rfl,ei4,rs.mono (t3.trans t4).tk⟩;have hjl:j<(zA2 t).length:=by rw[←lf];exact hj
   have ed:(zA2 t).drop ((zA2 t).length - (j+1))=s::(zA2 t).drop ((zA2 t).length - j):=by
    have hlt:(zA2 t).length - (j+1)<(zA2 t).length:=by omega
    rw[List.drop_eq_getElem_cons hlt];have e1:(zA2 t).length - (j+1)+1=(zA2 t).length - j:=by omega
    have e2:(zA2 t)[(zA2 t).length - (j+1)]=s:=by
     have:=lJ.mp es';obtain⟨_,z⟩:=this;rw[←z];congr 1;rw[lf];omega
    rw[e1,e2]
   rw[ed];exact c4
  ·rintro σ1 H3 ⟨s3,rfl,c3,k3⟩
   rw[lf,Nat.sub_self,List.drop_zero] at c3;exact q _ c3 (k1.trans (g2.kp.trans k3))
def zHW (C:Addr):Sp:=λ vs H Q U=>E9 λ(a:CA) (S:Str->Prop) (t e1:Tr) (W:List Itm2) (E D:List Tr) (v dv:V)=>A6 (vs=[.ref a.p,v,dv]) (Cg C S H a W (e1::E) D) (Rep H t v) (E.length<=800) (D.length<=800) ((∃s,t = .say s/\∀H',Cg C S H' a W (e1::E) (D++[e1])->a.Kp H H'->Q .non H')\/∃(o:Bin) (x y e2:Tr) (E1:List Tr),t = .bin o x y/\(o = .add\/o = .sub\/o = .mul)/\E=e2::E1/\lvT e2+lvT e1<=10/\∀H',Cg C S H' a W (.bin o e2 e1::E1) D->a.Kp H H'->Q .non H')
theorem zKi (F:Fun K "go_on" "Course.go_on" zAx f fd) (T:Txt K mg C B fB) (zMF:FnM P w K mg base k C "end_two" g2 gd2 ["self", "sign", "one", "other"] (zJS C)) :
  FnOk P w K mg base CX0 (k+1) f fd ["self", "tree", "known"] (zHW C):=by
 refine F.ok zCF (λ vs H Q E h=>?_) (λ cdv A outer s H vs Q E hr h=>?_)
 ·obtain⟨a,S,t,e1,W,E,D,v,dv,rfl,_⟩:=h
  rfl
 obtain⟨a,S,t,e1,W,E0,D,v,dv,rfl,c,hR,lE,lD,hq⟩:=h
 refine⟨_,(zAG (pS (i:=3) zCF.nd (zE5 rX PySem.F.slot_list_pop PySem.F.type_list_pop zE9 (zBf (pv 0) rfl)))
  (zAF (ps_if (zAN op_eq (iC (r:=rIxT K) zAP (pv 1)) zAL (zAU _)) (zAG (pAp (zBf (pv 0) rfl) (zAi (zAB zAL (zAB (pv 3) zAD)):PE _ _ _))
  (zAF (pAp (zBf (pv 0) rfl) (pv 3)))) (zAF (ps_if (zAN op_eq (iC (r:=rIxT K) zAP (pv 1)) zAL (zAU _)) zA1 (zAF (ps_if (zAN op_eq (iC (r:=rIxT K) zAP (pv 1)) zAL (zAU _)) zA1 (zAF (ps_if (zAN op_eq (iC (r:=rIxT K) zAP (pv 1)) zAL (zAU _)) zA1 (zAF (zA4 (zBE (pv 0) T.cl zMF.mt zMF.ok hr zMF.bd .nil pass0 (zAB (iC (r:=rIxT K) zAP (pv 1)) (zAB (zE5 rX PySem.F.slot_list_pop PySem.F.type_list_pop zE9 (zBf (pv 0) rfl)) (zAB (pv 3) zAD))))))))))))))),?_⟩
 obtain⟨ds,es,ws,co,h1,h2,h3⟩:=id c.co;obtain⟨dx,hp⟩:=co.ob;have ld:ds.length=D.length:=zBB h1;rw[List.reverse_cons] at h2;obtain⟨es1,u,rfl,h21,r1⟩:=zB4 h2;have le:es1.length=E0.length:=by rw[zBB h21,List.length_reverse]
 have ce:=co.e;refine⟨_,rfl,a.p,C,dx,_,_,rfl,hp,T.cl,T.nE,CA.ends,.inl ⟨rfl,_,SqL.of ce⟩,a.el,_,u,rfl,rfl,ce,by simp,?_⟩;rw[List.dropLast_concat];have co1:Cs C (upd H a.el (.lst es1)) a ds es1 ws:=co.sete _;have t1:TD H (upd H a.el (.lst es1)):=TD.lst ce;have k1:a.Kp H (upd H a.el (.lst es1)):=kp_e;generalize upd H a.el _=H1 at co1 t1 k1 ⊢;have h1':Paired (DeedR H1) D ds:=Paired.mapP h1 λ U U z=>z.mono t1.tk;have h2':Paired (EndR H1) E0.reverse es1:=Paired.mapP h21 λ U U z=>z.mono t1.tk;have h3':Paired (ItR H1) W.reverse ws:=Paired.mapP h3 λ U U z=>z.mono t1.tk;have r1':=r1.mono t1.tk;have hR1:=hR.mono t1.tk;have c1:Cg C S H1 a W E0 D:=c.new t1 co1 h1' h2' h3';obtain⟨dx1,hp1⟩:=co1.ob;rcases hq with ⟨s0,rfl,q⟩|⟨o,x,y,e2,E1,rfl,ho,rfl,hlv,q⟩
 ·obtain⟨b,u0,rfl,hb1,_⟩:=hR1
  refine⟨_,rfl,b,_,0,_,rfl,rfl,SqT.of hb1,rfl,rfl,_,rfl,iteY rfl ?_⟩;refine⟨_,rfl,a.p,C,dx1,_,_,rfl,hp1,T.cl,T.nD,CA.deeds,.inl ⟨rfl,_,SqL.of co1.d⟩,_,rfl,(by show 2<=sizeLine;decide),λ i hi=>?_⟩;have g2:=zAC (o:=.tup [.str "say", u]) hi;have co2:=co1.same g2;refine⟨a.dl,ds,_,rfl,rfl,co2.d,zAS (by omega),?_⟩;have co3:=co2.setd (ds++[.ref i]);have t3:TD H1 (upd (upd H1 i (.tup [.str "say", u])) a.dl (.lst (ds++[.ref i]))):=g2.td.trans (TD.lst co2.d);have ei:upd (upd H1 i (.tup [.str "say", u])) a.dl (.lst (ds++[.ref i])) i=some (.tup [.str "say", u]):=(TD.lst co2.d).tk _ _ zAA;have k3:a.Kp H1 (upd (upd H1 i (.tup [.str "say", u])) a.dl (.lst (ds++[.ref i]))):=g2.kp.trans kp_d;generalize upd (upd H1 i _) a.dl _=H3 at co3 t3 ei k3 ⊢;obtain⟨dx3,hp3⟩:=co3.ob;refine⟨_,rfl,a.p,C,dx3,_,_,rfl,hp3,T.cl,T.nE,CA.ends,.inl ⟨rfl,_,SqL.of co3.e⟩,_,rfl,a.el,_,_,rfl,rfl,co3.e,zAS (by omega),?_⟩;have h13:Paired (DeedR H3) (D++[e1]) (ds++[.ref i]):=zBX (Paired.mapP h1' λ U U z=>z.mono t3.tk) (.cons ⟨i,u,rfl,ei,r1'.mono t3.tk⟩ .nil);have h23:Paired (EndR H3) E0.reverse es1:=Paired.mapP h2' λ U U z=>z.mono t3.tk;have h33:Paired (ItR H3) W.reverse ws:=Paired.mapP h3' λ U U z=>z.mono t3.tk;have c3:Cg C S H3 a W E0 (D++[e1]):=c1.new t3 co3 h13 h23 h33;exact q _ (c3.push co3 h13 h23 h33 (r1'.mono t3.tk)) (k1.trans (k3.trans kp_e))
 ·obtain⟨b,u1,u2,rfl,hb1,_,_⟩:=hR1
  have n4:∀z:Str,z = "say" \/ z = "then" \/ z = "if" \/ z = "let" -> ¬V.str o.s=V.str z:=λ z hz=>by
   rcases ho with rfl|rfl|rfl<;>rcases hz with rfl|rfl|rfl|rfl<;>right
  refine⟨_,rfl,b,_,0,_,rfl,rfl,SqT.of hb1,rfl,rfl,_,rfl,iteN (n4 _ (.inl rfl)) ?_⟩;refine⟨_,rfl,b,_,0,_,rfl,rfl,SqT.of hb1,rfl,rfl,_,rfl,iteN (n4 _ (.inr (.inl rfl))) ?_⟩;refine⟨_,rfl,b,_,0,_,rfl,rfl,SqT.of hb1,rfl,rfl,_,rfl,iteN (n4 _ (.inr (.inr (.inl rfl)))) ?_⟩;refine⟨_,rfl,b,_,0,_,rfl,rfl,SqT.of hb1,rfl,rfl,_,rfl,iteN (n4 _ (.inr (.inr (.inr rfl)))) ?_⟩;rw[List.reverse_cons] at h2';obtain⟨es2,w2,rfl,h22,r2⟩:=zB4 h2';have le2:es2.length=E1.length:=by rw[zBB h22,List.length_reverse]
  have ce1:=co1.e;refine⟨_,rfl,a.p,dx1,_,rfl,hp1,CA.no (by right),_,rfl,b,_,0,_,rfl,rfl,SqT.of hb1,rfl,_,rfl,a.p,C,dx1,_,_,rfl,hp1,T.cl,T.nE,CA.ends,.inl ⟨rfl,_,SqL.of ce1⟩,a.el,_,w2,rfl,rfl,ce1,by simp,?_⟩;rw[List.dropLast_concat];have co2:Cs C (upd H1 a.el (.lst es2)) a ds es2 ws:=co1.sete _;have t2:TD H1 (upd H1 a.el (.lst es2)):=TD.lst ce1;have k2:a.Kp H1 (upd H1 a.el (.lst es2)):=kp_e;generalize upd H1 a.el _=H2 at co2 t2 k2 ⊢;have h12:Paired (DeedR H2) D ds:=Paired.mapP h1' λ U U z=>z.mono t2.tk;have h22':Paired (EndR H2) E1.reverse es2:=Paired.mapP h22 λ U U z=>z.mono t2.tk;have h32:Paired (ItR H2) W.reverse ws:=Paired.mapP h3' λ U U z=>z.mono t2.tk;have c2:Cg C S H2 a W E1 D:=c1.new t2 co2 h12 h22' h32;rw[mN] at lE;refine⟨_,rfl,a,ds,es2,ws,o,e2,e1,w2,u,rfl,co2,by omega,ho,r2.mono t2.tk,r1'.mono t2.tk,hlv,λ x3 H3 k3 r3=>?_⟩;exact q _ ((c2.same k3).push (co2.same k3) (Paired.mapP h12 λ U U z=>z.mono k3.tk) (Paired.mapP h22' λ U U z=>z.mono k3.tk) (Paired.mapP h32 λ U U z=>z.mono k3.tk) r3) (k1.trans (k2.trans (k3.kp.trans kp_e)))
noncomputable abbrev zAj:Stmt:=zBL (top 7) 5
theorem zBd:zAR ["self", "tree", "known", "item"] ["self", "tree", "known"] (zAH zAj):=scI
def zEz (C:Addr):Sp:=λ vs H Q U=>E5 λ(a:CA) (S:Str->Prop) (t:Tr) (v dv:V)=>A7 (vs=[.ref a.p,v,dv]) (Cg C S H a [] [] []) (Rep H t v) (MiT S t) (lvT (bodyT t)<=10) (t.size<=100) (∀H',Cg C S H' a [] [bodyT t] (saidT t)->a.Kp H H'->Q .non H')
set_option tactic.hygienic true in
theorem zHw (F:Fun K "run_whole" "Course.run_whole" zAj f fd) (T:Txt K mg C B fB)
  (zME:FnM P w K mg base k C "await_run" g2 gd2 ["self", "tree", "known"] (zCk C false))
  (zMG:FnM P w K mg base k C "begin" g3 gd3 ["self", "tree", "known"] (zGI C)) (zMH:FnM P w K mg base k C "go_on" g4 gd4 ["self", "tree", "known"] (zHW C)) :
  FnOk P w K mg base CX0 (k+1) f fd ["self", "tree", "known"] (zEz C):=by
 refine F.ok zBd (λ vs H Q E h=>?_) (λ cdv A outer s H vs Q E hr h=>?_)
 ·obtain⟨a,S,t,v,dv,rfl,_⟩:=h
  rfl
 obtain⟨a,S,t,v,dv,rfl,c0,hR,hm,hlv,hsz,q⟩:=h
 refine⟨_,(zAG (zA4 (zBE (pv 0) T.cl zME.mt zME.ok hr zME.bd .nil pass0 (zAB (pv 1) (zAB (pv 2) zAD))))
  (zAF (zGP PassesOwn.never (zDV (zGO (zBf (pv 0) rfl) (λ U=>rfl)) (zCd (zAN zE6 (zBf (pv 0) rfl) zDZ (zAU _)))).pt (zAG (pS (i:=3) zBd.nd (zE5 rX PySem.F.slot_list_pop PySem.F.type_list_pop zE9 (zBf (pv 0) rfl)))
  (zAF (ps_if (zGN (iC (r:=rIxT K) zAP (pv 3))) (zAF (zA4 (zBE (pv 0) T.cl zMH.mt zMH.ok hr zMH.bd .nil pass0 (zAB (iC (r:=rIxT K) zAP (pv 3)) (zAB (iC (r:=rIxT K) zAP (pv 3)) zAD))))) (zAF (zA4 (zBE (pv 0) T.cl zMG.mt zMG.ok hr zMG.bd .nil pass0 (zAB (iC (r:=rIxT K) zAP (pv 3)) (zAB (iC (r:=rIxT K) zAP (pv 3)) zAD))))))))))),?_⟩
 obtain⟨ds0,es0,ws0,co,h10,h20,h30⟩:=id c0.co;cases h10;cases h20;cases h30;obtain⟨dx2,hp2⟩:=co.ob;refine⟨_,rfl,a.p,dx2,_,rfl,hp2,CA.no (by right),_,rfl,_,rfl,?_⟩;refine⟨a,[],[],[],v,dv,rfl,co,lX _,λ i H4 hi ei co4 k4=>?_⟩;have t4:=co.td k4;have cf0:Cg C S H4 a [(t,false)] [] []:=c0.await co .nil .nil .nil k4 co4 ⟨i,v,dv,rfl,ei,hR.mono t4.tk⟩;obtain⟨m0,lv0⟩:=MR.start hm
 refine⟨(λ m σ' H'=>E4 λ(W:List Itm2) (E D:List Tr) (s4:Option V)=>A8 (σ'=[some (.ref a.p),some v,some dv,s4]) (a.Kp H H') (Cg C S H' a W E D) (MR S W E D [bodyT t] (saidT t)) (m=mW W) (lvW W+lvE E<=10) (mW W+E.length<=300) (mW W+D.length<=300)),
  ⟨_,[(t,false)],[],[],none,rfl,k4,cf0,m0,rfl,by rw[lv0];exact hlv,by simp[mW];omega,by simp[mW];omega⟩,?_⟩
 rintro m σ' Hw ⟨W,E0,D,s4,rfl,gw,cf,hc,rfl,lv,lE,lD⟩;obtain⟨ds,es,ws,cw,h1,h2,h3⟩:=id cf.co;obtain⟨dxw,hpw⟩:=cw.ob;refine⟨_,rfl,a.p,C,dxw,_,_,rfl,hpw,T.cl,T.nW,CA.waiting,_,.inl ⟨ws,SqL.of cw.w,rfl⟩,?_⟩;refine ite2 (λ c=>?_) (λ c=>iteF ?_)
 ·refine⟨_,rfl,a.p,C,dxw,_,_,rfl,hpw,T.cl,T.nH,CA.halt,rfl,_,rfl,iteY rfl ?_⟩
  refine⟨_,λ U U h=>h,?_⟩
  obtain⟨it,W1,rfl⟩:∃it W1,W=it::W1:=by
   cases W with
   |cons it W1=>exact⟨it,W1,rfl⟩
   |nil =>
    cases h3;simp at c
  rw[List.reverse_cons] at h3;obtain⟨ws1,u,rfl,h31,hit⟩:=zB4 h3;obtain⟨ti,bi⟩:=it;obtain⟨b,u0,dv2,rfl,hb1,rb⟩:=hit;have lW:=zH7 ((ti,bi)::W1);rw[mN] at lW;refine⟨_,rfl,a.p,C,dxw,_,_,rfl,hpw,T.cl,T.nW,CA.waiting,.inl ⟨rfl,_,SqL.of cw.w⟩,a.wl,_,V.ref b,rfl,rfl,cw.w,by simp,?_⟩;rw[List.dropLast_concat];have cw1:=cw.setw ws1;have t1:TD Hw (upd Hw a.wl (.lst ws1)):=TD.lst cw.w;have k1:a.Kp Hw (upd Hw a.wl (.lst ws1)):=kp_w;generalize upd Hw a.wl _=H5 at cw1 t1 k1 ⊢;have cf1:Cg C S H5 a W1 E0 D:=cf.new t1 cw1 (Paired.mapP h1 λ U U z=>z.mono t1.tk) (Paired.mapP h2 λ U U z=>z.mono t1.tk) (Paired.mapP h31 λ U U z=>z.mono t1.tk);have hb5:=t1.tk _ _ hb1;have rb5:=rb.mono t1.tk;have g5:=gw.trans k1;obtain⟨dx5,hp5⟩:=cw1.ob;refine⟨_,rfl,b,_,2,_,rfl,rfl,SqT.of hb5,rfl,bi,rfl,?_⟩;cases bi with
  |true =>
   refine iteT ?_;refine⟨_,rfl,a.p,dx5,_,rfl,hp5,CA.no (by right),_,rfl,b,_,0,_,rfl,rfl,SqT.of hb5,rfl,_,rfl,b,_,1,_,rfl,rfl,SqT.of hb5,rfl,?_⟩;have em:mW ((ti,true)::W1)=1+mW W1:=rfl;cases hc with
   |bin ho r =>
    rename_i o x y ea eb E1;have elv:lvW ((Tr.bin o x y,true)::W1)+lvE (eb::ea::E1)=lvW W1+(lvT eb+(lvT ea+lvE E1)):=by simp[lvW,lvE,lvI]
    simp only[mN] at lE;refine⟨a,S,.bin o x y,eb,W1,ea::E1,D,u0,dv2,rfl,cf1,rb5,by simp only[mN];omega,by omega,.inr ⟨o,x,y,ea,E1,rfl,ho,rfl,by omega,λ H6 c6 k6=>?_⟩⟩;exact⟨mW W1,by omega,W1,_,_,some (.ref b),rfl,g5.trans k6,c6,r,rfl,by simp only[lvE,lvT];omega,by simp only[mN];omega,by omega⟩
   |sayT r =>
    rename_i x ea E1;have elv:lvW ((Tr.say x,true)::W1)+lvE (ea::E1)=lvW W1+lvE (ea::E1):=by simp[lvW,lvI]
    simp only[mN] at lE;refine⟨a,S,.say x,ea,W1,E1,D,u0,dv2,rfl,cf1,rb5,by omega,by omega,.inl ⟨x,rfl,λ H6 c6 k6=>?_⟩⟩;exact⟨mW W1,by omega,W1,_,_,some (.ref b),rfl,g5.trans k6,c6,r,rfl,by omega,by simp only[mN];omega,by simp only[mL,List.length_singleton];omega⟩
  |false =>
   refine iteF ?_;refine⟨_,rfl,a.p,dx5,_,rfl,hp5,CA.no (by right),_,rfl,b,_,0,_,rfl,rfl,SqT.of hb5,rfl,_,rfl,b,_,1,_,rfl,rfl,SqT.of hb5,rfl,?_⟩;obtain⟨mi,r,e1,e2,e3⟩:=hc.bgn;refine⟨a,S,ti,W1,E0,D,u0,dv2,rfl,cf1,rb5,mi,by omega,by omega,λ H6 c6 k6=>?_⟩;exact⟨mW (bgW ti W1),by omega,_,_,_,some (.ref b),rfl,g5.trans k6,c6,r,rfl,by omega,by omega,by omega⟩
 ·have hw:W=[]:=by
   have e1:ws=[]:=by simpa using c
   rw[e1] at h3;have:=zBB h3;simpa using this.symm
  subst hw;cases hc;exact q Hw cf gw
abbrev zCu:Stmt:=top 28
theorem zDM:zAR ["side", "kinds", "facts", "course"] ["side", "kinds", "facts"] (zAH zCu):=scI
abbrev zCZ:Stmt:=top 29
theorem zBk:zAR ["rule", "facts", "runs", "side", "told"] ["rule", "facts"] (zAH zCZ):=scI
abbrev zCv:Stmt:=top 30
theorem zDP:zAR ["rule", "facts", "told", "answered", "answer", "inner"] ["rule", "facts"] (zAH zCv):=scI
abbrev zFc:Stmt:=top 31
theorem zIg:zAR ["rule"] ["rule"] (zAH zFc):=scI
abbrev zCx:Stmt:=top 33
theorem zCX:zAR ["rule", "told", "waiting", "item", "question"] ["rule", "told"] (zAH zCx):=scI
def zHS:Sp:=λ vs H Q U=>E5 λ(t:Tr) (kvs:List (Key × V)) (v kv fv:V)=>A5 (vs=[v,kv,fv]) (Sid H kvs t v) (KnR H kv kvs) (FcR H fv) (∀(u:V) (dl:Addr) (A:Rws) (H':Hp),H dl=none->Same H H'->SdR H' t u dl A->Q u H')
theorem zKc (F:Fun K "side_run" "side_run" zCu f fd) (T:Txt K mg C B fB) (MK:Mk K C g1) (zMI:FnM P w K mg base k C "__init__" g1 gd1 ["self", "kinds", "facts"] (zHV C))
  (zMJ:FnM P w K mg base (k+1) C "run_whole" g2 gd2 ["self", "tree", "known"] (zEz C)):FnOk P w K mg base CX0 (k+2) f fd ["side", "kinds", "facts"] zHS:=by
 refine F.ok zDM (λ vs H Q E h=>?_) (λ cdv A outer s H vs Q E hr h=>?_)
 ·obtain⟨t,kvs,v,kv,fv,rfl,_⟩:=h
  rfl
 obtain⟨t,kvs,v,kv,fv,rfl,hs,hk,hf,q⟩:=h
 refine⟨_,(zAG (pS (i:=3) zDM.nd (zKO MK zMI.ok hr (by rfl) T.mgC zMI.bd .nil pass0 (zAB (zLO (pv 1) (zJX (zHk zAD))) (zAB (pv 2) zAD))))
  (zAG (zA4 (zBE (pv 3) T.cl zMJ.mt zMJ.ok hr zMJ.bd .nil pass0 (zAB (pv 0) (zAB zDJ zAD))))
  (zAG (ps_if (zAN zE6 (zBf (pv 3) rfl) zDZ (zAU _)) (zAF (zAY (zAi (zAB zAL (zAB (zBf (pv 3) rfl) (zAB (zAi (zAB zAL (zAB (zE5 rX PySem.F.slot_list_pop PySem.F.type_list_pop zE9 (zBf (pv 3) rfl)) zAD)):PE _ _ _) zAD))):PE _ _ _))) zAW)
  zA1))),?_⟩
 refine or_kn rfl hk λ kv' H1 k1 hk1=>⟨_,rfl,?_⟩;intro p dx np ndx nex;have n1:=@zAA (upd H1 dx (.own p)) p (.ins C dx []);have s0:Same H1 (upd (upd H1 dx (.own p)) p (.ins C dx [])):=λ b o hb=>by rw[zAJ (zAI hb np),zAJ (zAI hb ndx)];exact hb
 refine⟨p,dx,kv',fv,kvs,rfl,n1,hk1.mono s0,(hf.mono k1).mono s0,λ a H2 ea ndl nel nwl co hkA hfA kp=>⟨rfl,?_⟩⟩;subst ea;have g12:Same H1 H2:=λ b o hb=>kp b o (s0 b o hb) (zAI hb np);have free:∀l,(upd (upd H1 dx (.own a.p)) a.p (.ins C dx [])) l=none->H l=none:=λ l hl=>k1.free (s0.free hl);have dl0:=free _ ndl;have el0:=free _ nel;have wl0:=free _ nwl;have gB:=k1.trans g12;obtain⟨dx2,hp2⟩:=co.ob;refine⟨_,rfl,a.p,dx2,_,rfl,hp2,CA.no (by right),_,rfl,λ dk hdk=>?_⟩;have g3:=zAC (o:=.dK []) hdk;have c3:Cg C (kIn (zA3 [] kvs)) (upd H2 dk (.dK [])) a [] [] []:=⟨⟨[],[],[],co.same g3,.nil,.nil,.nil⟩,⟨_,g3 _ _ hkA,λ U h=>h⟩,g3 _ _ hfA⟩;have gC:=gB.trans g3;have hs3:=hs.mono gC.tk;refine⟨a,_,t,v,.ref dk,rfl,c3,hs3.rp,hs3.mi,hs3.lv,hs3.sz,λ H4 c4 k4=>?_⟩;have gD:Same H H4:=λ b o hb=>k4 b o (gC b o hb) (zAI hb dl0) (zAI hb el0) (zAI hb wl0);obtain⟨ds,es,ws,co4,h14,h24,h34⟩:=c4.co;obtain⟨dx4,hp4⟩:=co4.ob
 obtain⟨e,rfl,A,hA,sA⟩:∃e,es=[e]/\EndR H4 (bodyT t) e:=by
  cases h24 with
  |cons r t=>cases t;exact⟨_,rfl,r⟩
 refine⟨_,rfl,a.p,C,dx4,_,_,rfl,hp4,T.cl,T.nH,CA.halt,rfl,_,rfl,iteT ?_⟩;refine⟨_,rfl,a.p,C,dx4,_,_,rfl,hp4,T.cl,T.nD,CA.deeds,_,rfl,a.p,C,dx4,_,_,rfl,hp4,T.cl,T.nE,CA.ends,.inl ⟨rfl,_,SqL.of co4.e⟩,a.el,_,e,rfl,rfl,co4.e,rfl,?_⟩;rw[show [e].dropLast=([]:List V) from rfl];have t5:Tk H4 (upd H4 a.el (.lst [])):=Tk.lst co4.e;have gE:Same H (upd H4 a.el (.lst [])):=zAp gD el0;have ed5:(upd H4 a.el (.lst [])) a.dl=some (.lst ds):=by rw[zAJ co4.de];exact co4.d
 have dr:DRs H4 (saidD (isSay t) A) ds:=by
  cases t with
  |say s0 =>
   cases h14 with
   |cons r r2 =>
    cases r2;obtain⟨b,u,rfl,hb,A2,hA2,sA2⟩:=r;have:A2=A:=sA2.unique sA (.refl _);subst this;exact .cons (.tup hb (.cons (.str _) (.cons hA2.dr .nil))) .nil
  |_=>cases h14;exact .nil
 have dr5:=dr.mono t5;have dA:=hA.dr.mono t5;generalize upd H4 a.el _=H5 at gE ed5 dr5 dA ⊢;refine⟨(by show 2<=sizeLine;decide),λ i5 hi5=>⟨(by show 3<=sizeLine;decide),λ f6 hf6=>?_⟩⟩;have g5:=zAC (o:=.tup [.str "is", e]) hi5;have g6:=zAC (o:=.tup [.str "through", .ref a.dl,.ref i5]) hf6;have g56:=g5.trans g6;have dp:=zHN hA.ok;refine q (.ref f6) a.dl A _ dl0 (gE.trans g56) ⟨⟨f6,ds,.ref i5,rfl,zAA,g56 _ _ ed5,dr5.mono g56.tk,.tup (g6 _ _ zAA) (.cons (.str _) (.cons (dA.mono g56.tk) .nil))⟩,sA,?_,?_⟩
 ·unfold saidD
  split
  ·simp[Dt.deep,Dt.deeps]
   omega
  ·exact lX _
 ·simp[endD,Dt.deep,Dt.deeps]
  omega
def RnI (H:Hp) (rl:Addr) (t1 t2:Tr) (i:Nat) (rs:List V):Prop:=(i=0/\rs=[])\/(i=1/\∃x d A,rs=[x]/\SdR H t1 x d A/\d≠rl)\/(i=2/\∃x d A y e B,rs=[x,y]/\SdR H t1 x d A/\SdR H t2 y e B/\d≠e)
def zEO (sm:Addr):Sp:=λ vs H Q U=>E8 λ(ru:Addr) (t1 t2:Tr) (kvs:List (Key × V)) (u1 u2 kv fv:V)=>A8 (vs=[.ref ru,fv]) (H ru=some (.tup [u1,u2,kv])) (Sid H kvs t1 u1) (Sid H kvs t2 u2) (KnR H kv kvs) (FcR H fv) (isSay t1=isSay t2) (∀(A B:Rws) (H':Hp),SmR (bodyT t1) A->SmR (bodyT t2) B->Same H H'->Q (if A=B then .ref sm else .non) H')
theorem zIz (F:Fun K "sides_run" "sides_run" zCZ f fd) (zMK:mg "SAME" = some (.ref sm)) (zML:FnB P w K mg base k "side_run" g1 gd1 ["side", "kinds", "facts"] zHS):FnOk P w K mg base CX0 (k+1) f fd ["rule", "facts"] (zEO sm):=by
 refine F.ok zBk (λ vs H Q E h=>?_) (λ cdv A outer s H vs Q E hr h=>?_)
 ·obtain⟨ru,t1,t2,kvs,u1,u2,kv,fv,rfl,_⟩:=h
  rfl
 obtain⟨ru,t1,t2,kvs,u1,u2,kv,fv,rfl,hru,s1,s2,hk,hf,hsy,q⟩:=h;have hu5:=hu150 hr
 refine⟨_,(zAG (pS (i:=2) zBk.nd (zBQ zAD:PE _ _ _))
  (zAG (zCV PassesOwn.never rfl (zCo (zDI zFY (pv 0) zFh (zDX zAE))) (pGn (i:=3) zBk.nd) (zAG (pS (i:=4) zBk.nd (pe_cl zML hr (zAB (pv 3) (zAB (iC (r:=rIxT K) zAP (pv 0)) (zAB (pv 1) zAD)))))
  (zAG (ps_if (pw_or (zAN zE6 (pv 4) zDZ (zAU _)) (zD4 (zAN op_eq (iC (r:=rIxT K) zAP (pv 4)) zAL (zAU _)))).pt (zAF (zAY (pv 4))) zAW)
  (zAF (pAp (pv 2) (pv 4))))))
  (zAF (zAY (zGS (zAN (zKW hu5) (iC (r:=rIxL K) zBK (pv 2)) (iC (r:=rIxL K) zBK (pv 2)) (zAU _)) (zB2 (v:=.ref _) (by rfl) zMK (by rfl)) zDZ))))),?_⟩
 refine⟨(by show 0<=sizeLine;decide),λ rl hrl=>?_⟩;have g0:=zAC (o:=.lst []) hrl;refine⟨_,rfl,_,rfl,ru,_,rfl,g0 _ _ hru,(by rintro⟨_,z⟩;cases z),λ p2 H2 g2 e2=>⟨p2,rfl,⟨[u1,u2],SqT.of e2⟩,?_⟩⟩;have g02:=g0.trans g2;refine zC3 (xs:=[u1,u2]) (λ i σ' H'=>E3 λ(rs:List V) (s3 s4:Option V)=>A5 (σ'=[some (.ref ru),some fv,some (.ref rl),s3,s4]) (Same H H') (H' p2=some (.tup [u1,u2])) (H' rl=some (.lst rs)) (RnI H' rl t1 t2 i rs)) ⟨[],none,none,rfl,g02,e2,g2 _ _ zAA,.inl ⟨rfl,rfl⟩⟩ ?_ ?_ ?_
 ·rintro i σ' H' _ ⟨rs,s3,s4,rfl,ga,gb,_⟩
  exact SqT.of gb
 ·rintro i x σ' H3 hx ⟨rs,s3,s4,rfl,ga,gb,er,hrn⟩
  have hi:i<2:=(lJ.mp hx).1
  obtain⟨t,sd,ht⟩:∃t,Sid H kvs t x/\((i=0/\t=t1)\/(i=1/\t=t2)):=by
   match i,hi,hx with
   |0,_,hx=>cases hx;exact⟨t1,s1,.inl ⟨rfl,rfl⟩⟩
   |1,_,hx=>cases hx;exact⟨t2,s2,.inr ⟨rfl,rfl⟩⟩
  refine⟨_,rfl,_,rfl,ru,_,2,_,rfl,rfl,SqT.of (ga _ _ hru),rfl,_,rfl,t,kvs,x,kv,fv,rfl,sd.mono ga.tk,hk.mono ga,hf.mono ga,λ u dl A H4 ndl g4 sr=>?_⟩;obtain⟨p,us,ev,rfl,hp,hdl,_⟩:=sr.told;have er4:=g4 _ _ er
  have lr:rs.length<=2:=by
   rcases hrn with ⟨_,rfl⟩|⟨_,x,d,A,rfl,_⟩|⟨_,x,d,A,y,e,B,rfl,_⟩<;>simp
  refine⟨_,rfl,rfl,_,rfl,iteN (λ z=>nomatch z) ?_⟩
  refine⟨_,rfl,p,_,0,_,rfl,rfl,SqT.of hp,rfl,rfl,_,rfl,iteN (by right) ?_⟩;refine⟨_,rfl,.inl ⟨rfl,_,SqL.of er4⟩,_,rfl,rl,rs,_,rfl,rfl,er4,zAS (by omega),?_⟩;have drl:dl≠rl:=λ z=>by rw[z,er] at ndl;cases ndl
  have keep:∀{t:Tr}{y:V}{d:Addr}{A:Rws},SdR H4 t y d A->d≠rl->SdR (upd H4 rl (.lst (rs++[.ref p]))) t y d A:=λ{t y d A} h hn=>by
   obtain⟨⟨q,us,ev,e1,e2,e3,e4,e5⟩,sm,d1,d2⟩:=h;have tk:Tk H4 (upd H4 rl (.lst (rs++[.ref p]))):=Tk.lst er4;exact⟨⟨q,us,ev,e1,tk _ _ e2,by rw[zAJ hn];exact e3,e4.mono tk,e5.mono tk⟩,sm,d1,d2⟩
  refine⟨rs++[.ref p],_,_,rfl,zAp (ga.trans g4) hrl,(Tk.lst er4) _ _ (g4 _ _ gb),zAA,?_⟩;rcases hrn with ⟨rfl,rfl⟩|⟨rfl,y,d,B,rfl,sy,hdr⟩|⟨rfl,_⟩
  ·rcases ht with ⟨_,rfl⟩|⟨z,_⟩
   ·exact .inr (.inl ⟨rfl,_,dl,A,rfl,keep sr drl,drl⟩)
   ·cases z
  ·rcases ht with ⟨z,_⟩|⟨_,rfl⟩
   ·cases z
   ·obtain⟨_,us',_,_,_,hd3,_⟩:=id sy.told
    exact .inr (.inr ⟨rfl,y,d,B,_,dl,A,rfl,keep (sy.mono g4) hdr,keep sr drl,λ z=>by rw[z,ndl] at hd3;cases hd3⟩)
  ·omega
 ·rintro σ' H3 ⟨rs,s3,s4,rfl,ga,gb,er,hrn⟩
  rcases hrn with ⟨z,_⟩|⟨z,_⟩|⟨_,x,d,A,y,e,B,rfl,sx,sy,hde⟩
  ·cases z
  ·cases z
  refine⟨_,rfl,rl,_,0,_,rfl,rfl,SqL.of er,rfl,_,rfl,rl,_,1,_,rfl,rfl,SqL.of er,rfl,d,e,_,_,_,_,sx.told,sy.told,hde,?_,sx.d1,sx.d2,_,rfl,?_⟩
  ·rw[hsy]
   unfold saidD;split<;>rfl
  ·rw[hsy,zJp]
   have z:=q A B H3 sx.sm sy.sm ga;refine ite2 (λ c=>?_) (λ c=>?_)
   ·rw[if_pos (of_decide_eq_true c)] at z
    exact z
   ·rw[if_neg (λ e=>c (decide_eq_true e))] at z
    exact z
def sp_by (sm:Addr):Sp:=λ vs H Q U=>E4 λ(ru:Addr) (t1 t2:Tr) (fv:V)=>A4 (vs=[.ref ru,fv]) (RuP H ru t1 t2) (FcR H fv) (∀(A B:Rws) (H':Hp),SmR (bodyT t1) A->SmR (bodyT t2) B->Same H H'->Q (if A=B then .ref sm else .non) H')
theorem ok_by (F:Fun K "paper_by" "paper_by" zCv f fd) (zMK:mg "SAME" = some (.ref sm)) (hS:SameT K sm) (zMM:FnB P w K mg base k "sides_run" g1 gd1 ["rule", "facts"] (zEO sm)):FnOk P w K mg base CX0 (k+1) f fd ["rule", "facts"] (sp_by sm):=by
 refine F.ok zDP (λ vs H Q E h=>?_) (λ cdv A outer s H vs Q E hr h=>?_)
 ·obtain⟨ru,t1,t2,fv,rfl,_⟩:=h
  rfl
 obtain⟨ru,t1,t2,fv,rfl,⟨kvs,u1,u2,kv,hru,s1,s2,hk,hsy⟩,hf,q⟩:=h;have hu:=hu_of hr;have hu0:=Nat.lt_of_succ_lt hu
 refine⟨_,(zAG (pS (i:=2) zDP.nd (pe_cl zMM hr (zAB (pv 0) (zAB (pv 1) zAD))))
  (zAG (ps_if (pw_or (zAN zE6 (pv 2) zDZ (zAU _)) (zD4 (zAN (zKX hu0) (pv 2) (zB2 (v:=.ref _) (by rfl) zMK (by rfl)) (zAU _)))).pt (zAF (zAY (pv 2))) zAW) zA1)),?_⟩
 refine⟨_,rfl,_,rfl,ru,t1,t2,kvs,u1,u2,kv,fv,rfl,hru,s1,s2,hk,hf,hsy,λ A B H1 sA sB g1=>?_⟩;have z:=q A B H1 sA sB g1
 by_cases hab:A=B
 ·rw[if_pos hab] at z ⊢
  refine⟨_,rfl,rfl,_,rfl,iteN (λ z=>nomatch z) ?_⟩
  refine⟨_,rfl,sm,sm, "same", "same", rfl,rfl,.inr hS,.inr hS,_,rfl,ite2 (λ U=>?_) (λ c=>absurd (by simp) c)⟩;exact⟨_,rfl,z⟩
 ·rw[if_neg hab] at z ⊢
  refine⟨_,rfl,rfl,_,rfl,iteY rfl (iteT ?_)⟩;exact⟨_,rfl,z⟩
def zGD (sm:Addr):Sp:=λ vs H Q U=>E3 λ(ru:Addr) (t1 t2:Tr)=>A3 (vs=[.ref ru]) (RuP H ru t1 t2) (∀(A B:Rws) (H':Hp),SmR (bodyT t1) A->SmR (bodyT t2) B->Same H H'->Q (if A=B then .ref sm else .non) H')
theorem zI1 (F:Fun K "paper" "paper" zFc f fd) (zMN:FnB P w K mg base k "paper_by" g1 gd1 ["rule", "facts"] (sp_by sm)):FnOk P w K mg base CX0 (k+1) f fd ["rule"] (zGD sm):=by
 refine F.ok zIg (λ vs H Q E h=>?_) (λ cdv A outer s H vs Q E hr h=>?_)
 ·obtain⟨ru,t1,t2,rfl,_⟩:=h
  rfl
 obtain⟨ru,t1,t2,rfl,hr1,q⟩:=h;refine⟨_,(zAF (zAY (pe_cl zMN hr (zAB (pv 0) (zAB (zHk zAD) zAD))))),?_⟩;refine⟨_,rfl,(by show 0<=sizeLine;decide),λ p o hp ho=>?_⟩;have g1:=zAC (o:=.frz o (.tup [])) hp;exact⟨ru,t1,t2,_,rfl,hr1.mono g1,⟨p,rfl,.inl ⟨o,zAA,ho⟩⟩,λ A B H2 sA sB g2=>q A B H2 sA sB (g1.trans g2)⟩
def zJT:Sp:=λ vs H Q U=>E4 λ(ru tl:Addr) (t1 t2:Tr)=>A4 (vs=[.ref ru,.ref tl]) (RuP H ru t1 t2) (H tl=some (.tup [.str "same"])) (∀(A B:Rws) (H':Hp),SmR (bodyT t1) A->SmR (bodyT t2) B->Same H H'->Q (.bl (decide (A=B))) H')
theorem zLU (F:Fun K "is_paper" "is_paper" zCx f fd) (zMK:mg "SAME" = some (.ref sm)) (hS:SameT K sm) (zMM:FnB P w K mg base k "sides_run" g1 gd1 ["rule", "facts"] (zEO sm)):FnOk P w K mg base CX0 (k+1) f fd ["rule", "told"] zJT:=by
 refine F.ok zCX (λ vs H Q E h=>?_) (λ cdv A outer s H vs Q E hr h=>?_)
 ·obtain⟨ru,tl,t1,t2,rfl,_⟩:=h
  rfl
 obtain⟨ru,tl,t1,t2,rfl,hr1,htl,q⟩:=h;have hu:=hu_of hr;have hu0:=Nat.lt_of_succ_lt hu
 refine⟨_,(zAG (pS (i:=2) zCX.nd (zBQ (zAB (zAi (zAB (pv 1) (zAB zDJ zAD)):PE _ _ _) zAD):PE _ _ _))
  (zAG (zGP PassesOwn.never (zGO (pv 2) (λ U=>rfl)) (zAG (pS (i:=3) zCX.nd (zE5 rX PySem.F.slot_list_pop PySem.F.type_list_pop zE9 (pv 2)))
  (zAF (ps_if (zAN op_eq (pe_ix (r:=rIxT K) zAP (iC (r:=rIxT K) zAP (pv 3)) zAE (λ U U=>rfl)) zAL (zAU _)) zA1 (zAF (ps_if (zAN (zHr hu0) (pe_cl zMM hr (zAB (pv 0) (zAB (iC (r:=rIxT K) zAP (pv 3)) zAD))) (zB2 (v:=.ref _) (by rfl) zMK (by rfl)) (zAU _)) (zAF (zAY pe_bl)) zAW))))))
  (zAF (zAY pe_bl)))),?_⟩
 refine⟨_,rfl,λ dk hdk=>⟨(by show 2<=sizeLine;decide),λ p1 h1=>⟨(by show 1<=sizeLine;decide),λ wl hwl=>?_⟩⟩⟩;have g1:=zAC (o:=.dK []) hdk;have g2:=zAC (o:=.tup [.ref tl,.ref dk]) h1;have g3:=zAC (o:=.lst [.ref p1]) hwl;have gA:=g1.trans (g2.trans g3);have wH:H wl=none:=(g1.trans g2).free hwl;have ek:=(g2.trans g3) _ _ (zAA (H:=H) (a:=dk) (o:=.dK []));have ep:=g3 _ _ (zAA (H:=upd H dk (.dK [])) (a:=p1) (o:=.tup [.ref tl,.ref dk]));have ew:=@zAA (upd (upd H dk (.dK [])) p1 (.tup [.ref tl,.ref dk])) wl (.lst [.ref p1]);generalize upd (upd (upd H dk _) p1 _) wl _=H1 at gA ek ep ew ⊢;refine⟨λ m σ' H'=>(m=1/\H'=H1/\σ'=[some (.ref ru),some (.ref tl),some (.ref wl),none,none])\/(m=0/\Same H H'/\H' wl=some (.lst [])/\∃A s3,σ'=[some (.ref ru),some (.ref tl),some (.ref wl),s3,none]/\SmR (bodyT t1) A/\SmR (bodyT t2) A),⟨1,.inl ⟨rfl,rfl,rfl⟩⟩,?_⟩;rintro m σ' Hw (⟨rfl,rfl,rfl⟩|⟨rfl,gw,eww,A,s3,rfl,sA,sB⟩)
 ·refine⟨_,rfl,_,.inl ⟨_,SqL.of ew,rfl⟩,iteT ?_⟩
  refine⟨_,λ U U h=>h,?_⟩;refine⟨_,rfl,.inl ⟨rfl,_,SqL.of ew⟩,wl,_,V.ref p1,rfl,rfl,ew,rfl,?_⟩;rw[show [V.ref p1].dropLast=([]:List V) from rfl];have gB:Same H (upd Hw wl (.lst [])):=zAp gA wH;have td:TD Hw (upd Hw wl (.lst [])):=TD.lst ew;have ep2:=td.tk _ _ ep;have ek2:=td.dk _ _ ek;have ew2:=@zAA Hw wl (.lst []);generalize upd Hw wl _=H2 at gB ep2 ek2 ew2 ⊢;refine⟨_,rfl,p1,_,0,_,rfl,rfl,SqT.of ep2,rfl,tl,_,0,_,rfl,rfl,SqT.of (gB _ _ htl),rfl,rfl,_,rfl,iteN (by right) ?_⟩;obtain⟨kvs,u1,u2,kv,hru,s1,s2,hk,hsy⟩:=hr1.mono gB;refine⟨_,rfl,_,rfl,p1,_,1,_,rfl,rfl,SqT.of ep2,rfl,ru,t1,t2,kvs,u1,u2,kv,.ref dk,rfl,hru,s1,s2,hk,⟨dk,rfl,.inr ek2⟩,hsy,λ A B H3 sA sB g3=>?_⟩
  by_cases hab:A=B
  ·rw[if_pos hab]
   subst hab;refine⟨sm, "same", rfl,.inr hS,.inr ⟨sm, "same", rfl,.inr hS,_,rfl,ite2 (λ c=>absurd c (by simp)) (λ U=>?_)⟩⟩;exact⟨0,by decide,.inr ⟨rfl,gB.trans g3,g3 _ _ ew2,A,_,rfl,sA,sB⟩⟩
  ·rw[if_neg hab]
   refine⟨sm, "same", rfl,.inr hS,.inl ⟨rfl,_,rfl,iteT ?_⟩⟩;have z:=q A B H3 sA sB (gB.trans g3);rw[decide_eq_false hab] at z;exact z
 ·refine⟨_,rfl,_,.inl ⟨_,SqL.of eww,rfl⟩,iteF ?_⟩
  have z:=q A A Hw sA sB gw;rw[decide_eq_true rfl] at z;exact z
abbrev zB1:Stmt:=top 35
theorem zDu:zAR ["_law_script", "_law_k"] ["_law_script", "_law_k"] (zAH zB1):=scI
abbrev zCa:Stmt:=top 36
theorem zAh:zAR ["_law_cell", "_law_many", "_law_letters", "_law_number", "_law_base", "_law_k", "_law_at", "_law_words_here", "_law_word"] ["_law_cell", "_law_many"] (zAH zCa):=scI
def zD0 (K:W.Frag):Sp:=λ vs H Q U=>E3 λ(a:Addr) (ns:List Int) (k:Int)=>A4 (vs=[.ref a,.int k]) (SqL K H a (ns.map V.int)) (0<=k) (Q (.int (ns.getD k.toNat 0)) H)
theorem zGu (F:Fun K "_law_cell_at" "_law_cell_at" zB1 f fd) (z_len:mg "len" = none):FnOk P w K mg base CX0 (k+1) f fd ["_law_script", "_law_k"] (zD0 K):=by
 refine F.ok zDu (λ vs H Q E h=>?_) (λ cdv A outer s H vs Q E hr h=>?_)
 ·obtain⟨a,ns,k,rfl,_⟩:=h
  rfl
 obtain⟨a,ns,k,rfl,hS,h0,q⟩:=h
 refine⟨_,(zAG (ps_if (zAN op_lt (pv 1) (cL z_len (zAB (pv 0) zAD)) (zAU _)) (zAF (zAY (pe_ix (r:=rIxL K) zBK (pv 0) (pv 1) (λ U U=>rfl)))) zAW)
  (zAF (zAY zAE))),?_⟩
 refine⟨_,rfl,_,rfl,a,_,rfl,.inl hS,_,_,rfl,rfl,_,rfl,?_⟩;refine ite2 (λ c=>?_) (λ c=>?_)
 ·have c':k<((ns.map V.int).length:Int):=lR c
  rw[lC] at c';have hl:k.toNat<ns.length:=by omega
  have e:((k.toNat:Nat):Int)=k:=by omega
  have at_:=zCL (xs:=ns.map V.int) (j:=k.toNat) (v:=.int ns[k.toNat]) (by simp[hl]);rw[e] at at_;refine⟨_,rfl,_,rfl,a,_,k,_,rfl,rfl,hS,at_,?_⟩;have e2:ns.getD k.toNat 0=ns[k.toNat]:=by rw[List.getD_eq_getElem?_getD,nT hl,Option.getD_some]
  rw[←e2];exact q
 ·have c':¬k<((ns.map V.int).length:Int):=λ z=>c (decide_eq_true z)
  rw[lC] at c'
  have e2:ns.getD k.toNat 0=0:=by
   rw[List.getD_eq_getElem?_getD,List.getElem?_eq_none (by omega)];rfl
  rw[e2] at q;exact q
def zF8:Sp:=λ vs H Q U=>E2 λ(c m:Int)=>A4 (vs=[.int c,.int m]) (0<=m) (m<=10) (∀(l:Addr) (H':Hp) (ws:List Str),Same H H'->H' l=some (.lst (ws.map V.str))->ws.length=m.toNat->(∀x∈ws,x.length<=9)->Q (.ref l) H')
theorem zIv (F:Fun K "_law_words" "_law_words" zCa f fd) (z_range:mg "range" = none) (z_len:mg "len" = none) (z_int:mg "int" = none):FnOk P w K mg base CX0 (k+1) f fd ["_law_cell", "_law_many"] zF8:=by
 refine F.ok zAh (λ vs H Q E h=>?_) (λ cdv A outer s H vs Q E hr h=>?_)
 ·obtain⟨c,m,rfl,_⟩:=h
  rfl
 obtain⟨c,m,rfl,hm0,hm1,q⟩:=h
 refine⟨_,(zAG (zD5 (i:=2) zAh.nd rfl (Or.inr rfl) zAL)
  (zAG (pS (i:=3) zAh.nd (pe_op zDB (pe_op zBI (pv 0) zAE) zAE))
  (zAG (zD5 (i:=4) zAh.nd rfl (Or.inr rfl) (zBQ zAD:PE _ _ _))
  (zAG (zCV PassesOwn.never rfl (zCp (by rfl) z_range (zAB (pe_op zDB zAE (pe_op zBI (pv 3) zAE)) zAD)) (zBD (i:=5) zAh.nd rfl (Or.inr rfl)) (zAG (pS (i:=3) zAh.nd (pe_op zBI (pe_op zJZ (pv 3) zAE) zAE))
  (zAF (pAp (pv 4) (pe_op zBI (pv 3) zAE)))))
  (zAG (zD5 (i:=6) zAh.nd rfl (Or.inr rfl) (pe_op zBI (pe_op zCy (pv 3) zAE) (cL z_len (zAB (pv 4) zAD))))
  (zAG (pS (i:=7) zAh.nd (zBQ zAD:PE _ _ _))
  (zAG (zCV PassesOwn.never rfl (zCp (by rfl) z_range (zAB (pv 1) zAD)) (zBD (i:=5) zAh.nd rfl (Or.inr rfl)) (zAG (pS (i:=8) zAh.nd (pe_bm PySem.F.plainAttrs_str PySem.F.slot_str_join PySem.F.type_str_join zKm zAL (zAB (zB3 ["_law_j", "_law_letters", "_law_base", "_law_k", "_law_at"] [none,some 2,some 4,some 5,some 6] rfl (zCp (by rfl) z_range (zAB (cL z_len (zAB (pv 4) zAD)) zAD)) (λ U U U U U=>(zBD (i:=0) (show List.Nodup (["_law_j", "_law_letters", "_law_base", "_law_k", "_law_at"]:List Str) by right) rfl (Or.inl rfl))) (λ U U U U U=>zCe) (λ U U U U U=>(pe_ix zLf (pv 1) (pe_op zBI (pe_op zDB (pe_ix (r:=rIxL K) zBK (pv 2) (pv 0) (λ U U=>rfl)) (pe_op zJZ (pv 3) (zBR zIV (by rfl) z_int PyProof.Rows.boot_int (zAB (zDa op_eq (pv 0) (pv 4) (zAU _)) zAD)))) zAE) (λ U U=>rfl))) rfl) zAD)))
  (zAG (ps_if (zAN (r:=rIn K false) zBw (pv 8) (zHm [.str "let", .str "in", .str "if", .str "then", .str "else", .str "say", .str "ask", .str "stop", .str "where", .str "quiet", .str "number"] (by rfl):PE _ _ _) rfl) (zAF (pS (i:=8) zAh.nd (pe_op zGs (pv 8) zAL))) zAW)
  (zAF (pAp (pv 7) (pv 8))))))
  (zAF (zAY (pv 7)))))))))),?_⟩
 generalize hL:Str.ofString "abcdefghijklmnopqrstuvwxyz" = L;have hLabc:L=abc:=hL.symm;have hLlen:L.length=26:=by rw[hLabc];exact zK5
 refine⟨_,rfl,_,_,rfl,rfl,(show (0:Int)<2147483646 by decide),_,_,rfl,rfl,?_⟩;refine⟨(by show 0<=sizeLine;decide),λ lb hlb=>?_⟩;dsimp only;generalize c % 2147483646+1=N;have n0:=rH N (show (7:Int)≠0 by decide);have n1:=rJ N (show (0:Int)<7 by decide);refine⟨_,rfl,_,_,rfl,rfl,(show (0:Int)<7 by decide),_,_,rfl,rfl,1+N % 7,rfl,by omega,by omega,?_⟩;refine zDk (n:=(1+N % 7).toNat) (λ i σ' H'=>E3 λ(bs:List Int) (M:Int) (s5:Option V)=>A4 (σ'=[some (.int c),some (.int m),some (.str L),some (.int M),some (.ref lb),s5,none,none,none]) (Same H H') (H' lb=some (.lst (bs.map V.int))) (bs.length=i)) ⟨[],N,none,rfl,zAC hlb,zAA,rfl⟩ ?_ ?_
 ·rintro i σ1 H1 hi ⟨bs,M,s5,rfl,g1,e1,l1⟩
  refine⟨_,rfl,_,_,rfl,rfl,.inr ⟨by decide,by decide⟩,_,_,rfl,rfl,(show (0:Int)<2147483647 by decide),?_⟩;refine⟨_,rfl,.inl ⟨rfl,_,SqL.of e1⟩,_,rfl,_,_,rfl,rfl,(show (0:Int)<26 by decide),lb,_,_,rfl,rfl,e1,zAS (by rw[lC];omega),?_⟩;refine⟨bs++[M * 48271 % 2147483647 % 26],_,_,rfl,zAp g1 hlb,?_,by simp[l1]⟩;rw[zAA,mQ];rfl
 ·rintro σ1 H1 ⟨bs,M,s5,rfl,g1,e1,l1⟩
  have lb1:(bs.map V.int).length=bs.length:=lC _;have hbp:(0:Int)<((bs.map V.int).length:Int):=by omega
  refine⟨_,rfl,_,_,rfl,rfl,⟨(show (0:Int)<26 by decide),(show (26:Int)<1073741824 by decide)⟩,_,rfl,lb,_,rfl,.inl (SqL.of e1),_,_,rfl,rfl,hbp,?_⟩;dsimp only;have at0:=rH (M / 26) (show ((bs.map V.int).length:Int)≠0 by omega);have at1:=rJ (M / 26) hbp;generalize M / 26 % ((bs.map V.int).length:Int)=at_ at at0 at1 ⊢;rw[lb1] at at1;refine⟨(by show 0<=sizeLine;decide),λ lw hlw=>?_⟩;have hlwH:H lw=none:=g1.free hlw;refine⟨_,rfl,m,rfl,by omega,by omega,?_⟩;refine zDk (n:=m.toNat) (λ i σ' H'=>E3 λ(ws:List Str) (s5 s8:Option V)=>A6 (σ'=[some (.int c),some (.int m),some (.str L),some (.int M),some (.ref lb),s5,some (.int at_),some (.ref lw),s8]) (Same H H') (H' lb=some (.lst (bs.map V.int))) (H' lw=some (.lst (ws.map V.str))) (ws.length=i) (∀t x,ws[t]?=some x->x=wd bs at_ (t:Nat)\/x=wd bs at_ (t:Nat)++Str.ofString "s")) ⟨[],_,_,rfl,g1.trans (zAC hlw),zAC hlw _ _ e1,zAA,rfl,by simp⟩ ?_ ?_
  ·rintro i σ2 H2 hi ⟨ws,s5,s8,rfl,g2,e2,ew,l2,hws⟩
   refine⟨rfl,_,rfl,lb,_,rfl,.inl (SqL.of e2),_,rfl,by omega,by omega,λ acc hacc=>?_⟩;refine zFx (n:=(((bs.map V.int).length:Nat):Int).toNat) (λ j H'=>Same H2 H'/\H' acc=some (.lst ((((List.range j).map (ltr bs at_ i)).map λ c=>(⟨#[c]⟩:Str)).map V.str))) ⟨zAC hacc,zAA⟩ ?_ ?_
   ·rintro j H3 hj ⟨g3,ey⟩
    have hj1:j<bs.length:=by
     have:j<(bs.map V.int).length:=by simpa using hj
     omega
    have hbn:atI (bs.map V.int) ((0:Int)+(j:Int))=some (.int (bs.getD j 0)):=by
     rw[Int.zero_add];refine zCL ?_;rw[mH,nT hj1,List.getD_eq_getElem?_getD,nT hj1];rfl
    refine⟨.skip (.keep (.keep (.keep (.keep .nil)))),?_⟩;refine⟨_,rfl,_,rfl,_,rfl,lb,_,_,_,rfl,rfl,SqL.of (g3 _ _ e2),hbn,_,rfl,_,rfl,_,rfl,rfl,?_⟩;refine .inr ⟨_,rfl,?_⟩;refine⟨_,_,rfl,rfl,.inl ⟨by omega,by omega⟩,_,_,rfl,rfl,_,_,rfl,rfl,(show (0:Int)<26 by decide),?_⟩;have ec:=zLk (bs.getD j 0+(0+(i:Int)) * (if decide (V.int (0+(j:Int))=V.int at_)=true then 1 else 0))
    have el:97+((bs.getD j 0+(0+(i:Int)) * (if decide (V.int (0+(j:Int))=V.int at_)=true then 1 else 0)) % 26).toNat=ltr bs at_ i j:=by
     unfold ltr;rw[Int.zero_add,Int.zero_add]
     by_cases hc:(j:Int)=at_
     ·rw[if_pos hc,if_pos (decide_eq_true (by rw[hc]))]
     ·rw[if_neg hc,if_neg (by rw[decide_eq_false (λ z=>hc (V.int.inj z))];exact lV)]
    rw[el,←hLabc] at ec;refine⟨L,_,_,rfl,rfl,zBm (by rw[hLlen];decide),ec,_,ey,zAS (by simp;omega),zAp g3 hacc,?_⟩;rw[zAA,List.range_succ];simp
   ·rintro H3 ⟨g3,ey⟩
    have hn:((((bs.map V.int).length:Nat):Int)).toNat=bs.length:=by simp
    rw[hn] at ey;refine⟨_,acc,_,rfl,rfl,ey,by right,?_,?_⟩
    ·rw[zF5 (by simp;intro a _;rfl)]
     simp;omega
    rw[zG3];have lj:(wd bs at_ i).length=bs.length:=zHH bs at_ i;have hxw:(⟨((List.range bs.length).map (ltr bs at_ i)).toArray⟩:Str)=wd bs at_ i:=rfl;rw[hxw];generalize hx:wd bs at_ i=x at lj;refine⟨_,rfl,(by show 11<=sizeLine;decide),λ p hp=>⟨p,_,rfl,.inl (SqL.of zAA),rfl,rfl,_,rfl,?_⟩⟩;have g4:=g3.trans (zAC (o:=.lst [.str "let", .str "in", .str "if", .str "then", .str "else", .str "say", .str "ask", .str "stop", .str "where", .str "quiet", .str "number"]) hp);generalize upd H3 p _=H4 at g4 ⊢;refine ite2 (λ U=>?_) (λ U=>?_)
    ·refine⟨_,rfl,_,_,rfl,rfl,zBm ?_,?_⟩
     ·show x.length+1<=1000
      omega
     refine⟨_,rfl,.inl ⟨rfl,_,SqL.of (g4 _ _ ew)⟩,_,rfl,lw,_,_,rfl,rfl,g4 _ _ ew,zAS (by rw[lC];omega),?_⟩;refine⟨ws++[x++Str.ofString "s"],_,_,rfl,zAp (g2.trans g4) hlwH,?_,?_,by simp[l2],zD1 l2 hws (.inr (by rw[hx]))⟩
     ·rw[zAJ (zAI e1 hlw)]
      exact g4 _ _ e2
     ·rw[zAA,mQ]
      rfl
    ·refine⟨_,rfl,.inl ⟨rfl,_,SqL.of (g4 _ _ ew)⟩,_,rfl,lw,_,_,rfl,rfl,g4 _ _ ew,zAS (by rw[lC];omega),?_⟩
     refine⟨ws++[x],_,_,rfl,zAp (g2.trans g4) hlwH,?_,?_,by simp[l2],zD1 l2 hws (.inl hx.symm)⟩
     ·rw[zAJ (zAI e1 hlw)]
      exact g4 _ _ e2
     ·rw[zAA,mQ]
      rfl
  ·rintro σ2 H2 ⟨ws,s5,s8,rfl,g2,e2,ew,l2,hws⟩
   refine⟨_,rfl,q lw H2 ws g2 ew l2 λ x hx=>?_⟩;obtain⟨t,ht⟩:=List.getElem?_of_mem hx;have hs1:(Str.ofString "s").length=1:=by right
   rcases hws t x ht with rfl|rfl
   ·rw[zHH];omega
   ·rw[zKn,zHH,hs1];omega
abbrev s_law:Stmt:=top 41
theorem zBu:zAR ["_law_script", "_law_words_here", "_law_state", "_law_left", "_law_right", "_law_more", "_law_kinds", "_law_k", "_law_found"] ["_law_script"] (zAH s_law):=scI
def zGE (K:W.Frag):Sp:=λ vs H Q U=>E2 λ(a:Addr) (ns:List Int)=>A3 (vs=[.ref a]) (SqL K H a (ns.map V.int)) (∀H',Q (.bl true) H')
theorem zLT (F:Fun K "law" "law" s_law f fd) (z_range:mg "range" = none) (z_sorted:mg "sorted" = none) (z_tuple:mg "tuple" = none) (z_isinstance:mg "isinstance" = none) (hS:SameT K sa)
  (zMO:FnB P w K mg base k "_law_cell_at" g1 gd1 ["_law_script", "_law_k"] (zD0 K)) (zMP:FnB P w K mg base k "_law_words" g2 gd2 ["_law_cell", "_law_many"] zF8) (zLy:FnB P w K mg base k "_law_pair" g3 gd3 ["_law_state", "_law_deep"] (zEP 5)) (zMQ:FnB P w K mg base k "paper" g4 gd4 ["rule"] (zGD sa)) (zMR:FnB P w K mg base k "is_paper" g5 gd5 ["rule", "told"] zJT) :
  FnOk P w K mg base CX0 (k+1) f fd ["_law_script"] (zGE K):=by
 refine F.ok zBu (λ vs H Q E h=>?_) (λ cdv A outer s H vs Q E hr h=>?_)
 ·obtain⟨a,ns,rfl,_⟩:=h
  rfl
 obtain⟨a,ns,rfl,hS0,q⟩:=h;have hu:=hu_of hr;have hu0:=Nat.lt_of_succ_lt hu;have hu5:=hu150 hr
 refine zHb ⟨_,(zAO (pSS (i:=1) zBu.nd (zBG zMP.ok hr (by rfl) zMP.gl zMP.kp zMP.bd .nil pass0 (pa_kS (zBG zMO.ok hr (by rfl) zMO.gl zMO.kp zMO.bd .nil pass0 (pa_nS ⟨pv 0⟩ (zBO ⟨zAE⟩ ⟨zAD⟩))) (zBO ⟨zAE⟩ ⟨zAD⟩))))
  (zAO (pSS (i:=2) zBu.nd (zIt (zBv ⟨zAL⟩ ⟨zDI (r:=rSlL K) zJv (pv 0) (zDX zAE) (zDX zAE)⟩ (zBv ⟨zAL⟩ ⟨zAE⟩ (zBv ⟨zAL⟩ ⟨zAE⟩ (zBv ⟨zAL⟩ ⟨zAE⟩ (zBv ⟨zAL⟩ ⟨zDJ⟩ (zBv ⟨zAL⟩ ⟨pv 1⟩ zIo)))))) rfl rfl (by simp) (by decide)))
  (zAO ⟨zLK (pe_cl zLy hr (zAB (pv 2) (zAB zAE zAD))) (zD8 rfl (zAs (pGn (i:=3) zBu.nd) (zAs (pGn (i:=4) zBu.nd) zCI)))⟩
  (zAO (pSS (i:=5) zBu.nd (zAl (pa_cS ⟨zAL⟩ (pa_nS ⟨pv 4⟩ (pa_tS (zAl (pa_cS ⟨zAL⟩ (pa_bS (zBU zDB ⟨zAE⟩ (zBU zBI (zBG zMO.ok hr (by rfl) zMO.gl zMO.kp zMO.bd .nil pass0 (pa_nS ⟨pv 0⟩ (zBO ⟨zAE⟩ ⟨zAD⟩))) (zBU zEB (zBU zHq ⟨zAE⟩ ⟨zAE⟩) ⟨zAE⟩))) ⟨zAD⟩))) ⟨zAD⟩)))))
  (zAO (zB7 ⟨zAN op_eq (pe_op zBI (pe_cl zMO hr (zAB (pv 0) (zAB zAE zAD))) zAE) zAE (zAU _)⟩ (zAO (pSS (i:=3) zBu.nd (zAl (pa_cS ⟨zAL⟩ (pa_nS ⟨pv 3⟩ ⟨zAD⟩))))
  (zAO (pSS (i:=4) zBu.nd (zAl (pa_cS ⟨zAL⟩ (pa_nS ⟨pv 4⟩ ⟨zAD⟩))))
  (zAu (pSS (i:=5) zBu.nd (zAl (pa_cS ⟨zAL⟩ (pa_nS ⟨pv 5⟩ ⟨zAD⟩))))))) ⟨zAW⟩)
  (zAO (pSS (i:=6) zBu.nd (zHl ⟨zAD⟩))
  (zAO ⟨zCV PassesOwn.never rfl (zCp (by rfl) z_range (zAB zAE zAD)) (pGn (i:=7) zBu.nd) (zAF (ps_if (zAN (zJb hu) (pe_ix (r:=rIxL K) zBK (pv 1) (pv 7) (λ U U=>rfl)) (zBg hu (pv 2) zAL (λ U U=>rfl)) rfl) (zAF (pAp (pv 6) (zAi (zAB (pe_ix (r:=rIxL K) zBK (pv 1) (pv 7) (λ U U=>rfl)) (zAB (pe_ix (r:=rIxL K) zBK (zBQ (zAB zAL (zAB zAL zAD)):PE _ _ _) (pe_op zBI (pe_cl zMO hr (zAB (pv 0) (zAB (pe_op zDB zAE (pv 7)) zAD))) zAE) (λ U U=>rfl)) zAD)):PE _ _ _))) zAW))⟩
  (zAO (pSS (i:=6) zBu.nd (zGr zFy (by rfl) z_tuple rR (pa_kS ⟨zBW (zEm hu5) (by rfl) z_sorted PyProof.Rows.boot_sorted (zAB (pv 6) zAD)⟩ ⟨zAD⟩)))
  (zAO (pSS (i:=8) zBu.nd (zBG zMQ.ok hr (by rfl) zMQ.gl zMQ.kp zMQ.bd .nil pass0 (pa_tS (zAl (pa_nS ⟨pv 3⟩ (pa_nS ⟨pv 4⟩ (pa_nS ⟨pv 6⟩ ⟨zAD⟩)))) ⟨zAD⟩)))
  (zAO (zB7 ⟨(pw_or (zLJ (zGN (zBW zIU (by rfl) z_isinstance PyProof.Rows.boot_isinstance (zAB (pv 8) (zAB (zKS (v:=.ty _) (by rfl) z_tuple rR (by rfl)) zAD))))) (zD4 (zAN (zHr hu0) (pv 8) (zAi (zAB zAL zAD):PE _ _ _) (zAU _)))).pt⟩ (zAu (zBJ ⟨pe_bl⟩)) ⟨zAW⟩)
  (zAO (zB7 ⟨zAN zKU (pe_cl zMR hr (zAB (zAi (zAB (pv 3) (zAB (pv 4) (zAB (pv 6) zAD))):PE _ _ _) (zAB (zAi (zAB zAL zAD):PE _ _ _) zAD))) pe_bl (zAU _)⟩ (zAu (zBJ ⟨pe_bl⟩)) ⟨zAW⟩)
  (zAu (zBJ ⟨zLQ (zDa zE6 (pe_cl zMQ hr (zAB (zAi (zAB (pv 3) (zAB (pv 5) (zAB (pv 6) zAD))):PE _ _ _) zAD)) zDZ (zAU _)) (zJX (zDa zJa (pe_cl zMR hr (zAB (zAi (zAB (pv 3) (zAB (pv 5) (zAB (pv 6) zAD))):PE _ _ _) (zAB (zAi (zAB zAL zAD):PE _ _ _) zAD))) pe_bl (zAU _)))⟩))))))))))))),?_⟩
 refine⟨_,rfl,a,ns,0,rfl,hS0,by decide,_,4,rfl,by decide,by decide,λ wl H1 ws k1 ew lw hw9=>?_⟩;have d1:1<=sizeLine:=by decide
 have d2:2<=sizeLine:=by decide
 have d3:3<=sizeLine:=by decide
 dsimp only[gName];refine λ d hd=>?_;have k2:=zAC (o:=.dK []) hd;obtain⟨ms,ems⟩:=zJL ns (some 5) (some 45);refine⟨_,rfl,_,rfl,_,rfl,a,_,rfl,zF7 (k1.trans k2) hS0,λ c hc=>?_⟩;rw[ems];have k3:=zAC (o:=.lst (ms.map V.int)) hc;refine λ g hg=>⟨_,rfl,?_⟩;have k4:=zAC (o:=.dK []) hg;refine⟨(k3.trans k4) _ _ zAA,stK c 0 8 8 g wl,rfl,(by show 6<=15;decide),?_⟩;rw[show zA3 [] (stK c 0 8 8 g wl)=stK c 0 8 8 g wl from rfl];have dc:c≠d:=Ne.symm (zAI (zAA (H:=H1) (a:=d) (o:=.dK [])) hc);have dg:g≠d:=Ne.symm (zAI (k3 _ _ (zAA (H:=H1) (a:=d) (o:=.dK []))) hg);have dw:wl≠d:=zAI ew hd;have gw:wl≠g:=zAI ((k2.trans k3) _ _ ew) hg
 have st4:Stt (upd (upd (upd (upd H1 d (.dK [])) c (.lst (ms.map V.int))) g (.dK [])) d (.dK (stK c 0 8 8 g wl))) d c g wl ms ws [] 0 8 8 :=
  ⟨zAA,by rw[zAJ dc];exact k4 _ _ zAA,by rw[zAJ dg];exact zAA,by rw[zAJ dw];exact(k2.trans (k3.trans k4)) _ _ ew,lw,Ne.symm dg,by decide,by decide,by decide,λ x h=>nomatch h⟩
 have hdH:H d=none:=k1.free hd;have hgH:H g=none:=(k1.trans (k2.trans k3)).free hg;have sm4:Same H (upd (upd (upd (upd H1 d (.dK [])) c (.lst (ms.map V.int))) g (.dK [])) d (.dK (stK c 0 8 8 g wl))):=zAp (k1.trans (k2.trans (k3.trans k4))) hdH;generalize upd (upd (upd (upd H1 d _) c _) g _) d _=H4 at st4 sm4 ⊢;dsimp only[gName];refine⟨_,rfl,d,c,g,wl,4,ms,ws,[],0,8,8,rfl,by decide,st4,by decide,λ p u u' t t' gk i0 r0 e0 H5 sy5 st5 ep rt rt' sm sm' eq l1 l2 lg up=>⟨p,_,rfl,SqT.of ep,rfl,_,_,rfl,_,_,rfl,rfl,?_⟩⟩;have sm5:Same H H5:=λ b o hb=>sy5 b o (zAI hb hdH) (zAI hb hgH) (sm4 b o hb);have sq5:=zF7 sm5 hS0;have r00:=st5.r0;have e00:=st5.e0;have lv1:lvT t<=5:=by omega
 have lv2:lvT t'<=9:=by omega
 dsimp only[gName];have hm0:=rH (ns.getD (1:Int).toNat 0) (show ((10:Int) ^ Int.toNat 30 - 1)≠0 by decide);have hm1:=rJ (ns.getD (1:Int).toNat 0) (show (0:Int)<((10:Int) ^ Int.toNat 30 - 1) by decide);refine⟨_,rfl,_,rfl,a,ns,1,rfl,sq5,by decide,_,_,rfl,rfl,⟨by decide,by decide,by decide⟩,_,_,rfl,rfl,_,_,rfl,rfl,(show (0:Int)<((10:Int) ^ Int.toNat 30 - 1) by decide),_,_,rfl,rfl,d2,λ p6 h6=>⟨d3,λ p7 h7=>?_⟩⟩;generalize ns.getD (1:Int).toNat 0 % ((10:Int) ^ Int.toNat 30 - 1)=m at hm0 hm1 h7 ⊢
 have hm2:1+m<NN:=by
  have:(10:Int) ^ Int.toNat 30=NN:=rfl;omega
 have k6:=zAC (o:=.tup [.str "num", .int (1+m)]) h6;have k7:=zAC (o:=.tup [.str "add", u',.ref p6]) h7;have k67:=k6.trans k7;have rm:Rep (upd (upd H5 p6 (.tup [.str "num", .int (1+m)])) p7 (.tup [.str "add", u',.ref p6])) (.bin .add t' (.num (1+m))) (.ref p7):=⟨p7,u',.ref p6,rfl,zAA,rt'.mono k67.tk,p6,rfl,k7 _ _ zAA⟩;have smm:SmT (kIn gk) (.bin .add t' (.num (1+m))):=⟨.inl rfl,sm',by omega,hm2⟩;have st7:=st5.same k67;have sm7:=sm5.trans k67;have rt7:=rt.mono k67.tk;have rt7':=rt'.mono k67.tk;generalize upd (upd H5 p6 _) p7 _=H7 at rm st7 sm7 rt7 rt7' ⊢;dsimp only[gName];refine viaN λ N hN=>?_
 have two:∀(b:Bool) (v1 v2 v3:V) (H8:Hp),Same H H8->Stt H8 d c g wl ms ws gk i0 r0 e0->Rep H8 (wrS b t) v1->Rep H8 (wrS b t') v2->Rep H8 (wrS b (.bin .add t' (.num (1+m)))) v3->N [some (.ref a),some (.ref wl),some (.ref d),some v1,some v2,some v3,none,none,none] H8:=λ b v1 v2 v3 H8 sm8 st8 ra rb rc=>by
  refine hN _ _ ?_;refine⟨(by show 0<=sizeLine;decide),λ kl hkl=>?_⟩;have kk0:=zAC (o:=.lst []) hkl;refine⟨4,rfl,by decide,by decide,?_⟩;refine zDk (n:=4) (λ i σ' H'=>E3 λ(zs:List V) (ds:List Dt) (s7:Option V)=>A7 (σ'=[some (.ref a),some (.ref wl),some (.ref d),some v1,some v2,some v3,some (.ref kl),s7,none]) (Same H8 H') (H' kl=some (.lst zs)) (DRs H' ds zs) (∀e∈ds,∃x y,e=pairD x y) (ds.length<=i) (∀j x,j<i->ws[j]?=some x->kIn gk x->∃y,pairD x y∈ds)) ⟨[],[],none,rfl,kk0,zAA,.nil,(λ e he=>nomatch he),lP _,λ j x hj=>absurd hj (Nat.not_lt_zero _)⟩ ?_ ?_
  ·rintro i σ9 H9 hi ⟨zs,ds,s7,rfl,g9,ez,dz,hds,ld,hin⟩
   have st9:=st8.same g9;have hli:i<ws.length:=by rw[st9.w4];exact hi
   have at9:atI (ws.map V.str) (0+(i:Int))=some (.str ws[i]):=by
    rw[Int.zero_add];exact zCL (j:=i) (by simp[hli])
   have dgg:DGet H9 d (.str "gaps") (some (.ref g)):=zHR c i0 r0 e0 g wl▸DGet.k (k:=Sum.inr "gaps") st9.hd;have lz:=dz.length;refine⟨_,rfl,_,rfl,wl,_,_,_,rfl,rfl,SqL.of st9.hw,at9,_,rfl,d,_,rfl,dgg,g,_,rfl,DGet.k (k:=Sum.inr ws[i]) st9.hg,_,rfl,ite2 (λ hk=>?_) (λ hk=>?_)⟩
   ·obtain⟨y,ey⟩:=zKo (ns.getD (1+(0+(i:Int))).toNat 0)
    refine⟨_,rfl,.inl ⟨rfl,_,SqL.of ez⟩,_,rfl,_,rfl,wl,_,_,_,rfl,rfl,SqL.of st9.hw,at9,d2,λ lp hlp=>?_⟩;have n1:=zAC (o:=.lst [.str "quiet", .str "number"]) hlp;refine⟨_,rfl,_,rfl,_,_,rfl,rfl,a,ns,_,rfl,zF7 (sm8.trans (g9.trans n1)) hS0,by omega,_,_,rfl,rfl,(show (0:Int)<2 by decide),lp,_,_,_,rfl,rfl,SqL.of zAA,ey,d2,λ q1 j1=>?_⟩;have n2:=zAC (o:=.tup [.str ws[i],.str y]) j1;have n12:=n1.trans n2;refine⟨kl,zs,_,rfl,rfl,n12 _ _ ez,zAS (by omega),zs++[.ref q1],ds++[pairD ws[i] y],_,rfl,zAp (g9.trans n12) hkl,zAA,?_,?_,by simp;omega,?_⟩
    ·have tk:Tk _ (upd _ kl (.lst (zs++[.ref q1]))):=Tk.lst (n12 _ _ ez)
     exact(dz.mono (n12.tk.trans tk)).app (.cons (.tup (tk _ _ zAA) (.cons (.str _) (.cons (.str _) .nil))) .nil)
    ·intro e he
     rcases lK.mp he with h|h
     ·exact hds e h
     ·exact⟨_,_,mR.mp h⟩
    ·intro j x hj ex hx
     by_cases hji:j<i
     ·obtain⟨y',hy'⟩:=hin j x hji ex hx
      exact⟨y',mJ _ hy'⟩
     ·have:j=i:=by omega
      subst this;rw[nT hli] at ex;cases ex;exact⟨y,lZ _ lN⟩
   ·refine⟨zs,ds,_,rfl,g9,ez,dz,hds,by omega,λ j x hj ex hx=>?_⟩
    by_cases hji:j<i
    ·exact hin j x hji ex hx
    ·have:j=i:=by omega
     subst this;rw[nT hli] at ex;cases ex;exact absurd hx hk
  ·rintro σ9 H9 ⟨zs,ds,s7,rfl,g9,ez,dz,hds,ld,hin⟩
   refine⟨_,rfl,kl,zs,ds,rfl,ez,dz,zIu hds (by omega),λ l' zs' hl' dr=>⟨l',zs',rfl,SqL.of zAA,λ kt o hkt ho=>?_⟩⟩;have n1:=zAC (o:=.lst zs') hl';have n2:=zAC (o:=.frz o (.tup zs')) hkt;have n12:=n1.trans n2;obtain⟨kvs,pk,lk,mk⟩:=zGT (dr.mono n12.tk) λ e he=>hds e ((zAV ds).mem_iff.mp he)
   have lkk:kvs.length<=1000:=by
    rw[lk,(zAV ds).length_eq];omega
   have kn:KnR (upd (upd H9 l' (.lst zs')) kt (.frz o (.tup zs'))) (.ref kt) kvs:=⟨kt,o,zs',rfl,zAA,ho,pk,lkk⟩
   have upk:∀x,kIn gk x->kIn (zA3 [] kvs) x:=λ x hx=>by
    obtain⟨j,hj,ej⟩:=List.getElem_of_mem (st8.kw x hx);obtain⟨y,hy⟩:=hin j x (by rw[←st8.w4];exact hj) (by rw[nT hj,ej]) hx;exact zIC (mk x y ((zAV ds).mem_iff.mpr hy))
   have gT:=g9.trans n12;generalize upd (upd H9 l' _) kt _=HT at gT kn ⊢;have sA:=zHa b (sm.up upk) (ra.mono gT.tk) (by omega);have sB:=zHa b (sm'.up upk) (rb.mono gT.tk) (by omega);have sC:=zHa b (smm.up upk) (rc.mono gT.tk) (by show lvT t'+1<=10;omega);have ruL:∀{w1 w2:V}{t1 t2:Tr}{H':Hp}{ru:Addr},Same HT H'->Sid HT kvs t1 w1->Sid HT kvs t2 w2->isSay t1=isSay t2->H' ru=some (.tup [w1,w2,.ref kt])->RuP H' ru t1 t2:=λ g' s1 s2 hs hru=>⟨kvs,_,_,.ref kt,hru,s1.mono g'.tk,s2.mono g'.tk,kn.mono g',hs⟩;have say1:isSay (wrS b t)=isSay (wrS b t'):=by rw[zGL b sm,zGL b sm']
   have say2:isSay (wrS b t)=isSay (wrS b (.bin .add t' (.num (1+m)))):=by rw[zGL b sm,zGL b smm]
   have same:∀A B:Rws,SmR (bodyT (wrS b t)) A->SmR (bodyT (wrS b t')) B->A=B:=λ A B hA hB=>by
    rw[zDp b sm] at hA;rw[zDp b sm'] at hB;exact hA.unique hB eq
   have unlike:∀A B:Rws,SmR (bodyT (wrS b t)) A->SmR (bodyT (wrS b (.bin .add t' (.num (1+m))))) B->A≠B:=λ A B hA hB=>by
    rw[zDp b sm] at hA;rw[zDp b smm] at hB;have ep:polyT (.num (1+m))=[(.tup [],1+m)]:=if_neg (by omega);have e1:Eqv B (polyT t'++polyT (.num (1+m))):=hB.eqv;rw[ep] at e1;exact hA.unlike hB.can (e1.trans (Eqv.app eq.symm (.refl _))) (by omega) hm2
   dsimp only[gName];refine⟨_,rfl,_,rfl,_,rfl,d3,λ ru hru=>?_⟩;have m1:=zAC (o:=.tup [v1,v2,.ref kt]) hru;refine⟨ru,_,_,rfl,ruL m1 sA sB say1 zAA,λ A B Ha hA hB ga=>?_⟩;rw[if_pos (same A B hA hB)];have mA:=m1.trans ga;refine⟨_,rfl,sa,_, "tuple", true,rfl,.inr hS,rfl,_,rfl,iteF ?_⟩;refine⟨_,rfl,d1,λ q1 j1=>⟨q1, "same", rfl,SqT.of zAA,.inr ⟨sa, "same", rfl,.inr hS,_,rfl,ite2 (λ c=>absurd c (by simp)) (λ U=>?_)⟩⟩⟩;have mB:=mA.trans (zAC (o:=.tup [.str "same"]) j1);refine⟨_,rfl,_,rfl,_,rfl,d3,λ r2 h2=>⟨d1,λ q2 j2=>?_⟩⟩;have n3:=zAC (o:=.tup [v1,v2,.ref kt]) h2;have n4:=zAC (o:=.tup [.str "same"]) j2;have mC:=mB.trans (n3.trans n4);refine⟨r2,q2,_,_,rfl,ruL mC sA sB say1 (n4 _ _ zAA),zAA,λ A2 B2 Hb hA2 hB2 gb=>?_⟩;rw[decide_eq_true (same A2 B2 hA2 hB2)];refine⟨true,rfl,rfl,_,rfl,iteF ?_⟩;have mD:=mC.trans gb;refine⟨_,rfl,_,rfl,_,rfl,d3,λ r5 h5=>?_⟩;have mE:=mD.trans (zAC (o:=.tup [v1,v3,.ref kt]) h5);refine⟨r5,_,_,rfl,ruL mE sA sC say2 zAA,λ A3 B3 Hc hA3 hB3 gc=>?_⟩;rw[if_neg (unlike A3 B3 hA3 hB3)];have mF:=mE.trans gc;refine⟨rfl,_,rfl,iteY rfl ?_⟩;refine⟨_,rfl,_,rfl,_,rfl,d3,λ r6 h6=>⟨d1,λ q6 j6=>?_⟩⟩;have n6:=zAC (o:=.tup [v1,v3,.ref kt]) h6;have n7:=zAC (o:=.tup [.str "same"]) j6;refine⟨r6,q6,_,_,rfl,ruL (mF.trans (n6.trans n7)) sA sC say2 (n7 _ _ zAA),zAA,λ A4 B4 Hd hA4 hB4 gd=>?_⟩;rw[decide_eq_false (unlike A4 B4 hA4 hB4)];exact⟨false,rfl,.inr ⟨false,rfl,q Hd⟩⟩
 refine⟨_,rfl,a,ns,2,rfl,zF7 sm7 hS0,by decide,_,_,rfl,rfl,(show (0:Int)<3 by decide),rfl,_,rfl,ite2 (λ U=>?_) (λ U=>?_)⟩
 ·refine⟨_,rfl,d2,λ q1 j1=>⟨_,rfl,d2,λ q2 j2=>⟨_,rfl,d2,λ q3 j3=>?_⟩⟩⟩
  have n1:=zAC (o:=.tup [.str "say", u]) j1;have n2:=zAC (o:=.tup [.str "say", u']) j2;have n3:=zAC (o:=.tup [.str "say", .ref p7]) j3;have nn:=n1.trans (n2.trans n3);exact two true _ _ _ _ (sm7.trans nn) (st7.same nn) ⟨q1,u,rfl,(n2.trans n3) _ _ zAA,rt7.mono nn.tk⟩ ⟨q2,u',rfl,n3 _ _ zAA,rt7'.mono nn.tk⟩ ⟨q3,.ref p7,rfl,zAA,rm.mono nn.tk⟩
 ·exact two false _ _ _ _ sm7 st7 rt7 rt7' rm
theorem zA5 {K:W.Frag}{f:Addr}{oc:Value}{od:Option Addr}{fd:FuncData}{sl:Array (Option Value)}(l:K.lookup f=some ⟨oc,od,.func fd,sl⟩):W.keepIn K (.ref f)=true:=by unfold W.keepIn;dsimp only;rw[l]
def DfA (K:W.Frag) (x:Str) (s:Stmt) (f:Addr):Prop:=∃fd,W.nsIn K mainGlobals x=some (some (.ref f))/\Fun K x x s f fd
theorem dfa {K:W.Frag}{x:Str}{st:Stmt}{f:Addr}{oc:Value}{od an:Option Addr}{osl:Array (Option Value)}{kV doc pm cdv ct:Value}(a:W.nsIn K mainGlobals x=some (some (.ref f))) (l:K.lookup f=some ⟨oc,od,.func (W.fnOf x x (zAt st) (zAr st) (zAH st) .none kV doc pm an cdv ct),osl⟩) (c:W.codeIn K cdv x=true):DfA K x st f:=⟨_,a,zBi l c (zA5 l)⟩
theorem DfA.go {K:W.Frag}{x:Str}{s:Stmt}{f:Addr}{h:Heap}{mg:Str->Option Value}(d:DfA K x s f) (X:K.In h) (G:h.Ns mainGlobals mg):∃fd,Fun K x x s f fd/\mg x=some (.ref f):=d.elim λ fd h=>⟨fd,h.2,W.mg_of X G h.1⟩
theorem us1 {p:List Value->Prop}(h:∀a,p [a]):∀us:List Value,us.length=1->p us:=λ us q=>by
 obtain _|⟨a,us⟩:=us
 ·cases q
 obtain _|⟨z,us⟩:=us
 ·exact h a
 ·simp at q
theorem us2 {p:List Value->Prop}(h:∀a b,p [a,b]):∀us:List Value,us.length=2->p us:=λ us q=>by
 obtain _|⟨a,us⟩:=us
 ·cases q
 obtain _|⟨b,us⟩:=us
 ·cases q
 obtain _|⟨z,us⟩:=us
 ·exact h a b
 ·simp at q
theorem us3 {p:List Value->Prop}(h:∀a b c,p [a,b,c]):∀us:List Value,us.length=3->p us:=λ us q=>by
 obtain _|⟨a,us⟩:=us
 ·cases q
 obtain _|⟨b,us⟩:=us
 ·cases q
 obtain _|⟨c,us⟩:=us
 ·cases q
 obtain _|⟨z,us⟩:=us
 ·exact h a b c
 ·simp at q
theorem us4 {p:List Value->Prop}(h:∀a b c d,p [a,b,c,d]):∀us:List Value,us.length=4->p us:=λ us q=>by
 obtain _|⟨a,us⟩:=us
 ·cases q
 obtain _|⟨b,us⟩:=us
 ·cases q
 obtain _|⟨c,us⟩:=us
 ·cases q
 obtain _|⟨d,us⟩:=us
 ·cases q
 obtain _|⟨z,us⟩:=us
 ·exact h a b c d
 ·simp at q
theorem all_mk {l:W.OpenLaw}{w:World}{K:W.Frag}{h:Heap}{mg:Str->Option Value}{fa f0 f1 f2 f3 f4 f5 f6 f7 f8 f9 f10 f11 f12 f13 f14 f15 f16 f17 f18 f19 f20 f21 f22 f23 f24 f25 f26 f27 f28 f29 f30 f31 f32 f33 f34 f35 f36 f37 f38 lv_LEAF_SIGNS lv_SAME zMS zMT:Addr}(X:K.In h) (G:h.Ns mainGlobals mg) (hfa:mg "law" = some (.ref fa))
  {od25 an25:Option Addr}{sl25:Array (Option Value)}{oc25 kV25 dc25 pm25 cd25 ct25:Value}
  {od26 an26:Option Addr}{sl26:Array (Option Value)}{oc26 kV26 dc26 pm26 cd26 ct26:Value}
  {od27 an27:Option Addr}{sl27:Array (Option Value)}{oc27 kV27 dc27 pm27 cd27 ct27:Value}
  {od28 an28:Option Addr}{sl28:Array (Option Value)}{oc28 kV28 dc28 pm28 cd28 ct28:Value}
  {od29 an29:Option Addr}{sl29:Array (Option Value)}{oc29 kV29 dc29 pm29 cd29 ct29:Value}
  {od30 an30:Option Addr}{sl30:Array (Option Value)}{oc30 kV30 dc30 pm30 cd30 ct30:Value}
  {od31 an31:Option Addr}{sl31:Array (Option Value)}{oc31 kV31 dc31 pm31 cd31 ct31:Value}
  {od32 an32:Option Addr}{sl32:Array (Option Value)}{oc32 kV32 dc32 pm32 cd32 ct32:Value}
  {od33 an33:Option Addr}{sl33:Array (Option Value)}{oc33 kV33 dc33 pm33 cd33 ct33:Value}
  {od34 an34:Option Addr}{sl34:Array (Option Value)}{oc34 kV34 dc34 pm34 cd34 ct34:Value}
  {od35 an35:Option Addr}{sl35:Array (Option Value)}{oc35 kV35 dc35 pm35 cd35 ct35:Value}
  {od36 an36:Option Addr}{sl36:Array (Option Value)}{oc36 kV36 dc36 pm36 cd36 ct36:Value}
  {od37 an37:Option Addr}{sl37:Array (Option Value)}{oc37 kV37 dc37 pm37 cd37 ct37:Value}
  {od38 an38:Option Addr}{sl38:Array (Option Value)}{oc38 kV38 dc38 pm38 cd38 ct38:Value}
  {odC0:Option Addr}{slC0:Array (Option Value)}{nC0:Nat}{tC0_0 tC0_1 tC0_2 tC0_3 tC0_4:Tok}
  {odC1:Option Addr}{slC1:Array (Option Value)}{nC1:Nat}{tC1_0:Tok}
  {tk1 tk2 tk3:Tok}
  (aK_SumCourse:W.nsIn K mainGlobals "SumCourse" = some (some (.ref zMS))) (pg_SumCourse:W.plainGet K zMS Str.empty=true) (hd_SumCourse:W.hasDictIn K zMS=true) (po_SumCourse:W.plainOver K zMS=true) (sa_SumCourse:W.findIn K (.ref zMS) "__setattr__" = some (some (.builtin "object.__setattr__"))) (mk_SumCourse:W.makesIn K zMS=true) (kc_SumCourse:W.keepIn K (.ref zMS)=true)
  (n_SumCourse_kinds:W.findIn K (.ref zMS) "kinds" = some none)
  (n_SumCourse_facts:W.findIn K (.ref zMS) "facts" = some none)
  (n_SumCourse_deeds:W.findIn K (.ref zMS) "deeds" = some none)
  (n_SumCourse_ends:W.findIn K (.ref zMS) "ends" = some none)
  (n_SumCourse_waiting:W.findIn K (.ref zMS) "waiting" = some none)
  (n_SumCourse_halt:W.findIn K (.ref zMS) "halt" = some none)
  (a0:DfA K "parts_begin" zB0 f0)
  (a1:DfA K "parts" zFb f1)
  (a2:DfA K "run_at_first" zBo f2)
  (a3:DfA K "wrapped" zDS f3)
  (a4:DfA K "summed" zEU f4)
  (a5:DfA K "plus" zHe f5)
  (a6:DfA K "minus" zFd f6)
  (a7:DfA K "times" zFa f7)
  (a8:DfA K "sum_of" zEV f8)
  (a9:DfA K "number_sum" zCH f9)
  (a10:DfA K "unknowns_in" zBz f10)
  (a11:DfA K "within_count" zBn f11)
  (a12:DfA K "is_too_great" zBq f12)
  (a13:DfA K "reckoned_sum" zBp f13)
  (a14:DfA K "side_run" zCu f14)
  (a15:DfA K "sides_run" zCZ f15)
  (a16:DfA K "paper_by" zCv f16)
  (a17:DfA K "paper" zFc f17)
  (a18:DfA K "is_paper" zCx f18)
  (a19:DfA K "_law_cell_at" zB1 f19)
  (a20:DfA K "_law_words" zCa f20)
  (a21:DfA K "_law_take" zCw f21)
  (a22:DfA K "_law_three" zCb f22)
  (a23:DfA K "_law_other" zCc f23)
  (a24:DfA K "_law_pair" zCO f24)
  (a25:W.nsIn K mainGlobals "law" = some (some (.ref f25)))
  (l25:K.lookup f25=some ⟨oc25,od25,.func (W.fnOf "law" "law" (zAt s_law) (zAr s_law) (zAH s_law) .none kV25 dc25 pm25 an25 cd25 ct25),sl25⟩) (c25:W.codeIn K cd25 "law" = true)
  (a26:W.findIn K (.ref zMT) "__init__" = some (some (.ref f26))) (i26:W.isFn K (.ref f26)=true)
  (l26:K.lookup f26=some ⟨oc26,od26,.func (W.fnOf "__init__" "Course.__init__" (zAt zAm) (zAr zAm) (zAH zAm) .none kV26 dc26 pm26 an26 cd26 ct26),sl26⟩) (c26:W.codeIn K cd26 "Course.__init__" = true)
  (a27:W.findIn K (.ref zMS) "await_run" = some (some (.ref f27))) (i27:W.isFn K (.ref f27)=true)
  (l27:K.lookup f27=some ⟨oc27,od27,.func (W.fnOf "await_run" "Course.await_run" (zAt zAk) (zAr zAk) (zAH zAk) .none kV27 dc27 pm27 an27 cd27 ct27),sl27⟩) (c27:W.codeIn K cd27 "Course.await_run" = true)
  (a28:W.findIn K (.ref zMS) "await_rest" = some (some (.ref f28))) (i28:W.isFn K (.ref f28)=true)
  (l28:K.lookup f28=some ⟨oc28,od28,.func (W.fnOf "await_rest" "Course.await_rest" (zAt zAf) (zAr zAf) (zAH zAf) .none kV28 dc28 pm28 an28 cd28 ct28),sl28⟩) (c28:W.codeIn K cd28 "Course.await_rest" = true)
  (a29:W.findIn K (.ref zMS) "begin" = some (some (.ref f29))) (i29:W.isFn K (.ref f29)=true)
  (l29:K.lookup f29=some ⟨oc29,od29,.func (W.fnOf "begin" "Course.begin" (zAt zAy) (zAr zAy) (zAH zAy) .none kV29 dc29 pm29 an29 cd29 ct29),sl29⟩) (c29:W.codeIn K cd29 "Course.begin" = true)
  (a30:W.findIn K (.ref zMS) "go_on" = some (some (.ref f30))) (i30:W.isFn K (.ref f30)=true)
  (l30:K.lookup f30=some ⟨oc30,od30,.func (W.fnOf "go_on" "Course.go_on" (zAt zAx) (zAr zAx) (zAH zAx) .none kV30 dc30 pm30 an30 cd30 ct30),sl30⟩) (c30:W.codeIn K cd30 "Course.go_on" = true)
  (a31:W.findIn K (.ref zMS) "run_whole" = some (some (.ref f31))) (i31:W.isFn K (.ref f31)=true)
  (l31:K.lookup f31=some ⟨oc31,od31,.func (W.fnOf "run_whole" "Course.run_whole" (zAt zAj) (zAr zAj) (zAH zAj) .none kV31 dc31 pm31 an31 cd31 ct31),sl31⟩) (c31:W.codeIn K cd31 "Course.run_whole" = true)
  (a32:W.findIn K (.ref zMS) "__init__" = some (some (.ref f32))) (i32:W.isFn K (.ref f32)=true)
  (l32:K.lookup f32=some ⟨oc32,od32,.func (W.fnOf "__init__" "SumCourse.__init__" (zAt zAc) (zAr zAc) (zAH zAc) .none kV32 dc32 pm32 an32 cd32 ct32),sl32⟩) (c32:W.codeIn K cd32 "SumCourse.__init__" = true)
  (a33:W.findIn K (.ref zMS) "end_with" = some (some (.ref f33))) (i33:W.isFn K (.ref f33)=true)
  (l33:K.lookup f33=some ⟨oc33,od33,.func (W.fnOf "end_with" "SumCourse.end_with" (zAt zAZ) (zAr zAZ) (zAH zAZ) .none kV33 dc33 pm33 an33 cd33 ct33),sl33⟩) (c33:W.codeIn K cd33 "SumCourse.end_with" = true)
  (a34:W.findIn K (.ref zMS) "known_sum" = some (some (.ref f34))) (i34:W.isFn K (.ref f34)=true)
  (l34:K.lookup f34=some ⟨oc34,od34,.func (W.fnOf "known_sum" "SumCourse.known_sum" (zAt zAX) (zAr zAX) (zAH zAX) .none kV34 dc34 pm34 an34 cd34 ct34),sl34⟩) (c34:W.codeIn K cd34 "SumCourse.known_sum" = true)
  (a35:W.findIn K (.ref zMS) "atom_sum" = some (some (.ref f35))) (i35:W.isFn K (.ref f35)=true)
  (l35:K.lookup f35=some ⟨oc35,od35,.func (W.fnOf "atom_sum" "SumCourse.atom_sum" (zAt zAb) (zAr zAb) (zAH zAb) .none kV35 dc35 pm35 an35 cd35 ct35),sl35⟩) (c35:W.codeIn K cd35 "SumCourse.atom_sum" = true)
  (a36:W.findIn K (.ref zMS) "end_gap" = some (some (.ref f36))) (i36:W.isFn K (.ref f36)=true)
  (l36:K.lookup f36=some ⟨oc36,od36,.func (W.fnOf "end_gap" "SumCourse.end_gap" (zAt zAe) (zAr zAe) (zAH zAe) .none kV36 dc36 pm36 an36 cd36 ct36),sl36⟩) (c36:W.codeIn K cd36 "SumCourse.end_gap" = true)
  (a37:W.findIn K (.ref zMS) "end_leaf" = some (some (.ref f37))) (i37:W.isFn K (.ref f37)=true)
  (l37:K.lookup f37=some ⟨oc37,od37,.func (W.fnOf "end_leaf" "SumCourse.end_leaf" (zAt zAa) (zAr zAa) (zAH zAa) .none kV37 dc37 pm37 an37 cd37 ct37),sl37⟩) (c37:W.codeIn K cd37 "SumCourse.end_leaf" = true)
  (a38:W.findIn K (.ref zMS) "end_two" = some (some (.ref f38))) (i38:W.isFn K (.ref f38)=true)
  (l38:K.lookup f38=some ⟨oc38,od38,.func (W.fnOf "end_two" "SumCourse.end_two" (zAt zAd) (zAr zAd) (zAH zAd) .none kV38 dc38 pm38 an38 cd38 ct38),sl38⟩) (c38:W.codeIn K cd38 "SumCourse.end_two" = true)
  (aC0:W.nsIn K mainGlobals "LEAF_SIGNS" = some (some (.ref lv_LEAF_SIGNS))) (lC0:K.lookup lv_LEAF_SIGNS=some ⟨.type "tuple", odC0,.seq #[.str "num" tC0_0,.str "name" tC0_1,.str "ask" tC0_2,.str "stop" tC0_3,.str "gap" tC0_4] nC0,slC0⟩)
  (aC1:W.nsIn K mainGlobals "SAME" = some (some (.ref lv_SAME))) (lC1:K.lookup lv_SAME=some ⟨.type "tuple", odC1,.seq #[.str "same" tC1_0] nC1,slC1⟩)
  (aB:W.nsIn K mainGlobals "Course" = some (some (.ref zMT)))
  (sgB:W.specialIn K (.ref zMT) "__getattribute__" = some (some (.builtin "type.__getattribute__")))
  (rdB:W.readsIn K zMT (.type "type")=true)
  (fcB:W.findCls K (.ref zMT) (.type "type") "__init__" = some (.val (.ref f26)))
  (aMP:W.nsIn K mainGlobals "MOST_PRODUCTS" = some (some (.int 40 tk1)))
  (aMF:W.nsIn K mainGlobals "MOST_FACTORS" = some (some (.int 40 tk2)))
  (aMW:W.nsIn K mainGlobals "MOST_WITHIN" = some (some (.int 4 tk3)))
  (z_len:W.nsIn K mainGlobals "len" = some none)
  (z_range:W.nsIn K mainGlobals "range" = some none)
  (z_int:W.nsIn K mainGlobals "int" = some none)
  (z_tuple:W.nsIn K mainGlobals "tuple" = some none)
  (z_sorted:W.nsIn K mainGlobals "sorted" = some none)
  (z_any:W.nsIn K mainGlobals "any" = some none)
  (z_max:W.nsIn K mainGlobals "max" = some none)
  (z_dict:W.nsIn K mainGlobals "dict" = some none)
  (z_reversed:W.nsIn K mainGlobals "reversed" = some none)
  (z_isinstance:W.nsIn K mainGlobals "isinstance" = some none)
  : ∃fd:FuncData,(∀(s:Shared) (v:Value),BindsTo s fd ⟨[v],[]⟩ [("_law_script", v)])/\∀base:Heap,K.In base->base.Ns mainGlobals mg->FnOk l.prog w K mg base CX0 13 fa fd ["_law_script"] (zGE K):=by
 have e:=hfa.symm.trans (W.mg_of X G a25);cases e;have z_len:=W.mg_none_of X G z_len;have z_range:=W.mg_none_of X G z_range;have z_int:=W.mg_none_of X G z_int;have z_tuple:=W.mg_none_of X G z_tuple;have z_sorted:=W.mg_none_of X G z_sorted;have z_any:=W.mg_none_of X G z_any;have z_max:=W.mg_none_of X G z_max;have z_dict:=W.mg_none_of X G z_dict;have z_reversed:=W.mg_none_of X G z_reversed;have z_isinstance:=W.mg_none_of X G z_isinstance;have zL8:=W.mg_of X G aC0;have h_LEAF_SIGNS:zDs K lv_LEAF_SIGNS:=⟨_,_,_,lC0,rfl,rfl,(by show 5<=sizeLine;decide),(.cons ⟨_,rfl⟩ (.cons ⟨_,rfl⟩ (.cons ⟨_,rfl⟩ (.cons ⟨_,rfl⟩ (.cons ⟨_,rfl⟩ .nil)))))⟩;have zMK:=W.mg_of X G aC1;have h_SAME:SameT K lv_SAME:=⟨_,_,_,lC1,rfl,rfl,(by show 1<=sizeLine;decide),(.cons ⟨_,rfl⟩ .nil)⟩;have T:Txt K mg zMS zMT f26:=⟨⟨pg_SumCourse,hd_SumCourse,po_SumCourse,sa_SumCourse⟩,n_SumCourse_kinds,n_SumCourse_facts,n_SumCourse_deeds,n_SumCourse_ends,n_SumCourse_waiting,n_SumCourse_halt,W.mg_of X G aK_SumCourse,W.mg_of X G aB,⟨sgB,⟨_,rdB,fcB⟩,zA5 l26⟩⟩;have m_MP:=W.mg_of X G aMP;have m_MF:=W.mg_of X G aMF;have m_MW:=W.mg_of X G aMW;obtain⟨_,F0,m0⟩:=a0.go X G;have b0:=F0.binds (ps:=["tree"]) λ U U U U U U=>us1 λ U=>rfl;obtain⟨_,F1,m1⟩:=a1.go X G;have b1:=F1.binds (ps:=["tree"]) λ U U U U U U=>us1 λ U=>rfl;obtain⟨_,F2,m2⟩:=a2.go X G;have b2:=F2.binds (ps:=["tree"]) λ U U U U U U=>us1 λ U=>rfl;obtain⟨_,F3,m3⟩:=a3.go X G;have b3:=F3.binds (ps:=["number"]) λ U U U U U U=>us1 λ U=>rfl;obtain⟨_,F4,m4⟩:=a4.go X G;have b4:=F4.binds (ps:=["rows"]) λ U U U U U U=>us1 λ U=>rfl;obtain⟨_,F5,m5⟩:=a5.go X G;have b5:=F5.binds (ps:=["one", "other"]) λ U U U U U U=>us2 λ U U=>rfl;obtain⟨_,F6,m6⟩:=a6.go X G;have b6:=F6.binds (ps:=["one", "other"]) λ U U U U U U=>us2 λ U U=>rfl;obtain⟨_,F7,m7⟩:=a7.go X G;have b7:=F7.binds (ps:=["one", "other"]) λ U U U U U U=>us2 λ U U=>rfl;obtain⟨_,F8,m8⟩:=a8.go X G;have b8:=F8.binds (ps:=["unknown"]) λ U U U U U U=>us1 λ U=>rfl;obtain⟨_,F9,m9⟩:=a9.go X G;have b9:=F9.binds (ps:=["number"]) λ U U U U U U=>us1 λ U=>rfl;obtain⟨_,F10,m10⟩:=a10.go X G;have b10:=F10.binds (ps:=["told"]) λ U U U U U U=>us1 λ U=>rfl;obtain⟨_,F11,m11⟩:=a11.go X G;have b11:=F11.binds (ps:=["unknown"]) λ U U U U U U=>us1 λ U=>rfl;obtain⟨_,F12,m12⟩:=a12.go X G;have b12:=F12.binds (ps:=["told"]) λ U U U U U U=>us1 λ U=>rfl;obtain⟨_,F13,m13⟩:=a13.go X G;have b13:=F13.binds (ps:=["sign", "one", "other"]) λ U U U U U U=>us3 λ U U U=>rfl;obtain⟨_,F14,m14⟩:=a14.go X G;have b14:=F14.binds (ps:=["side", "kinds", "facts"]) λ U U U U U U=>us3 λ U U U=>rfl;obtain⟨_,F15,m15⟩:=a15.go X G;have b15:=F15.binds (ps:=["rule", "facts"]) λ U U U U U U=>us2 λ U U=>rfl;obtain⟨_,F16,m16⟩:=a16.go X G;have b16:=F16.binds (ps:=["rule", "facts"]) λ U U U U U U=>us2 λ U U=>rfl;obtain⟨_,F17,m17⟩:=a17.go X G;have b17:=F17.binds (ps:=["rule"]) λ U U U U U U=>us1 λ U=>rfl;obtain⟨_,F18,m18⟩:=a18.go X G;have b18:=F18.binds (ps:=["rule", "told"]) λ U U U U U U=>us2 λ U U=>rfl;obtain⟨_,F19,m19⟩:=a19.go X G;have b19:=F19.binds (ps:=["_law_script", "_law_k"]) λ U U U U U U=>us2 λ U U=>rfl;obtain⟨_,F20,m20⟩:=a20.go X G;have b20:=F20.binds (ps:=["_law_cell", "_law_many"]) λ U U U U U U=>us2 λ U U=>rfl;obtain⟨_,F21,m21⟩:=a21.go X G;have b21:=F21.binds (ps:=["_law_state"]) λ U U U U U U=>us1 λ U=>rfl;obtain⟨_,F22,m22⟩:=a22.go X G;have b22:=F22.binds (ps:=["_law_tree"]) λ U U U U U U=>us1 λ U=>rfl;obtain⟨_,F23,m23⟩:=a23.go X G;have b23:=F23.binds (ps:=["_law_tree", "_law_cell", "_law_state"]) λ U U U U U U=>us3 λ U U U=>rfl;obtain⟨_,F24,m24⟩:=a24.go X G;have b24:=F24.binds (ps:=["_law_state", "_law_deep"]) λ U U U U U U=>us2 λ U U=>rfl;have k25:=zA5 l25;have F25:=zBi (st:=s_law) l25 c25 k25;have b25:=F25.binds (ps:=["_law_script"]) λ U U U U U U=>us1 λ U=>rfl;have m25:=W.mg_of X G a25;have k26:=zA5 l26;have F26:=zBi (st:=zAm) l26 c26 k26;have b26:=F26.binds (ps:=["self"]) λ U U U U U U=>us1 λ U=>rfl;have k27:=zA5 l27;have F27:=zBi (st:=zAk) l27 c27 k27;have b27:=F27.binds (ps:=["self", "tree", "known"]) λ U U U U U U=>us3 λ U U U=>rfl;have k28:=zA5 l28;have F28:=zBi (st:=zAf) l28 c28 k28;have b28:=F28.binds (ps:=["self", "tree", "known"]) λ U U U U U U=>us3 λ U U U=>rfl;have k29:=zA5 l29;have F29:=zBi (st:=zAy) l29 c29 k29;have b29:=F29.binds (ps:=["self", "tree", "known"]) λ U U U U U U=>us3 λ U U U=>rfl;have k30:=zA5 l30;have F30:=zBi (st:=zAx) l30 c30 k30;have b30:=F30.binds (ps:=["self", "tree", "known"]) λ U U U U U U=>us3 λ U U U=>rfl;have k31:=zA5 l31;have F31:=zBi (st:=zAj) l31 c31 k31;have b31:=F31.binds (ps:=["self", "tree", "known"]) λ U U U U U U=>us3 λ U U U=>rfl;have k32:=zA5 l32;have F32:=zBi (st:=zAc) l32 c32 k32;have b32:=F32.binds (ps:=["self", "kinds", "facts"]) λ U U U U U U=>us3 λ U U U=>rfl;have k33:=zA5 l33;have F33:=zBi (st:=zAZ) l33 c33 k33;have b33:=F33.binds (ps:=["self", "told"]) λ U U U U U U=>us2 λ U U=>rfl;have k34:=zA5 l34;have F34:=zBi (st:=zAX) l34 c34 k34;have b34:=F34.binds (ps:=["self", "unknown"]) λ U U U U U U=>us2 λ U U=>rfl;have k35:=zA5 l35;have F35:=zBi (st:=zAb) l35 c35 k35;have b35:=F35.binds (ps:=["self", "atom", "known"]) λ U U U U U U=>us3 λ U U U=>rfl;have k36:=zA5 l36;have F36:=zBi (st:=zAe) l36 c36 k36;have b36:=F36.binds (ps:=["self", "gap", "known"]) λ U U U U U U=>us3 λ U U U=>rfl;have k37:=zA5 l37;have F37:=zBi (st:=zAa) l37 c37 k37;have b37:=F37.binds (ps:=["self", "leaf", "known"]) λ U U U U U U=>us3 λ U U U=>rfl;have k38:=zA5 l38;have F38:=zBi (st:=zAd) l38 c38 k38;have b38:=F38.binds (ps:=["self", "sign", "one", "other"]) λ U U U U U U=>us4 λ U U U U=>rfl;refine⟨W.fnOf "law" "law" (zAt s_law) (zAr s_law) (zAH s_law) .none kV25 dc25 pm25 an25 cd25 ct25,λ s v=>.of_eq rfl,λ base U U=>?_⟩;have G0:FnB l.prog w K mg base 1 "parts_begin" f0 _ _ _:=⟨zDv (k:=0) F0 z_len zL8 h_LEAF_SIGNS,b0,F0.kp,m0⟩;have G1:FnB l.prog w K mg base 2 "parts" f1 _ _ _:=⟨zI0 F1 (G0.up (k:=1) (by decide)),b1,F1.kp,m1⟩;have G2:FnB l.prog w K mg base 3 "run_at_first" f2 _ _ _:=⟨zDb F2 (G1.up (k:=2) (by decide)),b2,F2.kp,m2⟩;have G26:FnM l.prog w K mg base 1 zMT "__init__" f26 _ _ _:=⟨zI6 (k:=0) F26 T,b26,⟨a26,i26,k26⟩⟩;have G27:FnM l.prog w K mg base 1 zMS "await_run" f27 _ _ _:=⟨zE7 (k:=0) F27 T,b27,⟨a27,i27,k27⟩⟩;have G28:FnM l.prog w K mg base 1 zMS "await_rest" f28 _ _ _:=⟨zEY (k:=0) F28 T,b28,⟨a28,i28,k28⟩⟩;have G3:FnB l.prog w K mg base 1 "wrapped" f3 _ _ _:=⟨zGt (k:=0) F3,b3,F3.kp,m3⟩;have G4:FnB l.prog w K mg base 2 "summed" f4 _ _ _:=⟨zHv F4 z_sorted z_tuple (G3.up (k:=1) (by decide)),b4,F4.kp,m4⟩;have G5:FnB l.prog w K mg base 3 "plus" f5 _ _ _:=⟨zKe F5 (G4.up (k:=2) (by decide)),b5,F5.kp,m5⟩;have G6:FnB l.prog w K mg base 3 "minus" f6 _ _ _:=⟨zI3 F6 z_tuple (G4.up (k:=2) (by decide)),b6,F6.kp,m6⟩;have G7:FnB l.prog w K mg base 3 "times" f7 _ _ _:=⟨zIw F7 z_sorted z_tuple (G4.up (k:=2) (by decide)),b7,F7.kp,m7⟩;have G8:FnB l.prog w K mg base 1 "sum_of" f8 _ _ _:=⟨zIy (k:=0) F8,b8,F8.kp,m8⟩;have G9:FnB l.prog w K mg base 1 "number_sum" f9 _ _ _:=⟨zHx (k:=0) F9,b9,F9.kp,m9⟩;have G10:FnB l.prog w K mg base 1 "unknowns_in" f10 _ _ _:=⟨zKa (k:=0) F10,b10,F10.kp,m10⟩;have G11:FnB l.prog w K mg base 2 "within_count" f11 _ _ _:=⟨zHu F11 z_max (G10.up (k:=1) (by decide)) ⟨ok_no,b11,F11.kp,m11⟩,b11,F11.kp,m11⟩;have G12:FnB l.prog w K mg base 3 "is_too_great" f12 _ _ _:=⟨zI5 F12 z_len z_any m_MP m_MF m_MW (G10.up (k:=2) (by decide)) (G11.up (k:=2) (by decide)),b12,F12.kp,m12⟩;have G13:FnB l.prog w K mg base 4 "reckoned_sum" f13 _ _ _:=⟨zKd F13 (G5.up (k:=3) (by decide)) (G6.up (k:=3) (by decide)) (G7.up (k:=3) (by decide)),b13,F13.kp,m13⟩;have G32:FnM l.prog w K mg base 2 zMS "__init__" f32 _ _ _:=⟨zKh F32 T z_dict (G26.up (k:=1) (by decide)),b32,⟨a32,i32,k32⟩⟩;have G33:FnM l.prog w K mg base 4 zMS "end_with" f33 _ _ _:=⟨zKZ F33 T (G12.up (k:=3) (by decide)),b33,⟨a33,i33,k33⟩⟩;have G34:FnM l.prog w K mg base 2 zMS "known_sum" f34 _ _ _:=⟨zI4 F34 T (G8.up (k:=1) (by decide)),b34,⟨a34,i34,k34⟩⟩;have G35:FnM l.prog w K mg base 2 zMS "atom_sum" f35 _ _ _:=⟨zKj F35 (G9.up (k:=1) (by decide)),b35,⟨a35,i35,k35⟩⟩;have G36:FnM l.prog w K mg base 5 zMS "end_gap" f36 _ _ _:=⟨zLV F36 T z_tuple (G33.up (k:=4) (by decide)) (G34.up (k:=4) (by decide)),b36,⟨a36,i36,k36⟩⟩;have G37:FnM l.prog w K mg base 6 zMS "end_leaf" f37 _ _ _:=⟨zKg F37 T (G33.up (k:=5) (by decide)) (G36.up (k:=5) (by decide)) (G35.up (k:=5) (by decide)),b37,⟨a37,i37,k37⟩⟩;have G38:FnM l.prog w K mg base 5 zMS "end_two" f38 _ _ _:=⟨zLS F38 T (G33.up (k:=4) (by decide)) (G13.up (k:=4) (by decide)),b38,⟨a38,i38,k38⟩⟩;have G29:FnM l.prog w K mg base 7 zMS "begin" f29 _ _ _:=⟨zI7 F29 T z_reversed zL8 h_LEAF_SIGNS (G2.up (k:=6) (by decide)) (G37.up (k:=6) (by decide)) (G28.up (k:=6) (by decide)) (G27.up (k:=6) (by decide)),b29,⟨a29,i29,k29⟩⟩;have G30:FnM l.prog w K mg base 6 zMS "go_on" f30 _ _ _:=⟨zKi F30 T (G38.up (k:=5) (by decide)),b30,⟨a30,i30,k30⟩⟩;have G31:FnM l.prog w K mg base 8 zMS "run_whole" f31 _ _ _:=⟨zHw F31 T (G27.up (k:=7) (by decide)) (G29.up (k:=7) (by decide)) (G30.up (k:=7) (by decide)),b31,⟨a31,i31,k31⟩⟩;have G14:FnB l.prog w K mg base 9 "side_run" f14 _ _ _:=⟨zKc F14 T ⟨mk_SumCourse,a32,i32,kc_SumCourse⟩ (G32.up (k:=7) (by decide)) (G31.up (k:=8) (by decide)),b14,F14.kp,m14⟩;have G15:FnB l.prog w K mg base 10 "sides_run" f15 _ _ _:=⟨zIz F15 zMK (G14.up (k:=9) (by decide)),b15,F15.kp,m15⟩;have G16:FnB l.prog w K mg base 11 "paper_by" f16 _ _ _:=⟨ok_by F16 zMK h_SAME (G15.up (k:=10) (by decide)),b16,F16.kp,m16⟩;have G17:FnB l.prog w K mg base 12 "paper" f17 _ _ _:=⟨zI1 F17 (G16.up (k:=11) (by decide)),b17,F17.kp,m17⟩;have G18:FnB l.prog w K mg base 11 "is_paper" f18 _ _ _:=⟨zLU F18 zMK h_SAME (G15.up (k:=10) (by decide)),b18,F18.kp,m18⟩;have G19:FnB l.prog w K mg base 1 "_law_cell_at" f19 _ _ _:=⟨zGu (k:=0) F19 z_len,b19,F19.kp,m19⟩;have G20:FnB l.prog w K mg base 1 "_law_words" f20 _ _ _:=⟨zIv (k:=0) F20 z_range z_len z_int,b20,F20.kp,m20⟩;have G21:FnB l.prog w K mg base 1 "_law_take" f21 _ _ _:=⟨zKb (k:=0) F21 z_len,b21,F21.kp,m21⟩;have G22:FnB l.prog w K mg base 1 "_law_three" f22 _ _ _:=⟨zIx (k:=0) F22,b22,F22.kp,m22⟩;have G23:FnB l.prog w K mg base 2 "_law_other" f23 _ _ _:=⟨zI2 F23 (G22.up (k:=1) (by decide)),b23,F23.kp,m23⟩;have G24:=zGh (P:=l.prog) (w:=w) (base:=base) (k:=2) F24 b24 m24 (G21.up (k:=2) (by decide)) (G23.up (k:=2) (by decide)) 5;exact zLT F25 z_range z_sorted z_tuple z_isinstance h_SAME (G19.up (k:=12) (by decide)) (G20.up (k:=12) (by decide)) (G24.up (k:=12) (by decide)) (G17.up (k:=12) (by decide)) (G18.up (k:=12) (by decide))
theorem walk {l:W.OpenLaw}{q:Program}{loose:List Str}{XP:(Str->Option Value)->Heap->Prop}{YP:World->Heap->Prop}{d:DefRec}{K:Params->W.Frag}(hn:l.most=some 63) (hdf:d.params.defaults=[])
  (hY:∀(w:World) (h:Heap),YP w h->(K w.params).In h)
  (F:∀(w:World) (mg:Str->Option Value) (fa:Addr) (h:Heap),(K w.params).In h->h.Ns mainGlobals mg->mg d.name=some (.ref fa) ->
   ∃fd:FuncData,(∀(s:Shared) (u:Value),BindsTo s fd ⟨[u],[]⟩ [("_law_script", u)])/\∀base:Heap,(K w.params).In base->base.Ns mainGlobals mg->FnOk l.prog w (K w.params) mg base CX0 13 fa fd ["_law_script"] (zGE (K w.params))) :
  W.WalkO q loose XP YP l.row.toRowW d [] (λ f vs=>PySem.call f vs) :=
 L2.walk_of (n:=63) (k:=13) (x := "_law_script") (CX:=λ U=>CX0) (sp:=λ w=>zGE (K w.params)) hn (by decide) hdf ⟨rfl,by decide,by decide⟩ hY F (λ U U a ns hl U hS=>⟨a,ns,rfl,hS,λ U=>rfl⟩) λ U U U U U z=>z
end
end K41
namespace PySem.W.Fast
def tw14146094862508236465:Unit:=()
def tw7633236825298946880:Unit:=()
def tw12544929286905774412:Unit:=()
def tw5397470808942312268:Unit:=()
def tw7752372103054931909:Unit:=()
def tw6593497575551972878:Unit:=()
def tw1103993956688649203:Unit:=()
def tw16595778064175453630:Unit:=()
def tw13897131462935182779:Unit:=()
def tw10177577272990727183:Unit:=()
def tw13178211993897880363:Unit:=()
def tw11386052179570590560:Unit:=()
def tw9752380695506884228:Unit:=()
def tw15360568142899870682:Unit:=()
def tw13389413393142145324:Unit:=()
def tw7181833504581762411:Unit:=()
def tw2126368534611058087:Unit:=()
def tw15885303420274166985:Unit:=()
def tw4953801738824090048:Unit:=()
def tw7028384190942487750:Unit:=()
def tw8251449786737570525:Unit:=()
def tw10366333627795223682:Unit:=()
def tw5975265689333461421:Unit:=()
def tw9288083092508629349:Unit:=()
def tw5327609180826743794:Unit:=()
def tw7290016872343993717:Unit:=()
def tw2515902628244515017:Unit:=()
def tw7472041983697008395:Unit:=()
def tw16060742782779833011:Unit:=()
def tw9302536291297669604:Unit:=()
def tw1649424788341411453:Unit:=()
def tw10389053704938501161:Unit:=()
def tw17535418785767870473:Unit:=()
def tw9622854758316661701:Unit:=()
def tw13872658710192856117:Unit:=()
def tw10738121438029646644:Unit:=()
def tw1668056250657787595:Unit:=()
def tw8801884070138548029:Unit:=()
def tw7847674842236675337:Unit:=()
def tw12500355718090496294:Unit:=()
def tw12381473242266178775:Unit:=()
def tw4696474634248421942:Unit:=()
def tw8177110001458195384:Unit:=()
def tw260422937257430652:Unit:=()
def tw3515118715620329986:Unit:=()
def tw16548211708985832570:Unit:=()
def tw13710718898465810308:Unit:=()
def tw7887371731330511106:Unit:=()
def tw9077627522875538296:Unit:=()
def tw11394383878263043361:Unit:=()
def tw16288516293802580338:Unit:=()
def tw1882988248403353532:Unit:=()
def tw514540462367781045:Unit:=()
def tw3616346917825317471:Unit:=()
def tw13141151475425214648:Unit:=()
def tw14351359417345004399:Unit:=()
def tw6241183595687727791:Unit:=()
def tw9151383949265326179:Unit:=()
def tw8175900958120328708:Unit:=()
def tw12842445487693276772:Unit:=()
def tw10245474688464160334:Unit:=()
def tw1025185882589231972:Unit:=()
def tw5782904537169221231:Unit:=()
def tw7630728927999859836:Unit:=()
def tw14007179332411654243:Unit:=()
def tw10981600311908265833:Unit:=()
def tw11813112110171494110:Unit:=()
def tw1447401415159173256:Unit:=()
def tw11551927773642117602:Unit:=()
def tw2826950724281615426:Unit:=()
def tw9449641703040283650:Unit:=()
def tw6599140818566378166:Unit:=()
def tw12884663600781575500:Unit:=()
def tw4128661048932611612:Unit:=()
def tw7495723957656187733:Unit:=()
def tw5101597118906500329:Unit:=()
def tw3903504519108608096:Unit:=()
def tw4624133876303099792:Unit:=()
def tw7580433347187552143:Unit:=()
end PySem.W.Fast
open PySem PySem.W PyProof.Rows K41
set_option maxRecDepth 100000 in
set_option maxHeartbeats 0 in
theorem PySem.Challenge.cw_recastle_k41_sums_have_papers_holds : PySem.Challenge.rw_recastle_k41_sums_have_papers.Holds := by
 w_on;o_law;k_head;(case hw=>w_witness2)
 k_fill
 refine K41.walk (l:=PySem.Challenge.rw_recastle_k41_sums_have_papers) rfl rfl (λ w h Y=>W.kIn_of Y) ?F
 case F =>
  intro w mg fa h KX G hmg
  refine' K41.all_mk KX G hmg ?aK_SumCourse ?pg_SumCourse ?hd_SumCourse ?po_SumCourse ?sa_SumCourse ?mk_SumCourse ?kc_SumCourse ?n_SumCourse_kinds ?n_SumCourse_facts ?n_SumCourse_deeds ?n_SumCourse_ends ?n_SumCourse_waiting ?n_SumCourse_halt (dfa ?_ ?_ ?_) (dfa ?_ ?_ ?_) (dfa ?_ ?_ ?_) (dfa ?_ ?_ ?_) (dfa ?_ ?_ ?_) (dfa ?_ ?_ ?_) (dfa ?_ ?_ ?_) (dfa ?_ ?_ ?_) (dfa ?_ ?_ ?_) (dfa ?_ ?_ ?_) (dfa ?_ ?_ ?_) (dfa ?_ ?_ ?_) (dfa ?_ ?_ ?_) (dfa ?_ ?_ ?_) (dfa ?_ ?_ ?_) (dfa ?_ ?_ ?_) (dfa ?_ ?_ ?_) (dfa ?_ ?_ ?_) (dfa ?_ ?_ ?_) (dfa ?_ ?_ ?_) (dfa ?_ ?_ ?_) (dfa ?_ ?_ ?_) (dfa ?_ ?_ ?_) (dfa ?_ ?_ ?_) (dfa ?_ ?_ ?_) ?a25 ?l25 ?c25 ?a26 ?i26 ?l26 ?c26 ?a27 ?i27 ?l27 ?c27 ?a28 ?i28 ?l28 ?c28 ?a29 ?i29 ?l29 ?c29 ?a30 ?i30 ?l30 ?c30 ?a31 ?i31 ?l31 ?c31 ?a32 ?i32 ?l32 ?c32 ?a33 ?i33 ?l33 ?c33 ?a34 ?i34 ?l34 ?c34 ?a35 ?i35 ?l35 ?c35 ?a36 ?i36 ?l36 ?c36 ?a37 ?i37 ?l37 ?c37 ?a38 ?i38 ?l38 ?c38 ?aC0 ?lC0 ?aC1 ?lC1 ?aB ?sgB ?rdB ?fcB ?aMP ?aMF ?aMW ?z_len ?z_range ?z_int ?z_tuple ?z_sorted ?z_any ?z_max ?z_dict ?z_reversed ?z_isinstance
  (case aB=>k_is)
  all_goals try k_is
#print axioms PySem.Challenge.cw_recastle_k41_sums_have_papers_holds