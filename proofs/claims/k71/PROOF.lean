import PyProof.Rows.All
import Wide.All
import OpenK.AllK
import Wide.FinOn
import Lean
import PyProof.EqAt
import PyProof.EqKinds
import PyProof.TupleCall
import PyProof.NeKinds
import PyProof.AttrMissHeap
import KE.KDictOf
import KE.KDictLaws
import KE.KSortTup
import PyProof.Rows.SortWalk
import PyProof.Rows.SortShellK
import PySem.Challenge.RW_recastle_k71_most_special
local macro_rules|`(tactic|symm)=>`(tactic|decide +kernel)
abbrev XQ:=PySem.Value->PySem.Shared->Prop
abbrev mD:=@List.length_map
abbrev mH:=@List.size_toArray
abbrev mJ:=@List.getElem?_map
abbrev mK:=@List.length_append
abbrev mL:=@List.map_cons
abbrev mM:=@List.length_cons
abbrev mN:=@List.length_take
abbrev mO:=@List.take_length
abbrev mP:=@List.map_append
abbrev mQ:=@List.mem_singleton
abbrev mS:=@List.getElem?_append_left
abbrev mU:=@List.take_of_length_le
abbrev mV:=@List.length_drop
abbrev mW:=@List.mem_flatMap
abbrev mX:=@List.append_assoc
abbrev mZ:=@List.not_mem_nil
abbrev nD:=@List.mem_of_mem_take
abbrev nG:=@Array.getElem?_toList
abbrev nI:=@List.flatMap_append
abbrev nJ:=@List.length_eq_zero_iff
abbrev nK:=@List.mem_append
abbrev nL:=@List.mem_cons
abbrev nM:=@List.getElem?_eq_getElem
abbrev nO:=@List.append_nil
abbrev nP:=@List.map_map
abbrev nS:=@List.nil_append
abbrev nW:=@List.getElem?_take
abbrev rC:=@List.nodup_cons
abbrev rF:=@List.flatMap_cons
abbrev rK:=@PyProof.Rows.boot_tuple
abbrev rS:=@PySem.F.plainAttrs_list
abbrev rT:=@PySem.F.plainAttrs_dict
abbrev rW:=@PySem.F.slot_list_extend
abbrev rX:=@PySem.F.type_list_extend
abbrev lA:=@PySem.wpAny_bind
abbrev lB:=@PySem.wpAny_pure
abbrev lD:=@PySem.wpAny_ite_false
abbrev lE:=@PySem.wpAny_holding
abbrev lG:=@PySem.Heap.get?_push_of_some
abbrev lH:=@PySem.Heap.get?_push_size
abbrev lI:=@PySem.Heap.lt_size
abbrev lJ:=@List.getElem?_eq_some_iff
abbrev lK:=@List.mem_append
abbrev lM:=@List.mem_of_getElem?
abbrev lN:=@List.mem_cons
abbrev lO:=@List.mem_cons_self
abbrev lP:=@List.mem_cons_of_mem
abbrev lQ:=@Nat.le_refl
abbrev lS:=@Nat.ne_of_lt
abbrev lT:=@of_decide_eq_true
abbrev lU:=@decide_eq_true
abbrev lV:=@Option.map_eq_some_iff
abbrev lW:=@List.getElem?_eq_getElem
abbrev lX:=@Bool.false_ne_true
abbrev lY:=@Nat.zero_le
abbrev lZ:=@Nat.lt_of_lt_of_le
abbrev mB:=@List.mem_append_right
abbrev mC:=@List.mem_map
abbrev mE:=@Option.some.inj
abbrev mF:=@List.mem_append_left
abbrev mG:=@Nat.le_trans
abbrev mI:=@PySem.Heap.get?_update_self
set_option Elab.async false
set_option tactic.hygienic false
set_option linter.all false
set_option maxRecDepth 100000
set_option maxHeartbeats 4000000
namespace L2
open PySem PySem.Spec PyProof.Rows
abbrev Key:=Sum Int Str
noncomputable def keyIs:Key->Value->Bool
 |.inl k,v=>Value.isInt k v
 |.inr x,v=>Value.isStrOf x v
noncomputable def keyH (w:World):Key->Int
 |.inl k=>hashInt k
 |.inr x=>hashStr w x
theorem zAo:∀{k:Key}{v:Value},keyIs k v=true->(∃i t,k=Sum.inl i/\v=Value.int i t)\/(∃x t,k=Sum.inr x/\v=Value.str x t)
 |.inl i,v,h=>by
  obtain⟨t,e⟩:=Value.isInt_shape (k:=i) (v:=v) h;exact .inl ⟨i,t,rfl,e⟩
 |.inr x,v,h=>by
  obtain⟨t,e⟩:=Value.isStrOf_shape (x:=x) (v:=v) h;exact .inr ⟨x,t,rfl,e⟩
theorem zEk (i:Int) (t:Tok):keyIs (.inl i) (.int i t)=true:=by simp[keyIs,Value.isInt]
theorem zEj (x:Str) (t:Tok):keyIs (.inr x) (.str x t)=true:=by simp[keyIs,Value.isStrOf]
theorem zNv (a b:Int):decide ((Sum.inl a:Key)=Sum.inl b)=(a == b):=by
 by_cases e:a=b
 ·subst e;simp
 ·have h:¬(Sum.inl a:Key)=Sum.inl b:=λ q=>e (Sum.inl.inj q)
  rw[decide_eq_false h];exact(beq_eq_false_iff_ne.mpr e).symm
theorem zNs (a b:Str):decide ((Sum.inr a:Key)=Sum.inr b)=decide (a=b):=by
 by_cases e:a=b
 ·subst e;simp
 ·have h:¬(Sum.inr a:Key)=Sum.inr b:=λ q=>e (Sum.inr.inj q)
  rw[decide_eq_false h,decide_eq_false e]
theorem zNu (a:Int) (b:Str):decide ((Sum.inl a:Key)=Sum.inr b)=false:=decide_eq_false (λ q=>nomatch q)
theorem zNt (a:Str) (b:Int):decide ((Sum.inr a:Key)=Sum.inl b)=false:=decide_eq_false (λ q=>nomatch q)
noncomputable def zAd (prog:Program) (w:World):PySem.KeyKind prog w Key where
 is:=keyIs
 hash:=keyH w
 inj:=λ v a b ha hb=>by
  rcases zAo ha with ⟨i,t,rfl,rfl⟩|⟨x,t,rfl,rfl⟩
  ·rcases zAo hb with ⟨j,u,rfl,e⟩|⟨y,u,rfl,e⟩
   ·injection e with e1 _;rw[e1]
   ·exact nomatch e
  ·rcases zAo hb with ⟨j,u,rfl,e⟩|⟨y,u,rfl,e⟩
   ·exact nomatch e
   ·injection e with e1 _;rw[e1]
 byValue:=λ k v h=>by
  rcases zAo h with ⟨i,t,rfl,rfl⟩|⟨x,t,rfl,rfl⟩<;>rfl
 pyHash:=λ hv h=>by
  rcases zAo hv with ⟨i,t,rfl,rfl⟩|⟨x,t,rfl,rfl⟩
  ·exact wpAny_pyHash_int h
  ·exact wpAny_pyHash_str h
 eqBool:=λ hu hv h=>by
  rcases zAo hu with ⟨i,t,rfl,rfl⟩|⟨x,t,rfl,rfl⟩
  ·rcases zAo hv with ⟨j,u,rfl,rfl⟩|⟨y,u,rfl,rfl⟩
   ·rw[zNv] at h;exact wpAny_eqBool_int h
   ·rw[zNu] at h;exact SeqAt.EqAt.int_str i t y u _ _ _ _ h
  ·rcases zAo hv with ⟨j,u,rfl,rfl⟩|⟨y,u,rfl,rfl⟩
   ·rw[zNt] at h;exact SeqAt.EqAt.str_int x t j u _ _ _ _ h
   ·rw[zNs] at h;exact wpAny_eqBool_str h
 «strs»:=λ k x t v h=>by
  rcases zAo h with ⟨i,u,rfl,e⟩|⟨y,u,rfl,e⟩
  ·exact nomatch e
  ·injection e with e1 _
   subst e1;cases v<;>rfl
theorem zG0 (prog:Program) (w:World) (i:Int) (t:Tok):(zAd prog w).is (.inl i) (.int i t)=true:=zEk i t
theorem zGz (prog:Program) (w:World) (x:Str) (t:Tok):(zAd prog w).is (.inr x) (.str x t)=true:=zEj x t
inductive V where
 |non|bl (b:Bool)|int (i:Int)|str (x:Str)|byt (b:Array UInt8)|flt (b:UInt64)|ref (a:Addr)|ty (n:String)
 deriving DecidableEq
def RelV:V->Value->Prop
 |.non,u=>u=Value.none
 |.bl b,u=>u=Value.bool b
 |.int i,u=>∃t,u=Value.int i t
 |.str x,u=>∃t,u=Value.str x t
 |.byt b,u=>∃t,u=Value.bytes b t
 |.flt b,u=>∃t,u=Value.float b t
 |.ref a,u=>u=Value.ref a
 |.ty n,u=>u=Value.type n
abbrev Vals:List V->List Value->Prop:=Paired RelV
theorem Vals.length {xs:List V}{us:List Value}(r:Vals xs us):xs.length=us.length:=Paired.length r
theorem Vals.get {xs:List V}{us:List Value}{i:Nat}{x:V}(h:Vals xs us):xs[i]?=some x->∃u,us[i]?=some u/\RelV x u:=by
 induction h generalizing i with
 |nil=>exact λ e=>nomatch e
 |cons h t ih=>cases i with
  |zero=>exact λ e=>⟨_,rfl,by cases e;exact h⟩
  |succ i=>exact λ e=>ih (i:=i) (by simpa using e)
theorem Vals.append {xs ys:List V}{us ws:List Value}(h:Vals xs us) (s:Vals ys ws):Vals (xs++ys) (us++ws):=by
 induction h with
 |nil=>exact s
 |cons r t ih=>exact .cons r ih
theorem Vals.take:∀{xs:List V}{us:List Value}(n:Nat),Vals xs us->Vals (xs.take n) (us.take n)
 |_,_,0,_=>.nil
 |_,_,_+1,.nil=>.nil
 |_,_,n+1,.cons r t=>.cons r (Vals.take n t)
theorem Vals.drop:∀{xs:List V}{us:List Value}(n:Nat),Vals xs us->Vals (xs.drop n) (us.drop n)
 |_,_,0,r=>r
 |_,_,_+1,.nil=>.nil
 |_,_,n+1,.cons _ t=>Vals.drop n t
def RelO:Option V->Option Value->Prop
 |some v,some u=>RelV v u
 |none,none=>True
 |_,_=>False
def KV {κ:Type}:List (κ × V)->List (κ × Value)->Prop:=Paired λ(p:κ × V) (q:κ × Value)=>p.1=q.1/\RelV p.2 q.2
noncomputable def kV:Key->V
 |.inl i=>.int i
 |.inr x=>.str x
inductive HO where
 |lst (xs:List V)
 |tup (xs:List V)
 |dK (kvs:List (Key × V))|dT (kvs:List (List Key × V))
 |set (S:Int->Bool) (n:Nat)
 |ins (C dx:Addr) (fs:List (Str × V))
 |own (x:Addr)
 |xd (fs:List (Str × V))
 |met (f x:Addr)
 |rng (lo hi:Int)
 |frz (o:Obj) (u:HO)
 |tbl (ps:Array Value)
 |ext (φ:Heap->Prop)
abbrev Hp:=Addr->Option HO
noncomputable def upd (H:Hp) (a:Addr) (o:HO):Hp:=λ b=>if b=a then some o else H b
theorem zAA {H:Hp}{a:Addr}{o:HO}:upd H a o a=some o:=by unfold upd;rw[if_pos rfl]
theorem zAR {H:Hp}{a b:Addr}{o:HO}(h:b≠a):upd H a o b=H b:=by unfold upd;rw[if_neg h]
theorem ne_of {H:Hp}{a b:Addr}{o u:HO}(h:H a=some o) (h':H b=some u) (d:o≠u):a≠b:=by
 intro e;subst e;rw[h] at h';exact d (mE h')
theorem zAN {H:Hp}{a b:Addr}{o:HO}(h:H a=some o) (h':H b=none):a≠b:=by
 intro e;subst e;rw[h] at h';cases h'
section
variable (P:Program) (w:World)
def ObjOk (H:Hp) (h:Heap) (a:Addr):HO->Prop
 |.lst xs=>xs.length<=sizeLine/\∃(its:List Value) (n:Nat),Vals xs its/\h.get? a=some { cls:=.type "list", data:=.seq its.toArray n }
 |.tup xs=>xs.length<=sizeLine/\∃its:List Value,Vals xs its/\IsTup h a its.toArray
 |.dK kvs=>kvs.length<=sizeLine/\(a == sysModules)=false/\∃vs,KV kvs vs/\h.DictOf (zAd P w) a vs
 |.dT kvs=>kvs.length<=sizeLine/\(a == sysModules)=false/\∃xs:List (List Key × Addr × Value),
   Paired (λ(p:List Key × V) (q:List Key × Addr × Value)=>p.1=q.1/\H q.2.1=some (.tup (p.1.map kV))/\RelV p.2 q.2.2) kvs xs /\
   ∃o es ep,h.get? a=some o/\o.ExactDict/\o.data = .dict es ep/\es.toList=xs.map (entryOfKey (tupleKind (zAd P w)))/\(xs.map (·.1)).Nodup
 |.set S n=>h.SetOf (intKind P w) a S n
 |.ins C dx fs=>H dx=some (.own a)/\fs.length<=1000/\dx≠a/\h.get? a=some (W.instObj C dx) /\
   ∃mA,h.Ns1 dx mA/\(∀f,RelO (fs.lookup f) (mA f))/\PySem.Within mA (fs.map (·.1))
 |.own _=>∃o,h.get? a=some o
 |.xd fs=>∃mA,h.Ns1 a mA/\∀f,RelO (fs.lookup f) (mA f)
 |.rng lo hi=>∃t u v,h.get? a=some { cls:=.type "range", data:=.fields #[.int lo t,.int hi u,.int 1 v] }
 |.frz o u=>h.get? a=some o/\ObjOk H h a u
 |.tbl ps=>h.get? a=some { cls:=.none,data:=.fields ps }
 |.met f x=>h.get? a=some (W.methodObj (.ref f) (.ref x))
 |.ext φ=>φ h/\(∃o,h.get? a=some o)/\∀h1 h2:Heap,φ h1->(∀o,h1.get? a=some o->h2.get? a=some o)->φ h2
def HOk (H:Hp) (h:Heap):Prop:=∀a o,H a=some o->ObjOk P w H h a o
end
section
variable {P:Program}{w:World}{H H':Hp}{h h':Heap}{a:Addr}{o:HO}
theorem ObjOk.lt (x:ObjOk P w H h a o):a<h.objs.size:=by
 cases o with
 |lst xs=>obtain⟨_,_,_,_,e⟩:=x;exact lI e
 |tup xs=>obtain⟨_,_,_,p⟩:=x;exact p.lt
 |dK kvs=>obtain⟨_,_,_,_,o,_,_,e,_⟩:=x;exact lI e
 |dT kvs=>obtain⟨_,_,_,_,o,_,_,e,_⟩:=x;exact lI e
 |set S n=>obtain⟨o,_,_,_,e,_⟩:=x;exact lI e
 |ins C dx fs=>obtain⟨_,_,_,e,_⟩:=x;exact lI e
 |own y=>obtain⟨_,e⟩:=x;exact lI e
 |xd fs=>obtain⟨_,⟨_,_,_,e,_⟩,_⟩:=x;exact lI e
 |rng lo hi=>obtain⟨_,_,_,e⟩:=x;exact lI e
 |frz ob u=>obtain⟨e,_⟩:=x;exact lI e
 |tbl ps=>exact lI (show h.get? a=some _ from x)
 |met f y=>exact lI (show h.get? a=some _ from x)
 |ext φ=>obtain⟨_,⟨_,e⟩,_⟩:=x;exact lI e
theorem Paired.mapP {α β:Type}{F G:α->β->Prop}{l₁:List α}{l₂:List β}(h:Paired F l₁ l₂) (f:∀a b,F a b->G a b):Paired G l₁ l₂:=by
 induction h with
 |nil=>exact .nil
 |cons r t ih=>exact .cons (f _ _ r) ih
theorem ObjOk.stay (x:ObjOk P w H h a o) (k:∀b u,(b=a\/H b=some (.own a))->h.get? b=some u->h'.get? b=some u)
  (ho:∀b,H b=some (.own a)->H' b=some (.own a)) (ht:∀b xs,H b=some (.tup xs)->H' b=some (.tup xs)):ObjOk P w H' h' a o:=by
 induction o with
 |lst xs=>obtain⟨z,its,n,r,e⟩:=x;exact⟨z,its,n,r,k _ _ (.inl rfl) e⟩
 |tup xs=>obtain⟨z,its,r,ob,e,c⟩:=x;exact⟨z,its,r,ob,k _ _ (.inl rfl) e,c⟩
 |dK kvs=>obtain⟨z,y,vs,r,ob,es,ep,e,c⟩:=x;exact⟨z,y,vs,r,ob,es,ep,k _ _ (.inl rfl) e,c⟩
 |dT kvs =>
  obtain⟨z,y,xs,r,ob,es,ep,e,c⟩:=x;exact⟨z,y,xs,Paired.mapP r λ p q z=>⟨z.1,ht _ _ z.2.1,z.2.2⟩,ob,es,ep,k _ _ (.inl rfl) e,c⟩
 |set S n=>obtain⟨ob,es,ep,t,e,c⟩:=x;exact⟨ob,es,ep,t,k _ _ (.inl rfl) e,c⟩
 |ins C dx fs =>
  obtain⟨d,z,ne,e,mA,⟨od,es,ep,e2,c⟩,r⟩:=x;exact⟨ho _ d,z,ne,k _ _ (.inl rfl) e,mA,⟨od,es,ep,k _ _ (.inr d) e2,c⟩,r⟩
 |own y=>obtain⟨ob,e⟩:=x;exact⟨ob,k _ _ (.inl rfl) e⟩
 |xd fs=>obtain⟨mA,⟨od,es,ep,e,c⟩,r⟩:=x;exact⟨mA,⟨od,es,ep,k _ _ (.inl rfl) e,c⟩,r⟩
 |rng lo hi=>obtain⟨t,u,v,e⟩:=x;exact⟨t,u,v,k _ _ (.inl rfl) e⟩
 |frz ob u ih=>obtain⟨e,q⟩:=x;exact⟨k _ _ (.inl rfl) e,ih q⟩
 |tbl ps =>
  have e:h.get? a=some { cls:=.none,data:=.fields ps }:=x;show h'.get? a=some { cls:=.none,data:=.fields ps };exact k a _ (.inl rfl) e
 |met f y =>
  have e:h.get? a=some (W.methodObj (.ref f) (.ref y)):=x;show h'.get? a=some (W.methodObj (.ref f) (.ref y));exact k a _ (.inl rfl) e
 |ext φ=>obtain⟨p,⟨o,e⟩,st⟩:=x;exact⟨st _ _ p λ o q=>k _ _ (.inl rfl) q,⟨o,k _ _ (.inl rfl) e⟩,st⟩
theorem HOk.lt (x:HOk P w H h) (e:H a=some o):a<h.objs.size:=(x a o e).lt
theorem HOk.fresh (x:HOk P w H h) (e:h.objs.size<=a):H a=none:=by
 cases q:H a with
 |none=>rfl
 |some u=>exact absurd (lZ (x.lt q) e) (Nat.lt_irrefl _)
theorem HOk.kept (x:HOk P w H h) (k:∀b u,h.get? b=some u->h'.get? b=some u):HOk P w H h':=λ a o e =>
 (x a o e).stay (λ b u Ω q=>k b u q) (λ Ω q=>q) λ Ω Ω q=>q
theorem HOk.laid (x:HOk P w H h) (k:∀b u,h.get? b=some u->h'.get? b=some u) (hp:h.objs.size<=a) (new:ObjOk P w (upd H a o) h' a o):HOk P w (upd H a o) h':=λ b u e=>by
 have hn:=x.fresh hp
 by_cases hb:b=a
 ·subst hb;rw[zAA] at e;cases e;exact new
 ·rw[zAR hb] at e
  exact(x b u e).stay (λ c v Ω q=>k c v q) (λ c q=>by rw[zAR (zAN q hn)];exact q) λ c xs q=>by rw[zAR (zAN q hn)];exact q
end
def Rd (H:Hp) (a:Addr) (u:HO):Prop:=H a=some u\/∃o,H a=some (.frz o u)
theorem Rd.ok {P:Program}{w:World}{H:Hp}{h:Heap}{a:Addr}{u:HO}(r:Rd H a u) (x:HOk P w H h):ObjOk P w H h a u:=by
 rcases r with r|⟨o,r⟩
 ·exact x a u r
 ·obtain⟨_,q⟩:=x a _ r
  exact q
def Mut:Option HO->Prop
 |some (.lst _)=>True
 |some (.dK _)=>True
 |some (.dT _)=>True
 |some (.set _ _)=>True
 |some (.ins _ _ _)=>True
 |some (.ext _)=>True
 |_=>False
section
variable {P:Program}{w:World}{H:Hp}{h h':Heap}{x e:Addr}{o':HO}
theorem HOk.write (ok:HOk P w H h) (mu:Mut (H x)) (he:e=x\/H e=some (.own x)) (k:∀b u,b≠e->h.get? b=some u->h'.get? b=some u) (heo:∃u,h'.get? e=some u)
  (new:ObjOk P w (upd H x o') h' x o'):HOk P w (upd H x o') h':=λ b u q=>by
 have nown:∀c y,H c=some (.own y)->c≠x:=λ c y r z=>by subst z;rw[r] at mu;exact mu
 have ntup:∀c xs,H c=some (.tup xs)->c≠x:=λ c xs r z=>by subst z;rw[r] at mu;exact mu
 by_cases hb:b=x
 ·subst hb;rw[zAA] at q;cases q;exact new
 ·rw[zAR hb] at q
  by_cases hbe:b=e
  ·have q':H b=some (.own x):=by
    rcases he with z|z
    ·exact absurd (hbe.trans z) hb
    ·rw[hbe];exact z
   rw[q] at q';cases q';obtain⟨v,hv⟩:=heo;exact⟨v,by rw[hbe];exact hv⟩
  ·refine(ok b u q).stay (λ c v hc r=>k c v ?_ r) (λ c r=>by rw[zAR (nown c b r)];exact r) λ c xs r=>by rw[zAR (ntup c xs r)];exact r
   rcases hc with rfl|hc
   ·exact hbe
   ·rintro rfl
    rcases he with z|z
    ·exact nown c b hc z
    ·rw[hc] at z;cases z;exact hb rfl
end
structure Un (fs ex:List Addr) (H H':Hp) (h h':Heap):Prop where
 keep:∀b o,h.get? b=some o->H b=none->b∉fs->b∉ex->h'.get? b=some o
 slot:∀b o,h.get? b=some o->H b=none->b∈fs->b∉ex->∃sl,h'.get? b=some { o with slots:=sl }
 free:∀b o,h.get? b=some o->H b=none->b∉ex->H' b=none
 there:∀b o,h.get? b=some o->b∉ex->∃o',h'.get? b=some o'
 tups:∀b xs,H b=some (.tup xs)->H' b=some (.tup xs)
 frzs:∀b o u,H b=some (.frz o u)->H' b=some (.frz o u)
 tbls:∀b ps,H b=some (.tbl ps)->∃more,H' b=some (.tbl (ps++more))
section
variable {fs fs' ex ex':List Addr}{H H1 H2:Hp}{h h1 h2 h':Heap}{a x e:Addr}{o:HO}
theorem Un.any (u:Un fs ex H H1 h h1) {b:Addr}{ob:Obj}(q:h.get? b=some ob) (n:H b=none) (hx:b∉ex):∃sl,h1.get? b=some { ob with slots:=sl }:=by
 by_cases hb:b∈fs
 ·exact u.slot b ob q n hb hx
 ·exact⟨ob.slots,u.keep b ob q n hb hx⟩
theorem Un.kept (k:∀b u,h.get? b=some u->h'.get? b=some u):Un fs ex H H h h' :=
 ⟨λ b ob q Ω Ω Ω=>k b ob q,λ b ob q Ω Ω Ω=>⟨ob.slots,k b ob q⟩,λ Ω Ω Ω n Ω=>n,λ b ob q Ω=>⟨ob,k b ob q⟩,λ Ω Ω q=>q,λ Ω Ω Ω q=>q,λ Ω ps q=>⟨#[],by rw[q];simp⟩⟩
theorem Un.refl:Un fs ex H H h h:=Un.kept λ Ω Ω q=>q
theorem Un.laid (k:∀b u,h.get? b=some u->h'.get? b=some u) (hp:h.objs.size<=a) (hn:H a=none):Un fs ex H (upd H a o) h h' where
 keep:=λ b u q Ω Ω Ω=>k b u q
 slot:=λ b u q Ω Ω Ω=>⟨u.slots,k b u q⟩
 free:=λ b u q n Ω=>by rw[zAR (Nat.ne_of_lt (Nat.lt_of_lt_of_le (Heap.lt_size q) hp))];exact n
 there:=λ b u q Ω=>⟨u,k b u q⟩
 tups:=λ b xs q=>by rw[zAR (zAN q hn)];exact q
 frzs:=λ b u xs q=>by rw[zAR (zAN q hn)];exact q
 tbls:=λ b ps q=>⟨#[],by rw[zAR (zAN q hn),q];simp⟩
theorem Un.write (mu:Mut (H x)) (he:e=x\/H e=some (.own x)) (k:∀b u,b≠e->h.get? b=some u->h'.get? b=some u) (heo:∃u,h'.get? e=some u):Un fs ex H (upd H x o) h h':=by
 have hx:∀b,H b=none->b≠x:=λ b n z=>by subst z;rw[n] at mu;exact mu
 have hb:∀b,H b=none->b≠e:=λ b n z=>by
  subst z;rcases he with r|r
  ·exact hx b n r
  ·rw[n] at r;cases r
 have hm:∀b u,H b=some u->¬Mut (some u)->b≠x:=λ b u q nm z=>by subst z;rw[q] at mu;exact nm mu
 refine⟨λ b u q n Ω Ω=>k b u (hb b n) q,λ b u q n Ω Ω=>⟨u.slots,k b u (hb b n) q⟩,λ b u q n Ω=>by rw[zAR (hx b n)];exact n,λ b u q Ω=>?_,
  λ b xs q=>by rw[zAR (hm b _ q λ z=>z)];exact q,λ b u xs q=>by rw[zAR (hm b _ q λ z=>z)];exact q,λ b ps q=>⟨#[],by rw[zAR (hm b _ q λ z=>z),q];simp⟩⟩
 by_cases hbe:b=e
 ·subst hbe;exact heo
 ·exact⟨u,k b u hbe q⟩
end
noncomputable def trk (h:Heap) (H:Hp):List Addr:=(List.range h.objs.size).filter λ a=>(H a).isSome
noncomputable def hidT (h:Heap) (H:Hp):Heap:=W.hideAll h (trk h H)
theorem zJY (h:Heap) (H:Hp):(hidT h H).objs.size=h.objs.size:=W.hideAll_size _ _
theorem zLE {h:Heap}{H:Hp}{b:Addr}{o:Obj}(e:h.get? b=some o) (n:H b=none):(hidT h H).get? b=some o :=
 W.hideAll_get _ e λ hm=>by
  have q:(H b).isSome=true:=(List.mem_filter.mp hm).2;rw[n] at q;simp at q
theorem zMi {h:Heap}{H:Hp}{b:Addr}{o:Obj}(e:(hidT h H).get? b=some o):h.get? b=some o/\H b=none:=by
 have e':h.get? b=some o:=W.of_hideAll (trk h H) e;refine⟨e',?_⟩;cases q:H b with
 |none=>rfl
 |some x =>
  have hm:b∈trk h H:=List.mem_filter.mpr ⟨List.mem_range.mpr (lI e'),by simp[q]⟩;have z:(hidT h H).get? b=none:=W.hideAll_none (trk h H) hm;rw[z] at e;cases e
noncomputable def zM7 (g h:Heap) (L:Addr):List (Addr × Obj):=(List.range h.objs.size).filterMap λ a=>if a=L\/(g.get? a).isSome=true then none else (h.get? a).map λ o=>(a,o)
noncomputable def rest (g h:Heap) (L d:Addr):List (Addr × Obj):=(zM7 g h L).filter λ p=>decide (p.1≠d)
structure Mod (K:W.Frag) (mg:Str->Option Value) (base:Heap):Prop where
 kin:K.In base
 glob:base.Ns mainGlobals mg
 blt:∃mb,base.Ns builtinsNs mb/\∀x:Str,x ≠ "__name__" -> mb x=bootBuiltins x
 nolimit:base.NoLimit
structure Cx where
 prog:Program
 w:World
 K:W.Frag
 mg:Str->Option Value
 base:Heap
 A:Around
 N:List Str
 s₀:Shared
 H₀:Hp
 env:Env
 outer:List Env
 stack:List Env
 ex:List Addr
 fn:Str->Bool
 calm:Bool
 pn:List (Addr × Obj)
 xe:Value->Shared->Prop
def frs (l:List Env):List Addr:=l.filterMap (·.frame)
abbrev Cx.fs (X:Cx):List Addr:=frs X.outer
def Vis (sc:Scope) (x:Str):Prop:=sc.names.lookup x=some .local\/sc.names.lookup x=some .cell\/sc.names.lookup x=some .free
def Loc (sc:Scope) (x:Str):Prop:=sc.names.lookup x=some .local\/sc.names.lookup x=some .cell
def Look (env:Env) (h:Heap) (m:Str->Option Value) (x:Str) (u:Value):Prop :=
 (env.kindOf x=some .local/\m x=some u)\/((env.kindOf x=some .cell\/env.kindOf x=some .free)/\∃c,env.cells.lookup x=some c/\h.IsCell c (some u))
structure Cx.Ok (X:Cx):Prop where
 mod:Mod X.K X.mg X.base
 kind:X.env.scope.kind = .function
 glob:X.env.globals=mainGlobals
 blt:X.env.builtins=builtinsNs
 above:X.s₀.heap.objs.size<=X.env.locals
 inj:∀x y c,X.env.cells.lookup x=some c->X.env.cells.lookup y=some c->x=y
 has:∀x,(X.env.kindOf x=some .cell\/X.env.kindOf x=some .free)->∃c,X.env.cells.lookup x=some c
 cab:∀x c,X.fn x=true->X.env.cells.lookup x=some c->X.s₀.heap.objs.size<=c
 hd:X.calm=true->X.A.handled=none
 frames:X.A.frames=some X.stack
 stk:X.stack=X.outer\/(X.stack=X.env::X.outer/\X.env.frame=some X.env.locals)
 exf:∀b∈X.ex,b≠X.env.locals/\∀x c,X.env.cells.lookup x=some c->c≠b
 bs:∀b o,X.base.get? b=some o->X.s₀.heap.get? b=some o/\X.H₀ b=none
 bsz:X.base.objs.size<=X.s₀.heap.objs.size
 noex:∀b o,X.base.get? b=some o->b∉X.ex
 exfs:∀b∈X.ex,b∉X.fs
 funs:X.s₀.heap.FunFrames X.base X.outer
 frf:∀b∈X.fs,X.H₀ b=none
structure Inv (X:Cx) (jP:List (Addr × Obj)) (σ:List (Option V)) (H:Hp) (s:Shared):Prop where
 ok:X.Ok
 os:s.os=X.s₀.os
 bare:AllBare s.gens
 base:Un X.fs X.ex X.H₀ H X.s₀.heap s.heap
 loc:∃m,s.heap.Ns X.env.locals m/\∀(i:Nat) (x:Str) (v:V),X.N[i]?=some x->σ[i]?=some (some v)->Vis X.env.scope x->∃u,RelV v u/\Look X.env s.heap m x u
 cell:∀x c,X.env.cells.lookup x=some c->∃v,s.heap.IsCell c v
 free:H X.env.locals=none
 freeC:∀x c,X.env.cells.lookup x=some c->H c=none
 pin:∀p∈X.pn++jP,s.heap.get? p.1=some p.2/\H p.1=none/\p.1≠X.env.locals/\p.1∉X.fs/\∀v,p.2.data ≠ .cell v
 hok:HOk X.prog X.w H s.heap
 len:σ.length=X.N.length
section
variable {X:Cx}{jP:List (Addr × Obj)}{σ:List (Option V)}{H H':Hp}{s:Shared}{h':Heap}
theorem Cx.Ok.nofr (ok:X.Ok) {b:Addr}{o:Obj}(e:X.base.get? b=some o):b∉X.fs:=λ hb=>by
 have:=(ok.funs.mem hb).1;rw[e] at this;cases this
theorem Inv.bs (I:Inv X jP σ H s):∀b o,X.base.get? b=some o->s.heap.get? b=some o/\H b=none:=λ b o e =>
 ⟨I.base.keep b o (I.ok.bs b o e).1 (I.ok.bs b o e).2 (I.ok.nofr e) (I.ok.noex b o e),I.base.free b o (I.ok.bs b o e).1 (I.ok.bs b o e).2 (I.ok.noex b o e)⟩
theorem Inv.bk (I:Inv X jP σ H s):∀b o,X.base.get? b=some o->s.heap.get? b=some o:=λ b o e=>(I.bs b o e).1
theorem Inv.mod (I:Inv X jP σ H s):Mod X.K X.mg X.base:=I.ok.mod
theorem Inv.kIn (I:Inv X jP σ H s):X.K.In s.heap:=I.ok.mod.kin.keeps I.bk
theorem Inv.lt (I:Inv X jP σ H s):X.env.locals<s.heap.objs.size:=let ⟨_,hn,_⟩:=I.loc;hn.lt
theorem Inv.sz (I:Inv X jP σ H s):X.s₀.heap.objs.size<=s.heap.objs.size:=mG I.ok.above (Nat.le_of_lt I.lt)
theorem Inv.nofs (I:Inv X jP σ H s) {a:Addr}(h:s.heap.objs.size<=a):a∉X.fs:=λ hb=>by
 obtain⟨_,o,ho,_⟩:=I.ok.funs.mem hb;exact absurd (lZ (lI ho) (mG I.sz h)) (Nat.lt_irrefl _)
theorem Inv.cne (I:Inv X jP σ H s):∀x c,X.env.cells.lookup x=some c->c≠X.env.locals:=λ x c e z=>by
 obtain⟨v,o,ho,hd⟩:=I.cell x c e;obtain⟨m,⟨o',es,ep,ho',hd',_⟩,_⟩:=I.loc;rw[z,ho'] at ho;cases ho;rw[hd'] at hd;cases hd
theorem Inv.funs (I:Inv X jP σ H s):s.heap.FunFrames X.base X.outer:=by
 have all:∀(l:List Env),(∀b∈frs l,b∈X.fs)->X.s₀.heap.FunFrames X.base l->s.heap.FunFrames X.base l:=by
  intro l
  induction l with
  |nil=>intro _ _;trivial
  |cons env r ih =>
   intro hs hl;obtain⟨hk,⟨L,o,hf,hn,ho,hd⟩,hr⟩:=hl;have hL:L∈X.fs:=hs L (by unfold frs;rw[List.filterMap_cons,hf];exact lO);obtain⟨sl,e⟩:=I.base.slot L o ho (I.ok.frf L hL) hL λ z=>I.ok.exfs L z hL;exact⟨hk,⟨L,_,hf,hn,e,hd⟩,ih (λ b hb=>hs b (by unfold frs;rw[List.filterMap_cons,hf];exact lP _ hb)) hr⟩
 exact all X.outer (λ Ω hb=>hb) I.ok.funs
theorem Inv.stack (I:Inv X jP σ H s):s.heap.FunFrames X.base X.stack:=by
 rcases I.ok.stk with e|⟨e,hf⟩
 ·rw[e];exact I.funs
 ·rw[e]
  obtain⟨m,hn,_⟩:=I.loc;refine .cons (by rw[I.ok.kind];decide) hf hn ?_ I.funs;exact Heap.get?_none_of_le (mG I.ok.bsz I.ok.above)
theorem Inv.stkSub (I:Inv X jP σ H s):∀b∈frs X.stack,b∈X.env.locals::X.fs:=λ b hb=>by
 rcases I.ok.stk with e|⟨e,hf⟩
 ·rw[e] at hb;exact lP _ hb
 ·rw[e] at hb
  unfold frs at hb;rw[List.filterMap_cons,hf] at hb;exact hb
theorem Inv.stkFree (I:Inv X jP σ H s):∀b∈frs X.stack,H b=none:=λ b hb=>by
 rcases lN.mp (I.stkSub b hb) with e|hb
 ·rw[e];exact I.free
 ·obtain⟨_,o,ho,_⟩:=I.ok.funs.mem hb
  exact I.base.free b o ho (I.ok.frf b hb) λ z=>I.ok.exfs b z hb
theorem Inv.step {g':Array GenState}{t':Nat}{d':Drawn}{ch:List Addr}(I:Inv X jP σ H s)
  (hch:∀b∈ch,(b∈X.ex\/X.s₀.heap.objs.size<=b)/\b≠X.env.locals/\(∀x c,X.env.cells.lookup x=some c->c≠b)/\∀p∈X.pn++jP,p.1≠b)
  (keep:∀b o,b≠X.env.locals->b∉X.fs->b∉ch->s.heap.get? b=some o->H b=none->h'.get? b=some o)
  (slot:∀b o,b≠X.env.locals->b∈X.fs->b∉ch->s.heap.get? b=some o->H b=none->∃sl,h'.get? b=some { o with slots:=sl }) (free:∀b o,b∉ch->s.heap.get? b=some o->H b=none->H' b=none)
  (there:∀b o,b∉ch->s.heap.get? b=some o->∃o',h'.get? b=some o')
  (tups:∀b xs,H b=some (.tup xs)->H' b=some (.tup xs)) (frzs:∀b o u,H b=some (.frz o u)->H' b=some (.frz o u)) (tbls:∀b ps,H b=some (.tbl ps)->∃more,H' b=some (.tbl (ps++more)))
  (ns:∀m,s.heap.Ns X.env.locals m->h'.Ns X.env.locals m) (hok:HOk X.prog X.w H' h') (hg:AllBare g') :
  Inv X jP σ H' { s with heap:=h',gens:=g',drawn:=d',toks:=t' }:=by
 have neL:∀b o,X.s₀.heap.get? b=some o->b≠X.env.locals:=λ b o e=>lS (lZ (lI e) I.ok.above)
 have neC:∀b o,X.s₀.heap.get? b=some o->b∉X.ex->b∉ch:=λ b o e hx hb=>by
  rcases (hch b hb).1 with z|z
  ·exact hx z
  ·exact absurd (lZ (lI e) z) (Nat.lt_irrefl _)
 have cellK:∀x c,X.env.cells.lookup x=some c->∀v,s.heap.IsCell c v->h'.IsCell c v:=λ x c e v ⟨o,ho,hd⟩=>by
  have nch:c∉ch:=λ z=>(hch c z).2.2.1 x c e rfl
  by_cases hc:c∈X.fs
  ·obtain⟨sl,q⟩:=slot c o (I.cne x c e) hc nch ho (I.freeC x c e)
   exact⟨_,q,hd⟩
  ·exact⟨o,keep c o (I.cne x c e) hc nch ho (I.freeC x c e),hd⟩
 refine⟨I.ok,I.os,hg,⟨λ b o e n hb hx=>?_,λ b o e n hb hx=>?_,λ b o e n hx=>?_,λ b o e hx=>?_,λ b xs e=>tups b xs (I.base.tups b xs e),λ b o xs e=>frzs b o xs (I.base.frzs b o xs e),λ b ps e=>?_⟩,?_,λ x c e=>?_,?_,λ x c e=>?_,λ p hp=>?_,hok,I.len⟩
 ·exact keep b o (neL b o e) hb (neC b o e hx) (I.base.keep b o e n hb hx) (I.base.free b o e n hx)
 ·obtain⟨sl,e1⟩:=I.base.slot b o e n hb hx
  obtain⟨sl',e2⟩:=slot b _ (neL b o e) hb (neC b o e hx) e1 (I.base.free b o e n hx);exact⟨sl',e2⟩
 ·obtain⟨o',e1⟩:=I.base.there b o e hx
  exact free b o' (neC b o e hx) e1 (I.base.free b o e n hx)
 ·obtain⟨o',e1⟩:=I.base.there b o e hx
  exact there b o' (neC b o e hx) e1
 ·obtain⟨m1,e1⟩:=I.base.tbls b ps e
  obtain⟨m2,e2⟩:=tbls b _ e1;exact⟨m1++m2,by rw[e2,Array.append_assoc]⟩
 ·obtain⟨m,hn,hl⟩:=I.loc
  refine⟨m,ns m hn,λ i x v e1 e2 e3=>?_⟩;obtain⟨u,r,l⟩:=hl i x v e1 e2 e3;refine⟨u,r,?_⟩;rcases l with l|⟨k,c,e,z⟩
  ·exact .inl l
  ·exact .inr ⟨k,c,e,cellK x c e _ z⟩
 ·obtain⟨v,z⟩:=I.cell x c e
  exact⟨v,cellK x c e v z⟩
 ·obtain⟨m,⟨o,_,_,ho,_⟩,_⟩:=I.loc
  exact free _ o (λ z=>(hch _ z).2.1 rfl) ho I.free
 ·obtain⟨v,o,ho,hd⟩:=I.cell x c e
  exact free c o (λ z=>(hch c z).2.2.1 x c e rfl) ho (I.freeC x c e)
 ·obtain⟨e,n,ne,nf,d⟩:=I.pin p hp
  have nch:p.1∉ch:=λ z=>(hch p.1 z).2.2.2 p hp rfl;exact⟨keep p.1 p.2 ne nf nch e n,free p.1 p.2 nch e n,ne,nf,d⟩
theorem Inv.un {t':Nat}(I:Inv X jP σ H s) (u:Un X.fs [] H H' s.heap h') (hok:HOk X.prog X.w H' h'):Inv X jP σ H' { s with heap:=h',toks:=t' }:=by
 obtain⟨m,⟨o,es,ep,ho,r⟩,_⟩:=id I.loc;obtain⟨sl,hL⟩:=u.any ho I.free (by simp)
 exact I.step (g':=s.gens) (d':=s.drawn) (ch:=[]) (λ Ω z=>nomatch z) (λ b o Ω hb Ω e n=>u.keep b o e n hb (by simp)) (λ b o Ω hb Ω e n=>u.slot b o e n hb (by simp)) (λ b o Ω e n=>u.free b o e n (by simp)) (λ b o Ω e=>u.there b o e (by simp)) u.tups u.frzs u.tbls (λ m' hm=>by
  obtain⟨o',es',ep',ho',r'⟩:=hm;rw[ho] at ho';cases ho';exact⟨_,es',ep',hL,r'⟩) hok I.bare
theorem Inv.call {g':Array GenState}{t':Nat}{d':Drawn}{ch:List Addr}(I:Inv X jP σ H s) (u:Un (frs X.stack) ch H H' s.heap h') (hok:HOk X.prog X.w H' h') (hg:AllBare g')
  (hch:∀b∈ch,(b∈X.ex\/X.s₀.heap.objs.size<=b)/\b≠X.env.locals/\(∀x c,X.env.cells.lookup x=some c->c≠b)/\∀p∈X.pn++jP,p.1≠b) :
  Inv X jP σ H' { s with heap:=h',gens:=g',drawn:=d',toks:=t' }:=by
 obtain⟨m,⟨o,es,ep,ho,r⟩,_⟩:=id I.loc;obtain⟨sl,hL⟩:=u.any ho I.free λ z=>(hch _ z).2.1 rfl
 exact I.step (ch:=ch) hch (λ b o hL hb hc e n=>u.keep b o e n (λ z=>(lN.mp (I.stkSub b z)).elim hL hb) hc) (λ b o Ω Ω hc e n=>u.any e n hc) (λ b o hc e n=>u.free b o e n hc) (λ b o hc e=>u.there b o e hc) u.tups u.frzs u.tbls (λ m' hm=>by
  obtain⟨o',es',ep',ho',r'⟩:=hm;rw[ho] at ho';cases ho';exact⟨_,es',ep',hL,r'⟩) hok hg
theorem Inv.turned {t':Nat}{it:Addr}(I:Inv X jP σ H s) (k:∀b o,b≠it->s.heap.get? b=some o->h'.get? b=some o) (hn:H it=none) (hL:it≠X.env.locals)
  (h1:it∈X.ex\/X.s₀.heap.objs.size<=it) (h2:∀x c,X.env.cells.lookup x=some c->c≠it) (h3:∀p∈X.pn++jP,p.1≠it):Inv X jP σ H { s with heap:=h',toks:=t' }:=by
 have nit:∀b u,H b=some u->b≠it:=λ b u e z=>by rw[z,hn] at e;cases e
 refine I.step (g':=s.gens) (d':=s.drawn) (ch:=[it]) (λ b hb=>?_) (λ b o Ω Ω hc e Ω=>k b o (λ z=>hc (by simp[z])) e) (λ b o Ω Ω hc e Ω=>⟨o.slots,k b o (λ z=>hc (by simp[z])) e⟩) (λ Ω Ω Ω Ω n=>n)
  (λ b o hc e=>⟨o,k b o (λ z=>hc (by simp[z])) e⟩) (λ Ω Ω e=>e) (λ Ω Ω Ω e=>e) (λ b ps e=>⟨#[],by rw[e];simp⟩) (λ m hm=>?_) (λ b u e=>?_) I.bare
 ·have e:b=it:=by simpa using hb
  subst e;exact⟨h1,hL,h2,h3⟩
 ·obtain⟨o,es,ep,ho,r⟩:=hm
  exact⟨o,es,ep,k _ o (Ne.symm hL) ho,r⟩
 ·refine(I.hok b u e).stay (λ c v hc q=>k c v ?_ q) (λ Ω q=>q) λ Ω Ω q=>q
  rcases hc with z|z
  ·rw[z];exact nit b u e
  ·exact nit c _ z
theorem Inv.tok (I:Inv X jP σ H s) (t:Nat):Inv X jP σ H { s with toks:=t }:=I.un (h':=s.heap) (t':=t) Un.refl I.hok
theorem Inv.kept {t':Nat}(I:Inv X jP σ H s) (k:∀b u,s.heap.get? b=some u->h'.get? b=some u):Inv X jP σ H { s with heap:=h',toks:=t' }:=I.un (Un.kept k) (I.hok.kept k)
theorem Inv.laid {a:Addr}{o:HO}{t':Nat}(I:Inv X jP σ H s) (k:∀b u,s.heap.get? b=some u->h'.get? b=some u) (hp:s.heap.objs.size<=a) (new:ObjOk X.prog X.w (upd H a o) h' a o) :
  Inv X jP σ (upd H a o) { s with heap:=h',toks:=t' }:=I.un (Un.laid k hp (I.hok.fresh hp)) (I.hok.laid k hp new)
theorem Inv.write {x e:Addr}{o:HO}{t':Nat}(I:Inv X jP σ H s) (mu:Mut (H x)) (he:e=x\/H e=some (.own x)) (k:∀b u,b≠e->s.heap.get? b=some u->h'.get? b=some u) (heo:∃u,h'.get? e=some u)
  (new:ObjOk X.prog X.w (upd H x o) h' x o):Inv X jP σ (upd H x o) { s with heap:=h',toks:=t' }:=I.un (Un.write mu he k heo) (I.hok.write mu he k heo new)
theorem Inv.weak {σ':List (Option V)}(I:Inv X jP σ H s) (hl:σ'.length=σ.length) (w:∀(i:Nat) v,σ'[i]?=some (some v)->σ[i]?=some (some v)):Inv X jP σ' H s :=
 ⟨I.ok,I.os,I.bare,I.base,let ⟨m,hn,hl'⟩:=I.loc;⟨m,hn,λ i x v e1 e2 e3=>hl' i x v e1 (w i v e2) e3⟩,I.cell,I.free,I.freeC,I.pin,I.hok,hl.trans I.len⟩
theorem Inv.pins_of {pins':List (Addr × Obj)}(I:Inv X jP σ H s) (h:∀p∈pins',s.heap.get? p.1=some p.2/\H p.1=none/\p.1≠X.env.locals/\p.1∉X.fs/\∀v,p.2.data ≠ .cell v):Inv X pins' σ H s :=
 ⟨I.ok,I.os,I.bare,I.base,I.loc,I.cell,I.free,I.freeC,λ p hp=>(lK.mp hp).elim (λ z=>I.pin p (mF _ z)) (h p),I.hok,I.len⟩
theorem zHf {N:List Str}(hN:N.Nodup) {i j:Nat}{x:Str}(a:N[i]?=some x) (b:N[j]?=some x):i=j:=by
 obtain⟨h1,e1⟩:=lJ.mp a;obtain⟨h2,e2⟩:=lJ.mp b;exact(List.getElem_inj hN).mp (e1.trans e2.symm)
theorem zFz {M:Model}{A:Around}{E:XQ}{i:Nat}{x:Str}{v:V}{u:Value}{Q:Unit->Shared->Prop}(I:Inv X jP σ H s) (hN:X.N.Nodup) (hi:X.N[i]?=some x) (hx:Loc X.env.scope x) (r:RelV v u)
  (h:∀s',Inv X jP (σ.set i (some v)) H s'->(∃a,Heap.SameBut a s.heap s'.heap/\(a=X.env.locals\/X.env.cells.lookup x=some a))->Q () s') (hf:X.fn x=true\/X.env.scope.names.lookup x=some .local:=by first|exact .inl rfl|exact .inr rfl|assumption):wpAny M A (storeName X.env x u) Q E s:=by
 obtain⟨m,hn,hl⟩:=id I.loc;have hcls:(X.env.scope.kind == .class || (X.env.scope.kind == .module && X.env.locals != X.env.globals))=false:=by rw[I.ok.kind];rfl
 have hiσ:i<σ.length:=by rw[I.len];exact(lJ.mp hi).1
 have cne:=I.cne
 have tracked:∀{a:Addr}{h':Heap},(∃o,s.heap.get? a=some o/\H a=none)->Heap.SameBut a s.heap h'->HOk X.prog X.w H h':=λ{a h'} ha hs b ob e=>by
  obtain⟨_,_,hfree⟩:=ha;refine(I.hok b ob e).stay (λ c w' hc q=>(hs.2 c ?_).trans q) (λ Ω q=>q) λ Ω Ω q=>q;rintro rfl;rcases hc with rfl|hc
  ·rw[hfree] at e;cases e
  ·rw[hfree] at hc;cases hc
 rcases hx with hk|hk
 ·refine wpAny_storeName_local hk hn (λ h' hn' hs=>?_) hcls
  obtain⟨oL,_,_,hoL,_⟩:=id hn;refine h _ ⟨I.ok,I.os,I.bare,⟨λ b o e n hb hx=>?_,λ b o e n hb hx=>?_,I.base.free,λ b o e hx=>?_,I.base.tups,I.base.frzs,I.base.tbls⟩,⟨_,hn',λ j y v' e1 e2 e3=>?_⟩,λ y c e=>?_,I.free,I.freeC,λ p hp=>?_,tracked ⟨oL,hoL,I.free⟩ hs,by simpa using I.len⟩ ⟨_,hs,.inl rfl⟩
  ·exact(hs.2 b (lS (lZ (lI e) I.ok.above))).trans (I.base.keep b o e n hb hx)
  ·obtain⟨sl,e1⟩:=I.base.slot b o e n hb hx
   exact⟨sl,(hs.2 b (lS (lZ (lI e) I.ok.above))).trans e1⟩
  ·obtain⟨o',e1⟩:=I.base.there b o e hx
   exact⟨o',(hs.2 b (lS (lZ (lI e) I.ok.above))).trans e1⟩
  ·by_cases hj:j=i
   ·subst hj
    rw[hi] at e1;cases e1;rw[List.getElem?_set_self hiσ] at e2;cases e2;exact⟨u,r,.inl ⟨hk,by simp⟩⟩
   ·rw[List.getElem?_set_ne (Ne.symm hj)] at e2
    obtain⟨u',r',q⟩:=hl j y v' e1 e2 e3;refine⟨u',r',?_⟩;rcases q with ⟨k,e⟩|⟨k,c,e,z⟩
    ·refine .inl ⟨k,?_⟩
     have:y≠x:=λ e=>hj (zHf hN e1 (e▸hi));simp[this,e]
    ·exact .inr ⟨k,c,e,z.sameBut hs (cne y c e)⟩
  ·obtain⟨w',z⟩:=I.cell y c e
   exact⟨w',z.sameBut hs (cne y c e)⟩
  ·obtain⟨e,n,ne,nf,d⟩:=I.pin p hp
   exact⟨(hs.2 p.1 ne).trans e,n,ne,nf,d⟩
 ·have hfn:X.fn x=true:=by
   rcases hf with z|z
   ·exact z
   ·rw[z] at hk;cases hk
  obtain⟨c,hc⟩:=I.ok.has x (.inl hk);obtain⟨w',z⟩:=I.cell x c hc;refine wpAny_storeName_cell I.ok.kind hk hc z (λ h' hc' hs=>?_);obtain⟨oc,hoc,hocd⟩:=id z;refine h { s with heap:=h' } ⟨I.ok,I.os,I.bare,⟨λ b o e n hb hx=>?_,λ b o e n hb hx=>?_,I.base.free,λ b o e hx=>?_,I.base.tups,I.base.frzs,I.base.tbls⟩,⟨m,hn.sameBut hs (Ne.symm (cne x c hc)),λ j y v' e1 e2 e3=>?_⟩,λ y c' e=>?_,I.free,I.freeC,λ p hp=>?_,tracked ⟨oc,hoc,I.freeC x c hc⟩ hs,by simpa using I.len⟩ ⟨c,hs,.inr hc⟩
  ·exact(hs.2 b (lS (lZ (lI e) (I.ok.cab x c hfn hc)))).trans (I.base.keep b o e n hb hx)
  ·obtain⟨sl,e1⟩:=I.base.slot b o e n hb hx
   exact⟨sl,(hs.2 b (lS (lZ (lI e) (I.ok.cab x c hfn hc)))).trans e1⟩
  ·obtain⟨o',e1⟩:=I.base.there b o e hx
   exact⟨o',(hs.2 b (lS (lZ (lI e) (I.ok.cab x c hfn hc)))).trans e1⟩
  ·by_cases hj:j=i
   ·subst hj
    rw[hi] at e1;cases e1;rw[List.getElem?_set_self hiσ] at e2;cases e2;exact⟨u,r,.inr ⟨.inl hk,c,hc,hc'⟩⟩
   ·rw[List.getElem?_set_ne (Ne.symm hj)] at e2
    obtain⟨u',r',q⟩:=hl j y v' e1 e2 e3;refine⟨u',r',?_⟩;rcases q with q|⟨k,c',e,z'⟩
    ·exact .inl q
    ·refine .inr ⟨k,c',e,z'.sameBut hs ?_⟩
     rintro rfl;exact hj (zHf hN e1 (I.ok.inj _ _ _ e hc▸hi))
  ·by_cases hcc:c'=c
   ·subst hcc;exact⟨_,hc'⟩
   ·obtain⟨w2,z2⟩:=I.cell y c' e
    exact⟨w2,z2.sameBut hs hcc⟩
  ·obtain⟨e,n,ne,nf,d⟩:=I.pin p hp
   refine⟨(hs.2 p.1 ?_).trans e,n,ne,nf,d⟩;intro q;rw[q,hoc] at e;have q':oc=p.2:=mE e;exact d w' (by rw[←q'];exact hocd)
theorem zFR {M:Model}{A:Around}{E:XQ}{i:Nat}{x:Str}{v:V}{u:Value}{Q:Unit->Shared->Prop}(I:Inv X jP σ H s) (hN:X.N.Nodup) (hi:X.N[i]?=some x) (hx:Loc X.env.scope x) (r:RelV v u)
  (h:∀s',Inv X jP (σ.set i (some v)) H s'->Q () s') (hf:X.fn x=true\/X.env.scope.names.lookup x=some .local:=by first|exact .inl rfl|exact .inr rfl|assumption):wpAny M A (storeName X.env x u) Q E s :=
 zFz I hN hi hx r (λ s' I' Ω=>h s' I') hf
theorem Inv.call' {s':Shared}{ch:List Addr}(I:Inv X jP σ H s) (ho:s'.os=s.os) (u:Un (frs X.stack) ch H H' s.heap s'.heap) (hok:HOk X.prog X.w H' s'.heap) (hg:AllBare s'.gens)
  (hch:∀b∈ch,(b∈X.ex\/X.s₀.heap.objs.size<=b)/\b≠X.env.locals/\(∀x c,X.env.cells.lookup x=some c->c≠b)/\∀p∈X.pn++jP,p.1≠b):Inv X jP σ H' s':=by
 obtain⟨h',g',d',t',o'⟩:=s';have e:o'=s.os:=ho;subst e;exact I.call (g':=g') (t':=t') (d':=d') u hok hg hch
end
abbrev XK:=Value->Option Addr->Hp->Prop
abbrev St:=List (Option V)
abbrev VK:=V->Hp->Prop
abbrev TE:=St->Hp->VK->Prop
abbrev TT:=St->Hp->(Bool->Hp->Prop)->Prop
abbrev TA:=St->Hp->(List V->Hp->Prop)->Prop
structure Ends where
 nx:St->Hp->Prop
 rt:VK
 bk:St->Hp->Prop:=λ Ω Ω=>False
 ct:St->Hp->Prop:=λ Ω Ω=>False
abbrev TS:=Ends->St->Hp->Prop
def EP (X:Cx) (jP:List (Addr × Obj)) (σ:St) (Q:VK) (u:Value) (s':Shared):Prop:=∃v H',Inv X jP σ H' s'/\RelV v u/\Q v H'
def TP (X:Cx) (jP:List (Addr × Obj)) (σ:St) (Q:Bool->Hp->Prop) (b:Bool) (s':Shared):Prop:=∃H',Inv X jP σ H' s'/\Q b H'
def AP (X:Cx) (jP:List (Addr × Obj)) (σ:St) (Q:List V->Hp->Prop) (us:List Value) (s':Shared):Prop:=∃vs H',Inv X jP σ H' s'/\Vals vs us/\Q vs H'
def SP (X:Cx) (jP:List (Addr × Obj)) (D:Ends) (f:Flow) (s':Shared):Prop :=
 match f with
 |.next=>∃σ' H',Inv X jP σ' H' s'/\D.nx σ' H'
 |.brk=>∃σ' H',Inv X jP σ' H' s'/\D.bk σ' H'
 |.cont=>∃σ' H',Inv X jP σ' H' s'/\D.ct σ' H'
 |.ret u=>∃v σ' H',Inv X jP σ' H' s'/\RelV v u/\D.rt v H'
def PE (X:Cx) (e:Expr) (t:TE):Prop :=
 ∀(jP:List (Addr × Obj)) (s:Shared) (σ:St) (H:Hp) (Q:VK),Inv X jP σ H s->t σ H Q->wpAny (model X.prog X.w) X.A (eval e X.env) (EP X jP σ Q) X.xe s
def PT (X:Cx) (e:Expr) (t:TT):Prop :=
 ∀(jP:List (Addr × Obj)) (s:Shared) (σ:St) (H:Hp) (Q:Bool->Hp->Prop),Inv X jP σ H s->t σ H Q->wpAny (model X.prog X.w) X.A (isTrue e X.env (eval e X.env)) (TP X jP σ Q) X.xe s
def PW (X:Cx) (e:Expr) (t:TT):Prop :=
 ∀(whole:Sem Value) (jP:List (Addr × Obj)) (s:Shared) (σ:St) (H:Hp) (Q:Bool->Hp->Prop),Inv X jP σ H s->t σ H Q->wpAny (model X.prog X.w) X.A (isTrue e X.env whole) (TP X jP σ Q) X.xe s
theorem PW.pt {X:Cx}{e:Expr}{t:TT}(h:PW X e t):PT X e t:=h _
def PA (X:Cx) (es:List Expr) (t:TA):Prop :=
 ∀(pos:Pos) (jP:List (Addr × Obj)) (s:Shared) (σ:St) (H:Hp) (Q:List V->Hp->Prop),Inv X jP σ H s->t σ H Q->wpAny (model X.prog X.w) X.A (spliced (backTo pos (starEach es X.env))) (AP X jP σ Q) X.xe s
def PS (X:Cx) (st:Stmt) (t:TS):Prop :=
 ∀(jP:List (Addr × Obj)) (s:Shared) (σ:St) (H:Hp) (D:Ends),Inv X jP σ H s->t D σ H->wpAny (model X.prog X.w) X.A (exec st X.env) (SP X jP D) X.xe s
def PSs (X:Cx) (st:List Stmt) (t:TS):Prop :=
 ∀(jP:List (Addr × Obj)) (s:Shared) (σ:St) (H:Hp) (D:Ends),Inv X jP σ H s->t D σ H->wpAny (model X.prog X.w) X.A (execs st X.env) (SP X jP D) X.xe s
theorem thn {α:Type}{t:Sem α}{Q Q':α->Shared->Prop}{M:Model}{A:Around}{E:XQ}{s:Shared}(h:wpAny M A t Q E s) (hQ:∀a s,Q a s->Q' a s):wpAny M A t Q' E s:=wpAny_mono h hQ λ Ω Ω x=>x
section
variable {X:Cx}
inductive tVar (i:Nat) (σ:St) (H:Hp) (Q:VK):Prop
 |mk (v:V) (h:σ[i]?=some (some v)) (q:Q v H)
inductive IsB (Q:Bool->Hp->Prop) (x:V) (H:Hp):Prop
 |mk (c:Bool) (h:x = .bl c) (q:Q c H)
def tC (v:V):TE:=λ Ω H Q=>Q v H
theorem zNb {i:Nat}{x:Str}{pos:Pos}(hN:X.N[i]?=some x) (hv:Vis X.env.scope x) (hd:(x == ("__debug__" : Str))=false:=by decide) (hcd:(x == ("__classdict__" : Str))=false:=by decide):PE X (.Name x pos) (tVar i):=by
 intro jP s σ H Q I h;obtain⟨v,e,h⟩:=h;obtain⟨m,hn,hl⟩:=I.loc;obtain⟨u,r,l⟩:=hl i x v hN e hv;have fin:EP X jP σ Q u s:=⟨v,H,I,r,h⟩;rcases l with ⟨hk,hm⟩|⟨hk,c,hc,hcell⟩
 ·exact wpAny_Name (wpAny_loadName_local I.ok.kind hk hn hm fin) hd
 ·rcases hk with hk|hk
  ·exact wpAny_Name (wpAny_loadName_cell I.ok.kind hk hc hcell fin) hd
  ·exact wpAny_Name (wpAny_loadName_free I.ok.kind hk hc hcell fin hcd) hd
theorem zAI {i j pos}:PE X (.Constant (.int i) j pos) (tC (.int i)):=λ Ω Ω Ω H Ω I h=>wpAny_Constant_int ⟨.int i,H,I.tok _,⟨_,rfl⟩,h⟩
theorem pe_bl {b j pos}:PE X (.Constant (.bool b) j pos) (tC (.bl b)):=λ Ω Ω Ω H Ω I h=>Constant_bool ⟨.bl b,H,I,rfl,h⟩
theorem zLi {j pos}:PE X (.Constant .none j pos) (tC .non):=λ Ω Ω Ω H Ω I h=>Constant_none ⟨.non,H,I,rfl,h⟩
theorem zAZ {x j pos}:PE X (.Constant (.str x) j pos) (tC (.str x)):=λ Ω Ω Ω H Ω I h=>Calls.Constant_str ⟨.str x,H,I.tok _,⟨_,rfl⟩,h⟩
def Gl (X:Cx) (x:Str):Prop:=X.env.kindOf x=some .globalImplicit
theorem zJP {E:XQ}{jP:List (Addr × Obj)}{s:Shared}{σ:St}{H:Hp}{x:Str}{u:Value}{pos:Pos}{Q:XQ}(I:Inv X jP σ H s) (hg:Gl X x) (hm:X.mg x=some u) (h:Q u s)
  (hd:(x == ("__debug__" : Str))=false:=by decide):wpAny (model X.prog X.w) X.A (eval (.Name x pos) X.env) Q E s :=
 Calls.Name_function_global I.ok.kind hg (Calls.loadGlobal_global (by rw[I.ok.glob];exact I.mod.glob.keeps I.bk) hm h) hd
theorem zCl {E:XQ}{jP:List (Addr × Obj)}{s:Shared}{σ:St}{H:Hp}{x:Str}{u:Value}{pos:Pos}{Q:XQ}(I:Inv X jP σ H s) (hg:Gl X x) (hm:X.mg x=none) (hv:bootBuiltins x=some u) (h:Q u s)
  (hn:x ≠ "__name__" := by decide) (hd:(x == ("__debug__" : Str))=false:=by decide):wpAny (model X.prog X.w) X.A (eval (.Name x pos) X.env) Q E s:=by
 obtain⟨mb,h1,h2⟩:=I.mod.blt;exact Calls.Name_function_global I.ok.kind hg (Calls.loadGlobal_builtin (by rw[I.ok.glob];exact I.mod.glob.keeps I.bk) hm (by rw[I.ok.blt];exact h1.keeps I.bk) ((h2 x hn).trans hv) h) hd
theorem zB8 {x:Str}{v:V}{u:Value}{pos:Pos}(hg:Gl X x) (hm:X.mg x=some u) (r:RelV v u) (hd:(x == ("__debug__" : Str))=false:=by decide):PE X (.Name x pos) (tC v) :=
 λ Ω Ω Ω H Ω I h=>zJP I hg hm ⟨v,H,I,r,h⟩ hd
theorem zMR {x:Str}{v:V}{u:Value}{pos:Pos}(hg:Gl X x) (hm:X.mg x=none) (hv:bootBuiltins x=some u) (r:RelV v u) (hn:x ≠ "__name__" := by decide) (hd:(x == ("__debug__" : Str))=false:=by decide):PE X (.Name x pos) (tC v) :=
 λ Ω Ω Ω H Ω I h=>zCl I hg hm hv ⟨v,H,I,r,h⟩ hn hd
variable {a b:Expr}{ta tb:TE}{pos:Pos}
def tB (t:TE):TT:=λ σ H Q=>t σ H (IsB Q)
theorem zBB {e:Expr}{t:TE}(h:PE X e t) (he:∀whole,isTrue e X.env whole=(do let v ← whole;standAt e.pos;holding [v] (truthy v)):=by intro _;rfl):PT X e (tB t):=by
  intro jP s σ H Q I hw;refine isTrue_plain (thn (h jP s σ H _ I hw) λ v s1 ⟨x,H1,I1,r1,q1⟩=>?_) (he _);obtain⟨d,rfl,q⟩:=q1;cases r1;exact wpAny_truthy_bool ⟨H1,I1,q⟩
variable {tA tB':TT}{rest:List Expr}
def tAnd (t u:TT):TT:=λ σ H Q=>t σ H λ c H1=>if c=true then u σ H1 Q else Q false H1
def tOr (t u:TT):TT:=λ σ H Q=>t σ H λ c H1=>if c=true then Q true H1 else u σ H1 Q
def tNot (t:TT):TT:=λ σ H Q=>t σ H λ c H1=>Q (!c) H1
theorem zCg (ha:PT X a tA):PW X (.BoolOp .And [a] pos) tA:=by
 intro wh jP s σ H Q I h;refine isTrue_and (thn (ha jP s σ H Q I h) λ c s1 e=>?_);cases c with
 |true=>exact isTrue_and_nil e
 |false=>exact e
theorem zCB (ha:PT X a tA):PW X (.BoolOp .Or [a] pos) tA:=by
 intro wh jP s σ H Q I h;refine isTrue_or (thn (ha jP s σ H Q I h) λ c s1 e=>?_);cases c with
 |false=>exact isTrue_or_nil e
 |true=>exact e
theorem zDu (ha:PT X a tA) (hb:PW X (.BoolOp .And (b::rest) pos) tB'):PW X (.BoolOp .And (a::b::rest) pos) (tAnd tA tB'):=by
 intro wh jP s σ H Q I h;refine isTrue_and (thn (ha jP s σ H _ I h) λ c s1 ⟨H1,I1,q1⟩=>?_);cases c with
 |true=>exact hb wh jP s1 σ H1 Q I1 q1
 |false=>exact⟨H1,I1,q1⟩
theorem pw_or (ha:PT X a tA) (hb:PW X (.BoolOp .Or (b::rest) pos) tB'):PW X (.BoolOp .Or (a::b::rest) pos) (tOr tA tB'):=by
 intro wh jP s σ H Q I h;refine isTrue_or (thn (ha jP s σ H _ I h) λ c s1 ⟨H1,I1,q1⟩=>?_);cases c with
 |true=>exact⟨H1,I1,q1⟩
 |false=>exact hb wh jP s1 σ H1 Q I1 q1
theorem zCx (ha:PT X a tA):PT X (.UnaryOp .Not a pos) (tNot tA):=by
 intro jP s σ H Q I h;exact isTrue_not (ha jP s σ H (λ c H1=>Q (!c) H1) I h)
def tAndV (ta tb:TE):TE:=λ σ H Q=>ta σ H (IsB λ c H1=>if c=true then tb σ H1 Q else Q (.bl false) H1)
def tOrV (ta tb:TE):TE:=λ σ H Q=>ta σ H λ x H1=>∃c,x = .bl c/\if c=true then Q (.bl true) H1 else tb σ H1 Q
def tNotV (ta:TE):TE:=λ σ H Q=>ta σ H (IsB λ c H1=>Q (.bl (!c)) H1)
theorem zEX {op} {t:TE}(h:PE X a t):PE X (.BoolOp op [a] pos) t:=λ jP s σ H Q I hw=>BoolOp_one (h jP s σ H Q I hw)
theorem zI3 (ha:PE X a ta) (hb:PE X (.BoolOp .And (b::rest) pos) tb):PE X (.BoolOp .And (a::b::rest) pos) (tAndV ta tb):=by
 intro jP s σ H Q I h;refine BoolOp_and (thn (ha jP s σ H _ I h) λ v s1 ⟨x,H1,I1,r1,q1⟩=>?_);obtain⟨c,rfl,q1⟩:=q1;cases r1;refine wpAny_truthy_bool ?_;cases c with
 |true=>exact hb jP s1 σ H1 Q I1 q1
 |false=>exact⟨.bl false,H1,I1,rfl,q1⟩
theorem pe_or (ha:PE X a ta) (hb:PE X (.BoolOp .Or (b::rest) pos) tb):PE X (.BoolOp .Or (a::b::rest) pos) (tOrV ta tb):=by
 intro jP s σ H Q I h;refine BoolOp_or (thn (ha jP s σ H _ I h) λ v s1 ⟨x,H1,I1,r1,q1⟩=>?_);obtain⟨c,rfl,q1⟩:=q1;cases r1;refine wpAny_truthy_bool ?_;cases c with
 |false=>exact hb jP s1 σ H1 Q I1 q1
 |true=>exact⟨.bl true,H1,I1,rfl,q1⟩
theorem zNe (ha:PE X a ta):PE X (.UnaryOp .Not a pos) (tNotV ta):=by
 intro jP s σ H Q I h;refine UnaryOp_ (thn (ha jP s σ H _ I h) λ v s1 ⟨x,H1,I1,r1,q1⟩=>?_);obtain⟨c,rfl,q1⟩:=q1;cases r1;exact not_of (wpAny_truthy_bool ⟨.bl (!c),H1,I1,rfl,q1⟩)
end
def SqL (K:W.Frag) (H:Hp) (a:Addr) (xs:List V):Prop :=
 Rd H a (.lst xs) \/
  ∃(o:Obj) (its:Array Value) (n:Nat),K.lookup a=some o/\o.cls = .type "list" /\ o.dict=none/\o.data = .seq its n/\its.size<=sizeLine/\Vals xs its.toList
def SqT (K:W.Frag) (H:Hp) (a:Addr) (xs:List V):Prop :=
 Rd H a (.tup xs) \/
  ∃(o:Obj) (its:Array Value) (n:Nat),K.lookup a=some o/\o.cls = .type "tuple" /\ o.data = .seq its n/\its.size<=sizeLine/\Vals xs its.toList
noncomputable def absV:Value->Option V
 |.none=>some .non
 |.bool b=>some (.bl b)
 |.int i _=>some (.int i)
 |.str x _=>some (.str x)
 |.bytes b _=>some (.byt b)
 |.float b _=>some (.flt b)
 |.ref a=>some (.ref a)
 |.type n=>some (.ty n)
 |_=>none
theorem RelV.abs {x:V}{u:Value}(r:RelV x u):absV u=some x:=by
 cases x with
 |non=>cases r;rfl
 |bl _=>cases r;rfl
 |int _=>obtain⟨t,rfl⟩:=r;rfl
 |str _=>obtain⟨t,rfl⟩:=r;rfl
 |byt _=>obtain⟨t,rfl⟩:=r;rfl
 |flt _=>obtain⟨t,rfl⟩:=r;rfl
 |ref _=>cases r;rfl
 |ty _=>cases r;rfl
theorem RelV.inj {x y:V}{u:Value}(r:RelV x u) (q:RelV y u):x=y:=mE (r.abs.symm.trans q.abs)
theorem Vals.inj {xs ys:List V}{us:List Value}(h:Vals xs us):Vals ys us->xs=ys:=by
 induction h generalizing ys with
 |nil=>intro z;cases z;rfl
 |cons r t ih=>intro z;cases z with|cons r' t'=>rw[r.inj r',ih t']
section
variable {X:Cx}{jP:List (Addr × Obj)}{σ:St}{H:Hp}{s:Shared}{a:Addr}{xs ys:List V}
theorem SqL.of {K:W.Frag}(h:H a=some (.lst xs)):SqL K H a xs:=.inl (.inl h)
theorem SqT.of {K:W.Frag}(h:H a=some (.tup xs)):SqT K H a xs:=.inl (.inl h)
theorem Inv.list (I:Inv X jP σ H s) (h:SqL X.K H a xs):∃its:List Value,Vals xs its/\PlainL s.heap a its.toArray/\xs.length<=sizeLine:=by
 rcases h with h|⟨o,its,n,hk,hc,hd,hs,hz,r⟩
 ·obtain⟨z,its,n,r,e⟩:=h.ok I.hok
  exact⟨its,r,⟨_,n,e,rfl,rfl,rfl⟩,z⟩
 ·refine⟨its.toList,r,⟨o,n,I.kIn a o hk,hc,hd,by simpa using hs⟩,?_⟩
  have e:=r.length;simp only[Array.length_toList] at e;omega
theorem Inv.tuple (I:Inv X jP σ H s) (h:SqT X.K H a xs):∃its:List Value,Vals xs its/\IsTup s.heap a its.toArray/\xs.length<=sizeLine:=by
 rcases h with h|⟨o,its,n,hk,hc,hs,hz,r⟩
 ·obtain⟨z,its,r,p⟩:=h.ok I.hok
  exact⟨its,r,p,z⟩
 ·refine⟨its.toList,r,⟨o,I.kIn a o hk,hc,n,by simpa using hs⟩,?_⟩
  have e:=r.length;simp only[Array.length_toList] at e;omega
theorem Inv.list_inj (I:Inv X jP σ H s) (h:SqL X.K H a xs) (h':SqL X.K H a ys):xs=ys:=by
 obtain⟨its,r,⟨o,n,e,_,_,d⟩,_⟩:=I.list h;obtain⟨its',r',⟨o',n',e',_,_,d'⟩,_⟩:=I.list h';rw[e] at e';cases e';rw[d] at d';injection d' with d1 _
 have:its=its':=by simpa using congrArg Array.toList d1
 subst this;exact r.inj r'
theorem Inv.tuple_inj (I:Inv X jP σ H s) (h:SqT X.K H a xs) (h':SqT X.K H a ys):xs=ys:=by
 obtain⟨its,r,⟨o,e,_,n,d⟩,_⟩:=I.tuple h;obtain⟨its',r',⟨o',e',_,n',d'⟩,_⟩:=I.tuple h';rw[e] at e';cases e';rw[d] at d';injection d' with d1 _
 have:its=its':=by simpa using congrArg Array.toList d1
 subst this;exact r.inj r'
end
abbrev Cx.wish (X:Cx) (E:XQ):Cx:={ X with xe:=E }
abbrev Cx.nox (X:Cx):Cx:=X.wish λ Ω Ω=>False
theorem Cx.Ok.wish {X:Cx}(ok:X.Ok) (E:XQ):(X.wish E).Ok :=
 ⟨ok.mod,ok.kind,ok.glob,ok.blt,ok.above,ok.inj,ok.has,ok.cab,ok.hd,ok.frames,ok.stk,ok.exf,ok.bs,ok.bsz,ok.noex,ok.exfs,ok.funs,ok.frf⟩
theorem Cx.Ok.unwish {X:Cx}{E:XQ}(ok:(X.wish E).Ok):X.Ok :=
 ⟨ok.mod,ok.kind,ok.glob,ok.blt,ok.above,ok.inj,ok.has,ok.cab,ok.hd,ok.frames,ok.stk,ok.exf,ok.bs,ok.bsz,ok.noex,ok.exfs,ok.funs,ok.frf⟩
section
variable {X:Cx}{jP:List (Addr × Obj)}{σ:St}{H:Hp}{s:Shared}{E:XQ}
theorem Inv.wish (I:Inv X jP σ H s) (E:XQ):Inv (X.wish E) jP σ H s:=⟨I.ok.wish E,I.os,I.bare,I.base,I.loc,I.cell,I.free,I.freeC,I.pin,I.hok,I.len⟩
theorem Inv.unwish (I:Inv (X.wish E) jP σ H s):Inv X jP σ H s:=⟨I.ok.unwish,I.os,I.bare,I.base,I.loc,I.cell,I.free,I.freeC,I.pin,I.hok,I.len⟩
theorem SP.unwish {D:Ends}{f:Flow}{s':Shared}(h:SP (X.wish E) jP D f s'):SP X jP D f s':=by
 cases f with
 |next=>obtain⟨σ',H',I,q⟩:=h;exact⟨σ',H',I.unwish,q⟩
 |brk=>obtain⟨σ',H',I,q⟩:=h;exact⟨σ',H',I.unwish,q⟩
 |cont=>obtain⟨σ',H',I,q⟩:=h;exact⟨σ',H',I.unwish,q⟩
 |ret u=>obtain⟨v,σ',H',I,r,q⟩:=h;exact⟨v,σ',H',I.unwish,r,q⟩
theorem PSs.nox {st:List Stmt}{t:TS}(h:PSs X.nox st t):PSs X st t:=λ jP s σ H D I hw =>
 wpAny_mono (h jP s σ H D (I.wish _) hw) (λ Ω Ω q=>q.unwish) λ Ω Ω z=>False.elim z
end
section
variable {X:Cx}{st:Stmt}{rest:List Stmt}{t u:TS}{e:Expr}{te:TE}{pos:Pos}
def tNext:TS:=λ D σ H=>D.nx σ H
def tSeq (t u:TS):TS:=λ D σ H=>t { D with nx:=u D } σ H
theorem zAV:PSs X [] tNext:=λ _ _ σ H _ I h=>wpAny_execs_nil ⟨σ,H,I,h⟩
theorem zAE (h1:PS X st t) (h2:PSs X rest u):PSs X (st::rest) (tSeq t u):=by
 intro jP s σ H D I h;refine wpAny_execs_cons (thn (h1 jP s σ H { D with nx:=u D } I h) λ f s1 q=>?_);cases f with
 |next =>
  obtain⟨σ',H',I',q⟩:=q;exact h2 jP s1 σ' H' D I' q
 |ret v=>exact q
 |brk=>exact q
 |cont=>exact q
theorem zAF (h1:PS X st t):PSs X [st] t:=by
 intro jP s σ H D I h;refine wpAny_execs_cons (thn (h1 jP s σ H D I h) λ f s1 q=>?_);cases f with
 |next=>exact wpAny_execs_nil q
 |ret v=>exact q
 |brk=>exact q
 |cont=>exact q
theorem Inv.quiet {jP:List (Addr × Obj)}{σ:St}{H:Hp}{s:Shared}(I:Inv X jP σ H s):interactive X.env=false:=by simp[interactive,I.ok.kind]
def tDrop (te:TE):TS:=λ D σ H=>te σ H λ Ω H1=>D.nx σ H1
theorem zCU (he:PE X e te) (hs:swapsWith e none pos.line X.env=pure false:=by rfl):PS X (.Expr e pos) (tDrop te):=by
 intro jP s σ H D I h;exact wpAny_Expr_any (thn (he jP s σ H _ I h) λ v s1 ⟨x,H1,I1,r1,q1⟩=>⟨σ,H1,I1,q1⟩) I.quiet hs
def tRet (te:TE):TS:=λ D σ H=>te σ H D.rt
theorem zAU (he:PE X e te):PS X (.Return (some e) pos) (tRet te):=by
 intro jP s σ H D I h;exact wpAny_Return_some (thn (he jP s σ H _ I h) λ v s1 ⟨x,H1,I1,r1,q1⟩=>⟨x,σ,H1,I1,r1,q1⟩)
def tIfS (c:TT) (t u:TS):TS:=λ D σ H=>c σ H λ b H1=>if b=true then t D σ H1 else u D σ H1
theorem ps_if {c:Expr}{a b:List Stmt}{tc:TT}(hc:PT X c tc) (ha:PSs X a t) (hb:PSs X b u):PS X (.If c a b pos) (tIfS tc t u):=by
 intro jP s σ H D I h;refine wpAny_If (thn (hc jP s σ H _ I h) λ d s1 ⟨H1,I1,q1⟩=>?_);cases d with
 |true=>exact ha jP s1 σ H1 D I1 q1
 |false=>exact hb jP s1 σ H1 D I1 q1
def zLa:TS:=λ Ω Ω Ω=>False
theorem zFX:PS X st zLa:=λ Ω Ω Ω Ω Ω Ω h=>h.elim
theorem zIt {sts:List Stmt}:PSs X sts zLa:=λ Ω Ω Ω Ω Ω Ω h=>h.elim
end
abbrev TG:=V->St->Hp->(St->Hp->Prop)->Prop
abbrev TGs:=List V->St->Hp->(St->Hp->Prop)->Prop
def PG (X:Cx) (target:Expr) (t:TG):Prop :=
 ∀(jP:List (Addr × Obj)) (s:Shared) (σ:St) (H:Hp) (v:V) (u:Value) (Q:St->Hp->Prop),Inv X jP σ H s->RelV v u->t v σ H Q ->
  wpAny (model X.prog X.w) X.A (assign target X.env u) (λ Ω s'=>∃σ' H',Inv X jP σ' H' s'/\Q σ' H') X.xe s
def PGs (X:Cx) (ts:List Expr) (t:TGs):Prop :=
 ∀(jP:List (Addr × Obj)) (s:Shared) (σ:St) (H:Hp) (vs:List V) (us:List Value) (Q:St->Hp->Prop),Inv X jP σ H s->Vals vs us->t vs σ H Q ->
  wpAny (model X.prog X.w) X.A (assignInOrder ((assignEach ts X.env).map (·.2)) us) (λ Ω s'=>∃σ' H',Inv X jP σ' H' s'/\Q σ' H') X.xe s
abbrev TIp:=V->V->Hp->VK->Prop
def PIp (X:Cx) (op:Operator) (t:TIp):Prop :=
 ∀(jP:List (Addr × Obj)) (s:Shared) (σ:St) (H:Hp) (x y:V) (v u:Value) (Q:VK),Inv X jP σ H s->RelV x v->RelV y u->t x y H Q ->
  wpAny (model X.prog X.w) X.A (inplaceOp op v u) (EP X jP σ Q) X.xe s
section
variable {X:Cx}{pos:Pos}
def gName (i:Nat):TG:=λ v σ H Q=>Q (σ.set i (some v)) H
theorem zAc {i:Nat}{x:Str}(hN:X.N.Nodup) (hi:X.N[i]?=some x) (hx:Loc X.env.scope x) (hf:X.fn x=true\/X.env.scope.names.lookup x=some .local:=by first|exact .inl rfl|exact .inr rfl|assumption):PG X (.Name x pos) (gName i):=by
 intro jP s σ H v u Q I r h;exact wpAny_assign_Name (zFR I hN hi hx r (λ s' I'=>⟨_,H,I',h⟩) hf)
theorem pGn {i:Nat}{x:Str}(hN:X.N.Nodup)(hi:X.N[i]?=some x:=by rfl)(hx:Loc X.env.scope x:=by exact Or.inl rfl)(hf:X.fn x=true\/X.env.scope.names.lookup x=some .local:=by first|exact .inl rfl|exact .inr rfl|assumption):PG X (.Name x pos) (gName i):=zAc hN hi hx hf
def gNil:TGs:=λ vs σ H Q=>vs=[]/\Q σ H
inductive gCons (t:TG) (u:TGs) (vs:List V) (σ:St) (H:Hp) (Q:St->Hp->Prop):Prop
 |mk (v:V) (r:List V) (h:vs=v::r) (q:t v σ H λ σ' H'=>u r σ' H' Q)
theorem zBP:PGs X [] gNil:=by
 intro jP s σ H vs us Q I r h;obtain⟨e,h⟩:=h;subst e;cases r;exact assignInOrder_nil ⟨σ,H,I,h⟩
theorem zAa {e:Expr}{es:List Expr}{t:TG}{u:TGs}(h1:PG X e t) (h2:PGs X es u)
  (hs:(assignEach (e::es) X.env).map (·.2)=assign e X.env::(assignEach es X.env).map (·.2):=by rfl):PGs X (e::es) (gCons t u):=by
 intro jP s σ H vs us Q I r h;obtain⟨v,vr,e1,h⟩:=h;subst e1;cases r with
 |cons r rr =>
  rw[hs];refine assignInOrder_cons (thn (h1 jP s σ H _ _ _ I r h) λ _ s1 ⟨σ1,H1,I1,q1⟩=>?_);exact h2 jP s1 σ1 H1 _ _ Q I1 rr q1
def gTup (K:W.Frag) (n:Nat) (t:TGs):TG:=λ v σ H Q=>∃a xs,v = .ref a/\SqT K H a xs/\xs.length=n/\t xs σ H Q
theorem zCh {es:List Expr}{k:Nat}{t:TGs}{n:Nat}(hc:X.calm=true) (h:PGs X es t)
  (hn:(assignEach es X.env).length=n:=by rfl) (hst:(assignEach es X.env).findIdx? (·.1)=none:=by rfl):PG X (.Tuple es k pos) (gTup X.K n t):=by
 intro jP s σ H v u Q I r hw;obtain⟨a,xs,e1,hq,hl,hw⟩:=hw;subst e1;cases r;obtain⟨its,rv,ht,hz⟩:=I.tuple hq;refine assign_Tuple_tuple (I.ok.hd hc) ht (by simp[hn,←hl,rv.length]) hst λ h' hx=>?_;have I1:Inv X jP σ H { s with heap:=h' }:=I.kept (t':=s.toks) λ b o e=>hx b o (lS (lI e)) e;exact h jP _ σ H xs _ Q I1 (by simpa using rv) hw
def tAsg (te:TE) (g:TG):TS:=λ D σ H=>te σ H λ x H1=>g x σ H1 D.nx
theorem zGC {i:Nat}{x:Str}{e:Expr}{te:TE}{pos':Pos}(hN:X.N.Nodup) (hi:X.N[i]?=some x) (hx:Loc X.env.scope x) (he:PE X e te) (hs:swapsWith e (some (.Name x pos')) pos.line X.env=pure false:=by rfl) (hf:X.fn x=true\/X.env.scope.names.lookup x=some .local:=by first|exact .inl rfl|exact .inr rfl|assumption) :
  PS X (.Assign [.Name x pos'] e pos) (tAsg te (gName i)):=by
 intro jP s σ H D I h;refine wpAny_Assign_Name (thn (he jP s σ H _ I h) λ v s1 ⟨y,H1,I1,r1,q1⟩=>?_) hs;exact zFR I1 hN hi hx r1 (λ s2 I2=>⟨_,H1,I2,q1⟩) hf
theorem pS {i:Nat}{x:Str}{e:Expr}{te:TE}{pos':Pos}(hN:X.N.Nodup)(he:PE X e te)(hi:X.N[i]?=some x:=by rfl)(hx:Loc X.env.scope x:=by exact Or.inl rfl)(hs:swapsWith e (some (.Name x pos')) pos.line X.env=pure false:=by rfl)(hf:X.fn x=true\/X.env.scope.names.lookup x=some .local:=by first|exact .inl rfl|exact .inr rfl|assumption):PS X (.Assign [.Name x pos'] e pos) (tAsg te (gName i)):=zGC hN hi hx he hs hf
def tAug (i:Nat) (te:TE) (ti:TIp):TS:=λ D σ H=>∃x,σ[i]?=some (some x)/\te σ H λ y H1=>ti x y H1 λ z H2=>D.nx (σ.set i (some z)) H2
theorem zNX {i:Nat}{x:Str}{e:Expr}{te:TE}{op:Operator}{ti:TIp}{pos':Pos}(hN:X.N.Nodup) (hi:X.N[i]?=some x) (hx:Loc X.env.scope x) (he:PE X e te) (ho:PIp X op ti) (hf:X.fn x=true\/X.env.scope.names.lookup x=some .local:=by first|exact .inl rfl|exact .inr rfl|assumption) :
  PS X (.AugAssign (.Name x pos') op e pos) (tAug i te ti):=by
 intro jP s σ H D I h;obtain⟨v,e1,h⟩:=h;obtain⟨m,hn,hl⟩:=I.loc;have vis:Vis X.env.scope x:=by rcases hx with k|k;exact .inl k;exact .inr (.inl k)
 obtain⟨u,r,l⟩:=hl i x v hi e1 vis;refine wpAny_AugAssign_Name ?_
 have go:wpAny (model X.prog X.w) X.A (eval e X.env) (λ w s₂=>wpAny (model X.prog X.w) X.A (inplaceOp op u w) (λ r s₃=>wpAny (model X.prog X.w) X.A (storeName X.env x r) (λ Ω=>SP X jP D .next) X.xe s₃) X.xe s₂) X.xe s:=by
  refine thn (he jP s σ H _ I h) λ w s1 ⟨y,H1,I1,r1,q1⟩=>?_;refine thn (ho jP s1 σ H1 v y u w _ I1 r r1 q1) λ z s2 ⟨zv,H2,I2,r2,q2⟩=>?_;exact zFR I2 hN hi hx r2 (λ s3 I3=>⟨_,H2,I3,q2⟩) hf
 rcases l with ⟨hk,hm⟩|⟨hk,c,hc,hcell⟩
 ·exact wpAny_loadName_local I.ok.kind hk hn hm go
 ·rcases hk with hk|hk
  ·exact wpAny_loadName_cell I.ok.kind hk hc hcell go
  ·rcases hx with k|k
   ·have:X.env.scope.names.lookup x=some .free:=hk
    rw[k] at this;cases this
   ·have:X.env.scope.names.lookup x=some .free:=hk
    rw[k] at this;cases this
def ipI (f:Int->Int->Int):TIp:=λ x y H Q=>∃i j,x = .int i/\y = .int j/\Q (.int (f i j)) H
theorem zNy:PIp X .Add (ipI λ i j=>i+j):=by
 intro jP s σ H x y v u Q I r1 r2 h;obtain⟨i,j,e1,e2,q⟩:=h;subst e1;subst e2;obtain⟨t,rfl⟩:=r1;obtain⟨t',rfl⟩:=r2;exact iadd_int ⟨.int _,H,I.tok _,⟨_,rfl⟩,q⟩
end
section
variable {X:Cx}{pos:Pos}
def zNF (c:TT) (tb:TS):TS:=λ D σ H=>∃W:Nat->St->Hp->Prop,(∃m,W m σ H)/\∀m σ H,W m σ H ->
 c σ H λ b H1=>if b=true then ∃N:St->Hp->Prop,(∀σ' H',N σ' H'->∃m',m'<m/\W m' σ' H')/\tb { D with nx:=N,ct:=N,bk:=D.nx } σ H1 else D.nx σ H1
theorem zCv {c:Expr}{body:List Stmt}{tc:TT}{tb:TS}(hp:PassesOwn (model X.prog X.w) X.A X.env X.xe) (hc:PT X c tc) (hb:PSs X body tb):PS X (.While c body [] pos) (zNF tc tb):=by
 intro jP s σ H D I h;obtain⟨W,⟨m0,w0⟩,turn⟩:=h;refine wpAny_While (codeAny_whileLoop (λ n s'=>∃σ' H',Inv X jP σ' H' s'/\W n σ' H') ?_ m0 ⟨σ,H,I,w0⟩);rintro n s1 ⟨σ1,H1,I1,w1⟩;refine wpAny_passesOwn hp (thn (hc jP s1 σ1 H1 _ I1 (turn n σ1 H1 w1)) λ b s2 ⟨H2,I2,q2⟩=>?_);cases b with
 |true =>
  obtain⟨N,hN,q2⟩:=q2;rw[if_pos rfl];refine wpAny_passesOwn hp (thn (hb jP s2 σ1 H2 _ I2 q2) λ f s3 q3=>?_);cases f with
  |next =>
   obtain⟨σ3,H3,I3,n3⟩:=q3;obtain⟨m',hm,w3⟩:=hN σ3 H3 n3;exact⟨m',hm,σ3,H3,I3,w3⟩
  |cont =>
   obtain⟨σ3,H3,I3,n3⟩:=q3;obtain⟨m',hm,w3⟩:=hN σ3 H3 n3;exact⟨m',hm,σ3,H3,I3,w3⟩
  |brk=>exact q3
  |ret v=>exact q3
 |false =>
  rw[if_neg Bool.false_ne_true];exact wpAny_execs_nil ⟨σ1,H2,I2,q2⟩
end
structure It where
 go:Nat->Hp->Prop
 yld:Nat->Hp->V->Hp->Prop
 stop:Nat->Hp->Prop
def FpOk (X:Cx) (jP:List (Addr × Obj)) (H:Hp) (b:Addr):Prop :=
 H b=none/\b≠X.env.locals/\b∉X.fs/\(b∈X.ex\/X.s₀.heap.objs.size<=b)/\(∀x c,X.env.cells.lookup x=some c->c≠b)/\∀p∈X.pn++jP,p.1≠b
theorem Inv.fpOk {X:Cx}{jP:List (Addr × Obj)}{σ:St}{H H':Hp}{s:Shared}{b:Addr}(I:Inv X jP σ H s) (hb:s.heap.objs.size<=b) (hn:H' b=none):FpOk X jP H' b:=by
 refine⟨hn,Nat.ne_of_gt (lZ I.lt hb),I.nofs hb,.inr (mG I.sz hb),λ x c e z=>?_,λ p hp z=>?_⟩
 ·obtain⟨v,q⟩:=I.cell x c e
  exact absurd (lZ q.lt (by rw[z];exact hb)) (Nat.lt_irrefl _)
 ·exact absurd (lZ (lI (I.pin p hp).1) (by rw[z];exact hb)) (Nat.lt_irrefl _)
structure Turn (P:Program) (w:World) (K:W.Frag) (tg:Expr) (J:It) (fp:List Addr) (it:Addr) (tn:Nat->Heap->Prop):Prop where
 mem:it∈fp
 obj:∀i h,tn i h->∀b∈fp,∃o,h.get? b=some o/\∀v,o.data ≠ .cell v
 keep:∀i h h',tn i h->(∀b∈fp,∀o,h.get? b=some o->h'.get? b=some o)->tn i h'
 item:∀(X:Cx),X.prog=P->X.w=w->X.K=K->X.calm=true->∀(i:Nat) (jP:List (Addr × Obj)) (s:Shared) (σ:St) (H:Hp) (E:XQ),Inv X jP σ H s->(∀b∈fp,FpOk X jP H b)->tn i s.heap->J.go i H ->
  wpAny (model P w) X.A (pyNext (.ref it)) (λ r s1=>∃u,r=some u /\
   wpAny (model P w) X.A (letOwnedTupleGo tg (.ref it) u) (λ Ω s2=>∃x H',Inv X jP σ H' s2/\RelV x u/\J.yld i H x H'/\tn (i+1) s2.heap/\∀b∈fp,H' b=none) E s1) E s
 done:∀(X:Cx),X.prog=P->X.w=w->X.K=K->X.calm=true->∀(i:Nat) (jP:List (Addr × Obj)) (s:Shared) (σ:St) (H:Hp) (E:XQ),Inv X jP σ H s->(∀b∈fp,FpOk X jP H b)->tn i s.heap->J.stop i H ->
  wpAny (model P w) X.A (pyNext (.ref it)) (λ r s1=>r=none/\Inv X jP σ H s1) E s
 self:∀(A:Around) (i:Nat) (s:Shared) (Q:XQ) (E:XQ),tn i s.heap->Q (.ref it) s->wpAny (model P w) A (pyIter (.ref it)) Q E s
abbrev TI:=St->Hp->(It->Hp->Prop)->Prop
def PIE (X:Cx) (jP:List (Addr × Obj)) (σ:St) (tg:Expr) (R:It->Hp->Prop) (itv:Value) (s2:Shared):Prop :=
 ∃(it:Addr) (fp:List Addr) (tn:Nat->Heap->Prop) (J:It) (H':Hp),itv = .ref it/\Inv X jP σ H' s2/\Turn X.prog X.w X.K tg J fp it tn/\tn 0 s2.heap/\(∀b∈fp,FpOk X jP H' b)/\R J H'
def PI (X:Cx) (tg iter:Expr) (wi:TI):Prop :=
 ∀(jP:List (Addr × Obj)) (s:Shared) (σ:St) (H:Hp) (R:It->Hp->Prop),Inv X jP σ H s->wi σ H R ->
  wpAny (model X.prog X.w) X.A (eval iter X.env) (λ v s1=>wpAny (model X.prog X.w) X.A (pyIter v) (PIE X jP σ tg R) X.xe s1) X.xe s
theorem go_of {M:Model}{A:Around}{E:XQ}{s:Shared}{tg:Expr}{it:Addr}{u:Value}{o:Obj}{n:String}{vs:Array Value}{Q:Unit->Shared->Prop}(ho:s.heap.get? it=some o) (hc:o.cls = .type n) (hd:o.data = .fields vs)
    (hn:["enumerate", "zip", "dict_itemiterator", "dict_reverseitemiterator", "odict_iterator", "itertools.zip_longest", "itertools.pairwise"].contains n=false) (hQ:Q () s):wpAny M A (letOwnedTupleGo tg (.ref it) u) Q E s:=by
  unfold letOwnedTupleGo
  cases tg<;>first
    |exact lB hQ
    | (cases u<;>first
        |exact lB hQ
        | (refine lA (wpAny_load ho ?_)
           rw[hc,hd];show wpAny M A (if (["enumerate", "zip", "dict_itemiterator", "dict_reverseitemiterator", "odict_iterator", "itertools.zip_longest", "itertools.pairwise"].contains n && vs[0]? == some (rawInt _))=true then _ else _) Q E s;rw[if_neg (by intro h;rw[hn,Bool.false_and] at h;cases h)];exact lB hQ))
noncomputable def Itl (K:W.Frag) (a:Addr):It :=
 ⟨λ i H=>∃xs x,SqL K H a xs/\xs[i]?=some x,λ i H x H'=>H'=H/\∀xs,SqL K H a xs->xs[i]?=some x,λ i H=>∃xs,SqL K H a xs/\xs.length<=i⟩
noncomputable def Itt (K:W.Frag) (a:Addr):It :=
 ⟨λ i H=>∃xs x,SqT K H a xs/\xs[i]?=some x,λ i H x H'=>H'=H/\∀xs,SqT K H a xs->xs[i]?=some x,λ i H=>∃xs,SqT K H a xs/\xs.length<=i⟩
noncomputable def Itr (lo:Int) (n:Nat):It:=⟨λ i Ω=>i<n,λ i H x H'=>H'=H/\x = .int (lo+i),λ i Ω=>n<=i⟩
theorem zIW {P:Program}{w:World}{K:W.Frag}{tg:Expr}(a it:Addr):Turn P w K tg (Itl K a) [it] it (λ i h=>h.IsListIter it a i) where
 mem:=by simp
 obj:=λ i h st b hb=>by
  have e:b=it:=by simpa using hb
  subst e;obtain⟨o,e,c,d⟩:=st;exact⟨o,e,λ v z=>by rw[d] at z;cases z⟩
 keep:=λ i h h' st k=>st.at λ o e=>k it (by simp) o e
 item:=by
  intro X hP hw hK hc i jP s σ H E I hf st hg;subst hP hw hK;obtain⟨xs,x,hq,hx⟩:=hg;obtain⟨its,rv,p,hz⟩:=I.list hq;obtain⟨u,hu,ru⟩:=rv.get hx;obtain⟨f0,f1,f2,f3,f4,f5⟩:=hf it (by simp);refine wpAny_pyNext_list_item st p.isList (x:=u) (by simpa using hu) λ h' st' sb=>?_;have I1:Inv X jP σ H { s with heap:=h' }:=I.turned (t':=s.toks) (λ b o hb e=>(sb.2 b hb).trans e) f0 f1 f3 f4 f5;obtain⟨o,e,c,d⟩:=id st';exact⟨u,rfl,go_of (s:={ s with heap:=h' }) e c d (by decide) ⟨x,H,I1,ru,⟨rfl,λ ys hy=>by rw[I.list_inj hy hq];exact hx⟩,st',λ b hb=>(hf b hb).1⟩⟩
 done:=by
  intro X hP hw hK hc i jP s σ H E I hf st hg;subst hP hw hK;obtain⟨xs,hq,hx⟩:=hg;obtain⟨its,rv,p,hz⟩:=I.list hq;obtain⟨f0,f1,f2,f3,f4,f5⟩:=hf it (by simp);have hl:=rv.length;exact wpAny_pyNext_list_end (I.ok.hd hc) st p.isList (by simp;omega) λ h' eb=>⟨rfl,I.turned (t':=s.toks) (λ b o hb e=>eb b o hb e) f0 f1 f3 f4 f5⟩
 self:=λ Ω Ω Ω Ω Ω st h=>wpAny_pyIter_listiter st h
theorem zHx {P:Program}{w:World}{K:W.Frag}{tg:Expr}(a it:Addr):Turn P w K tg (Itt K a) [it] it (λ i h=>h.IsTupleIter it a i) where
 mem:=by simp
 obj:=λ i h st b hb=>by
  have e:b=it:=by simpa using hb
  subst e;obtain⟨o,e,c,d⟩:=st;exact⟨o,e,λ v z=>by rw[d] at z;cases z⟩
 keep:=λ i h h' st k=>st.at λ o e=>k it (by simp) o e
 item:=by
  intro X hP hw hK hc i jP s σ H E I hf st hg;subst hP hw hK;obtain⟨xs,x,hq,hx⟩:=hg;obtain⟨its,rv,p,hz⟩:=I.tuple hq;obtain⟨u,hu,ru⟩:=rv.get hx;obtain⟨f0,f1,f2,f3,f4,f5⟩:=hf it (by simp);refine wpAny_pyNext_tuple_item st (show s.heap.IsTuple a its.toArray from p) (x:=u) (by simpa using hu) λ h' st' sb=>?_;have I1:Inv X jP σ H { s with heap:=h' }:=I.turned (t':=s.toks) (λ b o hb e=>(sb.2 b hb).trans e) f0 f1 f3 f4 f5;obtain⟨o,e,c,d⟩:=id st';exact⟨u,rfl,go_of (s:={ s with heap:=h' }) e c d (by decide) ⟨x,H,I1,ru,⟨rfl,λ ys hy=>by rw[I.tuple_inj hy hq];exact hx⟩,st',λ b hb=>(hf b hb).1⟩⟩
 done:=by
  intro X hP hw hK hc i jP s σ H E I hf st hg;subst hP hw hK;obtain⟨xs,hq,hx⟩:=hg;obtain⟨its,rv,p,hz⟩:=I.tuple hq;obtain⟨f0,f1,f2,f3,f4,f5⟩:=hf it (by simp);have hl:=rv.length;exact wpAny_pyNext_tuple_end (I.ok.hd hc) st (show s.heap.IsTuple a its.toArray from p) (by simp;omega) λ h' eb=>⟨rfl,I.turned (t':=s.toks) (λ b o hb e=>eb b o hb e) f0 f1 f3 f4 f5⟩
 self:=λ Ω Ω Ω Ω Ω st h=>wpAny_pyIter_tupleiter st h
theorem zHy {P:Program}{w:World}{K:W.Frag}{tg:Expr}(it:Addr) (lo:Int) (n:Nat):Turn P w K tg (Itr lo n) [it] it (λ i h=>IsRangeIter h it (lo+(i:Nat) * 1) ((n:Int) - (i:Nat)) 1) where
 mem:=by simp
 obj:=λ i h st b hb=>by
  have e:b=it:=by simpa using hb
  subst e
  exact⟨_,st,λ v z=>by
   have z':Data.fields _=Data.cell v:=z;cases z'⟩
 keep:=λ i h h' st k=>k it (by simp) _ st
 item:=by
  intro X hP hw hK hc i jP s σ H E I hf st hg;subst hP hw hK;obtain⟨f0,f1,f2,f3,f4,f5⟩:=hf it (by simp);have W:=Walks.range (prog:=X.prog) (w:=X.w) (I.ok.hd hc) it lo 1 n;refine W.item i s _ _ hg st λ v h' tk hv st' kk=>?_;obtain⟨t,rfl⟩:=hv;have I1:Inv X jP σ H { s with heap:=h',toks:=tk }:=I.turned (λ b o hb e=>kk b o (by simpa using hb) e) f0 f1 f3 f4 f5;refine⟨_,rfl,go_of (s:={ s with heap:=h',toks:=tk }) (n := "range_iterator") st' rfl rfl (by decide) ⟨.int (lo+i),H,I1,⟨t,?_⟩,⟨rfl,rfl⟩,st',λ b hb=>(hf b hb).1⟩⟩;rw[Int.mul_one]
 done:=by
  intro X hP hw hK hc i jP s σ H E I hf st hg;subst hP hw hK;obtain⟨f0,f1,f2,f3,f4,f5⟩:=hf it (by simp);exact wpAny_pyNext_range_end (I.ok.hd hc) st (by have:n<=i:=hg;omega) λ h' eb=>⟨rfl,I.turned (t':=s.toks) (λ b o hb e=>eb b o hb e) f0 f1 f3 f4 f5⟩
 self:=λ Ω Ω Ω Ω Ω st h=>wpAny_pyIter_rangeiter st h
section
variable {X:Cx}{tg:Expr}
def iList (K:W.Frag) (tl:TE):TI:=λ σ H R=>tl σ H λ x H1=>∃a,x = .ref a/\(∃xs,SqL K H1 a xs)/\R (Itl K a) H1
def iTup (K:W.Frag) (tl:TE):TI:=λ σ H R=>tl σ H λ x H1=>∃a,x = .ref a/\(∃xs,SqT K H1 a xs)/\R (Itt K a) H1
theorem zAf {l:Expr}{tl:TE}(hl:PE X l tl):PI X tg l (iList X.K tl):=by
 intro jP s σ H R I h;refine thn (hl jP s σ H _ I h) λ v s1 ⟨x,H1,I1,r1,q1⟩=>?_;obtain⟨a,e,⟨xs,hq⟩,q⟩:=q1;subst e;cases r1;obtain⟨its,rv,p,hz⟩:=I1.list hq;refine wpAny_pyIter_list p.isList ?_;refine⟨s1.heap.objs.size,[s1.heap.objs.size],_,_,H1,rfl,I1.kept (t':=s1.toks) λ b o e=>lG _ e,zIW a _,⟨_,lH _ rfl,rfl,rfl⟩,λ b hb=>?_,q⟩;have e:b=s1.heap.objs.size:=by simpa using hb
 subst e;exact I1.fpOk (lQ _) (I1.hok.fresh (lQ _))
theorem zBm {l:Expr}{tl:TE}(hl:PE X l tl):PI X tg l (iTup X.K tl):=by
 intro jP s σ H R I h;refine thn (hl jP s σ H _ I h) λ v s1 ⟨x,H1,I1,r1,q1⟩=>?_;obtain⟨a,e,⟨xs,hq⟩,q⟩:=q1;subst e;cases r1;obtain⟨its,rv,p,hz⟩:=I1.tuple hq;refine wpAny_pyIter_tuple (show s1.heap.IsTuple a its.toArray from p) ?_;refine⟨s1.heap.objs.size,[s1.heap.objs.size],_,_,H1,rfl,I1.kept (t':=s1.toks) λ b o e=>lG _ e,zHx a _,⟨_,lH _ rfl,rfl,rfl⟩,λ b hb=>?_,q⟩;have e:b=s1.heap.objs.size:=by simpa using hb
 subst e;exact I1.fpOk (lQ _) (I1.hok.fresh (lQ _))
theorem zKT {jP:List (Addr × Obj)}{σ:St}{H:Hp}{s:Shared}{R:It->Hp->Prop}{E:XQ}{lo hi:Int}{t u v:Tok}{tk:Nat}(I:Inv X jP σ H s) (h1:-(2 ^ 62)<=lo) (h2:lo<2 ^ 62) (h3:-(2 ^ 62)<=hi) (h4:hi<2 ^ 62)
  (q:R (Itr lo (hi - lo).toNat) H):wpAny (model X.prog X.w) X.A (pyIter (.ref s.heap.objs.size)) (PIE X jP σ tg R) E { s with heap:=s.heap.push { cls:=.type "range", data:=.fields #[.int lo t,.int hi u,.int 1 v] },toks:=tk }:=by
 refine wpAny_pyIter_range (IsRange.new ..) (small_one h1 h2 h3 h4) ?_;have I1:Inv X jP σ H { s with heap:=s.heap.push { cls:=.type "range", data:=.fields #[.int lo t,.int hi u,.int 1 v] },toks:=tk }:=I.kept λ b o e=>lG _ e
 refine⟨(s.heap.push { cls:=.type "range", data:=.fields #[.int lo t,.int hi u,.int 1 v] }).objs.size,[(s.heap.push { cls:=.type "range", data:=.fields #[.int lo t,.int hi u,.int 1 v] }).objs.size],_,_,H,rfl,
  I1.kept (t':=tk) λ b o e=>lG _ e,zHy _ lo (hi - lo).toNat,?_,λ b hb=>?_,q⟩
 ·have e1:lo+((0:Nat):Int) * 1=lo:=by simp
  have e2:(((hi - lo).toNat:Nat):Int) - ((0:Nat):Int)=Builtin.Range.rangeSize lo hi 1:=by rw[rangeSize_one];split<;>omega
  show IsRangeIter _ _ (lo+((0:Nat):Int) * 1) ((((hi - lo).toNat:Nat):Int) - ((0:Nat):Int)) 1;rw[e1,e2];exact lH _ rfl
 ·have e:b=(s.heap.push { cls:=.type "range", data:=.fields #[.int lo t,.int hi u,.int 1 v] }).objs.size:=by simpa using hb
  subst e;exact I1.fpOk (lQ _) (I1.hok.fresh (lQ _))
def iRng1 (ta:TA):TI:=λ σ H R=>ta σ H λ vs H1=>∃j:Int,vs=[.int j] /\ -(2 ^ 62)<=j/\j<2 ^ 62/\R (Itr 0 j.toNat) H1
theorem zEW {a:Expr}{ta:TA}{p pos:Pos}(hg:Gl X "range") (hm:X.mg "range" = none) (ha:PA X [a] ta) (hs:starEach [a] X.env=[(false,eval a X.env)]:=by rfl):PI X tg (.Call (.Name "range" p) [a] [] pos) (iRng1 ta):=by
 intro jP s σ H R I h;refine Call_ (zCl I hg hm boot_range (PyProof.Rows.callWith_type1 (thn (ha pos jP s σ H _ I h) λ us s1 ⟨vs,H1,I1,r1,q1⟩=>?_) hs rfl));obtain⟨j,e,q1,q2,q⟩:=q1;subst e;cases r1 with
 |cons r rr =>
  cases rr;obtain⟨t,rfl⟩:=r;exact call_range_1 (zKT I1 (by omega) (by omega) q1 q2 (by simpa using q))
def tFor (wi:TI) (g:TG) (tb:TS):TS:=λ D σ H=>wi σ H λ J H1=>∃W:Nat->Nat->St->Hp->Prop,(∃m,W 0 m σ H1)/\∀i m σ H,W i m σ H ->
 (J.stop i H/\D.nx σ H)\/(J.go i H/\∃N:St->Hp->Prop,(∀σ' H',N σ' H'->∃m',m'<m/\W (i+1) m' σ' H')/\∀x H',J.yld i H x H'->g x σ H' λ σ2 H2=>tb { D with nx:=N,ct:=N,bk:=D.nx } σ2 H2)
noncomputable def zEV (fp:List Addr) (h:Heap):List (Addr × Obj):=fp.filterMap λ b=>(h.get? b).map λ o=>(b,o)
theorem zBN {fp:List Addr}{h:Heap}{b:Addr}{o:Obj}(hb:b∈fp) (e:h.get? b=some o):(b,o)∈zEV fp h:=List.mem_filterMap.mpr ⟨b,hb,by rw[e];rfl⟩
theorem zJG {fp:List Addr}{h:Heap}{p:Addr × Obj}(hp:p∈zEV fp h):p.1∈fp/\h.get? p.1=some p.2:=by
 obtain⟨b,hb,e⟩:=List.mem_filterMap.mp hp;cases q:h.get? b with
 |none=>rw[q] at e;cases e
 |some o =>
  rw[q] at e;have e':(b,o)=p:=mE e;subst e';exact⟨hb,q⟩
theorem Inv.pinned {jP:List (Addr × Obj)}{σ:St}{H:Hp}{s:Shared}{fp:List Addr}(I:Inv X jP σ H s) (hf:∀b∈fp,FpOk X jP H b) (ho:∀b∈fp,∃o,s.heap.get? b=some o/\∀v,o.data ≠ .cell v):Inv X (jP++zEV fp s.heap) σ H s :=
 I.pins_of λ p hp=>(lK.mp hp).elim (λ z=>I.pin p (mB _ z)) λ z=>by
  obtain⟨hb,e⟩:=zJG z;obtain⟨f0,f1,f2,_⟩:=hf p.1 hb;obtain⟨o,e',d⟩:=ho p.1 hb;rw[e] at e';cases e';exact⟨e,f0,f1,f2,d⟩
theorem Inv.unpinned {jP pl:List (Addr × Obj)}{σ:St}{H:Hp}{s:Shared}(I:Inv X (jP++pl) σ H s):Inv X jP σ H s:=I.pins_of λ p hp=>I.pin p (mB _ (mF _ hp))
theorem zAv {iter:Expr}{body:List Stmt}{wi:TI}{g:TG}{tb:TS}{pos:Pos}(hp:PassesOwn (model X.prog X.w) X.A X.env X.xe) (hc:X.calm=true) (hi:PI X tg iter wi) (hg:PG X tg g) (hb:PSs X body tb)
  (hs:∀x,foldedSetIterable iter X.env x=pure x:=by intro _;rfl):PS X (.For tg iter body [] pos) (tFor wi g tb):=by
 intro jP s σ H D I h;refine wpAny_For (thn (hi jP s σ H _ I h) λ v s1 h1=>thn h1 λ itv s2 h2=>?_) hs;obtain⟨it,fp,tn,J,H2,e,I2,T,st2,f2,W,⟨m0,w0⟩,turn⟩:=h2;subst e;have stat:∀{H':Hp},(∀b∈fp,H' b=none)->∀b∈fp,FpOk X jP H' b:=λ hn b hb=>⟨hn b hb,(f2 b hb).2⟩;refine codeAny_forLoop_any (λ n s'=>∃i σ' H',Inv X jP σ' H' s'/\tn i s'.heap/\(∀b∈fp,H' b=none)/\W i n σ' H') ?_ m0 ⟨0,σ,H2,I2,st2,λ b hb=>(f2 b hb).1,w0⟩;rintro n s3 ⟨i,σ3,H3,I3,st3,fr3,w3⟩;rcases turn i n σ3 H3 w3 with ⟨stop,qn⟩|⟨go,N,hN,step⟩
 ·refine wpAny_passesOwn hp (thn (T.done X rfl rfl rfl hc i jP s3 σ3 H3 X.xe I3 (stat fr3) st3 stop) λ r s4 ⟨hr,I4⟩=>?_)
  subst hr;exact wpAny_execs_nil ⟨σ3,H3,I4,qn⟩
 ·refine wpAny_passesOwn hp (thn (T.item X rfl rfl rfl hc i jP s3 σ3 H3 X.xe I3 (stat fr3) st3 go) λ r s4 ⟨u,hr,h4⟩=>?_)
  subst hr;refine wpAny_passesOwn hp (thn h4 λ _ s5 ⟨x,H5,I5,r5,y5,st5,fr5⟩=>?_);have I5':=I5.pinned (stat fr5) (T.obj _ _ st5);refine wpAny_passesOwn hp (thn (hg _ s5 σ3 H5 x u _ I5' r5 (step x H5 y5)) λ _ s6 ⟨σ6,H6,I6,q6⟩=>?_);refine wpAny_passesOwn hp (thn (hb _ s6 σ6 H6 _ I6 q6) λ f s7 q7=>?_)
  have again:∀{σ7:St}{H7:Hp},Inv X (jP++zEV fp s5.heap) σ7 H7 s7->N σ7 H7->∃m,m<n/\∃i σ' H',Inv X jP σ' H' s7/\tn i s7.heap/\(∀b∈fp,H' b=none)/\W i m σ' H':=λ{σ7 H7} I7 n7=>by
   obtain⟨m',hm,w7⟩:=hN σ7 H7 n7;refine⟨m',hm,i+1,σ7,H7,I7.unpinned,T.keep _ _ _ st5 λ b hb o e=>(I7.pin (b,o) (mB _ (mB _ (zBN hb e)))).1,λ b hb=>?_,w7⟩;obtain⟨o,e,d⟩:=T.obj _ _ st5 b hb;exact(I7.pin (b,o) (mB _ (mB _ (zBN hb e)))).2.1
  cases f with
  |next=>obtain⟨σ7,H7,I7,n7⟩:=q7;exact again I7 n7
  |cont=>obtain⟨σ7,H7,I7,n7⟩:=q7;exact again I7 n7
  |brk=>obtain⟨σ7,H7,I7,q7⟩:=q7;exact⟨σ7,H7,I7.unpinned,q7⟩
  |ret v=>obtain⟨x7,σ7,H7,I7,r7,q7⟩:=q7;exact⟨x7,σ7,H7,I7.unpinned,r7,q7⟩
end
theorem zA1 {K:W.Frag}{a:Addr}{xs:List V}{g:TG}{tb:TS}{D:Ends}{σ:St}{H:Hp}(Pv:Nat->St->Hp->Prop) (h0:Pv 0 σ H) (hl:∀i σ H,i<=xs.length->Pv i σ H->SqL K H a xs)
  (hs:∀i x σ H,xs[i]?=some x->Pv i σ H->g x σ H λ σ2 H2=>tb { D with nx:=Pv (i+1),ct:=Pv (i+1),bk:=D.nx } σ2 H2) (hd:∀σ H,Pv xs.length σ H->D.nx σ H) :
  ∃W:Nat->Nat->St->Hp->Prop,(∃m,W 0 m σ H)/\∀i m σ H,W i m σ H ->
   ((Itl K a).stop i H/\D.nx σ H)\/((Itl K a).go i H/\∃N:St->Hp->Prop,(∀σ' H',N σ' H'->∃m',m'<m/\W (i+1) m' σ' H')/\∀x H',(Itl K a).yld i H x H'->g x σ H' λ σ2 H2=>tb { D with nx:=N,ct:=N,bk:=D.nx } σ2 H2):=by
 refine⟨λ i m σ H=>m=xs.length - i/\i<=xs.length/\Pv i σ H,⟨xs.length,by simp,lY _,h0⟩,?_⟩;rintro i m σ H ⟨rfl,hi,p⟩;have q:=hl i σ H hi p
 by_cases hlt:i<xs.length
 ·refine .inr ⟨⟨xs,xs[i],q,by simp[hlt]⟩,Pv (i+1),λ σ' H' p'=>⟨xs.length - (i+1),by omega,rfl,hlt,p'⟩,λ x H' y=>?_⟩
  obtain⟨e,y⟩:=y;subst e;exact hs i x σ _ (y xs q) p
 ·have e:i=xs.length:=by omega
  subst e;exact .inl ⟨⟨xs,q,lQ _⟩,hd σ H p⟩
theorem zC5 {K:W.Frag}{a:Addr}{xs:List V}{g:TG}{tb:TS}{D:Ends}{σ:St}{H:Hp}(Pv:Nat->St->Hp->Prop) (h0:Pv 0 σ H) (hl:∀i σ H,i<=xs.length->Pv i σ H->SqT K H a xs)
  (hs:∀i x σ H,xs[i]?=some x->Pv i σ H->g x σ H λ σ2 H2=>tb { D with nx:=Pv (i+1),ct:=Pv (i+1),bk:=D.nx } σ2 H2) (hd:∀σ H,Pv xs.length σ H->D.nx σ H) :
  ∃W:Nat->Nat->St->Hp->Prop,(∃m,W 0 m σ H)/\∀i m σ H,W i m σ H ->
   ((Itt K a).stop i H/\D.nx σ H)\/((Itt K a).go i H/\∃N:St->Hp->Prop,(∀σ' H',N σ' H'->∃m',m'<m/\W (i+1) m' σ' H')/\∀x H',(Itt K a).yld i H x H'->g x σ H' λ σ2 H2=>tb { D with nx:=N,ct:=N,bk:=D.nx } σ2 H2):=by
 refine⟨λ i m σ H=>m=xs.length - i/\i<=xs.length/\Pv i σ H,⟨xs.length,by simp,lY _,h0⟩,?_⟩;rintro i m σ H ⟨rfl,hi,p⟩;have q:=hl i σ H hi p
 by_cases hlt:i<xs.length
 ·refine .inr ⟨⟨xs,xs[i],q,by simp[hlt]⟩,Pv (i+1),λ σ' H' p'=>⟨xs.length - (i+1),by omega,rfl,hlt,p'⟩,λ x H' y=>?_⟩
  obtain⟨e,y⟩:=y;subst e;exact hs i x σ _ (y xs q) p
 ·have e:i=xs.length:=by omega
  subst e;exact .inl ⟨⟨xs,q,lQ _⟩,hd σ H p⟩
theorem zGO {lo:Int}{n:Nat}{g:TG}{tb:TS}{D:Ends}{σ:St}{H:Hp}(Pv:Nat->St->Hp->Prop) (h0:Pv 0 σ H)
  (hs:∀i σ H,i<n->Pv i σ H->g (.int (lo+i)) σ H λ σ2 H2=>tb { D with nx:=Pv (i+1),ct:=Pv (i+1),bk:=D.nx } σ2 H2) (hd:∀σ H,Pv n σ H->D.nx σ H) :
  ∃W:Nat->Nat->St->Hp->Prop,(∃m,W 0 m σ H)/\∀i m σ H,W i m σ H ->
   ((Itr lo n).stop i H/\D.nx σ H)\/((Itr lo n).go i H/\∃N:St->Hp->Prop,(∀σ' H',N σ' H'->∃m',m'<m/\W (i+1) m' σ' H')/\∀x H',(Itr lo n).yld i H x H'->g x σ H' λ σ2 H2=>tb { D with nx:=N,ct:=N,bk:=D.nx } σ2 H2):=by
 refine⟨λ i m σ H=>m=n - i/\i<=n/\Pv i σ H,⟨n,by simp,lY _,h0⟩,?_⟩;rintro i m σ H ⟨rfl,hi,p⟩
 by_cases hlt:i<n
 ·refine .inr ⟨hlt,Pv (i+1),λ σ' H' p'=>⟨n - (i+1),by omega,rfl,hlt,p'⟩,λ x H' y=>?_⟩
  obtain⟨e,y⟩:=y;subst e y;exact hs i σ _ hlt p
 ·have e:i=n:=by omega
  subst e;exact .inl ⟨lQ _,hd σ H p⟩
abbrev R2:=V->V->Hp->VK->Prop
def OpR (X:Cx) (f:Value->Value->Sem Value) (r:R2):Prop :=
 ∀(jP:List (Addr × Obj)) (s:Shared) (σ:St) (H:Hp) (x y:V) (v u:Value) (Q:VK),Inv X jP σ H s->RelV x v->RelV y u->r x y H Q ->
  wpAny (model X.prog X.w) X.A (f v u) (EP X jP σ Q) X.xe s
def CallR (X:Cx) (f:Value) (r:List V->Hp->VK->Prop):Prop :=
 ∀(jP:List (Addr × Obj)) (s:Shared) (σ:St) (H:Hp) (xs:List V) (us:List Value) (Q:VK),Inv X jP σ H s->Vals xs us->r xs H Q ->
  wpAny (model X.prog X.w) X.A (call f us) (EP X jP σ Q) X.xe s
def TruR (X:Cx) (r:V->Hp->(Bool->Hp->Prop)->Prop):Prop :=
 ∀(jP:List (Addr × Obj)) (s:Shared) (σ:St) (H:Hp) (x:V) (v:Value) (Q:Bool->Hp->Prop),Inv X jP σ H s->RelV x v->r x H Q ->
  wpAny (model X.prog X.w) X.A (truthy v) (TP X jP σ Q) X.xe s
def tOp (r:R2) (ta tb:TE):TE:=λ σ H Q=>ta σ H λ x H1=>tb σ H1 λ y H2=>r x y H2 Q
inductive rI (C:Int->Int->Prop) (g:Int->Int->V) (x y:V) (H:Hp) (Q:VK):Prop
 |mk (i j:Int) (hx:x = .int i) (hy:y = .int j) (c:C i j) (q:Q (g i j) H)
inductive rI0 (g:Int->Int->V) (x y:V) (H:Hp) (Q:VK):Prop
 |mk (i j:Int) (hx:x = .int i) (hy:y = .int j) (q:Q (g i j) H)
section
variable {X:Cx}{a b c:Expr}{ta tb tc:TE}{pos:Pos}
theorem binT (ha:PE X a ta) (hb:PE X b tb) {jP:List (Addr × Obj)}{s:Shared}{σ:St}{H:Hp}{R:V->V->Hp->Prop}(I:Inv X jP σ H s)
  (h:ta σ H λ x H1=>tb σ H1 λ y H2=>R x y H2) {Q:XQ}{f:Value->Value->Sem Value}
  (hf:∀v u s2 x y H2,Inv X jP σ H2 s2->RelV x v->RelV y u->R x y H2->wpAny (model X.prog X.w) X.A (f v u) Q X.xe s2) :
  wpAny (model X.prog X.w) X.A (eval a X.env) (λ v s₁=>wpAny (model X.prog X.w) X.A (eval b X.env) (λ u s₂=>wpAny (model X.prog X.w) X.A (f v u) Q X.xe s₂) X.xe s₁) X.xe s:=by
 refine thn (ha jP s σ H _ I h) λ v s1 ⟨x,H1,I1,r1,q1⟩=>?_;refine thn (hb jP s1 σ H1 _ I1 q1) λ u s2 ⟨y,H2,I2,r2,q2⟩=>?_;exact hf v u s2 x y H2 I2 r1 r2 q2
theorem pe_op {op:Operator}{r:R2}(ho:OpR X (binaryOp op) r) (ha:PE X a ta) (hb:PE X b tb):PE X (.BinOp a op b pos) (tOp r ta tb):=by
 intro jP s σ H Q I h;exact wpAny_BinOp (binT ha hb I h λ v u s2 x y H2 I2 rx ry q=>ho jP s2 σ H2 x y v u Q I2 rx ry q)
theorem opI {f:Value->Value->Sem Value}{C:Int->Int->Prop}{g:Int->Int->Int}
  (rule:∀(i j:Int) (t u:Tok) (s:Shared) (Q:XQ) (E:XQ),C i j->Q (.int (g i j) s.toks) { s with toks:=s.toks+1 }->wpAny (model X.prog X.w) X.A (f (.int i t) (.int j u)) Q E s) :
  OpR X f (rI C λ i j=>.int (g i j)):=by
 intro jP s σ H x y v u Q I rx ry h;obtain⟨i,j,rfl,rfl,hc,q⟩:=h;obtain⟨t,rfl⟩:=rx;obtain⟨t',rfl⟩:=ry;exact rule i j t t' s _ _ hc ⟨.int (g i j),H,I.tok _,⟨_,rfl⟩,q⟩
theorem opI0 {f:Value->Value->Sem Value}{g:Int->Int->Int}
  (rule:∀(i j:Int) (t u:Tok) (s:Shared) (Q:XQ) (E:XQ),Q (.int (g i j) s.toks) { s with toks:=s.toks+1 }->wpAny (model X.prog X.w) X.A (f (.int i t) (.int j u)) Q E s) :
  OpR X f (rI0 λ i j=>.int (g i j)):=by
 intro jP s σ H x y v u Q I rx ry h;obtain⟨i,j,rfl,rfl,q⟩:=h;obtain⟨t,rfl⟩:=rx;obtain⟨t',rfl⟩:=ry;exact rule i j t t' s _ _ ⟨.int (g i j),H,I.tok _,⟨_,rfl⟩,q⟩
theorem opB0 {f:Value->Value->Sem Value}{g:Int->Int->Bool}
  (rule:∀(i j:Int) (t u:Tok) (s:Shared) (Q:XQ) (E:XQ),Q (.bool (g i j)) s->wpAny (model X.prog X.w) X.A (f (.int i t) (.int j u)) Q E s) :
  OpR X f (rI0 λ i j=>.bl (g i j)):=by
 intro jP s σ H x y v u Q I rx ry h;obtain⟨i,j,rfl,rfl,q⟩:=h;obtain⟨t,rfl⟩:=rx;obtain⟨t',rfl⟩:=ry;exact rule i j t t' s _ _ ⟨.bl (g i j),H,I,rfl,q⟩
def CDiv (i j:Int):Prop:=0<j/\j<1073741824
def CPow (i j:Int):Prop:=0<=j/\j<=1000000/\i.natAbs<2 ^ 64
def CMul (i j:Int):Prop:=(-(2 ^ 64)<i/\i<2 ^ 64)\/(-(2 ^ 64)<j/\j<2 ^ 64)
theorem CMul.ok {i j:Int}(h:CMul i j):IntMulOk i j:=by
 rcases h with ⟨h1,h2⟩|⟨h1,h2⟩
 ·exact .of_left (intBits_le_64 h1 h2)
 ·exact .of_right (intBits_le_64 h1 h2)
theorem zEb:OpR X (binaryOp .Add) (rI0 λ i j=>.int (i+j)):=opI0 λ Ω Ω Ω Ω Ω Ω Ω q=>add_int q
theorem zGG:OpR X (binaryOp .Sub) (rI0 λ i j=>.int (i - j)):=opI0 λ Ω Ω Ω Ω Ω Ω Ω q=>sub_int q
theorem zGH:OpR X (binaryOp .Mult) (rI CMul λ i j=>.int (i * j)):=opI λ Ω Ω Ω Ω Ω Ω Ω hc q=>mul_int q hc.ok
theorem zA5:OpR X (binaryOp .FloorDiv) (rI CDiv λ i j=>.int (i / j)):=opI λ i j Ω Ω Ω Ω Ω hc q=>by
 have h1:(0:Int)<j:=hc.1;have h2:j<1073741824:=hc.2;exact floordiv_int (by omega) (by rw[Int.fdiv_eq_ediv_of_nonneg i (by omega)];exact q) (.inl (PyProof.noPylong_small (by omega)))
theorem zAu:OpR X (binaryOp .Mod) (rI (λ Ω j=>0<j) λ i j=>.int (i % j)):=opI λ i j Ω Ω Ω Ω Ω hc q=>by
 have h1:(0:Int)<j:=hc;exact mod_int' (by omega) (by rw[Int.fmod_eq_emod_of_nonneg i (by omega)];exact q)
theorem zLk:OpR X (binaryOp .Pow) (rI CPow λ i j=>.int (i ^ j.toNat)):=opI λ Ω Ω Ω Ω Ω Ω Ω hc q=>pow_int_small hc.1 hc.2.1 hc.2.2 q
end
noncomputable def scal:V->V->Bool
 |.non,.non=>true|.non,.int _=>true|.int _,.non=>true|.non,.bl _=>true|.bl _,.non=>true|.non,.str _=>true|.str _,.non=>true
 |.int _,.int _=>true|.bl _,.bl _=>true|.str _,.str _=>true|.byt _,.byt _=>true
 |.int _,.str _=>true|.str _,.int _=>true|.bl _,.str _=>true|.str _,.bl _=>true
 |_,_=>false
def rEq:R2:=λ x y H Q=>scal x y=true/\Q (.bl (decide (x=y))) H
def rNe:R2:=λ x y H Q=>scal x y=true/\Q (.bl (!decide (x=y))) H
theorem zJs {i j:Int}:decide (V.int i=V.int j)=(i == j):=by
 rw[Bool.eq_iff_iff];simp
theorem zLx {i j:Bool}:decide (V.bl i=V.bl j)=(i == j):=by
 rw[Bool.eq_iff_iff];simp
theorem zJr {i j:Str}:decide (V.str i=V.str j)=(i == j):=by
 rw[Bool.eq_iff_iff];simp
theorem zJt {i j:Array UInt8}:decide (V.byt i=V.byt j)=(i.toList == j.toList):=by
 rw[Bool.eq_iff_iff];cases i;cases j;simp
section
variable {X:Cx}{a b c:Expr}{ta tb tc:TE}{pos:Pos}
theorem zAp {jP:List (Addr × Obj)}{σ:St}{H:Hp}{s:Shared}{Q:VK}{k k':Bool}(I:Inv X jP σ H s) (q:Q (.bl k) H) (e:k=k'):EP X jP σ Q (.bool k') s:=by
 subst e;exact⟨.bl k,H,I,rfl,q⟩
theorem op_eq:OpR X (compareOp .Eq) rEq:=by
 intro jP s σ H x y v u Q I rx ry h;obtain⟨hs,q⟩:=h;cases x with
 |non =>
  cases rx;cases y with
  |non=>cases ry;exact PySem.EqNone.eq_none_none (zAp I q (by simp))
  |bl j=>cases ry;exact PySem.EqNone.eq_none_bool (zAp I q (by simp))
  |int j=>obtain⟨t',rfl⟩:=ry;exact PySem.EqNone.eq_none_int (zAp I q (by simp))
  |str j=>obtain⟨t',rfl⟩:=ry;exact PySem.EqNone.eq_none_str (zAp I q (by simp))
  |_=>exact absurd (show false=true from hs) lX
 |bl i =>
  cases rx;cases y with
  |non=>cases ry;exact PySem.EqNone.eq_bool_none (zAp I q (by simp))
  |bl j=>cases ry;exact eq_bool (zAp I q zLx)
  |str j=>obtain⟨t',rfl⟩:=ry;exact PySem.EqMixed.eq_bool_str (zAp I q (by simp))
  |_=>exact absurd (show false=true from hs) lX
 |int i =>
  obtain⟨t,rfl⟩:=rx;cases y with
  |non=>cases ry;exact PySem.EqNone.eq_int_none (zAp I q (by simp))
  |int j=>obtain⟨t',rfl⟩:=ry;exact eq_int (zAp I q zJs)
  |str j=>obtain⟨t',rfl⟩:=ry;exact PySem.EqMixed.eq_int_str (zAp I q (by simp))
  |_=>exact absurd (show false=true from hs) lX
 |str i =>
  obtain⟨t,rfl⟩:=rx;cases y with
  |non=>cases ry;exact PySem.EqNone.eq_str_none (zAp I q (by simp))
  |bl j=>cases ry;exact PySem.EqMixed.eq_str_bool (zAp I q (by simp))
  |int j=>obtain⟨t',rfl⟩:=ry;exact PySem.EqMixed.eq_str_int (zAp I q (by simp))
  |str j=>obtain⟨t',rfl⟩:=ry;exact eq_str (zAp I q zJr)
  |_=>exact absurd (show false=true from hs) lX
 |byt i =>
  obtain⟨t,rfl⟩:=rx;cases y with
  |byt j=>obtain⟨t',rfl⟩:=ry;exact W.eq_bytes (zAp I q zJt)
  |_=>exact absurd (show false=true from hs) lX
 |_=>cases y<;>exact absurd (show false=true from hs) lX
theorem op_ne:OpR X (compareOp .NotEq) rNe:=by
 intro jP s σ H x y v u Q I rx ry h;obtain⟨hs,q⟩:=h;cases x with
 |non =>
  cases rx;cases y with
  |non=>cases ry;exact PySem.EqNone.ne_none_none (zAp I q (by simp))
  |bl j=>cases ry;exact PySem.EqNone.ne_none_bool (zAp I q (by simp))
  |int j=>obtain⟨t',rfl⟩:=ry;exact PySem.EqNone.ne_none_int (zAp I q (by simp))
  |str j=>obtain⟨t',rfl⟩:=ry;exact PySem.EqNone.ne_none_str (zAp I q (by simp))
  |_=>exact absurd (show false=true from hs) lX
 |bl i =>
  cases rx;cases y with
  |non=>cases ry;exact PySem.EqNone.ne_bool_none (zAp I q (by simp))
  |bl j=>cases ry;exact ne_bool (zAp I q (congrArg not zLx))
  |str j=>obtain⟨t',rfl⟩:=ry;exact PySem.EqMixed.ne_bool_str (zAp I q (by simp))
  |_=>exact absurd (show false=true from hs) lX
 |int i =>
  obtain⟨t,rfl⟩:=rx;cases y with
  |non=>cases ry;exact PySem.EqNone.ne_int_none (zAp I q (by simp))
  |int j=>obtain⟨t',rfl⟩:=ry;exact ne_int (zAp I q (congrArg not zJs))
  |str j=>obtain⟨t',rfl⟩:=ry;exact PySem.EqMixed.ne_int_str (zAp I q (by simp))
  |_=>exact absurd (show false=true from hs) lX
 |str i =>
  obtain⟨t,rfl⟩:=rx;cases y with
  |non=>cases ry;exact PySem.EqNone.ne_str_none (zAp I q (by simp))
  |bl j=>cases ry;exact PySem.EqMixed.ne_str_bool (zAp I q (by simp))
  |int j=>obtain⟨t',rfl⟩:=ry;exact PySem.EqMixed.ne_str_int (zAp I q (by simp))
  |str j=>obtain⟨t',rfl⟩:=ry;exact ne_str (zAp I q (congrArg not zJr))
  |_=>exact absurd (show false=true from hs) lX
 |byt i =>
  obtain⟨t,rfl⟩:=rx;cases y with
  |byt j=>obtain⟨t',rfl⟩:=ry;exact W.ne_bytes (zAp I q (congrArg not zJt))
  |_=>exact absurd (show false=true from hs) lX
 |_=>cases y<;>exact absurd (show false=true from hs) lX
theorem op_lt:OpR X (compareOp .Lt) (rI0 λ i j=>.bl (decide (i<j))):=opB0 λ Ω Ω Ω Ω Ω Ω Ω q=>lt_int q
theorem op_le:OpR X (compareOp .LtE) (rI0 λ i j=>.bl (decide (i<=j))):=opB0 λ Ω Ω Ω Ω Ω Ω Ω q=>le_int q
theorem op_gt:OpR X (compareOp .Gt) (rI0 λ i j=>.bl (decide (j<i))):=opB0 λ Ω Ω Ω Ω Ω Ω Ω q=>gt_int q
theorem zMS:OpR X (compareOp .IsNot) (λ x y H Q=>y = .non/\Q (.bl (!decide (x = .non))) H):=by
  intro jP s σ H x y v u Q I rx ry h;obtain⟨rfl,q⟩:=h;cases ry;refine isnot_none_gen (zAp I q ?_)
  cases x<;>first
    | (cases rx;rfl)
    | (obtain⟨t,rfl⟩:=rx;rfl)
theorem zAY (b:Expr) {op:CmpOp}(h:op ≠ .In:=by decide) (h2:op ≠ .NotIn:=by decide):behindInMarks op b=false:=by
 have e1:(op == CmpOp.In)=false:=by cases op<;>first|rfl|exact absurd rfl h
 have e2:(op == CmpOp.NotIn)=false:=by cases op<;>first|rfl|exact absurd rfl h2
 cases b<;>simp[behindInMarks,e1,e2]
theorem zA4 {op:CmpOp}{r:R2}(ho:OpR X (compareOp op) r) (ha:PE X a ta) (hb:PE X b tb) (hm:behindInMarks op b=false):PE X (.Compare a [op] [b] pos) (tOp r ta tb):=by
 intro jP s σ H Q I h;exact wpAny_Compare1 (binT ha hb I h λ v u s2 x y H2 I2 rx ry q=>ho jP s2 σ H2 x y v u Q I2 rx ry q) hm
def tTest (t:TE):TT:=λ σ H Q=>t σ H (IsB Q)
theorem zAO {op:CmpOp}{r:R2}(ho:OpR X (compareOp op) r) (ha:PE X a ta) (hb:PE X b tb) (hm:behindInMarks op b=false):PT X (.Compare a [op] [b] pos) (tTest (tOp r ta tb)):=by
 intro jP s σ H Q I h
 refine wpAny_isTrue_Compare1 (thn (ha jP s σ H _ I h) λ v s1 ⟨x,H1,I1,r1,q1⟩=>thn (hb jP s1 σ H1 _ I1 q1) λ u s2 ⟨y,H2,I2,r2,q2⟩ =>
  thn (ho jP s2 σ H2 x y v u _ I2 r1 r2 q2) λ c s3 ⟨z,H3,I3,r3,k,e,q3⟩=>?_) hm
 subst e;cases r3;exact wpAny_truthy_bool ⟨H3,I3,q3⟩
def zNK (r r':R2) (ta tb tc:TE):TE:=λ σ H Q=>ta σ H λ x H1=>tb σ H1 λ y H2=>r x y H2 λ z H3=>∃k,z = .bl k /\
 (if k=true then tc σ H3 λ w' H4=>r' y w' H4 Q else Q (.bl false) H3)
theorem zKY {op op':CmpOp}{r r':R2}(ho:OpR X (compareOp op) r) (ho':OpR X (compareOp op') r') (ha:PE X a ta) (hb:PE X b tb) (hc:PE X c tc)
  (hm:lastMarks [op,op'] [b,c]=false:=by with_unfolding_all rfl):PT X (.Compare a [op,op'] [b,c] pos) (tTest (zNK r r' ta tb tc)):=by
 intro jP s σ H Q I h
 refine isTrue_chain (thn (ha jP s σ H _ I h) λ v s1 ⟨x,H1,I1,r1,q1⟩=>test_link (thn (hb jP s1 σ H1 _ I1 q1) λ u s2 ⟨y,H2,I2,r2,q2⟩ =>
  thn (ho jP s2 σ H2 x y v u _ I2 r1 r2 q2) λ d s3 ⟨z,H3,I3,r3,k,e,q3⟩=>?_)) hm
 subst e;cases r3;refine wpAny_truthy_bool ?_;cases k with
 |false =>
  obtain⟨k',e',q'⟩:=q3;cases e';exact ite_ff ⟨H3,I3,q'⟩
 |true =>
  refine ite_tt (test_last (thn (hc jP s3 σ H3 _ I3 q3) λ w' s4 ⟨z',H4,I4,r4,q4⟩=>thn (ho' jP s4 σ H4 y z' u w' _ I4 r2 r4 q4) λ d' s5 ⟨z2,H5,I5,r5,k2,e2,q5⟩=>?_));subst e2;cases r5;exact wpAny_truthy_bool ⟨H5,I5,q5⟩
def TruV (K:W.Frag) (x:V) (H:Hp) (k:Bool):Prop :=
 match x with
 |.non=>k=false
 |.bl b=>k=b
 |.int i=>k=(i != 0)
 |.str y=>y.length<=sizeLine/\k=((y.length:Int) != 0)
 |.byt y=>y.size<=sizeLine/\k=((y.size:Int) != 0)
 |.ref p=>(∃xs,SqL K H p xs/\k=!xs.isEmpty)\/(∃xs,SqT K H p xs/\k=!xs.isEmpty)\/∃kvs,H p=some (.dK kvs)/\k=!kvs.isEmpty
 |_=>False
theorem zIN {κ:Type}{kvs:List (κ × V)}{vs:List (κ × Value)}(r:KV kvs vs):(!vs.isEmpty)=!kvs.isEmpty:=by
 cases r<;>rfl
theorem zFI {xs:List V}{its:List Value}(r:Vals xs its):(!its.toArray.isEmpty)=!xs.isEmpty:=by
 cases r<;>simp
theorem zGJ:(sizeLine:Nat)<2 ^ 63:=by rw[sizeLine_eq];decide
theorem zLZ:TruR X (λ x H Q=>∃k,TruV X.K x H k/\Q k H):=by
 intro jP s σ H x v Q I rx h;obtain⟨k,e,q⟩:=h;have hl:=zGJ;have hs:sizeLine=16777216:=sizeLine_eq;cases x with
 |non =>
  cases rx;have e':k=false:=e;subst e';exact truthy_none ⟨H,I,q⟩
 |bl b =>
  cases rx;have e':k=b:=e;subst e';exact wpAny_truthy_bool ⟨H,I,q⟩
 |int i =>
  obtain⟨t,rfl⟩:=rx;have e':k=(i != 0):=e;subst e';exact PySem.P.truthy_int ⟨H,I,q⟩
 |str y =>
  obtain⟨t,rfl⟩:=rx;obtain⟨hy,e'⟩:y.length<=sizeLine/\k=((y.length:Int) != 0):=e;subst e';exact PySem.P.truthy_str (by omega) ⟨H,I.tok _,q⟩
 |byt y =>
  obtain⟨t,rfl⟩:=rx;obtain⟨hy,e'⟩:y.size<=sizeLine/\k=((y.size:Int) != 0):=e;subst e';exact W.truthy_bytes (by omega) ⟨H,I.tok _,q⟩
 |ref p =>
  cases rx;have e':(∃xs,SqL X.K H p xs/\k=!xs.isEmpty)\/(∃xs,SqT X.K H p xs/\k=!xs.isEmpty)\/∃kvs,H p=some (.dK kvs)/\k=!kvs.isEmpty:=e;rcases e' with ⟨xs,hx,e'⟩|⟨xs,hx,e'⟩|⟨kvs,hx,e'⟩
  ·subst e'
   obtain⟨its,r,pl,hz⟩:=I.list hx;have hlen:=r.length;exact wpAny_truthy_list pl.isList (by simp only[mH];omega) ⟨H,I.tok _,by rw[zFI r];exact q⟩
  ·subst e'
   obtain⟨its,r,pl,hz⟩:=I.tuple hx;have hlen:=r.length;exact truthy_tuple pl (by simp only[mH];omega) ⟨H,I.tok _,by rw[zFI r];exact q⟩
  ·subst e'
   obtain⟨hz,hS,vs,r,m⟩:kvs.length<=sizeLine/\(p == sysModules)=false/\∃vs,KV kvs vs/\s.heap.DictOf (zAd X.prog X.w) p vs:=I.hok p _ hx;have hlen:kvs.length=vs.length:=Paired.length r;exact wpAny_truthy_dict hS m (by omega) ⟨H,I.tok _,by rw[zIN r];exact q⟩
 |_=>exact(show False from e).elim
theorem zD7 (ha:PE X a ta) (he:∀whole,isTrue a X.env whole=(do let v ← whole;standAt a.pos;holding [v] (truthy v))) :
    PT X a (λ σ H Q=>ta σ H λ x H'=>∃k,TruV X.K x H' k/\Q k H'):=by
  intro jP s σ H Q I h;exact isTrue_plain (thn (ha jP s σ H _ I h) λ v s1 ⟨x,H1,I1,r1,q1⟩=>zLZ jP s1 σ H1 x v Q I1 r1 q1) (he _)
theorem zID:OpR X (binaryOp .Add) (λ x y H Q=>∃i j,x = .str i/\y = .str j/\i.length+j.length<=sizeLine/\Q (.str (i++j)) H):=by
 intro jP s σ H x y v u Q I rx ry h;obtain⟨i,j,rfl,rfl,hz,q⟩:=h;obtain⟨t,rfl⟩:=rx;obtain⟨t',rfl⟩:=ry;exact add_str (λ t' tk=>⟨.str (i++j),H,I.tok _,⟨_,rfl⟩,q⟩) hz
theorem vals1 {x:V}{us:List Value}(r:Vals [x] us):∃u,us=[u]/\RelV x u:=by
 cases r with
 |cons r1 r2=>cases r2;exact⟨_,rfl,r1⟩
theorem vals2 {x y:V}{us:List Value}(r:Vals [x,y] us):∃u w',us=[u,w']/\RelV x u/\RelV y w':=by
 cases r with
 |cons r1 r2 =>
  cases r2 with
  |cons r3 r4=>cases r4;exact⟨_,_,rfl,r1,r3⟩
end
structure ObjM (h:Heap) (x dx C:Addr) (mA:Str->Option Value):Prop where
 obj:h.get? x=some (W.instObj C dx)
 ns:h.Ns1 dx mA
 ne:dx≠x
set_option tactic.hygienic true in
theorem zJM {h:Heap}{dx:Addr}{mA:Str->Option Value}(n:h.Ns1 dx mA):∃od,h.get? dx=some od/\∀name,W.lookIn name od=some (mA name):=by
 obtain⟨o,es,ep,ho,hd,hk,_,hm⟩:=n;refine⟨o,ho,λ name=>?_⟩;have e:=hm name;unfold nsFind findBy at e;rw[←Array.find?_toList] at e;unfold W.lookIn;rw[hd];dsimp only;split
 ·rename_i y q
  rw[q] at e;exact congrArg some e
 ·rename_i q
  rw[q] at e
  have a:es.toList.any (·.refKey)=false:=by
   rw[List.any_eq_false];intro y hy;obtain⟨z,t,hkey⟩:=hk y (Array.mem_toList_iff.mp hy);simp[DictEntry.refKey,hkey]
  have a':¬es.toList.any (·.refKey)=true:=by rw[a];exact lX
  rw[if_neg a'];exact congrArg some e
theorem ObjM.look {h:Heap}{x dx C:Addr}{mA:Str->Option Value}(I:ObjM h x dx C mA):∃od,W.InstAt h x (W.instObj C dx) C (some od)/\∀name,W.lookIn name od=some (mA name) :=
 let ⟨od,ho,hl⟩:=zJM I.ns
 ⟨od,⟨I.obj,rfl,rfl,ho⟩,hl⟩
theorem RelO.some_of {v:V}{o:Option Value}(r:RelO (some v) o):∃u,o=some u/\RelV v u:=by
 cases o with
 |none=>exact(show False from r).elim
 |some u=>exact⟨u,rfl,r⟩
section
variable {P:Program}{w:World}{H H':Hp}{h h':Heap}{a C dx:Addr}{fs fs':List (Str × V)}
theorem zMr (hok:HOk P w H h) (e:H a=some (.ins C dx fs)):∃mA,ObjM h a dx C mA/\(∀f,RelO (fs.lookup f) (mA f))/\PySem.Within mA (fs.map (·.1))/\fs.length<=1000/\H dx=some (.own a):=by
 obtain⟨d,z,ne,ob,mA,n,r,q⟩:=(show ObjOk P w H h a (.ins C dx fs) from hok a _ e);exact⟨mA,⟨ob,n,ne⟩,r,q,z,d⟩
end
structure Cls (K:W.Frag) (C:Addr):Prop where
 pg:W.plainGet K C Str.empty=true
 hd:W.hasDictIn K C=true
 po:W.plainOver K C=true
 sa:W.findIn K (.ref C) "__setattr__" = some (some (.builtin "object.__setattr__"))
theorem Cls.get {K:W.Frag}{C:Addr}(c:Cls K C) (f:Str):W.plainGet K C f=true:=c.pg
section
variable {X:Cx}{jP:List (Addr × Obj)}{σ:St}{H:Hp}{s:Shared}{A:Around}{E:XQ}{Q:XQ}{c:Value}{b:Bool}
inductive TyOf (K:W.Frag) (H:Hp):V->Value->Prop where
 |non:TyOf K H .non (.type "NoneType")
 |bl (x:Bool):TyOf K H (.bl x) (.type "bool")
 |int (i:Int):TyOf K H (.int i) (.type "int")
 |str (x:Str):TyOf K H (.str x) (.type "str")
 |flt (x:UInt64):TyOf K H (.flt x) (.type "float")
 |lst {a:Addr}{xs:List V}(e:H a=some (.lst xs)):TyOf K H (.ref a) (.type "list")
 |frz {a:Addr}{o:Obj}{xs:List V}(e:H a=some (.frz o (.lst xs))):TyOf K H (.ref a) (.type "list")
 |tup {a:Addr}{xs:List V}(e:H a=some (.tup xs)):TyOf K H (.ref a) (.type "tuple")
 |dK {a:Addr}{kvs:List (Key × V)}(e:H a=some (.dK kvs)):TyOf K H (.ref a) (.type "dict")
 |dT {a:Addr}{kvs:List (List Key × V)}(e:H a=some (.dT kvs)):TyOf K H (.ref a) (.type "dict")
 |ins {a C dx:Addr}{fs:List (Str × V)}(e:H a=some (.ins C dx fs)) (cl:Cls K C) (ha:W.findIn K (.ref C) "__class__" = some (some (.builtin "object.__class__")))
   (hn:W.specialIn K (.builtin "object.__class__") "__get__" = some (some (.builtin "getset_descriptor.__get__"))) (htk:W.takesIn K (.builtin "object.__class__")=some true)
   (hm:W.mroIn K C (.type "object")=some true):TyOf K H (.ref a) (.ref C)
theorem zJV {x:V}{u t:Value}(I:Inv X jP σ H s) (rx:RelV x u) (ty:TyOf X.K H x t) (e:W.kitOne X.K t c=some b) (h:∀tk,Q (.bool b) { s with toks:=tk }) :
  wpAny (model X.prog X.w) A (call (.builtin "isinstance") [u,c]) Q E s:=by
 cases ty with
 |non=>cases (show u=Value.none from rx);exact W.kia_one W.kitx_none I.kIn True.intro e (λ z=>nomatch z) h
 |bl y=>cases (show u=Value.bool y from rx);exact W.kia_one W.kitx_bool I.kIn True.intro e (λ z=>nomatch z) h
 |int i=>obtain⟨t,q⟩:=(show ∃t,u=Value.int i t from rx);cases q;exact W.kia_one W.kitx_int I.kIn True.intro e (λ z=>nomatch z) h
 |str y=>obtain⟨t,q⟩:=(show ∃t,u=Value.str y t from rx);cases q;exact W.kia_one W.kitx_str I.kIn True.intro e (λ z=>nomatch z) h
 |flt y=>obtain⟨t,q⟩:=(show ∃t,u=Value.float y t from rx);cases q;exact W.kia_one W.kitx_float I.kIn True.intro e (λ z=>nomatch z) h
 | @lst a xs ea =>
  cases (show u=Value.ref a from rx);obtain⟨_,_,n,_,h1⟩:=(show ObjOk X.prog X.w H s.heap a (.lst xs) from I.hok a _ ea);exact W.kia_one W.kitx_list I.kIn ⟨_,h1,rfl⟩ e (λ z=>nomatch z) h
 | @frz a ob xs ea =>
  cases (show u=Value.ref a from rx);obtain⟨_,_,_,n,_,h1⟩:=(show ObjOk X.prog X.w H s.heap a (.frz ob (.lst xs)) from I.hok a _ ea);exact W.kia_one W.kitx_list I.kIn ⟨_,h1,rfl⟩ e (λ z=>nomatch z) h
 | @tup a xs ea =>
  cases (show u=Value.ref a from rx);obtain⟨_,_,_,p⟩:=(show ObjOk X.prog X.w H s.heap a (.tup xs) from I.hok a _ ea);obtain⟨o,h1,h2,_⟩:=p;exact W.kia_one W.kitx_tuple I.kIn ⟨o,h1,h2⟩ e (λ z=>nomatch z) h
 | @dK a kvs ea =>
  cases (show u=Value.ref a from rx);obtain⟨_,_,vs,_,p⟩:=(show ObjOk X.prog X.w H s.heap a (.dK kvs) from I.hok a _ ea);obtain⟨o,es,ep,h1,h2,_⟩:=p;exact W.kia_one W.kitx_dict I.kIn ⟨o,h1,h2.1⟩ e (λ z=>nomatch z) h
 | @dT a kvs ea =>
  cases (show u=Value.ref a from rx);obtain⟨_,_,xs,_,o,es,ep,h1,h2,_⟩:=(show ObjOk X.prog X.w H s.heap a (.dT kvs) from I.hok a _ ea);exact W.kia_one W.kitx_dict I.kIn ⟨o,h1,h2.1⟩ e (λ z=>nomatch z) h
 | @ins a C dx fs ea cl ha hn htk hm =>
  cases (show u=Value.ref a from rx);obtain⟨mA,O,_⟩:=zMr I.hok ea;obtain⟨od,J,_⟩:=O.look;exact W.kia_one (W.kitx_own (cl.get _) cl.hd ha hn htk hm) I.kIn J e (λ z=>nomatch z) h
end
structure Room (k:Nat) (A:Around):Prop where
 hd:A.handled=none
 dp:A.depth+3 * k+5<recursionLimit
 un:A.units+16 * k+200<cLine
theorem Room.mono {j k:Nat}{A:Around}(r:Room k A) (h:j<=k):Room j A:=⟨r.hd,by have:=r.dp;omega,by have:=r.un;omega⟩
theorem Room.deeper {k:Nat}{A:Around}(r:Room (k+1) A) (env:Env):Room k (A.deeper env) :=
 ⟨r.hd,by have:=r.dp;show A.depth+1+3 * k+5<_;omega,by have:=r.un;show A.units+3+16 * k+200<_;omega⟩
theorem Room.depth {k:Nat}{A:Around}(r:Room k A):A.depth<recursionLimit:=by have:=r.dp;omega
theorem Room.units {k:Nat}{A:Around}(r:Room k A):A.units+64<cLine:=by have:=r.un;omega
def tNil:TA:=λ Ω H Q=>Q [] H
def tCons (ta:TE) (tr:TA):TA:=λ σ H Q=>ta σ H λ x H1=>tr σ H1 λ xs H2=>Q (x::xs) H2
section
variable {X:Cx}{e:Expr}{es:List Expr}{te:TE}{t:TA}{pos:Pos}
theorem zAD:PA X [] tNil:=λ Ω Ω Ω Ω H Q I h=>Calls.spliced_nil ⟨[],H,I,.nil,h⟩
theorem zAB (ha:PE X e te) (hr:PA X es t) (hs:starEach (e::es) X.env=(false,eval e X.env)::starEach es X.env:=by rfl):PA X (e::es) (tCons te t):=by
 intro pos jP s σ H Q I h;rw[hs];show wpAny _ _ (spliced ((false,eval e X.env)::backTo pos (starEach es X.env))) _ _ s;refine Calls.spliced_cons (thn (ha jP s σ H _ I h) λ u s1 ⟨x,H1,I1,r1,q1⟩=>?_);exact thn (hr pos jP s1 σ H1 _ I1 q1) λ us s2 ⟨xs,H2,I2,r2,q2⟩=>⟨x::xs,H2,I2,.cons r1 r2,q2⟩
def tTup (t:TA):TE:=λ σ H Q=>t σ H λ xs H1=>xs.length<=sizeLine/\∀p,H1 p=none->Q (.ref p) (upd H1 p (.tup xs))
def tLst (t:TA):TE:=λ σ H Q=>t σ H λ xs H1=>xs.length<=sizeLine/\∀p,H1 p=none->Q (.ref p) (upd H1 p (.lst xs))
theorem zBQ {x1} (h:PA X es t):PE X (.Tuple es x1 pos) (tTup t):=by
 intro jP s σ H Q I hq;refine wpAny_Tuple_spliced (thn (h pos jP s σ H _ I hq) λ us s1 ⟨xs,H1,I1,r,z,q⟩=>⟨by rw[←r.length];exact z,?_⟩);have hf:H1 s1.heap.objs.size=none:=I1.hok.fresh (lQ _);refine⟨.ref s1.heap.objs.size,upd H1 s1.heap.objs.size (.tup xs),I1.laid (t':=s1.toks) (λ b u e=>lG _ e) (lQ _) ?_,rfl,q _ hf⟩;exact⟨z,us,r,⟨_,lH _ rfl,rfl,_,rfl⟩⟩
theorem zAs (h:PA X es t):PE X (.List es pos) (tLst t):=by
 intro jP s σ H Q I hq;refine wpAny_List_spliced (thn (h pos jP s σ H _ I hq) λ us s1 ⟨xs,H1,I1,r,z,q⟩=>⟨by rw[←r.length];exact z,?_⟩);have hf:H1 s1.heap.objs.size=none:=I1.hok.fresh (lQ _);refine⟨.ref s1.heap.objs.size,upd H1 s1.heap.objs.size (.lst xs),I1.laid (t':=s1.toks) (λ b u e=>lG _ e) (lQ _) ?_,rfl,q _ hf⟩;exact⟨z,us,0,r,lH _ rfl⟩
end
abbrev Sp:=List V->Hp->VK->XK->Prop
abbrev CXT:=List Env->Hp->Shared->XK->Value->Shared->Prop
structure Env0 (P:Program) (w:World) (K:W.Frag) (mg:Str->Option Value) (base:Heap) (A:Around) (outer:List Env) (s:Shared) (H:Hp):Prop where
 frames:A.frames=some outer
 mod:Mod K mg base
 bs:∀b o,base.get? b=some o->s.heap.get? b=some o/\H b=none
 bsz:base.objs.size<=s.heap.objs.size
 funs:s.heap.FunFrames base outer
 frf:∀b∈frs outer,H b=none
 hok:HOk P w H s.heap
 bare:AllBare s.gens
def CE (outer:List Env) (P:Program) (w:World) (H:Hp) (s:Shared) (Q:VK) (u:Value) (s':Shared):Prop :=
 ∃v H',s'.os=s.os/\AllBare s'.gens/\Un (frs outer) [] H H' s.heap s'.heap/\HOk P w H' s'.heap/\RelV v u/\Q v H'
def CR (CX:CXT) (outer:List Env) (P:Program) (w:World) (H:Hp) (s:Shared) (Q:VK) (E:XK) (r:Result) (s':Shared):Prop :=
 match r with
 |.ok (.ret u)=>CE outer P w H s Q u s'
 |.ok _=>False
 |.error e=>CX outer H s E e s'
structure FnOk (P:Program) (w:World) (K:W.Frag) (mg:Str->Option Value) (base:Heap) (CX:CXT) (k:Nat) (f:Addr) (fd:FuncData) (ps:List Str) (sp:Sp):Prop where
 len:∀vs H Q E,sp vs H Q E->vs.length=ps.length
 run:∀(A:Around) (outer:List Env) (s:Shared) (H:Hp) (args:Args) (us:List Value) (vs:List V) (Q:VK) (E:XK),Room k A->Env0 P w K mg base A outer s H->BindsTo s fd args (ps.zip us)->Vals vs us->sp vs H Q E ->
  codeAny (model P w) A (.call (.ref f) args) (CR CX outer P w H s Q E) s
theorem FnOk.mono {P:Program}{w:World}{K:W.Frag}{mg:Str->Option Value}{base:Heap}{CX:CXT}{j k:Nat}{f:Addr}{fd:FuncData}{ps:List Str}{sp:Sp}(F:FnOk P w K mg base CX j f fd ps sp) (h:j<=k) :
  FnOk P w K mg base CX k f fd ps sp:=⟨F.len,λ A outer s H args us vs Q E hr=>F.run A outer s H args us vs Q E (hr.mono h)⟩
theorem FnOk.imp {P:Program}{w:World}{K:W.Frag}{mg:Str->Option Value}{base:Heap}{CX:CXT}{k:Nat}{f:Addr}{fd:FuncData}{ps:List Str}{sp sp':Sp}(F:FnOk P w K mg base CX k f fd ps sp)
  (h:∀vs H Q E,sp' vs H Q E->sp vs H Q E):FnOk P w K mg base CX k f fd ps sp' :=
 ⟨λ vs H Q E q=>F.len vs H Q E (h _ _ _ _ q),λ A outer s H args us vs Q E hr he hb hv hs=>F.run A outer s H args us vs Q E hr he hb hv (h _ _ _ _ hs)⟩
section
variable {X:Cx}{jP:List (Addr × Obj)}{σ:St}{H:Hp}{s s':Shared}
theorem Inv.env0 (I:Inv X jP σ H s):Env0 X.prog X.w X.K X.mg X.base X.A X.stack s H :=
 ⟨I.ok.frames,I.ok.mod,I.bs,mG I.ok.bsz I.sz,I.stack,I.stkFree,I.hok,I.bare⟩
theorem Inv.after {Q:VK}{u:Value}(I:Inv X jP σ H s) (h:CE X.stack X.prog X.w H s Q u s'):EP X jP σ Q u s':=by
 obtain⟨v,H',os,bare,un,hok,r,q⟩:=h;obtain⟨hh,g,d,t,os'⟩:=s';obtain rfl:os'=s.os:=os;exact⟨v,H',I.call (h':=hh) (g':=g) (d':=d) (t':=t) (ch:=[]) un hok bare (λ b z=>absurd z (by simp)),r,q⟩
end
def tCall (sp:Sp) (dvs:List V) (E:XK) (t:TA):TE:=λ σ H Q=>t σ H λ vs H1=>sp (vs++dvs) H1 Q E
def Binds (K:W.Frag) (fd:FuncData) (ps:List Str) (ds:List Value):Prop :=
 ∀(s:Shared) (us:List Value),K.In s.heap->(us++ds).length=ps.length->BindsTo s fd ⟨us,[]⟩ (ps.zip (us++ds))
theorem Binds.all {K:W.Frag}{fd:FuncData}{ps:List Str}(h:∀us:List Value,us.length=ps.length->bindArgs fd ⟨us,[]⟩=pure (ps.zip us)):Binds K fd ps []:=λ s us Ω hl=>by
 rw[nO] at hl ⊢;exact .of_eq (h us hl)
def zHw (CX:CXT) (X:Cx) (E:XK):Prop:=∀(jP:List (Addr × Obj)) (σ:St) (H:Hp) (s:Shared) (e:Value) (s':Shared),Inv X jP σ H s->CX X.stack H s E e s'->X.xe e s'
section
variable {X:Cx}{CX:CXT}{k:Nat}{f C:Addr}{fd:FuncData}{ps:List Str}{sp:Sp}{dvs:List V}{ds:List Value}{E:XK}{x m:Str}{p pos apos:Pos}{e o:Expr}{es:List Expr}{ta:TE}{t:TA}
theorem zLg {jP:List (Addr × Obj)}{σ:St}{H:Hp}{s:Shared}{Q:VK}{us:List Value}{vs:List V}(F:FnOk X.prog X.w X.K X.mg X.base CX k f fd ps sp) (hr:Room k X.A) (hb:Binds X.K fd ps ds) (hd:Vals dvs ds) (hx:zHw CX X E)
  (I:Inv X jP σ H s) (r:Vals vs us) (h:sp (vs++dvs) H Q E):wpAny (model X.prog X.w) X.A (call (.ref f) us) (EP X jP σ Q) X.xe s:=by
 have r2:Vals (vs++dvs) (us++ds):=r.append hd;have hl:(us++ds).length=ps.length:=by rw[←r2.length];exact F.len _ _ _ _ h
 refine wpAny_call (codeAny_mono (F.run X.A X.stack s H ⟨us,[]⟩ (us++ds) (vs++dvs) Q E hr I.env0 (hb s us I.kIn hl) r2 h) λ r s' hq=>?_);cases r with
 |error e=>exact hx jP σ H s e s' I hq
 |ok fl =>
  cases fl with
  |ret u=>exact I.after hq
  |next=>exact False.elim hq
  |brk=>exact False.elim hq
  |cont=>exact False.elim hq
theorem zGv (F:FnOk X.prog X.w X.K X.mg X.base CX k f fd ps sp) (hr:Room k X.A) (hg:Gl X x) (hm:X.mg x=some (.ref f)) (hk:W.keepIn X.K (.ref f)=true) (hb:Binds X.K fd ps ds) (hd:Vals dvs ds) (hx:zHw CX X E)
  (ha:PA X (e::es) t) (hdb:(x == ("__debug__" : Str))=false:=by decide) (he:starEach (e::es) X.env=(false,eval e X.env)::starEach es X.env:=by rfl) (hpl:(backTo pos (starEach es X.env)).any (·.1)=false:=by rfl) :
  PE X (.Call (.Name x p) (e::es) [] pos) (tCall sp dvs E t):=by
 intro jP s σ H Q I h;refine wpAny_Call_Name_kw (zJP I hg hm ?_ hdb);refine W.callWith_K (h₀:=X.base) I.ok.mod.kin hk (thn (ha pos jP s σ H _ I h) λ us s1 ⟨vs,H1,I1,r,q⟩=>⟨I1.kIn,?_⟩) he hpl;exact zLg F hr hb hd hx I1 r q
end
structure zAT (N P:List Str) (sc:Scope):Prop where
 kind:sc.kind = .function
 co:sc.isCoroutine=false
 gen:sc.isGenerator=false
 nd:N.Nodup
 pre:N.take P.length=P
 par:∀x∈P,sc.names.lookup x=some .local\/sc.names.lookup x=some .cell
 nofree:∀y∈sc.names,y.2 ≠ .free
theorem scI {N P:List Str}{sc:Scope}(a:sc.kind=.function:=by rfl)(b:sc.isCoroutine=false:=by rfl)(c:sc.isGenerator=false:=by rfl)(d:N.Nodup:=by symm)(e:N.take P.length=P:=by rfl)(f:∀x∈P,sc.names.lookup x=some .local\/sc.names.lookup x=some .cell:=by symm)(g:∀y∈sc.names,y.2≠.free:=by symm):zAT N P sc:=⟨a,b,c,d,e,f,g⟩
theorem zGY {kindOf:Str->Option NameKind}{x:Str}:∀{binds:List (Str × Value)}{m:Str->Option Value},(∀v,(x,v)∉binds)->bindL kindOf binds m x=m x
 |[],_,_=>rfl
 | (n,v)::r,m,h=>by
  unfold bindL;rw[zGY λ w hw=>h w (List.mem_cons_of_mem _ hw)];split
  ·have:x≠n:=by rintro rfl;exact h v lO
   simp[this]
  ·rfl
theorem zGa {kindOf:Str->Option NameKind}{x:Str}:∀{binds:List (Str × Value)}{m:Str->Option Value},(∀v,(x,v)∉binds)->bindC kindOf binds m x=m x
 |[],_,_=>rfl
 | (n,v)::r,m,h=>by
  unfold bindC;rw[zGa λ w hw=>h w (List.mem_cons_of_mem _ hw)];split
  ·rfl
  ·have:x≠n:=by rintro rfl;exact h v lO
   simp[this]
theorem zGZ {kindOf:Str->Option NameKind}{x:Str}{v:Value}:∀{P:List Str}{vs:List Value}{i:Nat}{m:Str->Option Value},P.Nodup->P[i]?=some x->vs[i]?=some v->kindOf x=some .local ->
  bindL kindOf (P.zip vs) m x=some v
 |[],_,_,_,_,h,_,_=>by simp at h
 |_::_,[],_,_,_,_,h,_=>by simp at h
 |p::P,w::vs,0,m,nd,h1,h2,hk=>by
  simp at h1 h2;subst h1;subst h2;show bindL kindOf ((p,w)::P.zip vs) m p=_;unfold bindL;rw[zGY λ v hv=>(rC.mp nd).1 (List.of_mem_zip hv).1,if_pos hk];simp
 |p::P,w::vs,i+1,m,nd,h1,h2,hk=>by
  show bindL kindOf ((p,w)::P.zip vs) m x=_;unfold bindL;exact zGZ (i:=i) (rC.mp nd).2 (by simpa using h1) (by simpa using h2) hk
theorem zGb {kindOf:Str->Option NameKind}{x:Str}{v:Value}:∀{P:List Str}{vs:List Value}{i:Nat}{m:Str->Option Value},P.Nodup->P[i]?=some x->vs[i]?=some v->kindOf x≠some .local ->
  bindC kindOf (P.zip vs) m x=some v
 |[],_,_,_,_,h,_,_=>by simp at h
 |_::_,[],_,_,_,_,h,_=>by simp at h
 |p::P,w::vs,0,m,nd,h1,h2,hk=>by
  simp at h1 h2;subst h1;subst h2;show bindC kindOf ((p,w)::P.zip vs) m p=_;unfold bindC;rw[zGa λ v hv=>(rC.mp nd).1 (List.of_mem_zip hv).1,if_neg hk];simp
 |p::P,w::vs,i+1,m,nd,h1,h2,hk=>by
  show bindC kindOf ((p,w)::P.zip vs) m x=_;unfold bindC;exact zGb (i:=i) (rC.mp nd).2 (by simpa using h1) (by simpa using h2) hk
noncomputable def start (N:List Str) (vs:List V):St:=vs.map some++List.replicate (N.length - vs.length) none
noncomputable def cxOf (CX:CXT) (P:Program) (w:World) (K:W.Frag) (mg:Str->Option Value) (base:Heap) (N:List Str) (qual:Str) (scope:Scope) (f:Addr) (cd:Value) (A:Around) (outer:List Env) (s:Shared) (H:Hp) (E:XK):Cx where
 prog:=P
 w:=w
 K:=K
 mg:=mg
 base:=base
 A:=A.deeper (envOfC qual scope s.heap.objs.size f cd)
 N:=N
 s₀:=s
 H₀:=H
 env:=envOfC qual scope s.heap.objs.size f cd
 outer:=outer
 stack:=envOfC qual scope s.heap.objs.size f cd::outer
 ex:=[]
 calm:=true
 fn:=λ Ω=>true
 pn:=[]
 xe:=λ e s'=>wpAny (model P w) (A.deeper (envOfC qual scope s.heap.objs.size f cd)) (leaving (envOfC qual scope s.heap.objs.size f cd) e) (λ Ω s''=>CX outer H s E e s'') (λ e' s''=>CX outer H s E e' s'') s'
theorem zHt {sc:Scope}{n:Nat}{x:Str}(h:sc.names.lookup x=some .cell):∃c,(cellsFrom n sc.names []).lookup x=some c:=by
 have q:=W.cellsFrom_some sc.names n [] (.inl h);exact Option.isSome_iff_exists.mp q
theorem zJW {CX:CXT}{P:Program}{w:World}{K:W.Frag}{mg:Str->Option Value}{base:Heap}{N ps:List Str}{qual:Str}{scope:Scope}{f:Addr}{cd:Value}{A:Around}{outer:List Env}{s s1:Shared}{H:Hp}{E:XK}{us:List Value}{vs:List V}
  (S:zAT N ps scope) (hd:A.handled=none) (e0:Env0 P w K mg base A outer s H) (hl:vs.length=ps.length) (r:Vals vs us)
  (x:InCallC s s.heap.objs.size (bindL (envOfC qual scope s.heap.objs.size f cd).kindOf (ps.zip us) λ Ω=>none) (cellsFrom (s.heap.objs.size+1) scope.names []) (bindC (envOfC qual scope s.heap.objs.size f cd).kindOf (ps.zip us) λ Ω=>none) s1) :
  Inv (cxOf CX P w K mg base N qual scope f cd A outer s H E) [] (start N vs) H s1:=by
 have hpl:ps.length<=N.length:=by have:=congrArg List.length S.pre;rw[mN] at this;omega
 obtain⟨h1,tk,rfl,hk⟩:=x.done;have noA:∀b:Addr,b∉(cxOf CX P w K mg base N qual scope f cd A outer s H E).ex:=λ b z=>absurd (show b∈([]:List Addr) from z) (by simp)
 refine⟨⟨e0.mod,S.kind,rfl,rfl,lQ _,λ y z c h1 h2=>?_,λ y hy=>?_,λ y c Ω h=>?_,λ Ω=>hd,Around.frames_deeper e0.frames,.inr ⟨rfl,rfl⟩,λ b z=>absurd z (noA b),e0.bs,e0.bsz,λ b Ω Ω=>noA b,λ b z=>absurd z (noA b),e0.funs,e0.frf⟩,
  rfl,e0.bare,Un.kept hk,⟨_,x.toInCall.ns,λ i y v h1 h2 h3=>?_⟩,λ y c h=>⟨_,x.cell y c h⟩,e0.hok.fresh (lQ _),λ y c h=>?_,λ p hp=>absurd (show p∈([]:List (Addr × Obj)) from hp) (by simp),e0.hok.kept hk,?_⟩
 ·exact name_of_addr x.apart (PySem.mem_of_lookup h1) (PySem.mem_of_lookup h2)
 ·have hy:scope.names.lookup y=some .cell\/scope.names.lookup y=some .free:=hy
  rcases hy with hy|hy
  ·exact zHt hy
  ·exact absurd rfl (S.nofree _ (PySem.mem_of_lookup hy))
 ·exact Nat.le_of_lt (x.above y c (PySem.mem_of_lookup h))
 ·have hi:i<vs.length:=by
   unfold start at h2
   by_cases hi:i<vs.length
   ·exact hi
   ·rw[List.getElem?_append_right (by simpa using hi)] at h2
    rw[List.getElem?_replicate] at h2;split at h2<;>cases h2
  have ha:vs[i]?=some v:=by
   unfold start at h2;rw[mS (by simpa using hi),mJ] at h2;cases e:vs[i]? with
   |none=>rw[e] at h2;cases h2
   |some a=>rw[e] at h2;cases h2;rfl
  obtain⟨u,hu,rv⟩:=r.get ha
  have hp:ps[i]?=some y:=by
   rw[←S.pre,List.getElem?_take_of_lt (by omega)];exact h1
  have ndP:ps.Nodup:=by rw[←S.pre];exact S.nd.sublist (List.take_sublist _ _)
  refine⟨u,rv,?_⟩;rcases S.par y (lM hp) with k|k
  ·exact .inl ⟨k,zGZ ndP hp hu k⟩
  ·obtain⟨c,e⟩:=zHt (n:=s.heap.objs.size+1) k
   refine .inr ⟨.inl k,c,e,?_⟩;have q:=x.cell y c e;rw[zGb ndP hp hu (by show scope.names.lookup y≠_;rw[k];decide)] at q;exact q
 ·exact e0.hok.fresh (Nat.le_of_lt (x.above y c (PySem.mem_of_lookup h)))
 ·unfold start
  show _=N.length;rw[mK,mD,List.length_replicate];omega
theorem fn_of {CX:CXT}{P:Program}{w:World}{K:W.Frag}{mg:Str->Option Value}{base:Heap}{k:Nat}{f:Addr}{name qual:Str}{params:Arguments}{body:List Stmt}{scope:Scope}{dV kV doc pm cdv ct oc:Value}{an od:Option Addr}
  {osl:Array (Option Value)}{N ps:List Str}{sp:Sp}(lk:K.lookup f=some ⟨oc,od,.func (W.fnOf name qual params body scope dV kV doc pm an cdv ct),osl⟩) (hcd:W.codeIn K cdv qual=true) (S:zAT N ps scope)
  (len:∀vs H Q E,sp vs H Q E->vs.length=ps.length)
  (hbody:∀(A:Around) (outer:List Env) (s:Shared) (H:Hp) (vs:List V) (Q:VK) (E:XK),Room k (A.deeper (envOfC qual scope s.heap.objs.size f cdv))->sp vs H Q E ->
   ∃t,PSs (cxOf CX P w K mg base N qual scope f cdv A outer s H E) body t/\t { nx:=λ Ω H'=>Q .non H',rt:=Q } (start N vs) H) :
  FnOk P w K mg base CX (k+1) f (W.fnOf name qual params body scope dV kV doc pm an cdv ct) ps sp:=by
 refine⟨len,λ A outer s H args us vs Q E hr e0 hb r hsp=>?_⟩;have hl:=len _ _ _ _ hsp;have KX:K.In s.heap:=e0.mod.kin.keeps λ b o e=>(e0.bs b o e).1;have lim:s.heap.NoLimit:=e0.mod.nolimit.keeps λ b o e=>(e0.bs b o e).1
 have hkind:∀y∈ps.zip us,scope.names.lookup y.1=some .local\/(scope.names.lookup y.1=some .cell/\((cellsFrom (s.heap.objs.size+1) scope.names []).lookup y.1).isSome=true):=λ⟨n,v⟩ hy=>by
  rcases S.par n (List.of_mem_zip hy).1 with q|q
  ·exact .inl q
  ·exact .inr ⟨q,W.cellsFrom_some _ _ _ (.inl q)⟩
 refine codeAny_call_function hr.depth (KX _ _ lk) rfl S.co S.gen rfl (W.codeRec_of KX hcd) (hb _ _ _ _ ?_);refine wpAny_newFunctionEnv_cells S.kind hkind λ env he s1 x=>?_;subst he;refine⟨lim.keeps x.toInCall.keep,codeAny_func ?_⟩;obtain⟨t,ht,hq⟩:=hbody A outer s H vs Q E (hr.deeper _) hsp;have I:Inv (cxOf CX P w K mg base N qual scope f cdv A outer s H E) [] (start N vs) H s1:=zJW S hr.hd e0 hl r x;refine wpAny_mono (ht [] s1 (start N vs) H _ I hq) (λ fl s' hs=>?_) λ e s' hs=>hs
 have fin:∀{σ':St}{H':Hp}{v:V}{u:Value},Inv (cxOf CX P w K mg base N qual scope f cdv A outer s H E) [] σ' H' s'->RelV v u->Q v H'->CE outer P w H s Q u s' :=
  λ{σ' H' v u} J rv q=>⟨v,H',J.os,J.bare,J.base,J.hok,rv,q⟩
 cases fl with
 |ret u =>
  obtain⟨v,σ',H',J,rv,q⟩:=hs;exact fin J rv q
 |next =>
  obtain⟨σ',H',J,q⟩:=hs;exact fin (v:=V.non) (u:=Value.none) J rfl q
 |brk =>
  obtain⟨_,_,_,q⟩:=hs;exact False.elim q
 |cont =>
  obtain⟨_,_,_,q⟩:=hs;exact False.elim q
section
variable {X:Cx}{x:Str}{p pos:Pos}{e:Expr}{es:List Expr}{t:TA}{id T:String}{r:List V->Hp->VK->Prop}
def tCB (r:List V->Hp->VK->Prop) (t:TA):TE:=λ σ H Q=>t σ H λ vs H1=>r vs H1 Q
theorem zAt (hc:CallR X (.builtin id) r) (hg:Gl X x) (hm:X.mg x=none) (hv:bootBuiltins x=some (.builtin id)) (ha:PA X (e::es) t) (hn:x ≠ "__name__" := by decide) (hdb:(x == ("__debug__" : Str))=false:=by decide)
  (he:starEach (e::es) X.env=(false,eval e X.env)::starEach es X.env:=by rfl) (hpl:(backTo pos (starEach es X.env)).any (·.1)=false:=by rfl):PE X (.Call (.Name x p) (e::es) [] pos) (tCB r t):=by
 intro jP s σ H Q I h;refine wpAny_Call_Name_kw (zCl I hg hm hv ?_ hn hdb);exact PyProof.Rows.callWith_builtin1 (thn (ha pos jP s σ H _ I h) λ us s1 ⟨vs,H1,I1,r1,q1⟩=>hc jP s1 σ H1 vs us Q I1 r1 q1) he hpl
theorem zBG (hc:CallR X (.type T) r) (hg:Gl X x) (hm:X.mg x=none) (hv:bootBuiltins x=some (.type T)) (ha:PA X (e::es) t) (hn:x ≠ "__name__" := by decide) (hdb:(x == ("__debug__" : Str))=false:=by decide)
  (he:starEach (e::es) X.env=(false,eval e X.env)::starEach es X.env:=by rfl) (hpl:(backTo pos (starEach es X.env)).any (·.1)=false:=by rfl):PE X (.Call (.Name x p) (e::es) [] pos) (tCB r t):=by
 intro jP s σ H Q I h;refine wpAny_Call_Name_kw (zCl I hg hm hv ?_ hn hdb);exact PyProof.Rows.callWith_type1 (thn (ha pos jP s σ H _ I h) λ us s1 ⟨vs,H1,I1,r1,q1⟩=>hc jP s1 σ H1 vs us Q I1 r1 q1) he hpl
end
end L2
namespace HT
open PySem PyProof.Rows
section
variable {prog:Program}{w:World}{A:Around}{E:XQ}{s:Shared}
theorem cat_tup {t b:Addr}{vs ws:List Value}{Q:XQ}(ht:IsTup s.heap t vs.toArray) (hb:IsTup s.heap b ws.toArray) (hv:vs≠[])
  (h1:ws=[]->Q (.ref t) s) (h2:ws≠[]->Q (.ref s.heap.objs.size) { s with heap:=s.heap.push { cls:=.type "tuple", data:=.seq (vs++ws).toArray } })
  (hsz:vs.length+ws.length<=sizeLine):wpAny (model prog w) A (binaryOp .Add (.ref t) (.ref b)) Q E s:=by
 obtain⟨⟨cls,dd,data,sl⟩,ho,hc,n,hd⟩:=id ht;obtain⟨⟨cls2,dd2,data2,sl2⟩,ho2,hc2,n2,hd2⟩:=id hb;simp only at hc hd hc2 hd2;subst hc hd hc2 hd2;have e:vs.toArray++ws.toArray=(vs++ws).toArray:=by simp
 by_cases hw:ws=[]
 ·exact concat_meets ⟨_,ho,rfl⟩ ⟨_,ho2,rfl⟩ noFill_tuple_add seq_tuple_add PySem.F.slot_tuple_add PySem.F.entry_tuple_add (PySem.F.args_tuple_add_2 _ _)
   (tuple_addW1 t b vs.toArray ws.toArray n n2 dd dd2 sl sl2 (by simpa using hv) (by simp[hw])) ⟨ho,ho2,h1 hw⟩
 ·refine concat_meets ⟨_,ho,rfl⟩ ⟨_,ho2,rfl⟩ noFill_tuple_add seq_tuple_add PySem.F.slot_tuple_add PySem.F.entry_tuple_add (PySem.F.args_tuple_add_2 _ _)
   (tuple_addW2 t b vs.toArray ws.toArray n n2 dd dd2 sl sl2 (by simpa using hv) (by simpa using hw) (by rw[mH,mH];exact hsz)) ⟨ho,ho2,?_⟩
  rw[e];exact h2 hw
noncomputable def sIx (n d:Nat):Option Int->Nat
 |none=>d
 |some v=>if v<0 then (v+(n:Int)).toNat else min v.toNat n
theorem sIx_none (n d:Nat):sIx n d none=d:=rfl
theorem sIx_nat (n d k:Nat):sIx n d (some (k:Int))=min k n:=by
 show (if (k:Int)<0 then ((k:Int)+(n:Int)).toNat else min (k:Int).toNat n)=min k n;rw[if_neg (by omega),Int.toNat_natCast]
theorem zNN (n d:Nat) (hd:d<=n) (o:Option Int):sIx n d o<=n:=by
 cases o with
 |none=>exact hd
 |some v =>
  show (if v<0 then (v+(n:Int)).toNat else min v.toNat n)<=n
  by_cases hv:v<0
  ·rw[if_pos hv];omega
  ·rw[if_neg hv];exact Nat.min_le_right _ _
theorem zJ3 (v:Int) (n d:Nat):(if v<0 then max (v+(n:Int)) 0 else min v (n:Int))=((sIx n d (some v):Nat):Int):=by
 show (if v<0 then max (v+(n:Int)) 0 else min v (n:Int))=(((if v<0 then (v+(n:Int)).toNat else min v.toNat n):Nat):Int)
 by_cases hv:v<0
 ·simp only[if_pos hv];omega
 ·simp only[if_neg hv];omega
theorem zIS (lo hi:Option Int) (n:Nat):Builtin.Slice.sliceAdjust lo hi 1 (n:Int)=(((sIx n 0 lo:Nat):Int),((sIx n n hi:Nat):Int)):=by
 have h1:¬((1:Int)<0):=by omega
 unfold Builtin.Slice.sliceAdjust;simp only[h1,if_false];refine Prod.ext ?_ ?_
 ·cases lo with
  |none=>rfl
  |some v=>exact zJ3 v n 0
 ·cases hi with
  |none=>rfl
  |some v=>exact zJ3 v n n
theorem zH9 (i j:Nat):Builtin.Slice.slicePlaces (i:Int) (j:Int) 1=j - i:=by
 unfold Builtin.Slice.slicePlaces;have h1:(1:Int) > 0:=by omega
 simp only[h1,if_true,Int.ediv_one];split<;>omega
theorem zFB {v:Value}{o:Option Int}{Q:Option Int->Shared->Prop}(p:IsPart v o) (h:Q o s):wpAny (model prog w) A (Builtin.Slice.slicePartIndex v) Q E s:=by
 cases p with
 |none=>exact slicePart_none h
 |int i t=>exact slicePart_int h
theorem sliceApplied_gen {sl:Addr}{vl vu:Value}{lo hi:Option Int}{n:Nat}{Q:Int × Int × Nat->Shared->Prop}(hs:s.heap.IsSliceOf sl vl vu .none) (pl:IsPart vl lo) (pu:IsPart vu hi)
  (h:Q (((sIx n 0 lo:Nat):Int),1,sIx n n hi - sIx n 0 lo) s):wpAny (model prog w) A (Builtin.Slice.sliceApplied (.ref sl) (pure (n:Int))) Q E s:=by
 obtain⟨os,hos,hcs,hds⟩:=id hs;unfold Builtin.Slice.sliceApplied Builtin.Slice.sliceFields;refine lA (lA (wpAny_field hos hds (x:=vl) rfl (lA (wpAny_field hos hds (x:=vu) rfl (lA (wpAny_field hos hds (x:=.none) rfl (lB ?_)))))));refine lA (slicePart_none ?_);show wpAny _ _ (if ((1:Int) == 0)=true then _ else _) _ _ s;rw[if_neg (by decide)];refine lA (zFB pl (lA (zFB pu (lA (lB ?_)))));show wpAny _ _ (match Builtin.Slice.sliceAdjust lo hi 1 (n:Int) with|(lo,hi)=>pure (lo,(1:Int),Builtin.Slice.slicePlaces lo hi 1)) _ _ s;rw[zIS lo hi n];show wpAny _ _ (pure (((sIx n 0 lo:Nat):Int),(1:Int),Builtin.Slice.slicePlaces ((sIx n 0 lo:Nat):Int) ((sIx n n hi:Nat):Int) 1)) _ _ s;rw[zH9];exact lB h
theorem zKb (xs:Array Value) (i k:Nat):((List.range k).filterMap λ(m:Nat)=>xs[((i:Int)+(m:Int) * 1).toNat]?).toArray=((xs.toList.drop i).take k).toArray:=by
 have e:(λ(m:Nat)=>xs[((i:Int)+(m:Int) * 1).toNat]?)=λ m=>xs[i+m]?:=by
  funext m;have:((i:Int)+(m:Int) * 1).toNat=i+m:=by omega
  rw[this]
 rw[e];have:=pick_run xs i k;rw[List.filterMap_map] at this;have e2:((λ x=>xs[x]?) ∘ λ x=>i+x)=λ m=>xs[i+m]?:=rfl;rw[e2] at this;rw[this]
theorem getItem_tuple_cut {t sl:Addr}{items:Array Value}{vl vu:Value}{lo hi:Option Int}{Q:XQ}(ht:IsTup s.heap t items) (hs:s.heap.IsSliceOf sl vl vu .none) (pl:IsPart vl lo) (pu:IsPart vu hi)
  (hw:¬(sIx items.size 0 lo=0/\sIx items.size items.size hi=items.size))
  (h:Q (.ref s.heap.objs.size) { s with heap:=s.heap.push { cls:=.type "tuple", data:=.seq ((items.toList.drop (sIx items.size 0 lo)).take (sIx items.size items.size hi - sIx items.size 0 lo)).toArray } })
  (hsz:items.size<=sizeLine):wpAny (model prog w) A (getItem (.ref t) (.ref sl)) Q E s:=by
 have htake:sizeOk (.seq ((items.toList.drop (sIx items.size 0 lo)).take (sIx items.size items.size hi - sIx items.size 0 lo)).toArray):=by
  show ((items.toList.drop (sIx items.size 0 lo)).take (sIx items.size items.size hi - sIx items.size 0 lo)).toArray.size<=sizeLine;rw[mH,mN,mV,Array.length_toList];omega
 have hj:sIx items.size items.size hi<=items.size:=zNN _ _ (lQ _) hi;obtain⟨os,hos,hcs,hds⟩:=id hs;have hTs:s.TypeIs (.ref sl) "slice" := ⟨os,hos,hcs⟩;unfold getItem
 try with_reducible refine lE ?_
 first|refine lA (lB ?_)|skip
 refine lA (wpAny_sequenceKey ht.typeIs (by decide) ?_)
 refine lA (wpAny_callSpecial?_slot (name:=Str.ofString "__getitem__") ht.typeIs PyProof.Rows.slot_tuple_getitem
  (wpAny_call_entry PyProof.Rows.slot_tuple_getitem ht.typeIs entry_tuple_getitem ?_ (args_tuple_getitem _ _)))
 show wpAny _ _ (Builtin.Tuple.tupleItemsOf (.ref t) >>= _) _ _ s;refine lA (tupleItemsOf_ ht ?_);refine lA (wpAny_typeOf hTs ?_);rw[if_pos (by decide)];refine lA (sliceApplied_gen hs pl pu ?_)
 have hno:¬((((sIx items.size 0 lo:Nat):Int) == 0 && (1:Int) == 1 && (sIx items.size items.size hi - sIx items.size 0 lo) == items.size)=true):=by
  intro q;rw[Bool.and_eq_true,Bool.and_eq_true] at q;have q1:((sIx items.size 0 lo:Nat):Int)=0:=eq_of_beq q.1.1;have q2:sIx items.size items.size hi - sIx items.size 0 lo=items.size:=eq_of_beq q.2;exact hw ⟨by omega,by omega⟩
 show wpAny _ _ (if (((sIx items.size 0 lo:Nat):Int) == 0 && (1:Int) == 1 && (sIx items.size items.size hi - sIx items.size 0 lo) == items.size)=true then _ else _) _ _ s;rw[if_neg hno,zKb]
 first
  |exact lA (m:=Builtin.Tuple.tupleExact _) (wpAny_newObj_type (lB ⟨_,rfl,lB h⟩) htake)
  |exact lA (m:=Builtin.Tuple.tupleExact _) (wpAny_newObj_type (lA (lB (lB ⟨_,rfl,lB h⟩))) htake)
  |exact lA (lA (m:=Builtin.Tuple.tupleExact _) (wpAny_newObj_type (lB (lB ⟨_,rfl,lB h⟩)) htake))
  |exact lA (lA (m:=Builtin.Tuple.tupleExact _) (wpAny_newObj_type (lB ⟨_,rfl,lB h⟩) htake))
end
end HT
namespace L2
open PySem PySem.Spec PyProof.Rows
abbrev TO:=St->Hp->(Option Int->Hp->Prop)->Prop
def PO (X:Cx) (e:Option Expr) (t:TO):Prop :=
 ∀(jP:List (Addr × Obj)) (s:Shared) (σ:St) (H:Hp) (Q:Option Int->Hp->Prop),Inv X jP σ H s->t σ H Q ->
  wpAny (model X.prog X.w) X.A (evalPart e X.env) (λ u s'=>∃o H',Inv X jP σ H' s'/\IsPart u o/\Q o H') X.xe s
def zL3:TO:=λ Ω H Q=>Q none H
inductive IsI (Q:Option Int->Hp->Prop) (x:V) (H:Hp):Prop
 |mk (i:Int) (h:x = .int i) (q:Q (some i) H)
def tPart (t:TE):TO:=λ σ H Q=>t σ H (IsI Q)
section
variable {X:Cx}{e:Expr}{te:TE}{lo hi:Option Expr}{tl th:TO}{pos p2:Pos}
theorem zA7:PO X none zL3:=by
 intro jP s σ H Q I h;rw[evalPart_none];exact lB ⟨none,H,I,.none,h⟩
theorem zAh (h:PE X e te):PO X (some e) (tPart te):=by
 intro jP s σ H Q I hw;rw[evalPart_some];refine thn (h jP s σ H _ I hw) λ u s1 ⟨x,H1,I1,r1,q1⟩=>?_;obtain⟨i,rfl,q⟩:=q1;obtain⟨t,rfl⟩:=r1;exact⟨some i,H1,I1,.int i t,q⟩
def SlR (X:Cx) (r:V->Option Int->Option Int->Hp->VK->Prop):Prop :=
 ∀(jP:List (Addr × Obj)) (s:Shared) (σ:St) (H:Hp) (x:V) (v vl vu:Value) (lo hi:Option Int) (sl:Addr) (Q:VK),Inv X jP σ H s->RelV x v->s.heap.IsSliceOf sl vl vu .none->IsPart vl lo->IsPart vu hi->r x lo hi H Q ->
  ∃T id,typeLookup (.type T) "__getitem__" = pure (some (.builtin id))/\s.TypeIs v T/\wpAny (model X.prog X.w) X.A (getItem v (.ref sl)) (EP X jP σ Q) X.xe s
def tSl (r:V->Option Int->Option Int->Hp->VK->Prop) (te:TE) (tl th:TO):TE:=λ σ H Q=>te σ H λ x H1=>tl σ H1 λ l H2=>th σ H2 λ u H3=>r x l u H3 Q
theorem zAg {r:V->Option Int->Option Int->Hp->VK->Prop}(hr:SlR X r) (he:PE X e te) (hl:PO X lo tl) (hu:PO X hi th):PE X (.Subscript e (.Slice lo hi none p2) pos) (tSl r te tl th):=by
 intro jP s σ H Q I h;refine Subscript_ (thn (he jP s σ H _ I h) λ v s1 ⟨x,H1,I1,r1,q1⟩=>?_);refine wpAny_Slice (thn (hl jP s1 σ H1 _ I1 q1) λ vl s2 ⟨l,H2,I2,pl,q2⟩=>thn (hu jP s2 σ H2 _ I2 q2) λ vu s3 ⟨u,H3,I3,pu,q3⟩=>?_);rw[evalPart_none];refine lB ?_;have I4:Inv X jP σ H3 { s3 with heap:=s3.heap.push { cls:=.type "slice", data:=.fields #[vl,vu,.none] } }:=I3.kept (t':=s3.toks) λ b ob q=>lG _ q;obtain⟨T,id,hT,ht,hg⟩:=hr jP { s3 with heap:=s3.heap.push { cls:=.type "slice", data:=.fields #[vl,vu,.none] } } σ H3 x v vl vu l u s3.heap.objs.size Q I4 r1 (Heap.IsSliceOf.new ..) pl pu q3;show wpAny (model X.prog X.w) X.A (subscriptTail e (.Slice lo hi none p2) v (.ref s3.heap.objs.size)) (EP X jP σ Q) X.xe { s3 with heap:=s3.heap.push { cls:=.type "slice", data:=.fields #[vl,vu,.none] } };exact tail_any (ops:=[.ref s3.heap.objs.size,v]) ht hT hg (by with_unfolding_all rfl)
noncomputable def cutV (xs:List V) (lo hi:Option Int):List V:=(xs.drop (HT.sIx xs.length 0 lo)).take (HT.sIx xs.length xs.length hi - HT.sIx xs.length 0 lo)
theorem zEr (xs:List V) (lo hi:Option Int):(cutV xs lo hi).length<=xs.length:=by
 unfold cutV;rw[mN,mV];omega
def rSlT (K:W.Frag):V->Option Int->Option Int->Hp->VK->Prop:=λ x lo hi H Q=>∃a xs,x = .ref a/\SqT K H a xs /\
 ¬(HT.sIx xs.length 0 lo=0/\HT.sIx xs.length xs.length hi=xs.length)/\∀p,H p=none->Q (.ref p) (upd H p (.tup (cutV xs lo hi)))
theorem zLe:SlR X (rSlT X.K):=by
 intro jP s σ H x v vl vu lo hi sl Q I rx hs pl pu h;obtain⟨a,xs,rfl,hx,hw,q⟩:=h;cases rx;obtain⟨its,r,ht,hz⟩:=I.tuple hx;have hlen:its.toArray.size=xs.length:=by rw[mH];exact r.length.symm
 refine⟨"tuple", _,PyProof.Rows.slot_tuple_getitem.lookup,ht.typeIs,?_⟩;refine HT.getItem_tuple_cut ht hs pl pu (by rw[hlen];exact hw) ?_ (by rw[hlen];exact hz);rw[hlen];refine⟨.ref s.heap.objs.size,_,I.laid (t':=s.toks) (o:=.tup (cutV xs lo hi)) (λ b ob q=>lG _ q) (lQ _) ?_,rfl,q _ (I.hok.fresh (lQ _))⟩;exact⟨mG (zEr xs lo hi) hz,_,(r.drop (HT.sIx xs.length 0 lo)).take (HT.sIx xs.length xs.length hi - HT.sIx xs.length 0 lo),IsTup.new _ _⟩
def rCatT (K:W.Frag):R2:=λ x y H Q=>∃a b xs ys,x = .ref a/\y = .ref b/\SqT K H a xs/\SqT K H b ys/\xs≠[]/\xs.length+ys.length<=sizeLine /\
 (ys=[]->Q (.ref a) H)/\(ys≠[]->∀p,H p=none->Q (.ref p) (upd H p (.tup (xs++ys))))
theorem Vals.nil_iff {xs:List V}{us:List Value}(r:Vals xs us):us=[]↔xs=[]:=by
 cases r with
 |nil=>simp
 |cons _ _=>simp
theorem zMW:OpR X (binaryOp .Add) (rCatT X.K):=by
 intro jP s σ H x y v u Q I rx ry h;obtain⟨a,b,xs,ys,rfl,rfl,ha,hb,hx,hz,q1,q2⟩:=h;cases rx;cases ry;obtain⟨its,r1,p1,_⟩:=I.tuple ha;obtain⟨its2,r2,p2,_⟩:=I.tuple hb;refine HT.cat_tup p1 p2 (λ z=>hx (r1.nil_iff.mp z)) (λ z=>⟨.ref a,H,I,rfl,q1 (r2.nil_iff.mp z)⟩) (λ z=>?_) (by rw[←r1.length,←r2.length];exact hz);refine⟨.ref s.heap.objs.size,_,I.laid (t':=s.toks) (o:=.tup (xs++ys)) (λ b ob q=>lG _ q) (lQ _) ?_,rfl,q2 (λ w=>z (r2.nil_iff.mpr w)) _ (I.hok.fresh (lQ _))⟩;exact⟨by rw[mK];exact hz,_,r1.append r2,IsTup.new _ _⟩
end
noncomputable def ixN (n:Nat) (i:Int):Option Nat:=if 0<=i then (if i<n then some i.toNat else none) else if -(n:Int)<=i then some (i+n).toNat else none
noncomputable def atI {α:Type}(xs:List α) (i:Int):Option α:=(ixN xs.length i).bind λ j=>xs[j]?
theorem zMq {n:Nat}{i:Int}{j:Nat}(h:ixN n i=some j):seqIndex? i n=some j/\j<n /\ -(n:Int)<=i/\i<n:=by
 unfold ixN at h
 by_cases h0:0<=i
 ·rw[if_pos h0] at h
  by_cases h1:i<n
  ·rw[if_pos h1] at h
   have e:i.toNat=j:=mE h;exact⟨by rw[seqIndex_of h0 h1,e],by omega,by omega,h1⟩
  ·rw[if_neg h1] at h;cases h
 ·rw[if_neg h0] at h
  by_cases h1 : -(n:Int)<=i
  ·rw[if_pos h1] at h
   have e:(i+n).toNat=j:=mE h;exact⟨by rw[seqIndex_neg (by omega) h1,e],by omega,h1,by omega⟩
  ·rw[if_neg h1] at h;cases h
theorem zHB {α:Type}{xs:List α}{i:Int}{v:α}(h:atI xs i=some v):∃j,seqIndex? i xs.length=some j/\xs[j]?=some v/\j<xs.length /\ -(xs.length:Int)<=i/\i<xs.length:=by
 unfold atI at h;cases e:ixN xs.length i with
 |none=>rw[e] at h;cases h
 |some j =>
  rw[e] at h;obtain⟨h1,h2,h3,h4⟩:=zMq e;exact⟨j,h1,h,h2,h3,h4⟩
theorem zAQ {α:Type}{xs:List α}{j:Nat}{v:α}(h:xs[j]?=some v):atI xs (j:Int)=some v:=by
 have hj:j<xs.length:=(lJ.mp h).1
 have e:ixN xs.length (j:Int)=some j:=by
  unfold ixN;rw[if_pos (by omega),if_pos (by omega)];simp
 unfold atI;rw[e];exact h
def zKC (b:Expr):Prop:=∀o i,subscripted b false o i=operate [o,i] (getItem o i)
def IxR (X:Cx) (r:R2):Prop :=
 ∀(value slice:Expr) (jP:List (Addr × Obj)) (s:Shared) (σ:St) (H:Hp) (x y:V) (v u:Value) (Q:VK),Inv X jP σ H s->RelV x v->RelV y u->r x y H Q ->
  subscripted slice false v u=operate [v,u] (getItem v u)->wpAny (model X.prog X.w) X.A (subscriptTail value slice v u) (EP X jP σ Q) X.xe s
def MtR (X:Cx) (id:String) (r:V->List V->Hp->VK->Prop):Prop :=
 ∀(jP:List (Addr × Obj)) (s:Shared) (σ:St) (H:Hp) (x:V) (xs:List V) (v:Value) (us:List Value) (Q:VK),Inv X jP σ H s->RelV x v->Vals xs us->r x xs H Q ->
  wpAny (model X.prog X.w) X.A (call (.builtin id) (v::us)) (EP X jP σ Q) X.xe s
section
variable {X:Cx}{a b:Expr}{ta tb:TE}{pos:Pos}
theorem pe_ix {r:R2}(hr:IxR X r) (ha:PE X a ta) (hb:PE X b tb) (hs:zKC b):PE X (.Subscript a b pos) (tOp r ta tb):=by
 intro jP s σ H Q I h;exact Subscript_ (binT ha hb I h λ v u s2 x y H2 I2 rx ry q=>hr a b jP s2 σ H2 x y v u Q I2 rx ry q (hs _ _))
inductive rIxL (K:W.Frag) (x y:V) (H:Hp) (Q:VK):Prop
 |mk (p:Addr) (xs:List V) (i:Int) (v:V) (hx:x = .ref p) (hy:y = .int i) (s:SqL K H p xs) (a:atI xs i=some v) (q:Q v H)
inductive rIxT (K:W.Frag) (x y:V) (H:Hp) (Q:VK):Prop
 |mk (p:Addr) (xs:List V) (i:Int) (v:V) (hx:x = .ref p) (hy:y = .int i) (s:SqT K H p xs) (a:atI xs i=some v) (q:Q v H)
def rIxS:R2:=λ x y H Q=>∃z i c,x = .str z/\y = .int i/\z.length<=sizeLine/\atI z.cps.toList i=some c/\Q (.str ⟨#[c]⟩) H
theorem zA0:IxR X (rIxL X.K):=by
 intro value slice jP s σ H x y v u Q I rx ry h hs;obtain⟨p,xs,i,z,rfl,rfl,hq,he,q⟩:=h;cases rx;obtain⟨t,rfl⟩:=ry;obtain⟨its,r,pl,hz⟩:=I.list hq;obtain⟨j,h1,h2,h3,h4,h5⟩:=zHB he;obtain⟨w,ew,rw'⟩:=r.get h2;have hl:=r.length;have hn:=zGJ;have fin:EP X jP σ Q w s:=⟨z,H,I,rw',q⟩
 by_cases h0:0<=i
 ·have hj:i.toNat=j:=by
   rw[seqIndex_of h0 h5] at h1;exact mE h1
  exact item_listR pl.isList h0 (by omega) (by rw[hj];simpa using ew) fin hs
 ·have hj:(i+(its.toArray.size:Int)).toNat=j:=by
   rw[seqIndex_neg (by omega) h4] at h1;rw[mH,←hl];exact mE h1
  exact subscriptTail_builtinR (x:=w) pl.isList.typeIs slot_list_getitem.lookup
   (wpAny_getItem_list_neg (Q:=λ r s'=>r=w/\EP X jP σ Q r s') pl.isList (by omega) (by rw[mH]<;>omega) (by omega) (by rw[hj];simpa using ew) ⟨rfl,fin⟩) hs
theorem zAS:IxR X (rIxT X.K):=by
 intro value slice jP s σ H x y v u Q I rx ry h hs;obtain⟨p,xs,i,z,rfl,rfl,hq,he,q⟩:=h;cases rx;obtain⟨t,rfl⟩:=ry;obtain⟨its,r,pl,hz⟩:=I.tuple hq;obtain⟨j,h1,h2,h3,h4,h5⟩:=zHB he;obtain⟨w,ew,rw'⟩:=r.get h2;have hl:=r.length;have hn:=zGJ;have fin:EP X jP σ Q w s:=⟨z,H,I,rw',q⟩
 exact subscriptTail_builtinR (x:=w) pl.typeIs slot_tuple_getitem.lookup
  (getItem_tuple (j:=j) (Q:=λ r s'=>r=w/\EP X jP σ Q r s') pl (by omega) (by omega) (by rw[mH,←hl];exact h1) (by simpa using ew) ⟨rfl,fin⟩) hs
theorem zLq:IxR X rIxS:=by
 intro value slice jP s σ H x y v u Q I rx ry h hs;obtain⟨z,i,c,rfl,rfl,hz,he,q⟩:=h;obtain⟨t,rfl⟩:=rx;obtain⟨t',rfl⟩:=ry;obtain⟨j,h1,h2,h3,h4,h5⟩:=zHB he;have hl:z.cps.toList.length=z.length:=by simp[Str.length]
 rw[hl] at h1 h4 h5;have hn:=zGJ
 exact tail_any (typeIs_str s z t) slot_str_getitem.lookup (getItem_str (c:=c) (by
  have e1:decide (i < -(2 ^ 63:Int))=false:=decide_eq_false (by omega);have e2:decide (i ≥ 2 ^ 63)=false:=decide_eq_false (by omega);rw[e1,e2,Bool.or_false]) (by rw[h1];simpa using h2) ⟨.str ⟨#[c]⟩,H,I.tok _,⟨_,rfl⟩,q⟩) hs
theorem zF8 (lo hi:Option Int) (n:Nat):(sliceBounds lo hi none n).1=((HT.sIx n 0 lo:Nat):Int)/\(sliceBounds lo hi none n).2.1=((HT.sIx n n hi:Nat):Int)/\(sliceBounds lo hi none n).2.2=1:=by
 refine⟨?_,?_,rfl⟩
 ·cases lo with
  |none=>simp[sliceBounds,HT.sIx]
  |some i =>
   simp only[sliceBounds,HT.sIx,Option.getD_none,show (1:Int) > 0 by decide,if_true]
   by_cases h:i<0
   ·simp only[h,if_true]<;>omega
   ·simp only[h,if_false]<;>omega
 ·cases hi with
  |none=>simp[sliceBounds,HT.sIx]
  |some i =>
   simp only[sliceBounds,HT.sIx,Option.getD_none,show (1:Int) > 0 by decide,if_true]
   by_cases h:i<0
   ·simp only[h,if_true]<;>omega
   ·simp only[h,if_false]<;>omega
theorem zFT (its:List Value) (lo hi:Option Int):slicePick its.toArray lo hi none=((its.drop (HT.sIx its.length 0 lo)).take (HT.sIx its.length its.length hi - HT.sIx its.length 0 lo)).toArray:=by
 obtain⟨h1,h2,h3⟩:=zF8 lo hi its.toArray.size;unfold slicePick;rw[h1,h2,h3];simp only[sliceRange_one,pick_run,mH]<;>rfl
inductive rSlL (K:W.Frag) (x:V) (lo hi:Option Int) (H:Hp) (Q:VK):Prop
 |mk (a:Addr) (xs:List V) (hx:x = .ref a) (s:SqL K H a xs) (q:∀p,H p=none->Q (.ref p) (upd H p (.lst (cutV xs lo hi))))
theorem zBf:SlR X (rSlL X.K):=by
 intro jP s σ H x v vl vu lo hi sl Q I rx hs pl pu h;obtain⟨a,xs,rfl,hx,q⟩:=h;cases rx;obtain⟨its,r,ht,hz⟩:=I.list hx;have hlen:=r.length;refine⟨"list", _,slot_list_getitem.lookup,ht.isList.typeIs,?_⟩;refine wpAny_getItem_list_slice ht.isList hs pl pu .none (by simp) ?_ (by rw[mH]<;>omega);rw[zFT,←hlen];refine⟨.ref s.heap.objs.size,_,I.laid (t':=s.toks) (o:=.lst (cutV xs lo hi)) (λ b ob q=>lG _ q) (lQ _) ?_,rfl,q _ (I.hok.fresh (lQ _))⟩;exact⟨mG (zEr xs lo hi) hz,_,0,(r.drop (HT.sIx xs.length 0 lo)).take (HT.sIx xs.length xs.length hi - HT.sIx xs.length 0 lo),lH _ rfl⟩
noncomputable def flatV:V->Bool
 |.non=>true
 |.bl _=>true
 |.int _=>true
 |.str _=>true
 |_=>false
noncomputable def eqV:V->V->Bool
 |.non,.non=>true
 |.bl a,.bl b=>a == b
 |.bl a,.int b=>(if a then 1 else 0) == b
 |.int a,.bl b=>a == (if b then 1 else 0)
 |.int a,.int b=>a == b
 |.str a,.str b=>a == b
 |_,_=>false
theorem zN3 {A:Around}{s:Shared}{y x:V}{u v:Value}(ry:RelV y u) (rx:RelV x v) (fy:flatV y=true) (fx:flatV x=true):SeqAt.EqAt A s u v (eqV y x):=by
 cases y with
 |non =>
  cases ry;cases x with
  |non=>cases rx;exact SeqAt.EqAt.same _
  |bl b=>cases rx;exact SeqAt.EqAt.none_bool b
  |int b=>obtain⟨t,rfl⟩:=rx;exact SeqAt.EqAt.none_int b t
  |str b=>obtain⟨t,rfl⟩:=rx;exact SeqAt.EqAt.none_str b t
  |_=>exact absurd (show false=true from fx) lX
 |bl a =>
  cases ry;cases x with
  |non=>cases rx;exact SeqAt.EqAt.bool_none a
  |bl b=>cases rx;exact SeqAt.EqAt.bool_bool a b
  |int b=>obtain⟨t,rfl⟩:=rx;exact SeqAt.EqAt.bool_int a b t
  |str b=>obtain⟨t,rfl⟩:=rx;exact SeqAt.EqAt.bool_str a b t
  |_=>exact absurd (show false=true from fx) lX
 |int a =>
  obtain⟨t',rfl⟩:=ry;cases x with
  |non=>cases rx;exact SeqAt.EqAt.int_none a t'
  |bl b=>cases rx;exact SeqAt.EqAt.int_bool a t' b
  |int b=>obtain⟨t,rfl⟩:=rx;exact SeqAt.EqAt.int_int a t' b t
  |str b=>obtain⟨t,rfl⟩:=rx;exact SeqAt.EqAt.int_str a t' b t
  |_=>exact absurd (show false=true from fx) lX
 |str a =>
  obtain⟨t',rfl⟩:=ry;cases x with
  |non=>cases rx;exact SeqAt.EqAt.str_none a t'
  |bl b=>cases rx;exact SeqAt.EqAt.str_bool a t' b
  |int b=>obtain⟨t,rfl⟩:=rx;exact SeqAt.EqAt.str_int a t' b t
  |str b=>obtain⟨t,rfl⟩:=rx;exact SeqAt.EqAt.str_str a t' b t
  |_=>exact absurd (show false=true from fx) lX
 |_=>exact absurd (show false=true from fy) lX
noncomputable def eqU (x:V) (u:Value):Bool:=match u with
 |.none=>eqV .non x
 |.bool b=>eqV (.bl b) x
 |.int i _=>eqV (.int i) x
 |.str z _=>eqV (.str z) x
 |_=>false
theorem zLw {x y:V}{u:Value}(r:RelV y u) (f:flatV y=true):eqU x u=eqV y x:=by
 cases y with
 |non=>cases r;rfl
 |bl b=>cases r;rfl
 |int i=>obtain⟨t,rfl⟩:=r;rfl
 |str z=>obtain⟨t,rfl⟩:=r;rfl
 |_=>exact absurd (show false=true from f) lX
theorem zEw {x:V}{xs:List V}{us:List Value}(h:Vals xs us):xs.all flatV=true->us.any (eqU x)=xs.any λ y=>eqV y x:=by
 induction h with
 |nil=>exact λ U=>rfl
 |cons r t ih=>intro f;rw[List.all_cons,Bool.and_eq_true] at f;rw[List.any_cons,List.any_cons,zLw r f.1,ih f.2]
theorem zDI {A:Around}{s:Shared}{x:V}{v:Value}(rx:RelV x v) (fx:flatV x=true){xs:List V}{us:List Value}(z:Vals xs us):xs.all flatV=true->∀u∈us,SeqAt.EqAt A s u v (eqU x u):=by
 induction z with
 |nil=>exact λ U u hu=>nomatch hu
 |cons r t ih =>
  intro f u' hu;rw[List.all_cons,Bool.and_eq_true] at f;rcases nL.mp hu with rfl|hu
  ·rw[zLw r f.1];exact zN3 r rx f.1 fx
  ·exact ih f.2 u' hu
noncomputable def inV (x:V) (xs:List V):Bool:=xs.any λ y=>eqV y x
inductive rIn (K:W.Frag) (neg:Bool) (x y:V) (H:Hp) (Q:VK):Prop
 |mk (p:Addr) (xs:List V) (hy:y = .ref p) (s:SqL K H p xs\/SqT K H p xs) (f:flatV x=true) (g:xs.all flatV=true) (q:Q (.bl (if neg then !inV x xs else inV x xs)) H)
theorem zBo:OpR X (compareOp .In) (rIn X.K false):=by
 intro jP s σ H x y v u Q I rx ry h;obtain⟨p,xs,rfl,hq,fx,fs,q⟩:=h;cases ry;rcases hq with hq|hq
 ·obtain⟨its,r,pl,hz⟩:=I.list hq
  refine SeqAt.in_listAt (eqU x) pl.isList (λ w hw=>zDI rx fx r fs w (by simpa using hw)) ⟨.bl _,H,I,rfl,?_⟩;rw[show its.toArray.any (eqU x)=its.any (eqU x) by simp,zEw r fs];exact q
 ·obtain⟨its,r,pl,hz⟩:=I.tuple hq
  refine SeqAt.in_tupleAt (eqU x) pl (λ w hw=>zDI rx fx r fs w (by simpa using hw)) ⟨.bl _,H,I,rfl,?_⟩;rw[show its.toArray.any (eqU x)=its.any (eqU x) by simp,zEw r fs];exact q
theorem zDx:OpR X (compareOp .NotIn) (rIn X.K true):=by
 intro jP s σ H x y v u Q I rx ry h;obtain⟨p,xs,rfl,hq,fx,fs,q⟩:=h;cases ry;rcases hq with hq|hq
 ·obtain⟨its,r,pl,hz⟩:=I.list hq
  refine SeqAt.notIn_listAt (eqU x) pl.isList (λ w hw=>zDI rx fx r fs w (by simpa using hw)) ⟨.bl _,H,I,rfl,?_⟩;rw[show its.toArray.any (eqU x)=its.any (eqU x) by simp,zEw r fs];exact q
 ·obtain⟨its,r,pl,hz⟩:=I.tuple hq
  refine SeqAt.notIn_tupleAt (eqU x) pl (λ w hw=>zDI rx fx r fs w (by simpa using hw)) ⟨.bl _,H,I,rfl,?_⟩;rw[show its.toArray.any (eqU x)=its.any (eqU x) by simp,zEw r fs];exact q
inductive rLen1 (K:W.Frag) (xs:List V) (H:Hp) (Q:VK):Prop
 |mk (p:Addr) (ys:List V) (hx:xs=[.ref p]) (s:SqL K H p ys\/SqT K H p ys) (q:Q (.int ys.length) H)
theorem zD2:CallR X (.builtin "len") (rLen1 X.K):=by
 intro jP s σ H xs us Q I r h;obtain⟨p,ys,rfl,hq,q⟩:=h;obtain⟨u,rfl,rx⟩:=vals1 r;cases rx;have hn:=zGJ;rcases hq with hq|hq
 ·obtain⟨its,r',pl,hz⟩:=I.list hq
  have hlen:=r'.length;exact Calls.call_len_list pl.isList (by simp only[mH]<;>omega) ⟨.int ys.length,H,I.tok _,⟨s.toks+1,by rw[mH,hlen]⟩,q⟩
 ·obtain⟨its,r',pl,hz⟩:=I.tuple hq
  have hlen:=r'.length;exact len_tuple pl (by simp only[mH]<;>omega) ⟨.int ys.length,H,I.tok _,⟨s.toks+1,by rw[mH,hlen]⟩,q⟩
theorem cL {X:Cx}{e:Expr}{es:List Expr}{t:TA}{p pos:Pos}(hm:X.mg "len"=none)(ha:PA X (e::es) t)(hg:Gl X "len":=by rfl)(he:starEach (e::es) X.env=(false,eval e X.env)::starEach es X.env:=by rfl)(hpl:(backTo pos (starEach es X.env)).any (·.1)=false:=by rfl):PE X (.Call (.Name "len" p) (e::es) [] pos) (tCB (rLen1 X.K) t):=zAt zD2 hg hm PySem.boot_len ha (by decide) (by decide) he hpl
theorem zGW:CallR X (.type "list") (λ xs H Q=>∃p ys,xs=[.ref p]/\(SqL X.K H p ys\/SqT X.K H p ys)/\∀l,H l=none->Q (.ref l) (upd H l (.lst ys))):=by
 intro jP s σ H xs us Q I r h;obtain⟨p,ys,rfl,hq,q⟩:=h;obtain⟨u,rfl,rx⟩:=vals1 r;cases rx
 have fin:∀(its:List Value),Vals ys its->ys.length<=sizeLine->∀(h':Heap) (c':Nat),(∀b o',s.heap.get? b=some o'->h'.get? b=some o') ->
   h'.get? s.heap.objs.size=some { cls:=.type "list", dict:=none,data:=.seq its.toArray c',slots:=#[] }->EP X jP σ Q (.ref s.heap.objs.size) { s with heap:=h' }:=λ its r' hz h' c' kp e =>
  ⟨.ref s.heap.objs.size,_,I.laid (t':=s.toks) kp (lQ _) (show ObjOk X.prog X.w _ h' _ (.lst ys) from⟨hz,its,c',r',e⟩),rfl,q _ (I.hok.fresh (lQ _))⟩
 rcases hq with hq|hq
 ·obtain⟨its,r',pl,hz⟩:=I.list hq
  have hlen:=r'.length;obtain⟨o,ho,hc,n,hd⟩:=pl.isList;exact call_list_seq p (.inl rfl) ho hc hd (λ h' c' kp e=>fin its r' hz h' c' kp e) (by simp only[mH]<;>omega)
 ·obtain⟨its,r',pl,hz⟩:=I.tuple hq
  have hlen:=r'.length;obtain⟨o,ho,hc,n,hd⟩:=pl;exact call_list_seq p (.inr rfl) ho hc hd (λ h' c' kp e=>fin its r' hz h' c' kp e) (by simp only[mH]<;>omega)
theorem zBe:CallR X (.type "tuple") (λ xs H Q=>∃p ys,xs=[.ref p]/\((SqL X.K H p ys/\∀l,H l=none->Q (.ref l) (upd H l (.tup ys)))\/(SqT X.K H p ys/\Q (.ref p) H))):=by
 intro jP s σ H xs us Q I r h;obtain⟨p,ys,rfl,h⟩:=h;obtain⟨u,rfl,rx⟩:=vals1 r;cases rx;rcases h with ⟨hq,q⟩|⟨hq,q⟩
 ·obtain⟨its,r',pl,hz⟩:=I.list hq
  have hlen:=r'.length;refine call_tuple_list pl.isList (λ h' kp=>?_) (by simp only[mH]<;>omega);have I1:Inv X jP σ H { s with heap:=h' }:=I.kept (t':=s.toks) kp
  have I2:Inv X jP σ (upd H h'.objs.size (.tup ys)) { s with heap:=h'.push { cls:=.type "tuple", data:=.seq its.toArray } } :=
   I1.laid (t':=s.toks) (λ b o e=>lG _ e) (lQ _) (show ObjOk X.prog X.w _ _ _ (.tup ys) from⟨hz,its,r',IsTup.new _ _⟩)
  exact⟨.ref h'.objs.size,_,I2,rfl,q _ (I1.hok.fresh (lQ _))⟩
 ·obtain⟨its,r',pl,hz⟩:=I.tuple hq
  exact call_tuple_same pl ⟨.ref p,H,I,rfl,q⟩
def tyV (K:W.Frag) (T:String) (x:V) (H:Hp):Prop:=match x with
 |.str _=>T = "str"
 |.int _=>T = "int"
 |.ref p=>(T = "list" /\ ∃xs,SqL K H p xs)\/(T = "tuple" /\ ∃o,K.lookup p=some o/\o.cls = .type "tuple" /\ o.dict=none) \/
   (T = "dict" /\ ((∃kvs,H p=some (.dK kvs))\/∃kvs,H p=some (.dT kvs)))\/(T = "set" /\ ∃S n,H p=some (.set S n))
 |_=>False
theorem zNC {jP:List (Addr × Obj)}{σ:St}{H:Hp}{s:Shared}{T:String}{x:V}{v:Value}(I:Inv X jP σ H s) (r:RelV x v) (ty:tyV X.K T x H) :
  s.TypeIs v T/\∀a,v = .ref a->∃ob,s.heap.get? a=some ob/\ob.dict=none:=by
 cases x with
 |str z =>
  obtain⟨t,rfl⟩:=r;cases (show T = "str" from ty);exact⟨typeIs_str s z t,λ Ω e=>nomatch e⟩
 |int i =>
  obtain⟨t,rfl⟩:=r;cases (show T = "int" from ty);exact⟨typeIs_int s i t,λ Ω e=>nomatch e⟩
 |ref p =>
  cases r;rcases ty with ⟨rfl,xs,hq⟩|⟨rfl,o,hk,hc,hd⟩|⟨rfl,hk⟩|⟨rfl,S,n,hk⟩
  ·obtain⟨its,_,pl,_⟩:=I.list hq
   refine⟨pl.isList.typeIs,λ a e=>?_⟩;cases e;obtain⟨o,n,e,c,hd,_⟩:=pl;exact⟨o,e,hd⟩
  ·refine⟨⟨o,I.kIn p o hk,hc⟩,λ a e=>?_⟩
   cases e;exact⟨o,I.kIn _ o hk,hd⟩
  ·have z:∃o,s.heap.get? p=some o/\o.ExactDict:=by
    rcases hk with ⟨kvs,hk⟩|⟨kvs,hk⟩
    ·obtain⟨_,_,_,_,o,_,_,e,ex,_⟩:=I.hok p _ hk
     exact⟨o,e,ex⟩
    ·obtain⟨_,_,_,_,o,_,_,e,ex,_⟩:=I.hok p _ hk
     exact⟨o,e,ex⟩
   obtain⟨o,e,ex⟩:=z;refine⟨⟨o,e,ex.1⟩,λ a e2=>?_⟩;cases e2;exact⟨o,e,ex.2.1⟩
  ·obtain⟨o,_,_,_,e,ex,_⟩:=I.hok p _ hk
   refine⟨⟨o,e,ex.1⟩,λ a e2=>?_⟩;cases e2;exact⟨o,e,ex.2.1⟩
 |_=>exact False.elim ty
def tBM (K:W.Frag) (T:String) (r:V->List V->Hp->VK->Prop) (to:TE) (t:TA):TE:=λ σ H Q=>to σ H λ x H1=>tyV K T x H1/\t σ H1 λ xs H2=>r x xs H2 Q
variable {o e:Expr}{es:List Expr}{to:TE}{t:TA}{name:Str}{apos cpos:Pos}{T id:String}{r:V->List V->Hp->VK->Prop}
theorem pe_bm (pa:PlainAttrs T) (slot:Slot T name id) (hty:typeOf (.builtin id)=pure (.type "method_descriptor")) (hm:MtR X id r) (ho:PE X o to) (ha:PA X (e::es) t)
  (hbase:attributeBase o name X.env (eval o X.env)=eval o X.env:=by rfl)
  (hfew:((backTo cpos (starEach (e::es) X.env)).all (λ x=>!x.1) && (backToKw cpos (keywordEach [] X.env)).all (λ x=>x.1.isSome)
   && decide ((e::es).length+([]:List Keyword).length+(if ([]:List Keyword).isEmpty then 0 else 1)<30))=true:=by rfl)
  (hline:(apos.endLine == cpos.line)=true:=by rfl) (hs:starEach (e::es) X.env=(false,eval e X.env)::starEach es X.env:=by rfl) (hplain:(backTo cpos (starEach es X.env)).any (·.1)=false:=by rfl) :
  PE X (.Call (.Attribute o name apos) (e::es) [] cpos) (tBM X.K T r to t):=by
 intro jP s σ H Q I h;refine wpAny_Call_method_late hbase hfew hline rfl (thn (ho jP s σ H _ I h) λ v s1 ⟨x,H1,I1,r1,ty,q1⟩=>?_);obtain⟨h1,h2⟩:=zNC I1 r1 ty;refine⟨T,id,pa,slot,hty,h1,h2,?_⟩;have hA:=ha cpos jP s1 σ H1 _ I1 q1;rw[hs] at hA ⊢;refine Calls.callWith_builtin (by show (false || (backTo cpos (starEach es X.env)).any (·.1))=false;rw[hplain]<;>rfl) (Calls.evalArgs_plain ?_);exact thn hA λ us s2 ⟨vs,H2,I2,r2,q2⟩=>hm jP s2 σ H2 x vs v us Q I2 r1 r2 q2
end
def MtM (X:Cx) (id:String) (r:V->List V->Hp->VK->Prop):Prop :=
 ∀(jP:List (Addr × Obj)) (s:Shared) (σ:St) (H:Hp) (x:V) (xs:List V) (v:Value) (us:List Value) (Q:VK),Inv X jP σ H s->RelV x v->Vals xs us->r x xs H Q ->
  wpAny (model X.prog X.w) X.A (call (.builtin id) (v::us)) (EP X jP σ Q) X.xe s
theorem Vals.one {x:V}{us:List Value}(h:Vals [x] us):∃u,us=[u]/\RelV x u:=by
 cases h with|cons r t=>cases t;exact⟨_,rfl,r⟩
section
variable {X:Cx}{jP:List (Addr × Obj)}{σ:St}{H:Hp}{s:Shared}{l b:Addr}{xs ys zs:List V}
theorem Inv.lset {its its':List Value}{n:Nat}{f:Array Value->Array Value}{t':Nat}(I:Inv X jP σ H s) (hH:H l=some (.lst xs))
  (e:s.heap.get? l=some { cls:=.type "list", data:=.seq its.toArray n }) (hf:f its.toArray=its'.toArray) (hv:Vals ys its') (hz:ys.length<=sizeLine) :
  Inv X jP σ (upd H l (.lst ys)) { s with heap:=s.heap.update l (Obj.mapSeq f),toks:=t' }:=by
 have q:=PySem.IsL.update e f;rw[hf] at q;refine I.write (x:=l) (e:=l) (by rw[hH];exact trivial) (.inl rfl) (λ b' u hb hu=>(Heap.get?_update_other s.heap (Obj.mapSeq f) (Ne.symm hb)).trans hu) ⟨_,q⟩ ?_;exact⟨hz,its',_,hv,q⟩
theorem Inv.lnew {its:List Value}{t':Nat}(I:Inv X jP σ H s) (hv:Vals ys its) (hz:ys.length<=sizeLine) :
  Inv X jP σ (upd H s.heap.objs.size (.lst ys)) { s with heap:=s.heap.push { cls:=.type "list", data:=.seq its.toArray },toks:=t' } :=
 I.laid (λ Ω Ω q=>lG _ q) (lQ _) ⟨hz,its,0,hv,lH _ rfl⟩
theorem Inv.fresh (I:Inv X jP σ H s):H s.heap.objs.size=none:=I.hok.fresh (lQ _)
theorem Inv.lstM (I:Inv X jP σ H s) (hH:H l=some (.lst xs)):xs.length<=sizeLine/\∃(its:List Value) (n:Nat),Vals xs its/\xs.length=its.length/\s.heap.get? l=some { cls:=.type "list", data:=.seq its.toArray n }:=by
 obtain⟨z,its,n,r,e⟩:=I.hok l _ hH;exact⟨z,its,n,r,r.length,e⟩
theorem zHe {n:Nat}(h:n<=sizeLine):Builtin.List.listTooLong n=false:=by
 unfold Builtin.List.listTooLong;exact decide_eq_false (by omega)
end
section
variable {X:Cx}
inductive zIs (x:V) (vs:List V) (H:Hp) (Q:VK):Prop
 |mk (l:Addr) (xs:List V) (y:V) (hx:x = .ref l) (hv:vs=[y]) (e:H l=some (.lst xs)) (z:xs.length<sizeLine) (q:Q .non (upd H l (.lst (xs++[y]))))
theorem zDH:MtM X "list.append" zIs:=by
 intro jP s σ H x vs v us Q I rx rv h;obtain⟨l,xs,y,rfl,rfl,hH,hz,q⟩:=h;cases rx;obtain⟨u,rfl,ru⟩:=rv.one;obtain⟨z,its,n,r,hl,e⟩:=I.lstM hH;refine call_meets F.slot_list_append ⟨_,e,rfl⟩ F.entry_list_append (F.args_list_append_2 _ _) (PySem.list_append l its.toArray n u (by rw[mH];omega)) ⟨e,?_⟩;refine⟨.non,_,I.lset (its':=its++[u]) hH e (by simp) (r.append (.cons ru .nil)) ?_,rfl,q⟩;rw[mK,List.length_singleton];omega
theorem pAp {X:Cx}{o e:Expr}{to te:TE}{apos cpos pos:Pos}(ho:PE X o to)(he:PE X e te)(h1:attributeBase o "append" X.env (eval o X.env)=eval o X.env:=by rfl)(h2:((backTo cpos (starEach [e] X.env)).all (λ x=>!x.1)&&(backToKw cpos (keywordEach [] X.env)).all (λ x=>x.1.isSome)&&decide ([e].length+([]:List Keyword).length+(if ([]:List Keyword).isEmpty then 0 else 1)<30))=true:=by rfl)(h3:(apos.endLine==cpos.line)=true:=by rfl)(h4:starEach [e] X.env=(false,eval e X.env)::starEach [] X.env:=by rfl)(h5:(backTo cpos (starEach [] X.env)).any (·.1)=false:=by rfl)(h6:swapsWith (.Call (.Attribute o "append" apos) [e] [] cpos) none pos.line X.env=pure false:=by rfl):PS X (.Expr (.Call (.Attribute o "append" apos) [e] [] cpos) pos) (tDrop (tBM X.K "list" zIs to (tCons te tNil))):=zCU (pe_bm rS PySem.F.slot_list_append PySem.F.type_list_append zDH ho (zAB he zAD h4) h1 h2 h3 h4 h5) h6
def zMG:V->List V->Hp->VK->Prop:=λ x vs H Q=>∃l b xs zs,x = .ref l/\vs=[.ref b]/\H l=some (.lst xs)/\H b=some (.lst zs)/\xs.length+zs.length<=sizeLine/\Q .non (upd H l (.lst (xs++zs)))
theorem zDG:MtM X "list.extend" zMG:=by
 intro jP s σ H x vs v us Q I rx rv h;obtain⟨l,b,xs,zs,rfl,rfl,hH,hB,hz,q⟩:=h;cases rx;obtain⟨u,rfl,ru⟩:=rv.one;cases ru;obtain⟨z,its,n,r,hl,e⟩:=I.lstM hH;obtain⟨z2,its2,n2,r2,hl2,e2⟩:=I.lstM hB;have hsz:its.toArray.size+its2.toArray.size<=sizeLine:=by rw[mH,mH];omega
 have hlong:¬(!its.toArray.isEmpty && Builtin.List.listTooLong (its.toArray.size+its2.toArray.size))=true:=by
  rw[zHe hsz,Bool.and_false];exact lX
 refine call_meets F.slot_list_extend ⟨_,e,rfl⟩ F.entry_list_extend (F.args_list_extend_2 _ _)
  (AutoSeq1.list_extend_list_list_0 l its.toArray n b its2.toArray n2 hlong (by rw[mH];omega) (by omega)) ⟨e,e2,?_⟩
 refine⟨.non,_,I.lset (its':=its++its2) hH e (by simp) (r.append r2) ?_,rfl,q⟩;rw[mK];omega
inductive rCat (x y:V) (H:Hp) (Q:VK):Prop
 |mk (l b:Addr) (xs zs:List V) (hx:x = .ref l) (hy:y = .ref b) (e:H l=some (.lst xs)) (e2:H b=some (.lst zs)) (z:xs.length+zs.length<=sizeLine) (q:∀p,H p=none->Q (.ref p) (upd H p (.lst (xs++zs))))
theorem zI6:OpR X (binaryOp .Add) rCat:=by
 intro jP s σ H x y v u Q I rx ry h;obtain⟨l,b,xs,zs,rfl,rfl,hH,hB,hz,q⟩:=h;cases rx;cases ry;obtain⟨z,its,n,r,hl,e⟩:=I.lstM hH;obtain⟨z2,its2,n2,r2,hl2,e2⟩:=I.lstM hB;refine PySem.P.add_list e e2 ?_ (by rw[mH,mH];omega);have ea:its.toArray++its2.toArray=(its++its2).toArray:=by simp
 rw[ea];exact⟨.ref _,_,I.lnew (t':=s.toks) (r.append r2) (by rw[mK];omega),rfl,q _ I.fresh⟩
end
section
variable {κ:Type} [DecidableEq κ]
noncomputable def valV (kvs:List (κ × V)) (k:κ):Option V:=(kvs.find? λ kv=>decide (kv.1=k)).map (·.2)
noncomputable def putK (kvs:List (κ × V)) (k:κ) (v:V):List (κ × V) :=
 if (kvs.any λ kv=>decide (kv.1=k))=true then kvs.map (λ kv=>if kv.1=k then (kv.1,v) else kv) else kvs++[(k,v)]
theorem zBH {p:κ × V}{r:List (κ × V)}{k:κ}(e:p.1=k):valV (p::r) k=some p.2:=by simp[valV,List.find?_cons,e]
theorem zBI {p:κ × V}{r:List (κ × V)}{k:κ}(e:¬p.1=k):valV (p::r) k=valV r k:=by simp[valV,List.find?_cons,e]
theorem zC7 (k:κ):∀kvs:List (κ × V),(kvs.any λ kv=>decide (kv.1=k))=(valV kvs k).isSome
 |[]=>rfl
 |p::r=>by
  rw[List.any_cons]
  by_cases e:p.1=k
  ·simp only[zBH e,decide_eq_true e,Bool.true_or,Option.isSome_some]
  ·rw[zBI e,decide_eq_false e,Bool.false_or];exact zC7 k r
theorem zHE (k j:κ) (y:V):∀kvs:List (κ × V),valV (kvs.map λ kv=>if kv.1=k then (kv.1,y) else kv) j=(valV kvs j).map λ x=>if j=k then y else x
 |[]=>rfl
 |p::r=>by
  have ih:=zHE k j y r;rw[mL]
  by_cases h:p.1=k
  ·rw[if_pos h]
   by_cases e:p.1=j
   ·rw[zBH (p:=(p.1,y)) e,zBH e,Option.map_some,if_pos (e.symm.trans h)]
   ·rw[zBI (p:=(p.1,y)) e,zBI e,ih]
  ·rw[if_neg h]
   by_cases e:p.1=j
   ·rw[zBH (p:=p) e,zBH e,Option.map_some,if_neg (λ z=>h (e.trans z))]
   ·rw[zBI (p:=p) e,zBI e,ih]
theorem zFu (k j:κ) (y:V):∀kvs:List (κ × V),valV kvs k=none->valV (kvs++[(k,y)]) j=if j=k then some y else valV kvs j
 |[],_=>by
  by_cases e:k=j
  ·rw[if_pos e.symm];exact zBH (p:=(k,y)) e
  ·rw[if_neg (λ z=>e z.symm)];exact zBI (p:=(k,y)) e
 |p::r,hn=>by
  rw[List.cons_append];have hk:¬p.1=k:=λ z=>by rw[zBH z] at hn;cases hn
  rw[zBI hk] at hn;have ih:=zFu k j y r hn
  by_cases e:p.1=j
  ·rw[zBH e,zBH e,if_neg (λ z=>hk (e.trans z))]
  ·rw[zBI e,zBI e,ih]
theorem zD6 (kvs:List (κ × V)) (k j:κ) (y:V):valV (putK kvs k y) j=if j=k then some y else valV kvs j:=by
 unfold putK
 by_cases a:(kvs.any λ kv=>decide (kv.1=k))=true
 ·rw[if_pos a,zHE]
  rw[zC7] at a
  by_cases e:j=k
  ·obtain⟨x,hx⟩:=Option.isSome_iff_exists.mp a
   rw[if_pos e,e,hx,Option.map_some,if_pos rfl]
  ·rw[if_neg e]
   cases valV kvs j with
   |none=>rfl
   |some x=>rw[Option.map_some,if_neg e]
 ·rw[if_neg a]
  refine zFu k j y kvs ?_;rw[zC7] at a;cases q:valV kvs k with
  |none=>rfl
  |some x=>rw[q] at a;exact(a rfl).elim
theorem zBp (kvs:List (κ × V)) (k:κ) (v:V):(putK kvs k v).length<=kvs.length+1:=by
 unfold putK;split
 ·rw[mD];omega
 ·rw[mK,mM,List.length_nil];omega
theorem RelO.isSome_eq {o:Option V}{u:Option Value}(r:RelO o u):o.isSome=u.isSome:=by
 cases o with
 |none=>cases u with
  |none=>rfl
  |some _=>exact(show False from r).elim
 |some _=>cases u with
  |none=>exact(show False from r).elim
  |some _=>rfl
theorem RelO.getD {o:Option V}{u:Option Value}{d:V}{d':Value}(r:RelO o u) (rd:RelV d d'):RelV (o.getD d) (u.getD d'):=by
 cases o with
 |none=>cases u with
  |none=>exact rd
  |some _=>exact(show False from r).elim
 |some _=>cases u with
  |none=>exact(show False from r).elim
  |some _=>exact r
theorem KV.val {kvs:List (κ × V)}{vs:List (κ × Value)}(r:KV kvs vs) (k:κ):RelO (valV kvs k) (valueAt vs k):=by
 unfold KV at r
 induction r with
 |nil=>exact True.intro
 | @cons p q ps qs h t ih =>
  obtain⟨h1,h2⟩:=h
  by_cases e:p.1=k
  ·have e':q.1=k:=h1.symm.trans e
   have b:valueAt (q::qs) k=some q.2:=by simp[valueAt,List.find?_cons,e']
   rw[zBH e,b];exact h2
  ·have e':¬q.1=k:=λ z=>e (h1.trans z)
   have b:valueAt (q::qs) k=valueAt qs k:=by simp[valueAt,List.find?_cons,e']
   rw[zBI e,b];exact ih
theorem KV.any {kvs:List (κ × V)}{vs:List (κ × Value)}(r:KV kvs vs) (k:κ):(kvs.any λ kv=>decide (kv.1=k))=vs.any λ kv=>decide (kv.1=k):=by
 unfold KV at r
 induction r with
 |nil=>rfl
 |cons h t ih=>rw[List.any_cons,List.any_cons,ih,h.1]
theorem KV.repl {kvs:List (κ × V)}{vs:List (κ × Value)}(r:KV kvs vs) (k:κ) {y:V}{u:Value}(ry:RelV y u) :
  KV (kvs.map λ kv=>if kv.1=k then (kv.1,y) else kv) (vs.map λ kv=>if kv.1=k then (kv.1,u) else kv):=by
 unfold KV at r ⊢
 induction r with
 |nil=>exact .nil
 | @cons p q ps qs h t ih =>
  rw[mL,mL];refine .cons ?_ ih;obtain⟨h1,h2⟩:=h
  by_cases e:p.1=k
  ·rw[if_pos e,if_pos (h1.symm.trans e)];exact⟨h1,ry⟩
  ·rw[if_neg e,if_neg (λ z=>e (h1.trans z))];exact⟨h1,h2⟩
theorem KV.put {kvs:List (κ × V)}{vs:List (κ × Value)}(r:KV kvs vs) (k:κ) {y:V}{u:Value}(ry:RelV y u):KV (putK kvs k y) (stored vs k u):=by
 unfold putK stored;rw[r.any k]
 by_cases e:(vs.any λ kv=>decide (kv.1=k))=true
 ·rw[if_pos e,if_pos e];exact r.repl k ry
 ·rw[if_neg e,if_neg e];exact Paired.snoc r ⟨rfl,ry⟩
theorem KV.length {kvs:List (κ × V)}{vs:List (κ × Value)}(r:KV kvs vs):kvs.length=vs.length:=Paired.length r
end
theorem kV_is {P:Program}{w:World}{k:Key}{u:Value}(r:RelV (kV k) u):(zAd P w).is k u=true:=by
 cases k with
 |inl i=>obtain⟨t,e⟩:=(show ∃t,u=Value.int i t from r);subst e;exact zG0 P w i t
 |inr x=>obtain⟨t,e⟩:=(show ∃t,u=Value.str x t from r);subst e;exact zGz P w x t
theorem zGM {P:Program}{w:World}:∀{ks:List Key}{us:List Value},Vals (ks.map kV) us->ItemsAre (zAd P w) ks us
 |[],_,r=>by rw[List.map_nil] at r;cases r;exact .nil
 |k::ks,_,r=>by
  rw[mL] at r;cases r with
  |cons h t=>exact .cons (kV_is h) (zGM t)
abbrev KT (H:Hp):List (List Key × V)->List (List Key × Addr × Value)->Prop:=Paired λ p q=>p.1=q.1/\H q.2.1=some (.tup (p.1.map kV))/\RelV p.2 q.2.2
theorem KT.val {H:Hp}{kvs:List (List Key × V)}{xs:List (List Key × Addr × Value)}(r:KT H kvs xs) (k:List Key):RelO (valV kvs k) ((atKey xs k).map (·.2)):=by
 induction r with
 |nil=>exact True.intro
 | @cons p q ps qs h t ih =>
  obtain⟨h1,_,h2⟩:=h
  by_cases e:p.1=k
  ·have e':q.1=k:=h1.symm.trans e
   have b:atKey (q::qs) k=some q.2:=by simp[atKey,List.find?_cons,e']
   rw[zBH e,b];exact h2
  ·have e':¬q.1=k:=λ z=>e (h1.trans z)
   have b:atKey (q::qs) k=atKey qs k:=by simp[atKey,List.find?_cons,e']
   rw[zBI e,b];exact ih
theorem KT.repl {H:Hp}{kvs:List (List Key × V)}{xs:List (List Key × Addr × Value)}(r:KT H kvs xs) (k:List Key) {y:V}{u:Value}(ry:RelV y u) :
  KT H (kvs.map λ kv=>if kv.1=k then (kv.1,y) else kv) (xs.map (putAt k u)):=by
 induction r with
 |nil=>exact .nil
 | @cons p q ps qs h t ih =>
  rw[mL,mL];refine .cons ?_ ih;obtain⟨h1,h2,h3⟩:=h;unfold putAt
  by_cases e:p.1=k
  ·rw[if_pos e,if_pos (h1.symm.trans e)];exact⟨h1,h2,ry⟩
  ·rw[if_neg e,if_neg (λ z=>e (h1.trans z))];exact⟨h1,h2,h3⟩
theorem KT.put {H:Hp}{kvs:List (List Key × V)}{xs:List (List Key × Addr × Value)}(r:KT H kvs xs) (k:List Key) {b:Addr}{y:V}{u:Value}(hb:H b=some (.tup (k.map kV))) (ry:RelV y u) :
  KT H (putK kvs k y) (storedH xs k b u):=by
 have e:(kvs.any λ kv=>decide (kv.1=k))=(atKey xs k).isSome:=by
  rw[zC7,(r.val k).isSome_eq,Option.isSome_map]
 unfold putK storedH;rw[e]
 by_cases q:(atKey xs k).isSome=true
 ·rw[if_pos q,if_pos q];exact r.repl k ry
 ·rw[if_neg q,if_neg q];exact Paired.snoc r ⟨rfl,hb,ry⟩
theorem KT.keeps {H H':Hp}{kvs:List (List Key × V)}{xs:List (List Key × Addr × Value)}(r:KT H kvs xs) (ht:∀b ys,H b=some (.tup ys)->H' b=some (.tup ys)):KT H' kvs xs :=
 Paired.mapP r λ Ω Ω z=>⟨z.1,ht _ _ z.2.1,z.2.2⟩
section
variable {P:Program}{w:World}{H:Hp}{h:Heap}{a:Addr}
theorem rd_of {u:HO}(ok:HOk P w H h) (e:Rd H a u):ObjOk P w H h a u:=e.ok ok
theorem dk_rd {kvs:List (Key × V)}(ok:HOk P w H h) (e:Rd H a (.dK kvs)):kvs.length<=sizeLine/\(a == sysModules)=false/\∃vs,KV kvs vs/\h.DictOf (zAd P w) a vs :=
 show ObjOk P w H h a (.dK kvs) from rd_of ok e
theorem dk_of {kvs:List (Key × V)}(ok:HOk P w H h) (e:H a=some (.dK kvs)):kvs.length<=sizeLine/\(a == sysModules)=false/\∃vs,KV kvs vs/\h.DictOf (zAd P w) a vs:=dk_rd ok (.inl e)
theorem zEi {ks:List Key}(ok:HOk P w H h) (e:H a=some (.tup (ks.map kV))):(tupleKind (zAd P w)).is h ks a:=by
 obtain⟨_,its,r,o,h1,h2,n,h3⟩:=(show ObjOk P w H h a (.tup (ks.map kV)) from ok a _ e);exact⟨o,its.toArray,n,h1,h2,h3,by simpa using zGM r⟩
theorem dt_rd {kvs:List (List Key × V)}(ok:HOk P w H h) (e:Rd H a (.dT kvs)):kvs.length<=sizeLine/\(a == sysModules)=false /\
  ∃xs,KT H kvs xs/\h.DictOfH (tupleKind (zAd P w)) a xs:=by
 obtain⟨z,y,xs,r,o,es,ep,h1,h2,h3,h4,h5⟩:=(show ObjOk P w H h a (.dT kvs) from rd_of ok e);refine⟨z,y,xs,r,o,es,ep,h1,h2,h3,h4,λ x hx=>?_,h5⟩
 have all:∀{l:List (List Key × V)}{m:List (List Key × Addr × Value)},KT H l m->∀x∈m,(tupleKind (zAd P w)).is h x.1 x.2.1:=by
  intro l m q
  induction q with
  |nil=>intro x hx;exact nomatch hx
  | @cons p q ps qs hq t ih =>
   intro x hx;rcases lN.mp hx with e|hx
   ·subst e
    exact zEi ok (by rw[←hq.1];exact hq.2.1)
   ·exact ih x hx
 exact all r x hx
theorem dt_of {kvs:List (List Key × V)}(ok:HOk P w H h) (e:H a=some (.dT kvs)):kvs.length<=sizeLine/\(a == sysModules)=false /\
  ∃xs,KT H kvs xs/\h.DictOfH (tupleKind (zAd P w)) a xs:=dt_rd ok (.inl e)
end
def DGet (H:Hp) (a:Addr) (y:V) (r:Option V):Prop :=
 (∃kvs k,Rd H a (.dK kvs)/\y=kV k/\r=valV kvs k)\/∃kvs k b,Rd H a (.dT kvs)/\y = .ref b/\H b=some (.tup (k.map kV))/\r=valV kvs k
def DPut (H:Hp) (a:Addr) (y v:V) (H':Hp):Prop :=
 (∃kvs k,H a=some (.dK kvs)/\y=kV k/\kvs.length<sizeLine/\H'=upd H a (.dK (putK kvs k v))) \/
 ∃kvs k b,H a=some (.dT kvs)/\y = .ref b/\H b=some (.tup (k.map kV))/\kvs.length<sizeLine/\H'=upd H a (.dT (putK kvs k v))
theorem DGet.k {H:Hp}{a:Addr}{kvs:List (Key × V)}{k:Key}(e:H a=some (.dK kvs)):DGet H a (kV k) (valV kvs k):=.inl ⟨kvs,k,.inl e,rfl,rfl⟩
theorem DPut.k {H:Hp}{a:Addr}{kvs:List (Key × V)}{k:Key}{v:V}(e:H a=some (.dK kvs)) (hl:kvs.length<sizeLine):DPut H a (kV k) v (upd H a (.dK (putK kvs k v))):=.inl ⟨kvs,k,e,rfl,hl,rfl⟩
section
variable {X:Cx}{jP:List (Addr × Obj)}{σ:St}{H:Hp}{s:Shared}{a:Addr}{y v:V}{u r:Value}{o:Option V}{A:Around}{E:XQ}
theorem Inv.big (I:Inv X jP σ H s):sysModules<s.heap.objs.size:=by
 have h:mainGlobals<s.heap.objs.size:=(I.mod.glob.keeps I.bk).lt;exact Nat.lt_trans (by decide) h
theorem zJw {Q:XQ}(hu:A.units+1<cLine) (I:Inv X jP σ H s) (g:DGet H a y (some v)) (ry:RelV y u) (h:∀w' s',Inv X jP σ H s'->RelV v w'->Q w' s') :
  wpAny (model X.prog X.w) A (getItem (.ref a) u) Q E s:=by
 rcases g with ⟨kvs,k,e,ey,l⟩|⟨kvs,k,b,e,ey,eb,l⟩
 ·subst ey
  obtain⟨z,hd,vs,rel,dd⟩:=dk_rd I.hok e;obtain⟨w',hw,rw'⟩:=RelO.some_of (v:=v) (o:=valueAt vs k) (by rw[l];exact rel.val k);exact wpAny_getItem_of (kV_is ry) dd.mapOf hw (h w' _ (I.tok _) rw')
 ·subst ey
  cases (show u=Value.ref b from ry);obtain⟨z,hd,xs,rel,dd⟩:=dt_rd I.hok e;obtain⟨w',hw,rw'⟩:=RelO.some_of (v:=v) (o:=(atKey xs k).map (·.2)) (by rw[l];exact rel.val k);obtain⟨p,hp,hp2⟩:=lV.mp hw;refine wpAny_getItem_heap (tupleKind_room_in1 hu) (zEi I.hok eb) dd hp ?_;rw[hp2];exact h w' _ (I.tok _) rw'
theorem d_in {Q:XQ}(hu:A.units+1<cLine) (I:Inv X jP σ H s) (g:DGet H a y o) (ry:RelV y u) (h:∀s',Inv X jP σ H s'->Q (.bool o.isSome) s') :
  wpAny (model X.prog X.w) A (compareOp .In u (.ref a)) Q E s:=by
 rcases g with ⟨kvs,k,e,ey,l⟩|⟨kvs,k,b,e,ey,eb,l⟩
 ·subst ey
  obtain⟨z,hd,vs,rel,dd⟩:=dk_rd I.hok e;refine wpAny_in_of (kV_is ry) hd dd.mapOf ?_;rw[←(rel.val k).isSome_eq,←l];exact h _ (I.tok _)
 ·subst ey
  cases (show u=Value.ref b from ry);obtain⟨z,hd,xs,rel,dd⟩:=dt_rd I.hok e;refine wpAny_in_heap (tupleKind_room_in1 hu) (zEi I.hok eb) hd dd ?_;have q:=(rel.val k).isSome_eq;rw[Option.isSome_map] at q;rw[←q,←l];exact h _ (I.tok _)
theorem zM2 {Q:XQ}(hu:A.units+1<cLine) (I:Inv X jP σ H s) (g:DGet H a y o) (ry:RelV y u) (h:∀s',Inv X jP σ H s'->Q (.bool (!o.isSome)) s') :
  wpAny (model X.prog X.w) A (compareOp .NotIn u (.ref a)) Q E s:=by
 rcases g with ⟨kvs,k,e,ey,l⟩|⟨kvs,k,b,e,ey,eb,l⟩
 ·subst ey
  obtain⟨z,hd,vs,rel,dd⟩:=dk_rd I.hok e;refine wpAny_notIn_of (kV_is ry) hd dd.mapOf ?_;rw[←(rel.val k).isSome_eq,←l];exact h _ (I.tok _)
 ·subst ey
  cases (show u=Value.ref b from ry);obtain⟨z,hd,xs,rel,dd⟩:=dt_rd I.hok e;refine wpAny_notIn_heap (tupleKind_room_in1 hu) (zEi I.hok eb) hd dd ?_;have q:=(rel.val k).isSome_eq;rw[Option.isSome_map] at q;rw[←q,←l];exact h _ (I.tok _)
theorem zFq {h':Heap}{t':Nat}{ob:HO}(I:Inv X jP σ H s) (mu:Mut (H a)) (hs:Heap.SameBut a s.heap h') (he:∃q,h'.get? a=some q) (new:ObjOk X.prog X.w (upd H a ob) h' a ob) :
  Inv X jP σ (upd H a ob) { s with heap:=h',toks:=t' } :=
 I.write (x:=a) (e:=a) mu (.inl rfl) (λ b q hb z=>(hs.2 b hb).trans z) he new
theorem zJq {P:Program}{w:World}{H':Hp}{h':Heap}{kvs:List (Key × V)}{vs:List (Key × Value)}(z:kvs.length<=sizeLine) (hd:(a == sysModules)=false) (rel:KV kvs vs) (dd:h'.DictOf (zAd P w) a vs) :
  ObjOk P w H' h' a (.dK kvs):=⟨z,hd,vs,rel,dd⟩
theorem zJv {H':Hp}{Q:Unit->Shared->Prop}(hu:A.units+1<cLine) (I:Inv X jP σ H s) (g:DPut H a y v H') (ry:RelV y u) (rv:RelV v r) (h:∀s',Inv X jP σ H' s'->Q () s') :
  wpAny (model X.prog X.w) A (setItem (.ref a) u r) Q E s:=by
 rcases g with ⟨kvs,k,e,ey,l,eH⟩|⟨kvs,k,b,e,ey,eb,l,eH⟩
 ·subst ey eH
  obtain⟨z,hd,vs,rel,dd⟩:=dk_of I.hok e;have hz:vs.length<=sizeLine:=by rw[←rel.length];exact z
  have hl:(putK kvs k v).length<=sizeLine:=by have:=zBp kvs k v;omega
  refine wpAny_setItem_pairs (hsz:=hz) (kV_is ry) dd λ h' dd' hs=>h _ ?_;have he:∃q,h'.get? a=some q:=let ⟨q,_,_,hq,_⟩:=dd';⟨q,hq⟩;exact zFq I (by rw[e];exact True.intro) hs he (zJq hl hd (rel.put k rv) dd')
 ·subst ey eH
  cases (show u=Value.ref b from ry);obtain⟨z,hd,xs,rel,dd⟩:=dt_of I.hok e;have hz:xs.length<=sizeLine:=by rw[←Paired.length rel];exact z
  have hl:(putK kvs k v).length<=sizeLine:=by have:=zBp kvs k v;omega
  refine wpAny_setItem_heap (hsz:=hz) (tupleKind_room_in1 hu) (zEi I.hok eb) dd λ h' dd' hs=>h _ ?_;obtain⟨q,es,ep,hq,h2,h3,h4,_,h5⟩:=dd';refine zFq I (by rw[e];exact True.intro) hs ⟨q,hq⟩ ⟨hl,hd,_,(rel.put k eb rv).keeps λ c ys ec=>?_,q,es,ep,hq,h2,h3,h4,h5⟩;rw[zAR (ne_of ec e (λ z=>nomatch z))]
  exact ec
end
def NoSl (i:Expr):Prop:=∀ov iv,subscripted i false ov iv=operate [ov,iv] (getItem ov iv)
theorem zIb {prog:Program}{w:World}{A:Around}{E:XQ}{s:Shared}{env:Env}{value slice:Expr}{pos:Pos}{T id:String}{Q:XQ}
  (hl:typeLookup (.type T) "__getitem__" = pure (some (.builtin id))) (hs:NoSl slice)
  (h:wpAny (model prog w) A (eval value env) (λ o s₁=>wpAny (model prog w) A (eval slice env) (λ i s₂=>s₂.TypeIs o T/\wpAny (model prog w) A (getItem o i) Q E s₂) E s₁) E s) :
  wpAny (model prog w) A (eval (.Subscript value slice pos) env) Q E s:=by
 refine Subscript_ (wpAny_mono h (λ o s₁ h₁=>wpAny_mono h₁ (λ i s₂ h₂=>?_) λ Ω Ω x=>x) λ Ω Ω x=>x);obtain⟨hT,h₂⟩:=h₂;unfold subscriptTail;refine lA ?_;rw[getitemInPython_of_ne hT.not_modules];refine lA (wpAny_specialOf hT hl ?_)
 have fin:wpAny (model prog w) A (subscripted slice false o i) (λ r s₃=>wpAny (model prog w) A (letTemporaryGo value o r >>= λ Ω=>pure r) Q E s₃) E s₂:=by
  rw[hs o i];exact wpAny_operating (wpAny_mono h₂ (λ r s₃ h₃=>lA (wpAny_letTemporaryGo (lB h₃))) λ Ω Ω x=>x)
 first
  |exact lB (lA fin)
  |exact lA (lB (lA fin))
  |exact lA fin
theorem zG6 {X:Cx}{jP:List (Addr × Obj)}{σ:St}{H:Hp}{s:Shared}{a:Addr}{y:V}{o:Option V}(I:Inv X jP σ H s) (g:DGet H a y o):s.TypeIs (.ref a) "dict" := by
 rcases g with ⟨kvs,k,e,_,_⟩|⟨kvs,k,b,e,_,_,_⟩
 ·obtain⟨_,_,vs,_,dd⟩:=dk_rd I.hok e
  exact dd.typeIs
 ·obtain⟨_,_,xs,_,dd⟩:=dt_rd I.hok e
  exact dd.typeIs
inductive IsG (Q:VK) (x y:V) (H:Hp):Prop
 |mk (a:Addr) (v:V) (h:x = .ref a) (g:DGet H a y (some v)) (q:Q v H)
def tDGet (td ty:TE):TE:=λ σ H Q=>td σ H λ x H1=>ty σ H1 (IsG Q x)
inductive IsP (N:Hp->Prop) (v x y:V) (H:Hp):Prop
 |mk (a:Addr) (H4:Hp) (h:x = .ref a) (p:DPut H a y v H4) (q:N H4)
def sDPut (td ty tv:TE):TS:=λ D σ H=>tv σ H λ v H1=>td σ H1 λ x H2=>ty σ H2 (IsP (D.nx σ) v x)
section
variable {X:Cx}{o i e value:Expr}{pos pos' tpos:Pos}{td ty tv:TE}
theorem zDc (hu:X.A.units+1<cLine) (ho:PE X o td) (hi:PE X i ty) (hs:NoSl i):PE X (.Subscript o i pos) (tDGet td ty):=by
 intro jP s σ H Q I h;refine zIb PySem.F.slot_dict_getitem.lookup hs (thn (ho jP s σ H _ I h) λ u s1 ⟨x,H1,I1,rx,q1⟩=>thn (hi jP s1 σ H1 _ I1 q1) λ iv s2 ⟨y,H2,I2,ry,a,v,ex,g,q2⟩=>?_);subst ex;obtain rfl:u=Value.ref a:=rx;exact⟨zG6 I2 g,zJw hu I2 g ry λ w' s3 I3 rw'=>⟨v,H2,I3,rw',q2⟩⟩
theorem zFY (hu:X.A.units+1<cLine) (ho:PE X o td) (hi:PE X i ty) (hv:PE X value tv) (hs:swapsWith value (some (.Subscript o i pos')) pos.line X.env=pure false) :
  PS X (.Assign [.Subscript o i pos'] value pos) (sDPut td ty tv):=by
 intro jP s σ H D I h;refine wpAny_Assign_Subscript (thn (hv jP s σ H _ I h) λ r s1 ⟨v,H1,I1,rv,q1⟩=>thn (ho jP s1 σ H1 _ I1 q1) λ u s2 ⟨x,H2,I2,rx,q2⟩=>thn (hi jP s2 σ H2 _ I2 q2) λ iv s3 ⟨y,H3,I3,ry,a,H4,ex,g,q3⟩=>?_) hs;subst ex;obtain rfl:u=Value.ref a:=rx;exact zJv hu I3 g ry rv λ s4 I4=>⟨σ,H4,I4,q3⟩
end
theorem zLQ {P:Program}{w:World}{H:Hp}(h:Heap) (hb:sysModules<h.objs.size):ObjOk P w H (h.push { cls:=.type "dict", data:=.dict #[] }) h.objs.size (.dK []) :=
 ⟨lY _,beq_eq_false_iff_ne.mpr (Ne.symm (lS hb)),[],.nil,Heap.DictOf.new h⟩
def zNH:TE:=λ Ω H Q=>∀p,H p=none->Q (.ref p) (upd H p (.dK []))
section
variable {X:Cx}{pos:Pos}
theorem zDD:PE X (.Dict [] [] pos) zNH:=λ jP s σ H Q I h =>
 wpAny_Dict_empty ⟨.ref s.heap.objs.size,_,I.laid (a:=s.heap.objs.size) (o:=.dK []) (t':=s.toks) (λ Ω Ω q=>lG _ q) (lQ _) (zLQ s.heap I.big),rfl,h _ (I.hok.fresh (lQ _))⟩
end
noncomputable def zBC (kvs more:List (Key × V)):List (Key × V):=more.foldl (λ acc kv=>putK acc kv.1 kv.2) kvs
theorem KV.merge:∀{more:List (Key × V)}{rs:List (Key × Value)}{kvs:List (Key × V)}{vs:List (Key × Value)},KV more rs->KV kvs vs->KV (zBC kvs more) (merged vs rs):=by
 intro more rs kvs vs r;unfold KV at r
 induction r generalizing kvs vs with
 |nil=>intro q;exact q
 | @cons p q ps qs h t ih =>
  intro r0
  have e:KV (putK kvs p.1 p.2) (stored vs q.1 q.2):=by
   have:=r0.put p.1 h.2;rw[←h.1];exact this
  exact ih e
theorem zDJ:∀(more kvs:List (Key × V)),(zBC kvs more).length<=kvs.length+more.length
 |[],kvs=>by show kvs.length<=kvs.length+0;omega
 |p::r,kvs=>by
  have h1:=zDJ r (putK kvs p.1 p.2);have h2:=zBp kvs p.1 p.2;show (zBC (putK kvs p.1 p.2) r).length<=_;rw[mM];omega
structure M1 (X:Cx) (o:Expr) (m:Str) (apos:Pos) (e:Expr) (cpos:Pos):Prop where
 base:attributeBase o m X.env (eval o X.env)=eval o X.env
 few:((backTo cpos (starEach [e] X.env)).all (λ x=>!x.1) && (backToKw cpos (keywordEach [] X.env)).all (λ x=>x.1.isSome)
  && decide (([e]:List Expr).length+([]:List Keyword).length+(if ([]:List Keyword).isEmpty then 0 else 1)<30))=true
 line:(apos.endLine == cpos.line)=true
 trees:backTo cpos (starEach [e] X.env)=[(false,eval e X.env)]
structure M2 (X:Cx) (o:Expr) (m:Str) (apos:Pos) (e f:Expr) (cpos:Pos):Prop where
 base:attributeBase o m X.env (eval o X.env)=eval o X.env
 few:((backTo cpos (starEach [e,f] X.env)).all (λ x=>!x.1) && (backToKw cpos (keywordEach [] X.env)).all (λ x=>x.1.isSome)
  && decide (([e,f]:List Expr).length+([]:List Keyword).length+(if ([]:List Keyword).isEmpty then 0 else 1)<30))=true
 line:(apos.endLine == cpos.line)=true
 trees:backTo cpos (starEach [e,f] X.env)=[(false,eval e X.env),(false,eval f X.env)]
def IsD (H:Hp) (a:Addr):Prop:=(∃kvs,Rd H a (.dK kvs))\/∃kvs,Rd H a (.dT kvs)
theorem zLr {X:Cx}{jP:List (Addr × Obj)}{σ:St}{H:Hp}{s:Shared}{a:Addr}(I:Inv X jP σ H s) (d:IsD H a) :
  s.TypeIs (.ref a) "dict" /\ (∀b,Value.ref a = .ref b->∃ob,s.heap.get? b=some ob/\ob.dict=none)/\(a == sysModules)=false:=by
 rcases d with ⟨kvs,e⟩|⟨kvs,e⟩
 ·obtain⟨_,hd,vs,_,dd⟩:=dk_rd I.hok e
  refine⟨dd.typeIs,λ b q=>?_,hd⟩;cases q;obtain⟨ob,_,_,h1,h2,_⟩:=dd;exact⟨ob,h1,h2.2.1⟩
 ·obtain⟨_,hd,xs,_,dd⟩:=dt_rd I.hok e
  refine⟨dd.typeIs,λ b q=>?_,hd⟩;cases q;obtain⟨ob,_,_,h1,h2,_⟩:=dd;exact⟨ob,h1,h2.2.1⟩
section
variable {X:Cx}{jP:List (Addr × Obj)}{σ:St}{H:Hp}{s:Shared}{a:Addr}{y d:V}{u r:Value}{o:Option V}{A:Around}{E:XQ}
theorem zN5 {Q:XQ}(hu:A.units+1<cLine) (I:Inv X jP σ H s) (g:DGet H a y o) (ry:RelV y u) (h:∀w' s',Inv X jP σ H s'->RelV (o.getD .non) w'->Q w' s') :
  wpAny (model X.prog X.w) A (call (.builtin "dict.get") [.ref a,u]) Q E s:=by
 rcases g with ⟨kvs,k,e,ey,l⟩|⟨kvs,k,b,e,ey,eb,l⟩
 ·subst ey
  obtain⟨z,hd,vs,rel,dd⟩:=dk_rd I.hok e;refine call_meetsIn PySem.F.slot_dict_get dd.typeIs PySem.F.entry_dict_get (PySem.F.args_dict_get_2 _ _) (meets_dict_get (zAd X.prog X.w) a (kV_is ry) hd) ⟨_,dd.mapOf,h _ _ (I.tok _) ?_⟩;rw[l];exact(rel.val k).getD rfl
 ·subst ey
  cases (show u=Value.ref b from ry);obtain⟨z,hd,xs,rel,dd⟩:=dt_rd I.hok e;refine call_meetsIn PySem.F.slot_dict_get dd.typeIs PySem.F.entry_dict_get (PySem.F.args_dict_get_2 _ _) (meetsH_dict_get (tupleKind (zAd X.prog X.w)) a b hd) ⟨tupleKind_room_in1 hu,k,xs,zEi I.hok eb,dd,h _ _ (I.tok _) ?_⟩;rw[l];exact(rel.val k).getD rfl
theorem zN4 {Q:XQ}(hu:A.units+1<cLine) (I:Inv X jP σ H s) (g:DGet H a y o) (ry:RelV y u) (rd:RelV d r) (h:∀w' s',Inv X jP σ H s'->RelV (o.getD d) w'->Q w' s') :
  wpAny (model X.prog X.w) A (call (.builtin "dict.get") [.ref a,u,r]) Q E s:=by
 rcases g with ⟨kvs,k,e,ey,l⟩|⟨kvs,k,b,e,ey,eb,l⟩
 ·subst ey
  obtain⟨z,hd,vs,rel,dd⟩:=dk_rd I.hok e;refine call_meetsIn PySem.F.slot_dict_get dd.typeIs PySem.F.entry_dict_get (PySem.F.args_dict_get_3 _ _ _) (meets_dict_get_default (zAd X.prog X.w) a (kV_is ry) hd r) ⟨_,dd.mapOf,h _ _ (I.tok _) ?_⟩;rw[l];exact(rel.val k).getD rd
 ·subst ey
  cases (show u=Value.ref b from ry);obtain⟨z,hd,xs,rel,dd⟩:=dt_rd I.hok e;refine call_meetsIn PySem.F.slot_dict_get dd.typeIs PySem.F.entry_dict_get (PySem.F.args_dict_get_3 _ _ _) (meetsH_dict_get_default (tupleKind (zAd X.prog X.w)) a b hd r) ⟨tupleKind_room_in1 hu,k,xs,zEi I.hok eb,dd,h _ _ (I.tok _) ?_⟩;rw[l];exact(rel.val k).getD rd
end
def zNJ (td ty:TE):TE:=λ σ H Q=>td σ H λ x H1=>∃a,x = .ref a/\IsD H1 a/\ty σ H1 λ y H2=>∃o,DGet H2 a y o/\Q (o.getD .non) H2
def zNI (td ty tx:TE):TE:=λ σ H Q=>td σ H λ x H1=>∃a,x = .ref a/\IsD H1 a/\ty σ H1 λ y H2=>tx σ H2 λ z H3=>∃o,DGet H3 a y o/\Q (o.getD z) H3
section
variable {X:Cx}{o e f:Expr}{apos cpos:Pos}{td ty tx:TE}
theorem zKg (hu:X.A.units+1<cLine) (ho:PE X o td) (he:PE X e ty) (m:M1 X o "get" apos e cpos):PE X (.Call (.Attribute o "get" apos) [e] [] cpos) (zNJ td ty):=by
 intro jP s σ H Q I h;refine wpAny_Call_method m.base m.few m.line rT PySem.F.slot_dict_get PySem.F.type_dict_get (thn (ho jP s σ H _ I h) λ u s1 ⟨x,H1,I1,rx,a,ex,d,q1⟩=>?_);subst ex;obtain rfl:u=Value.ref a:=rx;obtain⟨t1,t2,_⟩:=zLr I1 d;refine⟨t1,t2,?_⟩;rw[m.trees];refine Calls.callWith_builtin rfl (Calls.evalArgs_plain (Calls.spliced_cons (thn (he jP s1 σ H1 _ I1 q1) λ iv s2 ⟨y,H2,I2,ry,ov,g,q2⟩=>Calls.spliced_nil ?_)));exact zN5 hu I2 g ry λ w' s3 I3 rw'=>⟨_,H2,I3,rw',q2⟩
theorem zKf (hu:X.A.units+1<cLine) (ho:PE X o td) (he:PE X e ty) (hf:PE X f tx) (m:M2 X o "get" apos e f cpos):PE X (.Call (.Attribute o "get" apos) [e,f] [] cpos) (zNI td ty tx):=by
 intro jP s σ H Q I h;refine wpAny_Call_method m.base m.few m.line rT PySem.F.slot_dict_get PySem.F.type_dict_get (thn (ho jP s σ H _ I h) λ u s1 ⟨x,H1,I1,rx,a,ex,d,q1⟩=>?_);subst ex;obtain rfl:u=Value.ref a:=rx;obtain⟨t1,t2,_⟩:=zLr I1 d;refine⟨t1,t2,?_⟩;rw[m.trees]
 refine Calls.callWith_builtin rfl (Calls.evalArgs_plain (Calls.spliced_cons (thn (he jP s1 σ H1 _ I1 q1) λ iv s2 ⟨y,H2,I2,ry,q2⟩ =>
  Calls.spliced_cons (thn (hf jP s2 σ H2 _ I2 q2) λ fv s3 ⟨z,H3,I3,rz,ov,g,q3⟩=>Calls.spliced_nil ?_))))
 exact zN4 hu I3 g ry rz λ w' s4 I4 rw'=>⟨_,H3,I4,rw',q3⟩
end
end L2
namespace Att
open PySem PySem.W PySem.Calls PyProof.Rows
theorem zEl {P:Params}{h:Heap}:∀(ns:List Int) (vs:List Value),WellAll P h vs (ns.map WData.int)->IntsAre vs ns:=by
 intro ns
 induction ns with
 |nil =>
  intro vs w;rw[List.map_nil] at w;cases w;exact .nil
 |cons n ns ih =>
  intro vs w;rw[mL] at w;cases w with
  |cons a b =>
   cases a;exact .cons _ _ (ih _ b)
theorem zIp {l:OpenLaw}{n:Nat}(hn:l.most=some n) {P:Params}{h:Heap}{args:List WData}{vals:List Value}
    (hpre:l.row.toRowW.claim.pre args=true) (hwl:WellAll P h vals args) :
    ∃a vs ns,vals=[Value.ref a]/\args=[WData.list (ns.map WData.int)]/\h.get? a=some { cls:=.type "list", data:=.seq vs.toArray }/\IntsAre vs ns/\ns.length<=n:=by
  have hsh:WShape.hasAll [] args [.list .int]=true:=(pre_splitW hpre).1;have hc:l.pre.holds [] { args:=args }=true:=(pre_splitW hpre).2;obtain⟨d,r,rfl,h1,h2⟩:=hasAllW_cons hsh;obtain rfl:=hasAllW_nil h2;obtain⟨xs,rfl,h3⟩:=hasW_list h1;obtain⟨ns,rfl⟩:=items_int h3
  have hlen:ns.length<=n:=by
    unfold OpenLaw.pre at hc
    have h4:(WTm.not (.lt (.lit (.int (n:Int))) (.len (.arg 0)))).holds [] { args:=[.list (ns.map .int)] }=true:=by
      have h4:=(holds_andW hc).1;rw[hn] at h4;exact h4
    have h5:=condW_of h4 (w_not (w_lt w_lit (w_len_list (w_arg rfl))));rw[mD] at h5;refine Nat.le_of_not_lt λ q=>?_;have q':(n:Int)<((ns.length:Nat):Int):=by omega
    first
      | (rw[decide_eq_true q'] at h5;exact absurd h5 (by decide))
      | (simp at h5;omega)
  cases hwl with
  |cons w1 w2 =>
    cases w2;cases w1 with
    |list ho hall=>exact⟨_,_,ns,rfl,rfl,ho,zEl ns _ hall,hlen⟩
theorem zIw (l:OpenLaw) (args:List WData):l.row.toRowW.claim.post args (.bool true) args=true :=
  postW_of (r:=l.row.toRowW) (X:=(true == true))
    (show WShape.has [] (.bool true) .bool=true by first|rfl|decide|simp[WShape.has,WShape.arms,WShape.armsAll])
    (show (WTm.eq .res (.lit (.bool true))).value [] { args:=args,res:=some (.bool true),after:=args }=some (.bool (true == true)) from w_eq_bool (w_res rfl) w_lit) rfl
theorem attach_call {l:OpenLaw}{n:Nat}{q:Program}{loose:List Str}{XP:(Str->Option Value)->Heap->Prop}{YP:World->Heap->Prop}{d:DefRec}
  (hn:l.most=some n) (hdf:d.params.defaults=[])
  (call:∀(w:World) (s₀ s₁:Shared) (mg mb:Str->Option Value) (fa:Addr) (o:Obj) (pm cd doc:Value) (a:Addr) (vs:List Value) (ns:List Int),
   Ground q loose [] XP w s₀ mg mb s₁.heap->YP w s₁.heap ->
   s₁.heap.get? fa=some o->o.data = .func (docDef d.name d.params d.body d.scope pm cd doc)->s₁.heap.CodeRec cd d.name->mg d.name=some (.ref fa) ->
   s₁.heap.get? a=some { cls:=.type "list", data:=.seq vs.toArray }->IntsAre vs ns->ns.length<=n->s₁.gens=#[] ->
   codeAny (model l.prog w) callerA (.call (.ref fa) ⟨[.ref a],[]⟩) (λ r s'=>r = .ok (.ret (.bool true))/\OldK s₁.heap s'.heap/\s'.os=s₁.os/\AllBare s'.gens) s₁) :
  WalkO q loose XP YP l.row.toRowW d [] (λ f vs=>PySem.call f vs):=by
 intro w s₀ s₁ mg mb G Y fa o pm cd doc dV kV ho hd hcd hD hmg hg args vals as hpre hlay hrd hwl hlo;obtain rfl:dV = .none:=Dflts.none hD hdf;obtain rfl:kV = .none:=Dflts.noKw hD;obtain⟨a,vs,ns,rfl,rfl,hobj,hints,hlen⟩:=zIp hn hpre hwl;refine enter_call (codeAny_mono (call w s₀ s₁ mg mb fa o pm cd doc a vs ns G Y ho (fd_plain hd) hcd hmg hobj hints hlen hg) λ r s' hq=>?_);obtain⟨rfl,h2,h3,h4⟩:=hq;exact⟨.inl ⟨.bool true,.bool true,[],rfl,λ Ω=>rfl,.bool true,zIw l _,λ Ω=>⟨List.Pairwise.nil,λ Ω hm=>(nomatch hm)⟩⟩,h2,h3,h4⟩
end Att
namespace L2
open PySem PySem.Spec PyProof.Rows
theorem zFt {vs:List Value}{ns:List Int}(h:IntsAre vs ns):Vals (ns.map V.int) vs:=by
 induction h with
 |nil=>exact .nil
 |cons n t h ih=>exact .cons ⟨t,rfl⟩ ih
def Only (H:Hp):Prop:=∀b,H b=none\/∃o xs,H b=some (.frz o (.lst xs))
theorem zLA {P:Program}{w:World}{K:W.Frag}{mg mb:Str->Option Value}{CX:CXT}{k:Nat}{fa a:Addr}{fd:FuncData}{x:Str}{sp:Sp}{s₁:Shared}{vs:List Value}{ns:List Int}
  (KX:K.In s₁.heap) (hns:s₁.heap.Ns mainGlobals mg) (hb:s₁.heap.Ns builtinsNs mb) (hbb:∀x:Str,x ≠ "__name__" -> mb x=bootBuiltins x) (hlim:s₁.heap.NoLimit) (hg:s₁.gens=#[])
  (ha:s₁.heap.get? a=some { cls:=.type "list", data:=.seq vs.toArray }) (hi:IntsAre vs ns) (hl:ns.length<=sizeLine) (hr:Room k callerA)
  (F:∀base:Heap,K.In base->base.Ns mainGlobals mg->FnOk P w K mg base CX k fa fd [x] sp) (hbind:∀(s:Shared) (u:Value),BindsTo s fd ⟨[u],[]⟩ [(x,u)])
  (hsp:∀H:Hp,Only H->SqL K H a (ns.map V.int)->sp [.ref a] H (λ v Ω=>v = .bl true) λ Ω Ω Ω=>False)
  (hCX:∀H e s',CX [] H s₁ (λ Ω Ω Ω=>False) e s'->False) :
  codeAny (model P w) callerA (.call (.ref fa) ⟨[.ref a],[]⟩) (λ r s'=>r = .ok (.ret (.bool true))/\OldK s₁.heap s'.heap/\s'.os=s₁.os/\AllBare s'.gens) s₁:=by
 have rv:=zFt hi;have lenV:=hi.length
 have core:∀H:Hp,Only H->SqL K H a (ns.map V.int)->HOk P w H s₁.heap->(∀b,H b≠none->b=a)->(H a≠none->K.lookup a=none) ->
   codeAny (model P w) callerA (.call (.ref fa) ⟨[.ref a],[]⟩) (λ r s'=>r = .ok (.ret (.bool true))/\OldK s₁.heap s'.heap/\s'.os=s₁.os/\AllBare s'.gens) s₁:=by
  intro H hO hS hok hA hK;have base_of:∀{b:Addr}{o:Obj},s₁.heap.get? b=some o->H b=none->(hidT s₁.heap H).get? b=some o:=λ e n=>zLE e n
  have noA:∀{b:Addr}{o:Obj}{es:Array DictEntry}{ep:Nat},s₁.heap.get? b=some o->o.data = .dict es ep->H b=none:=λ{b o es ep} e d=>by
   cases q:H b with
   |none=>rfl
   |some u =>
    have e':b=a:=hA b (by rw[q];simp);subst e';rw[ha] at e;cases e;have d':Data.seq vs.toArray _=Data.dict es ep:=d;cases d'
  have nsK:∀{b:Addr}{m:Str->Option Value},s₁.heap.Ns b m->(hidT s₁.heap H).Ns b m:=λ{b m} ⟨o,es,ep,e,d,r⟩=>⟨o,es,ep,base_of e (noA e d),d,r⟩
  have hKb:K.In (hidT s₁.heap H):=λ b o e=>base_of (KX b o e) (by
   cases q:H b with
   |none=>rfl
   |some u =>
    have e':b=a:=hA b (by rw[q];simp);subst e';rw[hK (by rw[q];simp)] at e;cases e)
  have hM:Mod K mg (hidT s₁.heap H):=⟨hKb,nsK hns,⟨mb,nsK hb,hbb⟩,let ⟨mc,h1,h2⟩:=hlim;⟨mc,nsK h1,h2⟩⟩;have e0:Env0 P w K mg (hidT s₁.heap H) callerA [] s₁ H:=⟨rfl,hM,λ b o e=>zMi e,Nat.le_of_eq (zJY _ _),trivial,λ b hb=>absurd (show b∈([]:List Addr) from hb) (by simp),hok,.of_eq hg⟩;refine codeAny_mono ((F _ hKb (nsK hns)).run callerA [] s₁ H ⟨[.ref a],[]⟩ [.ref a] [.ref a] _ _ hr e0 (hbind s₁ (.ref a)) (.cons rfl .nil) (hsp H hO hS)) λ r s' h=>?_;cases r with
  |error e=>exact(hCX H e s' h).elim
  |ok fl =>
   cases fl with
   |next=>exact False.elim h
   |brk=>exact False.elim h
   |cont=>exact False.elim h
   |ret u =>
    obtain⟨v,H',os,bare,un,hok',r',q⟩:=h;have q':v = .bl true:=q;subst q';obtain rfl:u=Value.bool true:=r';refine⟨rfl,OldK.of_keep λ b o e=>?_,os,bare⟩;cases q:H b with
    |none=>exact un.keep b o e q (by intro z;exact absurd (show b∈([]:List Addr) from z) (by simp)) (by simp)
    |some u =>
     rcases hO b with z|⟨ob,xs,z⟩
     ·rw[q] at z;cases z
     ·have z2:=un.frzs b ob _ z
      obtain⟨e1,_⟩:=hok b _ z;obtain⟨e2,_⟩:=hok' b _ z2;rw[e] at e1;cases e1;exact e2
 cases hk:K.lookup a with
 |some o =>
  have e:=KX a o hk;rw[ha] at e;cases e;refine core (λ Ω=>none) (λ Ω=>.inl rfl) (.inr ⟨_,vs.toArray,_,hk,rfl,rfl,rfl,by rw[mH,lenV];exact hl,by simpa using rv⟩) (λ b u z=>by have z':(none:Option HO)=some u:=z;cases z') (λ b z=>absurd rfl z) λ z=>absurd rfl z
 |none =>
  refine core (λ b=>if b=a then some (.frz { cls:=.type "list", data:=.seq vs.toArray } (.lst (ns.map V.int))) else none) (λ b=>?_) (.inl (.inr ⟨{ cls:=.type "list", data:=.seq vs.toArray },if_pos rfl⟩)) (λ b u z=>?_) (λ b z=>?_) λ Ω=>hk
  ·by_cases hb:b=a
   ·exact .inr ⟨_,_,if_pos hb⟩
   ·exact .inl (if_neg hb)
  ·by_cases hb:b=a
   ·have z':=(if_pos hb).symm.trans z
    cases z';subst hb;exact⟨ha,by rw[mD];exact hl,vs,_,rv,ha⟩
   ·have z':=(if_neg hb).symm.trans z
    cases z'
  ·by_cases hb:b=a
   ·exact hb
   ·exact absurd (if_neg hb) z
theorem walk_of {l:W.OpenLaw}{n k:Nat}{q:Program}{loose:List Str}{XP:(Str->Option Value)->Heap->Prop}{YP:World->Heap->Prop}{d:DefRec}{K:Params->W.Frag}{CX:World->CXT}{sp:World->Sp}{x:Str}
  (hn:l.most=some n) (hn2:n<=sizeLine) (hdf:d.params.defaults=[]) (hr:Room k callerA)
  (hY:∀(w:World) (h:Heap),YP w h->(K w.params).In h)
  (F:∀(w:World) (mg:Str->Option Value) (fa:Addr) (h:Heap),(K w.params).In h->h.Ns mainGlobals mg->mg d.name=some (.ref fa) ->
   ∃fd:FuncData,(∀(s:Shared) (u:Value),BindsTo s fd ⟨[u],[]⟩ [(x,u)]) /\
    ∀base:Heap,(K w.params).In base->base.Ns mainGlobals mg->FnOk l.prog w (K w.params) mg base (CX w) k fa fd [x] (sp w))
  (hsp:∀(w:World) (H:Hp) (a:Addr) (ns:List Int),ns.length<=n->Only H->SqL (K w.params) H a (ns.map V.int)->sp w [.ref a] H (λ v Ω=>v = .bl true) λ Ω Ω Ω=>False)
  (hCX:∀(w:World) (H:Hp) (s:Shared) (e:Value) (s':Shared),CX w [] H s (λ Ω Ω Ω=>False) e s'->False) :
  W.WalkO q loose XP YP l.row.toRowW d [] (λ f vs=>PySem.call f vs):=by
 refine Att.attach_call hn hdf λ w s₀ s₁ mg mb fa o pm cd doc a vs ns G Y ho hd hcd hmg hobj hints hlen hg=>?_;have KX:=hY w _ Y;obtain⟨fd,hb,hF⟩:=F w mg fa _ KX G.T.g hmg;exact zLA KX G.T.g G.T.b G.T.builtins G.T.nolimit hg hobj hints (mG hlen hn2) hr hF hb (λ H hO hS=>hsp w H a ns hlen hO hS) λ H e s'=>hCX w H s₁ e s'
noncomputable def zBR (s:Stmt):Arguments:=match s with
 |.FunctionDef _ a _ _ _ _ _ _ _ _=>a
 |_=>{ posonlyargs:=[],args:=[],vararg:=none,kwonlyargs:=[],kw_defaults:=[],kwarg:=none,defaults:=[] }
noncomputable def zBL (s:Stmt):List Stmt:=match s with
 |.FunctionDef _ _ b _ _ _ _ _ _ _=>b
 |_=>[]
noncomputable def zAH (s:Stmt):Scope:=match s with
 |.FunctionDef _ _ _ _ _ _ sc _ _ _=>sc
 |_=>{ kind:=.function,names:=[],isGenerator:=false,isCoroutine:=false }
abbrev CX0:CXT:=λ Ω Ω Ω Ω Ω Ω=>False
abbrev E0:XK:=λ Ω Ω Ω=>False
theorem pass0 {X:Cx}:zHw CX0 X E0:=λ Ω Ω Ω Ω Ω Ω Ω h=>h.elim
structure Fun (K:W.Frag) (x qual:Str) (st:Stmt) (f:Addr) (fd:FuncData):Prop where
 ex:∃(oc:Value) (od:Option Addr) (kV doc pm:Value) (an:Option Addr) (cdv ct:Value) (osl:Array (Option Value)),
  fd=W.fnOf x qual (zBR st) (zBL st) (zAH st) .none kV doc pm an cdv ct/\K.lookup f=some ⟨oc,od,.func fd,osl⟩/\W.codeIn K cdv qual=true
 kp:W.keepIn K (.ref f)=true
section
variable {P:Program}{w:World}{K:W.Frag}{mg:Str->Option Value}{base:Heap}
theorem Fun.ok {x qual:Str}{st:Stmt}{f:Addr}{fd:FuncData}{N ps:List Str}{k:Nat}{sp:Sp}(F:Fun K x qual st f fd) (S:zAT N ps (zAH st)) (len:∀vs H Q E,sp vs H Q E->vs.length=ps.length)
  (hbody:∀(cdv:Value) (A:Around) (outer:List Env) (s:Shared) (H:Hp) (vs:List V) (Q:VK) (E:XK),Room k (A.deeper (envOfC qual (zAH st) s.heap.objs.size f cdv))->sp vs H Q E ->
   ∃t,PSs (cxOf CX0 P w K mg base N qual (zAH st) f cdv A outer s H E).nox (zBL st) t/\t { nx:=λ Ω H'=>Q .non H',rt:=Q } (start N vs) H):FnOk P w K mg base CX0 (k+1) f fd ps sp:=by
 obtain⟨oc,od,kV,doc,pm,an,cdv,ct,osl,rfl,lk,hcd⟩:=F.ex;refine fn_of lk hcd S len λ A outer s H vs Q E hr hsp=>?_;obtain⟨t,h,q⟩:=hbody cdv A outer s H vs Q E hr hsp;exact⟨t,h.nox,q⟩
theorem Fun.binds {x qual:Str}{st:Stmt}{f:Addr}{fd:FuncData}{ps:List Str}(F:Fun K x qual st f fd)
  (h:∀(kV doc pm:Value) (an:Option Addr) (cdv ct:Value) (us:List Value),us.length=ps.length->bindArgs (W.fnOf x qual (zBR st) (zBL st) (zAH st) .none kV doc pm an cdv ct) ⟨us,[]⟩=pure (ps.zip us)):Binds K fd ps []:=by
 obtain⟨oc,od,kV,doc,pm,an,cdv,ct,osl,rfl,lk,hcd⟩:=F.ex;exact .all (h kV doc pm an cdv ct)
theorem zLs {x qual:Str}{st:Stmt}{f:Addr}{oc:Value}{od an:Option Addr}{osl:Array (Option Value)}{kV doc pm cdv ct:Value}(l:K.lookup f=some ⟨oc,od,.func (W.fnOf x qual (zBR st) (zBL st) (zAH st) .none kV doc pm an cdv ct),osl⟩)
  (c:W.codeIn K cdv qual=true) (k:W.keepIn K (.ref f)=true):Fun K x qual st f (W.fnOf x qual (zBR st) (zBL st) (zAH st) .none kV doc pm an cdv ct):=⟨⟨oc,od,kV,doc,pm,an,cdv,ct,osl,rfl,l,c⟩,k⟩
end
theorem hu_of {A:Around}{k:Nat}(hr:Room k A):A.units+1<cLine:=Nat.lt_of_le_of_lt (Nat.add_le_add_left (by decide:1<=64) _) hr.units
theorem zAK {n:Nat}(h:n<=1000):n<sizeLine:=Nat.lt_of_le_of_lt h (by decide)
section
variable {X:Cx}
theorem pv (i:Nat) {x:Str}{pos:Pos}(hN:X.N[i]?=some x:=by rfl) (hv:Vis X.env.scope x:=by first|exact Or.inl rfl|exact Or.inr (Or.inl rfl)|exact Or.inr (Or.inr rfl)) (hd:(x == ("__debug__" : Str))=false:=by decide)
  (hcd:(x == ("__classdict__" : Str))=false:=by decide):PE X (.Name x pos) (tVar i):=zNb hN hv hd hcd
end
theorem iteF {A B:Prop}(h:B):if false=true then A else B:=by
 rw[if_neg Bool.false_ne_true];exact h
theorem iteT {A B:Prop}(h:A):if true=true then A else B:=by
 rw[if_pos rfl];exact h
theorem ite2 {c A B:Prop} [Decidable c] (h1:c->A) (h2:¬c->B):if c then A else B:=by
 by_cases h:c
 ·rw[if_pos h]
  exact h1 h
 ·rw[if_neg h]
  exact h2 h
def Same (H H':Hp):Prop:=∀b o,H b=some o->H' b=some o
theorem Same.refl (H:Hp):Same H H:=λ Ω Ω h=>h
theorem Same.trans {H H1 H2:Hp}(a:Same H H1) (b:Same H1 H2):Same H H2:=λ c o h=>b c o (a c o h)
theorem Same.free {H H':Hp}(e:Same H H') {l:Addr}(h:H' l=Option.none):H l=Option.none:=by
 cases q:H l with
 |none=>rfl
 |some o =>
  rw[e l o q] at h;cases h
theorem Same.seq {K:W.Frag}{H H':Hp}{a:Addr}{xs:List V}(e:Same H H') (h:SqL K H a xs):SqL K H' a xs:=by
 rcases h with (h|⟨o,h⟩)|h
 ·exact .inl (.inl (e _ _ h))
 ·exact .inl (.inr ⟨o,e _ _ h⟩)
 ·exact .inr h
abbrev NoX:Value->Shared->Prop:=λ Ω Ω=>False
theorem noX {al:Type}{t:Sem al}{Q:al->Shared->Prop}{M:Model}{A:Around}{E:XQ}{s:Shared}(h:wpAny M A t Q NoX s):wpAny M A t Q E s :=
 wpAny_mono h (λ Ω Ω q=>q) λ Ω Ω z=>z.elim
noncomputable def capSt (cap:List (Option Nat)) (σ:St):St:=cap.map λ o=>match o with
 |none=>none
 |some j=>(σ[j]?).join
inductive Ext:St->St->Prop
 |nil:Ext [] []
 |skip {a b:St}{x:Option V}:Ext a b->Ext (none::a) (x::b)
 |keep {a b:St}{x:Option V}:Ext a b->Ext (x::a) (x::b)
theorem Ext.len {a b:St}(h:Ext a b):a.length=b.length:=by
 induction h with
 |nil=>rfl
 |skip _ ih=>simp[ih]
 |keep _ ih=>simp[ih]
theorem Ext.get {a b:St}(h:Ext a b):∀(i:Nat) v,a[i]?=some (some v)->b[i]?=some (some v):=by
 induction h with
 |nil=>intro i v e;simp at e
 |skip _ ih =>
  intro i v e;cases i with
  |zero=>simp at e
  |succ i=>simpa using ih i v (by simpa using e)
 |keep _ ih =>
  intro i v e;cases i with
  |zero=>simpa using e
  |succ i=>simpa using ih i v (by simpa using e)
noncomputable def Cx.block (X:Cx) (sc:Scope) (cl:List (Str × Addr)) (N:List Str) (s:Shared) (H:Hp) (C:Addr) (ex:List Addr):Cx where
 prog:=X.prog
 w:=X.w
 K:=X.K
 mg:=X.mg
 base:=X.base
 A:=X.A
 N:=N
 s₀:=s
 H₀:=H
 env:=compEnvC sc cl C X.env
 outer:=X.stack
 stack:=X.stack
 ex:=ex
 fn:=λ Ω=>false
 calm:=X.calm
 pn:=[]
 xe:=NoX
theorem zDm {env:Env}:∀(names:List (Str × NameKind)) (cs:List (Str × Addr)),(∀n,(n,NameKind.free)∈names->∃c,env.cells.lookup n=some c) ->
  (∀x c,cs.lookup x=some c->env.cells.lookup x=some c) ->
  ∃cl:List (Str × Addr),(forIn names cs λ(x:Str × NameKind) (r:List (Str × Addr))=>(if (x.2 == NameKind.free)=true then do let c ← cellOf env x.1;pure (ForInStep.yield ((x.1,c)::r)) else pure (ForInStep.yield r)):Sem (List (Str × Addr)))=pure cl /\
   (∀x c,cl.lookup x=some c->env.cells.lookup x=some c)/\(∀n,(n,NameKind.free)∈names->∃c,cl.lookup n=some c)/\(∀n c,cs.lookup n=some c->∃c,cl.lookup n=some c)
 |[],cs,_,hc=>⟨cs,rfl,hc,λ Ω h=>(nomatch h),λ n c e=>⟨c,e⟩⟩
 | (n,k)::r,cs,h,hc=>by
  by_cases hk:k = .free
  ·subst hk
   obtain⟨c,ec⟩:=h n lO
   have hc':∀x c',((n,c)::cs).lookup x=some c'->env.cells.lookup x=some c':=λ x c' e=>by
    rw[List.lookup_cons] at e;cases hx:x == n with
    |true=>rw[hx] at e;cases e;rw[eq_of_beq hx];exact ec
    |false=>rw[hx] at e;exact hc x c' e
   obtain⟨cl,e1,e2,e3,e4⟩:=zDm r ((n,c)::cs) (λ m hm=>h m (lP _ hm)) hc';refine⟨cl,?_,e2,λ m hm=>?_,λ m c' e=>?_⟩
   ·rw[List.forIn_cons,←e1]
    simp only[beq_self_eq_true,if_true,cellOf,ec];rfl
   ·rcases lN.mp hm with z|z
    ·cases z
     exact e4 n c (by simp)
    ·exact e3 m z
   ·by_cases hm:m=n
    ·subst hm;exact e4 m c (by simp)
    ·exact e4 m c' (by rw[List.lookup_cons,beq_eq_false_iff_ne.mpr hm];exact e)
  ·have hb:(k == NameKind.free)=false:=by simpa using hk
   obtain⟨cl,e1,e2,e3,e4⟩:=zDm r cs (λ m hm=>h m (lP _ hm)) hc;refine⟨cl,?_,e2,λ m hm=>?_,e4⟩
   ·rw[List.forIn_cons,←e1]
    simp only[hb,Bool.false_eq_true,if_false];rfl
   ·rcases lN.mp hm with z|z
    ·cases z;exact absurd rfl hk
    ·exact e3 m z
theorem zDn {sc:Scope}{env:Env}(h:∀n,(n,NameKind.free)∈sc.names->∃c,env.cells.lookup n=some c) :
  ∃cl:List (Str × Addr),closureFor sc env=pure cl/\(∀x c,cl.lookup x=some c->env.cells.lookup x=some c)/\(∀n,(n,NameKind.free)∈sc.names->∃c,cl.lookup n=some c):=by
 obtain⟨cl,e1,e2,e3,_⟩:=zDm (env:=env) sc.names [] h (λ x c e=>by simp at e);refine⟨cl,?_,e2,e3⟩;unfold closureFor;rw[←bind_pure (pure cl),←e1]
theorem zCC {names:List (Str × NameKind)}{x:Str}{k:NameKind}(h:names.lookup x=some k):(x,k)∈names:=by
 induction names with
 |nil=>simp at h
 |cons p r ih =>
  obtain⟨n,j⟩:=p;rw[List.lookup_cons] at h;cases hx:x == n with
  |true=>rw[hx] at h;cases h;rw[eq_of_beq hx];exact lO
  |false=>rw[hx] at h;exact lP _ (ih h)
set_option tactic.hygienic true in
theorem zDt {sc:Scope}{env:Env}{x:Str}{k:NameKind}(hk:k = .cell\/k = .free) (nc:∀y∈sc.names,y.2 ≠ .cell) (h:(relabel sc env).names.lookup x=some k):(x,NameKind.free)∈sc.names:=by
 have m:=zCC h;obtain⟨⟨n,j⟩,hm,e⟩:=mC.mp m;have q:(if (j == NameKind.free && env.scope.kind == .function && env.kindOf n == some .cell)=true then (n,NameKind.cell) else (n,j))=(x,k):=e;split at q
 ·rename_i c
  rw[Bool.and_eq_true,Bool.and_eq_true] at c;have j':j = .free:=by simpa using c.1.1
  cases q;rw[j'] at hm;exact hm
 ·cases q
  rcases hk with z|z
  ·exact absurd z (nc _ hm)
  ·rw[z] at hm;exact hm
theorem zAy {sc:Scope}{env:Env}{x:Str}:∀{names:List (Str × NameKind)},names.lookup x=some .free ->
  (names.map λ(n,k)=>if (k == NameKind.free && env.scope.kind == .function && env.kindOf n == some .cell) then (n,NameKind.cell) else (n,k)).lookup x=some .cell \/
  (names.map λ(n,k)=>if (k == NameKind.free && env.scope.kind == .function && env.kindOf n == some .cell) then (n,NameKind.cell) else (n,k)).lookup x=some .free
 |[],h=>by simp at h
 | (n,k)::r,h=>by
  have ih:=@zAy sc env x r;rw[List.lookup_cons] at h
  by_cases c:(k == NameKind.free && env.scope.kind == .function && env.kindOf n == some .cell)=true
  ·rw[mL]
   simp only[c,if_true,List.lookup_cons];cases hx:x == n with
   |true=>exact .inl rfl
   |false=>rw[hx] at h;exact ih h
  ·rw[mL]
   have c':=Bool.eq_false_iff.mpr c;simp only[c',Bool.false_eq_true,if_false,List.lookup_cons];cases hx:x == n with
   |true=>rw[hx] at h;cases h;exact .inr rfl
   |false=>rw[hx] at h;exact ih h
theorem zEs {P:Program}{w:World}{A:Around}{R:Result->Shared->Prop}{s:Shared}{elt tg iter:Expr}{ifs:List Expr}{sc:Scope}{pos:Pos}{it acc:Value}{env:Env}(J:Nat->Shared->Prop)
  (turn:∀n s,J n s->wpAny (model P w) A (pyNext it) (λ r s1=>match r with
   |none=>R (.ok .next) s1
   |some v=>wpAny (model P w) A (letOwnedTupleGo tg it v) (λ Ω s2=>wpAny (model P w) A (assign tg env v) (λ Ω s3 =>
     wpAny (model P w) A (forIn ifs true λ c r=>if r=true then do let ok ← isTrue c env (eval c env);pure (ForInStep.yield ok) else pure (ForInStep.yield r)) (λ ok s4 =>
      if ok=true then wpAny (model P w) A (eval elt env) (λ x s5=>wpAny (model P w) A (call (.builtin "list.append") [acc,x]) (λ Ω s6=>∃m,m<n/\J m s6) NoX s5) NoX s4
      else ∃m,m<n/\J m s4) NoX s3) NoX s2) NoX s1) NoX s) (n:Nat) (h:J n s) :
  codeAny (model P w) A (.compLoop (.ListComp elt [⟨tg,iter,ifs,0⟩] sc pos) 0 it acc env) R s:=by
 refine codeAny_loop rfl J (λ n s hJ=>?_) n h;refine wpAny_noted ?_;rw[compTurn_list];refine lA (wpAny_standAt (lA (noX (thn (turn n s hJ) λ r s1 h1=>?_))));cases r with
 |none=>exact lB h1
 |some v =>
  refine lA (noX (thn h1 λ Ω s2 h2=>?_));refine lA (noX (thn h2 λ Ω s3 h3=>?_));refine lA (noX (thn h3 λ ok s4 h4=>?_));cases ok with
  |false=>exact lB ⟨rfl,h4⟩
  |true=>exact lA (lA (noX (thn h4 λ x s5 h5=>lA (noX (thn h5 λ Ω s6 h6=>lB (lB ⟨rfl,h6⟩))))))
def PTs (X:Cx) (ifs:List Expr) (t:TT):Prop :=
 ∀(jP:List (Addr × Obj)) (s:Shared) (σ:St) (H:Hp) (Q:Bool->Hp->Prop),Inv X jP σ H s->t σ H Q ->
  wpAny (model X.prog X.w) X.A (forIn ifs true λ c r=>if r=true then do let ok ← isTrue c X.env (eval c X.env);pure (ForInStep.yield ok) else pure (ForInStep.yield r)) (TP X jP σ Q) X.xe s
def tYes:TT:=λ Ω H Q=>Q true H
theorem zBF {X:Cx}:PTs X [] tYes:=λ Ω Ω Ω H Ω I h=>wpAny_tests_nil ⟨H,I,h⟩
theorem zCS {X:Cx}{c:Expr}{t:TT}(h:PT X c t):PTs X [c] t:=λ jP s σ H Q I hq=>wpAny_tests_one (h jP s σ H Q I hq)
def tComp (cap:List (Option Nat)) (wi:TI) (g:TG) (tt:TT) (te:TE):TE:=λ σ H Q=>wi σ H λ J H1=>∀acc,H1 acc=none ->
 ∃W:Nat->Nat->Hp->Prop,(∃m,W 0 m (upd H1 acc (.lst [])))/\∀i m H2,W i m H2 ->
  (J.stop i H2/\Q (.ref acc) H2)\/(J.go i H2/\∃N:Hp->Prop,(∀H',N H'->∃m',m'<m/\W (i+1) m' H')/\∀x H3,J.yld i H2 x H3->g x (capSt cap σ) H3 λ σ2 H4=>Ext (capSt cap σ) σ2/\tt σ2 H4 λ b H5 =>
   if b=true then te σ2 H5 λ y H6=>∃zs,H6 acc=some (.lst zs)/\zs.length<sizeLine/\N (upd H6 acc (.lst (zs++[y])))
   else N H5)
theorem HOk.but {P:Program}{w:World}{H:Hp}{h h':Heap}{C:Addr}(x:HOk P w H h) (n:H C=none) (sb:Heap.SameBut C h h'):HOk P w H h':=λ a o e =>
 (x a o e).stay (λ b u hb q=>(sb.2 b (λ z=>by
  subst z;rcases hb with z|z
  ·subst z;rw[n] at e;cases e
  ·rw[n] at z;cases z)).trans q) (λ Ω q=>q) λ Ω Ω q=>q
theorem Un.but {fs ex:List Addr}{H H':Hp}{h h1 h2:Heap}{C:Addr}(u:Un fs ex H H' h h1) (lt:h.objs.size<=C) (sb:Heap.SameBut C h1 h2):Un fs ex H H' h h2:=by
 have ne:∀b o,h.get? b=some o->b≠C:=λ b o e=>lS (lZ (lI e) lt);refine⟨λ b o e n hb hx=>(sb.2 b (ne b o e)).trans (u.keep b o e n hb hx),λ b o e n hb hx=>?_,u.free,λ b o e hx=>?_,u.tups,u.frzs,u.tbls⟩
 ·obtain⟨sl,q⟩:=u.slot b o e n hb hx
  exact⟨sl,(sb.2 b (ne b o e)).trans q⟩
 ·obtain⟨o',q⟩:=u.there b o e hx
  exact⟨o',(sb.2 b (ne b o e)).trans q⟩
section
variable {X:Cx}
theorem zHu {jP:List (Addr × Obj)}{σ:St}{H:Hp}{s:Shared}{sc:Scope}{cl:List (Str × Addr)}{N:List Str}{C:Addr}{fp:List Addr}(I:Inv X jP σ H s) (hk:sc.kind = .function) (nc:∀y∈sc.names,y.2 ≠ .cell)
  (hC:s.heap.objs.size<=C) (hf:∀b∈fp,FpOk X jP H b) (hfo:∀b∈fp,∃o,s.heap.get? b=some o) (c1:∀x c,cl.lookup x=some c->X.env.cells.lookup x=some c) (c2:∀n,(n,NameKind.free)∈sc.names->∃c,cl.lookup n=some c) :
  (X.block sc cl N s H C fp).Ok where
 mod:=I.ok.mod
 kind:=hk
 glob:=I.ok.glob
 blt:=I.ok.blt
 above:=hC
 inj:=λ x y c e e'=>I.ok.inj x y c (c1 x c e) (c1 y c e')
 has:=λ x h=>c2 x (h.elim (zDt (.inl rfl) nc) (zDt (.inr rfl) nc))
 cab:=λ x c e=>(nomatch e)
 hd:=I.ok.hd
 frames:=I.ok.frames
 stk:=.inl rfl
 exf:=λ b hb=>⟨λ z=>by
  obtain⟨o,e⟩:=hfo b hb;have lt:=lI e;rw[z] at lt;exact absurd (lZ lt hC) (Nat.lt_irrefl _),λ x c e=>(hf b hb).2.2.2.2.1 x c (c1 x c e)⟩
 bs:=I.bs
 bsz:=mG I.ok.bsz I.sz
 noex:=λ b o e hb=>by
  rcases (hf b hb).2.2.2.1 with z|z
  ·exact I.ok.noex b o e z
  ·exact absurd (lZ (lI (I.ok.bs b o e).1) z) (Nat.lt_irrefl _)
 exfs:=λ b hb hs=>by
  rcases lN.mp (I.stkSub b hs) with z|z
  ·exact(hf b hb).2.1 z
  ·exact(hf b hb).2.2.1 z
 funs:=I.stack
 frf:=I.stkFree
theorem zMQ {elt tg iter:Expr}{ifs:List Expr}{sc:Scope}{pos:Pos}{wi:TI}{g:TG}{tt:TT}{te:TE}(N:List Str) (cap:List (Option Nat)) (hc:X.calm=true) (hi:PI X tg iter wi)
  (hg:∀cl s H C ex,PG (X.block sc cl N s H C ex) tg g) (ht:∀cl s H C ex,PTs (X.block sc cl N s H C ex) ifs tt) (he:∀cl s H C ex,PE (X.block sc cl N s H C ex) elt te)
  (hk:sc.kind = .function) (nc:∀y∈sc.names,y.2 ≠ .cell) (hnames:∀y∈sc.names,y.2 = .local->sc.names.lookup y.1=some .local)
  (hfree:∀n,(n,NameKind.free)∈sc.names->X.env.kindOf n=some .cell)
  (hcap:∀(i j:Nat),cap[i]?=some (some j)->∃x,N[i]?=some x/\X.N[j]?=some x/\sc.names.lookup x=some .free) (hlen:cap.length=N.length)
  (hs:∀x,foldedSetIterable iter X.env x=pure x:=by intro _;rfl):PE X (.ListComp elt [⟨tg,iter,ifs,0⟩] sc pos) (tComp cap wi g tt te):=by
 intro jP s σ H Q I h;obtain⟨cl,hclos,c1,c2⟩:=zDn (sc:=sc) (env:=X.env) λ n hn=>I.ok.has n (.inl (hfree n hn));rw[eval_ListComp];refine wpAny_comprehension_free (use:=none) rfl hs hclos hk hnames ?_;refine thn (hi jP s σ H _ I h) λ v s1 h1=>thn h1 λ itv s2 h2=>?_;obtain⟨it,fp,tn,J,H2,e,I2,T,st2,f2,q2⟩:=h2;subst e;have hfr:H2 s2.heap.objs.size=none:=I2.fresh;obtain⟨W,⟨m0,w0⟩,turn⟩:=q2 s2.heap.objs.size hfr;have I3:=I2.lnew (ys:=[]) (its:=[]) (t':=s2.toks) .nil (lY _);have hacc:H2 s2.heap.objs.size=none:=hfr;refine wpAny_newObj_type (wpAny_newFunctionEnv nc (by intro y hy;simp at hy) (λ h4 hns hsb=>?_) hk);generalize hs3:({ s2 with heap:=s2.heap.push { cls:=.type "list", data:=.seq ([]:List Value).toArray } }:Shared)=s3 at hns hsb I3 ⊢;have hheap:s3.heap=s2.heap.push { cls:=.type "list", data:=.seq ([]:List Value).toArray }:=by rw[←hs3]
 generalize hH3:upd H2 s2.heap.objs.size (.lst [])=H3 at I3 w0;have up2:∀b o,s2.heap.get? b=some o->s3.heap.get? b=some o:=λ b o q=>by rw[hheap];exact lG _ q
 have neA:∀b∈fp,b≠s2.heap.objs.size:=λ b hb=>by
  obtain⟨o,q,_⟩:=T.obj _ _ st2 b hb;exact lS (lI q)
 have f3:∀b∈fp,FpOk X jP H3 b:=λ b hb=>⟨by rw[←hH3,zAR (neA b hb)];exact(f2 b hb).1,(f2 b hb).2⟩
 have o3:∀b∈fp,∃o,s3.heap.get? b=some o:=λ b hb=>by
  obtain⟨o,q,_⟩:=T.obj _ _ st2 b hb;exact⟨o,up2 b o q⟩
 have ok':=zHu (N:=N) (C:=s3.heap.objs.size) I3 hk nc (lQ _) f3 o3 c1 c2;generalize hC:s3.heap.objs.size=C at hns hsb ok' ⊢;have ltC:∀b o,s3.heap.get? b=some o->b≠C:=λ b o q=>by rw[←hC];exact lS (lI q)
 have up4:∀b o,s3.heap.get? b=some o->h4.get? b=some o:=λ b o q=>hsb.extBut b o (ltC b o q) (lG _ q);have st4:tn 0 h4:=T.keep _ _ _ st2 λ b hb o q=>up4 b o (up2 b o q)
 have I4:Inv (X.block sc cl N s3 H3 C fp) [] (capSt cap σ) H3 { s3 with heap:=h4,toks:=s3.toks+([]:List (Str × Value)).length }:=by
  refine⟨ok',rfl,I3.bare,Un.kept up4,⟨_,hns,λ i x v e1 e2 e3=>?_⟩,λ x c q=>?_,?_,λ x c q=>I3.freeC x c (c1 x c q),λ p hp=>(nomatch hp),I3.hok.kept up4,?_⟩
  ·have ee:∃j,cap[i]?=some (some j)/\σ[j]?=some (some v):=by
    unfold capSt at e2;rw[mJ] at e2;cases q:cap[i]? with
    |none=>rw[q] at e2;cases e2
    |some o =>
     rw[q] at e2;cases o with
     |none=>cases e2
     |some j =>
      refine⟨j,rfl,?_⟩;have e2':some ((σ[j]?).join)=some (some v):=e2;cases z:σ[j]? with
      |none=>rw[z] at e2';cases e2'
      |some o' =>
       rw[z] at e2';have e2'':o'=some v:=mE e2';rw[e2'']
   obtain⟨j,ej,es⟩:=ee;obtain⟨x',n1,n2,n3⟩:=hcap i j ej;have e1':N[i]?=some x:=e1;rw[n1] at e1';cases e1';have hfr':(x,NameKind.free)∈sc.names:=zCC n3;have kc:=hfree x hfr';obtain⟨m,_,hl⟩:=I3.loc;obtain⟨u,r,l⟩:=hl j x v n2 es (.inr (.inl kc));refine⟨u,r,?_⟩;rcases l with ⟨l,_⟩|⟨_,c,ec,z⟩
   ·rw[kc] at l;cases l
   ·obtain⟨c',ec'⟩:=c2 x hfr'
    have:=c1 x c' ec';rw[ec] at this;cases this;obtain⟨oc,q1,q2⟩:=z;exact .inr ⟨zAy (sc:=sc) n3,c,ec',oc,up4 _ _ q1,q2⟩
  ·obtain⟨v,oc,q1,q2⟩:=I3.cell x c (c1 x c q)
   exact⟨v,oc,up4 _ _ q1,q2⟩
  ·exact I3.hok.fresh (by rw[hC];exact lQ _)
  ·show (capSt cap σ).length=N.length
   unfold capSt;rw[mD,hlen]
 have loop:codeAny (model X.prog X.w) X.A (.compLoop (.ListComp elt [⟨tg,iter,ifs,0⟩] sc pos) 0 (.ref it) (.ref s2.heap.objs.size) (compEnvC sc cl C X.env)) (compPost (model X.prog X.w) X.A X.xe none (EP X jP σ Q) (.ref s2.heap.objs.size) C)
   { s3 with heap:=h4,toks:=s3.toks+([]:List (Str × Value)).length }:=by
  have stat:∀{H':Hp},(∀b∈fp,H' b=none)->∀b∈fp,FpOk (X.block sc cl N s3 H3 C fp) [] H' b:=λ hn b hb =>
   ⟨hn b hb,(ok'.exf b hb).1,ok'.exfs b hb,.inl hb,(ok'.exf b hb).2,λ p hp=>(nomatch hp)⟩
  refine zEs (λ n s'=>∃i H',Inv (X.block sc cl N s3 H3 C fp) [] (capSt cap σ) H' s'/\tn i s'.heap/\(∀b∈fp,H' b=none)/\W i n H') ?_ m0 ⟨0,H3,I4,st4,λ b hb=>(f3 b hb).1,w0⟩;rintro n s5 ⟨i,H5,I5,st5,fr5,w5⟩;rcases turn i n H5 w5 with ⟨stop,qn⟩|⟨go,N',hN',step⟩
  ·refine thn (T.done (X.block sc cl N s3 H3 C fp) rfl rfl rfl hc i [] s5 _ H5 NoX I5 (stat fr5) st5 stop) λ r s6 ⟨hr,I6⟩=>?_
   subst hr;obtain⟨m,hm,_⟩:=I6.loc;refine⟨m,hm,λ h' sb=>⟨.ref s2.heap.objs.size,H5,?_,rfl,qn⟩⟩;refine I3.call' (s':={ s6 with heap:=h' }) (ch:=fp) I6.os (I6.base.but (by rw[←hC];exact lQ _) sb) (I6.hok.but I6.free sb) I6.bare λ b hb=>?_;obtain⟨g0,g1,g2,g3,g4,g5⟩:=f3 b hb;exact⟨g3,g1,g4,g5⟩
  ·refine thn (T.item (X.block sc cl N s3 H3 C fp) rfl rfl rfl hc i [] s5 _ H5 NoX I5 (stat fr5) st5 go) λ r s6 ⟨u,hr,h6⟩=>?_
   subst hr;refine thn h6 λ _ s7 ⟨x,H7,I7,r7,y7,st7,fr7⟩=>?_;have I7':=I7.pinned (stat fr7) (T.obj _ _ st7)
   have again:∀{σ8:St}{H8:Hp}{s8:Shared},Inv (X.block sc cl N s3 H3 C fp) ([]++zEV fp s7.heap) σ8 H8 s8->Ext (capSt cap σ) σ8->N' H8 ->
     ∃m,m<n/\∃i H',Inv (X.block sc cl N s3 H3 C fp) [] (capSt cap σ) H' s8/\tn i s8.heap/\(∀b∈fp,H' b=none)/\W i m H':=λ{σ8 H8 s8} I8 ex n8=>by
    obtain⟨m',hm,w8⟩:=hN' H8 n8;have I8':=I8.unpinned.weak ex.len ex.get;refine⟨m',hm,i+1,H8,I8',T.keep _ _ _ st7 λ b hb o q=>(I8.pin (b,o) (mB _ (mB _ (zBN hb q)))).1,λ b hb=>?_,w8⟩;obtain⟨o,q,d⟩:=T.obj _ _ st7 b hb;exact(I8.pin (b,o) (mB _ (mB _ (zBN hb q)))).2.1
   refine thn (hg cl s3 H3 C fp _ s7 _ H7 x u _ I7' r7 (step x H7 y7)) λ _ s8 ⟨σ8,H8,I8,ex8,q8⟩=>?_;refine thn (ht cl s3 H3 C fp _ s8 σ8 H8 _ I8 q8) λ b s9 ⟨H9,I9,q9⟩=>?_;cases b with
   |false=>exact again I9 ex8 q9
   |true =>
    rw[if_pos rfl] at q9 ⊢;refine thn (he cl s3 H3 C fp _ s9 σ8 H9 _ I9 q9) λ yv s10 ⟨y,H10,I10,r10,zs,e10,l10,q10⟩=>?_;refine thn (zDH (X:=X.block sc cl N s3 H3 C fp) _ s10 σ8 H10 (.ref s2.heap.objs.size) [y] (.ref s2.heap.objs.size) [yv] (λ Ω H'=>N' H') I10 rfl (.cons r10 .nil) ⟨_,zs,y,rfl,rfl,e10,l10,q10⟩) λ _ s11 ⟨_,H11,I11,_,q11⟩=>?_;exact again I11 ex8 q11
 exact codeAny_compStart_list loop (T.self X.A 0 _ _ _ st4 loop)
end
theorem zLR {K:W.Frag}{a acc:Addr}{xs:List V}{g:TG}{tt:TT}{te:TE}{σ:St}{H:Hp}{Q:VK}(Pv:Nat->Hp->Prop) (h0:Pv 0 (upd H acc (.lst []))) (hl:∀i H,i<=xs.length->Pv i H->SqT K H a xs)
  (hs:∀i x H,xs[i]?=some x->Pv i H->g x σ H λ σ2 H4=>Ext σ σ2/\tt σ2 H4 λ b H5 =>
   if b=true then te σ2 H5 λ y H6=>∃zs,H6 acc=some (.lst zs)/\zs.length<sizeLine/\Pv (i+1) (upd H6 acc (.lst (zs++[y]))) else Pv (i+1) H5) (hd:∀H,Pv xs.length H->Q (.ref acc) H) :
  ∃W:Nat->Nat->Hp->Prop,(∃m,W 0 m (upd H acc (.lst [])))/\∀i m H2,W i m H2 ->
   ((Itt K a).stop i H2/\Q (.ref acc) H2)\/((Itt K a).go i H2/\∃N:Hp->Prop,(∀H',N H'->∃m',m'<m/\W (i+1) m' H')/\∀x H3,(Itt K a).yld i H2 x H3->g x σ H3 λ σ2 H4=>Ext σ σ2/\tt σ2 H4 λ b H5 =>
    if b=true then te σ2 H5 λ y H6=>∃zs,H6 acc=some (.lst zs)/\zs.length<sizeLine/\N (upd H6 acc (.lst (zs++[y])))
    else N H5):=by
 refine⟨λ i m H=>m=xs.length - i/\i<=xs.length/\Pv i H,⟨xs.length,by simp,lY _,h0⟩,?_⟩;rintro i m H2 ⟨rfl,hi,p⟩;have q:=hl i H2 hi p
 by_cases hlt:i<xs.length
 ·refine .inr ⟨⟨xs,xs[i],q,by simp[hlt]⟩,Pv (i+1),λ H' p'=>⟨xs.length - (i+1),by omega,rfl,hlt,p'⟩,λ x H' y=>?_⟩
  obtain⟨e,y⟩:=y;subst e;exact hs i x _ (y xs q) p
 ·have e:i=xs.length:=by omega
  subst e;exact .inl ⟨⟨xs,q,lQ _⟩,hd H2 p⟩
theorem zIO {lo:Int}{n:Nat}{acc:Addr}{g:TG}{tt:TT}{te:TE}{σ:St}{H:Hp}{Q:VK}(Pv:Nat->Hp->Prop) (h0:Pv 0 (upd H acc (.lst [])))
  (hs:∀i H,i<n->Pv i H->g (.int (lo+i)) σ H λ σ2 H4=>Ext σ σ2/\tt σ2 H4 λ b H5 =>
   if b=true then te σ2 H5 λ y H6=>∃zs,H6 acc=some (.lst zs)/\zs.length<sizeLine/\Pv (i+1) (upd H6 acc (.lst (zs++[y]))) else Pv (i+1) H5) (hd:∀H,Pv n H->Q (.ref acc) H) :
  ∃W:Nat->Nat->Hp->Prop,(∃m,W 0 m (upd H acc (.lst [])))/\∀i m H2,W i m H2 ->
   ((Itr lo n).stop i H2/\Q (.ref acc) H2)\/((Itr lo n).go i H2/\∃N:Hp->Prop,(∀H',N H'->∃m',m'<m/\W (i+1) m' H')/\∀x H3,(Itr lo n).yld i H2 x H3->g x σ H3 λ σ2 H4=>Ext σ σ2/\tt σ2 H4 λ b H5 =>
    if b=true then te σ2 H5 λ y H6=>∃zs,H6 acc=some (.lst zs)/\zs.length<sizeLine/\N (upd H6 acc (.lst (zs++[y])))
    else N H5):=by
 refine⟨λ i m H=>m=n - i/\i<=n/\Pv i H,⟨n,by simp,lY _,h0⟩,?_⟩;rintro i m H2 ⟨rfl,hi,p⟩
 by_cases hlt:i<n
 ·refine .inr ⟨hlt,Pv (i+1),λ H' p'=>⟨n - (i+1),by omega,rfl,hlt,p'⟩,λ x H' y=>?_⟩
  obtain⟨e,y⟩:=y;subst e y;exact hs i _ hlt p
 ·have e:i=n:=by omega
  subst e;exact .inl ⟨lQ _,hd H2 p⟩
noncomputable def zHr (sc:Scope) (env:Env) (XN N:List Str) (cap:List (Option Nat)):Bool :=
 (sc.kind == .function) && (sc.names.all λ y=>y.2 != .cell) && (sc.names.all λ y=>y.2 != .local || sc.names.lookup y.1 == some .local) &&
 (sc.names.all λ y=>y.2 != .free || env.kindOf y.1 == some .cell) &&
 ((List.range cap.length).all λ i=>match cap[i]? with
  |some (some j)=>(match N[i]? with|some x=>XN[j]? == some x && sc.names.lookup x == some .free|none=>false)
  |_=>true) && (cap.length == N.length)
theorem zAk {X:Cx}{elt tg iter:Expr}{ifs:List Expr}{sc:Scope}{pos:Pos}{wi:TI}{g:TG}{tt:TT}{te:TE}(N:List Str) (cap:List (Option Nat)) (hc:X.calm=true) (hi:PI X tg iter wi)
  (hg:∀cl s H C ex,PG (X.block sc cl N s H C ex) tg g) (ht:∀cl s H C ex,PTs (X.block sc cl N s H C ex) ifs tt) (he:∀cl s H C ex,PE (X.block sc cl N s H C ex) elt te)
  (ck:zHr sc X.env X.N N cap=true) (hs:∀x,foldedSetIterable iter X.env x=pure x:=by intro _;rfl):PE X (.ListComp elt [⟨tg,iter,ifs,0⟩] sc pos) (tComp cap wi g tt te):=by
 unfold zHr at ck;simp only[Bool.and_eq_true] at ck;obtain⟨⟨⟨⟨⟨k1,k2⟩,k3⟩,k4⟩,k5⟩,k6⟩:=ck;refine zMQ N cap hc hi hg ht he (by simpa using k1) (λ y hy=>?_) (λ y hy z=>?_) (λ n hn=>?_) (λ i j e=>?_) (by simpa using k6) hs
 ·have:=List.all_eq_true.mp k2 y hy
  simpa using this
 ·have:=List.all_eq_true.mp k3 y hy
  rw[z] at this;simpa using this
 ·have:=List.all_eq_true.mp k4 _ hn
  simpa using this
 ·have hi:i<cap.length:=(lJ.mp e).1
  have:=List.all_eq_true.mp k5 i (List.mem_range.mpr hi);rw[e] at this;dsimp only at this;cases q:N[i]? with
  |none=>rw[q] at this;cases this
  |some x =>
   rw[q] at this;dsimp only at this;rw[Bool.and_eq_true] at this;exact⟨x,rfl,by simpa using this.1,by simpa using this.2⟩
section
variable {prog:Program}{w:World}{A:Around}{E:XQ}{s:Shared}
theorem zBd {it t:Addr}{i:Nat}{items:Array Value}{x:Value}{Q:XQ}(hit:s.heap.IsTupleIter it t i) (ht:s.heap.IsTuple t items) (hx:items[i]?=some x)
  (hQ:∀h',h'.IsTupleIter it t (i+1)->Heap.SameBut it s.heap h'->Q x { s with heap:=h' }):wpAny (model prog w) A (Builtin.SmallTypes.nextOf (.ref it)) Q E s:=by
 obtain⟨o,ho,hc,hd⟩:=id hit;obtain⟨ol,hol,_,nl,hdl⟩:=ht;unfold Builtin.SmallTypes.nextOf;refine lA (wpAny_callSpecial?_slot (name:=Str.ofString "__next__") hit.typeIs F.slot_tuple_iterator_next (wpAny_call_entry F.slot_tuple_iterator_next hit.typeIs F.entry_tuple_iterator_next ?_ (F.args_tuple_iterator_next_1 _)));show wpAny _ _ (field (.ref it) 0 >>= _) _ _ s;refine lA (wpAny_field ho hd (x:=.ref t) rfl ?_);show wpAny _ _ (if (Value.ref t == Value.none)=true then _ else _) _ _ s;rw[if_neg (show ¬((Value.ref t == Value.none)=true) from Bool.false_ne_true)];show wpAny _ _ (field (.ref it) 1 >>= _) _ _ s;refine lA (wpAny_field ho hd (x:=.int i 0) rfl ?_);show wpAny _ _ (seqItems? (.ref t) >>= _) _ _ s;refine lA (wpAny_seqItems hol hdl ?_);simp only[Int.toNat_natCast,hx];refine lA (wpAny_setField ho hd (by simp) (lB ⟨x,rfl,lB (hQ _ ?_ (Heap.SameBut.update ..))⟩));exact⟨_,mI _ ho (Obj.isFreed_of_fields (Obj.data_mapFields hd _)),(Obj.cls_mapFields ..).trans hc,by rw[Obj.data_mapFields hd];simp[rawInt]⟩
theorem zBw {it t:Addr}{i:Nat}{items:Array Value}{Q:XQ}(hh:A.handled=none) (hit:s.heap.IsTupleIter it t i) (ht:s.heap.IsTuple t items) (hx:items[i]?=none)
  (hE:∀h' e,Heap.ExtBut it s.heap h'->(∃o,h'.get? e=some o/\o.cls = .type "StopIteration")->E (.ref e) { s with heap:=h' }):wpAny (model prog w) A (Builtin.SmallTypes.nextOf (.ref it)) Q E s:=by
 obtain⟨o,ho,hc,hd⟩:=id hit;obtain⟨ol,hol,_,nl,hdl⟩:=ht;unfold Builtin.SmallTypes.nextOf;refine lA (wpAny_callSpecial?_slot (name:=Str.ofString "__next__") hit.typeIs F.slot_tuple_iterator_next (wpAny_call_entry F.slot_tuple_iterator_next hit.typeIs F.entry_tuple_iterator_next ?_ (F.args_tuple_iterator_next_1 _)));show wpAny _ _ (field (.ref it) 0 >>= _) _ _ s;refine lA (wpAny_field ho hd (x:=.ref t) rfl ?_);show wpAny _ _ (if (Value.ref t == Value.none)=true then _ else _) _ _ s;rw[if_neg (show ¬((Value.ref t == Value.none)=true) from Bool.false_ne_true)];show wpAny _ _ (field (.ref it) 1 >>= _) _ _ s;refine lA (wpAny_field ho hd (x:=.int i 0) rfl ?_);show wpAny _ _ (seqItems? (.ref t) >>= _) _ _ s;refine lA (wpAny_seqItems hol hdl ?_);simp only[Int.toNat_natCast,hx];refine lA (wpAny_rule (lA (wpAny_setField ho hd (by simp) ?_)));show wpAny _ _ (newExc (.type "StopIteration") [] >>= _) _ _ _;refine lA ?_;simp only[newExc,newTuple];refine lA (wpAny_newObj_type ?_ (by size_fits));refine lA (m:=firstArgMember _ _) (wpAny_of_eq (a:=Value.none) (by first|rfl|(simp only[firstArgMember];rfl)) ?_);refine wpAny_newObj_type ?_ (by size_fits);simp only[raiseNew];refine lA (wpAny_handled ?_);first|rw[show A.in1.handled=none from hh]|rw[hh]
 refine lA (lB (wpAny_throw ?_));exact hE _ _ (((Heap.SameBut.update ..).extBut.push _).push _) ⟨_,lH _ rfl,rfl⟩
theorem zG5 {prog:Program}{w:World}{A:Around}(hh:A.handled=none) (it t:Addr) (hne:t≠it) (items:Array Value) :
  Draws prog w A it [it,t] items.size (λ i v=>items[i]?=some v) (λ i h=>h.IsTupleIter it t i/\h.IsTuple t items) where
 live:=λ Ω Ω st=>let ⟨o,ho,_⟩:=st.1;⟨o,ho⟩
 frame:=λ Ω Ω Ω st hk=>⟨let ⟨o,ho,r⟩:=st.1;⟨o,hk it (by simp) o ho,r⟩,let ⟨o,ho,r⟩:=st.2;⟨o,hk t (by simp) o ho,r⟩⟩
 item:=λ i s Q E hi st hQ=>zBd st.1 st.2 (x:=items[i]) (by simp[hi]) λ h' hit' hs'=>hQ _ h' s.toks (by simp[hi]) ⟨hit',let ⟨o,ho,r⟩:=st.2;⟨o,hs'.extBut t o hne ho,r⟩⟩ hs'
 done:=λ s Q E st hE=>zBw hh st.1 st.2 (by simp) hE
set_option tactic.hygienic true in
theorem zE5 (l:Addr) (items:Array Value) (n:Nat) (dct:Option Addr) (sl:Array (Option Value)) :
  Meets (Builtin.«enumerate.__new__» ⟨[.type "enumerate", .ref l],[]⟩) (λ Ω R s=>s.heap.get? l=some { cls:=.type "tuple", dict:=dct,data:=.seq items n,slots:=sl } /\
   R (.ok (.ret (.ref (s.heap.push { cls:=.type "tuple_iterator", data:=.fields #[.ref l,.int 0 0] }).objs.size)))
    { s with heap:=(s.heap.push { cls:=.type "tuple_iterator", data:=.fields #[.ref l,.int 0 0] }).push { cls:=.type "enumerate", data:=.fields #[.none,.bool false,.ref s.heap.objs.size,rawInt 0,.none,.none] } }) :=
 .of_wp λ prog w A R s h=>by
  obtain⟨hp,g,d,tk,os⟩:=s;obtain⟨hl,h⟩:=h;have hsub:=sub_enumerate;have hL:Heap.IsTuple (Shared.heap ⟨hp,g,d,tk,os⟩) l items:=⟨_,hl,rfl,n,rfl⟩
  wp_walk using AutoSeq1.wpAny_loadPart' hl
  refine wpAny_stack_any λ st=>lB ?_;split
  ·rename_i c _ _ _ _ _;cases (c == Value.type "enumerate")
   ·wp_walk using AutoSeq1.wpAny_loadPart' hl,wpAny_pyIter_tuple hL;exact⟨_,rfl,h⟩
   ·wp_walk using AutoSeq1.wpAny_loadPart' hl,wpAny_pyIter_tuple hL;exact⟨_,rfl,h⟩
  ·wp_walk using AutoSeq1.wpAny_loadPart' hl,wpAny_pyIter_tuple hL;exact⟨_,rfl,h⟩
theorem zFr {l:Addr}{items:Array Value}{Q:XQ}(hL:s.heap.IsTuple l items)
  (h:∀h',IsEnum h' (s.heap.objs.size+1) s.heap.objs.size 0 .none->h'.IsTupleIter s.heap.objs.size l 0->h'.objs.size=s.heap.objs.size+2 ->
   (∀b o,s.heap.get? b=some o->h'.get? b=some o)->Q (.ref (s.heap.objs.size+1)) { s with heap:=h' }):wpAny (model prog w) A (call (.type "enumerate") [.ref l]) Q E s:=by
 obtain⟨⟨c,dct,dt,sl⟩,hl,hc,n,hd⟩:=hL;replace hc:c = .type "tuple" := hc;replace hd:dt = .seq items n:=hd;subst hc hd;refine callType_new F.called_enumerate (by decide) (F.typeCall_enumerate_1 _) (F.newCall_enumerate_1 _) (λ obj=>F.args_object_init_2 obj _) F.entry_enumerate_new (zE5 l items n dct sl) ⟨hl,?_⟩;have hz:(s.heap.push { cls:=.type "tuple_iterator", data:=.fields #[.ref l,.int 0 0] }).objs.size=s.heap.objs.size+1:=Heap.size_push ..;show _/\_;rw[hz]
 have he:IsEnum ((s.heap.push { cls:=.type "tuple_iterator", data:=.fields #[.ref l,.int 0 0] }).push { cls:=.type "enumerate", data:=.fields #[.none,.bool false,.ref s.heap.objs.size,rawInt 0,.none,.none] }) (s.heap.objs.size+1) s.heap.objs.size 0 .none:=by
  have:=lH (s.heap.push { cls:=.type "tuple_iterator", data:=.fields #[.ref l,.int 0 0] }) (o:={ cls:=.type "enumerate", data:=.fields #[.none,.bool false,.ref s.heap.objs.size,rawInt 0,.none,.none] }) rfl;rw[hz] at this;exact this
 exact⟨⟨_,he,rfl⟩,h _ he ⟨_,lG _ (lH _ rfl),rfl,rfl⟩ (by rw[Heap.size_push,hz]) λ b o x=>lG _ (lG _ x)⟩
end
section
variable {X:Cx}{jP:List (Addr × Obj)}{σ:St}{H:Hp}{s:Shared}{h':Heap}
theorem Inv.turnedN {t':Nat}{ch:List Addr}(I:Inv X jP σ H s) (k:∀b o,b∉ch->s.heap.get? b=some o->h'.get? b=some o) (hf:∀b∈ch,FpOk X jP H b):Inv X jP σ H { s with heap:=h',toks:=t' }:=by
 refine I.step (g':=s.gens) (d':=s.drawn) (ch:=ch) (λ b hb=>?_) (λ b o Ω Ω hc e Ω=>k b o hc e) (λ b o Ω Ω hc e Ω=>⟨o.slots,k b o hc e⟩) (λ Ω Ω Ω Ω n=>n)
  (λ b o hc e=>⟨o,k b o hc e⟩) (λ Ω Ω e=>e) (λ Ω Ω Ω e=>e) (λ b ps e=>⟨#[],by rw[e];simp⟩) (λ m hm=>?_) (λ b u e=>?_) I.bare
 ·obtain⟨f0,f1,f2,f3,f4,f5⟩:=hf b hb
  exact⟨f3,f1,f4,f5⟩
 ·obtain⟨o,es,ep,ho,r⟩:=hm
  exact⟨o,es,ep,k _ o (λ z=>(hf _ z).2.1 rfl) ho,r⟩
 ·refine(I.hok b u e).stay (λ c v hc q=>k c v (λ z=>?_) q) (λ Ω q=>q) λ Ω Ω q=>q
  have n:=(hf c z).1;rcases hc with y|y
  ·rw[y,e] at n;cases n
  ·rw[y] at n;cases n
theorem Inv.turnedL {t':Nat}{ch:List Addr}{a:Addr}{o:HO}(I:Inv X jP σ H s) (k:∀b o,b∉ch->s.heap.get? b=some o->h'.get? b=some o) (hf:∀b∈ch,FpOk X jP H b) (hp:s.heap.objs.size<=a)
  (new:ObjOk X.prog X.w (upd H a o) h' a o):Inv X jP σ (upd H a o) { s with heap:=h',toks:=t' }:=by
 have hn:H a=none:=I.hok.fresh hp;have ne:∀b u,s.heap.get? b=some u->b≠a:=λ b u e=>lS (lZ (lI e) hp)
 refine I.step (g':=s.gens) (d':=s.drawn) (ch:=ch) (λ b hb=>?_) (λ b o Ω Ω hc e Ω=>k b o hc e) (λ b o Ω Ω hc e Ω=>⟨o.slots,k b o hc e⟩) (λ b u Ω e n=>by rw[zAR (ne b u e)];exact n)
  (λ b o hc e=>⟨o,k b o hc e⟩) (λ b xs q=>by rw[zAR (zAN q hn)];exact q) (λ b u xs q=>by rw[zAR (zAN q hn)];exact q) (λ b ps q=>⟨#[],by rw[zAR (zAN q hn),q];simp⟩) (λ m hm=>?_) (λ b u e=>?_) I.bare
 ·obtain⟨f0,f1,f2,f3,f4,f5⟩:=hf b hb
  exact⟨f3,f1,f4,f5⟩
 ·obtain⟨o,es,ep,ho,r⟩:=hm
  exact⟨o,es,ep,k _ o (λ z=>(hf _ z).2.1 rfl) ho,r⟩
 ·by_cases hb:b=a
  ·subst hb
   rw[zAA] at e;cases e;exact new
  ·rw[zAR hb] at e
   refine(I.hok b u e).stay (λ c v hc q=>k c v (λ z=>?_) q) (λ c q=>by rw[zAR (zAN q hn)];exact q) λ c xs q=>by rw[zAR (zAN q hn)];exact q
   have n:=(hf c z).1;rcases hc with y|y
   ·rw[y,e] at n;cases n
   ·rw[y] at n;cases n
end
noncomputable def Ite (K:W.Frag) (a:Addr):It :=
 ⟨λ i H=>∃xs x,SqT K H a xs/\xs[i]?=some x,λ i H x H'=>∃T y,H T=none/\x = .ref T/\H'=upd H T (.tup [.int i,y])/\∀xs,SqT K H a xs->xs[i]?=some y,λ i H=>∃xs,SqT K H a xs/\xs.length<=i⟩
theorem zIX {P:Program}{w:World}{K:W.Frag}{es:List Expr}{k:Nat}{pos:Pos}(a e it:Addr) (hei:e≠it) :
  Turn P w K (.Tuple es k pos) (Ite K a) [e,it] e (λ i h=>(∃old,IsEnum h e it i old)/\h.IsTupleIter it a i) where
 mem:=by simp
 obj:=λ i h st b hb=>by
  obtain⟨⟨old,z⟩,o,e',c,d⟩:=st;rcases lN.mp hb with y|y
  ·subst y;exact⟨_,z,λ v q=>by have q':Data.fields _=Data.cell v:=q;cases q'⟩
  ·cases mQ.mp y
   exact⟨o,e',λ v q=>by rw[d] at q;cases q⟩
 keep:=λ i h h' st k=>by
  obtain⟨⟨old,z⟩,o,e',r⟩:=st;exact⟨⟨old,k e (by simp) _ z⟩,o,k it (by simp) o e',r⟩
 item:=by
  intro X hP hw hK hc i jP s σ H E I hf st hg;subst hP hw hK;obtain⟨xs,x,hq,hx⟩:=hg;obtain⟨its,rv,p,hz⟩:=I.tuple hq;obtain⟨u,hu,ru⟩:=rv.get hx;obtain⟨⟨old,he⟩,hit⟩:=st;have p':s.heap.IsTuple a its.toArray:=p
  have hai:a≠it:=λ z=>by
   obtain⟨o1,q1,c1,_⟩:=p';obtain⟨o2,q2,c2,_⟩:=hit;rw[z,q2] at q1;cases q1;rw[c2] at c1;injection c1 with c3;exact absurd c3 (by decide)
  have hae:a≠e:=λ z=>by
   obtain⟨o1,q1,c1,_⟩:=p';rw[z] at q1;have he':s.heap.get? e=some _:=he;rw[he'] at q1;cases q1;injection c1 with c3;exact absurd c3 (by decide)
  have hilt:i<its.toArray.size:=by
   have:=(lJ.mp hu).1;simpa using this
  refine wpAny_pyNext_enum_itemD (zG5 (A:=X.A.in1) (I.ok.hd hc) it a hai its.toArray) he ⟨hit,p'⟩ hilt hei (by simp[hei,Ne.symm hae]) λ y h1 tk hy ho hst hT hsz hk=>?_
  have hyu:y=u:=by
   have:(its.toArray)[i]?=some u:=by simpa using hu
   rw[hy] at this;exact mE this
  subst hyu;refine⟨_,rfl,?_⟩;have hn:H s.heap.objs.size=none:=I.fresh
  have I1:Inv X jP σ (upd H s.heap.objs.size (.tup [.int i,x])) { s with heap:=h1,toks:=tk+1 }:=I.turnedL (ch:=[e,it]) (λ b o hb q=>hk b o (λ z=>hb (by simp[z])) (λ z=>hb (by simp[z])) q) hf (lQ _)
   ⟨Nat.le_of_lt (zAK (show 2<=1000 by decide)),[.int i tk,y],.cons ⟨_,rfl⟩ (.cons ru .nil),_,hT,rfl,_,rfl⟩
  have neT:∀b∈[e,it],b≠s.heap.objs.size:=λ b hb=>by
   rcases lN.mp hb with z|z
   ·subst z;exact lS (lI (show s.heap.get? b=some _ from he))
   ·cases mQ.mp z
    obtain⟨o2,q2,_⟩:=hit;exact lS (lI q2)
  refine wpAny_letOwnedTupleGo_enum (s:={ s with heap:=h1,toks:=tk+1 }) ho λ h2 he2 hs2=>⟨.ref s.heap.objs.size,_,?_,rfl,⟨_,x,hn,rfl,rfl,λ ys hy'=>by rw[I.tuple_inj hy' hq];exact hx⟩,⟨⟨_,he2⟩,?_⟩,λ b hb=>?_⟩
  ·refine I1.turnedN (t':=tk+1) (ch:=[e]) (λ b o hb q=>(hs2.2 b (λ z=>hb (by simp[z]))).trans q) λ b hb=>?_
   have eb:=mQ.mp hb;subst eb;obtain⟨f0,f⟩:=hf b (by simp);exact⟨by rw[zAR (neT b (by simp))];exact f0,f⟩
  ·obtain⟨o2,q2,r2⟩:=hst.1
   exact⟨o2,(hs2.2 it hei.symm).trans q2,r2⟩
  ·rw[zAR (neT b hb)];exact(hf b hb).1
 done:=by
  intro X hP hw hK hc i jP s σ H E I hf st hg;subst hP hw hK;obtain⟨xs,hq,hx⟩:=hg;obtain⟨its,rv,p,hz⟩:=I.tuple hq;obtain⟨⟨old,he⟩,hit⟩:=st;have p':s.heap.IsTuple a its.toArray:=p
  have hai:a≠it:=λ z=>by
   obtain⟨o1,q1,c1,_⟩:=p';obtain⟨o2,q2,c2,_⟩:=hit;rw[z,q2] at q1;cases q1;rw[c2] at c1;injection c1 with c3;exact absurd c3 (by decide)
  have hl:=rv.length;have hT:s.TypeIs (.ref e) "enumerate" := ⟨_,he,rfl⟩;unfold pyNext;refine lA (wpAny_attempt (wpAny_callSpecial?_slot (name:=Str.ofString "__next__") hT F.slot_enumerate_next (wpAny_call_entry F.slot_enumerate_next hT F.entry_enumerate_next ?_ (F.args_enumerate_next_1 _))));show wpAny _ _ (field (.ref e) 2 >>= _) _ _ _;refine lA (wpAny_field he rfl (x:=.ref it) rfl ?_);refine lA (zBw (I.ok.hd hc) hit p' (by simp;omega) λ h1 x hx1 ⟨o,ho,hc'⟩=>?_);refine lA (wpAny_isInstance (T := "StopIteration") (b:=true) ⟨o,ho,hc'⟩ isSubtype_stop ?_);exact lB ⟨rfl,I.turnedN (t':=s.toks) (ch:=[it]) (λ b o hb q=>hx1 b o (λ z=>hb (by simp[z])) q) λ b hb=>hf b (by simp at hb ⊢;exact .inr hb)⟩
 self:=λ Ω Ω Ω Ω Ω st h=>let ⟨⟨_,he⟩,_⟩:=st;wpAny_pyIter_enum he h
def iEnum (K:W.Frag) (ta:TA):TI:=λ σ H R=>ta σ H λ vs H1=>∃a,vs=[.ref a]/\(∃xs,SqT K H1 a xs)/\R (Ite K a) H1
theorem zIz {X:Cx}{es:List Expr}{k:Nat}{tpos:Pos}{a:Expr}{ta:TA}{p pos:Pos}(hg:Gl X "enumerate") (hm:X.mg "enumerate" = none) (ha:PA X [a] ta) (hs:starEach [a] X.env=[(false,eval a X.env)]:=by rfl) :
  PI X (.Tuple es k tpos) (.Call (.Name "enumerate" p) [a] [] pos) (iEnum X.K ta):=by
 intro jP s σ H R I h;refine Call_ (zCl I hg hm boot_enumerate (PyProof.Rows.callWith_type1 (thn (ha pos jP s σ H _ I h) λ us s1 ⟨vs,H1,I1,r1,q1⟩=>?_) hs rfl));obtain⟨b,e,⟨xs,hq⟩,q⟩:=q1;subst e;obtain⟨u,rfl,ru⟩:=vals1 r1;cases ru;obtain⟨its,rv,tp,hz⟩:=I1.tuple hq;refine zFr (show s1.heap.IsTuple b its.toArray from tp) λ h' he hit hsz hk=>?_;refine wpAny_pyIter_enum he ⟨_,[s1.heap.objs.size+1,s1.heap.objs.size],_,_,H1,rfl,I1.kept (t':=s1.toks) hk,zIX b _ _ (Nat.succ_ne_self _),⟨⟨_,he⟩,hit⟩,λ c hc=>?_,q⟩
 have ge:s1.heap.objs.size<=c:=by
  rcases lN.mp hc with z|z
  ·rw[z];exact Nat.le_succ _
  ·rw[mQ.mp z];exact lQ _
 exact I1.fpOk ge (I1.hok.fresh ge)
theorem zHq {K:W.Frag}{a:Addr}{xs:List V}{g:TG}{tb:TS}{D:Ends}{σ:St}{H:Hp}(Pv:Nat->St->Hp->Prop) (h0:Pv 0 σ H) (hl:∀i σ H,i<=xs.length->Pv i σ H->SqT K H a xs)
  (hs:∀i x T σ H,xs[i]?=some x->Pv i σ H->H T=none->g (.ref T) σ (upd H T (.tup [.int i,x])) λ σ2 H2=>tb { D with nx:=Pv (i+1),ct:=Pv (i+1),bk:=D.nx } σ2 H2) (hd:∀σ H,Pv xs.length σ H->D.nx σ H) :
  ∃W:Nat->Nat->St->Hp->Prop,(∃m,W 0 m σ H)/\∀i m σ H,W i m σ H ->
   ((Ite K a).stop i H/\D.nx σ H)\/((Ite K a).go i H/\∃N:St->Hp->Prop,(∀σ' H',N σ' H'->∃m',m'<m/\W (i+1) m' σ' H')/\∀x H',(Ite K a).yld i H x H'->g x σ H' λ σ2 H2=>tb { D with nx:=N,ct:=N,bk:=D.nx } σ2 H2):=by
 refine⟨λ i m σ H=>m=xs.length - i/\i<=xs.length/\Pv i σ H,⟨xs.length,by simp,lY _,h0⟩,?_⟩;rintro i m σ H ⟨rfl,hi,p⟩;have q:=hl i σ H hi p
 by_cases hlt:i<xs.length
 ·refine .inr ⟨⟨xs,xs[i],q,by simp[hlt]⟩,Pv (i+1),λ σ' H' p'=>⟨xs.length - (i+1),by omega,rfl,hlt,p'⟩,λ x H' y=>?_⟩
  obtain⟨T,z,hT,ex,eH,y⟩:=y;subst ex eH;exact hs i z T σ H (y xs q) p hT
 ·have e:i=xs.length:=by omega
  subst e;exact .inl ⟨⟨xs,q,lQ _⟩,hd σ H p⟩
section
variable {X:Cx}
theorem zAC {H:Hp}{p:Addr}{o:HO}(h:H p=none):Same H (upd H p o):=λ b u q=>by rw[zAR (zAN q h)];exact q
def rIsi (K:W.Frag):List V->Hp->VK->Prop:=λ xs H Q=>∃x T t b,xs=[x,.ty T]/\TyOf K H x t/\W.kitOne K t (.type T)=some b/\Q (.bl b) H
theorem zLT:CallR X (.builtin "isinstance") (rIsi X.K):=by
 intro jP s σ H xs us Q I r h;obtain⟨x,T,t,b,rfl,ty,e,q⟩:=h;obtain⟨u,w',rfl,ru,rw'⟩:=vals2 r;cases rw';exact zJV I ru ty e λ tk=>⟨.bl b,H,I.tok tk,rfl,q⟩
theorem cI {X:Cx}{e:Expr}{te:TE}{T:Str}{u:String}{p p2 pos:Pos}(hm:X.mg "isinstance"=none)(hT:X.mg T=none)(hv:bootBuiltins T=some (.type u))(ha:PE X e te)(hg:Gl X "isinstance":=by rfl)(hG:Gl X T:=by rfl)(h1:starEach [e,.Name T p2] X.env=(false,eval e X.env)::starEach [.Name T p2] X.env:=by rfl)(h2:starEach [.Name T p2] X.env=(false,eval (.Name T p2) X.env)::starEach [] X.env:=by rfl)(h3:(backTo pos (starEach [.Name T p2] X.env)).any (·.1)=false:=by rfl)(hn:T≠"__name__":=by decide)(hd:(T==("__debug__":Str))=false:=by decide):PE X (.Call (.Name "isinstance" p) [e,.Name T p2] [] pos) (tCB (rIsi X.K) (tCons te (tCons (tC (.ty u)) tNil))):=zAt zLT hg hm PyProof.Rows.boot_isinstance (zAB ha (zAB (zMR hG hT hv rfl hn hd) zAD h2) h1) (by decide) (by decide) h1 h3
theorem zJl (a b:Str):eqV (.str a) (.str b)=true↔a=b:=by
 constructor
 ·intro h;simpa[eqV] using h
 ·intro h;subst h;simp[eqV]
theorem zJg (xs:List Str):(xs.map V.str).all flatV=true:=by
 rw[List.all_eq_true];intro x hx;obtain⟨y,_,rfl⟩:=mC.mp hx;rfl
def zNU:List V->Hp->VK->Prop:=λ xs H Q=>∃(d:Addr) (kvs:List (Key × V)) (ks:List Str),xs=[.ref d]/\H d=some (.dK kvs)/\kvs.map (·.1)=ks.map Sum.inr/\ks.length<64 /\
 ∀(l:Addr) (ss:List Str),H l=none->ss.Perm ks->ss.Pairwise (λ a b=>ltCps b.cps.toList a.cps.toList=false)->Q (.ref l) (upd H l (.lst (ss.map V.str)))
theorem zIc {P:Program}{w:World}:∀{vs:List (Key × Value)}{ks:List Str}{us:List Value},vs.map (·.1)=ks.map Sum.inr->us.length=vs.length ->
  (∀(j:Nat) (v:Value),us[j]?=some v->∃k x,vs[j]?=some (k,x)/\(zAd P w).is k v=true)->StrsAre us ks
 |[],[],[],_,_,_=>.nil
 | (k,x)::vs,y::ks,u::us,e,hl,h=>by
  have e1:k=Sum.inr y:=(List.cons.inj e).1;have e2:vs.map (·.1)=ks.map Sum.inr:=(List.cons.inj e).2;obtain⟨k',x',q,m⟩:=h 0 u rfl;have q':(k,x)=(k',x'):=mE q;cases q';subst e1;rcases zAo (show keyIs (Sum.inr y) u=true from m) with ⟨i,t,z,_⟩|⟨z,t,z1,z2⟩
  ·cases z
  ·cases z1
   subst z2;exact .cons _ t (zIc e2 (by simpa using hl) λ j v hv=>h (j+1) v (by simpa using hv))
 |[],_::_,_,e,_,_=>nomatch e
 |_::_,[],_,e,_,_=>nomatch e
 |[],[],_::_,_,e,_=>nomatch e
 |_::_,_::_,[],_,e,_=>nomatch e
theorem zFs {us:List Value}{ks:List Str}(h:StrsAre us ks):Vals (ks.map V.str) us:=by
 induction h with
 |nil=>exact .nil
 |cons y t r ih=>exact .cons ⟨t,rfl⟩ ih
theorem zJz {a b c:Str}(h1:ltCps b.cps.toList a.cps.toList=false) (h2:ltCps c.cps.toList b.cps.toList=false):ltCps c.cps.toList a.cps.toList=false:=by
 rw[ltCps_eq,decide_eq_false_iff_not] at *;exact List.le_trans (l₁:=a.cps.toList) (l₂:=b.cps.toList) (l₃:=c.cps.toList) h1 h2
theorem zFC:∀(p:Str) (l:List Str),risingS p l=true->(p::l).Pairwise (λ a b=>ltCps b.cps.toList a.cps.toList=false)
 |p,[],_=>by simp
 |p,x::r,h=>by
  have h':(!ltCps x.cps.toList p.cps.toList && risingS x r)=true:=h;rw[Bool.and_eq_true] at h';have h1:ltCps x.cps.toList p.cps.toList=false:=by simpa using h'.1
  have ih:=zFC x r h'.2;refine List.pairwise_cons.mpr ⟨λ y hy=>?_,ih⟩;rcases lN.mp hy with z|z
  ·subst z;exact h1
  ·exact zJz h1 ((List.pairwise_cons.mp ih).1 y z)
theorem zEZ:∀{l:List Str},sortedS l=true->l.Pairwise (λ a b=>ltCps b.cps.toList a.cps.toList=false)
 |[],_=>.nil
 |x::r,h=>zFC x r h
theorem zMn {kvs:List (Key × V)}{vs:List (Key × Value)}(h:KV kvs vs):kvs.map (·.1)=vs.map (·.1):=by
 unfold KV at h
 induction h with
 |nil=>rfl
 |cons r _ ih=>simp[r.1,ih]
theorem zD1 (hc:X.calm=true):CallR X (.builtin "sorted") zNU:=by
 intro jP s σ H xs us Q I r h;obtain⟨d,kvs,ks,rfl,hd,hk,h64,q⟩:=h;obtain⟨u,rfl,ru⟩:=vals1 r;cases ru;obtain⟨hz,hsm,vs,kv,hdo⟩:=(show ObjOk X.prog X.w H s.heap d (.dK kvs) from I.hok d _ hd);obtain⟨ep,hat⟩:=hdo.dictAt;have hks:vs.map (·.1)=ks.map Sum.inr:=by rw[←zMn kv];exact hk
 have hn:vs.length=ks.length:=by have:=congrArg List.length hks;simpa using this
 have line:vs.length<=sizeLine:=Nat.le_of_lt (zAK (by omega));refine Calls.call_function_entry kind_sorted plain_sorted entry_sorted (args_sorted1 _) ?_;unfold Builtin.«sorted»;refine lA (m:=checkCount "sorted" 1 1 _) (lB ?_);refine lA (W.kdu_collect (A:=X.A.in1) (W.kdl_dict (knd:=zAd X.prog X.w) (kvs:=vs) (ep:=ep) hsm) (I.ok.hd hc) hat line λ h1 tk acc hk1 hacc=>?_);have la:acc.toList.length=vs.length:=by rw[Array.length_toList];exact hacc.1
 have hS:StrsAre acc.toList ks:=zIc (P:=X.prog) (w:=X.w) hks la λ j v hv=>hacc.2 j v (by rw[←nG];exact hv);have I1:Inv X jP σ H { s with heap:=h1,toks:=tk }:=I.kept hk1;refine lA (wpAny_newList ?_ (by rw[la];exact line));have hoL:(h1.push { cls:=.type "list", data:=.seq acc.toList.toArray }).get? h1.objs.size=some (seqObj "list" acc.toList.toArray 0):=lH _ rfl;refine lA (lE (wpAny_call_entry slot_list_sort ⟨_,hoL,rfl⟩ entry_list_sort (list_sort_treeK strKind_oneLt hoL hS.keysOf (λ a b rest e=>keyKind_strs (ss:=ks) (by rw[←e];exact hS)) (by rw[la,hn];exact h64) λ st' a1 a2=>⟨_,rfl,?_⟩) (args_list_sort _)));obtain⟨ss,b1,b2,b3⟩:=sorted_out_str hS a1 a2;obtain⟨e,he⟩:∃e,(sortedHeap (h1.push { cls:=.type "list", data:=.seq acc.toList.toArray }) h1.objs.size acc.toList ((arrOf st').map (·.2))).get? h1.objs.size=some (seqObj "list" ((arrOf st').map (·.2)) e):=sortedHeap_at hoL;refine lB ⟨_,rfl,⟨.ref h1.objs.size,upd H h1.objs.size (.lst (ss.map V.str)),I1.laid (t':=tk) (a:=h1.objs.size) (o:=.lst (ss.map V.str)) (λ b o hb=>?_) (lQ _) ⟨?_,_,e,zFs b1,?_⟩,rfl,q _ ss (I1.hok.fresh (lQ _)) b2 (zEZ b3)⟩⟩
 ·rw[sortedHeap_old (Nat.ne_of_lt (Heap.lt_size hb)) (by rw[Heap.size_push];exact Nat.lt_succ_of_lt (lI hb))]
  exact lG _ hb
 ·rw[mD,b2.length_eq]
  exact Nat.le_of_lt (zAK (by omega))
 ·rw[he]
end
structure FnB (P:Program) (w:World) (K:W.Frag) (mg:Str->Option Value) (base:Heap) (k:Nat) (x:Str) (f:Addr) (fd:FuncData) (ps:List Str) (sp:Sp):Prop where
 ok:FnOk P w K mg base CX0 k f fd ps sp
 bd:Binds K fd ps []
 kp:W.keepIn K (.ref f)=true
 gl:mg x=some (.ref f)
theorem pe_cl {X:Cx}{k:Nat}{x:Str}{f:Addr}{fd:FuncData}{ps:List Str}{sp:Sp}{e:Expr}{es:List Expr}{t:TA}{p pos:Pos}(G:FnB X.prog X.w X.K X.mg X.base k x f fd ps sp) (hr:Room k X.A) (ha:PA X (e::es) t) (hg:Gl X x:=by rfl) (hdb:(x==("__debug__":Str))=false:=by decide) (he:starEach (e::es) X.env=(false,eval e X.env)::starEach es X.env:=by rfl) (hpl:(backTo pos (starEach es X.env)).any (·.1)=false:=by rfl):PE X (.Call (.Name x p) (e::es) [] pos) (tCall sp [] E0 t):=zGv G.ok hr hg G.gl G.kp G.bd .nil pass0 ha hdb he hpl
theorem iC {X:Cx}{r:R2}{a:Expr}{ta:TE}{i j p2 pos} (hr:IxR X r) (ha:PE X a ta):PE X (.Subscript a (.Constant (.int i) j p2) pos) (tOp r ta (tC (.int i))):=pe_ix hr ha zAI (λ Ω Ω=>rfl)
theorem FnB.up {P:Program}{w:World}{K:W.Frag}{mg:Str->Option Value}{base:Heap}{j k:Nat}{x:Str}{f:Addr}{fd:FuncData}{ps:List Str}{sp:Sp}(F:FnB P w K mg base j x f fd ps sp) (h:j<=k):FnB P w K mg base k x f fd ps sp :=
 ⟨F.ok.mono h,F.bd,F.kp,F.gl⟩
def Tk (H H':Hp):Prop:=∀b xs,H b=some (.tup xs)->H' b=some (.tup xs)
theorem Tk.refl (H:Hp):Tk H H:=λ Ω Ω h=>h
theorem Tk.trans {H H1 H2:Hp}(a:Tk H H1) (b:Tk H1 H2):Tk H H2:=λ c xs h=>b c xs (a c xs h)
theorem Same.tk {H H':Hp}(h:Same H H'):Tk H H':=λ b xs e=>h b _ e
theorem Tk.lst {H:Hp}{p:Addr}{xs:List V}{o:HO}(h:H p=some (.lst xs)):Tk H (upd H p o):=λ b ys e=>by
 rw[zAR (λ z=>by subst z;rw[h] at e;cases e)];exact e
theorem Tk.dk {H:Hp}{p:Addr}{kvs:List (Key × V)}{o:HO}(h:H p=some (.dK kvs)):Tk H (upd H p o):=λ b ys e=>by
 rw[zAR (λ z=>by subst z;rw[h] at e;cases e)];exact e
section
variable {X:Cx}
def rCatV:R2:=λ x y H Q=>∃a b xs ys,x = .ref a/\y = .ref b/\H a=some (.tup xs)/\H b=some (.tup ys)/\xs.length+ys.length<=sizeLine /\
 ∀p H',Same H H'->H' p=some (.tup (xs++ys))->Q (.ref p) H'
theorem zGw:OpR X (binaryOp .Add) rCatV:=by
 intro jP s σ H x y v u Q I rx ry h;obtain⟨a,b,xs,ys,rfl,rfl,ha,hb,hz,q⟩:=h
 by_cases hx:xs=[]
 ·subst hx
  cases rx;cases ry;obtain⟨its,r1,p1,_⟩:=I.tuple (SqT.of ha);obtain⟨its2,r2,p2,_⟩:=I.tuple (SqT.of hb);have e0:its=[]:=r1.nil_iff.mpr rfl;subst e0;obtain⟨⟨cls,dd,data,sl⟩,ho,hc,n,hd⟩:=id p1;obtain⟨⟨cls2,dd2,data2,sl2⟩,ho2,hc2,n2,hd2⟩:=id p2;simp only at hc hd hc2 hd2;subst hc hd hc2 hd2;exact concat_meets ⟨_,ho,rfl⟩ ⟨_,ho2,rfl⟩ noFill_tuple_add seq_tuple_add PySem.F.slot_tuple_add PySem.F.entry_tuple_add (PySem.F.args_tuple_add_2 _ _) (tuple_addW0 a b _ _ n n2 dd dd2 sl sl2 rfl) ⟨ho,ho2,⟨.ref b,H,I,rfl,q b H (.refl H) hb⟩⟩
 ·refine zMW jP s σ H (.ref a) (.ref b) v u Q I rx ry ⟨a,b,xs,ys,rfl,rfl,SqT.of ha,SqT.of hb,hx,hz,λ e=>?_,λ e p hp=>?_⟩
  ·subst e
   exact q a H (.refl H) (by rw[nO];exact ha)
  ·exact q p _ (zAC hp) zAA
def rSlV:V->Option Int->Option Int->Hp->VK->Prop:=λ x lo hi H Q=>∃a xs,x = .ref a/\H a=some (.tup xs) /\
 ¬(HT.sIx xs.length 0 lo=0/\HT.sIx xs.length xs.length hi=xs.length)/\∀p H',Same H H'->H' p=some (.tup (cutV xs lo hi))->Q (.ref p) H'
theorem zCZ:SlR X rSlV:=by
 intro jP s σ H x v vl vu lo hi sl Q I rx hs pl pu h;obtain⟨a,xs,rfl,ha,hw,q⟩:=h;exact zLe jP s σ H (.ref a) v vl vu lo hi sl Q I rx hs pl pu ⟨a,xs,rfl,SqT.of ha,hw,λ p hp=>q p _ (zAC hp) zAA⟩
end
inductive Atom where
 |name (x:Str)|num (n:Int)|gap (g:Str)
inductive Bin where
 |add|sub|mul|thn
noncomputable def Bin.s:Bin->Str
 |.add => "add" |.sub => "sub" |.mul => "mul" |.thn => "then"
inductive Tr where
 |num (n:Int)|name (x:Str)|ask (x:Str)|stop (x:Str)|gap (g:Str) (as:List Atom)
 |say (a:Tr)|bin (o:Bin) (a b:Tr)|ite (a b c:Tr)|lett (x:Str) (a b:Tr)
def AtRep (H:Hp):Atom->V->Prop
 |.name x,v=>∃a,v = .ref a/\H a=some (.tup [.str "name", .str x])
 |.num n,v=>∃a,v = .ref a/\H a=some (.tup [.str "num", .int n])
 |.gap g,v=>∃a b,v = .ref a/\H a=some (.tup [.str "gap", .str g,.ref b])/\H b=some (.tup [])
def Rep (H:Hp):Tr->V->Prop
 |.num n,v=>∃a,v = .ref a/\H a=some (.tup [.str "num", .int n])
 |.name x,v=>∃a,v = .ref a/\H a=some (.tup [.str "name", .str x])
 |.ask x,v=>∃a,v = .ref a/\H a=some (.tup [.str "ask", .str x])
 |.stop x,v=>∃a,v = .ref a/\H a=some (.tup [.str "stop", .str x])
 |.gap g as,v=>∃a b us,v = .ref a/\H a=some (.tup [.str "gap", .str g,.ref b])/\H b=some (.tup us)/\us.length<=1000/\Paired (AtRep H) as us
 |.say t,v=>∃a u,v = .ref a/\H a=some (.tup [.str "say", u])/\Rep H t u
 |.bin o s t,v=>∃a u w,v = .ref a/\H a=some (.tup [.str o.s,u,w])/\Rep H s u/\Rep H t w
 |.ite r s t,v=>∃a u w z,v = .ref a/\H a=some (.tup [.str "if", u,w,z])/\Rep H r u/\Rep H s w/\Rep H t z
 |.lett x s t,v=>∃a u w,v = .ref a/\H a=some (.tup [.str "let", .str x,u,w])/\Rep H s u/\Rep H t w
theorem AtRep.mono {H H':Hp}(k:Tk H H'):∀{t:Atom}{v:V},AtRep H t v->AtRep H' t v
 |.name _,_,⟨a,e,h⟩=>⟨a,e,k _ _ h⟩
 |.num _,_,⟨a,e,h⟩=>⟨a,e,k _ _ h⟩
 |.gap _,_,⟨a,b,e,h,h'⟩=>⟨a,b,e,k _ _ h,k _ _ h'⟩
theorem Rep.mono {H H':Hp}(k:Tk H H'):∀{t:Tr}{v:V},Rep H t v->Rep H' t v
 |.num _,_,⟨a,e,h⟩=>⟨a,e,k _ _ h⟩
 |.name _,_,⟨a,e,h⟩=>⟨a,e,k _ _ h⟩
 |.ask _,_,⟨a,e,h⟩=>⟨a,e,k _ _ h⟩
 |.stop _,_,⟨a,e,h⟩=>⟨a,e,k _ _ h⟩
 |.gap _ _,_,⟨a,b,us,e,h,h',n,p⟩=>⟨a,b,us,e,k _ _ h,k _ _ h',n,Paired.mapP p λ Ω Ω z=>z.mono k⟩
 |.say _,_,⟨a,u,e,h,r⟩=>⟨a,u,e,k _ _ h,r.mono k⟩
 |.bin _ _ _,_,⟨a,u,w,e,h,r,s⟩=>⟨a,u,w,e,k _ _ h,r.mono k,s.mono k⟩
 |.ite _ _ _,_,⟨a,u,w,z,e,h,r,s,t⟩=>⟨a,u,w,z,e,k _ _ h,r.mono k,s.mono k,t.mono k⟩
 |.lett _ _ _,_,⟨a,u,w,e,h,r,s⟩=>⟨a,u,w,e,k _ _ h,r.mono k,s.mono k⟩
inductive Kd where
 |num|name|ask|stop|gap|say|add|sub|mul|thn|ite|lett
 deriving DecidableEq
noncomputable def Kd.s:Kd->Str
 |.num => "num" |.name => "name" |.ask => "ask" |.stop => "stop" |.gap => "gap"
 |.say => "say" |.add => "add" |.sub => "sub" |.mul => "mul" |.thn => "then" |.ite => "if" |.lett => "let"
noncomputable def Kd.leaf:Kd->Bool
 |.num=>true|.name=>true|.ask=>true|.stop=>true|.gap=>true
 |_=>false
theorem Kd.inj {a b:Kd}(h:a.s=b.s):a=b:=by
 revert h;cases a<;>cases b<;>first|(intro _;rfl)|(intro h;exact absurd h (by symm))
theorem Kd.eq_iff {a b:Kd}:(V.str a.s=V.str b.s)↔a=b:=⟨λ h=>Kd.inj (V.str.inj h),λ h=>by rw[h]⟩
noncomputable def Bin.kd:Bin->Kd
 |.add=>.add|.sub=>.sub|.mul=>.mul|.thn=>.thn
noncomputable def Tr.kd:Tr->Kd
 |.num _=>.num|.name _=>.name|.ask _=>.ask|.stop _=>.stop|.gap _ _=>.gap
 |.say _=>.say|.bin o _ _=>o.kd|.ite _ _ _=>.ite|.lett _ _ _=>.lett
noncomputable def Tr.sign (t:Tr):Str:=t.kd.s
theorem Bin.kd_s (o:Bin):o.kd.s=o.s:=by cases o<;>rfl
noncomputable def Tr.parts:Tr->List Tr
 |.say a=>[a]|.bin _ a b=>[a,b]|.ite a b c=>[a,b,c]|.lett _ a b=>[a,b]
 |_=>[]
noncomputable def Tr.head:Tr->Nat
 |.gap _ _=>3|.say _=>1|.bin _ _ _=>1|.ite _ _ _=>1
 |_=>2
theorem Rep.all {H:Hp}:∀{t:Tr}{v:V},Rep H t v->∃a hs us,v = .ref a/\H a=some (.tup (.str t.sign::hs++us))/\hs.length+1=t.head/\Paired (Rep H) t.parts us
 |.num n,_,⟨a,e,h⟩=>⟨a,[.int n],[],e,h,rfl,.nil⟩
 |.name x,_,⟨a,e,h⟩=>⟨a,[.str x],[],e,h,rfl,.nil⟩
 |.ask x,_,⟨a,e,h⟩=>⟨a,[.str x],[],e,h,rfl,.nil⟩
 |.stop x,_,⟨a,e,h⟩=>⟨a,[.str x],[],e,h,rfl,.nil⟩
 |.gap g _,_,⟨a,b,us,e,h,h',_,p⟩=>⟨a,[.str g,.ref b],[],e,h,rfl,.nil⟩
 |.say _,_,⟨a,u,e,h,r⟩=>⟨a,[],[u],e,h,rfl,.cons r .nil⟩
 |.bin o _ _,_,⟨a,u,w,e,h,r,s⟩=>⟨a,[],[u,w],e,(by show _=some (HO.tup [V.str o.kd.s,u,w]);rw[Bin.kd_s];exact h),rfl,.cons r (.cons s .nil)⟩
 |.ite _ _ _,_,⟨a,u,w,z,e,h,r,s,t⟩=>⟨a,[],[u,w,z],e,h,rfl,.cons r (.cons s (.cons t .nil))⟩
 |.lett x _ _,_,⟨a,u,w,e,h,r,s⟩=>⟨a,[.str x],[u,w],e,h,rfl,.cons r (.cons s .nil)⟩
noncomputable def Tr.size:Tr->Nat
 |.say a=>a.size+1|.bin _ a b=>a.size+b.size+1|.ite a b c=>a.size+b.size+c.size+1|.lett _ a b=>a.size+b.size+1
 |_=>1
theorem zAJ {α:Type}{F:α->V->Prop}{as:List α}{us:List V}{i:Nat}{u:V}(h:Paired F as us):us[i]?=some u->∃a,as[i]?=some a/\F a u:=by
 induction h generalizing i with
 |nil=>exact λ e=>nomatch e
 |cons h t ih=>cases i with
  |zero=>exact λ e=>⟨_,rfl,by cases e;exact h⟩
  |succ i=>exact λ e=>ih (i:=i) (by simpa using e)
theorem zAW {H H':Hp}{p:Addr}{o:HO}(g:Same H H') (h:H p=none):Same H (upd H' p o):=λ b u q=>by rw[zAR (zAN q h)];exact g b u q
theorem zAL {α:Type}{as:List α}{i:Nat}{a:α}(h:as[i]?=some a):as.take (i+1)=as.take i++[a]:=by
 rw[List.take_add_one,h];rfl
noncomputable def Atom.names:Atom->List Str
 |.name x=>[x]
 |_=>[]
noncomputable def Tr.names:Tr->List Str
 |.name x=>[x]
 |.gap _ as=>as.flatMap Atom.names
 |_=>[]
theorem iteY {c:Prop} [Decidable c] {A B:Prop}(hc:c) (h:A):if decide c=true then A else B:=by rw[if_pos (decide_eq_true hc)];exact h
theorem iteN {c:Prop} [Decidable c] {A B:Prop}(hc:¬c) (h:B):if decide c=true then A else B:=by rw[if_neg (by rw[decide_eq_false hc];exact lX)];exact h
theorem zAz {n:Nat}(h:n<=1000):n<=sizeLine:=Nat.le_of_lt (zAK h)
noncomputable def zC6:List Expr->Option (List V)
 |[]=>some []
 |.Constant (.str x) _ _::r=>(zC6 r).map λ l=>V.str x::l
 |.Constant (.int i) _ _::r=>(zC6 r).map λ l=>V.int i::l
 |_=>none
def tRow (vs:List V):TA:=λ Ω H Q=>Q vs H
theorem zLj {X:Cx}{es:List Expr}:∀(vs:List V),zC6 es=some vs->PA X es (tRow vs):=by
 induction es with
 |nil=>intro vs h;cases h;exact zAD
 |cons e r ih =>
  intro vs h;cases e with
  |Constant c j p =>
   cases c with
   |str x =>
    obtain⟨l,hl,e⟩:=lV.mp (show (zC6 r).map (λ l=>V.str x::l)=some vs from h);subst e;exact zAB zAZ (ih l hl)
   |int x =>
    obtain⟨l,hl,e⟩:=lV.mp (show (zC6 r).map (λ l=>V.int x::l)=some vs from h);subst e;exact zAB zAI (ih l hl)
   |_=>cases h
  |_=>cases h
noncomputable def rowT:Expr->Option (List V)
 |.Tuple es _ _=>zC6 es
 |_=>none
noncomputable def rowL:Expr->Option (List V)
 |.List es _=>zC6 es
 |_=>none
theorem zMO {X:Cx}{e:Expr}(vs:List V) (h:rowT e=some vs):PE X e (tTup (tRow vs)):=by
 unfold rowT at h;split at h
 ·exact zBQ (zLj vs h)
 ·cases h
theorem zFa {X:Cx}{e:Expr}(vs:List V) (h:rowL e=some vs):PE X e (tLst (tRow vs)):=by
 unfold rowL at h;split at h
 ·exact zAs (zLj vs h)
 ·cases h
abbrev DRow:=Str × (Str ⊕ Int)
abbrev En:=Str->Int
abbrev Res:=List DRow × (Int ⊕ Str)
noncomputable def askR (x:Str):DRow:=("ask", .inl x)
noncomputable def sayR (n:Int):DRow:=("say", .inr n)
noncomputable def Bin.op:Bin->Int->Int->Int
 |.add,m,n=>(m+n) % 10 ^ 30
 |.sub,m,n=>(m - n) % 10 ^ 30
 |.mul,m,n=>(m * n) % 10 ^ 30
 |.thn,_,n=>n
noncomputable def En.set (e:En) (x:Str) (n:Int):En:=λ y=>if y=x then n else e y
noncomputable def pre (D:List DRow) (o:Option Res):Option Res:=o.map λ q=>(D++q.1,q.2)
noncomputable def seqR (r:Option Res) (k:Int->Option Res):Option Res:=r.bind λ r=>match r.2 with
 |.inr w=>some (r.1,.inr w)
 |.inl n=>pre r.1 (k n)
noncomputable def ev (a:En):Tr->En->Option Res
 |.num n,_=>some ([],.inl n)
 |.name x,e=>some ([],.inl (e x))
 |.ask x,_=>some ([askR x],.inl (a x))
 |.stop x,_=>some ([],.inr x)
 |.gap _ _,_=>none
 |.say t,e=>seqR (ev a t e) λ n=>some ([sayR n],.inl n)
 |.bin o s t,e=>seqR (ev a s e) λ m=>seqR (ev a t e) λ n=>some ([],.inl (o.op m n))
 |.ite c s t,e=>seqR (ev a c e) λ n=>if n=0 then ev a t e else ev a s e
 |.lett x s t,e=>seqR (ev a s e) λ n=>ev a t (e.set x n)
noncomputable def aft (a:En) (t:Tr) (e:En) (E:List Int):Option (Option Res × List Int) :=
 match t with
 |.say _=>match E with
  |n::E=>some (some ([sayR n],.inl n),E)
  |_=>none
 |.bin .thn _ t=>match E with
  |_::E=>some (ev a t e,E)
  |_=>none
 |.bin o _ _=>match E with
  |n::m::E=>some (some ([],.inl (o.op m n)),E)
  |_=>none
 |.ite _ s t=>match E with
  |n::E=>some (if n=0 then ev a t e else ev a s e,E)
  |_=>none
 |.lett x _ t=>match E with
  |n::E=>some (ev a t (e.set x n),E)
  |_=>none
 |_=>none
abbrev Item:=Tr × En × Bool
noncomputable def cont (a:En):List Item->List Int->Option Res
 |[],[]=>none
 |[],n::_=>some ([],.inl n)
 | (t,e,false)::W,E=>seqR (ev a t e) λ n=>cont a W (n::E)
 | (t,e,true)::W,E=>(aft a t e E).bind λ p=>seqR p.1 λ n=>cont a W (n::p.2)
def tOrT (K:W.Frag) (ta tb:TE):TE:=λ σ H Q=>ta σ H λ x H1=>∃k,TruV K x H1 k/\if k=true then Q x H1 else tb σ H1 Q
theorem zNc {X:Cx}{a b:Expr}{rest:List Expr}{pos:Pos}{ta tb:TE}(ha:PE X a ta) (hb:PE X (.BoolOp .Or (b::rest) pos) tb):PE X (.BoolOp .Or (a::b::rest) pos) (tOrT X.K ta tb):=by
 intro jP s σ H Q I h;refine BoolOp_or (thn (ha jP s σ H _ I h) λ v s1 ⟨x,H1,I1,r1,k,e1,q1⟩=>?_);refine thn (zLZ jP s1 σ H1 x v (λ c H2=>if c=true then Q x H2 else tb σ H2 Q) I1 r1 ⟨k,e1,q1⟩) λ c s2 ⟨H2,I2,q2⟩=>?_;cases c with
 |true=>exact⟨x,H2,I2,r1,q2⟩
 |false=>exact hb jP s2 σ H2 Q I2 q2
structure FunD (K:W.Frag) (x qual:Str) (st:Stmt) (f:Addr) (fd:FuncData) (dvs:List Value):Prop where
 ex:∃(oc:Value) (od:Option Addr) (kV doc pm:Value) (an:Option Addr) (cdv ct:Value) (osl:Array (Option Value)) (dt:Addr) (o:Obj) (n:Nat),
  fd=W.fnOf x qual (zBR st) (zBL st) (zAH st) (.ref dt) kV doc pm an cdv ct/\K.lookup f=some ⟨oc,od,.func fd,osl⟩/\W.codeIn K cdv qual=true/\K.lookup dt=some o/\o.data = .seq dvs.toArray n
 kp:W.keepIn K (.ref f)=true
section
variable {P:Program}{w:World}{K:W.Frag}{mg:Str->Option Value}{base:Heap}
theorem FunD.ok {x qual:Str}{st:Stmt}{f:Addr}{fd:FuncData}{dvs:List Value}{N ps:List Str}{k:Nat}{sp:Sp}(F:FunD K x qual st f fd dvs) (S:zAT N ps (zAH st)) (len:∀vs H Q E,sp vs H Q E->vs.length=ps.length)
  (hbody:∀(cdv:Value) (A:Around) (outer:List Env) (s:Shared) (H:Hp) (vs:List V) (Q:VK) (E:XK),Room k (A.deeper (envOfC qual (zAH st) s.heap.objs.size f cdv))->sp vs H Q E ->
   ∃t,PSs (cxOf CX0 P w K mg base N qual (zAH st) f cdv A outer s H E).nox (zBL st) t/\t { nx:=λ Ω H'=>Q .non H',rt:=Q } (start N vs) H):FnOk P w K mg base CX0 (k+1) f fd ps sp:=by
 obtain⟨oc,od,kV,doc,pm,an,cdv,ct,osl,dt,o,n,rfl,lk,hcd,_⟩:=F.ex;refine fn_of lk hcd S len λ A outer s H vs Q E hr hsp=>?_;obtain⟨t,h,q⟩:=hbody cdv A outer s H vs Q E hr hsp;exact⟨t,h.nox,q⟩
theorem zMu {x qual:Str}{st:Stmt}{f dt:Addr}{oc:Value}{od an:Option Addr}{osl:Array (Option Value)}{kV doc pm cdv ct:Value}{o:Obj}{dvs:List Value}{n:Nat}(l:K.lookup f=some ⟨oc,od,.func (W.fnOf x qual (zBR st) (zBL st) (zAH st) (.ref dt) kV doc pm an cdv ct),osl⟩)
  (c:W.codeIn K cdv qual=true) (k:W.keepIn K (.ref f)=true) (ld:K.lookup dt=some o) (hd:o.data = .seq dvs.toArray n):FunD K x qual st f (W.fnOf x qual (zBR st) (zBL st) (zAH st) (.ref dt) kV doc pm an cdv ct) dvs :=
 ⟨⟨oc,od,kV,doc,pm,an,cdv,ct,osl,dt,o,n,rfl,l,c,ld,hd⟩,k⟩
theorem zL1:Vals [V.non] [Value.none]:=.cons rfl .nil
end
theorem zAM {α:Type}{F:α->V->Prop}{as bs:List α}{us vs:List V}(h:Paired F as us) (k:Paired F bs vs):Paired F (as++bs) (us++vs):=by
 induction h with
 |nil=>exact k
 |cons r t ih=>exact .cons r ih
theorem zAG {α:Type}{F:α->V->Prop}{as:List α}{us:List V}(h:Paired F as us):us.length=as.length:=h.length.symm
inductive A3(a b c:Prop):Prop
 |mk:a->b->c->A3 a b c
inductive A4(a b c d:Prop):Prop
 |mk:a->b->c->d->A4 a b c d
inductive A5(a b c d e:Prop):Prop
 |mk:a->b->c->d->e->A5 a b c d e
inductive A6(a b c d e f:Prop):Prop
 |mk:a->b->c->d->e->f->A6 a b c d e f
inductive A7(a b c d e f g:Prop):Prop
 |mk:a->b->c->d->e->f->g->A7 a b c d e f g
inductive A8(a b c d e f g h:Prop):Prop
 |mk:a->b->c->d->e->f->g->h->A8 a b c d e f g h
inductive A9(a b c d e f g h i:Prop):Prop
 |mk:a->b->c->d->e->f->g->h->i->A9 a b c d e f g h i
inductive A10(a b c d e f g h i j:Prop):Prop
 |mk:a->b->c->d->e->f->g->h->i->j->A10 a b c d e f g h i j
inductive A11(a b c d e f g h i j k:Prop):Prop
 |mk:a->b->c->d->e->f->g->h->i->j->k->A11 a b c d e f g h i j k
inductive A12(a b c d e f g h i j k l:Prop):Prop
 |mk:a->b->c->d->e->f->g->h->i->j->k->l->A12 a b c d e f g h i j k l
inductive A14(a b c d e f g h i j k l m n:Prop):Prop
 |mk:a->b->c->d->e->f->g->h->i->j->k->l->m->n->A14 a b c d e f g h i j k l m n
inductive E2{a b:Type}(p:a->b->Prop):Prop
 |mk:∀A B,p A B->E2 p
inductive E3{a b c:Type}(p:a->b->c->Prop):Prop
 |mk:∀A B C,p A B C->E3 p
inductive E4{a b c d:Type}(p:a->b->c->d->Prop):Prop
 |mk:∀A B C D,p A B C D->E4 p
inductive E5{a b c d e:Type}(p:a->b->c->d->e->Prop):Prop
 |mk:∀A B C D E,p A B C D E->E5 p
inductive E6{a b c d e f:Type}(p:a->b->c->d->e->f->Prop):Prop
 |mk:∀A B C D E F,p A B C D E F->E6 p
inductive E7{a b c d e f g:Type}(p:a->b->c->d->e->f->g->Prop):Prop
 |mk:∀A B C D E F G,p A B C D E F G->E7 p
inductive E9{a b c d e f g h i:Type}(p:a->b->c->d->e->f->g->h->i->Prop):Prop
 |mk:∀A B C D E F G H I,p A B C D E F G H I->E9 p
inductive E10{a b c d e f g h i j:Type}(p:a->b->c->d->e->f->g->h->i->j->Prop):Prop
 |mk:∀A B C D E F G H I J,p A B C D E F G H I J->E10 p
inductive E12{a b c d e f g h i j k l:Type}(p:a->b->c->d->e->f->g->h->i->j->k->l->Prop):Prop
 |mk:∀A B C D E F G H I J K L,p A B C D E F G H I J K L->E12 p
theorem zFy:∀{ys:List Str}{us:List Value},Vals (ys.map V.str) us->StrsAre us ys
 |[],_,h=>by cases h;exact .nil
 |y::ys,_,h=>by
  cases h with
  |cons r t =>
   obtain⟨tk,rfl⟩:=r;exact .cons y tk (zFy t)
noncomputable def Itw (K:W.Frag) (a:Addr) (n:Nat):It :=
 ⟨λ i H=>i<n/\∃xs x,SqL K H a xs/\xs.length=n/\xs[n - 1 - i]?=some x,λ i H x H'=>H'=H/\∀xs,SqL K H a xs->xs[n - 1 - i]?=some x,λ i Ω=>i=n⟩
theorem zKI {P:Program}{w:World}{K:W.Frag}{tg:Expr}(a it:Addr) (n:Nat):Turn P w K tg (Itw K a n) [it] it (λ i h=>h.IsRevIter it a ((n:Int) - 1 - (i:Nat))) where
 mem:=by simp
 obj:=λ i h st b hb=>by
  have e:b=it:=by simpa using hb
  subst e;obtain⟨o,e,c,d⟩:=st;exact⟨o,e,λ v z=>by rw[d] at z;cases z⟩
 keep:=λ i h h' st k=>st.at λ o e=>k it (by simp) o e
 item:=by
  intro X hP hw hK hc i jP s σ H E I hf st hg;subst hP hw hK;obtain⟨hin,xs,x,hq,hl,hx⟩:=hg;obtain⟨its,rv,p,hz⟩:=I.list hq;obtain⟨u,hu,ru⟩:=rv.get hx;obtain⟨f0,f1,f2,f3,f4,f5⟩:=hf it (by simp);have e:(n:Int) - 1 - (i:Nat)=((n - 1 - i:Nat):Int):=by omega
  rw[e] at st;refine wpAny_pyNext_rev_item st p.isList (x:=u) (by simpa using hu) λ h' st' sb=>?_;have I1:Inv X jP σ H { s with heap:=h' }:=I.turned (t':=s.toks) (λ b o hb e=>(sb.2 b hb).trans e) f0 f1 f3 f4 f5;obtain⟨o,eo,c,d⟩:=id st';refine⟨u,rfl,go_of (s:={ s with heap:=h' }) eo c d (by decide) ⟨x,H,I1,ru,⟨rfl,λ ys hy=>by rw[I.list_inj hy hq];exact hx⟩,?_,λ b hb=>(hf b hb).1⟩⟩;have e2:(n:Int) - 1 - ((i+1:Nat):Int)=((n - 1 - i:Nat):Int) - 1:=by omega
  show h'.IsRevIter it a ((n:Int) - 1 - ((i+1:Nat):Int));rw[e2];exact st'
 done:=by
  intro X hP hw hK hc i jP s σ H E I hf st hg;subst hP hw hK;obtain⟨f0,f1,f2,f3,f4,f5⟩:=hf it (by simp);have hg':i=n:=hg;subst hg';have e:(i:Int) - 1 - (i:Nat) = -1:=by omega
  rw[e] at st;exact wpAny_pyNext_rev_end (I.ok.hd hc) st λ h' eb=>⟨rfl,I.turned (t':=s.toks) (λ b o hb e=>eb b o hb e) f0 f1 f3 f4 f5⟩
 self:=λ Ω Ω Ω Ω Ω st h=>wpAny_pyIter_revIter st h
def iRevL (K:W.Frag) (ta:TA):TI:=λ σ H R=>ta σ H λ vs H1=>∃a,vs=[.ref a]/\∃xs,SqL K H1 a xs/\R (Itw K a xs.length) H1
theorem zMN {X:Cx}{tg a:Expr}{ta:TA}{p pos:Pos}(hg:Gl X "reversed") (hm:X.mg "reversed" = none) (ha:PA X [a] ta) (hs:starEach [a] X.env=[(false,eval a X.env)]:=by rfl):PI X tg (.Call (.Name "reversed" p) [a] [] pos) (iRevL X.K ta):=by
 intro jP s σ H R I h;refine Call_ (zCl I hg hm boot_reversed (PyProof.Rows.callWith_type1 (thn (ha pos jP s σ H _ I h) λ us s1 ⟨vs,H1,I1,r1,q1⟩=>?_) hs rfl));obtain⟨b,e,xs,hq,q⟩:=q1;subst e;obtain⟨u,rfl,ru⟩:=vals1 r1;cases ru;obtain⟨its,rv,tp,hz⟩:=I1.list hq;have hl:=rv.length;refine call_reversed_list tp.isList ?_;have hnew:Heap.IsRevIter (s1.heap.push (revObj b ((its.toArray.size:Int) - 1))) s1.heap.objs.size b ((its.toArray.size:Int) - 1):=⟨_,lH _ rfl,rfl,rfl⟩;refine wpAny_pyIter_revIter hnew ⟨_,[s1.heap.objs.size],_,_,H1,rfl,I1.kept (t':=s1.toks) (λ c o e=>lG _ e),zKI b _ xs.length,?_,λ c hc=>?_,q⟩
 ·have e:(xs.length:Int) - 1 - ((0:Nat):Int)=(its.toArray.size:Int) - 1:=by rw[mH];omega
  show Heap.IsRevIter _ _ _ ((xs.length:Int) - 1 - ((0:Nat):Int));rw[e];exact hnew
 ·have e:=mQ.mp hc
  subst e;exact I1.fpOk (lQ _) (I1.hok.fresh (lQ _))
theorem zLH {K:W.Frag}{a:Addr}{xs:List V}{g:TG}{tb:TS}{D:Ends}{σ:L2.St}{H:Hp}(Pv:Nat->St->Hp->Prop) (h0:Pv 0 σ H) (hl:∀i σ H,i<=xs.length->Pv i σ H->SqL K H a xs)
  (hs:∀i x σ H,i<xs.length->xs[xs.length - 1 - i]?=some x->Pv i σ H->g x σ H λ σ2 H2=>tb { D with nx:=Pv (i+1),ct:=Pv (i+1),bk:=D.nx } σ2 H2) (hd:∀σ H,Pv xs.length σ H->D.nx σ H) :
  ∃W:Nat->Nat->St->Hp->Prop,(∃m,W 0 m σ H)/\∀i m σ H,W i m σ H ->
   ((Itw K a xs.length).stop i H/\D.nx σ H)\/((Itw K a xs.length).go i H/\∃N:St->Hp->Prop,(∀σ' H',N σ' H'->∃m',m'<m/\W (i+1) m' σ' H')/\∀x H',(Itw K a xs.length).yld i H x H'->g x σ H' λ σ2 H2=>tb { D with nx:=N,ct:=N,bk:=D.nx } σ2 H2):=by
 refine⟨λ i m σ H=>m=xs.length - i/\i<=xs.length/\Pv i σ H,⟨xs.length,by simp,lY _,h0⟩,?_⟩;rintro i m σ H ⟨rfl,hi,p⟩;have q:=hl i σ H hi p
 by_cases hlt:i<xs.length
 ·have hk:xs.length - 1 - i<xs.length:=by omega
  refine .inr ⟨⟨hlt,xs,xs[xs.length - 1 - i],q,rfl,by simp[hk]⟩,Pv (i+1),λ σ' H' p'=>⟨xs.length - (i+1),by omega,rfl,hlt,p'⟩,λ x H' y=>?_⟩;obtain⟨eH,y⟩:=y;subst eH;exact hs i x σ _ hlt (y xs q) p
 ·have e:i=xs.length:=by omega
  subst e;exact .inl ⟨rfl,hd σ H p⟩
theorem zG8 {lo:Int}{n:Nat}{acc:Addr}{g:TG}{tt:TT}{te:TE}{σ:L2.St}{H:Hp}{R:Hp->Prop}(Pv:Nat->Hp->Prop) (h0:Pv 0 (upd H acc (.lst [])))
  (hs:∀i H,i<n->Pv i H->g (.int (lo+i)) σ H λ σ2 H4=>Ext σ σ2/\tt σ2 H4 λ b H5 =>
   if b=true then te σ2 H5 λ y H6=>∃zs,H6 acc=some (.lst zs)/\zs.length<sizeLine/\Pv (i+1) (upd H6 acc (.lst (zs++[y]))) else Pv (i+1) H5) (hd:∀H,Pv n H->R H) :
  ∃W:Nat->Nat->Hp->Prop,(∃m,W 0 m (upd H acc (.lst [])))/\∀i m H2,W i m H2 ->
   ((Itr lo n).stop i H2/\R H2)\/((Itr lo n).go i H2/\∃N:Hp->Prop,(∀H',N H'->∃m',m'<m/\W (i+1) m' H')/\∀x H3,(Itr lo n).yld i H2 x H3->g x σ H3 λ σ2 H4=>Ext σ σ2/\tt σ2 H4 λ b H5 =>
    if b=true then te σ2 H5 λ y H6=>∃zs,H6 acc=some (.lst zs)/\zs.length<sizeLine/\N (upd H6 acc (.lst (zs++[y])))
    else N H5):=zIO (Q:=λ Ω H=>R H) Pv h0 hs hd
theorem zAl {K:W.Frag}{a:Addr}{xs:List V}{acc:Addr}{g:TG}{tt:TT}{te:TE}{σ:L2.St}{H:Hp}{R:Hp->Prop}(Pv:Nat->Hp->Prop) (h0:Pv 0 (upd H acc (.lst []))) (hl:∀i H,i<=xs.length->Pv i H->SqL K H a xs)
  (hs:∀i x H,xs[i]?=some x->Pv i H->g x σ H λ σ2 H4=>Ext σ σ2/\tt σ2 H4 λ b H5 =>
   if b=true then te σ2 H5 λ y H6=>∃zs,H6 acc=some (.lst zs)/\zs.length<sizeLine/\Pv (i+1) (upd H6 acc (.lst (zs++[y]))) else Pv (i+1) H5) (hd:∀H,Pv xs.length H->R H) :
  ∃W:Nat->Nat->Hp->Prop,(∃m,W 0 m (upd H acc (.lst [])))/\∀i m H2,W i m H2 ->
   ((Itl K a).stop i H2/\R H2)\/((Itl K a).go i H2/\∃N:Hp->Prop,(∀H',N H'->∃m',m'<m/\W (i+1) m' H')/\∀x H3,(Itl K a).yld i H2 x H3->g x σ H3 λ σ2 H4=>Ext σ σ2/\tt σ2 H4 λ b H5 =>
    if b=true then te σ2 H5 λ y H6=>∃zs,H6 acc=some (.lst zs)/\zs.length<sizeLine/\N (upd H6 acc (.lst (zs++[y])))
    else N H5):=by
 refine⟨λ i m H=>m=xs.length - i/\i<=xs.length/\Pv i H,⟨xs.length,by simp,lY _,h0⟩,?_⟩;rintro i m H2 ⟨rfl,hi,p⟩;have q:=hl i H2 hi p
 by_cases hlt:i<xs.length
 ·refine .inr ⟨⟨xs,xs[i],q,by simp[hlt]⟩,Pv (i+1),λ H' p'=>⟨xs.length - (i+1),by omega,rfl,hlt,p'⟩,λ x H' y=>?_⟩
  obtain⟨e,y⟩:=y;subst e;exact hs i x _ (y xs q) p
 ·have e:i=xs.length:=by omega
  subst e;exact .inl ⟨⟨xs,q,lQ _⟩,hd H2 p⟩
section
variable {X:Cx}
theorem zMK {elt tg iter:Expr}{y:Str}{py spos:Pos}{jj:Nat}{ifs:List Expr}{sc:Scope}{pos:Pos}{wi:TI}{g:TG}{tt:TT}{te:TE}(N:List Str) (cap:List (Option Nat)) (hc:X.calm=true) (hi:PI X tg iter wi)
    (hg:∀cl s H C ex,PG (X.block sc cl N s H C ex) tg g) (ht:∀cl s H C ex,PTs (X.block sc cl N s H C ex) ifs tt) (he:∀cl s H C ex,PE (X.block sc cl N s H C ex) elt te)
    (hk:sc.kind = .function) (nc:∀y∈sc.names,y.2 ≠ .cell) (hnames:∀y∈sc.names,y.2 = .local->sc.names.lookup y.1=some .local)
    (hfree:∀n,(n,NameKind.free)∈sc.names->X.env.kindOf n=some .cell)
    (hcap:∀(i j:Nat),cap[i]?=some (some j)->∃x,N[i]?=some x/\X.N[j]?=some x/\sc.names.lookup x=some .free) (hlen:cap.length=N.length)
    (hN:X.N.Nodup) (hjj:X.N[jj]?=some y) (hxx:Loc X.env.scope y) (hf:X.fn y=true\/X.env.scope.names.lookup y=some .local)
    (hsw:swapsWith (.ListComp elt [⟨tg,iter,ifs,0⟩] sc pos) (some (.Name y py)) spos.line X.env=pure true)
    (hs:∀x,foldedSetIterable iter X.env x=pure x:=by intro _;rfl):PS X (.Assign [.Name y py] (.ListComp elt [⟨tg,iter,ifs,0⟩] sc pos) spos) (tAsg (tComp cap wi g tt te) (gName jj)):=by
  intro jP s σ H D I h;obtain⟨cl,hclos,c1,c2⟩:=zDn (sc:=sc) (env:=X.env) λ n hn=>I.ok.has n (.inl (hfree n hn));rw[exec_Assign_Name_used _ _ _ _ hsw];refine lA (wpAny_standAt (lA ?_));show wpAny _ X.A (do let _ ← comprehension (.ListComp elt [⟨tg,iter,ifs,0⟩] sc pos) sc X.env _ (newList []) false (eval iter X.env) (some (assign (.Name y py) X.env))) _ _ s;refine lA (wpAny_mono (wpAny_comprehension_free (use:=some (assign (.Name y py) X.env)) (Q:=λ Ω s'=>SP X jP D .next s') rfl hs hclos hk hnames ?_) (λ Ω s' hq=>lB (lB hq)) λ Ω Ω e=>e);refine thn (hi jP s σ H _ I h) λ v s1 h1=>thn h1 λ itv s2 h2=>?_;obtain⟨it,fp,tn,J,H2,e,I2,T,st2,f2,q2⟩:=h2;subst e;have hfr:H2 s2.heap.objs.size=none:=I2.fresh;obtain⟨W,⟨m0,w0⟩,turn⟩:=q2 s2.heap.objs.size hfr;have I3:=I2.lnew (ys:=[]) (its:=[]) (t':=s2.toks) .nil (lY _);have hacc:H2 s2.heap.objs.size=none:=hfr;refine wpAny_newObj_type (wpAny_newFunctionEnv nc (by intro y hy;simp at hy) (λ h4 hns hsb=>?_) hk);generalize hs3:({ s2 with heap:=s2.heap.push { cls:=.type "list", data:=.seq ([]:List Value).toArray } }:Shared)=s3 at hns hsb I3 ⊢;have hheap:s3.heap=s2.heap.push { cls:=.type "list", data:=.seq ([]:List Value).toArray }:=by rw[←hs3]
  generalize hH3:upd H2 s2.heap.objs.size (.lst [])=H3 at I3 w0;have up2:∀b o,s2.heap.get? b=some o->s3.heap.get? b=some o:=λ b o q=>by rw[hheap];exact lG _ q
  have neA:∀b∈fp,b≠s2.heap.objs.size:=λ b hb=>by
    obtain⟨o,q,_⟩:=T.obj _ _ st2 b hb;exact lS (lI q)
  have f3:∀b∈fp,FpOk X jP H3 b:=λ b hb=>⟨by rw[←hH3,zAR (neA b hb)];exact(f2 b hb).1,(f2 b hb).2⟩
  have o3:∀b∈fp,∃o,s3.heap.get? b=some o:=λ b hb=>by
    obtain⟨o,q,_⟩:=T.obj _ _ st2 b hb;exact⟨o,up2 b o q⟩
  have ok':=zHu (N:=N) (C:=s3.heap.objs.size) I3 hk nc (lQ _) f3 o3 c1 c2;generalize hC:s3.heap.objs.size=C at hns hsb ok' ⊢;have ltC:∀b o,s3.heap.get? b=some o->b≠C:=λ b o q=>by rw[←hC];exact lS (lI q)
  have up4:∀b o,s3.heap.get? b=some o->h4.get? b=some o:=λ b o q=>hsb.extBut b o (ltC b o q) (lG _ q);have st4:tn 0 h4:=T.keep _ _ _ st2 λ b hb o q=>up4 b o (up2 b o q)
  have I4:Inv (X.block sc cl N s3 H3 C fp) [] (capSt cap σ) H3 { s3 with heap:=h4,toks:=s3.toks+([]:List (Str × Value)).length }:=by
    refine⟨ok',rfl,I3.bare,Un.kept up4,⟨_,hns,λ i x v e1 e2 e3=>?_⟩,λ x c q=>?_,?_,λ x c q=>I3.freeC x c (c1 x c q),λ p hp=>(nomatch hp),I3.hok.kept up4,?_⟩
    · have ee:∃j,cap[i]?=some (some j)/\σ[j]?=some (some v):=by
        unfold capSt at e2;rw[mJ] at e2;cases q:cap[i]? with
        |none=>rw[q] at e2;cases e2
        |some o =>
          rw[q] at e2;cases o with
          |none=>cases e2
          |some j =>
            refine⟨j,rfl,?_⟩;have e2':some ((σ[j]?).join)=some (some v):=e2;cases z:σ[j]? with
            |none=>rw[z] at e2';cases e2'
            |some o' =>
              rw[z] at e2';have e2'':o'=some v:=mE e2';rw[e2'']
      obtain⟨j,ej,es⟩:=ee;obtain⟨x',n1,n2,n3⟩:=hcap i j ej;have e1':N[i]?=some x:=e1;rw[n1] at e1';cases e1';have hfr':(x,NameKind.free)∈sc.names:=zCC n3;have kc:=hfree x hfr';obtain⟨m,_,hl⟩:=I3.loc;obtain⟨u,r,l⟩:=hl j x v n2 es (.inr (.inl kc));refine⟨u,r,?_⟩;rcases l with ⟨l,_⟩|⟨_,c,ec,z⟩
      · rw[kc] at l;cases l
      · obtain⟨c',ec'⟩:=c2 x hfr'
        have:=c1 x c' ec';rw[ec] at this;cases this;obtain⟨oc,q1,q2⟩:=z;exact .inr ⟨zAy (sc:=sc) n3,c,ec',oc,up4 _ _ q1,q2⟩
    · obtain⟨v,oc,q1,q2⟩:=I3.cell x c (c1 x c q)
      exact⟨v,oc,up4 _ _ q1,q2⟩
    · exact I3.hok.fresh (by rw[hC];exact lQ _)
    · show (capSt cap σ).length=N.length
      unfold capSt;rw[mD,hlen]
  have loop:codeAny (model X.prog X.w) X.A (.compLoop (.ListComp elt [⟨tg,iter,ifs,0⟩] sc pos) 0 (.ref it) (.ref s2.heap.objs.size) (compEnvC sc cl C X.env)) (compPost (model X.prog X.w) X.A X.xe (some (assign (.Name y py) X.env)) (λ Ω s'=>SP X jP D .next s') (.ref s2.heap.objs.size) C)
      { s3 with heap:=h4,toks:=s3.toks+([]:List (Str × Value)).length }:=by
    have stat:∀{H':Hp},(∀b∈fp,H' b=none)->∀b∈fp,FpOk (X.block sc cl N s3 H3 C fp) [] H' b:=λ hn b hb =>
      ⟨hn b hb,(ok'.exf b hb).1,ok'.exfs b hb,.inl hb,(ok'.exf b hb).2,λ p hp=>(nomatch hp)⟩
    refine zEs (λ n s'=>∃i H',Inv (X.block sc cl N s3 H3 C fp) [] (capSt cap σ) H' s'/\tn i s'.heap/\(∀b∈fp,H' b=none)/\W i n H') ?_ m0 ⟨0,H3,I4,st4,λ b hb=>(f3 b hb).1,w0⟩;rintro n s5 ⟨i,H5,I5,st5,fr5,w5⟩;rcases turn i n H5 w5 with ⟨stop,qn⟩|⟨go,N',hN',step⟩
    · refine thn (T.done (X.block sc cl N s3 H3 C fp) rfl rfl rfl hc i [] s5 _ H5 NoX I5 (stat fr5) st5 stop) λ r s6 ⟨hr,I6⟩=>?_
      subst hr;obtain⟨m,hm,_⟩:=I6.loc
      have I7:Inv X jP σ H5 s6:=by
        refine I3.call' (s':=s6) (ch:=fp) I6.os I6.base I6.hok I6.bare λ b hb=>?_;obtain⟨g0,g1,g2,g3,g4,g5⟩:=f3 b hb;exact⟨g3,g1,g4,g5⟩
      have hCl:X.env.locals≠C:=by
        obtain⟨_,hn3,_⟩:=I3.loc;rw[←hC];exact lS hn3.lt
      have hCc:∀x c,X.env.cells.lookup x=some c->c≠C:=λ x c q=>by
        obtain⟨v,oc,q1,q2⟩:=I3.cell x c q;exact ltC _ _ q1
      refine wpAny_assign_Name (zFz I7 hN hjj hxx (v:=.ref s2.heap.objs.size) rfl (λ s9 I9 ⟨a9,sb9,ha9⟩=>?_) hf)
      have hCa:a9≠C:=by
        rcases ha9 with rfl|z
        · exact hCl
        · exact hCc _ _ z
      refine⟨m,hm.sameBut sb9 (Ne.symm hCa),λ h' sb=>⟨_,H5,?_,qn⟩⟩;refine I9.call' (s':={ s9 with heap:=h' }) (ch:=[C]) rfl ?_ (I9.hok.but I6.free sb) I9.bare λ b hb=>?_
      · have st:∀b o,s9.heap.get? b=some o->b∉[C]->h'.get? b=some o:=λ b o q hx=>(sb.2 b (λ z=>hx (by rw[z];exact mQ.mpr rfl))).trans q
        exact⟨λ b o q Ω Ω hx=>st b o q hx,λ b o q Ω Ω hx=>⟨o.slots,st b o q hx⟩,λ b o q n Ω=>n,λ b o q hx=>⟨o,st b o q hx⟩,λ Ω Ω q=>q,λ Ω Ω Ω q=>q,λ b ps q=>⟨#[],by simpa using q⟩⟩
      · rw[mQ.mp hb]
        exact⟨.inr (by rw[←hC];exact I3.sz),Ne.symm hCl,hCc,λ p hp=>ltC _ _ (I3.pin p hp).1⟩
    · refine thn (T.item (X.block sc cl N s3 H3 C fp) rfl rfl rfl hc i [] s5 _ H5 NoX I5 (stat fr5) st5 go) λ r s6 ⟨u,hr,h6⟩=>?_
      subst hr;refine thn h6 λ _ s7 ⟨x,H7,I7,r7,y7,st7,fr7⟩=>?_;have I7':=I7.pinned (stat fr7) (T.obj _ _ st7)
      have again:∀{σ8:St}{H8:Hp}{s8:Shared},Inv (X.block sc cl N s3 H3 C fp) ([]++zEV fp s7.heap) σ8 H8 s8->Ext (capSt cap σ) σ8->N' H8 ->
          ∃m,m<n/\∃i H',Inv (X.block sc cl N s3 H3 C fp) [] (capSt cap σ) H' s8/\tn i s8.heap/\(∀b∈fp,H' b=none)/\W i m H':=λ{σ8 H8 s8} I8 ex n8=>by
        obtain⟨m',hm,w8⟩:=hN' H8 n8;have I8':=I8.unpinned.weak ex.len ex.get;refine⟨m',hm,i+1,H8,I8',T.keep _ _ _ st7 λ b hb o q=>(I8.pin (b,o) (mB _ (mB _ (zBN hb q)))).1,λ b hb=>?_,w8⟩;obtain⟨o,q,d⟩:=T.obj _ _ st7 b hb;exact(I8.pin (b,o) (mB _ (mB _ (zBN hb q)))).2.1
      refine thn (hg cl s3 H3 C fp _ s7 _ H7 x u _ I7' r7 (step x H7 y7)) λ _ s8 ⟨σ8,H8,I8,ex8,q8⟩=>?_;refine thn (ht cl s3 H3 C fp _ s8 σ8 H8 _ I8 q8) λ b s9 ⟨H9,I9,q9⟩=>?_;cases b with
      |false=>exact again I9 ex8 q9
      |true =>
        rw[if_pos rfl] at q9 ⊢;refine thn (he cl s3 H3 C fp _ s9 σ8 H9 _ I9 q9) λ yv s10 ⟨y,H10,I10,r10,zs,e10,l10,q10⟩=>?_;refine thn (zDH (X:=X.block sc cl N s3 H3 C fp) _ s10 σ8 H10 (.ref s2.heap.objs.size) [y] (.ref s2.heap.objs.size) [yv] (λ Ω H'=>N' H') I10 rfl (.cons r10 .nil) ⟨_,zs,y,rfl,rfl,e10,l10,q10⟩) λ _ s11 ⟨_,H11,I11,_,q11⟩=>?_;exact again I11 ex8 q11
  exact codeAny_compStart_list loop (T.self X.A 0 _ _ _ st4 loop)
theorem zD8 {elt tg iter:Expr}{y:Str}{py spos:Pos}{jj:Nat}{ifs:List Expr}{sc:Scope}{pos:Pos}{wi:TI}{g:TG}{tt:TT}{te:TE}(N:List Str) (cap:List (Option Nat)) (hc:X.calm=true) (hi:PI X tg iter wi)
  (hg:∀cl s H C ex,PG (X.block sc cl N s H C ex) tg g) (ht:∀cl s H C ex,PTs (X.block sc cl N s H C ex) ifs tt) (he:∀cl s H C ex,PE (X.block sc cl N s H C ex) elt te)
  (ck:zHr sc X.env X.N N cap=true) (hN:X.N.Nodup) (hjj:X.N[jj]?=some y) (hxx:Loc X.env.scope y) (hf:X.fn y=true\/X.env.scope.names.lookup y=some .local)
  (hsw:swapsWith (.ListComp elt [⟨tg,iter,ifs,0⟩] sc pos) (some (.Name y py)) spos.line X.env=pure true:=by rfl) (hs:∀x,foldedSetIterable iter X.env x=pure x:=by intro _;rfl):PS X (.Assign [.Name y py] (.ListComp elt [⟨tg,iter,ifs,0⟩] sc pos) spos) (tAsg (tComp cap wi g tt te) (gName jj)):=by
 unfold zHr at ck;simp only[Bool.and_eq_true] at ck;obtain⟨⟨⟨⟨⟨k1,k2⟩,k3⟩,k4⟩,k5⟩,k6⟩:=ck;refine zMK N cap hc hi hg ht he (by simpa using k1) (λ y hy=>?_) (λ y hy z=>?_) (λ n hn=>?_) (λ i j e=>?_) (by simpa using k6) hN hjj hxx hf hsw hs
 ·have:=List.all_eq_true.mp k2 y hy
  simpa using this
 ·have:=List.all_eq_true.mp k3 y hy
  rw[z] at this;simpa using this
 ·have:=List.all_eq_true.mp k4 _ hn
  simpa using this
 ·have hi:i<cap.length:=(lJ.mp e).1
  have:=List.all_eq_true.mp k5 i (List.mem_range.mpr hi);rw[e] at this;dsimp only at this;cases q:N[i]? with
  |none=>rw[q] at this;cases this
  |some x =>
   rw[q] at this;dsimp only at this;rw[Bool.and_eq_true] at this;exact⟨x,rfl,by simpa using this.1,by simpa using this.2⟩
end
inductive Dt where
 |int (i:Int)|str (x:Str)|tup (ds:List Dt)
mutual
def Dt.beq:Dt->Dt->Bool
 |.int i,.int j=>decide (i=j)
 |.str x,.str y=>decide (x=y)
 |.tup ds,.tup es=>Dt.beqs ds es
 |_,_=>false
def Dt.beqs:List Dt->List Dt->Bool
 |[],[]=>true
 |d::ds,e::es=>Dt.beq d e && Dt.beqs ds es
 |_,_=>false
end
mutual
theorem Dt.beq_iff:∀{d e:Dt},Dt.beq d e=true↔d=e
 |.int i,.int j=>by simp[Dt.beq]
 |.str x,.str y=>by simp[Dt.beq]
 |.tup ds,.tup es=>by
  have:=Dt.beqs_iff (ds:=ds) (es:=es);simp[Dt.beq,this]
 |.int _,.str _=>by simp[Dt.beq]
 |.int _,.tup _=>by simp[Dt.beq]
 |.str _,.int _=>by simp[Dt.beq]
 |.str _,.tup _=>by simp[Dt.beq]
 |.tup _,.int _=>by simp[Dt.beq]
 |.tup _,.str _=>by simp[Dt.beq]
theorem Dt.beqs_iff:∀{ds es:List Dt},Dt.beqs ds es=true↔ds=es
 |[],[]=>by simp[Dt.beqs]
 |[],_::_=>by simp[Dt.beqs]
 |_::_,[]=>by simp[Dt.beqs]
 |d::ds,e::es=>by
  have h1:=Dt.beq_iff (d:=d) (e:=e);have h2:=Dt.beqs_iff (ds:=ds) (es:=es);simp[Dt.beqs,h1,h2]
end
mutual
noncomputable def Dt.deep:Dt->Nat
 |.tup ds=>Dt.deeps ds+1
 |_=>0
noncomputable def Dt.deeps:List Dt->Nat
 |[]=>0
 |d::ds=>max (Dt.deep d) (Dt.deeps ds)
end
mutual
inductive DR (H:Hp):Dt->V->Prop
 |int (i:Int):DR H (.int i) (.int i)
 |str (x:Str):DR H (.str x) (.str x)
 |tup {a:Addr}{xs:List V}{ds:List Dt}:H a=some (.tup xs)->DRs H ds xs->DR H (.tup ds) (.ref a)
inductive DRs (H:Hp):List Dt->List V->Prop
 |nil:DRs H [] []
 |cons {d:Dt}{v:V}{ds:List Dt}{vs:List V}:DR H d v->DRs H ds vs->DRs H (d::ds) (v::vs)
end
mutual
theorem DR.mono {H H':Hp}(k:Tk H H'):∀{d:Dt}{v:V},DR H d v->DR H' d v
 |_,_,.int i=>.int i
 |_,_,.str x=>.str x
 |_,_,.tup h r=>.tup (k _ _ h) (DRs.mono k r)
theorem DRs.mono {H H':Hp}(k:Tk H H'):∀{ds:List Dt}{vs:List V},DRs H ds vs->DRs H' ds vs
 |_,_,.nil=>.nil
 |_,_,.cons r t=>.cons (DR.mono k r) (DRs.mono k t)
end
theorem DRs.length {H:Hp}:∀{ds:List Dt}{vs:List V},DRs H ds vs->ds.length=vs.length
 |_,_,.nil=>rfl
 |_,_,.cons _ t=>congrArg (· + 1) t.length
mutual
theorem DR.inj {H:Hp}:∀{d e:Dt}{v:V},DR H d v->DR H e v->d=e
 |_,_,_,.int _,.int _=>rfl
 |_,_,_,.str _,.str _=>rfl
 |_,_,_,.tup h r,.tup h' r'=>by
  rw[h] at h';cases h';rw[DRs.inj r r']
theorem DRs.inj {H:Hp}:∀{ds es:List Dt}{vs:List V},DRs H ds vs->DRs H es vs->ds=es
 |_,_,_,.nil,.nil=>rfl
 |_,_,_,.cons r t,.cons r' t'=>by rw[DR.inj r r',DRs.inj t t']
end
theorem DRs.get {H:Hp}:∀{ds:List Dt}{vs:List V}{j:Nat}{v:V},DRs H ds vs->vs[j]?=some v->∃d,ds[j]?=some d/\DR H d v
 |_,_,_,_,.nil,e=>by simp at e
 |_,_,0,_,.cons r _,e=>by simp at e;subst e;exact⟨_,rfl,r⟩
 |_,_,j+1,v,.cons _ t,e=>by
  obtain⟨d,h1,h2⟩:=DRs.get (j:=j) (v:=v) t (by simpa using e);exact⟨d,by simpa using h1,h2⟩
theorem zEA:∀{ds:List Dt}{j:Nat}{d:Dt},ds[j]?=some d->d.deep<=Dt.deeps ds
 |[],_,_,h=>by simp at h
 |e::ds,0,d,h=>by simp at h;subst h;simp[Dt.deeps];omega
 |e::ds,j+1,d,h=>by
  have:=zEA (ds:=ds) (j:=j) (d:=d) (by simpa using h);simp[Dt.deeps];omega
theorem zEB:∀(ds es:List Dt),Dt.beqs ds es=((List.range (min ds.length es.length)).all (λ j=>match ds[j]?,es[j]? with|some d,some e=>Dt.beq d e|_,_=>false) && ds.length == es.length):=by
 intro ds es;rw[Bool.eq_iff_iff,Dt.beqs_iff,Bool.and_eq_true,List.all_eq_true];constructor
 ·rintro rfl
  refine⟨λ j hj=>?_,by simp⟩;have hj':j<ds.length:=by simpa using List.mem_range.mp hj
  simp[nM hj',Dt.beq_iff]
 ·rintro⟨h,hl⟩
  have hl':ds.length=es.length:=by simpa using hl
  refine List.ext_getElem hl' λ j h1 h2=>?_;have:=h j (List.mem_range.mpr (by omega));simpa[nM h1,nM h2,Dt.beq_iff] using this
section
variable {X:Cx}{jP:List (Addr × Obj)}{σ:St}{H:Hp}{s:Shared}
theorem zJm (I:Inv X jP σ H s):∀(n:Nat) (A:Around) {d e:Dt}{v z:V}{u y:Value},d.deep<=n->DR H d v->DR H e z->RelV v u->RelV z y->A.units+n<cLine->SeqAt.EqAt A s u y (Dt.beq d e):=by
 intro n
 induction n with
 |zero =>
  intro A d e v z u y hn rd re ru ry hu;cases rd with
  |int i =>
   obtain⟨t,rfl⟩:=ru;cases re with
   |int j=>obtain⟨t',rfl⟩:=ry;rw[show Dt.beq (.int i) (.int j)=(i == j) by simp[Dt.beq,Bool.beq_eq_decide_eq]];exact SeqAt.EqAt.int_int i t j t'
   |str x=>obtain⟨t',rfl⟩:=ry;exact SeqAt.EqAt.int_str i t x t'
   |tup h r =>
    cases ry;obtain⟨its,rv,p,_⟩:=I.tuple (SqT.of h);exact SeqAt.EqAt.int_tuple i t (show s.heap.IsTuple _ its.toArray from p) (by omega)
  |str x =>
   obtain⟨t,rfl⟩:=ru;cases re with
   |int j=>obtain⟨t',rfl⟩:=ry;exact SeqAt.EqAt.str_int x t j t'
   |str w'=>obtain⟨t',rfl⟩:=ry;rw[show Dt.beq (.str x) (.str w')=(x == w') by simp[Dt.beq,Bool.beq_eq_decide_eq]];exact SeqAt.EqAt.str_str x t w' t'
   |tup h r =>
    cases ry;obtain⟨its,rv,p,_⟩:=I.tuple (SqT.of h);exact SeqAt.EqAt.str_tuple x t (show s.heap.IsTuple _ its.toArray from p) (by omega)
  |tup h r=>simp[Dt.deep] at hn
 |succ n ih =>
  intro A d e v z u y hn rd re ru ry hu;cases rd with
  |int i =>
   obtain⟨t,rfl⟩:=ru;cases re with
   |int j=>obtain⟨t',rfl⟩:=ry;rw[show Dt.beq (.int i) (.int j)=(i == j) by simp[Dt.beq,Bool.beq_eq_decide_eq]];exact SeqAt.EqAt.int_int i t j t'
   |str x=>obtain⟨t',rfl⟩:=ry;exact SeqAt.EqAt.int_str i t x t'
   |tup h r =>
    cases ry;obtain⟨its,rv,p,_⟩:=I.tuple (SqT.of h);exact SeqAt.EqAt.int_tuple i t (show s.heap.IsTuple _ its.toArray from p) (by omega)
  |str x =>
   obtain⟨t,rfl⟩:=ru;cases re with
   |int j=>obtain⟨t',rfl⟩:=ry;exact SeqAt.EqAt.str_int x t j t'
   |str w'=>obtain⟨t',rfl⟩:=ry;rw[show Dt.beq (.str x) (.str w')=(x == w') by simp[Dt.beq,Bool.beq_eq_decide_eq]];exact SeqAt.EqAt.str_str x t w' t'
   |tup h r =>
    cases ry;obtain⟨its,rv,p,_⟩:=I.tuple (SqT.of h);exact SeqAt.EqAt.str_tuple x t (show s.heap.IsTuple _ its.toArray from p) (by omega)
  | @tup a xs ds ha rs =>
   cases ru;obtain⟨its,rv,p,_⟩:=I.tuple (SqT.of ha);have hn':Dt.deeps ds<=n:=by simpa[Dt.deep] using hn
   cases re with
   |int j=>obtain⟨t',rfl⟩:=ry;exact SeqAt.EqAt.tuple_int j t' (show s.heap.IsTuple _ its.toArray from p) (by omega)
   |str w'=>obtain⟨t',rfl⟩:=ry;exact SeqAt.EqAt.tuple_str w' t' (show s.heap.IsTuple _ its.toArray from p) (by omega)
   | @tup b ys es hb rs' =>
    cases ry
    by_cases hab:a=b
    ·subst hab
     rw[ha] at hb;cases hb;have:ds=es:=DRs.inj rs rs';subst this;rw[show Dt.beq (.tup ds) (.tup ds)=true from Dt.beq_iff.mpr rfl];exact SeqAt.EqAt.same _
    ·obtain⟨its2,rv2,p2,_⟩:=I.tuple (SqT.of hb)
     refine SeqAt.EqAt.of_refs hab ?_;have l1:=rv.length;have l2:=rv2.length;have m1:=rs.length;have m2:=rs'.length
     have key:=SeqAt.RcAt.tuples (A:=A) (s:=s) (e:=λ j=>match ds[j]?,es[j]? with|some d,some e=>Dt.beq d e|_,_=>false) (show s.heap.IsTuple _ its.toArray from p) (show s.heap.IsTuple _ its2.toArray from p2) (by omega) λ j h1 h2=>by
      have g1:j<xs.length:=by rw[l1];simpa using h1
      have g2:j<ys.length:=by rw[l2];simpa using h2
      obtain⟨u1,eu,r1⟩:=rv.get (lW g1);obtain⟨u2,ev,r2⟩:=rv2.get (lW g2);obtain⟨d1,ed,rd1⟩:=rs.get (lW g1);obtain⟨d2,ed2,rd2⟩:=rs'.get (lW g2);have e1:its.toArray[j]=u1:=by obtain⟨_,q⟩:=lJ.mp eu;simpa using q
      have e2:its2.toArray[j]=u2:=by obtain⟨_,q⟩:=lJ.mp ev;simpa using q
      simp only[ed,ed2,e1,e2];exact ih A.in1 (mG (zEA ed) hn') rd1 rd2 r1 r2 (by rw[show A.in1.units=A.units+1 from rfl];omega)
     have ez:Dt.beq (.tup ds) (.tup es)=((List.range (min its.toArray.size its2.toArray.size)).all (λ j=>match ds[j]?,es[j]? with|some d,some e=>Dt.beq d e|_,_=>false) && its.toArray.size == its2.toArray.size):=by
      rw[show Dt.beq (.tup ds) (.tup es)=Dt.beqs ds es by simp[Dt.beq],zEB];have a1:its.toArray.size=ds.length:=by simp;omega
      have a2:its2.toArray.size=es.length:=by simp;omega
      rw[a1,a2]
     rw[ez];exact key
def rEqD (neg:Bool):R2:=λ x y H Q=>∃(ds es:List Dt),DR H (.tup ds) x/\DR H (.tup es) y/\(Dt.tup ds).deep<=150/\Q (.bl (if neg then !Dt.beqs ds es else Dt.beqs ds es)) H
theorem zGP (I:Inv X jP σ H s) {a b:Addr}{ds es:List Dt}(hd:DR H (.tup ds) (.ref a)) (he:DR H (.tup es) (.ref b)) (hdeep:(Dt.tup ds).deep<=150) (hu:X.A.units+150<cLine) :
  ∃its its2:List Value,s.heap.IsTuple a its.toArray/\s.heap.IsTuple b its2.toArray/\its.toArray.size=ds.length/\its2.toArray.size=es.length /\
   ∀j (h1:j<its.toArray.size) (h2:j<its2.toArray.size),SeqAt.EqAt X.A.in1 s its.toArray[j] its2.toArray[j] ((λ j=>match ds[j]?,es[j]? with|some d,some e=>Dt.beq d e|_,_=>false) j):=by
 cases hd with
 | @tup _ xs _ ha rs =>
  cases he with
  | @tup _ ys _ hb rs' =>
   obtain⟨its,rv,p,_⟩:=I.tuple (SqT.of ha);obtain⟨its2,rv2,p2,_⟩:=I.tuple (SqT.of hb);have l1:=rv.length;have l2:=rv2.length;have m1:=rs.length;have m2:=rs'.length;refine⟨its,its2,p,p2,by simp;omega,by simp;omega,λ j h1 h2=>?_⟩;have g1:j<xs.length:=by rw[l1];simpa using h1
   have g2:j<ys.length:=by rw[l2];simpa using h2
   obtain⟨u1,eu,r1⟩:=rv.get (lW g1);obtain⟨u2,ev,r2⟩:=rv2.get (lW g2);obtain⟨d1,ed,rd1⟩:=rs.get (lW g1);obtain⟨d2,ed2,rd2⟩:=rs'.get (lW g2);have e1:its.toArray[j]=u1:=by obtain⟨_,q⟩:=lJ.mp eu;simpa using q
   have e2:its2.toArray[j]=u2:=by obtain⟨_,q⟩:=lJ.mp ev;simpa using q
   simp only[ed,ed2,e1,e2];have dd:Dt.deeps ds+1<=150:=by simpa[Dt.deep] using hdeep
   exact zJm I 149 X.A.in1 (mG (zEA ed) (by omega)) rd1 rd2 r1 r2 (by rw[show X.A.in1.units=X.A.units+1 from rfl];omega)
theorem zLl (hu:X.A.units+150<cLine):OpR X (compareOp .Eq) (rEqD false):=by
 intro jP s σ H x y v u Q I rx ry h;obtain⟨ds,es,hd,he,hdeep,q⟩:=h;obtain⟨a,rfl⟩:∃a,x = .ref a:=by cases hd;exact⟨_,rfl⟩
 obtain⟨b,rfl⟩:∃b,y = .ref b:=by cases he;exact⟨_,rfl⟩
 cases rx;cases ry;obtain⟨its,its2,p,p2,z1,z2,hall⟩:=zGP I hd he hdeep hu;refine SeqAt.eq_tupleAt p p2 (by omega) hall ?_;rw[z1,z2,←zEB];exact⟨.bl (Dt.beqs ds es),H,I,rfl,by simpa using q⟩
theorem zNg (hu:X.A.units+150<cLine):OpR X (compareOp .NotEq) (rEqD true):=by
 intro jP s σ H x y v u Q I rx ry h;obtain⟨ds,es,hd,he,hdeep,q⟩:=h;obtain⟨a,rfl⟩:∃a,x = .ref a:=by cases hd;exact⟨_,rfl⟩
 obtain⟨b,rfl⟩:∃b,y = .ref b:=by cases he;exact⟨_,rfl⟩
 cases rx;cases ry;obtain⟨its,its2,p,p2,z1,z2,hall⟩:=zGP I hd he hdeep hu;refine SeqAt.RcNeAt.tuples p p2 (by omega) hall _ _ _ _ ?_;rw[z1,z2,←zEB];exact⟨.bl (!Dt.beqs ds es),H,I,rfl,by simpa using q⟩
theorem hu150 {k:Nat}{A:Around}(hr:Room k A):A.units+150<cLine:=by have:=hr.un;omega
end
theorem itB {h h':Heap}{a b t:Addr}{i:Nat}(x:h.IsTupleIter a t i) (e:Heap.SameBut b h h') (n:a≠b):h'.IsTupleIter a t i:=x.extBut e.extBut n
theorem tpB {h h':Heap}{a b:Addr}{xs:Array Value}(x:h.IsTuple a xs) (e:Heap.SameBut b h h') (n:a≠b):h'.IsTuple a xs:=let ⟨o,ho,r⟩:=x;⟨o,e.extBut a o n ho,r⟩
section
variable {prog:Program}{w:World}{A:Around}{E:XQ}{s:Shared}
theorem zIU {z TI TO i1 i2 l1 l2:Addr}{k:Nat}{xs ys:Array Value}{x y a b:Value}{Q:Option Value->Shared->Prop}(D:ZipApart z TI TO i1 i2 l1 l2)
  (hz:IsZip s.heap z TI TO .none) (hTI:IsPair s.heap TI (.ref i1) (.ref i2)) (hTO:IsPair s.heap TO a b) (h1:s.heap.IsTupleIter i1 l1 k) (h2:s.heap.IsTupleIter i2 l2 k)
  (hl1:s.heap.IsTuple l1 xs) (hl2:s.heap.IsTuple l2 ys) (hx:xs[k]?=some x) (hy:ys[k]?=some y)
  (hQ:∀h',IsZip h' z TI TO (rawInt s.heap.objs.size)->IsPair h' TO x y->h'.IsTupleIter i1 l1 (k+1)->h'.IsTupleIter i2 l2 (k+1)->IsPair h' s.heap.objs.size x y ->
   (∀c o,c≠z->c≠TO->c≠i1->c≠i2->s.heap.get? c=some o->h'.get? c=some o)->Q (some (.ref s.heap.objs.size)) { s with heap:=h' }):wpAny (model prog w) A (pyNext (.ref z)) Q E s:=by
 have hT:s.TypeIs (.ref z) "zip" := ⟨_,hz,rfl⟩;unfold pyNext;refine lA (wpAny_attempt (wpAny_callSpecial?_slot (name:=Str.ofString "__next__") hT F.slot_zip_next (wpAny_call_entry F.slot_zip_next hT F.entry_zip_next ?_ (F.args_zip_next_1 _))));show wpAny _ _ (field (.ref z) 2 >>= _) _ _ _;refine lA (wpAny_field hz rfl (x:=.bool false) rfl ?_);show wpAny _ _ (field (.ref z) 3 >>= _) _ _ _;refine lA (wpAny_field hz rfl (x:=.ref TI) rfl ?_);refine lA (wpAny_seqItems hTI rfl ?_);show wpAny _ _ (Builtin.SmallTypes.ownedTupleIsFree (.ref z) >>= _) _ _ _;refine lA ?_;unfold Builtin.SmallTypes.ownedTupleIsFree;refine lA (wpAny_field hz rfl (x:=.none) rfl (lB ?_));simp only[if_true];refine lA (wpAny_rule ?_);refine lA (wpAny_field hz rfl (x:=.ref TO) rfl ?_);refine lA (wpAny_setField_rec hz (by simp) λ q1 hz1 hs1=>?_);replace hz1:IsZip q1 z TI TO .ellipsis:=hz1;refine lA ?_;simp only[List.zipIdx_cons,List.zipIdx_nil,List.forIn_cons,List.forIn_nil];refine lA (lA (wpAny_onRaise ?_));show wpAny _ _ (Builtin.SmallTypes.nextOf (.ref i1) >>= _) _ _ _;refine lA (zBd (itB h1 hs1 D.i1z) (tpB hl1 hs1 D.l1z) hx λ q2 j1 hs2=>lB ?_);have hTO2:IsPair q2 TO a b:=hs2.extBut _ _ D.TOi1 (hs1.extBut _ _ D.TOz hTO);refine lA (wpAny_seqItems hTO2 rfl ?_);refine lA (wpAny_updateSeq_pair hTO2 λ q3 hTO3 hs3=>?_);replace hTO3:IsPair q3 TO x b:=hTO3;refine lA (wpAny_letGo (lB ?_));refine lA (lA (wpAny_onRaise ?_));show wpAny _ _ (Builtin.SmallTypes.nextOf (.ref i2) >>= _) _ _ _;refine lA (zBd (itB (itB (itB h2 hs1 D.i2z) hs2 D.i12.symm) hs3 D.TOi2.symm) (tpB (tpB (tpB hl2 hs1 D.l2z) hs2 D.l2i1) hs3 D.l2TO) hy λ q4 j2 hs4=>lB ?_);have hTO4:IsPair q4 TO x b:=hs4.extBut _ _ D.TOi2 hTO3;refine lA (wpAny_seqItems hTO4 rfl ?_);refine lA (wpAny_updateSeq_pair hTO4 λ q5 hTO5 hs5=>?_);replace hTO5:IsPair q5 TO x y:=hTO5;refine lA (wpAny_letGo (lB (lB ?_)));refine lA (wpAny_seqItems hTO5 rfl ?_);refine lA (wpAny_newTuple ?_);have hsz:q5.objs.size=s.heap.objs.size:=by rw[hs5.1,hs4.1,hs3.1,hs2.1,hs1.1]
 have hz5:IsZip q5 z TI TO .ellipsis:=hs5.extBut _ _ D.TOz.symm (hs4.extBut _ _ D.i2z.symm (hs3.extBut _ _ D.TOz.symm (hs2.extBut _ _ D.i1z.symm hz1)));have hk5:∀c o,c≠z->c≠TO->c≠i1->c≠i2->s.heap.get? c=some o->q5.get? c=some o:=λ c o c1 c2 c3 c4 e=>hs5.extBut _ _ c2 (hs4.extBut _ _ c4 (hs3.extBut _ _ c2 (hs2.extBut _ _ c3 (hs1.extBut _ _ c1 e))));have j15:q5.IsTupleIter i1 l1 (k+1):=itB (itB (itB j1 hs3 D.TOi1.symm) hs4 D.i12) hs5 D.TOi1.symm;have j25:q5.IsTupleIter i2 l2 (k+1):=itB j2 hs5 D.TOi2.symm;have hzlt:z<q5.objs.size:=lI hz5;show wpAny _ _ (Builtin.SmallTypes.ownedTupleHandOut (.ref z) (.ref q5.objs.size) >>= _) _ _ _;refine lA ?_;unfold Builtin.SmallTypes.ownedTupleHandOut;have hz6:IsZip (q5.push { cls:=.type "tuple", data:=.seq #[x,y] }) z TI TO .ellipsis:=lG _ hz5;refine lA (wpAny_setField_rec hz6 (by simp) λ q7 hz7 hs7=>?_);replace hz7:IsZip q7 z TI TO (rawInt q5.objs.size):=hz7;refine wpAny_setField_rec hz7 (by simp) λ q8 hz8 hs8=>?_;replace hz8:IsZip q8 z TI TO (rawInt q5.objs.size):=hz8;have up:∀c o,c≠z->q5.get? c=some o->q8.get? c=some o:=λ c o c1 e=>hs8.extBut _ _ c1 (hs7.extBut _ _ c1 (lG _ e));have hT8:IsPair q8 q5.objs.size x y:=hs8.extBut _ _ (Nat.ne_of_gt hzlt) (hs7.extBut _ _ (Nat.ne_of_gt hzlt) (lH _ rfl));rw[hsz] at hz8 hT8;refine lB ⟨_,rfl,lB ?_⟩;show Q (some (.ref q5.objs.size)) _;rw[hsz];exact hQ q8 hz8 (up _ _ D.TOz hTO5) (let ⟨o,e,r⟩:=j15;⟨o,up _ o D.i1z e,r⟩) (let ⟨o,e,r⟩:=j25;⟨o,up _ o D.i2z e,r⟩) hT8 λ c o c1 c2 c3 c4 e=>up c o c1 (hk5 c o c1 c2 c3 c4 e)
theorem zKD {z TI TO i1 i2 l1 l2:Addr}{k:Nat}{xs ys:Array Value}{a b:Value}{Q:Option Value->Shared->Prop}(hh:A.handled=none) (D:ZipApart z TI TO i1 i2 l1 l2)
    (hz:IsZip s.heap z TI TO .none) (hTI:IsPair s.heap TI (.ref i1) (.ref i2)) (hTO:IsPair s.heap TO a b) (h1:s.heap.IsTupleIter i1 l1 k) (h2:s.heap.IsTupleIter i2 l2 k)
    (hl1:s.heap.IsTuple l1 xs) (hl2:s.heap.IsTuple l2 ys) (hend:xs[k]?=none\/ys[k]?=none)
    (hQ:∀h',(∀c o,c≠z->c≠TO->c≠i1->c≠i2->s.heap.get? c=some o->h'.get? c=some o)->Q none { s with heap:=h' }):wpAny (model prog w) A (pyNext (.ref z)) Q E s:=by
  have hT:s.TypeIs (.ref z) "zip" := ⟨_,hz,rfl⟩;unfold pyNext
  have fin:∀(h':Heap) (e:Addr),(∀c o,c≠z->c≠TO->c≠i1->c≠i2->s.heap.get? c=some o->h'.get? c=some o)->(∃o,h'.get? e=some o/\o.cls = .type "StopIteration") ->
      wpAny (model prog w) A (do if ← isInstance (.ref e) (.type "StopIteration") then pure none else throw (.ref e)) Q E { s with heap:=h' }:=λ h' e hk ⟨o,ho,hc⟩ =>
    lA (wpAny_isInstance (T := "StopIteration") (b:=true) ⟨o,ho,hc⟩ isSubtype_stop (lB (hQ _ hk)))
  refine lA (wpAny_attempt (wpAny_callSpecial?_slot (name:=Str.ofString "__next__") hT F.slot_zip_next (wpAny_call_entry F.slot_zip_next hT F.entry_zip_next ?_ (F.args_zip_next_1 _))));show wpAny _ _ (field (.ref z) 2 >>= _) _ _ _;refine lA (wpAny_field hz rfl (x:=.bool false) rfl ?_);show wpAny _ _ (field (.ref z) 3 >>= _) _ _ _;refine lA (wpAny_field hz rfl (x:=.ref TI) rfl ?_);refine lA (wpAny_seqItems hTI rfl ?_);show wpAny _ _ (Builtin.SmallTypes.ownedTupleIsFree (.ref z) >>= _) _ _ _;refine lA ?_;unfold Builtin.SmallTypes.ownedTupleIsFree;refine lA (wpAny_field hz rfl (x:=.none) rfl (lB ?_));simp only[if_true];refine lA (wpAny_rule ?_);refine lA (wpAny_field hz rfl (x:=.ref TO) rfl ?_);refine lA (wpAny_setField_rec hz (by simp) λ q1 hz1 hs1=>?_);replace hz1:IsZip q1 z TI TO .ellipsis:=hz1;refine lA ?_;simp only[List.zipIdx_cons,List.zipIdx_nil,List.forIn_cons,List.forIn_nil];refine lA (lA (wpAny_onRaise ?_));show wpAny _ _ (Builtin.SmallTypes.nextOf (.ref i1) >>= _) _ _ _;cases hx:xs[k]? with
  |none =>
    refine lA (zBw hh (itB h1 hs1 D.i1z) (tpB hl1 hs1 D.l1z) hx λ q2 e hs2 he=>?_);obtain⟨oe,hoe,hce⟩:=he;have hz2:IsZip q2 z TI TO .ellipsis:=hs2 _ _ D.i1z.symm hz1;have hez:e≠z:=λ x=>by subst x;rw[hz2] at hoe;cases hoe;simp at hce
    exact wpAny_setField_rec hz2 (by simp) λ q3 Ω hs3=>fin q3 e (λ c o c1 Ω c3 Ω x=>hs3.extBut _ _ c1 (hs2 _ _ c3 (hs1.extBut _ _ c1 x))) ⟨oe,hs3.extBut _ _ hez hoe,hce⟩
  |some x =>
    have hy:ys[k]?=none:=by rcases hend with h|h;rw[hx] at h;cases h;exact h
    refine lA (zBd (itB h1 hs1 D.i1z) (tpB hl1 hs1 D.l1z) hx λ q2 j1 hs2=>lB ?_);have hTO2:IsPair q2 TO a b:=hs2.extBut _ _ D.TOi1 (hs1.extBut _ _ D.TOz hTO);refine lA (wpAny_seqItems hTO2 rfl ?_);refine lA (wpAny_updateSeq_pair hTO2 λ q3 hTO3 hs3=>?_);refine lA (wpAny_letGo (lB ?_));refine lA (lA (wpAny_onRaise ?_));show wpAny _ _ (Builtin.SmallTypes.nextOf (.ref i2) >>= _) _ _ _;refine lA (zBw hh (itB (itB (itB h2 hs1 D.i2z) hs2 D.i12.symm) hs3 D.TOi2.symm) (tpB (tpB (tpB hl2 hs1 D.l2z) hs2 D.l2i1) hs3 D.l2TO) hy λ q4 e hs4 he=>?_);obtain⟨oe,hoe,hce⟩:=he;have hz4:IsZip q4 z TI TO .ellipsis:=hs4 _ _ D.i2z.symm (hs3.extBut _ _ D.TOz.symm (hs2.extBut _ _ D.i1z.symm hz1));have hez:e≠z:=λ x=>by subst x;rw[hz4] at hoe;cases hoe;simp at hce
    exact wpAny_setField_rec hz4 (by simp) λ q5 Ω hs5=>fin q5 e (λ c o c1 c2 c3 c4 x=>hs5.extBut _ _ c1 (hs4 _ _ c4 (hs3.extBut _ _ c2 (hs2.extBut _ _ c3 (hs1.extBut _ _ c1 x))))) ⟨oe,hs5.extBut _ _ hez hoe,hce⟩
end
theorem zIL (l1 l2:Addr) (xs ys:Array Value) :
    Meets (Builtin.«zip.__new__» ⟨[.type "zip", .ref l1,.ref l2],[]⟩) (λ Ω R s=>s.heap.IsTuple l1 xs/\s.heap.IsTuple l2 ys /\
      ∀(h':Heap) (z TI TO i1 i2:Addr),(∀c o,s.heap.get? c=some o->h'.get? c=some o)->s.heap.objs.size<=z->s.heap.objs.size<=TI->s.heap.objs.size<=TO->s.heap.objs.size<=i1->s.heap.objs.size<=i2 ->
        (TI≠z/\TO≠z/\i1≠z/\i2≠z/\TI≠TO/\TI≠i1/\TI≠i2/\TO≠i1/\TO≠i2/\i1≠i2)->IsZip h' z TI TO .none->IsPair h' TI (.ref i1) (.ref i2)->IsPair h' TO .none .none->h'.IsTupleIter i1 l1 0->h'.IsTupleIter i2 l2 0 ->
        R (.ok (.ret (.ref z))) { s with heap:=h' }) :=
  .of_wp λ prog w A R s h=>by
    obtain⟨hp,g,d,tk,os⟩:=s;obtain⟨hl1,hl2,h⟩:=h;have hsub:=sub_zip;have hL1:Heap.IsTuple (Shared.heap ⟨hp,g,d,tk,os⟩) l1 xs:=hl1;have hL2:Heap.IsTuple (Shared.heap ⟨hp.push { cls:=.type "tuple_iterator", data:=.fields #[.ref l1,.int 0 0] },g,d,tk,os⟩) l2 ys:=let ⟨o,ho,r⟩:=hl2;⟨o,lG _ ho,r⟩
    wp_walk using wpAny_pyIter_tuple hL1,wpAny_pyIter_tuple hL2
    refine⟨_,rfl,h _ _ _ _ _ _ (λ c o e=>lG _ (lG _ (lG _ (lG _ (lG _ e))))) ?_ ?_ ?_ ?_ ?_ ?_ (lH _ rfl) (lG _ (lG _ (lH _ rfl))) (lG _ (lH _ rfl))
      ⟨_,lG _ (lG _ (lG _ (lG _ (lH _ rfl)))),rfl,rfl⟩ ⟨_,lG _ (lG _ (lG _ (lH _ rfl))),rfl,rfl⟩⟩
    all_goals simp only[Heap.size_push]
    all_goals first
      |omega
      | (refine⟨?_,?_,?_,?_,?_,?_,?_,?_,?_,?_⟩<;>(intro e;have e' : @Eq Nat _ _:=e;omega))
section
variable {prog:Program}{w:World}{A:Around}{E:XQ}{s:Shared}
theorem zJ4 {l1 l2:Addr}{xs ys:Array Value}{Q:XQ}(hl1:s.heap.IsTuple l1 xs) (hl2:s.heap.IsTuple l2 ys)
  (h:∀(h':Heap) (z TI TO i1 i2:Addr),(∀c o,s.heap.get? c=some o->h'.get? c=some o)->s.heap.objs.size<=z->s.heap.objs.size<=TI->s.heap.objs.size<=TO->s.heap.objs.size<=i1->s.heap.objs.size<=i2 ->
    (TI≠z/\TO≠z/\i1≠z/\i2≠z/\TI≠TO/\TI≠i1/\TI≠i2/\TO≠i1/\TO≠i2/\i1≠i2)->IsZip h' z TI TO .none->IsPair h' TI (.ref i1) (.ref i2)->IsPair h' TO .none .none->h'.IsTupleIter i1 l1 0->h'.IsTupleIter i2 l2 0->Q (.ref z) { s with heap:=h' }) :
  wpAny (model prog w) A (call (.type "zip") [.ref l1,.ref l2]) Q E s:=by
 refine callType_new F.called_zip (by decide) (F.typeCall_zip_2 _ _) (F.newCall_zip_2 _ _) (λ obj=>F.args_object_init_3 obj _ _) F.entry_zip_new (zIL l1 l2 xs ys) ⟨hl1,hl2,λ h' z TI TO i1 i2 a0 a1 a2 a3 a4 a5 a6 a7 a8 a9 b1 b2=>?_⟩;exact⟨⟨_,a7,rfl⟩,h h' z TI TO i1 i2 a0 a1 a2 a3 a4 a5 a6 a7 a8 a9 b1 b2⟩
end
noncomputable def Itz (a b:Addr):It :=
 ⟨λ i H=>∃xs ys x y,H a=some (.tup xs)/\H b=some (.tup ys)/\xs[i]?=some x/\ys[i]?=some y,
 λ i H v H'=>∃T x y,H T=none/\v = .ref T/\H'=upd H T (.tup [x,y])/\(∀xs,H a=some (.tup xs)->xs[i]?=some x)/\∀ys,H b=some (.tup ys)->ys[i]?=some y,
 λ i H=>∃xs ys,H a=some (.tup xs)/\H b=some (.tup ys)/\(xs.length<=i\/ys.length<=i)⟩
theorem zKH {P:Program}{w:World}{K:W.Frag}{es:List Expr}{kk:Nat}{pos:Pos}(a b z TI TO i1 i2:Addr)
  (ap:TI≠z/\TO≠z/\i1≠z/\i2≠z/\TI≠TO/\TI≠i1/\TI≠i2/\TO≠i1/\TO≠i2/\i1≠i2) :
  Turn P w K (.Tuple es kk pos) (Itz a b) [z,TI,TO,i1,i2] z (λ i h=>IsZip h z TI TO .none/\IsPair h TI (.ref i1) (.ref i2)/\(∃p q,IsPair h TO p q)/\h.IsTupleIter i1 a i/\h.IsTupleIter i2 b i) where
 mem:=by simp
 obj:=λ i h st c hc=>by
  obtain⟨hz,hTI,⟨p,q,hTO⟩,⟨o1,e1,c1,d1⟩,o2,e2,c2,d2⟩:=st;simp only[nL,mZ,or_false] at hc;rcases hc with rfl|rfl|rfl|rfl|rfl
  ·exact⟨_,hz,λ v z=>by have z':Data.fields _=Data.cell v:=z;cases z'⟩
  ·exact⟨_,hTI,λ v z=>by have z':Data.seq _ _=Data.cell v:=z;cases z'⟩
  ·exact⟨_,hTO,λ v z=>by have z':Data.seq _ _=Data.cell v:=z;cases z'⟩
  ·exact⟨o1,e1,λ v z=>by rw[d1] at z;cases z⟩
  ·exact⟨o2,e2,λ v z=>by rw[d2] at z;cases z⟩
 keep:=λ i h h' st k=>by
  obtain⟨hz,hTI,⟨p,q,hTO⟩,⟨o1,e1,r1⟩,o2,e2,r2⟩:=st;exact⟨k z (by simp) _ hz,k TI (by simp) _ hTI,⟨p,q,k TO (by simp) _ hTO⟩,⟨o1,k i1 (by simp) _ e1,r1⟩,o2,k i2 (by simp) _ e2,r2⟩
 item:=by
  intro X hP hw hK hc i jP s σ H E I hf st hg;subst hP hw hK;obtain⟨xs,ys,x,y,ha,hb,hx,hy⟩:=hg;obtain⟨hz,hTI,⟨p,q,hTO⟩,h1,h2⟩:=st;obtain⟨its,rv,t1,_⟩:=I.tuple (SqT.of ha);obtain⟨its2,rv2,t2,_⟩:=I.tuple (SqT.of hb);obtain⟨u,hu,ru⟩:=rv.get hx;obtain⟨u2,hu2,ru2⟩:=rv2.get hy;obtain⟨n1,n2,n3,n4,n5,n6,n7,n8,n9,n10⟩:=ap;have ne:∀{c d:Addr}{o:HO},H c=some o->d∈[z,TI,TO,i1,i2]->c≠d:=λ e hd=>zAN e (hf _ hd).1;have D:ZipApart z TI TO i1 i2 a b:=⟨n1,n2,n3,n4,n5,n6,n7,n8,n9,n10,ne ha (by simp),ne ha (by simp),ne ha (by simp),ne ha (by simp),ne hb (by simp),ne hb (by simp),ne hb (by simp),ne hb (by simp)⟩;refine zIU D hz hTI hTO h1 h2 (show s.heap.IsTuple a its.toArray from t1) (show s.heap.IsTuple b its2.toArray from t2) (by simpa using hu) (by simpa using hu2) λ q1 hz1 hTO1 j1 j2 hT hk=>⟨_,rfl,?_⟩;have hn:H s.heap.objs.size=none:=I.fresh;have hT1:IsPair q1 TI (.ref i1) (.ref i2):=hk _ _ n1 n5 n6 n7 hTI
  have neT:∀c∈[z,TI,TO,i1,i2],c≠s.heap.objs.size:=λ c hc=>by
   simp only[nL,mZ,or_false] at hc;rcases hc with rfl|rfl|rfl|rfl|rfl
   ·exact lS (lI (show s.heap.get? _=some _ from hz))
   ·exact lS (lI (show s.heap.get? _=some _ from hTI))
   ·exact lS (lI (show s.heap.get? _=some _ from hTO))
   ·obtain⟨_,e,_⟩:=h1;exact lS (lI e)
   ·obtain⟨_,e,_⟩:=h2;exact lS (lI e)
  have I1:Inv X jP σ (upd H s.heap.objs.size (.tup [x,y])) { s with heap:=q1,toks:=s.toks }:=I.turnedL (ch:=[z,TO,i1,i2]) (λ c o hc e=>hk c o (λ q=>hc (by simp[q])) (λ q=>hc (by simp[q])) (λ q=>hc (by simp[q])) (λ q=>hc (by simp[q])) e)
   (λ c hc=>hf c (by simp at hc ⊢;rcases hc with r|r|r|r<;>simp[r])) (lQ _) ⟨Nat.le_of_lt (zAK (show 2<=1000 by decide)),[u,u2],.cons ru (.cons ru2 .nil),_,hT,rfl,_,rfl⟩
  refine wpAny_letOwnedTupleGo_zip (s:={ s with heap:=q1 }) hz1 λ q2 hz2 hs2=>⟨.ref s.heap.objs.size,_,?_,rfl,⟨_,x,y,hn,rfl,rfl,λ ws e=>by rw[ha] at e;cases e;exact hx,λ ws e=>by rw[hb] at e;cases e;exact hy⟩,⟨hz2,hs2.extBut _ _ n1 hT1,⟨_,_,hs2.extBut _ _ n2 hTO1⟩,itB j1 hs2 n3,itB j2 hs2 n4⟩,λ c hc=>?_⟩
  ·refine I1.turnedN (t':=s.toks) (ch:=[z]) (λ c o hc e=>(hs2.2 c (λ q=>hc (by simp[q]))).trans e) λ c hc=>?_
   have ec:=mQ.mp hc;subst ec;obtain⟨f0,f⟩:=hf c (by simp);exact⟨by rw[zAR (neT c (by simp))];exact f0,f⟩
  ·rw[zAR (neT c hc)];exact(hf c hc).1
 done:=by
  intro X hP hw hK hc i jP s σ H E I hf st hg;subst hP hw hK;obtain⟨xs,ys,ha,hb,hend⟩:=hg;obtain⟨hz,hTI,⟨p,q,hTO⟩,h1,h2⟩:=st;obtain⟨its,rv,t1,_⟩:=I.tuple (SqT.of ha);obtain⟨its2,rv2,t2,_⟩:=I.tuple (SqT.of hb);have l1:=rv.length;have l2:=rv2.length;obtain⟨n1,n2,n3,n4,n5,n6,n7,n8,n9,n10⟩:=ap;have ne:∀{c d:Addr}{o:HO},H c=some o->d∈[z,TI,TO,i1,i2]->c≠d:=λ e hd=>zAN e (hf _ hd).1;have D:ZipApart z TI TO i1 i2 a b:=⟨n1,n2,n3,n4,n5,n6,n7,n8,n9,n10,ne ha (by simp),ne ha (by simp),ne ha (by simp),ne ha (by simp),ne hb (by simp),ne hb (by simp),ne hb (by simp),ne hb (by simp)⟩;refine zKD (I.ok.hd hc) D hz hTI hTO h1 h2 (show s.heap.IsTuple a its.toArray from t1) (show s.heap.IsTuple b its2.toArray from t2) ?_ λ q1 hk=>⟨rfl,?_⟩
  ·rcases hend with h|h
   ·exact .inl (by simp;omega)
   ·exact .inr (by simp;omega)
  ·exact I.turnedN (t':=s.toks) (ch:=[z,TO,i1,i2]) (λ c o hc e=>hk c o (λ q=>hc (by simp[q])) (λ q=>hc (by simp[q])) (λ q=>hc (by simp[q])) (λ q=>hc (by simp[q])) e) (λ c hc=>hf c (by simp at hc ⊢;rcases hc with r|r|r|r<;>simp[r]))
 self:=λ Ω Ω Ω Ω Ω st h=>wpAny_pyIter_zip st.1 h
theorem zJ7:bootBuiltins "zip" = some (.type "zip"):=by symm
def iZip (ta:TA):TI:=λ σ H R=>ta σ H λ vs H1=>∃a b xs ys,vs=[.ref a,.ref b]/\H1 a=some (.tup xs)/\H1 b=some (.tup ys)/\R (Itz a b) H1
theorem zNa {X:Cx}{es:List Expr}{k:Nat}{tpos:Pos}{a b:Expr}{ta:TA}{p pos:Pos}(hg:Gl X "zip") (hm:X.mg "zip" = none) (ha:PA X [a,b] ta) (hs:starEach [a,b] X.env=[(false,eval a X.env),(false,eval b X.env)]:=by rfl) (hs2:starEach [b] X.env=[(false,eval b X.env)]:=by rfl) :
  PI X (.Tuple es k tpos) (.Call (.Name "zip" p) [a,b] [] pos) (iZip ta):=by
 intro jP s σ H R I h;refine Call_ (zCl I hg hm zJ7 (PyProof.Rows.callWith_type1 (thn (ha pos jP s σ H _ I h) λ us s1 ⟨vs,H1,I1,r1,q1⟩=>?_) (by rw[hs,hs2]) (by rw[hs2];rfl)));obtain⟨l1,l2,xs,ys,e,h1,h2,q⟩:=q1;subst e;obtain⟨u,w',rfl,ru,rw'⟩:=vals2 r1;cases ru;cases rw';obtain⟨its,rv,t1,_⟩:=I1.tuple (SqT.of h1);obtain⟨its2,rv2,t2,_⟩:=I1.tuple (SqT.of h2);refine zJ4 (show s1.heap.IsTuple l1 its.toArray from t1) (show s1.heap.IsTuple l2 its2.toArray from t2) λ h' z TI TO i1 i2 a0 a1 a2 a3 a4 a5 a6 a7 a8 a9 b1 b2=>?_;refine wpAny_pyIter_zip a7 ⟨_,[z,TI,TO,i1,i2],_,_,H1,rfl,I1.kept (t':=s1.toks) a0,zKH l1 l2 z TI TO i1 i2 a6,⟨a7,a8,⟨_,_,a9⟩,b1,b2⟩,λ c hc=>?_,q⟩
 have ge:s1.heap.objs.size<=c:=by
  simp only[nL,mZ,or_false] at hc;rcases hc with rfl|rfl|rfl|rfl|rfl<;>assumption
 exact I1.fpOk ge (I1.hok.fresh ge)
theorem zMv {a b:Addr}{xs ys:List V}{g:TG}{tb:TS}{D:Ends}{σ:St}{H:Hp}(Pv:Nat->St->Hp->Prop) (h0:Pv 0 σ H) (hl:∀i σ H,i<=min xs.length ys.length->Pv i σ H->H a=some (.tup xs)/\H b=some (.tup ys))
  (hs:∀i x y T σ H,xs[i]?=some x->ys[i]?=some y->Pv i σ H->H T=none->g (.ref T) σ (upd H T (.tup [x,y])) λ σ2 H2=>tb { D with nx:=Pv (i+1),ct:=Pv (i+1),bk:=D.nx } σ2 H2) (hd:∀σ H,Pv (min xs.length ys.length) σ H->D.nx σ H) :
  ∃W:Nat->Nat->St->Hp->Prop,(∃m,W 0 m σ H)/\∀i m σ H,W i m σ H ->
   ((Itz a b).stop i H/\D.nx σ H)\/((Itz a b).go i H/\∃N:St->Hp->Prop,(∀σ' H',N σ' H'->∃m',m'<m/\W (i+1) m' σ' H')/\∀x H',(Itz a b).yld i H x H'->g x σ H' λ σ2 H2=>tb { D with nx:=N,ct:=N,bk:=D.nx } σ2 H2):=by
 refine⟨λ i m σ H=>m=min xs.length ys.length - i/\i<=min xs.length ys.length/\Pv i σ H,⟨min xs.length ys.length,by simp,lY _,h0⟩,?_⟩;rintro i m σ H ⟨rfl,hi,p⟩;obtain⟨ha,hb⟩:=hl i σ H hi p
 by_cases hlt:i<min xs.length ys.length
 ·have hx:i<xs.length:=by omega
  have hy:i<ys.length:=by omega
  refine .inr ⟨⟨xs,ys,xs[i],ys[i],ha,hb,by simp[hx],by simp[hy]⟩,Pv (i+1),λ σ' H' p'=>⟨min xs.length ys.length - (i+1),by omega,rfl,hlt,p'⟩,λ x H' y=>?_⟩;obtain⟨T,u,v,hT,ex,eH,e1,e2⟩:=y;subst ex eH;exact hs i u v T σ H (e1 xs ha) (e2 ys hb) p hT
 ·have e:i=min xs.length ys.length:=by omega
  subst e;exact .inl ⟨⟨xs,ys,ha,hb,by omega⟩,hd σ H p⟩
theorem zNR {k:Key}{u:Value}(h:keyIs k u=true):RelV (kV k) u:=by
 rcases zAo h with ⟨i,t,rfl,rfl⟩|⟨x,t,rfl,rfl⟩
 ·exact⟨t,rfl⟩
 ·exact⟨t,rfl⟩
theorem zLn {kvs:List (Key × V)}{vs:List (Key × Value)}{i:Nat}{p:Key × V}(h:KV kvs vs):kvs[i]?=some p->∃v,vs[i]?=some (p.1,v):=by
 induction h generalizing i with
 |nil=>exact λ e=>nomatch e
 | @cons a b _ _ r t ih=>cases i with
  |zero=>intro e;have e':a=p:=by simpa using e
         subst e';exact⟨b.2,by rw[r.1];rfl⟩
  |succ i=>exact λ e=>ih (i:=i) (by simpa using e)
noncomputable def Itd (o:Obj) (a:Addr) (kvs:List (Key × V)):It :=
 ⟨λ i H=>H a=some (.frz o (.dK kvs))/\i<kvs.length,λ i H x H'=>H'=H/\∃p,kvs[i]?=some p/\x=kV p.1,λ i H=>H a=some (.frz o (.dK kvs))/\kvs.length<=i⟩
theorem zLt {X:Cx}{jP:List (Addr × Obj)}{σ:L2.St}{H:Hp}{s:Shared}{a:Addr}{o:Obj}{kvs:List (Key × V)}{es:Array DictEntry}{ep:Nat}(I:Inv X jP σ H s) (ha:H a=some (.frz o (.dK kvs))) (hd:o.data = .dict es ep) :
  ∃vs,KV kvs vs/\kvs.length=vs.length/\s.heap.DictAt (zAd X.prog X.w) a vs ep:=by
 obtain⟨e,z,sy,vs,r,o',es',ep',h1,c1,d1,rest⟩:=(show ObjOk X.prog X.w H s.heap a (.frz o (.dK kvs)) from I.hok a _ ha);rw[e] at h1;cases h1;rw[hd] at d1;cases d1;exact⟨vs,r,Paired.length r,o,es,e,c1,hd,rest⟩
theorem zEF {P:Program}{w:World}{K:W.Frag}{tg:Expr}(a it:Addr) (o:Obj) (kvs:List (Key × V)):Turn P w K tg (Itd o a kvs) [it] it (λ i h=>∃es ep,o.data = .dict es ep/\h.IsKeyIter it a i kvs.length ep) where
 mem:=by simp
 obj:=λ i h st b hb=>by
  have e:b=it:=by simpa using hb
  subst e;obtain⟨_,_,_,ob,e,c,d⟩:=st;exact⟨ob,e,λ v z=>by rw[d] at z;cases z⟩
 keep:=λ i h h' st k=>by
  obtain⟨es,ep,hd,ob,e,r⟩:=st;exact⟨es,ep,hd,ob,k it (by simp) ob e,r⟩
 item:=by
  intro X hP hw hK hc i jP s σ H E I hf st hg;subst hP hw hK;obtain⟨ha,hi⟩:=hg;obtain⟨es,ep,hd,hit⟩:=st;obtain⟨vs,r,hl,hm⟩:=zLt I ha hd;obtain⟨v,hv⟩:=zLn r (lW hi);obtain⟨f0,f1,f2,f3,f4,f5⟩:=hf it (by simp);rw[hl] at hit;refine wpAny_pyNext_dict_item hit hm hv λ key h' hk hit' sb=>?_;have I1:Inv X jP σ H { s with heap:=h' }:=I.turned (t':=s.toks) (λ b o hb e=>(sb.2 b hb).trans e) f0 f1 f3 f4 f5;obtain⟨ob,e,c,d⟩:=id hit';rw[←hl] at hit';exact⟨key,rfl,go_of (s:={ s with heap:=h' }) e c d (by decide) ⟨_,H,I1,zNR hk,⟨rfl,_,lW hi,rfl⟩,⟨es,ep,hd,hit'⟩,λ b hb=>(hf b hb).1⟩⟩
 done:=by
  intro X hP hw hK hc i jP s σ H E I hf st hg;subst hP hw hK;obtain⟨ha,hi⟩:=hg;obtain⟨es,ep,hd,hit⟩:=st;obtain⟨vs,r,hl,hm⟩:=zLt I ha hd;obtain⟨f0,f1,f2,f3,f4,f5⟩:=hf it (by simp);rw[hl] at hit;exact wpAny_pyNext_dict_end (I.ok.hd hc) hit hm (List.getElem?_eq_none (by omega)) λ h' eb=>⟨rfl,I.turned (t':=s.toks) (λ b o hb e=>eb b o hb e) f0 f1 f3 f4 f5⟩
 self:=λ A i s Q E st h=>by
  obtain⟨es,ep,hd,hit⟩:=st;refine wpAny_pyIter_slot hit.typeIs F.slot_dict_keyiterator_iter (wpAny_call_entry F.slot_dict_keyiterator_iter hit.typeIs F.entry_dict_keyiterator_iter ?_ (F.args_dict_keyiterator_iter_1 _));show wpAny _ _ (ret (.ref it)) _ _ s;exact lB ⟨_,rfl, "dict_keyiterator", _,hit.typeIs,F.slot_dict_keyiterator_next.lookup,h⟩
def iDict (tl:TE):TI:=λ σ H R=>tl σ H λ x H1=>∃a kvs,x = .ref a/\((∃o,H1 a=some (.frz o (.dK kvs))/\R (Itd o a kvs) H1)\/(H1 a=some (.dK kvs)/\∀o,R (Itd o a kvs) (upd H1 a (.frz o (.dK kvs)))))
theorem zI0 {X:Cx}{tg l:Expr}{tl:TE}(hl:PE X l tl):PI X tg l (iDict tl):=by
 intro jP s σ H R I h;refine thn (hl jP s σ H _ I h) λ v s1 ⟨x,H1,I1,r1,q1⟩=>?_;obtain⟨a,kvs,e,q⟩:=q1;subst e;cases r1;rcases q with ⟨o,ha,q⟩|⟨ha,q⟩
 ·obtain⟨e,z,sy,vs,r,o',es',ep',h1,c1,d1,rest⟩:=(show ObjOk X.prog X.w H1 s1.heap a (.frz o (.dK kvs)) from I1.hok a _ ha)
  rw[e] at h1;cases h1;refine wpAny_pyIter_dict (knd:=zAd X.prog X.w) (kvs:=vs) (ep:=ep') sy ⟨o,es',e,c1,d1,rest⟩ ?_;refine⟨s1.heap.objs.size,[s1.heap.objs.size],_,_,H1,rfl,I1.kept (t':=s1.toks) λ b o e=>lG _ e,zEF a _ o kvs,⟨es',ep',d1,_,lH _ rfl,rfl,by rw[Paired.length r];rfl⟩,λ b hb=>?_,q⟩;have e:b=s1.heap.objs.size:=by simpa using hb
  subst e;exact I1.fpOk (lQ _) (I1.hok.fresh (lQ _))
 ·obtain⟨z,sy,vs,r,o,es',ep',e,c1,d1,rest⟩:=(show ObjOk X.prog X.w H1 s1.heap a (.dK kvs) from I1.hok a _ ha)
  refine wpAny_pyIter_dict (knd:=zAd X.prog X.w) (kvs:=vs) (ep:=ep') sy ⟨o,es',e,c1,d1,rest⟩ ?_;have lt:=lI e;refine⟨s1.heap.objs.size,[s1.heap.objs.size],_,_,upd H1 a (.frz o (.dK kvs)),rfl,I1.write (t':=s1.toks) (x:=a) (e:=a) (by rw[ha];exact True.intro) (.inl rfl) (λ b o Ω e=>lG _ e) ⟨o,lG _ e⟩ ?_,zEF a _ o kvs,⟨es',ep',d1,_,lH _ rfl,rfl,by rw[Paired.length r];rfl⟩,λ b hb=>?_,q o⟩
  ·exact⟨lG _ e,z,sy,vs,r,o,es',ep',lG _ e,c1,d1,rest⟩
  ·have e:b=s1.heap.objs.size:=by simpa using hb
   subst e;exact I1.fpOk (lQ _) (by rw[zAR (Nat.ne_of_gt lt)];exact I1.hok.fresh (lQ _))
theorem zBq {K:W.Frag}{a:Addr}{xs:List V}{acc:Addr}{g:TG}{tt:TT}{te:TE}{σ:L2.St}{H:Hp}{R:Hp->Prop}(Pv:Nat->Hp->Prop) (h0:Pv 0 (upd H acc (.lst []))) (hl:∀i H,i<=xs.length->Pv i H->SqT K H a xs)
  (hs:∀i x H,xs[i]?=some x->Pv i H->g x σ H λ σ2 H4=>Ext σ σ2/\tt σ2 H4 λ b H5 =>
   if b=true then te σ2 H5 λ y H6=>∃zs,H6 acc=some (.lst zs)/\zs.length<sizeLine/\Pv (i+1) (upd H6 acc (.lst (zs++[y]))) else Pv (i+1) H5) (hd:∀H,Pv xs.length H->R H) :
  ∃W:Nat->Nat->Hp->Prop,(∃m,W 0 m (upd H acc (.lst [])))/\∀i m H2,W i m H2 ->
   ((Itt K a).stop i H2/\R H2)\/((Itt K a).go i H2/\∃N:Hp->Prop,(∀H',N H'->∃m',m'<m/\W (i+1) m' H')/\∀x H3,(Itt K a).yld i H2 x H3->g x σ H3 λ σ2 H4=>Ext σ σ2/\tt σ2 H4 λ b H5 =>
    if b=true then te σ2 H5 λ y H6=>∃zs,H6 acc=some (.lst zs)/\zs.length<sizeLine/\N (upd H6 acc (.lst (zs++[y])))
    else N H5):=by
 refine⟨λ i m H=>m=xs.length - i/\i<=xs.length/\Pv i H,⟨xs.length,by simp,lY _,h0⟩,?_⟩;rintro i m H2 ⟨rfl,hi,p⟩;have q:=hl i H2 hi p
 by_cases hlt:i<xs.length
 ·refine .inr ⟨⟨xs,xs[i],q,by simp[hlt]⟩,Pv (i+1),λ H' p'=>⟨xs.length - (i+1),by omega,rfl,hlt,p'⟩,λ x H' y=>?_⟩
  obtain⟨e,y⟩:=y;subst e;exact hs i x _ (y xs q) p
 ·have e:i=xs.length:=by omega
  subst e;exact .inl ⟨⟨xs,q,lQ _⟩,hd H2 p⟩
theorem zHg {α:Type}:∀{l:List α},l.Nodup->∀{i j:Nat}{a:α},l[i]?=some a->l[j]?=some a->i=j
 |[],_,i,j,a,h,_=>by simp at h
 |x::l,nd,0,0,a,_,_=>rfl
 |x::l,nd,0,j+1,a,h1,h2=>by
  rw[rC] at nd;have e:x=a:=by simpa using h1
  exact absurd (e▸lM (show l[j]?=some a by simpa using h2)) nd.1
 |x::l,nd,i+1,0,a,h1,h2=>by
  rw[rC] at nd;have e:x=a:=by simpa using h2
  exact absurd (e▸lM (show l[i]?=some a by simpa using h1)) nd.1
 |x::l,nd,i+1,j+1,a,h1,h2=>by
  rw[rC] at nd;rw[zHg nd.2 (i:=i) (j:=j) (a:=a) (by simpa using h1) (by simpa using h2)]
theorem zFZ {X:Cx}{K:W.Frag}{es:List Expr}{k:Nat}{t:TGs}{n:Nat}{pos:Pos}(hK:X.K=K) (hc:X.calm=true) (h:PGs X es t)
  (hn:(assignEach es X.env).length=n:=by rfl) (hst:(assignEach es X.env).findIdx? (·.1)=none:=by rfl):PG X (.Tuple es k pos) (gTup K n t):=hK▸zCh hc h hn hst
section
variable {X:Cx}
theorem zDp:∀{bs:List Bool}{us:List Value},Vals (bs.map V.bl) us->LSm.BoolsAre us bs
 |[],_,h=>by cases h;exact .nil
 |b::bs,_,h=>by
  cases h with
  |cons r t =>
   cases r;exact .cons b (zDp t)
theorem zEu (hc:X.calm=true):CallR X (.builtin "all") (λ xs H Q=>∃(l:Addr) (bs:List Bool),xs=[.ref l]/\H l=some (.lst (bs.map V.bl))/\Q (.bl (bs.all id)) H):=by
 intro jP s σ H xs us Q I r h;obtain⟨l,bs,rfl,hl,q⟩:=h;obtain⟨u,rfl,ru⟩:=vals1 r;cases ru;obtain⟨_,its,n,rv,le,e⟩:=I.lstM hl;have L1:s.heap.IsList l its.toArray:=⟨_,e,rfl,_,rfl⟩;have hb:=zDp rv;have hlt:l<s.heap.objs.size:=lI e;refine call_all_walk (wpAny_pyIter_list L1 ?_)
 refine⟨s.heap.objs.size,[s.heap.objs.size,l],[s.heap.objs.size],its.toArray.size,_,_,λ i=>(bs[i]?).getD true,rfl,Walks.list (A:=X.A.in1) (I.ok.hd hc) _ l (lS hlt) its.toArray,
  ⟨⟨_,lH _ rfl,rfl,rfl⟩,L1.push _⟩,λ i v s' Q' E' hP hQ=>?_,λ h' tk hk=>?_⟩
 ·obtain⟨b,e,rfl⟩:=hb.get i v (by simpa using hP)
  simp only[e,Option.getD_some] at hQ;exact wpAny_truthy_bool hQ
 ·have e:((List.range its.toArray.size).all λ i=>(bs[i]?).getD true)=bs.all id:=by
   rw[mH,hb.length];exact LSm.range_all bs
  rw[e];exact⟨.bl (bs.all id),H,I.kept (LSm.kept_iter hk),rfl,q⟩
theorem zNh (hu:X.A.units+1<cLine):OpR X (compareOp .In) (λ x y H Q=>∃(a:Addr) (o:Option V),y = .ref a/\DGet H a x o/\Q (.bl o.isSome) H):=by
 intro jP s σ H x y v u Q I rx ry h;obtain⟨a,o,rfl,g,q⟩:=h;cases ry;exact d_in hu I g rx λ s' I'=>⟨.bl o.isSome,H,I',rfl,q⟩
theorem zFb (hu:X.A.units<cLine):OpR X (compareOp .Eq) (λ x y H Q=>∃(a b:Addr) (xs:List V),x = .ref a/\y = .ref b/\H a=some (.lst xs)/\H b=some (.lst [])/\Q (.bl (xs.length == 0)) H):=by
 intro jP s σ H x y v u Q I rx ry h;obtain⟨a,b,xs,rfl,rfl,ha,hb,q⟩:=h;cases rx;cases ry;obtain⟨_,its,n,r1,l1,e1⟩:=I.lstM ha;obtain⟨_,its2,n2,r2,l2,e2⟩:=I.lstM hb;have L1:s.heap.IsList a its.toArray:=⟨_,e1,rfl,_,rfl⟩;have L2:s.heap.IsList b its2.toArray:=⟨_,e2,rfl,_,rfl⟩;have z2:its2.toArray.size=0:=by rw[mH];exact l2.symm
 by_cases hl:xs.length=0
 ·refine SeqAt.eq_listAt (e:=λ Ω=>true) L1 L2 (by rw[z2,mH];omega) hu (λ j Ω h2=>absurd h2 (by omega)) ?_
  have e:(List.range its.toArray.size).all (λ Ω=>true)=(xs.length == 0):=by rw[hl];simp
  rw[e];exact⟨.bl (xs.length == 0),H,I,rfl,q⟩
 ·refine SeqAt.eq_list_lengthsAt L1 L2 (by rw[z2,mH,bne_iff_ne];omega) hu ⟨.bl false,H,I,rfl,?_⟩
  have e:(xs.length == 0)=false:=by simpa using hl
  rw[e] at q;exact q
theorem zC4 {prog:Program}{w:World}{A:Around}{E:XQ}{s:Shared}{t sl:Addr}{items:Array Value}{vl vu:Value}{lo hi:Option Int}{Q:XQ}(ht:IsTup s.heap t items) (hs:s.heap.IsSliceOf sl vl vu .none) (pl:IsPart vl lo) (pu:IsPart vu hi)
  (hw:HT.sIx items.size 0 lo=0/\HT.sIx items.size items.size hi=items.size) (h:Q (.ref t) s):wpAny (model prog w) A (getItem (.ref t) (.ref sl)) Q E s:=by
 obtain⟨os,hos,hcs,hds⟩:=id hs;have hTs:s.TypeIs (.ref sl) "slice" := ⟨os,hos,hcs⟩;unfold getItem
 try with_reducible refine lE ?_
 first|refine lA (lB ?_)|skip
 refine lA (wpAny_sequenceKey ht.typeIs (by decide) ?_)
 refine lA (wpAny_callSpecial?_slot (name:=Str.ofString "__getitem__") ht.typeIs PyProof.Rows.slot_tuple_getitem
  (wpAny_call_entry PyProof.Rows.slot_tuple_getitem ht.typeIs entry_tuple_getitem ?_ (args_tuple_getitem _ _)))
 show wpAny _ _ (Builtin.Tuple.tupleItemsOf (.ref t) >>= _) _ _ s;refine lA (tupleItemsOf_ ht ?_);refine lA (wpAny_typeOf hTs ?_);rw[if_pos (by decide)];refine lA (HT.sliceApplied_gen hs pl pu ?_)
 have hyes:(((HT.sIx items.size 0 lo:Nat):Int) == 0 && (1:Int) == 1 && (HT.sIx items.size items.size hi - HT.sIx items.size 0 lo) == items.size)=true:=by
  rw[hw.1,hw.2];simp
 show wpAny _ _ (if (((HT.sIx items.size 0 lo:Nat):Int) == 0 && (1:Int) == 1 && (HT.sIx items.size items.size hi - HT.sIx items.size 0 lo) == items.size)=true then _ else _) _ _ s;rw[if_pos hyes];refine lA ?_;unfold Builtin.Tuple.tupleIsExact;refine lA (wpAny_typeOf ht.typeIs (lB ?_));rw[if_pos (by decide)]
 first
  |exact lA (wpAny_rule (lA (lB (lB ⟨_,rfl,lB h⟩))))
  |exact lA (wpAny_rule (lB ⟨_,rfl,lB h⟩))
  |exact lA (wpAny_rule (lA (lB ⟨_,rfl,lB h⟩)))
def rSlW:V->Option Int->Option Int->Hp->VK->Prop:=λ x lo hi H Q=>∃a xs,x = .ref a/\H a=some (.tup xs)/\∀p H',Same H H'->H' p=some (.tup (cutV xs lo hi))->Q (.ref p) H'
theorem zGl:SlR X rSlW:=by
 intro jP s σ H x v vl vu lo hi sl Q I rx hs pl pu h;obtain⟨a,xs,rfl,ha,q⟩:=h
 by_cases hw:HT.sIx xs.length 0 lo=0/\HT.sIx xs.length xs.length hi=xs.length
 ·cases rx
  obtain⟨its,r,ht,hz⟩:=I.tuple (SqT.of ha);have hlen:its.toArray.size=xs.length:=by rw[mH];exact r.length.symm
  refine⟨"tuple", _,PyProof.Rows.slot_tuple_getitem.lookup,ht.typeIs,?_⟩;refine zC4 ht hs pl pu (by rw[hlen];exact hw) ⟨.ref a,H,I,rfl,q a H (.refl H) ?_⟩;rw[ha];unfold cutV;rw[hw.1,hw.2];simp
 ·exact zLe jP s σ H (.ref a) v vl vu lo hi sl Q I rx hs pl pu ⟨a,xs,rfl,SqT.of ha,hw,λ p hp=>q p _ (zAC hp) zAA⟩
end
structure Sd (p:Prop):Prop where
 un:p
section
variable {X:Cx}{st:Stmt}{rest:List Stmt}{t u:TS}{e a b:Expr}{es:List Expr}{te ta tb:TE}{tA:TA}{pos:Pos}
theorem zAX (h1:Sd (PS X st t)) (h2:Sd (PSs X rest u)):Sd (PSs X (st::rest) (tSeq t u)):=⟨zAE h1.un h2.un⟩
theorem zAj (h1:Sd (PS X st t)):Sd (PSs X [st] t):=⟨zAF h1.un⟩
theorem zBl {c:Expr}{x y:List Stmt}{tc:TT}(hc:Sd (PT X c tc)) (ha:Sd (PSs X x t)) (hb:Sd (PSs X y u)):Sd (PS X (.If c x y pos) (tIfS tc t u)):=⟨ps_if hc.un ha.un hb.un⟩
theorem zA3 (he:Sd (PE X e te)):Sd (PS X (.Return (some e) pos) (tRet te)):=⟨zAU he.un⟩
theorem zMI {i:Nat}{x:Str}{pos':Pos}(hN:X.N.Nodup) (hi:X.N[i]?=some x) (hx:Loc X.env.scope x) (he:Sd (PE X e te)) (hs:swapsWith e (some (.Name x pos')) pos.line X.env=pure false:=by rfl) (hf:X.fn x=true\/X.env.scope.names.lookup x=some .local:=by first|exact .inl rfl|exact .inr rfl|assumption) :
  Sd (PS X (.Assign [.Name x pos'] e pos) (tAsg te (gName i))):=⟨zGC hN hi hx he.un hs hf⟩
theorem pSS {i:Nat}{x:Str}{pos':Pos}(hN:X.N.Nodup)(he:Sd (PE X e te))(hi:X.N[i]?=some x:=by rfl)(hx:Loc X.env.scope x:=by exact Or.inl rfl)(hs:swapsWith e (some (.Name x pos')) pos.line X.env=pure false:=by rfl)(hf:X.fn x=true\/X.env.scope.names.lookup x=some .local:=by first|exact .inl rfl|exact .inr rfl|assumption):Sd (PS X (.Assign [.Name x pos'] e pos) (tAsg te (gName i))):=zMI hN hi hx he hs hf
theorem zA8 {k:Nat}(h:Sd (PA X es tA)):Sd (PE X (.Tuple es k pos) (tTup tA)):=⟨zBQ h.un⟩
theorem zDb (h:Sd (PA X es tA)):Sd (PE X (.List es pos) (tLst tA)):=⟨zAs h.un⟩
theorem zAP (ha:Sd (PE X e te)) (hr:Sd (PA X es tA)) (hs:starEach (e::es) X.env=(false,eval e X.env)::starEach es X.env:=by rfl):Sd (PA X (e::es) (tCons te tA)):=⟨zAB ha.un hr.un hs⟩
theorem zDv {r:R2}(hr:IxR X r) (ha:Sd (PE X a ta)) (hb:Sd (PE X b tb)) (hs:zKC b):Sd (PE X (.Subscript a b pos) (tOp r ta tb)):=⟨pe_ix hr ha.un hb.un hs⟩
end
section
variable {X:Cx}
theorem zH8 (bs:List Bool):((List.range bs.length).any λ i=>(bs[i]?).getD false)=bs.any id:=by
 rw[Bool.eq_iff_iff,List.any_eq_true,List.any_eq_true];constructor
 ·rintro⟨i,hi,h⟩
  have hl:=List.mem_range.mp hi;rw[nM hl] at h;exact⟨bs[i],List.getElem_mem hl,h⟩
 ·rintro⟨b,hb,h⟩
  obtain⟨i,hl,e⟩:=List.getElem_of_mem hb;exact⟨i,List.mem_range.mpr hl,by rw[nM hl,e];exact h⟩
theorem zBr (hc:X.calm=true):CallR X (.builtin "any") (λ xs H Q=>∃(l:Addr) (bs:List Bool),xs=[.ref l]/\H l=some (.lst (bs.map V.bl))/\Q (.bl (bs.any id)) H):=by
 intro jP s σ H xs us Q I r h;obtain⟨l,bs,rfl,hl,q⟩:=h;obtain⟨u,rfl,ru⟩:=vals1 r;cases ru;obtain⟨_,its,n,rv,le,e⟩:=I.lstM hl;have L1:s.heap.IsList l its.toArray:=⟨_,e,rfl,_,rfl⟩;have hb:=zDp rv;have hlt:l<s.heap.objs.size:=lI e;refine call_any_walk (wpAny_pyIter_list L1 ?_)
 refine⟨s.heap.objs.size,[s.heap.objs.size,l],[s.heap.objs.size],its.toArray.size,_,_,λ i=>(bs[i]?).getD false,rfl,Walks.list (A:=X.A.in1) (I.ok.hd hc) _ l (lS hlt) its.toArray,
  ⟨⟨_,lH _ rfl,rfl,rfl⟩,L1.push _⟩,λ i v s' Q' E' hP hQ=>?_,λ h' tk hk=>?_⟩
 ·obtain⟨b,e,rfl⟩:=hb.get i v (by simpa using hP)
  simp only[e,Option.getD_some] at hQ;exact wpAny_truthy_bool hQ
 ·have e:((List.range its.toArray.size).any λ i=>(bs[i]?).getD false)=bs.any id:=by
   rw[mH,hb.length];exact zH8 bs
  rw[e];exact⟨.bl (bs.any id),H,I.kept (LSm.kept_iter hk),rfl,q⟩
end
section
variable {X:Cx}
open Classical in
noncomputable def eqW (H:Hp) (dx:Dt) (w:Value):Bool:=decide (∃x d,RelV x w/\DR H d x/\Dt.beq d dx=true)
end
end L2
namespace PySem
open Sem (wp)
namespace F
theorem dul_entry:entryFor table "dict.update.loop" = some Builtin.«dict.update.loop»:=entryFor_of_tree (by kernel_rfl)
theorem dul_plain:plainId "dict.update.loop" = true:=by symm
theorem tuple_no_keys:typeLookup (.type "tuple") "keys" = pure none:=am_miss_of_fast (by symm)
end F
theorem zDL {prog:Program}{w:World}{A:Around}{E:XQ}{s:Shared}{a:Addr}{o:Obj}{xs:Array Value}{k:Nat}{name:Str}{Q:Option Value->Shared->Prop}
  (hx:s.heap.get? a=some o) (hc:o.cls = .type "tuple") (hdat:o.data = .seq xs k) (hd:o.dict=none) (hmiss:typeLookup (.type "tuple") name=pure none)
  (hname:(["__module__", "__name__", "__qualname__", "__doc__", "__annotations__"]:List Str).contains name=false) (hA:A.handled=none) (hsz:name.length+100<=sizeLine)
  (h:∀h' tk,(∀b ob,s.heap.get? b=some ob->h'.get? b=some ob)->Q none { s with heap:=h',toks:=tk }):wpAny (model prog w) A (getAttr? (.ref a) name) Q E s:=by
 obtain⟨c,dct,dat,sl⟩:=o;simp only at hc hdat hd;subst hc hdat hd;obtain⟨hp,g,d,tk,os⟩:=s;have hT:∀tk',(⟨hp,g,d,tk',os⟩:Shared).TypeIs (.ref a) "tuple" := λ Ω=>⟨_,hx,rfl⟩;have f1:=sub_AttributeError;have f3:=F.slot_tuple_getattribute.lookup;have f4:=F.slot_tuple_getattribute.bind (.ref a);have f5:=am_tuple_getattr_none;unfold getAttr? getAttrBy? getAttrBy
 repeat (any_goals (first|assumption|exact hT _|((with_reducible show wpAny _ _ (call (Value.builtin "tuple.__getattribute__") _ _) _ _ _);refine call_meets F.slot_tuple_getattribute (hT _) am_entry_tuple_getattribute (F.args_tuple_getattribute_2 _ _) (meets_getattribute_miss_tuple a xs k sl name _ hmiss hname hsz) ⟨hx,hA,λ h' tk' e hx'=>?_⟩)|wp_step))
 obtain⟨t',u',he⟩:=hx'.there;show wpAny _ _ (getattributeRaised _ _ _ _ _ _ _) _ _ _;unfold getattributeRaised
 repeat (any_goals (first|assumption|wp_step))
 all_goals first
  |exact h _ _ hx'.keeps
  |skip
section
variable {prog:Program}{w:World}{K:Type} [DecidableEq K] {knd:KeyKind prog w K}{A:Around}{R:Result->Shared->Prop}{E:XQ}
def zHC (knd:KeyKind prog w K) (h:Heap) (its:List Value) (prs:List (K × Value)):Prop :=
 its.length=prs.length/\∀(i:Nat) (x:Value),its[i]?=some x->∃(pa:Addr) (key:Value) (kv:K × Value),x=Value.ref pa/\prs[i]?=some kv/\h.IsTuple pa #[key,kv.2]/\knd.is kv.1 key=true
theorem Heap.IsTuple.kept {h h':Heap}{a:Addr}{xs:Array Value}(x:h.IsTuple a xs) (k:∀b o,h.get? b=some o->h'.get? b=some o):h'.IsTuple a xs :=
 let ⟨o,ho,r⟩:=x;⟨o,k a o ho,r⟩
theorem zLK {h0:Heap}{d it t:Addr}{items:Array Value}{prs:List (K × Value)}(hA:A.handled=none) (hld:h0.objs.size<=d) (hli:h0.objs.size<=it) (hne:d≠it)
  (ht:h0.IsTuple t items) (hp:zHC knd h0 items.toList prs) (hsz:prs.length<=sizeLine) :
  ∀(n i:Nat) (s:Shared),items.size - i=n->i<=items.size->(∀b o,h0.get? b=some o->s.heap.get? b=some o)->s.heap.IsTupleIter it t i->s.heap.DictOf knd d (merged [] (prs.take i)) ->
   (∀h' tk,(∀b o,h0.get? b=some o->h'.get? b=some o)->h'.DictOf knd d (merged [] prs)->R (.ok (.ret .none)) { s with heap:=h',toks:=tk }) ->
   codeAny (model prog w) A (.builtin "dict.update.loop" ⟨[.ref d,.ref it,.int (i:Int) 0,.none],[]⟩) R s:=by
 have hlen:items.size=prs.length:=by rw[←hp.1];simp
 intro n
 induction n with
 |zero =>
  intro i s hn hi kp hit hd hR;have e:i=items.size:=by omega
  subst e;refine codeAny_builtin F.dul_entry ?_;rw[Around.under_plainId F.dul_plain _];refine lA (wpAny_pyNext_tuple_end (show A.in1.handled=none from hA) hit (ht.kept kp) (by simp) λ h' he=>?_);show wpAny _ _ (Builtin.Dict.addKeywords d [] >>= _) _ _ _;refine lA (lB (lB (hR h' s.toks (λ b o hb=>he b o (lS (lZ (lI hb) hli)) (kp b o hb)) ?_)));rw[hlen,mO] at hd;obtain⟨o,es,ep,ho,rest⟩:=hd;exact⟨o,es,ep,he d o hne ho,rest⟩
 |succ n ih =>
  intro i s hn hi kp hit hd hR;have hlt:i<items.size:=by omega
  obtain⟨pa,key,kv,ex,ekv,htp,hkey⟩:=hp.2 i items[i] (by simp[hlt]);refine codeAny_builtin F.dul_entry ?_;rw[Around.under_plainId F.dul_plain _];refine lA (wpAny_pyNext_tuple_item hit (ht.kept kp) (x:=items[i]) (by simp[hlt]) λ h1 hit1 hs1=>?_);have kp1:∀b o,h0.get? b=some o->h1.get? b=some o:=λ b o hb=>hs1.extBut b o (lS (lZ (lI hb) hli)) (kp b o hb);rw[ex];have htp1:=htp.kept kp1;refine lA (lE (lA (wpAny_tryCatch ?_)));unfold Builtin.Dict.pairItems;refine lA (wpAny_typeOf (s:={ s with heap:=h1 }) (v:=.ref pa) (T := "tuple") htp1.typeIs ?_);rw[if_pos (by decide)];obtain⟨o2,ho2,hc2,n2,hd2⟩:=htp1;refine lA (wpAny_seqItems ho2 hd2 (lB ?_))
  have hd1:h1.DictOf knd d (merged [] (prs.take i)):=by
   obtain⟨o,es,ep,ho,rest⟩:=hd;exact⟨o,es,ep,hs1.extBut d o hne ho,rest⟩
  have hml:(merged [] (prs.take i)).length<=sizeLine:=by
   have e1:=merged_length_le ([]:List (K × Value)) (prs.take i);rw[List.length_nil,mN] at e1;omega
  show wpAny _ _ (holding [key,kv.2] (dictSet d key kv.2)) _ _ _;refine lE (wpAny_dictSet_pairs (hsz:=hml) hkey hd1 λ h2 hd2 hs2=>?_);refine lB ⟨plainId_quiet F.dul_plain _,?_⟩;refine ih (i+1) _ (by omega) hlt (λ b o hb=>hs2.extBut b o (lS (lZ (lI hb) hld)) (kp1 b o hb)) (hit1.extBut hs2.extBut (Ne.symm hne)) ?_ λ h' tk k' d'=>hR h' tk k' d';rw[merged_take_succ [] prs i kv ekv];exact hd2
theorem zEt {s:Shared}{t:Addr}{o:Obj}{items:Array Value}{n:Nat}{prs:List (K × Value)}{Q:XQ}(hA:A.handled=none) (hx:s.heap.get? t=some o) (hc:o.cls = .type "tuple") (hdat:o.data = .seq items n) (hdn:o.dict=none)
  (hp:zHC knd s.heap items.toList prs) (hsz:prs.length<=sizeLine)
  (h:∀h' tk,(∀b o,s.heap.get? b=some o->h'.get? b=some o)->h'.DictOf knd s.heap.objs.size (merged [] prs)->Q (.ref s.heap.objs.size) { s with heap:=h',toks:=tk }) :
  wpAny (model prog w) A (call (.type "dict") [.ref t]) Q E s:=by
 refine callType_codes (Q₁:=λ obj s₁=>obj = .ref s.heap.objs.size/\s₁={ s with heap:=s.heap.push { cls:=.type "dict", data:=.dict #[] } }) F.kt_called_dict (F.kt_typeCall_dict_1 _) F.entry_dict_init (kt_code_dict_new _ ⟨rfl,rfl⟩) ?_;rintro obj s₁ ⟨rfl,rfl⟩;have hnew:(s.heap.push { cls:=.type "dict", data:=.dict #[] }).DictOf knd s.heap.objs.size []:=Heap.DictOf.new s.heap;have kp0:∀b o,s.heap.get? b=some o->(s.heap.push { cls:=.type "dict", data:=.dict #[] }).get? b=some o:=λ b o hb=>lG _ hb;have ht0:s.heap.IsTuple t items:=⟨o,hx,hc,n,hdat⟩;refine⟨hnew.typeIs,F.args_dict_init_2 _ _,?_⟩;unfold Builtin.«dict.__init__»;refine lA ?_;unfold Builtin.Dict.selfAndRest;refine lA (wpAny_notOrdered_dict hnew.typeIs ?_);show wpAny _ _ (pure (s.heap.objs.size,[Value.ref t])) _ _ _;refine lB ?_;show wpAny _ _ (Builtin.Dict.updateFrom "dict.__init__" s.heap.objs.size (.ref t) [] .none) _ _ _;unfold Builtin.Dict.updateFrom;refine lA (wpAny_typeOf (v:=.ref t) (T := "tuple") (ht0.kept kp0).typeIs ?_);rw[if_pos (by decide)];refine lA (zDL (kp0 _ _ hx) hc hdat hdn F.tuple_no_keys (by symm) hA (by size_fits) λ h1 tk kp1=>?_);rw[if_pos (show (Option.none:Option Value).isNone=true from rfl)];have kp01:∀b o,s.heap.get? b=some o->h1.get? b=some o:=λ b o hb=>kp1 b o (kp0 b o hb);refine lA (wpAny_rule ?_);refine lA (wpAny_pyIter_tuple (ht0.kept kp01) ?_)
 have hd1:h1.DictOf knd s.heap.objs.size []:=by
  obtain⟨o,es,ep,ho,rest⟩:=hnew;exact⟨o,es,ep,kp1 _ _ ho,rest⟩
 have hsd:s.heap.objs.size<h1.objs.size:=let ⟨_,_,_,ho,_⟩:=hd1;lI ho;refine lB ⟨plainId_quiet F.dul_plain _,?_⟩;refine zLK (h0:=s.heap) (knd:=knd) (A:=A.in1) hA (lQ _) (Nat.le_of_lt hsd) (lS hsd) ht0 hp hsz items.size 0 _ (by omega) (lY _) (λ b o hb=>lG _ (kp01 b o hb)) ⟨_,lH _ rfl,rfl,rfl⟩ (hd1.push _) λ h' tk' k' d'=>?_;exact⟨rfl,h h' tk' k' d'⟩
end
end PySem
namespace L2
open PySem PySem.Spec PyProof.Rows
section
variable {X:Cx}
theorem zMU (hu:X.A.units<cLine):OpR X (compareOp .NotEq) (λ x y H Q=>∃(a b:Addr) (xs:List V),x = .ref a/\y = .ref b/\H a=some (.lst xs)/\H b=some (.lst [])/\Q (.bl (!(xs.length == 0))) H):=by
 intro jP s σ H x y v u Q I rx ry h;obtain⟨a,b,xs,rfl,rfl,ha,hb,q⟩:=h;cases rx;cases ry;obtain⟨_,its,n,r1,l1,e1⟩:=I.lstM ha;obtain⟨_,its2,n2,r2,l2,e2⟩:=I.lstM hb;have L1:s.heap.IsList a its.toArray:=⟨_,e1,rfl,_,rfl⟩;have L2:s.heap.IsList b its2.toArray:=⟨_,e2,rfl,_,rfl⟩;have z2:its2.toArray.size=0:=by rw[mH];exact l2.symm
 by_cases hl:xs.length=0
 ·have e0:its.toArray.size=0:=by rw[mH];omega
  refine SeqAt.RcNeAt.lists (e:=λ Ω=>true) L1 L2 (by omega) hu (λ j Ω h2=>absurd h2 (by omega)) _ _ _ _ ?_;rw[e0];rw[hl] at q;exact⟨.bl false,H,I,rfl,q⟩
 ·have e:(xs.length == 0)=false:=by simpa using hl
  rw[e] at q;exact SeqAt.RcNeAt.lists_lengths L1 L2 (by rw[z2,mH,bne_iff_ne];omega) hu _ _ _ _ ⟨.bl true,H,I,rfl,q⟩
theorem zHA:CallR X (.type "tuple") (λ xs H Q=>∃p ys,xs=[.ref p]/\SqL X.K H p ys/\∀(l:Addr) (o:Obj),H l=none->o.dict=none->Q (.ref l) (upd H l (.frz o (.tup ys)))):=by
 intro jP s σ H xs us Q I r h;obtain⟨p,ys,rfl,hq,q⟩:=h;obtain⟨u,rfl,rx⟩:=vals1 r;cases rx;obtain⟨its,r',pl,hz⟩:=I.list hq;have hlen:=r'.length;refine call_tuple_list pl.isList (λ h' kp=>?_) (by simp only[mH]<;>omega);have I1:Inv X jP σ H { s with heap:=h' }:=I.kept (t':=s.toks) kp;have I2:=I1.laid (o:=.frz { cls:=.type "tuple", data:=.seq its.toArray } (.tup ys)) (t':=s.toks) (h':=h'.push { cls:=.type "tuple", data:=.seq its.toArray }) (λ b o e=>lG _ e) (lQ h'.objs.size) ⟨lH _ rfl,hz,its,r',IsTup.new _ _⟩;exact⟨.ref h'.objs.size,_,I2,rfl,q _ _ (I1.hok.fresh (lQ _)) rfl⟩
def PrV (H:Hp) (y:V) (kv:Key × V):Prop:=∃b,y = .ref b/\H b=some (.tup [kV kv.1,kv.2])
set_option tactic.hygienic true in
theorem zLh {P:Program}{w:World}{H:Hp}{h:Heap}(ok:HOk P w H h):∀{ys:List V}{kvs:List (Key × V)},Paired (PrV H) ys kvs->∀{its:List Value},Vals ys its->∃prs,zHC (zAd P w) h its prs/\KV kvs prs
 |_,_,.nil,its,r=>by
  cases r;exact⟨[],⟨rfl,λ i x hx=>by simp at hx⟩,.nil⟩
 |_,_,.cons (b:=kv) hy hr,its,r=>by
  cases r with
  |cons r1 r2 =>
   obtain⟨prs,⟨pl,pp⟩,k⟩:=zLh ok hr r2;obtain⟨b,rfl,hb⟩:=hy;cases r1;obtain⟨_,its2,rv,tp⟩:=(show ObjOk P w H h b (.tup [kV kv.1,kv.2]) from ok b _ hb);cases rv with
   |cons q1 rv=>cases rv with
    |cons q2 rv =>
     cases rv;rename_i key val;refine⟨(kv.1,val)::prs,⟨by simp[pl],λ i x hx=>?_⟩,.cons ⟨rfl,q2⟩ k⟩;cases i with
     |zero =>
      simp at hx;exact⟨b,key,(kv.1,val),hx.symm,rfl,tp,kV_is q1⟩
     |succ i =>
      simp at hx;obtain⟨pa,key',kv',h1,h2,h3,h4⟩:=pp i x hx;exact⟨pa,key',kv',h1,by simpa using h2,h3,h4⟩
def zNW:List V->Hp->VK->Prop:=λ xs H Q=>∃(a:Addr) (o:Obj) (ys:List V) (kvs:List (Key × V)),xs=[.ref a]/\H a=some (.frz o (.tup ys))/\o.dict=none/\Paired (PrV H) ys kvs/\kvs.length<=1000/\∀p,H p=none->Q (.ref p) (upd H p (.dK (zBC [] kvs)))
theorem zDo (hc:X.calm=true):CallR X (.type "dict") zNW:=by
 intro jP s σ H xs us Q I r h;obtain⟨a,o,ys,kvs,rfl,ha,hdn,hp,hl,q⟩:=h;obtain⟨u,rfl,ru⟩:=vals1 r;cases ru;obtain⟨hx,hz,its,rv,o',ho',hcl,n,hdat⟩:=(show ObjOk X.prog X.w H s.heap a (.frz o (.tup ys)) from I.hok a _ ha);rw[hx] at ho';cases ho';obtain⟨prs,hpi,k⟩:=zLh I.hok hp rv;have hkl:prs.length<=sizeLine:=by rw[←k.length];exact zAz hl
 have hm:(zBC [] kvs).length<=sizeLine:=by
  have:=zDJ kvs [];rw[List.length_nil] at this;exact zAz (by omega)
 refine zEt (knd:=zAd X.prog X.w) (I.ok.hd hc) hx hcl hdat hdn (by simpa using hpi) hkl λ h' tk kp d'=>?_;have hn:=I.hok.fresh (lQ s.heap.objs.size);refine⟨.ref s.heap.objs.size,_,I.laid (a:=s.heap.objs.size) (o:=.dK (zBC [] kvs)) (t':=tk) kp (lQ _) (zJq hm (beq_eq_false_iff_ne.mpr (Ne.symm (lS I.big))) (k.merge .nil) d'),rfl,q _ hn⟩
end
theorem zDl {o:Obj}{a:Addr}{kvs:List (Key × V)}{acc:Addr}{g:TG}{tt:TT}{te:TE}{σ:L2.St}{H:Hp}{R:Hp->Prop}(Pv:Nat->Hp->Prop) (h0:Pv 0 (upd H acc (.lst []))) (hl:∀i H,i<=kvs.length->Pv i H->H a=some (.frz o (.dK kvs)))
  (hs:∀i p H,kvs[i]?=some p->Pv i H->g (kV p.1) σ H λ σ2 H4=>Ext σ σ2/\tt σ2 H4 λ b H5 =>
   if b=true then te σ2 H5 λ y H6=>∃zs,H6 acc=some (.lst zs)/\zs.length<sizeLine/\Pv (i+1) (upd H6 acc (.lst (zs++[y]))) else Pv (i+1) H5) (hd:∀H,Pv kvs.length H->R H) :
  ∃W:Nat->Nat->Hp->Prop,(∃m,W 0 m (upd H acc (.lst [])))/\∀i m H2,W i m H2 ->
   ((Itd o a kvs).stop i H2/\R H2)\/((Itd o a kvs).go i H2/\∃N:Hp->Prop,(∀H',N H'->∃m',m'<m/\W (i+1) m' H')/\∀x H3,(Itd o a kvs).yld i H2 x H3->g x σ H3 λ σ2 H4=>Ext σ σ2/\tt σ2 H4 λ b H5 =>
    if b=true then te σ2 H5 λ y H6=>∃zs,H6 acc=some (.lst zs)/\zs.length<sizeLine/\N (upd H6 acc (.lst (zs++[y])))
    else N H5):=by
 refine⟨λ i m H=>m=kvs.length - i/\i<=kvs.length/\Pv i H,⟨kvs.length,by simp,lY _,h0⟩,?_⟩;rintro i m H2 ⟨rfl,hi,p⟩;have q:=hl i H2 hi p
 by_cases hlt:i<kvs.length
 ·refine .inr ⟨⟨q,hlt⟩,Pv (i+1),λ H' p'=>⟨kvs.length - (i+1),by omega,rfl,hlt,p'⟩,λ x H' y=>?_⟩
  obtain⟨e,p',hp',ex⟩:=y;subst e ex;exact hs i p' _ hp' p
 ·have e:i=kvs.length:=by omega
  subst e;exact .inl ⟨⟨q,lQ _⟩,hd H2 p⟩
theorem zDN:∀(more kvs:List (Key × V)) (k:Key),valV (zBC kvs more) k=match valV more.reverse k with|some v=>some v|none=>valV kvs k
 |[],kvs,k=>rfl
 |p::more,kvs,k=>by
  show valV (zBC (putK kvs p.1 p.2) more) k=_;rw[zDN more,zD6,List.reverse_cons];unfold valV;rw[List.find?_append];cases e:List.find? (λ kv:Key × V=>decide (kv.1=k)) more.reverse with
  |some z=>simp
  |none =>
   by_cases h:k=p.1
   ·simp[h]
   ·have h':¬p.1=k:=λ z=>h z.symm
    simp[h,h']
open PySem.W
def Ev (r:Nat->Nat->Bool) (n:Nat) {α:Type}:KasT α->(α->Prop)->Prop
 |.ret a,Q=>Q a
 |.ask i j k,Q=>i<n/\j<n/\i≠j/\Ev r n (k (r i j)) Q
theorem Ev.bind {r:Nat->Nat->Bool}{n:Nat}{α β:Type}{f:α->KasT β}{Q:β->Prop}:∀{t:KasT α},Ev r n t (λ a=>Ev r n (f a) Q)->Ev r n (t.bind f) Q
 |.ret _,h=>h
 |.ask i j k,h=>⟨h.1,h.2.1,h.2.2.1,Ev.bind (t:=k (r i j)) h.2.2.2⟩
theorem Ev.mono {r:Nat->Nat->Bool}{n:Nat}{α:Type}{Q R:α->Prop}(hq:∀a,Q a->R a):∀{t:KasT α},Ev r n t Q->Ev r n t R
 |.ret a,h=>hq a h
 |.ask i j k,h=>⟨h.1,h.2.1,h.2.2.1,Ev.mono hq (t:=k (r i j)) h.2.2.2⟩
theorem Ev.wp {r:Nat->Nat->Bool}{n:Nat}{cmp:Nat->Nat->(Bool->Shared->Prop)->Shared->Prop}{St:Shared->Prop}(hc:∀i j C s,i<n->j<n->i≠j->St s->(∀s',St s'->C (r i j) s')->cmp i j C s) {α:Type}{Q:α->Prop}{G:α->Shared->Prop}(hG:∀a s,Q a->St s->G a s) :
  ∀{t:KasT α}{s:Shared},Ev r n t Q->St s->t.kasWp cmp G s
 |.ret a,s,h,hs=>hG a s h hs
 |.ask i j k,s,h,hs=>hc i j _ s h.1 h.2.1 h.2.2.1 hs λ s' hs'=>Ev.wp hc hG (t:=k (r i j)) h.2.2.2 hs'
structure Ord (n:Nat) (r:Nat->Nat->Bool):Prop where
 tot:∀i j,i<n->j<n->i≠j->r i j=false->r j i=true
 asym:∀i j,i<n->j<n->r i j=true->r j i=false
 trans:∀i j k,i<n->j<n->k<n->r i j=true->r j k=true->r i k=true
section
variable {n:Nat}{r:Nat->Nat->Bool}
abbrev lt (r:Nat->Nat->Bool) (p:Array Nat) (i j:Nat):Bool:=r (p.getD i 0) (p.getD j 0)
def PermN (n:Nat) (p:Array Nat):Prop:=p.toList.Perm (List.range n)
theorem PermN.size {p:Array Nat}(h:PermN n p):p.size=n:=by have:=h.length_eq;simpa using this
theorem PermN.lt {p:Array Nat}(h:PermN n p) {i:Nat}(hi:i<n):p.getD i 0<n:=by
 have hs:=h.size;have e:p.getD i 0=p[i]'(by omega):=by simp[Array.getD,hs,hi]
 rw[e];have:p[i]'(by omega)∈p.toList:=by simp
 exact List.mem_range.mp (h.mem_iff.mp this)
theorem PermN.ne {p:Array Nat}(h:PermN n p) {i j:Nat}(hi:i<n) (hj:j<n) (ne:i≠j):p.getD i 0≠p.getD j 0:=by
 have hs:=h.size;have e1:p.getD i 0=p.toList[i]'(by simp;omega):=by simp[Array.getD,hs,hi]
 have e2:p.getD j 0=p.toList[j]'(by simp;omega):=by simp[Array.getD,hs,hj]
 have nd:p.toList.Nodup:=h.nodup_iff.mpr List.nodup_range;rw[e1,e2];intro z;exact ne ((List.getElem_inj nd).mp z)
def Asc (r:Nat->Nat->Bool) (p:Array Nat) (k:Nat):Prop:=∀i j,i<j->j<k->lt r p i j=true
def Dsc (r:Nat->Nat->Bool) (p:Array Nat) (k:Nat):Prop:=∀i j,i<j->j<k->lt r p j i=true
theorem Asc.more (o:Ord n r) {p:Array Nat}(hp:PermN n p) {k:Nat}(h1:1<=k) (hk:k<n) (h:Asc r p k) (hl:lt r p (k - 1) k=true):Asc r p (k+1):=λ i j hij hj=>by
 by_cases e:j=k
 ·subst e
  by_cases e2:i=j - 1
  ·rw[e2];exact hl
  ·exact o.trans _ _ _ (hp.lt (by omega)) (hp.lt (by omega)) (hp.lt hk) (h i (j - 1) (by omega) (by omega)) hl
 ·exact h i j hij (by omega)
theorem Dsc.more (o:Ord n r) {p:Array Nat}(hp:PermN n p) {k:Nat}(h1:1<=k) (hk:k<n) (h:Dsc r p k) (hl:lt r p k (k - 1)=true):Dsc r p (k+1):=λ i j hij hj=>by
 by_cases e:j=k
 ·subst e
  by_cases e2:i=j - 1
  ·rw[e2];exact hl
  ·exact o.trans _ _ _ (hp.lt hk) (hp.lt (by omega)) (hp.lt (by omega)) hl (h i (j - 1) (by omega) (by omega))
 ·exact h i j hij (by omega)
theorem zJk (o:Ord n r) {p:Array Nat}(hp:PermN n p):∀(f k:Nat),1<=k->k+f<=n->Asc r p k->Ev r n (kas_asc p f k) (λ m=>k<=m/\m<=k+f/\Asc r p m/\(m<k+f->lt r p m (m - 1)=true))
 |0,k,h1,hk,h=>⟨lQ _,lQ _,h,λ z=>by omega⟩
 |f+1,k,h1,hk,h=>by
  refine⟨hp.lt (by omega),hp.lt (by omega),hp.ne (by omega) (by omega) (by omega),?_⟩;cases e:r (p.getD k 0) (p.getD (k - 1) 0) with
  |true=>exact⟨lQ _,by omega,h,λ Ω=>e⟩
  |false =>
   have hl:=o.tot _ _ (hp.lt (i:=k) (by omega)) (hp.lt (i:=k - 1) (by omega)) (hp.ne (by omega) (by omega) (by omega)) e;exact Ev.mono (λ m hm=>⟨by omega,by omega,hm.2.2.1,λ z=>hm.2.2.2 (by omega)⟩) (zJk o hp f (k+1) (by omega) (by omega) (h.more o hp h1 (by omega) hl))
theorem zJj (o:Ord n r) {p:Array Nat}(hp:PermN n p):∀(f k:Nat),1<=k->k+f<=n->Dsc r p k->Ev r n (kas_desc f p k 0) (λ z=>z.1=p/\k<=z.2.1/\z.2.1<=k+f/\z.2.2=0/\Dsc r p z.2.1)
 |0,k,h1,hk,h=>⟨rfl,lQ _,lQ _,rfl,h⟩
 |f+1,k,h1,hk,h=>by
  refine⟨hp.lt (by omega),hp.lt (by omega),hp.ne (by omega) (by omega) (by omega),?_⟩;cases e:r (p.getD k 0) (p.getD (k - 1) 0) with
  |true =>
   exact Ev.mono (λ z hz=>⟨hz.1,by omega,by omega,hz.2.2.2.1,hz.2.2.2.2⟩) (zJj o hp f (k+1) (by omega) (by omega) (h.more o hp h1 (by omega) e))
  |false =>
   have hl:=o.tot _ _ (hp.lt (i:=k) (by omega)) (hp.lt (i:=k - 1) (by omega)) (hp.ne (by omega) (by omega) (by omega)) e;refine⟨hp.lt (by omega),hp.lt (by omega),hp.ne (by omega) (by omega) (by omega),?_⟩;rw[hl];exact⟨rfl,lQ _,(by show k<=k+(f+1);omega),rfl,h⟩
theorem zFm {p q:Array Nat}{i j:Nat}(h:p[i]?=q[j]?):p.getD i 0=q.getD j 0:=by
 rw[Array.getD_eq_getD_getElem?,Array.getD_eq_getD_getElem?,h]
theorem PermN.of {p q:Array Nat}(h:q.Perm p) (hp:PermN n p):PermN n q:=(Array.perm_iff_toList_perm.mp h).trans hp
theorem zME {p:Array Nat}(hp:PermN n p) {k:Nat}(hk:k<=n) (h:Dsc r p k):PermN n (kas_rev p 0 k)/\Asc r (kas_rev p 0 k) k:=by
 refine⟨hp.of (mirror_perm _ _ _ _),λ i j hij hj=>?_⟩
 have e:∀i,i<k->(kas_rev p 0 k).getD i 0=p.getD (k - 1 - i) 0:=λ i hi=>by
  refine zFm ?_;have:=getElem?_mirror_all (xs:=p) (i:=0) (j:=k) (by rw[hp.size];exact hk) i;unfold kas_rev;rw[this,if_pos ⟨Nat.zero_le _,hi⟩,Nat.zero_add]
 unfold lt;rw[e i (by omega),e j hj];exact h (k - 1 - j) (k - 1 - i) (by omega) (by omega)
theorem zLI (o:Ord n r) {p:Array Nat}(hp:PermN n p) {k:Nat}(h1:1<=k) (hk:k<=n) (h:Dsc r p k):Ev r n (kas_tail3 k n p) (λ z=>PermN n z.2/\1<=z.1/\z.1<=n/\Asc r z.2 z.1):=by
 obtain⟨q1,q2⟩:=zME hp hk h;exact Ev.bind (Ev.mono (λ m hm=>⟨q1,by omega,by omega,hm.2.2.1⟩) (zJk o q1 (n - k) k h1 (by omega) q2))
theorem zG3 (o:Ord n r) {p:Array Nat}(hp:PermN n p) (h2:2<=n) (h:lt r p 1 0=true):Ev r n (kas_descPart 1 n p) (λ z=>PermN n z.2/\1<=z.1/\z.1<=n/\Asc r z.2 z.1):=by
 have d2:Dsc r p 2:=λ i j hij hj=>by
  have:i=0:=by omega
  have:j=1:=by omega
  subst i j;exact h
 refine Ev.bind (Ev.mono (λ z hz=>?_) (zJj o hp (n - 2) 2 (by omega) (by omega) d2));obtain⟨p',m,q⟩:=z;obtain⟨e1,e2,e3,e4,e5⟩:=hz;dsimp only at e1 e2 e3 e4 e5;subst e1 e4;have e3':m<=2+(n - 2):=e3;have e2':2<=m:=e2;exact zLI o hp (k:=m) (by omega) (by omega) e5
theorem zLJ (o:Ord n r) {p:Array Nat}(hp:PermN n p) (h2:2<=n):Ev r n (kas_count n p) (λ z=>PermN n z.2/\1<=z.1/\z.1<=n/\Asc r z.2 z.1):=by
 refine Ev.bind (Ev.mono (λ m hm=>?_) (zJk o hp (n - 1) 1 (lQ _) (by omega) (λ i j hij hj=>by omega)));obtain⟨h1,hmn,ha,hl⟩:=hm
 by_cases e:m=n
 ·subst e
  rw[if_pos (by simp)];exact⟨hp,h1,lQ _,ha⟩
 ·rw[if_neg (by simpa using e)]
  by_cases e1:m > 1
  ·rw[if_pos e1]
   refine⟨hp.lt (by omega),hp.lt (by omega),hp.ne (by omega) (by omega) (by omega),?_⟩;have:r (p.getD 0 0) (p.getD (m - 1) 0)=true:=ha 0 (m - 1) (by omega) (by omega);rw[this];exact⟨hp,h1,by dsimp only;omega,ha⟩
  ·rw[if_neg e1]
   have:m=1:=by omega
   subst this;exact zG3 o hp h2 (hl (by omega))
theorem zFo (o:Ord n r) {p:Array Nat}(hp:PermN n p) {k:Nat}(hk:k<n) (ha:Asc r p k):∀(f l u:Nat),l<=u->u<=k->u - l<=f->(∀i,i<l->lt r p i k=true)->(∀i,u<=i->i<k->lt r p k i=true) ->
  Ev r n (kas_place p k f l u) (λ m=>m<=k/\(∀i,i<m->lt r p i k=true)/\(∀i,m<=i->i<k->lt r p k i=true))
 |0,l,u,hl,hu,hf,h1,h2=>⟨by omega,h1,λ i hi hik=>h2 i (by omega) hik⟩
 |f+1,l,u,hl,hu,hf,h1,h2=>by
  unfold kas_place
  by_cases e:l ≥ u
  ·rw[if_pos e]
   exact⟨by omega,h1,λ i hi hik=>h2 i (by omega) hik⟩
  ·rw[if_neg e]
   refine⟨hp.lt hk,hp.lt (by omega),hp.ne (by omega) (by omega) (by omega),?_⟩;cases c:r (p.getD k 0) (p.getD ((l+u) / 2) 0) with
   |true =>
    refine zFo o hp hk ha f l ((l+u) / 2) (by omega) (by omega) (by omega) h1 λ i hi hik=>?_
    by_cases z:i=(l+u) / 2
    ·rw[z];exact c
    ·exact o.trans _ _ _ (hp.lt hk) (hp.lt (by omega)) (hp.lt (by omega)) c (ha _ i (by omega) hik)
   |false =>
    have hl':=o.tot _ _ (hp.lt hk) (hp.lt (i:=(l+u) / 2) (by omega)) (hp.ne hk (by omega) (by omega)) c;refine zFo o hp hk ha f ((l+u) / 2+1) u (by omega) hu (by omega) (λ i hi=>?_) h2
    by_cases z:i=(l+u) / 2
    ·rw[z];exact hl'
    ·exact o.trans _ _ _ (hp.lt (by omega)) (hp.lt (by omega)) (hp.lt hk) (ha i _ (by omega) (by omega)) hl'
theorem zIR {p:Array Nat}(hp:PermN n p) {k m:Nat}(hk:k<n) (hm:m<=k) (ha:Asc r p k) (h1:∀i,i<m->lt r p i k=true) (h2:∀i,m<=i->i<k->lt r p k i=true):PermN n (bubble p k (k - m))/\Asc r (bubble p k (k - m)) (k+1):=by
 refine⟨hp.of (bubble_perm _ _ _),λ i j hij hj=>?_⟩
 have e:∀i,(bubble p k (k - m)).getD i 0=if i=m then p.getD k 0 else if m<i/\i<=k then p.getD (i - 1) 0 else p.getD i 0:=λ i=>by
  have:=getElem?_bubble (xs:=p) (src:=k) (by rw[hp.size];exact hk) (k - m) (by omega) i;rw[show k - (k - m)=m by omega] at this
  by_cases c1:i=m
  ·rw[if_pos c1] at this ⊢;exact zFm this
  ·rw[if_neg c1] at this ⊢
   by_cases c2:m<i/\i<=k
   ·rw[if_pos c2] at this ⊢;exact zFm this
   ·rw[if_neg c2] at this ⊢;exact zFm this
 unfold lt;rw[e i,e j]
 by_cases i1:i=m
 ·rw[if_pos i1,if_neg (by omega),if_pos ⟨by omega,by omega⟩]
  exact h2 (j - 1) (by omega) (by omega)
 ·rw[if_neg i1]
  by_cases j1:j=m
  ·rw[if_pos j1,if_neg (by omega)]
   exact h1 i (by omega)
  ·rw[if_neg j1]
   by_cases i2:m<i/\i<=k
   ·rw[if_pos i2,if_pos ⟨by omega,by omega⟩]
    exact ha (i - 1) (j - 1) (by omega) (by omega)
   ·rw[if_neg i2]
    by_cases j2:m<j/\j<=k
    ·rw[if_pos j2]
     exact ha i (j - 1) (by omega) (by omega)
    ·rw[if_neg j2]
     exact ha i j hij (by omega)
theorem zLv (o:Ord n r):∀(f:Nat) {p:Array Nat}(k:Nat),PermN n p->k+f=n->Asc r p k->Ev r n (kas_bin f p k) (λ q=>PermN n q/\Asc r q n)
 |0,p,k,hp,hk,ha=>⟨hp,by have:k=n:=hk;rw[←this];exact ha⟩
 |f+1,p,k,hp,hk,ha=>by
  refine Ev.bind (Ev.mono (λ m hm=>?_) (zFo o hp (by omega) ha k 0 k (lY _) (lQ _) (by omega) (λ i hi=>by omega) (λ i hi hik=>by omega)));obtain⟨q1,q2⟩:=zIR hp (by omega) hm.1 ha hm.2.1 hm.2.2;exact zLv o f (k+1) q1 (by omega) q2
theorem zJi (o:Ord n r) (h2:2<=n):Ev r n (kas_sort n) (λ q=>PermN n q/\Asc r q n):=by
 have hp:PermN n (List.toArray (List.range n)):=by unfold PermN;simp
 refine Ev.bind (Ev.mono (λ z hz=>?_) (zLJ o hp h2));obtain⟨m,q⟩:=z;obtain⟨q1,q2,q3,q4⟩:=hz;dsimp only at q1 q2 q3 q4 ⊢
 by_cases e:m<n
 ·rw[if_pos e,show max m 1=m by omega]
  exact zLv o (n - m) m q1 (by omega) q4
 ·rw[if_neg e]
  have:m=n:=by omega
  rw[this] at q4;exact⟨q1,q4⟩
end
noncomputable def lexB:List Int->List Int->Bool
 |_,[]=>false
 |[],_::_=>true
 |a::as,b::bs=>if a=b then lexB as bs else decide (a<b)
theorem zEd:∀as:List Int,lexB as as=false
 |[]=>rfl
 |a::as=>by rw[lexB,if_pos rfl];exact zEd as
theorem zHj:∀{as bs:List Int},as≠bs->lexB as bs=false->lexB bs as=true
 |[],[],h,_=>absurd rfl h
 |[],_::_,_,h=>by cases h
 |_::_,[],_,_=>rfl
 |a::as,b::bs,h,k=>by
  rw[lexB] at k ⊢
  by_cases e:a=b
  ·subst e
   rw[if_pos rfl] at k ⊢;exact zHj (λ z=>h (by rw[z])) k
  ·rw[if_neg e] at k
   rw[if_neg (Ne.symm e)];have:=of_decide_eq_false k;exact lU (by omega)
theorem zEe:∀{as bs:List Int},lexB as bs=true->lexB bs as=false
 |[],[],h=>by cases h
 |[],_::_,_=>rfl
 |_::_,[],h=>by cases h
 |a::as,b::bs,k=>by
  rw[lexB] at k ⊢
  by_cases e:a=b
  ·subst e
   rw[if_pos rfl] at k ⊢;exact zEe k
  ·rw[if_neg e] at k
   rw[if_neg (Ne.symm e)];have:=lT k;exact decide_eq_false (by omega)
theorem zFG:∀{as bs cs:List Int},lexB as bs=true->lexB bs cs=true->lexB as cs=true
 |_,_,[],_,h=>by cases ‹List Int›<;>cases h
 |[],_,_::_,_,_=>rfl
 |_::_,[],_::_,h,_=>by cases h
 |a::as,b::bs,c::cs,h,k=>by
  rw[lexB] at h k ⊢
  by_cases e1:a=b
  ·subst e1
   rw[if_pos rfl] at h
   by_cases e2:a=c
   ·subst e2
    rw[if_pos rfl] at k ⊢;exact zFG h k
   ·rw[if_neg e2] at k ⊢
    exact k
  ·rw[if_neg e1] at h
   have h':=lT h
   by_cases e2:b=c
   ·subst e2
    rw[if_neg e1];exact h
   ·rw[if_neg e2] at k
    have k':=lT k;rw[if_neg (by omega)];exact lU (by omega)
end L2
namespace PySem
open PySem.Calls PyProof.Rows PySem.W L2
open AutoSeq1 (wpAny_loadPart')
theorem zFi {vs:List Value}{ns:List Int}(h:IntsAre vs ns):vs.length=ns.length:=by
 induction h with
 |nil=>rfl
 |cons n t _ ih=>simp[ih]
theorem zK8 {ns ms:List Int}{i:Nat}(h:i=min ns.length ms.length):lexB (ns.drop i) (ms.drop i)=decide (ns.length<ms.length):=by
 by_cases c:ns.length<ms.length
 ·have e1:ns.drop i=[]:=List.drop_of_length_le (by omega)
  have e2:i<ms.length:=by omega
  rw[e1,List.drop_eq_getElem_cons e2,decide_eq_true c];rfl
 ·have e1:ms.drop i=[]:=List.drop_of_length_le (by omega)
  rw[e1,decide_eq_false c];cases ns.drop i<;>rfl
theorem zHz (l b:Addr) (items items2:Array Value) (n n2:Nat) (dd dd2:Option Addr) (sl sl2:Array (Option Value)) (ns ms:List Int) (hi1:IntsAre items.toList ns) (hi2:IntsAre items2.toList ms) :
  Meets (Builtin.«tuple.__lt__» ⟨[.ref l,.ref b],[]⟩)
   (λ A R s=>s.heap.get? l=some { cls:=.type "tuple", dict:=dd,data:=.seq items n,slots:=sl }/\s.heap.get? b=some { cls:=.type "tuple", dict:=dd2,data:=.seq items2 n2,slots:=sl2 } /\
    R (.ok (.ret (.bool (lexB ns ms)))) s) :=
 .of_wp λ prog w A R s h=>by
  obtain⟨hp,g,d,tk,os⟩:=s;obtain⟨hl,hb,h⟩:=h;have f2:=AutoSeq1.sub_tuple_tuple;have l1:items.size=ns.length:=by have:=zFi hi1;simpa using this
  have l2:items2.size=ms.length:=by have:=zFi hi2;simpa using this
  have hZ:(items.toList.zip items2.toList).length=min items.size items2.size:=by simp
  wp_walk using wpAny_loadPart' hl,wpAny_loadPart' hb,wpAny_forIn_list _ (λ rest b s'=>b.1=none/\s'=⟨hp,g,d,tk,os⟩/\∃i,rest=(items.toList.zip items2.toList).drop i/\i<=min items.size items2.size /\
   R (.ok (.ret (.bool (lexB (ns.drop i) (ms.drop i))))) ⟨hp,g,d,tk,os⟩) _
  case turn =>
   rintro⟨y,x⟩ rest b s' ⟨hb',rfl,i,hz,him,hR⟩
   have hlt:i<(items.toList.zip items2.toList).length:=by
    rcases Nat.lt_or_ge i (items.toList.zip items2.toList).length with h'|h'
    ·exact h'
    ·rw[List.drop_of_length_le h'] at hz;cases hz
   have hm:i<min items.size items2.size:=hZ▸hlt;have h1:i<items.size:=lZ hm (Nat.min_le_left _ _);have h2:i<items2.size:=lZ hm (Nat.min_le_right _ _);rw[List.drop_eq_getElem_cons hlt] at hz;injection hz with hyx hrest
   have hy:y=items[i]:=by have:=congrArg Prod.fst hyx;simpa using this
   have hx:x=items2[i]:=by have:=congrArg Prod.snd hyx;simpa using this
   subst hy hx;obtain⟨t1,e1⟩:=hi1.int_at i items[i] (by simp[h1]);obtain⟨t2,e2⟩:=hi2.int_at i items2[i] (by simp[h2]);rw[e1,e2]
   have d1:ns.drop i=ns.getD i 0::ns.drop (i+1):=by
    rw[List.drop_eq_getElem_cons (by omega)];congr 1;simp[show i<ns.length by omega]
   have d2:ms.drop i=ms.getD i 0::ms.drop (i+1):=by
    rw[List.drop_eq_getElem_cons (by omega)];congr 1;simp[show i<ms.length by omega]
   rw[d1,d2,lexB] at hR;refine lA (SeqAt.EqAt.int_int _ t1 _ t2 prog w _ _ ?_);cases hy:(ns.getD i 0 == ms.getD i 0) with
   |true =>
    rw[if_pos (by simpa using hy)] at hR
    wp_walk
    exact⟨rfl,rfl,i+1,hrest,by omega,hR⟩
   |false =>
    rw[if_neg (by simpa using hy)] at hR;rw[if_pos (by rfl)];refine lA (wpAny_rule (lA (PyProof.Rows.lt_int ?_)))
    wp_walk
    exact⟨_,rfl,hR⟩
  case fin =>
   rintro⟨b1,b2⟩ s' ⟨hb',rfl,i,hz,him,hR⟩;simp only at hb';subst hb'
   have hge:min items.size items2.size<=i:=by
    rcases Nat.lt_or_ge i (items.toList.zip items2.toList).length with h'|h'
    ·rw[List.drop_eq_getElem_cons h'] at hz;cases hz
    ·exact hZ▸h'
   rw[zK8 (by omega)] at hR
   wp_walk
   exact⟨_,rfl,by simpa[Builtin.Tuple.tupleCompareSizes,l1,l2] using hR⟩
  case h =>
   exact⟨rfl,rfl,0,rfl,lY _,by simpa using h⟩
section
variable {prog:Program}{w:World}{A:Around}{E:XQ}{s:Shared}
theorem zKa {l b:Addr}{items items2:Array Value}{ns ms:List Int}{Q:XQ}(hl:s.heap.IsTuple l items) (hb:s.heap.IsTuple b items2) (h1:IntsAre items.toList ns) (h2:IntsAre items2.toList ms) (hu:A.units<cLine)
  (h:Q (.bool (lexB ns ms)) s):wpAny (model prog w) A (compareOp .Lt (.ref l) (.ref b)) Q E s:=by
 obtain⟨⟨cls,dd,data,sl⟩,ho,hc,n,hd⟩:=id hl;obtain⟨⟨cls2,dd2,data2,sl2⟩,ho2,hc2,n2,hd2⟩:=id hb;simp only at hc hd hc2 hd2;subst hc hd hc2 hd2
 exact richCompare_meets_room (op:=.Lt) ⟨_,ho,rfl⟩ ⟨_,ho2,rfl⟩ F.slot_tuple_lt F.entry_tuple_lt (F.args_tuple_lt_2 _ _) (zHz l b items items2 n n2 dd dd2 sl sl2 ns ms h1 h2)
  ⟨ho,ho2,show Value.bool (lexB ns ms)≠Value.notImplemented/\Q (.bool (lexB ns ms)) s from⟨(λ x=>nomatch x),h⟩⟩ hu
theorem zLV:∀{ns ms:List Int},((List.range (min ns.length ms.length)).all (λ j=>ns.getD j 0 == ms.getD j 0) && ns.length == ms.length)=true->ns=ms:=by
 intro ns ms h;rw[Bool.and_eq_true,List.all_eq_true] at h;have hl:ns.length=ms.length:=by simpa using h.2
 refine List.ext_getElem hl λ i h1 h2=>?_;have:=h.1 i (List.mem_range.mpr (by omega));simpa[h1,h2] using this
theorem zKZ {l b:Addr}{items items2:Array Value}{ns ms:List Int}(hl:s.heap.IsTuple l items) (hb:s.heap.IsTuple b items2) (h1:IntsAre items.toList ns) (h2:IntsAre items2.toList ms) (hu:A.units<cLine) (hne:ns≠ms):SeqAt.EqAt A s (.ref l) (.ref b) false:=by
 have e1:items.size=ns.length:=by have:=zFi h1;simpa using this
 have e2:items2.size=ms.length:=by have:=zFi h2;simpa using this
 have hne':l≠b:=λ z=>by
  subst z;obtain⟨o,ho,hc,n,hd⟩:=hl;obtain⟨o',ho',hc',n',hd'⟩:=hb;rw[ho] at ho';cases ho';rw[hd] at hd';cases hd';refine hne ?_;have:=h1.nums;rw[h2.nums] at this;exact this.symm
 have key:=SeqAt.RcAt.tuples (A:=A) (e:=λ j=>ns.getD j 0 == ms.getD j 0) hl hb hu λ j j1 j2=>by
  obtain⟨t1,q1⟩:=h1.int_at j items[j] (by simp[j1]);obtain⟨t2,q2⟩:=h2.int_at j items2[j] (by simp[j2]);rw[q1,q2];exact SeqAt.EqAt.int_int _ _ _ _
 rw[e1,e2] at key
 have:((List.range (min ns.length ms.length)).all (λ j=>ns.getD j 0 == ms.getD j 0) && ns.length == ms.length)=false:=by
  cases h:((List.range (min ns.length ms.length)).all (λ j=>ns.getD j 0 == ms.getD j 0) && ns.length == ms.length) with
  |false=>rfl
  |true=>exact absurd (zLV h) hne
 rw[this] at key;exact SeqAt.EqAt.of_refs hne' key
def PlcAt (h:Heap) (v:Value) (ns:List Int):Prop:=∃(a c:Addr) (u:Value) (its:Array Value),v = .ref a/\h.IsTuple a #[.ref c,u]/\h.IsTuple c its/\IntsAre its.toList ns
theorem PlcAt.kept {h h':Heap}{v:Value}{ns:List Int}(k:∀b o,o.cls = .type "tuple" -> h.get? b=some o->h'.get? b=some o):PlcAt h v ns->PlcAt h' v ns
 |⟨a,c,u,its,e,⟨o,ho,hc,r⟩,⟨o',ho',hc',r'⟩,i⟩=>⟨a,c,u,its,e,⟨o,k _ _ hc ho,hc,r⟩,⟨o',k _ _ hc' ho',hc',r'⟩,i⟩
theorem zEU {h h':Heap}(k:∀b o,o.cls = .type "tuple" -> h.get? b=some o->h'.get? b=some o){vs:List Value}{ps:List (List Int)}(z:Paired (PlcAt h) vs ps):Paired (PlcAt h') vs ps:=by
 induction z with
 |nil=>exact .nil
 |cons r q ih=>exact .cons (r.kept k) ih
theorem zIy {h:Heap}{vs:List Value}{ps:List (List Int)}(z:Paired (PlcAt h) vs ps):∀{i:Nat},i<vs.length->PlcAt h (vs.getD i Value.none) (ps.getD i []):=by
 induction z with
 |nil=>exact λ h=>absurd h (Nat.not_lt_zero _)
 |cons r q ih =>
  intro i hi;cases i with
  |zero=>exact r
  |succ i=>have:=ih (i:=i) (by simpa using hi);simpa using this
theorem zNZ {x y:Value}{ns ms:List Int}{Q:Bool->Shared->Prop}(hx:PlcAt s.heap x ns) (hy:PlcAt s.heap y ms) (hne:ns≠ms) (hu:A.units<cLine) (h:Q (lexB ns ms) s):wpAny (model prog w) A (keyLt' (tuples' false) x y) Q E s:=by
 obtain⟨a,c,u,its,rfl,⟨o,ho,hc,n,hd⟩,hp,hi⟩:=hx;obtain⟨a',c',u',its',rfl,⟨o',ho',hc',n',hd'⟩,hp',hi'⟩:=hy;refine kat_lt ho hd ho' hd' ?_;show KatLex prog w A false _ Q [(.ref c,.ref c'),(u,u')] 0 s;refine kat_cons (zKZ hp hp' hi hi' hu hne prog w _ _ (kat_no ?_));refine kat_one _ _ (zKa hp hp' hi hi' hu ?_);exact h
theorem zHd:∀{vs:List Value}{ps:List (List Int)}{h:Heap},Paired (PlcAt h) vs ps->∃fs,KatTups h vs fs/\fs.length=vs.length/\∀v∈fs,Looks (model prog w) h (typeOf v) (.type "tuple")
 |_,_,_,.nil=>⟨[],trivial,rfl,λ v hv=>nomatch hv⟩
 |_,_,h,.cons r q=>by
  obtain⟨fs,h1,h2,h3⟩:=zHd q;obtain⟨a,c,u,its,rfl,⟨o,ho,hc,n,hd⟩,⟨o',ho',hc',r'⟩,hi⟩:=r;refine⟨.ref c::fs,KatTups.cons ho hc hd rfl h1,by simp[h2],λ v hv=>?_⟩;rcases lN.mp hv with rfl|hv
  ·have:=(show Looks (model prog w) h (typeOf (.ref c)) o'.cls from(Looks.ld ho').andThen .now)
   rw[hc'] at this;exact this
  ·exact h3 v hv
theorem zHZ:∀{vs:List Value},vs.length<2->(vs.toArray.zip vs.toArray).map (·.2)=List.toArray ((List.toArray (List.range vs.length)).toList.map λ i=>vs.getD i Value.none)
 |[],_=>by simp
 |[x],_=>by simp[List.range_succ]
 |_::_::_,h=>by simp at h;omega
theorem zFf {a:Addr}{vs:List Value}{ps:List (List Int)}{n:Nat}{P:PySem.Fin->Shared->Prop}(ho:s.heap.get? a=some (seqObj "list" vs.toArray n)) (hp:Paired (PlcAt s.heap) vs ps) (nd:ps.Nodup) (h64:vs.length<64) (hu:A.units<cLine)
  (h:∀p:Array Nat,PermN vs.length p->Asc (λ i j=>lexB (ps.getD i []) (ps.getD j [])) p vs.length->P (.done (.ret .none)) { s with heap:=sortedHeap s.heap a vs (List.toArray (p.toList.map λ i=>vs.getD i Value.none)) }) :
  wpAny (model prog w) A (Builtin.«list.sort» ⟨[.ref a],[]⟩) P E s:=by
 rw[list_sort_plain];have hlp:vs.length=ps.length:=hp.length;have ha:a<s.heap.objs.size:=lI ho;refine lA (listItems_at ho rfl ?_);refine lA (listUpdate_at ho rfl ?_ (by rw[mH,sizeLine_eq];omega) (lY _));obtain⟨e1,ho1⟩:∃e1,(s.heap.update a (Obj.mapSeq λ Ω=>#[])).get? a=some (seqObj "list" #[] e1):=⟨_,get?_update_seq ho (λ Ω=>#[])⟩;refine lA (seqEpoch_at ho1 rfl ?_);refine lA (wpAny_newTuple ?_ (by show vs.length<=_;rw[sizeLine_eq];omega));refine lA (wpAny_newList ?_ (lY _));refine lE ?_
 have ho6:(((s.heap.update a (Obj.mapSeq λ Ω=>#[])).push (seqObj "tuple" vs.toArray 0)).push (seqObj "list" #[] 0)).get? a=some (seqObj "list" #[] e1):=by
  rw[Heap.get?_push_ne _ _ _ (by rw[size_push',Heap.size_update];exact lS (Nat.lt_succ_of_lt ha)),Heap.get?_push_ne _ _ _ (by rw[Heap.size_update];exact lS ha)];exact ho1
 have keep:∀b o,o.cls = .type "tuple" -> s.heap.get? b=some o->(((s.heap.update a (Obj.mapSeq λ Ω=>#[])).push (seqObj "tuple" vs.toArray 0)).push (seqObj "list" #[] 0)).get? b=some o:=λ b o hc hb=>by
  have hne:b≠a:=λ z=>by
   rw[z,ho] at hb;cases hb;injection hc with hh
   exact absurd hh (by decide)
  exact lG _ (lG _ (by rw[Heap.get?_update_ne _ _ _ _ hne];exact hb))
 have hp6:=zEU keep hp;show wpAny (model prog w) A _ P E { s with heap:=((s.heap.update a (Obj.mapSeq λ Ω=>#[])).push (seqObj "tuple" vs.toArray 0)).push (seqObj "list" #[] 0) };dsimp only
 by_cases h2:vs.toArray.size<2
 ·rw[if_pos h2,if_pos h2]
  refine lA (lB ?_);rw[StateT.run_pure];refine lA (lB ?_);dsimp only;have h2':vs.length<2:=by simpa using h2
  have hid:(arrOf (SortSt.mk' general' (vs.toArray.zip vs.toArray) #[] 7 none)).map (·.2)=List.toArray ((List.toArray (List.range vs.length)).toList.map λ i=>vs.getD i Value.none):=by
   show (vs.toArray.zip vs.toArray).map (·.2)=_;exact zHZ h2'
  refine lA (seqEpoch_at ho6 rfl ?_);refine lA (listUpdate_at ho6 rfl ?_ (lY _) (by rw[Array.size_map];show (vs.toArray.zip vs.toArray).size<=_;rw[sizeLine_eq];simp;omega));simp only[bne_self_eq_false,Bool.false_eq_true,if_false];refine lB ?_;have fin:=h (List.toArray (List.range vs.length)) (by unfold PermN;simp) (λ i j hij hj=>by omega);rw[←hid] at fin;exact fin
 ·rw[if_neg h2,if_neg h2]
  have h2':2<=vs.length:=by simpa using h2
  obtain⟨fs,t1,t2,t3⟩:=zHd (prog:=prog) (w:=w) hp6;refine lA (kat_kind (T:=.type "tuple") t1 (by omega) t3 (by decide) ?_);show wpAny (model prog w) A ((sortRuns').run (SortSt.mk' (tuples' false) (vs.toArray.zip vs.toArray) #[] 7 none) >>= _) P E _
  have o:Ord vs.length (λ i j=>lexB (ps.getD i []) (ps.getD j [])):=by
   have inj:∀i j,i<vs.length->j<vs.length->i≠j->ps.getD i []≠ps.getD j []:=λ i j hi hj ne e=>by
    have e1:ps.getD i []=ps[i]'(by omega):=by simp[show i<ps.length by omega]
    have e2:ps.getD j []=ps[j]'(by omega):=by simp[show j<ps.length by omega]
    rw[e1,e2] at e;exact ne ((List.getElem_inj nd).mp e)
   exact⟨λ i j hi hj ne k=>zHj (inj i j hi hj ne) k,λ i j Ω Ω k=>zEe k,λ i j k Ω Ω Ω a b=>zFG a b⟩
  refine lA (wpAny_mono (kat_run (Q:=λ st' s'=>∃p:Array Nat,PermN vs.length p/\Asc (λ i j=>lexB (ps.getD i []) (ps.getD j [])) p vs.length/\s'={ s with heap:=((s.heap.update a (Obj.mapSeq λ Ω=>#[])).push (seqObj "tuple" vs.toArray 0)).push (seqObj "list" #[] 0) }/\arrOf st'=p.map (kas_item (vs.toArray.zip vs.toArray))/\failedOf st'=none)
   (G:=λ p s'=>(PermN vs.length p/\Asc (λ i j=>lexB (ps.getD i []) (ps.getD j [])) p vs.length)/\s'={ s with heap:=((s.heap.update a (Obj.mapSeq λ Ω=>#[])).push (seqObj "tuple" vs.toArray 0)).push (seqObj "list" #[] 0) })
   rfl h2' h64 (λ p' st' s' a1 a2 a3 a4=>⟨p',a4.1.1,a4.1.2,a4.2,a2,a3⟩) ?_) ?_ λ Ω Ω e=>e)
  ·refine Ev.wp (St:=λ s'=>s'={ s with heap:=((s.heap.update a (Obj.mapSeq λ Ω=>#[])).push (seqObj "tuple" vs.toArray 0)).push (seqObj "list" #[] 0) }) (λ i j C s' hi hj hij hs hC=>?_) (λ p s' q hs=>⟨q,hs⟩) (zJi o h2') rfl
   subst hs;unfold kas_ask;refine zNZ (zIy hp6 hi) (zIy hp6 hj) ?_ hu (hC _ rfl);intro e;have:=o.tot i j hi hj hij (by rw[e];exact zEd _);rw[e,zEd] at this;cases this
  ·rintro⟨⟨⟩,st'⟩ s' ⟨p,pm,asc,rfl,har,hf⟩
   dsimp only;have hout:=kat_snds rfl har;rw[hout];have hsz:(List.toArray (p.toList.map λ i=>vs.getD i Value.none)).size=vs.length:=by rw[mH,mD,Array.length_toList,pm.size]
   refine lA (seqEpoch_at ho6 rfl ?_);refine lA (listUpdate_at ho6 rfl ?_ (lY _) (mG (Nat.le_of_eq hsz) (by rw[sizeLine_eq];omega)));rw[hf];simp only[bne_self_eq_false,Bool.false_eq_true,if_false];exact lB (h p pm asc)
end
end PySem
namespace L2
open PySem PySem.Spec PyProof.Rows PySem.W
def PlV (H:Hp) (p:List Int × V) (v:V):Prop:=∃(b c:Addr),v = .ref b/\H b=some (.tup [.ref c,p.2])/\H c=some (.tup (p.1.map V.int))
theorem PlV.mono {H H':Hp}(k:Tk H H') {p:List Int × V}{v:V}:PlV H p v->PlV H' p v
 |⟨b,c,e,h1,h2⟩=>⟨b,c,e,k _ _ h1,k _ _ h2⟩
theorem zJX:∀{ns:List Int}{us:List Value},Vals (ns.map V.int) us->IntsAre us ns
 |[],_,h=>by
  cases h;exact .nil
 |n::ns,_,h=>by
  rw[mL] at h;cases h with
  |cons r q =>
   obtain⟨t,rfl⟩:=r;exact .cons n t (zJX q)
theorem zNY {P:Program}{w:World}{H:Hp}{h:Heap}(ok:HOk P w H h) {p:List Int × V}{v:V}{u:Value}(hp:PlV H p v) (r:RelV v u):PlcAt h u p.1:=by
 obtain⟨b,c,rfl,h1,h2⟩:=hp;cases r;obtain⟨_,its,rv,tp⟩:=(show ObjOk P w H h b (.tup [.ref c,p.2]) from ok b _ h1);obtain⟨_,its2,rv2,tp2⟩:=(show ObjOk P w H h c (.tup (p.1.map V.int)) from ok c _ h2);cases rv with
 |cons q1 rv=>cases rv with
  |cons q2 rv =>
   cases rv;cases q1;exact⟨b,c,_,its2.toArray,rfl,tp,tp2,by simpa using zJX rv2⟩
theorem zIx {P:Program}{w:World}{H:Hp}{h:Heap}(ok:HOk P w H h){ps:List (List Int × V)}{vs:List V}{us:List Value}(z:Paired (PlV H) ps vs):Vals vs us->Paired (PlcAt h) us (ps.map (·.1)):=by
 induction z generalizing us with
 |nil=>intro r;cases r;exact .nil
 |cons hp q ih =>
  intro r;cases r with
  |cons r1 r2=>exact .cons (zNY ok hp r1) (ih r2)
theorem zED {vs:List V}{us:List Value}(r:Vals vs us):∀(ix:List Nat),(∀i∈ix,i<vs.length)->Vals (ix.map λ i=>vs.getD i .non) (ix.map λ i=>us.getD i Value.none)
 |[],_=>.nil
 |i::ix,h=>by
  refine .cons ?_ (zED r ix λ j hj=>h j (lP _ hj));have hi:=h i lO
  have key:∀{vs:List V}{us:List Value},Vals vs us->∀{i:Nat},i<vs.length->RelV (vs.getD i .non) (us.getD i Value.none):=by
   intro vs us r
   induction r with
   |nil=>intro i hi;simp at hi
   |cons q _ ih =>
    intro i hi;cases i with
    |zero=>exact q
    |succ i=>exact ih (by simpa using hi)
  exact key r hi
theorem zEa {ps:List (List Int × V)}{vs:List V}{H:Hp}(h:Paired (PlV H) ps vs):∀(ix:List Nat),(∀i∈ix,i<vs.length)->Paired (PlV H) (ix.map λ i=>ps.getD i ([],.non)) (ix.map λ i=>vs.getD i .non)
 |[],_=>.nil
 |i::ix,hx=>by
  refine .cons ?_ (zEa h ix λ j hj=>hx j (lP _ hj));have hi:=hx i lO;obtain⟨p,hp,q⟩:=zAJ h (lW hi);have e1:ps.getD i ([],.non)=p:=by rw[List.getD_eq_getElem?_getD,hp];rfl
  have e2:vs.getD i .non=vs[i]:=by simp[hi]
  dsimp only;rw[e1,e2];exact q
theorem zGE {α:Type}(d:α) (ps:List α) {ix:List Nat}(h:ix.Perm (List.range ps.length)):(ix.map λ i=>ps.getD i d).Perm ps:=by
 refine(h.map _).trans ?_
 have:(List.range ps.length).map (λ i=>ps.getD i d)=ps:=by
  apply List.ext_getElem
  ·simp
  ·intro i h1 h2
   simp[h2]
 rw[this]
section
variable {X:Cx}
def zNS:List V->Hp->VK->Prop:=λ xs H Q=>∃(l:Addr) (vs:List V) (ps:List (List Int × V)),xs=[.ref l]/\H l=some (.lst vs)/\Paired (PlV H) ps vs/\(ps.map (·.1)).Nodup/\ps.length<64 /\
 ∀(l':Addr) (ws:List V) (qs:List (List Int × V)),H l'=none->Paired (PlV H) qs ws->qs.Perm ps->qs.Pairwise (λ a b=>lexB a.1 b.1=true)->Q (.ref l') (upd H l' (.lst ws))
theorem zGT (hu:X.A.units+150<cLine):CallR X (.builtin "sorted") zNS:=by
 intro jP s σ H xs us Q I r h;obtain⟨l,vs,ps,rfl,hl,hp,nd,h64,q⟩:=h;obtain⟨u,rfl,ru⟩:=vals1 r;cases ru;obtain⟨_,its,n0,rv,hlen,el⟩:=I.lstM hl;have hlv:its.length=vs.length:=rv.length.symm;have hlp:ps.length=vs.length:=Paired.length hp;have line:its.length<=sizeLine:=Nat.le_of_lt (zAK (by omega));refine Calls.call_function_entry kind_sorted plain_sorted entry_sorted (args_sorted1 _) ?_;unfold Builtin.«sorted»;refine lA (m:=checkCount "sorted" 1 1 _) (lB ?_);have hL:s.heap.IsList l its.toArray:=⟨_,el,rfl,_,rfl⟩;refine lA (collect_list hL ?_ (by simpa using line));refine lA (wpAny_newList ?_ (by simpa using line))
 have keep1:∀b o,s.heap.get? b=some o->((s.heap.push (seqObj "list" #[] 0)).update s.heap.objs.size (Obj.mapSeq (·++its.toArray))).get? b=some o:=λ b o q=>by
  have hlt:b<s.heap.objs.size:=lI q;rw[Heap.get?_update_ne _ _ _ _ (Nat.ne_of_lt hlt)];exact lG _ q
 show wpAny _ _ _ _ _ { s with heap:=((s.heap.push (seqObj "list" #[] 0)).update s.heap.objs.size (Obj.mapSeq (·++its.toArray))).push { cls:=.type "list", data:=.seq its.toArray } };generalize (s.heap.push (seqObj "list" #[] 0)).update s.heap.objs.size (Obj.mapSeq (·++its.toArray))=h1 at keep1 ⊢;have I1:Inv X jP σ H { s with heap:=h1 }:=I.kept (t':=s.toks) keep1;have hoL:(h1.push { cls:=.type "list", data:=.seq its.toArray }).get? h1.objs.size=some (seqObj "list" its.toArray 0):=lH _ rfl;have hplc:Paired (PlcAt (h1.push { cls:=.type "list", data:=.seq its.toArray })) its (ps.map (·.1)):=zEU (λ b o Ω e=>lG _ e) (zIx I1.hok hp rv);refine lA (lE (wpAny_call_entry slot_list_sort ⟨_,hoL,rfl⟩ entry_list_sort (zFf hoL hplc nd (by omega) (by show X.A.units+1+1<cLine;omega) λ p pm asc=>⟨_,rfl,?_⟩) (args_list_sort _)));have pm':p.toList.Perm (List.range ps.length):=by have:=pm;unfold PermN at this;rw[hlv,←hlp] at this;exact this
 have hix:∀i∈p.toList,i<vs.length:=λ i hi=>by
  have:=List.mem_range.mp (pm'.mem_iff.mp hi);omega
 obtain⟨e,he⟩:∃e,(sortedHeap (h1.push { cls:=.type "list", data:=.seq its.toArray }) h1.objs.size its (List.toArray (p.toList.map λ i=>its.getD i Value.none))).get? h1.objs.size=some (seqObj "list" (List.toArray (p.toList.map λ i=>its.getD i Value.none)) e):=sortedHeap_at hoL;have hn1:=I1.hok.fresh (lQ h1.objs.size);refine lB ⟨_,rfl,⟨.ref h1.objs.size,upd H h1.objs.size (.lst (p.toList.map λ i=>vs.getD i .non)),I1.laid (t':=s.toks) (a:=h1.objs.size) (o:=.lst (p.toList.map λ i=>vs.getD i .non)) (λ b o hb=>?_) (lQ _) ⟨?_,_,e,zED rv p.toList hix,?_⟩,rfl,q _ _ (p.toList.map λ i=>ps.getD i ([],.non)) hn1 (zEa hp p.toList hix) (zGE _ ps pm') ?_⟩⟩
 ·rw[sortedHeap_old (Nat.ne_of_lt (Heap.lt_size hb)) (by rw[Heap.size_push];exact Nat.lt_succ_of_lt (lI hb))]
  exact lG _ hb
 ·rw[mD,pm'.length_eq,List.length_range]
  exact Nat.le_of_lt (zAK (by omega))
 ·rw[he]
 ·rw[List.pairwise_map]
  rw[List.pairwise_iff_getElem];intro i j hi hj hij;have hs:p.toList.length=ps.length:=by rw[pm'.length_eq,List.length_range]
  have ea:=asc i j hij (by omega)
  have g:∀k,(hk:k<p.toList.length)->p.getD k 0=p.toList[k]:=λ k hk=>by
   have:k<p.size:=by simpa using hk
   simp[Array.getD,this]
  have m:∀k,k<ps.length->(ps.map (·.1)).getD k []=(ps.getD k ([],.non)).1:=λ k hk=>by simp[hk]
  unfold lt at ea;rw[g i hi,g j hj] at ea;have hi':p.toList[i]<ps.length:=by have:=hix _ (List.getElem_mem hi);omega
  have hj':p.toList[j]<ps.length:=by have:=hix _ (List.getElem_mem hj);omega
  have ea':lexB ((ps.map (·.1)).getD p.toList[i] []) ((ps.map (·.1)).getD p.toList[j] [])=true:=ea;rw[m _ hi',m _ hj'] at ea';exact ea'
end
end L2
namespace PySem
open AutoSeq1
set_option maxRecDepth 8000 in
theorem zFn (l:Addr) (items:Array Value) (n:Nat) (b:Addr) (items2:Array Value) (n2:Nat) (dd:Option Addr) (sl:Array (Option Value)) (hs0:¬(!items.isEmpty && Builtin.List.listTooLong (items.size+items2.size))=true) (hs1:items.size<=sizeLine) (hs2:items.size+items2.size<=sizeLine+1) :
  Meets (Builtin.«list.extend» ⟨[.ref l,.ref b],[]⟩) (λ Ω R s=>s.heap.get? l=some { cls:=.type "list", dict:=none,data:=.seq items n,slots:=#[] }/\s.heap.get? b=some { cls:=.type "tuple", dict:=dd,data:=.seq items2 n2,slots:=sl }/\R (.ok (.ret Value.none)) { s with heap:=s.heap.update l (Obj.mapSeq λ x=>x++items2),toks:=s.toks }) :=
 .of_wp λ prog w A R s h=>by
  obtain⟨hp,g,d,tk,os⟩:=s;obtain⟨hl,hb,h⟩:=h;have f1:=idx_int;have f2:=sub_tuple_tuple;have f3:=sub_list_list;have f4:=sub_tuple_list;have f5:=sub_list_tuple;have hz':(items++items2).size<=sizeLine+1:=by rw[Array.size_append];exact hs2
  wp_walk using (wpAny_updateSeq hl rfl (hz:=hs1) (_hz':=hz')),wpAny_loadPart' hl,wpAny_loadPart' hb
  exact⟨_,rfl,h⟩
end PySem
namespace L2
open PySem PySem.Spec PyProof.Rows
section
variable {X:Cx}
def zKU (K:W.Frag):V->List V->Hp->VK->Prop:=λ x vs H Q=>∃l b xs zs,x = .ref l/\vs=[.ref b]/\H l=some (.lst xs)/\SqT K H b zs/\xs.length+zs.length<=sizeLine/\Q .non (upd H l (.lst (xs++zs)))
theorem zIK:MtM X "list.extend" (zKU X.K):=by
 intro jP s σ H x vs v us Q I rx rv h;obtain⟨l,b,xs,zs,rfl,rfl,hH,hB,hz,q⟩:=h;cases rx;obtain⟨u,rfl,ru⟩:=rv.one;cases ru;obtain⟨z,its,n,r,hl,e⟩:=I.lstM hH;obtain⟨its2,r2,p2,z2⟩:=I.tuple hB;obtain⟨⟨cls,dd,data,sl⟩,e2,hc,n2,hd⟩:=id p2;simp only at hc hd;subst hc hd;have hl2:=r2.length;have hsz:its.toArray.size+its2.toArray.size<=sizeLine:=by rw[mH,mH];omega
 have hlong:¬(!its.toArray.isEmpty && Builtin.List.listTooLong (its.toArray.size+its2.toArray.size))=true:=by
  rw[zHe hsz,Bool.and_false];exact lX
 refine call_meets F.slot_list_extend ⟨_,e,rfl⟩ F.entry_list_extend (F.args_list_extend_2 _ _)
  (zFn l its.toArray n b its2.toArray n2 dd sl hlong (by rw[mH];omega) (by omega)) ⟨e,e2,?_⟩
 refine⟨.non,_,I.lset (its':=its++its2) hH e (by simp) (r.append r2) ?_,rfl,q⟩;rw[mK];omega
def zMF:V->List V->Hp->VK->Prop:=λ x vs H Q=>∃(a:Addr) (kvs:List (Key × V)) (k:Key) (y:V),x = .ref a/\vs=[kV k,y]/\H a=some (.dK kvs)/\kvs.length<1000/\(∀z,valV kvs k=some z->Q z H)/\(valV kvs k=none->Q y (upd H a (.dK (putK kvs k y))))
theorem zFd:MtM X "dict.setdefault" zMF:=by
 intro jP s σ H x vs v us Q I rx rv h;obtain⟨a,kvs,k,y,rfl,rfl,ha,hl,q1,q2⟩:=h;cases rx;obtain⟨u1,u2,rfl,r1,r2⟩:=vals2 rv;obtain⟨z,hs,vs,rel,dd⟩:=dk_of I.hok ha;have hz:vs.length<=sizeLine:=by rw[←rel.length];exact z
 have hm:(putK kvs k y).length<=sizeLine:=by have:=zBp kvs k y;exact zAz (by omega)
 refine call_meetsIn PySem.F.slot_dict_setdefault dd.typeIs PySem.F.entry_dict_setdefault (PySem.F.args_dict_setdefault_3 _ _ _) (kt_meets_setdefault (zAd X.prog X.w) a (kV_is r1) hs u2) ⟨vs,dd,hz,λ w' e=>?_,λ e h' d1 hs1=>?_⟩
 ·have ro:=rel.val k
  rw[e] at ro;cases e2:valV kvs k with
  |none=>rw[e2] at ro;exact(show False from ro).elim
  |some y' =>
   rw[e2] at ro;exact⟨y',H,I.tok _,ro,q1 y' e2⟩
 ·have ro:=rel.val k
  rw[e] at ro
  have e2:valV kvs k=none:=by
   cases e2:valV kvs k with
   |none=>rfl
   |some y'=>rw[e2] at ro;exact(show False from ro).elim
  have he:∃q,h'.get? a=some q:=let ⟨q,_,_,hq,_⟩:=d1;⟨q,hq⟩;exact⟨y,_,zFq (t':=s.toks+1) I (by rw[ha];exact True.intro) hs1 he (zJq hm hs (rel.put k r2) d1),r2,q2 e2⟩
def tTupF (t:TA):TE:=λ σ H Q=>t σ H λ xs H1=>xs.length<=sizeLine/\∀(p:Addr) (o:Obj),H1 p=none->o.dict=none->Q (.ref p) (upd H1 p (.frz o (.tup xs)))
theorem zMP {es:List Expr}{t:TA}{x1} {pos:Pos}(h:PA X es t):PE X (.Tuple es x1 pos) (tTupF t):=by
 intro jP s σ H Q I hq;refine wpAny_Tuple_spliced (thn (h pos jP s σ H _ I hq) λ us s1 ⟨xs,H1,I1,r,z,q⟩=>⟨by rw[←r.length];exact z,?_⟩);have hf:H1 s1.heap.objs.size=none:=I1.hok.fresh (lQ _);refine⟨.ref s1.heap.objs.size,_,I1.laid (o:=.frz { cls:=.type "tuple", data:=.seq us.toArray } (.tup xs)) (t':=s1.toks) (λ b u e=>lG _ e) (lQ _) ?_,rfl,q _ _ hf rfl⟩;exact⟨lH _ rfl,z,us,r,⟨_,lH _ rfl,rfl,_,rfl⟩⟩
theorem zCi (hu:X.A.units+1<cLine):OpR X (compareOp .NotIn) (λ x y H Q=>∃(a:Addr) (o:Option V),y = .ref a/\DGet H a x o/\Q (.bl (!o.isSome)) H):=by
 intro jP s σ H x y v u Q I rx ry h;obtain⟨a,o,rfl,g,q⟩:=h;cases ry;exact zM2 hu I g rx λ s' I'=>⟨.bl (!o.isSome),H,I',rfl,q⟩
end
noncomputable def zDs:List V:=[.str "num", .str "name", .str "ask", .str "stop", .str "gap"]
def zDM (K:W.Frag) (lv:Addr):Prop:=∃(o:Obj) (its:Array Value) (n:Nat),K.lookup lv=some o/\o.cls = .type "tuple" /\ o.data = .seq its n/\its.size<=sizeLine/\Vals zDs its.toList
theorem zFj (k:Kd):inV (.str k.s) zDs=k.leaf:=by cases k<;>symm
theorem zLF (t:Tr):1<=t.head:=by cases t<;>simp[Tr.head]
theorem zHh:∀{ts:List Tr}{t:Tr},t∈ts->t.size<=(ts.map Tr.size).sum
 |a::ts,t,h=>by
  rw[mL,List.sum_cons];rcases lN.mp h with rfl|h
  ·omega
  ·have:=zHh h
   omega
theorem zFE (t:Tr):(t.parts.map Tr.size).sum+1=t.size:=by
 cases t<;>simp[Tr.parts,Tr.size]<;>omega
theorem zEY {t p:Tr}(h:p∈t.parts):p.size+1<=t.size:=by
 have:=zHh h;have:=zFE t;omega
theorem zH1 (t:Tr):1<=t.size:=by cases t<;>simp[Tr.size]
noncomputable def szT (ts:List Tr):Nat:=(ts.map Tr.size).sum
theorem zIa (a b:List Tr):szT (a++b)=szT a+szT b:=by simp[szT]
theorem zFP (a:Tr) (b:List Tr):szT (a::b)=a.size+szT b:=by simp[szT]
theorem zGi:∀ts:List Tr,ts.length<=szT ts
 |[]=>lQ _
 |t::ts=>by
  rw[zFP,mM];have:=zGi ts;have:=zH1 t;omega
theorem zHG (L:List Tr) (i:Nat):szT (L.take i)<=szT L:=by
 have e:szT L=szT (L.take i)+szT (L.drop i):=by rw[←zIa,List.take_append_drop]
 omega
theorem zIZ (t:Tr):szT t.parts+1=t.size:=zFE t
noncomputable def Tr.subs:Tr->List Tr
 |.say a=>.say a::a.subs
 |.bin o a b=>.bin o a b::(a.subs++b.subs)
 |.ite a b c=>.ite a b c::(a.subs++(b.subs++c.subs))
 |.lett x a b=>.lett x a b::(a.subs++b.subs)
 |t=>[t]
theorem zA6 (t:Tr):t.subs=t::t.parts.flatMap Tr.subs:=by
 cases t<;>simp[Tr.subs,Tr.parts]
theorem zC8:∀L:List Tr,szT (L.flatMap Tr.parts)+L.length=szT L
 |[]=>rfl
 |t::L=>by
  have ih:=zC8 L;have:=zIZ t;rw[rF,zIa,zFP,mM];omega
theorem zFD:∀L:List Tr,(L.flatMap Tr.subs).Perm (L++(L.flatMap Tr.parts).flatMap Tr.subs)
 |[]=>.refl _
 |t::L=>by
  rw[rF,zA6 t,List.cons_append,List.cons_append,rF,nI];refine .cons _ ?_;refine((zFD L).append_left _).trans ?_;rw[←mX,←mX];exact List.perm_append_comm.append_right _
abbrev PlT:=List Int × Tr
noncomputable def kidsP (x:PlT):List PlT:=x.2.parts.zipIdx.map λ q=>(x.1++[(q.2:Int)],q.1)
noncomputable def psub:List Int->Tr->List PlT
 |pl,.say a=>(pl,.say a)::psub (pl++[0]) a
 |pl,.bin o a b=>(pl,.bin o a b)::(psub (pl++[0]) a++psub (pl++[1]) b)
 |pl,.ite a b c=>(pl,.ite a b c)::(psub (pl++[0]) a++(psub (pl++[1]) b++psub (pl++[2]) c))
 |pl,.lett x a b=>(pl,.lett x a b)::(psub (pl++[0]) a++psub (pl++[1]) b)
 |pl,.num n=>[(pl,.num n)]
 |pl,.name n=>[(pl,.name n)]
 |pl,.ask n=>[(pl,.ask n)]
 |pl,.stop n=>[(pl,.stop n)]
 |pl,.gap n as=>[(pl,.gap n as)]
theorem zMH (pl:List Int) (t:Tr):psub pl t=(pl,t)::(kidsP (pl,t)).flatMap λ x=>psub x.1 x.2:=by
 cases t<;>simp[psub,kidsP,Tr.parts,List.zipIdx]
theorem zBb:∀(t:Tr) (pl:List Int),(psub pl t).map (·.2)=t.subs
 |.say a,pl=>by simp[psub,Tr.subs,zBb a]
 |.bin o a b,pl=>by simp[psub,Tr.subs,zBb a,zBb b]
 |.ite a b c,pl=>by simp[psub,Tr.subs,zBb a,zBb b,zBb c]
 |.lett x a b,pl=>by simp[psub,Tr.subs,zBb a,zBb b]
 |.num _,_=>rfl
 |.name _,_=>rfl
 |.ask _,_=>rfl
 |.stop _,_=>rfl
 |.gap _ _,_=>rfl
theorem zBS:∀(t:Tr) (pl:List Int),(psub pl t).length=t.size
 |.say a,pl=>by simp[psub,Tr.size,zBS a]
 |.bin o a b,pl=>by simp[psub,Tr.size,zBS a,zBS b]
 |.ite a b c,pl=>by simp[psub,Tr.size,zBS a,zBS b,zBS c];omega
 |.lett x a b,pl=>by simp[psub,Tr.size,zBS a,zBS b]
 |.num _,_=>rfl
 |.name _,_=>rfl
 |.ask _,_=>rfl
 |.stop _,_=>rfl
 |.gap _ _,_=>rfl
theorem zCu:∀(t:Tr) (pl:List Int),∀p∈(psub pl t).map (·.1),∃r,p=pl++r:=by
 have one:∀{pl p:List Int}{i:Int},(∃r,p=pl++[i]++r)->∃r,p=pl++r:=λ{pl p i} h=>by
  obtain⟨r,e⟩:=h;exact⟨[i]++r,by rw[e,mX]⟩
 intro t
 induction t with
 |say a ih =>
  intro pl p hp;simp only[psub,mL] at hp;rcases lN.mp hp with rfl|hp
  ·exact⟨[],by simp⟩
  ·exact one (ih _ p hp)
 |bin o a b iha ihb =>
  intro pl p hp;simp only[psub,mL,mP] at hp;rcases lN.mp hp with rfl|hp
  ·exact⟨[],by simp⟩
  ·rcases lK.mp hp with hp|hp
   ·exact one (iha _ p hp)
   ·exact one (ihb _ p hp)
 |ite a b c iha ihb ihc =>
  intro pl p hp;simp only[psub,mL,mP] at hp;rcases lN.mp hp with rfl|hp
  ·exact⟨[],by simp⟩
  ·rcases lK.mp hp with hp|hp
   ·exact one (iha _ p hp)
   ·rcases lK.mp hp with hp|hp
    ·exact one (ihb _ p hp)
    ·exact one (ihc _ p hp)
 |lett x a b iha ihb =>
  intro pl p hp;simp only[psub,mL,mP] at hp;rcases lN.mp hp with rfl|hp
  ·exact⟨[],by simp⟩
  ·rcases lK.mp hp with hp|hp
   ·exact one (iha _ p hp)
   ·exact one (ihb _ p hp)
 |_ =>
  intro pl p hp;simp[psub] at hp;exact⟨[],by simp[hp]⟩
theorem zDC {t u:Tr}{pl:List Int}{i j:Int}(ne:i≠j):∀p∈(psub (pl++[i]) t).map (·.1),∀q∈(psub (pl++[j]) u).map (·.1),p≠q:=λ p hp q hq e=>by
 obtain⟨r,rfl⟩:=zCu t _ p hp;obtain⟨r',e'⟩:=zCu u _ q hq;rw[e'] at e;rw[mX,mX] at e;have:=List.append_cancel_left e;simp at this;exact ne this.1
theorem zBu {t:Tr}{pl:List Int}{i:Int}:pl∉(psub (pl++[i]) t).map (·.1):=λ h=>by
 obtain⟨r,e⟩:=zCu t _ _ h;have:=congrArg List.length e;simp at this
theorem zCT:∀(t:Tr) (pl:List Int),((psub pl t).map (·.1)).Nodup
 |.say a,pl=>by
  simp only[psub,mL,rC];exact⟨zBu,zCT a _⟩
 |.bin o a b,pl=>by
  simp only[psub,mL,rC,mP,List.nodup_append,nK,not_or];exact⟨⟨zBu,zBu⟩,zCT a _,zCT b _,zDC (by decide)⟩
 |.lett x a b,pl=>by
  simp only[psub,mL,rC,mP,List.nodup_append,nK,not_or];exact⟨⟨zBu,zBu⟩,zCT a _,zCT b _,zDC (by decide)⟩
 |.ite a b c,pl=>by
  simp only[psub,mL,rC,mP,List.nodup_append,nK,not_or];refine⟨⟨zBu,zBu,zBu⟩,zCT a _,⟨zCT b _,zCT c _,zDC (by decide)⟩,λ p hp q hq=>?_⟩;rcases hq with hq|hq
  ·exact zDC (by decide) p hp q hq
  ·exact zDC (by decide) p hp q hq
 |.num _,_=>by simp[psub]
 |.name _,_=>by simp[psub]
 |.ask _,_=>by simp[psub]
 |.stop _,_=>by simp[psub]
 |.gap _ _,_=>by simp[psub]
noncomputable def allP (L:List PlT):List PlT:=L.flatMap λ x=>psub x.1 x.2
theorem zFL:∀L:List PlT,(allP L).Perm (L++allP (L.flatMap kidsP))
 |[]=>.nil
 |x::L=>by
  have ih:=zFL L;unfold allP at ih ⊢;rw[rF,zMH,rF,nI,List.cons_append,List.cons_append];refine List.Perm.cons _ ?_;refine(ih.append_left _).trans ?_;rw[←mX,←mX];exact List.Perm.append_right _ List.perm_append_comm
theorem zJU {pl:List Int}{t:Tr}{j:Nat}{c:Tr}(h:t.parts[j]?=some c):(kidsP (pl,t))[j]?=some (pl++[(j:Int)],c):=by
 unfold kidsP;rw[mJ,List.getElem?_zipIdx];simp[h]
theorem zJT (pl:List Int) (t:Tr):(kidsP (pl,t)).length=t.parts.length:=by simp[kidsP]
noncomputable def szP (L:List PlT):Nat:=szT (L.map (·.2))
theorem zJS (x:PlT):(kidsP x).map (·.2)=x.2.parts:=by
 unfold kidsP;rw[nP];have:((λ x:PlT=>x.2) ∘ λ q:Tr × Nat=>(x.1++[(q.2:Int)],q.1))=Prod.fst:=rfl;rw[this,List.zipIdx_map_fst]
theorem zFx (L:List PlT):szP (L.flatMap kidsP)+L.length=szP L:=by
 have:=zC8 (L.map (·.2));unfold szP;rw[List.map_flatMap]
 have e:(L.flatMap λ x=>(kidsP x).map (·.2))=(L.map (·.2)).flatMap Tr.parts:=by
  rw[List.flatMap_map];congr 1;funext x;exact zJS x
 rw[e];rw[mD] at this;exact this
theorem zL4 (L:List PlT):L.length<=szP L:=by have:=zGi (L.map (·.2));rw[mD] at this;exact this
theorem zDE (t:Tr):t.parts.length<=3:=by cases t<;>simp[Tr.parts]
theorem zLW (L:List PlT):(allP L).length=szP L:=by
 induction L with
 |nil=>rfl
 |cons x L ih =>
  unfold allP at ih ⊢;unfold szP at ih ⊢;rw[rF,mK,ih,mL,zFP,zBS]
theorem zHk:∀(pl:List Int) (i:Int) (r:List Int),lexB pl (pl++i::r)=true
 |[],_,_=>rfl
 |a::pl,i,r=>by rw[List.cons_append,lexB,if_pos rfl];exact zHk pl i r
theorem zGK:∀(pl:List Int) {i j:Int}(r r':List Int),i<j->lexB (pl++i::r) (pl++j::r')=true
 |[],i,j,r,r',h=>by
  rw[nS,nS,lexB,if_neg (by omega)];exact lU h
 |a::pl,i,j,r,r',h=>by rw[List.cons_append,List.cons_append,lexB,if_pos rfl];exact zGK pl r r' h
theorem zCm {t:Tr}{pl:List Int}{i:Int}:∀p∈(psub (pl++[i]) t).map (·.1),lexB pl p=true:=λ p hp=>by
 obtain⟨r,rfl⟩:=zCu t _ p hp;rw[mX];exact zHk pl i r
theorem zEv {t u:Tr}{pl:List Int}{i j:Int}(h:i<j):∀p∈(psub (pl++[i]) t).map (·.1),∀q∈(psub (pl++[j]) u).map (·.1),lexB p q=true:=λ p hp q hq=>by
 obtain⟨r,rfl⟩:=zCu t _ p hp;obtain⟨r',rfl⟩:=zCu u _ q hq;rw[mX,mX];exact zGK pl r r' h
theorem zBc:∀(t:Tr) (pl:List Int),((psub pl t).map (·.1)).Pairwise λ a b=>lexB a b=true
 |.say a,pl=>by
  simp only[psub,mL,List.pairwise_cons];exact⟨zCm,zBc a _⟩
 |.bin o a b,pl=>by
  simp only[psub,mL,List.pairwise_cons,mP,List.pairwise_append];exact⟨λ p hp=>(lK.mp hp).elim (zCm p) (zCm p),zBc a _,zBc b _,zEv (by decide)⟩
 |.lett x a b,pl=>by
  simp only[psub,mL,List.pairwise_cons,mP,List.pairwise_append];exact⟨λ p hp=>(lK.mp hp).elim (zCm p) (zCm p),zBc a _,zBc b _,zEv (by decide)⟩
 |.ite a b c,pl=>by
  simp only[psub,mL,List.pairwise_cons,mP,List.pairwise_append];refine⟨λ p hp=>(lK.mp hp).elim (zCm p) λ hp=>(lK.mp hp).elim (zCm p) (zCm p),zBc a _,⟨zBc b _,zBc c _,zEv (by decide)⟩,λ p hp q hq=>?_⟩;exact(lK.mp hq).elim (zEv (by decide) p hp q) (zEv (by decide) p hp q)
 |.num _,_=>by simp[psub]
 |.name _,_=>by simp[psub]
 |.ask _,_=>by simp[psub]
 |.stop _,_=>by simp[psub]
 |.gap _ _,_=>by simp[psub]
end L2
namespace PySem
open Sem (wp)
end PySem
namespace PySem.W
open PySem
end PySem.W
namespace PySem
open Sem (wp)
section
variable {prog:Program}{w:World}{A:Around}{E:XQ}{s:Shared}
theorem zD0 (a:Value) {Q₁:XQ}(h:Q₁ (.ref s.heap.objs.size) { s with heap:=s.heap.push { cls:=.type "set", data:=.set #[] 0 (SetTable.fresh 0 0 (!w.params.followText "set-order")) } }) :
  codeAny (model prog w) A (.call (.builtin "set.__new__") ⟨[.type "set", a],[]⟩) (wants Q₁ E) s:=by
 refine codeAny_of_tree ?_;show wpAny _ _ (checkBuiltinCall "set.__new__" _ >>= _) _ _ _;refine lA (wpAny_of_eq (F.newCall_set_1 a) (lB ⟨plainId_quiet F.plain_set_new _,codeAny_builtin F.entry_set_new ?_⟩));rw[Around.under_plainId F.plain_set_new _];have hsub:=sub_set_self;obtain⟨hp,g,d,tk,os⟩:=s;unfold Builtin.«set.__new__»;refine lA ?_;unfold Builtin.Frozenset.newClass;dsimp only;refine lA (wpAny_of_eq (a:=true) rfl ?_);refine lD (by rfl) ?_;refine lA (wpAny_of_eq hsub (lD (by rfl) (lB ?_)));refine lA ?_;unfold newSet;refine lA (m:=setsByText) (lA (wpAny_askSetting (lB ?_)));dsimp only;refine wpAny_newObj_type ?_ (by size_fits);exact lB h
theorem zBy (b:Bool):(SetTable.fresh 0 0 b).fits 0=true:=by cases b<;>rfl
noncomputable def zBU (es:Array (Int × Value)) (ep:Nat) (t:SetTable):Obj:={ cls:=.type "set", data:=.set es ep t }
end
section
variable {prog:Program}{w:World}{A:Around}{E:XQ}{s:Shared}
def SetN (h:Heap) (d:Addr) (es:Array (Int × Value)) (ep:Nat) (t:SetTable):Prop:=h.get? d=some (zBU es ep t)
structure TabN (w:World) (es:Array (Int × Value)) (t:SetTable):Prop where
 ft:t.fits es.size=true
 ld:w.params.followText "set-order" = false->t.led=true
 pl:1<=es.size->t.plain=false
noncomputable def strOf:Value->Str
 |.str x _=>x
 |_=>⟨#[]⟩
structure EsOk (es:Array (Int × Value)) (ks:List Str):Prop where
 tx:∀e∈es.toList,∃x t,e.2 = .str x t
 pm:(es.toList.map λ e=>strOf e.2).Perm ks
theorem zGF (t:SetTable) (n:Nat):(t.orStandIn n).led=t.led/\(t.plain=false->(t.orStandIn n).plain=false):=by
 unfold SetTable.orStandIn;split
 ·exact⟨rfl,λ h=>h⟩
 ·exact⟨rfl,λ Ω=>rfl⟩
theorem zK9 (t:SetTable) (es:Array (Int × Value)) (h:Int) (x:Value):(layNew t es h x).2.1.led=t.led/\(t.plain=false->(layNew t es h x).2.1.plain=false):=by
 unfold layNew;cases e:t.freeSlot h with
 |none=>exact⟨rfl,λ Ω=>rfl⟩
 |some q =>
  obtain⟨j,wd⟩:=q;exact zGF (t.put j).1 (SetTable.insertAt es (t.put j).2 (h,x)).size
theorem zH6 (t:SetTable) (es:Array (Int × Value)) (n:Nat):(relayAll t es n).2.1.led=t.led/\(t.plain=false->(relayAll t es n).2.1.plain=false):=by
 unfold relayAll;cases e:t.relaid (es.map (·.1)) n with
 |none=>exact⟨rfl,λ Ω=>rfl⟩
 |some q =>
  obtain⟨t',order⟩:=q
  have ht:t'.led=t.led/\t'.plain=t.plain:=by
   unfold SetTable.relaid SetTable.laid at e;cases e2:SetTable.layClean (SetTable.sizeAbove n - 1) (es.map (·.1)) with
   |none=>rw[e2] at e;cases e
   |some owner =>
    rw[e2] at e;have e3:=congrArg (Option.map (·.1)) e;have e4:some _=some t':=e3;injection e4 with e4
    rw[←e4];exact⟨rfl,rfl⟩
  dsimp only;split
  ·exact⟨ht.1,λ h=>by rw[ht.2];exact h⟩
  ·exact⟨rfl,λ Ω=>rfl⟩
theorem EsOk.mem {es:Array (Int × Value)}{ks:List Str}(h:EsOk es ks) (x:Str):x∈ks↔∃e∈es.toList,e.2.isStr x=true:=by
 rw[←h.pm.mem_iff,List.mem_map];constructor
 ·rintro⟨e,he,rfl⟩
  obtain⟨y,t,ey⟩:=h.tx e he;exact⟨e,he,by rw[ey];simp[strOf,Value.isStr]⟩
 ·rintro⟨e,he,hs⟩
  obtain⟨y,t,ey⟩:=h.tx e he;refine⟨e,he,?_⟩;rw[ey] at hs ⊢;simpa[Value.isStr,strOf] using hs
theorem zGm {d:Addr}{x:Str}{tk:Tok}{h0:Int}{es:Array (Int × Value)}{ep:Nat}{t:SetTable}{ks:List Str}{Q:Bool->Shared->Prop}(hd:SetN s.heap d es ep t) (ht:TabN w es t) (he:EsOk es ks) (hsz:es.size<200)
  (hQ0:x∈ks->Q false s) (hQ1:x∉ks->∀h' es' ep' t',SetN h' d es' ep' t'->TabN w es' t'->EsOk es' (ks++[x])->es'.size=es.size+1->Heap.SameBut d s.heap h'->Q true { s with heap:=h' }):wpAny (model prog w) A (setAddHashed d (.str x tk) h0) Q E s:=by
 have hall:(es.all λ e=>isExactStrKey e.2)=true:=by
  rw[Array.all_eq_true_iff_forall_mem];intro e hm;obtain⟨y,t,ey⟩:=he.tx e (by simpa using hm);rw[ey];rfl
 have hscan:(es.all λ e=>e.2.scannable)=true:=by
  rw[Array.all_eq_true_iff_forall_mem];intro e hm;obtain⟨y,t,ey⟩:=he.tx e (by simpa using hm);rw[ey];rfl
 have hbd:es.size<scanBound:=Nat.lt_trans hsz (by decide);unfold setAddHashed;refine lE ?_;rw[setAddHashedIn.eq_def];dsimp only;refine lA (wpAny_setState_of hd rfl ht.ft ?_);dsimp only;refine wpAny_ite_true (by unfold byScan;rw[hscan];simp[Value.scannable,hbd]) ?_;refine lA ?_;unfold setAddByScan;refine lA (wpAny_rule ?_);unfold setScan;dsimp only;rw[if_pos hall];unfold setScanStrs;cases hf:es.findIdx? (λ e=>e.2.isStr x) with
 |some i =>
  obtain⟨hi,hp,_⟩:=Array.findIdx?_eq_some_iff_getElem.mp hf;have hm:es[i]∈es.toList:=by simp
  have hk:x∈ks:=(he.mem x).mpr ⟨es[i],hm,hp⟩;obtain⟨y,ty,ey⟩:=he.tx es[i] hm;have exy:y=x:=by rw[ey] at hp;simpa[Value.isStr] using hp
  subst exy;dsimp only;rw[Array.getElem?_eq_getElem hi];have e1:es[i]=(es[i].1,Value.str y ty):=by rw[←ey]
  rw[e1];dsimp only;refine lA (lA (wpAny_setEpoch_of hd rfl ht.ft ?_));refine lA ((strKind prog w).eqBool (a:=y) (b:=y) (by simp[strKind,Value.isStrOf]) (by simp[strKind,Value.isStrOf]) ?_);refine wpAny_ite_true (by simp) (lB (lB (lB (hQ0 hk))))
 |none =>
  have hk:x∉ks:=λ z=>by
   obtain⟨e,hm,hp⟩:=(he.mem x).mp z;have:=Array.findIdx?_eq_none_iff.mp hf e (by simpa using hm);rw[this] at hp;cases hp
  dsimp only;refine lA (lB ?_);have kp:=zK9 t es h0 (.str x tk);have pm:=layNew_perm t es h0 (.str x tk);have ft:=layNew_fits t es h0 (.str x tk);generalize layNew t es h0 (.str x tk)=L at kp pm ft ⊢;obtain⟨es1,t1,wd,gv⟩:=L;dsimp only at kp pm ft ⊢
  have s1:es1.size=es.size+1:=by
   have:=pm.length_eq;simpa using this
  have e1:EsOk es1 (ks++[x]):=by
   refine⟨λ e hm=>?_,?_⟩
   ·have hm2:=pm.mem_iff.mp hm
    rw[Array.toList_push] at hm2;rcases lK.mp hm2 with h|h
    ·exact he.tx e h
    ·rw[mQ.mp h]
     exact⟨x,tk,rfl⟩
   ·refine(pm.map _).trans ?_
    rw[Array.toList_push,mP];exact he.pm.append (List.Perm.refl _)
  have fin:∀(t2:SetTable) (Kf:Bool->Sem Unit),(∀(p:Bool) (s₁:Shared) (Q':Unit->Shared->Prop),Q' () s₁->wpAny (model prog w) A (Kf p) Q' E s₁)->t2.led=t.led->t2.plain=false->t2.fits es1.size=true->wpAny (model prog w) A (storeSet d es1 t2 >>= λ Ω=>if (!wd && t2.tooFull)=true then (Kf (relayAll t2 es1 (SetTable.grown es1.size)).2.2 >>= λ Ω=>storeSet d (relayAll t2 es1 (SetTable.grown es1.size)).1 (relayAll t2 es1 (SetTable.grown es1.size)).2.1 >>= λ Ω=>pure (some true)) else pure (some true)) (λ a s'=>wpAny (model prog w) A (match a with|some added=>pure added|none=>setAddHashedIn d (Value.str x tk) h0 99999) Q E s') E s:=by
   intro t2 Kf hK p1 p2 p3;refine lA (wpAny_storeSet_of hd rfl ?_ (mG (by omega:es1.size<=1000) (by decide)));have n1:SetN (s.heap.update d (Obj.putSet es1 t2)) d es1 (ep+1) t2:=mI _ hd (by rfl);have tn:TabN w es1 t2:=⟨p3,λ z=>by rw[p1];exact ht.ld z,λ Ω=>p2⟩
   by_cases hu:(!wd && t2.tooFull)=true
   ·refine wpAny_ite_true (lU hu) ?_
    refine lA (hK _ _ _ ?_);have kp2:=zH6 t2 es1 (SetTable.grown es1.size);have pm2:=relayAll_perm t2 es1 (SetTable.grown es1.size);have ft2:=relayAll_fits t2 es1 (SetTable.grown es1.size);generalize relayAll t2 es1 (SetTable.grown es1.size)=L2 at kp2 pm2 ft2 ⊢;obtain⟨es2,t3,gv2⟩:=L2;dsimp only at kp2 pm2 ft2 ⊢;have s2:es2.size=es1.size:=by simpa using pm2.length_eq
    refine lA (wpAny_storeSet_of (s:={ s with heap:=s.heap.update d (Obj.putSet es1 t2) }) n1 rfl ?_ (mG (by omega:es2.size<=1000) (by decide)));refine lB (lB (hQ1 hk _ es2 (ep+1+1) t3 (mI _ n1 (by rfl)) ⟨ft2,λ z=>by rw[kp2.1,p1];exact ht.ld z,λ Ω=>kp2.2 p2⟩ ⟨λ e hm=>e1.tx e (pm2.mem_iff.mp hm),(pm2.map _).trans e1.pm⟩ (by omega) ((Heap.SameBut.update ..).trans (Heap.SameBut.update ..))))
   ·refine lD (decide_eq_false hu) ?_
    exact lB (lB (hQ1 hk _ es1 (ep+1) t2 n1 tn e1 s1 (Heap.SameBut.update ..)))
  refine lA ?_;cases gv
  ·first|refine lB ?_|refine wpAny_rule ?_
   by_cases hp:t1.plain=true
   ·refine wpAny_ite_true (lU hp) (lA (wpAny_of_eq (hashByValue.eq_5 _ _ _) ?_))
    exact fin { t1 with plain:=false } _ (λ b s₁ Q' h=>by cases b;(first|exact lB h|exact wpAny_rule h);(first|exact wpAny_rule h|exact lB h)) kp.1 rfl ft
   ·refine lD (decide_eq_false hp) (lA (lB ?_))
    exact fin t1 _ (λ b s₁ Q' h=>by cases b;(first|exact lB h|exact wpAny_rule h);(first|exact wpAny_rule h|exact lB h)) kp.1 (Bool.eq_false_iff.mpr hp) ft
  ·first|refine wpAny_rule ?_|refine lB ?_
   by_cases hp:t1.plain=true
   ·refine wpAny_ite_true (lU hp) (lA (wpAny_of_eq (hashByValue.eq_5 _ _ _) ?_))
    exact fin { t1 with plain:=false } _ (λ b s₁ Q' h=>by cases b;(first|exact lB h|exact wpAny_rule h);(first|exact wpAny_rule h|exact lB h)) kp.1 rfl ft
   ·refine lD (decide_eq_false hp) (lA (lB ?_))
    exact fin t1 _ (λ b s₁ Q' h=>by cases b;(first|exact lB h|exact wpAny_rule h);(first|exact wpAny_rule h|exact lB h)) kp.1 (Bool.eq_false_iff.mpr hp) ft
noncomputable def ddS (ks:List Str) (x:Str):List Str:=if x∈ks then ks else ks++[x]
noncomputable def dd (xs:List Str):List Str:=xs.foldl ddS []
theorem zJu (xs:List Str) (x:Str):dd (xs++[x])=ddS (dd xs) x:=by unfold dd;rw[List.foldl_append];rfl
theorem zHJ {us:List Value}{xs:List Str}{i:Nat}{x:Str}(z:PyProof.Rows.StrsAre us xs):xs[i]?=some x->∃tk,us[i]?=some (.str x tk):=by
 induction z generalizing i with
 |nil=>exact λ e=>nomatch e
 |cons y tk r ih=>cases i with
  |zero=>exact λ e=>⟨tk,by cases e;rfl⟩
  |succ i=>exact λ e=>ih (i:=i) (by simpa using e)
theorem zF9 {d it l:Addr}{vs:Array Value}{xs:List Str}{R:Result->Shared->Prop}(hh:A.handled=none) (hv:PyProof.Rows.StrsAre vs.toList xs) (n1:d≠it) (n2:l≠it) (n3:l≠d) (hlen:xs.length<=100) :
  ∀(m i:Nat) (s:Shared) (es:Array (Int × Value)) (ep:Nat) (t:SetTable),vs.size - i=m->i<=vs.size->s.heap.IsListIter it l i->s.heap.IsList l vs->SetN s.heap d es ep t->TabN w es t->EsOk es (dd (xs.take i))->es.size<=i ->
  (∀h' es' ep' t' tk',SetN h' d es' ep' t'->TabN w es' t'->EsOk es' (dd xs)->es'.size<=100->(∀b o,b≠d->b≠it->s.heap.get? b=some o->h'.get? b=some o)->R (.ok (.ret .none)) { s with heap:=h',toks:=tk' }) ->
  codeAny (model prog w) A (.builtin "set.update.loop" ⟨[.ref d,.ref it],[]⟩) R s:=by
 have hl:vs.size=xs.length:=by have:=hv.length;simpa using this
 intro m
 induction m with
 |zero =>
  intro i s es ep t hm hi hit hL hd ht he hes hR;have ei:i=vs.size:=by omega
  subst ei;refine codeAny_builtin PyProof.Rows.F.entry_set_update_loop ?_;rw[Around.under_plainId PyProof.Rows.F.plain_set_update_loop _];unfold Builtin.«set.update.loop»;dsimp only;refine lA (wpAny_pyNext_list_end (show A.in1.handled=none from hh) hit hL (by simp) λ h3 he3=>?_);rw[hl,mO] at he;exact lB (hR h3 es ep t s.toks (he3 d _ n1 hd) ht he (by omega) λ b o nb ni e=>he3 b o ni e)
 |succ m ih =>
  intro i s es ep t hm hi hit hL hd ht he hes hR;have hlt:i<vs.size:=by omega
  obtain⟨x,hx⟩:∃x,xs[i]?=some x:=⟨_,lW (by omega)⟩
  obtain⟨tk,hvx⟩:∃tk,vs[i]?=some (.str x tk):=by
   obtain⟨tk,h⟩:=zHJ hv hx;exact⟨tk,by rw[←nG];exact h⟩
  refine codeAny_builtin PyProof.Rows.F.entry_set_update_loop ?_;rw[Around.under_plainId PyProof.Rows.F.plain_set_update_loop _];unfold Builtin.«set.update.loop»;dsimp only;refine lA (wpAny_pyNext_list_item hit hL (x:=.str x tk) hvx λ h1 hit1 hs1=>?_);dsimp only;refine lA (lE ?_);unfold setAdd;refine lE (lA ((strKind prog w).pyHash (k:=x) (v:=.str x tk) (by simp[strKind,Value.isStrOf]) ?_));have etk:xs.take (i+1)=xs.take i++[x]:=by rw[List.take_add_one,hx];rfl
  have hL1:∀h2,Heap.SameBut d h1 h2\/h2=h1->h2.IsList l vs:=λ h2 hs2=>by
   obtain⟨o,ho,r⟩:=hL;rcases hs2 with hs2|rfl
   ·exact⟨o,hs2.extBut l o n3 (hs1.extBut l o n2 ho),r⟩
   ·exact⟨o,hs1.extBut l o n2 ho,r⟩
  refine zGm (s:={ s with heap:=h1,toks:=s.toks+1 }) (hs1.extBut d _ n1 hd) ht he (by omega) (λ hin=>?_) (λ hnin h2 es2 ep2 t2 hd2 ht2 he2 hz2 hs2=>?_)
  ·refine lB ⟨plainId_quiet PyProof.Rows.F.plain_set_update_loop _,?_⟩
   refine ih (i+1) _ es ep t (by omega) hlt hit1 (hL1 h1 (.inr rfl)) (hs1.extBut d _ n1 hd) ht (by rw[etk,zJu,ddS,if_pos hin];exact he) (by omega) λ h' es' ep' t' tk' a b c d' k=>?_;exact hR h' es' ep' t' tk' a b c d' λ b o nb ni e=>k b o nb ni (hs1.extBut b o ni e)
  ·refine lB ⟨plainId_quiet PyProof.Rows.F.plain_set_update_loop _,?_⟩
   refine ih (i+1) _ es2 ep2 t2 (by omega) hlt (hit1.extBut hs2.extBut (Ne.symm n1)) (hL1 h2 (.inl hs2)) hd2 ht2 (by rw[etk,zJu,ddS,if_neg hnin];exact he2) (by omega) λ h' es' ep' t' tk' a b c d' k=>?_;exact hR h' es' ep' t' tk' a b c d' λ b o nb ni e=>k b o nb ni (hs2.extBut b o nb (hs1.extBut b o ni e))
theorem zGV {l:Addr}{vs:Array Value}{xs:List Str}{Q:XQ}(hh:A.handled=none) (hl:s.heap.IsList l vs) (hv:PyProof.Rows.StrsAre vs.toList xs) (hlen:xs.length<=100)
  (h:∀h' es ep t tk',SetN h' s.heap.objs.size es ep t->TabN w es t->EsOk es (dd xs)->es.size<=100->(∀b o,s.heap.get? b=some o->h'.get? b=some o)->Q (.ref s.heap.objs.size) { s with heap:=h',toks:=tk' }) :
  wpAny (model prog w) A (call (.type "set") [.ref l]) Q E s:=by
 obtain⟨c,tl,hmro⟩:=F.called_set.mro;have hmade:=F.called_set.made;have hsub:=F.called_set.sub;refine wpAny_call (codeAny_of_tree ?_);refine lB ⟨Code.quiet_builtin _ (by symm),codeAny_builtin F.entry_type_call ?_⟩;rw[Around.under_plain (weight_type_call_type "set" [.ref l] []) rfl];have h1:=F.called_set.notType;have h2:=F.called_set.canCreate;have hct:=F.typeCall_set_1 (.ref l);unfold Builtin.«type.__call__»;dsimp only;refine lD (decide_eq_false (by rw[h1];exact lX)) ?_;refine lD (decide_eq_false (by rw[h2];exact lX)) ?_;refine lA (wpAny_of_eq hct (lA (wpAny_of_eq hmro ?_)));refine lD (by rfl) ?_;refine lA (wpAny_of_eq hmade ?_);dsimp only;refine lA (lB ?_);refine lA (lE (wpAny_call (codeAny_mono (zD0 (E:=E) (Q₁:=λ obj s₁=>obj = .ref s.heap.objs.size/\s₁={ s with heap:=s.heap.push (zBU #[] 0 (SetTable.fresh 0 0 (!w.params.followText "set-order"))) }) (.ref l) ⟨rfl,rfl⟩) λ r s₁ hr=>?_)));rcases r with e|f
 ·exact hr
 cases f with
 |ret v=>?_
 |_=>exact hr
 obtain⟨rfl,rfl⟩:=hr;have hd:=lH (h:=s.heap) (o:=zBU #[] 0 (SetTable.fresh 0 0 (!w.params.followText "set-order"))) rfl;have hT:(⟨s.heap.push (zBU #[] 0 (SetTable.fresh 0 0 (!w.params.followText "set-order"))),s.gens,s.drawn,s.toks,s.os⟩:Shared).TypeIs (.ref s.heap.objs.size) "set" := ⟨_,hd,rfl⟩;refine lA (wpAny_isInstance hT hsub (lD (by rfl) ?_));refine lA (lE (wpAny_callSpecial?_slot (name:=Str.ofString "__init__") hT F.called_set.init (wpAny_call (codeAny_call_builtin F.called_set.init.plain F.entry_set_init (check_set_init_1 hT ?_)))));have kp0:∀b o,s.heap.get? b=some o->(s.heap.push (zBU #[] 0 (SetTable.fresh 0 0 (!w.params.followText "set-order")))).get? b=some o:=λ b o hb=>lG _ hb
 have hl0:(s.heap.push (zBU #[] 0 (SetTable.fresh 0 0 (!w.params.followText "set-order")))).IsList l vs:=by
  obtain⟨o,ho,r⟩:=hl;exact⟨o,kp0 l o ho,r⟩
 have lt:l<s.heap.objs.size:=let ⟨o,ho,_⟩:=hl;lI ho;unfold Builtin.«set.__init__»;refine lA (wpAny_of_eq (a:=()) (by rfl) ?_);dsimp only;have hsl:=F.sub_list_set;have hsf:=F.sub_list_frozenset;refine lA ?_;unfold typeNameOfCut;have hTl:(⟨s.heap.push (zBU #[] 0 (SetTable.fresh 0 0 (!w.params.followText "set-order"))),s.gens,s.drawn,s.toks,s.os⟩:Shared).TypeIs (.ref l) "list" := let ⟨o,ho,hc,_⟩:=hl0;⟨o,ho,hc⟩
 repeat (any_goals (first|assumption|exact hT|(with_reducible refine wpAny_isInstance hTl hsl ?_)|(with_reducible refine wpAny_isInstance hTl hsf ?_)|(with_reducible refine wpAny_pyIter_list hl0 ?_)|(with_reducible refine wpAny_typeOf hTl ?_)|(with_reducible refine wpAny_runValue ?_)|wp_step))
 have ltp:s.heap.objs.size<(s.heap.push (zBU #[] 0 (SetTable.fresh 0 0 (!w.params.followText "set-order")))).objs.size:=by rw[Heap.size_push];exact Nat.lt_succ_self _
 have hd2:=lG { cls:=Value.type "list_iterator", data:=Data.fields #[Value.ref l,Value.int 0 0] } hd
 have hl2:((s.heap.push (zBU #[] 0 (SetTable.fresh 0 0 (!w.params.followText "set-order")))).push { cls:=Value.type "list_iterator", data:=Data.fields #[Value.ref l,Value.int 0 0] }).IsList l vs:=by
  obtain⟨o,ho,r⟩:=hl0;exact⟨o,lG _ ho,r⟩
 refine zF9 (vs:=vs) (xs:=xs) (show A.in1.in1.handled=none from hh) hv (lS ltp) (lS (Nat.lt_trans lt ltp)) (lS lt) hlen vs.size 0 _ #[] 0 _ (by omega) (lY _) ⟨_,lH _ rfl,rfl,rfl⟩ hl2 hd2 ⟨zBy _,(λ z=>by rw[z];rfl),λ z=>absurd z (by decide)⟩ ⟨(λ e h=>by simp at h),List.Perm.refl _⟩ (lQ _) λ h' es ep t tk' e1 e2 e3 e4 kp=>?_;refine lB (lB ?_);refine lD (by rfl) (lB ?_);refine h h' es ep t tk' e1 e2 e3 e4 λ b o e=>?_;have lb:=lI e;exact kp b o (lS lb) (lS (Nat.lt_trans lb ltp)) (lG _ (kp0 b o e))
end
end PySem
namespace L2
open PySem PySem.W PyProof.Rows
open PySem.Spec
instance:DecidableEq Dt:=λ d e=>decidable_of_iff (Dt.beq d e=true) Dt.beq_iff
theorem zM5 (d e:Dt):Dt.beq d e=decide (d=e):=by
 by_cases h:d=e
 ·rw[decide_eq_true h];exact Dt.beq_iff.mpr h
 ·rw[decide_eq_false h]
  cases z:Dt.beq d e with
  |false=>rfl
  |true=>exact absurd (Dt.beq_iff.mp z) h
mutual
inductive DA (h:Heap):Dt->Value->Prop
 |int (i:Int) (t:Tok):DA h (.int i) (.int i t)
 |str (x:Str) (t:Tok):DA h (.str x) (.str x t)
 |tup {a:Addr}{items:Array Value}{ds:List Dt}:h.IsTuple a items->DAs h ds items.toList->DA h (.tup ds) (.ref a)
inductive DAs (h:Heap):List Dt->List Value->Prop
 |nil:DAs h [] []
 |cons {d:Dt}{u:Value}{ds:List Dt}{us:List Value}:DA h d u->DAs h ds us->DAs h (d::ds) (u::us)
end
theorem zGN {h:Heap}{a:Addr}{x y:Array Value}(hx:h.IsTuple a x) (hy:h.IsTuple a y):x=y:=by
 obtain⟨o,ho,_,n,hd⟩:=hx;obtain⟨o',ho',_,n',hd'⟩:=hy;rw[ho] at ho';cases ho';rw[hd] at hd';cases hd';rfl
mutual
theorem DA.inj {h:Heap}:∀{d e:Dt}{u:Value},DA h d u->DA h e u->d=e
 |_,_,_,.int _ _,.int _ _=>rfl
 |_,_,_,.str _ _,.str _ _=>rfl
 |_,_,_,.tup h1 r1,.tup h2 r2=>by
  have:=zGN h1 h2;subst this;rw[DAs.inj r1 r2]
theorem DAs.inj {h:Heap}:∀{d e:List Dt}{u:List Value},DAs h d u->DAs h e u->d=e
 |_,_,_,.nil,.nil=>rfl
 |_,_,_,.cons r q,.cons r2 q2=>by rw[DA.inj r r2,DAs.inj q q2]
end
mutual
theorem DA.kept {h h':Heap}(k:∀b x,h.IsTuple b x->h'.IsTuple b x):∀{d:Dt}{u:Value},DA h d u->DA h' d u
 |_,_,.int _ _=>.int _ _
 |_,_,.str _ _=>.str _ _
 |_,_,.tup h r=>.tup (k _ _ h) (DAs.kept k r)
theorem DAs.kept {h h':Heap}(k:∀b x,h.IsTuple b x->h'.IsTuple b x):∀{d:List Dt}{u:List Value},DAs h d u->DAs h' d u
 |_,_,.nil=>.nil
 |_,_,.cons r q=>.cons (DA.kept k r) (DAs.kept k q)
end
theorem DAs.length {h:Heap}:∀{ds:List Dt}{us:List Value},DAs h ds us->ds.length=us.length
 |_,_,.nil=>rfl
 |_,_,.cons _ q=>by simp[DAs.length q]
theorem DAs.get {h:Heap}:∀{ds:List Dt}{us:List Value}{j:Nat}{u:Value},DAs h ds us->us[j]?=some u->∃d,ds[j]?=some d/\DA h d u
 |_,_,0,_,.cons r _,e=>⟨_,rfl,by cases e;exact r⟩
 |_,_,j+1,_,.cons _ q,e=>by
  obtain⟨d,e1,r⟩:=DAs.get q (j:=j) (by simpa using e);exact⟨d,by simpa using e1,r⟩
section
variable {P:Program}{w:World}{H:Hp}{h:Heap}
mutual
theorem DR.da (ok:HOk P w H h):∀{d:Dt}{v:V}{u:Value},DR H d v->RelV v u->DA h d u
 |_,_,_,.int i,r=>by obtain⟨t,rfl⟩:=r;exact .int _ _
 |_,_,_,.str x,r=>by obtain⟨t,rfl⟩:=r;exact .str _ _
 |_,_,_,.tup (a:=a) ha q,r=>by
  cases r;obtain⟨_,its,rv,p⟩:=ok a _ ha;exact .tup p (by rw[List.toList_toArray];exact DRs.da ok q rv)
theorem DRs.da (ok:HOk P w H h):∀{d:List Dt}{v:List V}{u:List Value},DRs H d v->Vals v u->DAs h d u
 |_,_,_,.nil,.nil=>.nil
 |_,_,_,.cons r q,.cons a b=>.cons (DR.da ok r a) (DRs.da ok q b)
end
end
section
variable {s:Shared}
theorem zMx:∀(n:Nat) (A:Around) {d e:Dt}{u y:Value},d.deep<=n->DA s.heap d u->DA s.heap e y->A.units+n<cLine->SeqAt.EqAt A s u y (Dt.beq d e):=by
 intro n
 induction n with
 |zero =>
  intro A d e u y hn rd re hu;cases rd with
  |int i t =>
   cases re with
   |int j t'=>rw[show Dt.beq (.int i) (.int j)=(i == j) by simp[Dt.beq,Bool.beq_eq_decide_eq]];exact SeqAt.EqAt.int_int i t j t'
   |str x t'=>exact SeqAt.EqAt.int_str i t x t'
   |tup h r=>exact SeqAt.EqAt.int_tuple i t h (by omega)
  |str x t =>
   cases re with
   |int j t'=>exact SeqAt.EqAt.str_int x t j t'
   |str w' t'=>rw[show Dt.beq (.str x) (.str w')=(x == w') by simp[Dt.beq,Bool.beq_eq_decide_eq]];exact SeqAt.EqAt.str_str x t w' t'
   |tup h r=>exact SeqAt.EqAt.str_tuple x t h (by omega)
  |tup h r=>simp[Dt.deep] at hn
 |succ n ih =>
  intro A d e u y hn rd re hu;cases rd with
  |int i t =>
   cases re with
   |int j t'=>rw[show Dt.beq (.int i) (.int j)=(i == j) by simp[Dt.beq,Bool.beq_eq_decide_eq]];exact SeqAt.EqAt.int_int i t j t'
   |str x t'=>exact SeqAt.EqAt.int_str i t x t'
   |tup h r=>exact SeqAt.EqAt.int_tuple i t h (by omega)
  |str x t =>
   cases re with
   |int j t'=>exact SeqAt.EqAt.str_int x t j t'
   |str w' t'=>rw[show Dt.beq (.str x) (.str w')=(x == w') by simp[Dt.beq,Bool.beq_eq_decide_eq]];exact SeqAt.EqAt.str_str x t w' t'
   |tup h r=>exact SeqAt.EqAt.str_tuple x t h (by omega)
  | @tup a items ds ha rs =>
   have hn':Dt.deeps ds<=n:=by simpa[Dt.deep] using hn
   cases re with
   |int j t'=>exact SeqAt.EqAt.tuple_int j t' ha (by omega)
   |str w' t'=>exact SeqAt.EqAt.tuple_str w' t' ha (by omega)
   | @tup b items2 es hb rs' =>
    by_cases hab:a=b
    ·subst hab
     have:=zGN ha hb;subst this;have:ds=es:=DAs.inj rs rs';subst this;rw[show Dt.beq (.tup ds) (.tup ds)=true from Dt.beq_iff.mpr rfl];exact SeqAt.EqAt.same _
    ·refine SeqAt.EqAt.of_refs hab ?_
     have m1:=rs.length;have m2:=rs'.length
     have key:=SeqAt.RcAt.tuples (A:=A) (s:=s) (e:=λ j=>match ds[j]?,es[j]? with|some d,some e=>Dt.beq d e|_,_=>false) ha hb (by omega) λ j h1 h2=>by
      obtain⟨d1,ed,rd1⟩:=rs.get (show items.toList[j]?=some items[j] by simp[h1]);obtain⟨d2,ed2,rd2⟩:=rs'.get (show items2.toList[j]?=some items2[j] by simp[h2]);simp only[ed,ed2];exact ih A.in1 (mG (zEA ed) hn') rd1 rd2 (by rw[show A.in1.units=A.units+1 from rfl];omega)
     have ez:Dt.beq (.tup ds) (.tup es)=((List.range (min items.size items2.size)).all (λ j=>match ds[j]?,es[j]? with|some d,some e=>Dt.beq d e|_,_=>false) && items.size == items2.size):=by
      rw[show Dt.beq (.tup ds) (.tup es)=Dt.beqs ds es by simp[Dt.beq],zEB];have a1:items.size=ds.length:=by rw[m1];simp
      have a2:items2.size=es.length:=by rw[m2];simp
      rw[a1,a2]
      try rfl
     rw[ez];exact key
end
mutual
noncomputable def Dt.hsh (w:World):Dt->Int
 |.int i=>hashInt i
 |.str x=>hashStr w x
 |.tup ds=>reduceHash (Builtin.Tuple.tupleHashOf (Dt.hshs w ds))
noncomputable def Dt.hshs (w:World):List Dt->List Int
 |[]=>[]
 |d::ds=>Dt.hsh w d::Dt.hshs w ds
end
mutual
noncomputable def Dt.draws:Dt->Nat
 |.int _=>1
 |.str _=>1
 |.tup ds=>Dt.drawss ds+1
noncomputable def Dt.drawss:List Dt->Nat
 |[]=>0
 |d::ds=>Dt.draws d+Dt.drawss ds
end
theorem zFl (w:World):∀(a b:List Dt),Dt.hshs w (a++b)=Dt.hshs w a++Dt.hshs w b
 |[],b=>rfl
 |d::a,b=>by simp[Dt.hshs,zFl w a b]
theorem zDj:∀(a b:List Dt),Dt.drawss (a++b)=Dt.drawss a+Dt.drawss b
 |[],b=>by simp[Dt.drawss]
 |d::a,b=>by simp[Dt.drawss,zDj a b];omega
theorem zGS:∀(a b:List Dt),Dt.deeps (a++b)=max (Dt.deeps a) (Dt.deeps b)
 |[],b=>by simp[Dt.deeps]
 |d::a,b=>by simp[Dt.deeps,zGS a b,Nat.max_assoc]
section
variable {prog:Program}{w:World}{E:XQ}
theorem zJa:∀(n:Nat) (A:Around) (s:Shared) {E:XQ}{d:Dt}{u:Value}{Q:Int->Shared->Prop},d.deep<=n->DA s.heap d u->A.units+n<cLine->Q (d.hsh w) { s with toks:=s.toks+d.draws } ->
  wpAny (model prog w) A (pyHash u) Q E s:=by
 intro n
 induction n with
 |zero =>
  intro A s E d u Q hn hd hu h;cases hd with
  |int i t=>exact(zAd prog w).pyHash (k:=.inl i) (zEk i t) h
  |str x t=>exact(zAd prog w).pyHash (k:=.inr x) (zEj x t) h
  |tup _ _=>simp[Dt.deep] at hn
 |succ n ih =>
  intro A s E d u Q hn hd hu h;cases hd with
  |int i t=>exact(zAd prog w).pyHash (k:=.inl i) (zEk i t) h
  |str x t=>exact(zAd prog w).pyHash (k:=.inr x) (zEj x t) h
  | @tup a items ds ha hi =>
   have hn':Dt.deeps ds<=n:=by simpa[Dt.deep] using hn
   obtain⟨o,ho,hc,m,hd⟩:=ha;have hT:s.TypeIs (.ref a) "tuple" := ⟨o,ho,hc⟩;unfold pyHash
   first|unfold pyHashByItsType|skip
   first|refine lA (wpAny_cRoomFor_or (.inr (by omega)) ?_)|skip
   refine lA (wpAny_specialOf hT F.slot_tuple_hash.lookup ?_);show wpAny _ _ (if (some (Value.builtin "tuple.__hash__") == some Value.none)=true then _ else _) Q E s;rw[if_neg (by rw[beq_builtin_none];exact lX)];refine lA (wpAny_specialOf hT F.slot_tuple_hash.lookup ?_);show wpAny _ _ (callSpecialIfBoundUnlessNone? (.ref a) "__hash__" _ >>= _) Q E s;refine lA (wpAny_callSpecialIfBoundUnlessNone?_slot hT F.slot_tuple_hash (wpAny_call_entry F.slot_tuple_hash hT F.entry_tuple_hash ?_ (F.args_tuple_hash_1 _)));show wpAny _ _ (Builtin.Tuple.tupleItemsOf (.ref a) >>= _) _ _ s;refine lA (wpAny_tupleItemsOf ho hd ?_);refine lA ?_;rw[←Array.forIn_toList]
   refine wpAny_forIn_list _
    (λ rest (b:Array Int) s'=>∃done left,ds=done++left/\DAs s.heap left rest/\b.toList=Dt.hshs w done/\s'={ s with toks:=s.toks+Dt.drawss done })
    _ ?_ ?_ _ _ ⟨[],ds,rfl,hi,rfl,rfl⟩
   ·rintro x rest b s' ⟨done,left,rfl,hl,hb,rfl⟩
    cases hl with
    | @cons k _ ks' _ h1 hl' =>
     have hk:k.deep<=n:=by
      rw[zGS,Dt.deeps] at hn';omega
     refine lA (ih _ _ hk h1 (by show A.units+1+n<cLine;omega) ?_)
     first
      |exact lB ⟨done++[k],ks',by simp,hl',by simp[hb,zFl,Dt.hshs],by simp[zDj,Dt.drawss,Nat.add_assoc]⟩
      |exact lA (lB (lB ⟨done++[k],ks',by simp,hl',by simp[hb,zFl,Dt.hshs],by simp[zDj,Dt.drawss,Nat.add_assoc]⟩))
   ·rintro b s' ⟨done,left,rfl,hl,hb,rfl⟩
    cases hl;rw[nO] at h;show wpAny _ _ (retInt (Builtin.Tuple.tupleHashOf b.toList)) _ _ _;rw[hb];refine wpAny_ret_mkInt ?_;show wpAny _ _ (if (decide (-(2:Int) ^ 63<=Builtin.Tuple.tupleHashOf (Dt.hshs w done)) && decide (Builtin.Tuple.tupleHashOf (Dt.hshs w done)<2 ^ 63))=true then _ else _) Q E _;unfold Dt.hsh reduceHash Dt.draws at h
    by_cases hr:(decide (-(2:Int) ^ 63<=Builtin.Tuple.tupleHashOf (Dt.hshs w done)) && decide (Builtin.Tuple.tupleHashOf (Dt.hshs w done)<2 ^ 63))=true
    ·rw[if_pos hr]
     rw[if_pos hr] at h;exact lB (by simpa[Nat.add_assoc] using h)
    ·rw[if_neg hr]
     rw[if_neg hr] at h;exact lA (wpAny_rule (lB (by simpa[Nat.add_assoc] using h)))
theorem zKV {M:Model}{A:Around}{E:XQ}{s:Shared}:∀(n:Nat) {d:Dt}{u:Value}{Q:Bool->Shared->Prop},d.deep<=n->DA s.heap d u->Q true s->wpAny (model prog w) A (eqIsQuiet n u) Q E s:=by
 intro n
 induction n with
 |zero =>
  intro d u Q hn hd h;cases hd with
  |int i t=>rw[eqIsQuiet_byValue _ rfl];exact lB h
  |str x t=>rw[eqIsQuiet_byValue _ rfl];exact lB h
  |tup _ _=>simp[Dt.deep] at hn
 |succ n ih =>
  intro d u Q hn hd h;cases hd with
  |int i t=>rw[eqIsQuiet_byValue _ rfl];exact lB h
  |str x t=>rw[eqIsQuiet_byValue _ rfl];exact lB h
  | @tup a items ds ha hi =>
   have hn':Dt.deeps ds<=n:=by simpa[Dt.deep] using hn
   obtain⟨o,ho,hc,m,hd⟩:=ha;have hT:s.TypeIs (.ref a) "tuple" := ⟨o,ho,hc⟩;unfold eqIsQuiet;refine lA (wpAny_specialOf hT F.slot_tuple_eq.lookup ?_);show wpAny _ _ (isInstance (.ref a) (.type "tuple") >>= _) _ _ s;refine lA (wpAny_isInstance hT isSubtype_tuple_tuple ?_);simp only[Bool.not_true,Bool.false_eq_true,if_false];refine lA (wpAny_seqItems ho hd ?_);refine lA ?_;show wpAny _ _ (forIn items _ _) _ _ s;rw[←Array.forIn_toList];refine wpAny_forIn_list _ (λ rest r s'=>r.1=none/\s'=s/\∃ds',DAs s.heap ds' rest/\Dt.deeps ds'<=n) _ ?_ ?_ _ _ ⟨rfl,rfl,ds,hi,hn'⟩
   ·rintro v rest r s' ⟨hr,rfl,ds',hall,hdp⟩
    cases hall with
    | @cons k _ ks' _ h1 hl' =>
     have hk:k.deep<=n/\Dt.deeps ks'<=n:=by
      rw[Dt.deeps] at hdp;omega
     refine lA (ih hk.1 h1 ?_);simp only[Bool.not_true,Bool.false_eq_true,if_false];exact lB ⟨rfl,rfl,ks',hl',hk.2⟩
   ·rintro⟨r1,r2⟩ s' ⟨hr,rfl,_⟩
    simp only at hr;subst hr;exact lB h
end
noncomputable def zCW (prog:Program) (w:World):HeapKind prog w Dt where
 is:=λ h d a=>DA h d (.ref a)/\d.deep<=8
 hash:=Dt.hsh w
 draws:=Dt.draws
 room:=λ A=>A.units+8<cLine
 inj:=λ hx hy=>hx.1.inj hy.1
 keeps:=λ{h h' k a d o es ep} x ho hd hs=>⟨x.1.kept λ b x hb=>by
  obtain⟨o',ho',hc,n,hd'⟩:=hb
  have hne:b≠d:=by
   rintro rfl;rw[ho'] at ho;cases ho;rw[hd'] at hd;cases hd
  exact⟨o',(hs.2 b hne).trans ho',hc,n,hd'⟩,x.2⟩
 pyHash:=λ hu hk h=>zJa 8 _ _ hk.2 hk.1 hu h
 eqBool:=λ{A E s x y a b Q} hu hx hy h=>zMx 8 A hx.2 hx.1 hy.1 hu prog w E Q (by rw[zM5];exact h)
 quiet:=λ hk h=>zKV (M:=model prog w) 8 hk.2 hk.1 h
noncomputable def strLt (x y:Str):Bool:=decide (x.cps.toList<y.cps.toList)
mutual
noncomputable def Dt.lt:Dt->Dt->Bool
 |.int i,.int j=>decide (i<j)
 |.str x,.str y=>strLt x y
 |.tup ds,.tup es=>Dt.lts ds es
 |.int _,.str _=>true
 |.int _,.tup _=>true
 |.str _,.tup _=>true
 |.str _,.int _=>false
 |.tup _,.int _=>false
 |.tup _,.str _=>false
noncomputable def Dt.lts:List Dt->List Dt->Bool
 |[],[]=>false
 |[],_::_=>true
 |_::_,[]=>false
 |d::ds,e::es=>if Dt.beq d e=true then Dt.lts ds es else Dt.lt d e
end
inductive Ty where
 |int|str|many (t:Ty)|two (a b:Ty)
mutual
noncomputable def Dt.has:Ty->Dt->Bool
 |.int,.int _=>true
 |.str,.str _=>true
 |.many t,.tup ds=>Dt.hass t ds
 |.two a b,.tup ds=>Dt.hasp a b ds
 |_,_=>false
noncomputable def Dt.hass:Ty->List Dt->Bool
 |_,[]=>true
 |t,d::ds=>Dt.has t d && Dt.hass t ds
noncomputable def Dt.hasp:Ty->Ty->List Dt->Bool
 |a,b,d::es=>Dt.has a d && Dt.hasq b es
 |_,_,_=>false
noncomputable def Dt.hasq:Ty->List Dt->Bool
 |b,e::es=>Dt.has b e && (es.length == 0)
 |_,_=>false
end
mutual
noncomputable def Dt.cmp:Dt->Dt->Bool
 |.int _,.int _=>true
 |.str _,.str _=>true
 |.tup ds,.tup es=>Dt.cmps ds es
 |_,_=>false
noncomputable def Dt.cmps:List Dt->List Dt->Bool
 |[],_=>true
 |_::_,[]=>true
 |d::ds,e::es=>if Dt.beq d e=true then Dt.cmps ds es else Dt.cmp d e
end
open PySem.Calls
open AutoSeq1 (wpAny_loadPart')
structure LtE (M:Model) (A:Around) (E:XQ) (s:Shared) (κ:SortKind) (G:Keyed->Prop) (R:Keyed->Keyed->Bool):Prop where
 lt:∀x y,G x->G y->∀(st:SortSt) (Q:Option Bool->SortSt->Prop),kindOf st=κ->Q (some (R x y)) st->wpS M A E s (lt' x y) Q st
 asym:∀x y,G x->G y->R x y=true->R y x=false
 tr:∀x y z,G x->G y->G z->R x y=false->R y z=false->R x z=false
section
variable {M:Model}{A:Around}{E:XQ}{s:Shared}{κ:SortKind}{G:Keyed->Prop}{R:Keyed->Keyed->Bool}
abbrev d0:Keyed:=(.none,.none)
end
section
variable {M:Model}{A:Around}{E:XQ}{s:Shared}{κ:SortKind}{G:Keyed->Prop}{R:Keyed->Keyed->Bool}
end
open Classical in
noncomputable def dtOf (h:Heap) (v:Value):Dt:=if e:∃d,DA h d v then e.choose else .tup []
abbrev XN:=List (Dt × Addr × V)
noncomputable def prs (xs:XN):List (Dt × V):=xs.map λ x=>(x.1,x.2.2)
abbrev KTN:XN->List (Dt × Addr × Value)->Prop:=Paired λ p q=>p.1=q.1/\p.2.1=q.2.1/\RelV p.2.2 q.2.2
theorem KTN.val {xs:XN}{raw:List (Dt × Addr × Value)}(r:KTN xs raw) (k:Dt):RelO (valV (prs xs) k) ((atKey raw k).map (·.2)):=by
 induction r with
 |nil=>exact True.intro
 | @cons p q ps qs h t ih =>
  obtain⟨h1,_,h2⟩:=h
  by_cases e:p.1=k
  ·have e':q.1=k:=h1.symm.trans e
   have b:atKey (q::qs) k=some q.2:=by simp[atKey,List.find?_cons,e']
   rw[b];show RelO (valV ((p.1,p.2.2)::prs ps) k) _;rw[zBH e];exact h2
  ·have e':¬q.1=k:=λ z=>e (h1.trans z)
   have b:atKey (q::qs) k=atKey qs k:=by simp[atKey,List.find?_cons,e']
   rw[b];show RelO (valV ((p.1,p.2.2)::prs ps) k) _;rw[zBI e];exact ih
noncomputable def putN (xs:XN) (k:Dt) (b:Addr) (v:V):XN:=if ((prs xs).any λ kv=>decide (kv.1=k))=true then xs.map (λ x=>if x.1=k then (x.1,x.2.1,v) else x) else xs++[(k,b,v)]
theorem zML (xs:XN) (k:Dt) (b:Addr) (v:V):prs (putN xs k b v)=putK (prs xs) k v:=by
 unfold putN putK
 by_cases c:((prs xs).any λ kv=>decide (kv.1=k))=true
 ·rw[if_pos c,if_pos c]
  unfold prs;rw[nP,nP];refine List.map_congr_left λ x Ω=>?_;dsimp only[Function.comp]
  by_cases e:x.1=k
  ·rw[if_pos e,if_pos e]
  ·rw[if_neg e,if_neg e]
 ·rw[if_neg c,if_neg c]
  simp[prs]
theorem KTN.put {xs:XN}{raw:List (Dt × Addr × Value)}(r:KTN xs raw) (k:Dt) (b:Addr) {v:V}{u:Value}(rv:RelV v u):KTN (putN xs k b v) (storedH raw k b u):=by
 have e:((prs xs).any λ kv=>decide (kv.1=k))=(atKey raw k).isSome:=by
  rw[zC7,(r.val k).isSome_eq,Option.isSome_map]
 unfold putN storedH;rw[e]
 by_cases q:(atKey raw k).isSome=true
 ·rw[if_pos q,if_pos q]
  clear e q
  induction r with
  |nil=>exact .nil
  | @cons p q ps qs h t ih =>
   rw[mL,mL];refine .cons ?_ ih;obtain⟨h1,h2,h3⟩:=h;unfold putAt
   by_cases e:p.1=k
   ·rw[if_pos e,if_pos (h1.symm.trans e)];exact⟨h1,h2,rv⟩
   ·rw[if_neg e,if_neg (λ z=>e (h1.trans z))];exact⟨h1,h2,h3⟩
 ·rw[if_neg q,if_neg q];exact Paired.snoc r ⟨rfl,rfl,rv⟩
def dNp (P:Program) (w:World) (a:Addr) (xs:XN) (h:Heap):Prop:=(a == sysModules)=false/\∃raw,KTN xs raw/\∃o es ep,h.get? a=some o/\o.ExactDict/\o.data = .dict es ep/\es.toList=raw.map (entryOfKey (zCW P w))/\(raw.map (·.1)).Nodup
noncomputable def dN (P:Program) (w:World) (a:Addr) (xs:XN):HO:=.ext (dNp P w a xs)
def KeysN (H:Hp) (xs:XN):Prop:=∀x∈xs,DR H x.1 (.ref x.2.1)/\x.1.deep<=8
def DicR (P:Program) (w:World) (H:Hp) (a:Addr) (kvs:List (Dt × V)):Prop:=∃xs,kvs=prs xs/\Rd H a (dN P w a xs)/\KeysN H xs/\xs.length<=1000
def DicN (P:Program) (w:World) (H:Hp) (a:Addr) (kvs:List (Dt × V)):Prop:=∃xs,kvs=prs xs/\H a=some (dN P w a xs)/\KeysN H xs/\xs.length<=1000
section
variable {P:Program}{w:World}{H H':Hp}{h:Heap}{a:Addr}{kvs:List (Dt × V)}
theorem DicN.rd:DicN P w H a kvs->DicR P w H a kvs
 |⟨xs,e,r,k,l⟩=>⟨xs,e,.inl r,k,l⟩
theorem KeysN.mono (t:Tk H H') {xs:XN}(k:KeysN H xs):KeysN H' xs:=λ x hx=>⟨(k x hx).1.mono t,(k x hx).2⟩
theorem DicN.mono (t:Tk H H') (e:H' a=H a):DicN P w H a kvs->DicN P w H' a kvs
 |⟨xs,e1,r,k,l⟩=>⟨xs,e1,e▸r,k.mono t,l⟩
theorem DicR.raw (ok:HOk P w H h):DicR P w H a kvs->∃raw,(a == sysModules)=false/\(∃xs,kvs=prs xs/\KTN xs raw)/\h.DictOfH (zCW P w) a raw/\raw.length<=1000
 |⟨xs,e,r,k,l⟩=>by
  obtain⟨⟨hs,raw,rel,o,es,ep,h1,h2,h3,h4,h5⟩,_⟩:=r.ok ok;have hl:raw.length=xs.length:=(Paired.length rel).symm;refine⟨raw,hs,⟨xs,e,rel⟩,⟨o,es,ep,h1,h2,h3,h4,?_,h5⟩,by omega⟩
  have all:∀{l:XN}{m:List (Dt × Addr × Value)},KTN l m->KeysN H l->∀x∈m,(zCW P w).is h x.1 x.2.1:=by
   intro l m q
   induction q with
   |nil=>intro _ x hx;exact nomatch hx
   | @cons p q ps qs hq t ih =>
    intro hk x hx;rcases lN.mp hx with e|hx
    ·subst e
     have:=hk p lO;rw[←hq.1,←hq.2.1];exact⟨DR.da ok this.1 rfl,this.2⟩
    ·exact ih (λ y hy=>hk y (lP _ hy)) x hx
  exact all rel k
theorem zJx {xs:XN}(x:dNp P w a xs h):ObjOk P w H h a (dN P w a xs):=by
 refine⟨x,?_,λ h1 h2 y k=>?_⟩
 ·obtain⟨_,raw,_,o,_,_,q,_⟩:=x
  exact⟨o,q⟩
 ·obtain⟨hs,raw,rel,o,es,ep,q,r⟩:=y
  exact⟨hs,raw,rel,o,es,ep,k o q,r⟩
theorem zG7 {A:Around}(hu:A.units+20<cLine):(zCW P w).room A.in1:=by show A.units+1+8<cLine;omega
end
section
variable {X:Cx}{jP:List (Addr × Obj)}{σ:L2.St}{H:Hp}{s:Shared}{a b:Addr}{k:Dt}{kvs:List (Dt × V)}{v:V}{A:Around}{E:XQ}
theorem n_is (I:Inv X jP σ H s) (hk:DR H k (.ref b)) (hd:k.deep<=8):(zCW X.prog X.w).is s.heap k b:=⟨DR.da I.hok hk rfl,hd⟩
theorem zNp (I:Inv X jP σ H s) (d:DicR X.prog X.w H a kvs):s.TypeIs (.ref a) "dict" /\ (∀c,Value.ref a = .ref c->∃ob,s.heap.get? c=some ob/\ob.dict=none)/\(a == sysModules)=false:=by
 obtain⟨raw,hs,_,dd,_⟩:=d.raw I.hok;refine⟨dd.typeIs,λ c q=>?_,hs⟩;cases q;obtain⟨ob,_,_,h1,h2,_⟩:=dd;exact⟨ob,h1,h2.2.1⟩
theorem zJJ {Q:XQ}(hu:A.units+20<cLine) (I:Inv X jP σ H s) (d:DicR X.prog X.w H a kvs) (hk:DR H k (.ref b)) (hd:k.deep<=8) (hv:valV kvs k=some v) (h:∀w' s',Inv X jP σ H s'->RelV v w'->Q w' s') :
  wpAny (model X.prog X.w) A (getItem (.ref a) (.ref b)) Q E s:=by
 obtain⟨raw,hs,⟨xs,e,rel⟩,dd,_⟩:=d.raw I.hok;subst e;obtain⟨w',hw,rw'⟩:=RelO.some_of (v:=v) (o:=(atKey raw k).map (·.2)) (by rw[←hv];exact rel.val k);obtain⟨p,hp,hp2⟩:=lV.mp hw;refine wpAny_getItem_heap (zG7 hu) (n_is I hk hd) dd hp ?_;rw[hp2];exact h w' _ (I.tok _) rw'
def DicP (P:Program) (w:World) (H:Hp) (a:Addr) (kvs:List (Dt × V)):Prop:=DicN P w H a kvs\/(H a=some (.dK [])/\kvs=[])
theorem zJI {r:Value}{Q:Unit->Shared->Prop}(hu:A.units+20<cLine) (I:Inv X jP σ H s) (d:DicP X.prog X.w H a kvs) (hl:kvs.length<1000) (hk:DR H k (.ref b)) (hd:k.deep<=8) (rv:RelV v r)
  (h:∀o s',Inv X jP σ (upd H a o) s'->DicN X.prog X.w (upd H a o) a (putK kvs k v)->Tk H (upd H a o)->Q () s') :
  wpAny (model X.prog X.w) A (setItem (.ref a) (.ref b) r) Q E s:=by
 obtain⟨xs,raw,e,hs,rel,dd,hlen,hkeys,mu⟩:∃(xs:XN) (raw:List (Dt × Addr × Value)),kvs=prs xs/\(a == sysModules)=false/\KTN xs raw/\s.heap.DictOfH (zCW X.prog X.w) a raw/\raw.length<=1000/\KeysN H xs/\Mut (H a):=by
  rcases d with d|⟨ea,rfl⟩
  ·obtain⟨xs',e',q',kk,ll⟩:=id d
   obtain⟨⟨hs,raw,rel,o,es,ep,h1,h2,h3,h4,h5⟩,_⟩:=(show ObjOk X.prog X.w H s.heap a (dN X.prog X.w a xs') from I.hok a _ q');obtain⟨raw',hs',⟨xs2,e2,rel2⟩,dd,hl2⟩:=d.rd.raw I.hok;refine⟨xs',raw,e',hs,rel,⟨o,es,ep,h1,h2,h3,h4,?_,h5⟩,by have:=Paired.length rel;omega,kk,by rw[q'];exact True.intro⟩;obtain⟨o2,es2,ep2,g1,g2,g3,g4,g5,g6⟩:=dd;rw[h1] at g1;cases g1;rw[h3] at g3;cases g3;have er:raw.map (λ x=>(x.1,x.2.1))=raw.map (λ x=>(x.1,x.2.1)):=rfl
   have all:∀{l:XN}{m:List (Dt × Addr × Value)},KTN l m->KeysN H l->∀x∈m,(zCW X.prog X.w).is s.heap x.1 x.2.1:=by
    intro l m q
    induction q with
    |nil=>intro _ x hx;exact nomatch hx
    | @cons p q ps qs hq t ih =>
     intro hk x hx;rcases lN.mp hx with e|hx
     ·subst e
      have:=hk p lO;rw[←hq.1,←hq.2.1];exact⟨DR.da I.hok this.1 rfl,this.2⟩
     ·exact ih (λ y hy=>hk y (lP _ hy)) x hx
   exact all rel kk
  ·obtain⟨_,hs,vs,rel,o,es,ep,h1,h2,h3,_,h4,_⟩:=dk_of I.hok ea
   cases rel
   have e0:es.toList=[]:=by
    generalize es.toList=L at h4;cases h4;rfl
   exact⟨[],[],rfl,hs,.nil,⟨o,es,ep,h1,h2,h3,by simpa using e0,(λ x hx=>by cases hx),List.nodup_nil⟩,by simp,(λ x hx=>by cases hx),by rw[ea];exact True.intro⟩
 subst e;have hz:raw.length<=sizeLine:=Nat.le_of_lt (zAK hlen);have ntup:∀c ys,H c=some (.tup ys)->c≠a:=λ c ys r z=>by subst z;rw[r] at mu;exact mu
 refine wpAny_setItem_heap (hsz:=hz) (zG7 hu) (n_is I hk hd) dd λ h' dd' hsb=>?_;obtain⟨q,es,ep,hq,h2,h3,h4,_,h5⟩:=dd';have tk:Tk H (upd H a (dN X.prog X.w a (putN xs k b v))):=λ c ys ec=>by rw[zAR (ntup c ys ec)];exact ec
 refine h (dN X.prog X.w a (putN xs k b v)) _ (zFq I mu hsb ⟨q,hq⟩ (zJx ⟨hs,_,rel.put k b rv,q,es,ep,hq,h2,h3,h4,h5⟩)) ⟨putN xs k b v,(zML xs k b v).symm,zAA,λ x hx=>?_,?_⟩ tk
 ·have:(x.1=k/\x.2.1=b)\/∃y∈xs,x.1=y.1/\x.2.1=y.2.1:=by
   unfold putN at hx;split at hx
   ·obtain⟨y,hy,rfl⟩:=mC.mp hx
    refine .inr ⟨y,hy,?_⟩;split<;>exact⟨rfl,rfl⟩
   ·rcases lK.mp hx with hx|hx
    ·exact .inr ⟨x,hx,rfl,rfl⟩
    ·rw[mQ] at hx
     subst hx;exact .inl ⟨rfl,rfl⟩
  rcases this with ⟨e1,e2⟩|⟨y,hy,e1,e2⟩
  ·rw[e1,e2];exact⟨hk.mono tk,hd⟩
  ·rw[e1,e2];exact⟨(hkeys y hy).1.mono tk,(hkeys y hy).2⟩
 ·unfold putN
  split
  ·rw[mD];simp[prs] at hl;omega
  ·rw[mK];simp[prs] at hl ⊢;omega
end
end L2
namespace PySem
open Sem (wp)
def zBZ (h:Heap) (d:Addr) (es:Array DictEntry) (ep:Nat):Prop:=∃o,h.get? d=some o/\o.ExactDict/\o.data = .dict es ep
theorem zBZ.at {h h':Heap}{d:Addr}{es:Array DictEntry}{ep:Nat}(x:zBZ h d es ep) (e:∀o,h.get? d=some o->h'.get? d=some o):zBZ h' d es ep:=let ⟨o,ho,r⟩:=x;⟨o,e _ ho,r⟩
theorem zBZ.typeIs {s:Shared}{d:Addr}{es:Array DictEntry}{ep:Nat}(x:zBZ s.heap d es ep):s.TypeIs (.ref d) "dict" := let ⟨o,ho,hc,_⟩:=x;⟨o,ho,hc.1⟩
section
variable {prog:Program}{w:World}{A:Around}{E:XQ}{s:Shared}{d it:Addr}{es:Array DictEntry}{ep i:Nat}
abbrev zNr (d:Addr) (n ep:Nat):Obj:={ cls:=.type "dict_keyiterator", data:=.fields #[.ref d,.int 0 0,.int n 0,.int ep 0] }
theorem zL9 {Q:XQ}(lo:(d == sysModules)=false) (hm:zBZ s.heap d es ep) (hQ:Q (.ref s.heap.objs.size) { s with heap:=s.heap.push (zNr d es.size ep) }):wpAny (model prog w) A (pyIter (.ref d)) Q E s:=by
 have hT:=hm.typeIs;obtain⟨o,ho,hc,hdat⟩:=hm;refine wpAny_pyIter_slot hT F.slot_dict_iter (wpAny_call_entry F.slot_dict_iter hT F.entry_dict_iter ?_ (F.args_dict_iter_1 _));unfold Builtin.«dict.__iter__»;refine lA ?_;unfold Builtin.Dict.dictSlotNone;refine lA (wpAny_notOrdered_dict hT (lB ?_));(show wpAny _ _ (Builtin.Dict.showsAll d >>= _) _ _ s);unfold Builtin.Dict.showsAll;rw[if_neg (by rw[lo];exact lX)];refine lA (lB (lA (wpAny_dictEntries ho hdat (lA (wpAny_dictEpoch ho hdat ?_)))));refine lA (wpAny_newObj_type (lB ⟨_,rfl, "dict_keyiterator", _,⟨_,lH _ rfl,rfl⟩,F.slot_dict_keyiterator_next.lookup,?_⟩));simpa[rawInt] using hQ
theorem zL8 {Q:Option Value->Shared->Prop}(hit:s.heap.IsKeyIter it d i es.size ep) (hm:zBZ s.heap d es ep) (hi:i<es.size)
  (hQ:∀h',h'.IsKeyIter it d (i+1) es.size ep->Heap.SameBut it s.heap h'->Q (some es[i].key) { s with heap:=h' }):wpAny (model prog w) A (pyNext (.ref it)) Q E s:=by
 obtain⟨o,ho,hc,hd⟩:=id hit;obtain⟨od,hod,hcd,hdd⟩:=id hm;unfold pyNext;refine lA (wpAny_attempt (wpAny_callSpecial?_slot (name:=Str.ofString "__next__") hit.typeIs F.slot_dict_keyiterator_next (wpAny_call_entry F.slot_dict_keyiterator_next hit.typeIs F.entry_dict_keyiterator_next ?_ (F.args_dict_keyiterator_next_1 _))));refine lA (lB (lA (lA ?_)))
 first|refine lA (wpAny_typeNameOfWhole_keyiter hit.typeIs (lB (lA (wpAny_fieldsOf ho hd ?_))))|refine lA (wpAny_typeNameOf_keyiter hit.typeIs (lB (lA (wpAny_fieldsOf ho hd ?_))))
 simp only[show Builtin.Dict_items.ownsTuple "dict_keyiterator" = false by decide,Bool.false_eq_true,if_false];show wpAny _ _ (if (Value.ref d == Value.none)=true then _ else _) _ _ s;rw[if_neg (show ¬((Value.ref d == Value.none)=true) from Bool.false_ne_true)];refine lA (lB (lA (wpAny_dictEntries hod hdd ?_)));rw[if_neg (by simp)];refine lA (lB (lA (wpAny_dictEpoch hod hdd ?_)));rw[if_neg (by simp)];refine lB ?_;simp only[show ¬((i:Int)<0) from by omega,if_false,Int.toNat_natCast,Array.getElem?_eq_getElem hi];refine lA ?_
 first|refine lA (wpAny_typeNameOfWhole_keyiter hit.typeIs (lB (lA (wpAny_isOneOf_keyiter hit.typeIs ?_))))|refine lA (wpAny_typeNameOf_keyiter hit.typeIs (lB (lA (wpAny_isOneOf_keyiter hit.typeIs ?_))))
 show wpAny _ _ (setField (.ref it) 1 (rawInt ((i:Int)+1)) >>= _) _ _ s;refine lA (wpAny_setField ho hd (by simp) ?_);have hit':(s.heap.update it (Obj.mapFields (·.setIfInBounds 1 (rawInt ((i:Int)+1))))).IsKeyIter it d (i+1) es.size ep:=⟨_,mI _ ho (Obj.isFreed_of_fields (Obj.data_mapFields hd _)),(Obj.cls_mapFields ..).trans hc,by rw[Obj.data_mapFields hd];simp[rawInt]⟩;refine lA (lE (lA (wpAny_isOneOf_keyiter (s:={ s with heap:=s.heap.update it (Obj.mapFields (·.setIfInBounds 1 (rawInt ((i:Int)+1)))) }) hit'.typeIs ?_)));show wpAny _ _ (pure es[i].key) _ _ _;exact lB (lB ⟨_,rfl,lB (hQ _ hit' (Heap.SameBut.update ..))⟩)
theorem zNO {Q:Option Value->Shared->Prop}(hh:A.handled=none) (hit:s.heap.IsKeyIter it d i es.size ep) (hm:zBZ s.heap d es ep) (hi:es.size<=i)
  (hQ:∀h',Heap.ExtBut it s.heap h'->Q none { s with heap:=h' }):wpAny (model prog w) A (pyNext (.ref it)) Q E s:=by
 obtain⟨o,ho,hc,hd⟩:=id hit;obtain⟨od,hod,hcd,hdd⟩:=id hm;unfold pyNext;refine lA (wpAny_attempt (wpAny_callSpecial?_slot (name:=Str.ofString "__next__") hit.typeIs F.slot_dict_keyiterator_next (wpAny_call_entry F.slot_dict_keyiterator_next hit.typeIs F.entry_dict_keyiterator_next ?_ (F.args_dict_keyiterator_next_1 _))));refine lA (lB (lA (lA ?_)))
 first|refine lA (wpAny_typeNameOfWhole_keyiter hit.typeIs (lB (lA (wpAny_fieldsOf ho hd ?_))))|refine lA (wpAny_typeNameOf_keyiter hit.typeIs (lB (lA (wpAny_fieldsOf ho hd ?_))))
 simp only[show Builtin.Dict_items.ownsTuple "dict_keyiterator" = false by decide,Bool.false_eq_true,if_false];show wpAny _ _ (if (Value.ref d == Value.none)=true then _ else _) _ _ s;rw[if_neg (show ¬((Value.ref d == Value.none)=true) from Bool.false_ne_true)];refine lA (lB (lA (wpAny_dictEntries hod hdd ?_)));rw[if_neg (by simp)];refine lA (lB (lA (wpAny_dictEpoch hod hdd ?_)));rw[if_neg (by simp)];refine lB ?_;simp only[show ¬((i:Int)<0) from by omega,if_false,Int.toNat_natCast,Array.getElem?_eq_none hi];refine lA ?_
 first|refine lA (wpAny_typeNameOfWhole_keyiter hit.typeIs (lB ?_))|refine lA (wpAny_typeNameOf_keyiter hit.typeIs (lB ?_))|skip
 show wpAny _ _ (setField (.ref it) 0 .none >>= _) _ _ s;refine lA (wpAny_setField ho hd (by simp) ?_);show wpAny _ _ (newExc (.type "StopIteration") [] >>= _) _ _ _;refine lA ?_;simp only[newExc,newTuple];refine lA (wpAny_newObj_type ?_ (by size_fits));refine lA (m:=firstArgMember _ _) (wpAny_of_eq (a:=Value.none) (by first|rfl|(simp only[firstArgMember];rfl)) (wpAny_newObj_type ?_ (by size_fits)));simp only[raiseNew];refine lA (wpAny_handled ?_);rw[show A.in1.handled=none from hh];refine lA (lB (wpAny_throw ?_));refine lA (wpAny_isInstance (T := "StopIteration") (b:=true) ⟨_,lH _ rfl,rfl⟩ isSubtype_stop ?_);exact lB (hQ _ (((Heap.SameBut.update ..).extBut.push _).push _))
end
end PySem
namespace PySem.W
open PySem
end PySem.W
namespace PySem.W
open PySem PySem.Spec PySem.Calls PyProof.Rows
end PySem.W
namespace L2
open PySem PySem.Spec PyProof.Rows
end L2
namespace PySem.W
open PySem PySem.Spec PySem.Calls PyProof.Rows
end PySem.W
namespace L2
open PySem PySem.Spec PyProof.Rows
abbrev HR:=Ends->Addr->St->Hp->Prop
noncomputable def Ends.less (D:Ends) (i:Nat):Ends:={ nx:=λ σ H=>D.nx (σ.set i none) H,rt:=D.rt,bk:=λ σ H=>D.bk (σ.set i none) H,ct:=λ σ H=>D.ct (σ.set i none) H }
noncomputable def ov (H N:Hp):Hp:=λ a=>(N a).or (H a)
noncomputable def viewO (p d:Addr):HO:=.ext λ h=>h.IsValuesView p d
open PySem.Calls PySem.W
def KyN (H:Hp) (y:V) (k:Dt):Prop:=∃b,y = .ref b/\DR H k y/\k.deep<=8
def tNGet (P:Program) (w:World) (td ty:TE):TE:=λ σ H Q=>td σ H λ x H1=>ty σ H1 λ y H2=>∃a k v kvs,x = .ref a/\DicR P w H2 a kvs/\KyN H2 y k/\valV kvs k=some v/\Q v H2
def sNPut (P:Program) (w:World) (td ty tv:TE):TS:=λ D σ H=>tv σ H λ v H1=>td σ H1 λ x H2=>ty σ H2 λ y H3=>∃a k kvs,x = .ref a/\DicP P w H3 a kvs/\kvs.length<1000/\KyN H3 y k/\∀o,DicN P w (upd H3 a o) a (putK kvs k v)->Tk H3 (upd H3 a o)->D.nx σ (upd H3 a o)
def DicE (P:Program) (w:World) (H:Hp) (a:Addr) (kvs:List (Dt × V)):Prop:=DicR P w H a kvs\/(H a=some (.dK [])/\kvs=[])
section
variable {X:Cx}{o i e f value:Expr}{pos pos' tpos apos cpos:Pos}{td ty tv tx:TE}
theorem e_raw {jP:List (Addr × Obj)}{σ:L2.St}{H:Hp}{s:Shared}{a:Addr}{kvs:List (Dt × V)}(I:Inv X jP σ H s) (d:DicE X.prog X.w H a kvs):∃raw,(a == sysModules)=false/\(∃xs,kvs=prs xs/\KTN xs raw)/\s.heap.DictOfH (zCW X.prog X.w) a raw/\raw.length<=1000:=by
 rcases d with d|⟨ea,rfl⟩
 ·exact d.raw I.hok
 ·obtain⟨_,hs,vs,rel,o,es,ep,h1,h2,h3,_,h4,_⟩:=dk_of I.hok ea
  cases rel
  have e0:es.toList=[]:=by
   generalize es.toList=L at h4;cases h4;rfl
  exact⟨[],hs,⟨[],rfl,.nil⟩,⟨o,es,ep,h1,h2,h3,by simpa using e0,(λ x hx=>by cases hx),List.nodup_nil⟩,by simp⟩
theorem zI1 (hu:X.A.units+150<cLine) (ho:PE X o td) (hi:PE X i ty) (hs:NoSl i):PE X (.Subscript o i pos) (tNGet X.prog X.w td ty):=by
 intro jP s σ H Q I h;refine zIb PySem.F.slot_dict_getitem.lookup hs (thn (ho jP s σ H _ I h) λ u s1 ⟨x,H1,I1,rx,q1⟩=>thn (hi jP s1 σ H1 _ I1 q1) λ iv s2 ⟨y,H2,I2,ry,a,k,v,kvs,ex,d,⟨b,eb,hk,hd⟩,hv,q2⟩=>?_);subst ex eb;obtain rfl:u=Value.ref a:=rx;obtain rfl:iv=Value.ref b:=ry;exact⟨(zNp I2 d).1,zJJ (by omega) I2 d hk hd hv λ w' s3 I3 rw'=>⟨v,H2,I3,rw',q2⟩⟩
theorem zMJ (hu:X.A.units+150<cLine) (ho:PE X o td) (hi:PE X i ty) (hv:PE X value tv) (hs:swapsWith value (some (.Subscript o i pos')) pos.line X.env=pure false) :
  PS X (.Assign [.Subscript o i pos'] value pos) (sNPut X.prog X.w td ty tv):=by
 intro jP s σ H D I h;refine wpAny_Assign_Subscript (thn (hv jP s σ H _ I h) λ r s1 ⟨v,H1,I1,rv,q1⟩=>thn (ho jP s1 σ H1 _ I1 q1) λ u s2 ⟨x,H2,I2,rx,q2⟩=>thn (hi jP s2 σ H2 _ I2 q2) λ iv s3 ⟨y,H3,I3,ry,a,k,kvs,ex,d,hl,⟨b,eb,hk,hd⟩,q3⟩=>?_) hs;subst ex eb;obtain rfl:u=Value.ref a:=rx;obtain rfl:iv=Value.ref b:=ry;exact zJI (by omega) I3 d hl hk hd rv λ o s4 I4 d4 t4=>⟨σ,_,I4,q3 o d4 t4⟩
end
theorem DicP.e {P:Program}{w:World}{H:Hp}{a:Addr}{kvs:List (Dt × V)}:DicP P w H a kvs->DicE P w H a kvs
 |.inl d=>.inl d.rd
 |.inr d=>.inr d
theorem DicE.r {P:Program}{w:World}{H:Hp}{a:Addr}{kvs:List (Dt × V)}{k:Dt}{v:V}(hv:valV kvs k=some v):DicE P w H a kvs->DicR P w H a kvs
 |.inl d=>d
 |.inr ⟨_,z⟩=>by subst z;cases hv
end L2
namespace PyProof.Rows
open PySem PySem.Calls
end PyProof.Rows
namespace L2
open PySem PySem.Calls PySem.Spec PyProof.Rows PySem.W
theorem zGX:bootBuiltins "set" = some (.type "set"):=by rfl
theorem zLy:∀(xs ks:List Str),(xs.foldl ddS ks).length<=ks.length+xs.length
 |[],ks=>lQ _
 |x::xs,ks=>by
  rw[List.foldl_cons];have h:=zLy xs (ddS ks x)
  have h2:(ddS ks x).length<=ks.length+1:=by
   unfold ddS;split
   ·omega
   ·simp
  rw[mM];omega
def zKK (K:W.Frag) (ta:TA):TE:=λ σ H Q=>ta σ H λ vs H1=>∃(a:Addr) (xs:List Str),vs=[.ref a]/\SqL K H1 a (xs.map V.str)/\xs.length<=100/\Q (.int ((dd xs).length:Nat)) H1
theorem zIA {X:Cx}{a:Expr}{ta:TA}{p p2 pos pos2:Pos}(hc:X.calm=true) (hg:Gl X "len") (hm:X.mg "len" = none) (hg2:Gl X "set") (hm2:X.mg "set" = none) (ha:PA X [a] ta) (hs:starEach [a] X.env=[(false,eval a X.env)]:=by rfl)
  (hs3:starEach [Expr.Call (.Name "set" p2) [a] [] pos2] X.env=[(false,eval (Expr.Call (.Name "set" p2) [a] [] pos2) X.env)]:=by rfl) :
  PE X (.Call (.Name "len" p) [.Call (.Name "set" p2) [a] [] pos2] [] pos) (zKK X.K ta):=by
 intro jP s σ H Q I h;refine wpAny_Call_Name_kw (zCl I hg hm PySem.boot_len (PyProof.Rows.callWith_builtin1 ?_ hs3 rfl));rw[hs3];show wpAny _ _ (spliced [(false,eval (Expr.Call (.Name "set" p2) [a] [] pos2) X.env)]) _ _ s;refine Calls.spliced_cons ?_;refine Call_ (zCl I hg2 hm2 zGX (PyProof.Rows.callWith_type1 (thn (ha pos2 jP s σ H _ I h) λ us s1 ⟨vs,H1,I1,r1,q1⟩=>?_) hs rfl));obtain⟨l,xs,e,h1,hx,q⟩:=q1;subst e;obtain⟨u,rfl,ru⟩:=vals1 r1;cases ru;obtain⟨its,rv,t1,_⟩:=I1.list h1;have hv:StrsAre its xs:=zFy rv;have hL:s1.heap.IsList l its.toArray:=let ⟨o,n,ho,hc,_,r⟩:=t1;⟨o,ho,hc,n,r⟩;refine zGV (vs:=its.toArray) (xs:=xs) (I1.ok.hd hc) hL (by simpa using hv) hx λ h2 es ep t tk' hd ht he hz kp=>?_;refine Calls.spliced_nil ?_;have I2:Inv X jP σ H1 { s1 with heap:=h2,toks:=tk' }:=I1.kept (t':=tk') kp;have ess:es.size=(dd xs).length:=by have:=he.pm.length_eq;simpa using this
 refine PySem.call_len_set (s:={ s1 with heap:=h2,toks:=tk' }) hd ⟨rfl,rfl,rfl⟩ rfl ht.ft (by omega) ?_;exact⟨.int ((dd xs).length:Nat),H1,I2.tok _,⟨_,by rw[ess]⟩,q⟩
noncomputable def loudV:List V:=[.str "say", .str "ask", .str "stop"]
noncomputable def Kd.loud:Kd->Bool
 |.say=>true
 |.ask=>true
 |.stop=>true
 |_=>false
theorem zG2 (k:Kd):inV (.str k.s) loudV=k.loud:=by cases k<;>symm
def zEx (K:W.Frag) (lv:Addr):Prop:=∃(o:Obj) (its:Array Value) (n:Nat),K.lookup lv=some o/\o.cls = .type "tuple" /\ o.data = .seq its n/\its.size<=sizeLine/\Vals loudV its.toList
def loudT (t:Tr):Prop:=∃p∈t.subs,p.kd.loud=true
theorem zB9:∀t:Tr,t.subs.length=t.size:=by
 intro t
 induction t<;>simp_all [Tr.subs,Tr.size]<;>omega
theorem zLU {F:List Tr}{t:Tr}(h:∀p,p∈F↔p∈t.subs):(F.map λ p=>p.kd.loud).any id=true↔loudT t:=by
 rw[List.any_eq_true];constructor
 ·rintro⟨b,hb,e⟩
  obtain⟨p,hp,rfl⟩:=mC.mp hb;exact⟨p,(h p).mp hp,e⟩
 ·rintro⟨p,hp,e⟩
  exact⟨_,mC.mpr ⟨p,(h p).mpr hp,rfl⟩,e⟩
theorem dd_lt:∀(xs ks:List Str),ks.Nodup->((xs.foldl ddS ks).length<ks.length+xs.length↔¬(ks++xs).Nodup)
 |[],ks,h=>by simp[h]
 |x::xs,ks,h=>by
  rw[List.foldl_cons]
  by_cases hx:x∈ks
  ·rw[ddS,if_pos hx]
   have:=zLy xs ks;refine⟨λ Ω z=>(List.nodup_append.mp z).2.2 x hx x lO rfl,λ Ω=>?_⟩;rw[mM];omega
  ·rw[ddS,if_neg hx]
   have nd:(ks++[x]).Nodup:=by
    rw[List.nodup_append];refine⟨h,by simp,λ a ha b hb e=>hx ?_⟩;rw[mQ.mp hb] at e;exact e▸ha
   have:=dd_lt xs (ks++[x]) nd;rw[mK,mX] at this;rw[mM,show ks.length+(xs.length+1)=ks.length + [x].length+xs.length by simp;omega];exact this
theorem zEp (xs:List Str):(dd xs).length<xs.length↔¬xs.Nodup:=by
 have:=dd_lt xs [] List.nodup_nil;simpa[dd] using this
noncomputable def letX:Tr->Option Str
 |.lett x _ _=>some x
 |_=>none
noncomputable def letN (t:Tr):List Str:=t.subs.filterMap letX
theorem zNw (k:Kd):k.s=Str.ofString "let" ↔ k = .lett:=by cases k<;>symm
theorem zLm (t:Tr):t.kd.s=Str.ofString "let" ↔ (letX t).isSome=true:=by
 rw[zNw];cases t with
 |bin o a b=>cases o<;>exact⟨(λ h=>by cases h),(λ h=>by cases h)⟩
 |lett x a b=>exact⟨λ Ω=>rfl,λ Ω=>rfl⟩
 |_=>exact⟨(λ h=>by cases h),(λ h=>by cases h)⟩
section
variable {X:Cx}{o e:Expr}{es:List Expr}{te to:TE}{t:TA}{name x:Str}{apos cpos pos p:Pos}{T id:String}
theorem zIC {r:List V->Hp->VK->Prop}(hc:CallR X (.type T) r) (hg:Gl X x) (hm:X.mg x=none) (hv:bootBuiltins x=some (.type T)) (ha:Sd (PA X (e::es) t)) (hn:x ≠ "__name__" := by decide) (hdb:(x == ("__debug__" : Str))=false:=by decide)
  (he:starEach (e::es) X.env=(false,eval e X.env)::starEach es X.env:=by rfl) (hpl:(backTo pos (starEach es X.env)).any (·.1)=false:=by rfl):Sd (PE X (.Call (.Name x p) (e::es) [] pos) (tCB r t)):=⟨zBG hc hg hm hv ha.un hn hdb he hpl⟩
end
instance instDecDt:DecidableEq Dt:=λ a b=>decidable_of_iff (Dt.beq a b=true) Dt.beq_iff
noncomputable def lookB (x:Str):List Str->Option Nat
 |[]=>none
 |y::r=>if y=x then some 0 else (lookB x r).map (· + 1)
noncomputable def keyB (x:Str) (rs:List Str):Nat ⊕ Str:=match lookB x rs with
 |some k=>.inl k
 |none=>.inr x
noncomputable def keyD:Nat ⊕ Str->Dt
 |.inl k=>.tup [.str "bound", .int k]
 |.inr z=>.tup [.str "free", .str z]
noncomputable def bareN (x:Str) (bs:List Str):Dt:=keyD (keyB x bs.reverse)
inductive Lf where
 |name (x:Str)|num (n:Int)|gap (g:Str)|ask (x:Str)|stop (x:Str)
noncomputable def dtL:Lf->List Dt
 |.name x=>[.str "name", .str x]|.num n=>[.str "num", .int n]|.gap g=>[.str "gap", .str g,.tup []]|.ask x=>[.str "ask", .str x]|.stop x=>[.str "stop", .str x]
noncomputable def bareL (l:Lf) (bs:List Str):Dt:=match l with
 |.name x=>bareN x bs
 |l=>.tup (dtL l)
noncomputable def Atom.lf:Atom->Lf
 |.name x=>.name x|.num n=>.num n|.gap g=>.gap g
noncomputable def bareA (bs:List Str) (a:Atom):Dt:=bareL a.lf bs
noncomputable def bare:Tr->List Str->Dt
 |.num n,_=>.tup [.str "num", .int n]
 |.name x,bs=>bareN x bs
 |.ask x,_=>.tup [.str "ask", .str x]
 |.stop x,_=>.tup [.str "stop", .str x]
 |.gap g as,bs=>.tup [.str "gap", .str g,.tup (as.map (bareA bs))]
 |.say a,bs=>.tup [.str "say", bare a bs]
 |.bin o a b,bs=>.tup [.str o.s,bare a bs,bare b bs]
 |.ite a b c,bs=>.tup [.str "if", bare a bs,bare b bs,bare c bs]
 |.lett x a b,bs=>.tup [.str "let", bare a bs,bare b (bs++[x])]
noncomputable def Tr.fv:Tr->List Str->List Str
 |.say a,bs=>a.fv bs
 |.bin _ a b,bs=>a.fv bs++b.fv bs
 |.ite a b c,bs=>a.fv bs++(b.fv bs++c.fv bs)
 |.lett x a b,bs=>a.fv bs++b.fv (bs++[x])
 |t,bs=>t.names.filter λ x=>decide (x∉bs)
noncomputable def bIn (t:Tr) (i:Int) (bs:List Str):List Str:=match t with
 |.lett x _ _=>if i=1 then bs++[x] else bs
 |_=>bs
noncomputable def kids:Tr->List Str->List (Tr × List Str)
 |.say a,bs=>[(a,bs)]
 |.bin _ a b,bs=>[(a,bs),(b,bs)]
 |.ite a b c,bs=>[(a,bs),(b,bs),(c,bs)]
 |.lett x a b,bs=>[(a,bs),(b,bs++[x])]
 |_,_=>[]
theorem zLB (t:Tr) (bs:List Str):(kids t bs).length=t.parts.length:=by cases t<;>rfl
theorem zLC (t:Tr) (bs:List Str) (i:Nat) (c:Tr) (h:t.parts[i]?=some c):(kids t bs)[i]?=some (c,bIn t i bs):=by
 cases t with
 |say a=>match i,h with
  |0,h=>cases h;rfl
 |bin o a b=>match i,h with
  |0,h=>cases h;rfl
  |1,h=>cases h;rfl
 |ite a b c=>match i,h with
  |0,h=>cases h;rfl
  |1,h=>cases h;rfl
  |2,h=>cases h;rfl
 |lett x a b=>match i,h with
  |0,h=>cases h;rfl
  |1,h=>cases h;rfl
 |_=>simp[Tr.parts] at h
theorem zEh (t:Tr) (bs:List Str) (x:Str):x∈t.fv bs↔(x∈t.names/\x∉bs)\/∃q∈kids t bs,x∈q.1.fv q.2:=by
 cases t<;>simp[Tr.fv,kids,Tr.names,List.mem_filter]
noncomputable def total (l:List (Tr × List Str)):Nat:=(l.map λ q=>q.1.size).sum
theorem zCX (a b:List (Tr × List Str)):total (a++b)=total a+total b:=by simp[total]
theorem zDO (a:Tr × List Str) (b:List (Tr × List Str)):total (a::b)=a.1.size+total b:=by simp[total]
theorem zIY:total []=0:=rfl
theorem zFU (t:Tr):1<=t.size:=by cases t<;>simp[Tr.size]
theorem zEf:∀l:List (Tr × List Str),l.length<=total l
 |[]=>lQ _
 |a::r=>by rw[zDO,mM];have:=zEf r;have:=zFU a.1;omega
theorem zFH (t:Tr) (bs:List Str):total (kids t bs)+1=t.size:=by cases t<;>simp[kids,total,Tr.size]<;>omega
theorem zJR (t:Tr) (bs:List Str) (m:Nat) (h:bs.length+t.size<=m):∀q∈kids t bs,q.2.length+q.1.size<=m:=by
 cases t<;>simp[kids,Tr.size] at h ⊢<;>omega
noncomputable def kvOf (ks:List Str):List (Key × V):=ks.map λ x=>(Sum.inr x,V.bl true)
noncomputable def addK (ks:List Str) (x:Str):List Str:=if x∈ks then ks else ks++[x]
theorem zKX (ks:List Str) (x:Str):putK (kvOf ks) (Sum.inr x) (.bl true)=kvOf (addK ks x):=by
 unfold putK addK
 have e:((kvOf ks).any λ kv=>decide (kv.1=Sum.inr x))=decide (x∈ks):=by
  rw[Bool.eq_iff_iff,List.any_eq_true,decide_eq_true_iff];constructor
  ·rintro⟨p,hp,h⟩
   obtain⟨y,hy,rfl⟩:=mC.mp hp;have:(Sum.inr y:Key)=Sum.inr x:=lT h;cases this;exact hy
  ·intro h
   exact⟨_,mC.mpr ⟨x,h,rfl⟩,lU rfl⟩
 rw[e]
 by_cases h:x∈ks
 ·rw[if_pos (decide_eq_true h),if_pos h]
  unfold kvOf;rw[nP];refine List.map_congr_left λ y Ω=>?_;show (if (Sum.inr y:Key)=Sum.inr x then ((Sum.inr y:Key),V.bl true) else (Sum.inr y,V.bl true))=(Sum.inr y,V.bl true);split<;>rfl
 ·rw[if_neg (by simpa using h),if_neg h]
  simp[kvOf]
set_option tactic.hygienic true in
theorem zIT {ks:List Str}{x:Str}(h:ks.Nodup):(addK ks x).Nodup:=by
 unfold addK;split
 ·exact h
 ·rename_i n
  rw[List.nodup_append];refine⟨h,by simp,λ a ha b hb e=>?_⟩;rw[mQ.mp hb] at e;exact n (e▸ha)
set_option tactic.hygienic true in
theorem zK5 {ks:List Str}{x y:Str}:y∈addK ks x↔y∈ks\/y=x:=by
 unfold addK;split
 ·rename_i h
  constructor
  ·exact .inl
  ·rintro (z|z)
   ·exact z
   ·rw[z];exact h
 ·simp
theorem zDF:∀{ks ws:List Str},ks.Nodup->(∀x∈ks,x∈ws)->ks.length<=ws.length
 |[],_,_,_=>lY _
 |k::ks,ws,hn,h=>by
  have hk:=h k lO
  have h':∀x∈ks,x∈ws.erase k:=λ x hx=>by
   have ne:x≠k:=λ e=>(rC.mp hn).1 (e▸hx);exact(List.mem_erase_of_ne ne).mpr (h x (lP _ hx))
  have ih:=zDF (rC.mp hn).2 h';rw[List.length_erase_of_mem hk] at ih;have:0<ws.length:=List.length_pos_of_mem hk;rw[mM];omega
abbrev Told:=Str->Option Atom
noncomputable def Atom.tr:Atom->Tr
 |.name x=>.name x|.num n=>.num n|.gap g=>.gap g []
noncomputable def Tr.wrds:Tr->List Str
 |.say a=>a.wrds
 |.bin _ a b=>a.wrds++b.wrds
 |.ite a b c=>a.wrds++(b.wrds++c.wrds)
 |.lett x a b=>x::(a.wrds++b.wrds)
 |t=>t.names
structure Itm where
 t:Tr
 τ:Told
 bs:List Str
 cs:List Str
section
variable (G:Str->Prop)
def Atom.good:Atom->Prop
 |.name x=>G x|.num _=>True|.gap g=>G g
def Tr.good:Tr->Prop
 |.num _=>True|.name x=>G x|.ask x=>G x|.stop x=>G x
 |.gap g as=>G g/\as.length<=1000/\∀a∈as,a.good G
 |.say a=>a.good
 |.bin _ a b=>a.good/\b.good
 |.ite a b c=>a.good/\b.good/\c.good
 |.lett x a b=>G x/\a.good/\b.good
end
noncomputable def Tr.withP:Tr->List Tr->Tr
 |.say _,[a]=>.say a
 |.bin o _ _,[a,b]=>.bin o a b
 |.ite _ _ _,[a,b,c]=>.ite a b c
 |.lett x _ _,[a,b]=>.lett x a b
 |t,_=>t
noncomputable def Tr.dp:Tr->Nat
 |.say a=>a.dp+1|.bin _ a b=>max a.dp b.dp+1|.ite a b c=>max a.dp (max b.dp c.dp)+1|.lett _ a b=>max a.dp b.dp+1
 |_=>2
inductive All2 {α β:Type}(F:α->β->Prop):List α->List β->Prop
 |nil:All2 F [] []
 |cons {a b as bs}:F a b->All2 F as bs->All2 F (a::as) (b::bs)
theorem All2.length {α β:Type}{F:α->β->Prop}:∀{as:List α}{bs:List β},All2 F as bs->as.length=bs.length
 |_,_,.nil=>rfl
 |_,_,.cons _ t=>by simp[t.length]
theorem All2.split {α β:Type}{F:α->β->Prop}:∀{as cs:List α}{bs:List β},All2 F (as++cs) bs->∃b1 b2,bs=b1++b2/\All2 F as b1/\All2 F cs b2
 |[],_,bs,h=>⟨[],bs,rfl,.nil,h⟩
 |_::as,cs,_,.cons r t=>by
  obtain⟨b1,b2,rfl,h1,h2⟩:=t.split (as:=as);exact⟨_::b1,b2,rfl,.cons r h1,h2⟩
noncomputable def growL:List Tr->List Tr->List Tr
 |[],_=>[]
 |h::hs,R=>h.withP (R.take h.parts.length)::growL hs (R.drop h.parts.length)
noncomputable def zAb (hs:List Tr):Nat:=(hs.map λ h=>h.parts.length).sum
theorem zEm:∀(hs R:List Tr),(growL hs R).length=hs.length
 |[],_=>rfl
 |h::hs,R=>by simp[growL,zEm hs]
theorem zFJ:∀(hs:List Tr) {R:List Tr}{h:Tr}{rs:List Tr},R.length=zAb hs->rs.length=h.parts.length->growL (hs++[h]) (R++rs)=growL hs R++[h.withP rs]
 |[],R,h,rs,e,e'=>by
  have:R=[]:=nJ.mp (by simpa[zAb] using e);subst this;simp[growL,←e']
 |a::hs,R,h,rs,e,e'=>by
  have e1:R.length=a.parts.length+zAb hs:=by simpa[zAb] using e
  show _::growL (hs++[h]) _=_;rw[List.take_append_of_le_length (by omega),List.drop_append_of_le_length (by omega),zFJ hs (by rw[mV];omega) e'];rfl
noncomputable def zBK:List (List Tr)->List Tr->List Tr
 |[],R=>R
 |hs::Lr,R=>zBK Lr (growL hs R)
def Fit:List (List Tr)->Nat->Prop
 |[],n=>n=1
 |hs::Lr,n=>zAb hs=n/\Fit Lr hs.length
noncomputable def tot (l:List Itm):Nat:=(l.map λ q=>q.t.size).sum
def zDq (H:Hp) (p:Tr × List Str) (v:V):Prop:=∃a u b,v = .ref a/\H a=some (.tup [u,.ref b])/\Rep H p.1 u/\H b=some (.tup (p.2.map V.str))
theorem zDq.mono {H H':Hp}(k:Tk H H') {p:Tr × List Str}{v:V}:zDq H p v->zDq H' p v
 |⟨a,u,b,e,h,r,z⟩=>⟨a,u,b,e,k _ _ h,r.mono k,k _ _ z⟩
theorem zFk (x:Str) (bs:List Str):inV (.str x) (bs.map V.str)=decide (x∈bs):=by
 unfold inV;rw[Bool.eq_iff_iff,List.any_eq_true,decide_eq_true_iff];constructor
 ·rintro⟨v,hv,h⟩
  obtain⟨y,hy,rfl⟩:=mC.mp hv;rw[zJl] at h;exact h▸hy
 ·intro h
  exact⟨_,mC.mpr ⟨x,h,rfl⟩,(zJl _ _).mpr rfl⟩
theorem zMw (bs:List Str):(bs.map V.str).all flatV=true:=zJg bs
theorem zHm (l:List (Tr × List Str)):total (l.flatMap λ q=>kids q.1 q.2)+l.length=total l:=by
 induction l with
 |nil=>rfl
 |cons a r ih =>
  rw[rF,zCX,zDO,mM];have:=zFH a.1 a.2;omega
theorem zH0 (l:List (Tr × List Str)) (i:Nat):total (l.take i)<=total l:=by
 have:=congrArg total (List.take_append_drop i l);rw[zCX] at this;omega
abbrev rLen (K:W.Frag):List V->Hp->VK->Prop:=rLen1 K
theorem zJ6 {X:Cx}:CallR X (.builtin "len") (rLen X.K):=zD2
noncomputable def agap:Atom->List Str
 |.gap h=>[h]
 |_=>[]
noncomputable def cnt1:Tr->List (Str × Nat)
 |.gap g as=>(g,as.length)::as.flatMap λ a=>(agap a).map λ h=>(h,0)
 |_=>[]
theorem zLS {t:Tr}(h:¬t.kd = .gap):cnt1 t=[]:=by
 cases t with
 |gap x as=>exact absurd rfl h
 |_=>rfl
noncomputable def gcnt (t:Tr):List (Str × Nat):=t.subs.flatMap cnt1
noncomputable def isGap (t:Tr):Bool:=decide (t.kd = .gap)
theorem zJc (t:Tr):(t.subs.filter isGap).flatMap cnt1=gcnt t:=by
 unfold gcnt
 induction t.subs with
 |nil=>rfl
 |cons a L ih =>
  by_cases h:a.kd = .gap
  ·rw[List.filter_cons_of_pos (by exact decide_eq_true h),rF,rF,ih]
  ·rw[List.filter_cons_of_neg (by exact λ z=>h (of_decide_eq_true z)),rF,zLS h,ih,nS]
noncomputable def zAw (L:List (Str × Nat)) (g:Str):Option Nat:=(L.find? λ x=>decide (x.1=g)).map (·.2)
theorem zFK (L M:List (Str × Nat)) (g:Str):zAw (L++M) g=(zAw L g).or (zAw M g):=by
 unfold zAw;rw[List.find?_append];cases L.find? λ x=>decide (x.1=g)<;>rfl
structure Fd1 (L:List (Str × Nat)) (kvs:List (Key × V)):Prop where
 vl:∀g,valV kvs (Sum.inr g:Key)=(zAw L g).map λ n=>V.int ((n:Nat):Int)
 ky:∀p∈kvs,∃g∈L.map (·.1),p.1=(Sum.inr g:Key)
 nd:(kvs.map (·.1)).Nodup
theorem zMs {kvs:List (Key × V)}{k:Key}{v:V}{p:Key × V}(h:p∈putK kvs k v):p=(k,v)\/p∈kvs:=by
 unfold putK at h;split at h
 ·obtain⟨q,hq,e⟩:=mC.mp h
  by_cases z:q.1=k
  ·rw[if_pos z,z] at e
   exact .inl e.symm
  ·rw[if_neg z] at e
   exact .inr (e▸hq)
 ·rcases lK.mp h with h|h
  ·exact .inr h
  ·exact .inl (mQ.mp h)
set_option tactic.hygienic true in
theorem zNo {kvs:List (Key × V)}(k:Key) (v:V) (nd:(kvs.map (·.1)).Nodup):((putK kvs k v).map (·.1)).Nodup:=by
 unfold putK;split
 ·have e:(kvs.map λ kv=>if kv.1=k then (kv.1,v) else kv).map (·.1)=kvs.map (·.1):=by
   rw[nP];refine List.map_congr_left λ q Ω=>?_;show (if q.1=k then (q.1,v) else q).1=q.1;split<;>rfl
  rw[e];exact nd
 ·rename_i h
  rw[mP,List.nodup_append];refine⟨nd,by simp,λ a ha b hb e=>h ?_⟩;obtain⟨q,hq,rfl⟩:=mC.mp ha;simp at hb;rw[List.any_eq_true];exact⟨q,hq,lU (e.trans hb)⟩
theorem Fd1.nil:Fd1 [] []:=⟨λ g=>rfl,(λ p h=>nomatch h),List.nodup_nil⟩
theorem Fd1.put {L:List (Str × Nat)}{kvs:List (Key × V)}(h:Fd1 L kvs) {x:Str}{n:Nat}(e:valV kvs (Sum.inr x:Key)=none):Fd1 (L++[(x,n)]) (putK kvs (Sum.inr x:Key) (.int ((n:Nat):Int))):=by
 have e0:zAw L x=none:=by
  have:=h.vl x;rw[e] at this;cases h2:zAw L x with
  |none=>rfl
  |some m=>rw[h2] at this;cases this
 refine⟨λ g=>?_,λ p hp=>?_,zNo _ _ h.nd⟩
 ·rw[zD6,zFK]
  by_cases z:g=x
  ·subst z
   rw[if_pos rfl,e0];simp[zAw]
  ·have z':¬(Sum.inr g:Key)=Sum.inr x:=λ w=>z (Sum.inr.inj w)
   rw[if_neg z',h.vl g];have:zAw [(x,n)] g=none:=by simp[zAw];exact λ w=>z (Eq.symm w)
   rw[this];cases zAw L g<;>rfl
 ·rcases zMs hp with z|z
  ·exact⟨x,by simp,by rw[z]⟩
  ·obtain⟨g,hg,e⟩:=h.ky p z
   exact⟨g,by rw[mP];exact mF _ hg,e⟩
theorem Fd1.same {L:List (Str × Nat)}{kvs:List (Key × V)}(h:Fd1 L kvs) {x:Str}{n:Nat}{z:V}(e:valV kvs (Sum.inr x:Key)=some z):Fd1 (L++[(x,n)]) kvs:=by
 obtain⟨m,e0⟩:∃m,zAw L x=some m:=by
  have:=h.vl x;rw[e] at this;cases h2:zAw L x with
  |none=>rw[h2] at this;cases this
  |some m=>exact⟨m,rfl⟩
 refine⟨λ g=>?_,λ p hp=>?_,h.nd⟩
 ·rw[h.vl g,zFK]
  by_cases z:g=x
  ·subst z
   rw[e0];rfl
  ·have:zAw [(x,n)] g=none:=by simp[zAw];exact λ w=>z (Eq.symm w)
   rw[this];cases zAw L g<;>rfl
 ·obtain⟨g,hg,e⟩:=h.ky p hp
  exact⟨g,by rw[mP];exact mF _ hg,e⟩
def WN (H:Hp) (x:Str × Nat) (v:V):Prop:=∃b,v = .ref b/\H b=some (.tup [.str x.1,.int ((x.2:Nat):Int)])
theorem WN.mono {H H':Hp}(k:Tk H H') {x:Str × Nat}{v:V}:WN H x v->WN H' x v
 |⟨b,e,h⟩=>⟨b,e,k _ _ h⟩
theorem AtRep.all {H:Hp}:∀{a:Atom}{v:V},AtRep H a v->∃(b:Addr) (r:List V),v = .ref b/\((∃h,a = .gap h/\H b=some (.tup (.str "gap" :: .str h::r)))\/(agap a=[]/\∃k:Str,k ≠ "gap" /\ H b=some (.tup (.str k::r))))
 |.name x,_,⟨b,e,h⟩=>⟨b,_,e,.inr ⟨rfl, "name", by symm,h⟩⟩
 |.num x,_,⟨b,e,h⟩=>⟨b,_,e,.inr ⟨rfl, "num", by symm,h⟩⟩
 |.gap x,_,⟨b,c,e,h,_⟩=>⟨b,_,e,.inl ⟨x,rfl,h⟩⟩
theorem zDi {L:List (Str × Nat)}{g:Str}:(zAw L g).isSome=true↔g∈L.map (·.1):=by
 unfold zAw;rw[Option.isSome_map,List.find?_isSome];constructor
 ·rintro⟨x,hx,e⟩
  exact mC.mpr ⟨x,hx,lT e⟩
 ·intro h
  obtain⟨x,hx,e⟩:=mC.mp h;exact⟨x,hx,lU e⟩
theorem Fd1.has {L:List (Str × Nat)}{kvs:List (Key × V)}(h:Fd1 L kvs) {g:Str}:(∃p∈kvs,p.1=(Sum.inr g:Key))↔g∈L.map (·.1):=by
 constructor
 ·rintro⟨p,hp,e⟩
  obtain⟨g',hg,e'⟩:=h.ky p hp;rw[e] at e';rw[Sum.inr.inj e'];exact hg
 ·intro hg
  have h1:=zDi.mpr hg;have h2:=h.vl g;obtain⟨n,en⟩:=Option.isSome_iff_exists.mp h1;rw[en] at h2;obtain⟨p,hp,ep⟩:=lV.mp (show (kvs.find? λ kv=>decide (kv.1=(Sum.inr g:Key))).map (·.2)=_ from h2);have hk:=List.find?_some hp;have hq:p.1=(Sum.inr g:Key):=lT hk;exact⟨p,List.mem_of_find?_eq_some hp,hq⟩
theorem Fd1.isS {L:List (Str × Nat)}{kvs:List (Key × V)}(h:Fd1 L kvs) (g:Str):(valV kvs (Sum.inr g:Key)).isSome=decide (g∈L.map (·.1)):=by
 rw[h.vl g,Option.isSome_map,Bool.eq_iff_iff,decide_eq_true_iff];exact zDi
theorem zCk {n:Nat}(h:n<=100000):n<sizeLine:=by rw[sizeLine_eq];omega
theorem zEC {α:Type}{bs:List Bool}{b:Bool}{P:α->Prop}{C:List α}{x:α}{i:Nat}(e:C[i]?=some x) (hb:bs.any id=true↔∃y∈C.take i,P y) (h:b=true↔P x):(bs++[b]).any id=true↔∃y∈C.take (i+1),P y:=by
 rw[List.any_append,Bool.or_eq_true,hb,zAL e];constructor
 ·rintro (⟨y,hy,z⟩|z)
  ·exact⟨y,mF _ hy,z⟩
  ·exact⟨x,mB _ lO,h.mp (by simpa using z)⟩
 ·rintro⟨y,hy,z⟩
  rcases lK.mp hy with w|w
  ·exact .inl ⟨y,w,z⟩
  ·rw[mQ.mp w] at z
   exact .inr (by simpa using h.mpr z)
def zKB (L C:List (Str × Nat)):Prop:=∃x∈C,∃n,zAw L x.1=some n/\n≠x.2
def RpK (H:Hp) (k:Str × Str) (v:V):Prop:=∃p,v = .ref p/\H p=some (.tup [.str k.1,.str k.2])
def RpKs (H:Hp) (ks:List (Str × Str)) (v:V):Prop:=∃(p:Addr) (o:Obj) (us:List V),v = .ref p/\H p=some (.frz o (.tup us))/\o.dict=none/\Paired (RpK H) ks us
theorem RpK.mono {H H':Hp}{k:Str × Str}{v:V}(h:RpK H k v) (t:Tk H H'):RpK H' k v:=let ⟨p,e,x⟩:=h;⟨p,e,t _ _ x⟩
theorem RpKs.mono {H H':Hp}{k:List (Str × Str)}{v:V}(h:RpKs H k v) (g:Same H H'):RpKs H' k v:=let ⟨p,o,us,e,x,d,y⟩:=h;⟨p,o,us,e,g _ _ x,d,Paired.mapP y λ Ω Ω z=>z.mono g.tk⟩
def badK (L:List (Str × Nat)) (k:Str × Str):Prop:=zAw L k.1=none\/(k.2=Str.ofString "number" /\ ∃n,zAw L k.1=some n/\0<n)
noncomputable def kdV (kds:List (Str × Str)):List (Key × V):=kds.map λ p=>((Sum.inr p.1:Key),V.str p.2)
theorem zLp:∀{kds:List (Str × Str)},(kds.map (·.1)).Nodup->∀(g:Str) (v:V),valV (kdV kds).reverse (Sum.inr g:Key)=some v↔∃k,v = .str k/\(g,k)∈kds:=by
 intro kds nd g v
 have mem:∀p:Key × V,p∈(kdV kds).reverse↔∃q∈kds,p=((Sum.inr q.1:Key),V.str q.2):=λ p=>by
  rw[List.mem_reverse];unfold kdV;rw[List.mem_map];exact⟨λ⟨q,h,e⟩=>⟨q,h,e.symm⟩,λ⟨q,h,e⟩=>⟨q,h,e.symm⟩⟩
 unfold valV;rw[Option.map_eq_some_iff];constructor
 ·rintro⟨p,hp,rfl⟩
  have h1:=List.mem_of_find?_eq_some hp;have h2:=List.find?_some hp;obtain⟨q,hq,rfl⟩:=(mem p).mp h1;have e:q.1=g:=Sum.inr.inj (lT h2);exact⟨q.2,rfl,by rw[←e];exact hq⟩
 ·rintro⟨k,rfl,hk⟩
  cases e:(kdV kds).reverse.find? λ kv=>decide (kv.1=(Sum.inr g:Key)) with
  |none =>
   have:=List.find?_eq_none.mp e _ ((mem _).mpr ⟨(g,k),hk,rfl⟩);simp at this
  |some p =>
   refine⟨p,rfl,?_⟩;have h1:=List.mem_of_find?_eq_some e;have h2:=List.find?_some e;obtain⟨q,hq,rfl⟩:=(mem p).mp h1;have e1:q.1=g:=Sum.inr.inj (lT h2)
   have e2:q=(g,k):=by
    obtain⟨i,hi⟩:=List.getElem?_of_mem hq;obtain⟨j,hj⟩:=List.getElem?_of_mem hk;have hi':(kds.map (·.1))[i]?=some g:=by rw[mJ,hi,←e1];rfl
    have hj':(kds.map (·.1))[j]?=some g:=by rw[mJ,hj];rfl
    have:i=j:=zHg nd hi' hj';subst this;exact mE (hi.symm.trans hj)
   rw[e2]
theorem zNx {kds:List (Str × Str)}(nd:(kds.map (·.1)).Nodup) (g:Str):∃z:V,(valV (zBC [] (kdV kds)) (Sum.inr g:Key)).getD .non=z/\scal z (.str "number")=true/\(z = .str "number" ↔ (g,("number" : Str))∈kds):=by
 rw[zDN];have K:=zLp nd g;cases e:valV (kdV kds).reverse (Sum.inr g:Key) with
 |none =>
  refine⟨.non,rfl,rfl,(λ z=>nomatch z),λ z=>?_⟩
  have:=(K (.str "number")).mpr ⟨_,rfl,z⟩;rw[e] at this;cases this
 |some v =>
  obtain⟨k,rfl,hk⟩:=(K v).mp e;refine⟨.str k,rfl,rfl,λ z=>?_,λ z=>?_⟩
  ·rw[←V.str.inj z];exact hk
  ·have:=(K (.str "number")).mpr ⟨_,rfl,z⟩
   rw[e] at this;exact mE this
theorem zJQ {H:Hp}{ks:List (Str × Str)}{us:List V}(h:Paired (RpK H) ks us):Paired (PrV H) us (kdV ks):=by
 induction h with
 |nil=>exact .nil
 |cons r t ih=>obtain⟨p,e,h⟩:=r;exact .cons ⟨p,e,h⟩ ih
def badA (ks:List (Str × Str)) (a:Atom):Prop:=∃h,a = .gap h/\(h,("number" : Str))∉ks
def badP (ks:List (Str × Str)) (t:Tr):Prop:=∃g as,t = .gap g as/\∃a∈as,badA ks a
section
variable {prog:Program}{w:World}{A:Around}{E:XQ}{s:Shared}
theorem zN1:∀(n:Nat) {d:Dt}{u:Value}{Q:Bool->Shared->Prop},DA s.heap d u->(∀b,Q b s)->wpAny (model prog w) A (hashByValue n u) Q E s:=by
 intro n
 induction n with
 |zero =>
  intro d u Q hd h;cases hd<;>(unfold hashByValue;exact lB (h _))
 |succ n ih =>
  intro d u Q hd h;cases hd with
  |int i t=>unfold hashByValue;exact lB (h _)
  |str x t=>unfold hashByValue;exact lB (h _)
  | @tup a items ds ha hi =>
   obtain⟨o,ho,hc,m,hd⟩:=ha;have hT:s.TypeIs (.ref a) "tuple" := ⟨o,ho,hc⟩;unfold hashByValue;refine lA (wpAny_specialOf hT F.slot_tuple_hash.lookup ?_);dsimp only;refine lA (wpAny_seqItems ho hd ?_);refine lA ?_;show wpAny _ _ (forIn items _ _) _ _ s;rw[←Array.forIn_toList];refine wpAny_forIn_list _ (λ rest r s'=>r.1=none/\s'=s/\∃ds',DAs s.heap ds' rest) _ ?_ ?_ _ _ ⟨rfl,rfl,ds,hi⟩
   ·rintro v rest r s' ⟨hr,rfl,ds',hall⟩
    cases hall with
    | @cons k _ ks' _ h1 hl' =>
     refine lA (ih h1 λ b=>?_);cases b
     ·simp only[Bool.not_false,if_true]
      exact lB (lB (h _))
     ·simp only[Bool.not_true,Bool.false_eq_true,if_false]
      exact lB ⟨rfl,rfl,ks',hl'⟩
   ·rintro⟨r1,r2⟩ s' ⟨hr,rfl,_⟩
    simp only at hr;subst hr;exact lB (h _)
theorem zKN (b:Bool) (j:Nat):(SetTable.fresh 0 0 b).slot j = .empty:=by
 unfold SetTable.slot;have h:SetTable.has #[] j=false:=by unfold SetTable.has;simp
 simp only[SetTable.fresh,h];rfl
set_option tactic.hygienic true in
theorem zGn {d x:Addr}{key:Dt}{h0:Int}{b:Bool}{Q:Bool->Shared->Prop}(hd:s.heap.get? d=some (zBU #[] 0 (SetTable.fresh 0 0 b))) (hk:DA s.heap key (.ref x))
  (h1:∀h' es' t',es'.size=1->SetN h' d es' 1 t'->t'.fits 1=true->Heap.SameBut d s.heap h'->Q true { s with heap:=h' }):wpAny (model prog w) A (setAddHashed d (.ref x) h0) Q E s:=by
 have hf:=zBy b;unfold setAddHashed;refine lE ?_;rw[setAddHashedIn.eq_def];dsimp only;refine lA (wpAny_setState_of hd rfl hf ?_);dsimp only;refine lD (by unfold byScan;simp[Value.scannable]) ?_;refine lA ?_;unfold setSearch;rw[setSearchFrom];refine lA (wpAny_setState_of hd rfl hf ?_);dsimp only;refine lD (by cases b<;>rfl) ?_
 have c2:∀(f:Nat->Int) (q:SetTable.Probe),SetTable.probe.go (SetTable.fresh 0 0 b) f h0 (10 * SetTable.turns (SetTable.fresh 0 0 b).mask) q=some (.empty q.j q.dummy):=λ f q=>by
  show SetTable.probe.go (SetTable.fresh 0 0 b) f h0 (219+1) q=_;rw[SetTable.probe.go,zKN]
 split
 ·rename_i met hmet
  have e1:some met=_:=hmet.symm.trans (c2 _ _);cases e1;dsimp only;refine lB ?_;dsimp only;refine lA (wpAny_setState_of hd rfl hf ?_);dsimp only;generalize (none.getD ((SetTable.fresh 0 0 b).probeStart h0)).j=j;have z1:(SetTable.insertAt #[] ((SetTable.fresh 0 0 b).put j).2 (h0,Value.ref x)).size=1:=by unfold SetTable.insertAt;simp
  have z2:((SetTable.fresh 0 0 b).put j).1.place.size=1:=by unfold SetTable.put SetTable.insertAt SetTable.fresh;simp
  have z3:((SetTable.fresh 0 0 b).put j).1.mask=7:=rfl
  have z4:((SetTable.fresh 0 0 b).put j).1.dummies.size=0:=by
   have h:SetTable.has #[] j=false:=by unfold SetTable.has;simp
   unfold SetTable.put SetTable.fresh;simp[h]
  generalize SetTable.insertAt #[] ((SetTable.fresh 0 0 b).put j).2 (h0,Value.ref x)=es' at z1 ⊢;generalize ((SetTable.fresh 0 0 b).put j).1=t1 at z2 z3 z4 ⊢
  have fin:∀t2:SetTable,t2.place.size=1->t2.mask=7->t2.dummies.size=0->wpAny (model prog w) A (storeSet d es' t2 >>= λ Ω=>if (!false && t2.tooFull)=true then (setRelay d (SetTable.grown ((#[]:Array (Int × Value)).size+1)) >>= λ Ω=>pure true) else pure true) Q E s:=λ t2 y2 y3 y4=>by
   have fl:t2.fill=1:=by unfold SetTable.fill;omega
   refine lA (wpAny_storeSet_of hd rfl ?_ (mG (by omega:es'.size<=1000) (by decide)));refine lD (decide_eq_false λ z=>?_) (lB ?_)
   ·unfold SetTable.tooFull at z
    rw[fl,y3] at z;simp at z
   ·refine h1 _ es' t2 z1 (mI _ hd (by rfl)) ?_ (Heap.SameBut.update ..)
    unfold SetTable.fits;rw[y2,fl,y3];rfl
  refine wpAny_ite_split (λ Ω=>lA (zN1 8 hk λ b=>?_)) (λ Ω=>lA (lB ?_))
  ·cases b
   ·exact fin _ z2 z3 z4
   ·exact fin _ z2 z3 z4
  ·exact fin _ z2 z3 z4
 ·rename_i hmet
  exact(hmet _ (c2 _ _)).elim
theorem it_ne {it l:Addr}{i:Nat}(hit:s.heap.IsTupleIter it l i) {b:Addr}{y:Array Value}(hb:s.heap.IsTuple b y):b≠it:=by
 rintro rfl;obtain⟨o,ho,hc,n,hd'⟩:=hb;obtain⟨o2,ho2,hc2,_⟩:=hit;rw[ho] at ho2;cases ho2;rw[hc] at hc2;exact absurd (Value.type.inj hc2) (by decide)
theorem zIo {d it l:Addr}{vs:Array Value}{es:Array (Int × Value)}{ep:Nat}{t:SetTable}{R:Result->Shared->Prop}(hh:A.handled=none) (n1:d≠it) (hit:s.heap.IsTupleIter it l vs.size) (hL:s.heap.IsTuple l vs) (hd:SetN s.heap d es ep t)
  (hR:∀h',SetN h' d es ep t->(∀b o,b≠d->b≠it->s.heap.get? b=some o->h'.get? b=some o)->R (.ok (.ret .none)) { s with heap:=h' }):codeAny (model prog w) A (.builtin "set.update.loop" ⟨[.ref d,.ref it],[]⟩) R s:=by
 refine codeAny_builtin PyProof.Rows.F.entry_set_update_loop ?_;rw[Around.under_plainId PyProof.Rows.F.plain_set_update_loop _];unfold Builtin.«set.update.loop»;dsimp only;refine lA (wpAny_pyNext_tuple_end (show A.in1.handled=none from hh) hit hL (by simp) λ h3 he3=>?_);exact lB (hR h3 (he3 d _ n1 hd) λ b o nb ni e=>he3 b o ni e)
theorem zIn {d it l:Addr}{vs:Array Value}{xs:List Dt}{b:Bool}{R:Result->Shared->Prop}(hh:A.handled=none) (hu:A.units+20<cLine) (n1:d≠it) (n2:l≠it) (n3:l≠d) (hlen:xs.length<=1) (hds:∀x∈xs,(∃ds,x = .tup ds)/\x.deep<=8) (hv:DAs s.heap xs vs.toList) (hit:s.heap.IsTupleIter it l 0) (hL:s.heap.IsTuple l vs) (hd:SetN s.heap d #[] 0 (SetTable.fresh 0 0 b))
  (hR:∀h' es ep t tk',SetN h' d es ep t->t.fits es.size=true->es.size=xs.length->(∀b o,b≠d->b≠it->s.heap.get? b=some o->h'.get? b=some o)->R (.ok (.ret .none)) { s with heap:=h',toks:=tk' }) :
  codeAny (model prog w) A (.builtin "set.update.loop" ⟨[.ref d,.ref it],[]⟩) R s:=by
 have hl:vs.size=xs.length:=by have:=hv.length;simpa using this.symm
 match xs,hlen with
 |[],_=>exact zIo hh n1 (by rw[hl];exact hit) hL hd λ h' e k=>hR h' _ _ _ s.toks e (zBy b) rfl k
 |[x],_ =>
  obtain⟨⟨ds,rfl⟩,dx⟩:=hds x lO
  obtain⟨u,hux,hdx⟩:∃u,vs.toList=[u]/\DA s.heap (.tup ds) u:=by
   cases e:vs.toList with
   |nil=>rw[e] at hv;cases hv
   |cons u r =>
    rw[e] at hv;cases hv with
    |cons h t=>cases t;exact⟨u,rfl,h⟩
  obtain⟨a,rfl⟩:∃a,u = .ref a:=by cases hdx;exact⟨_,rfl⟩
  have hvx:vs[0]?=some (.ref a):=by rw[←nG,hux];rfl
  refine codeAny_builtin PyProof.Rows.F.entry_set_update_loop ?_;rw[Around.under_plainId PyProof.Rows.F.plain_set_update_loop _];unfold Builtin.«set.update.loop»;dsimp only;refine lA (wpAny_pyNext_tuple_item hit hL (x:=.ref a) hvx λ h1 hit1 hs1=>?_);dsimp only;have kp1:∀b y,s.heap.IsTuple b y->h1.IsTuple b y:=λ b y hb=>hb.extBut hs1.extBut (it_ne hit hb);refine lA (lE ?_);unfold setAdd;refine lE (lA (zJa 8 _ { s with heap:=h1 } dx (hdx.kept kp1) (by show A.units+1+8<cLine;omega) ?_));have hd1:=hs1.extBut d _ n1 hd;refine zGn (s:={ s with heap:=h1,toks:=_ }) hd1 (hdx.kept kp1) λ h2 es2 t2 z2 hd2 hf2 hs2=>?_;have nd:l≠d:=n3;refine lB ⟨plainId_quiet PyProof.Rows.F.plain_set_update_loop _,?_⟩;refine zIo (vs:=vs) hh n1 (by rw[hl];exact hit1.extBut hs2.extBut (Ne.symm n1)) ((kp1 _ _ hL).extBut hs2.extBut nd) hd2 λ h' e k=>hR h' _ _ _ _ e (by rw[z2];exact hf2) z2 λ b o nb ni e=>k b o nb ni (hs2.extBut b o nb (hs1.extBut b o ni e))
theorem zJ5 {l:Addr}{vs:Array Value}{xs:List Dt}{Q:XQ}(hh:A.handled=none) (hu:A.units+30<cLine) (hl:s.heap.IsTuple l vs) (hv:DAs s.heap xs vs.toList) (hlen:xs.length<=1) (hds:∀x∈xs,(∃ds,x = .tup ds)/\x.deep<=8)
  (h:∀h' es ep t tk',SetN h' s.heap.objs.size es ep t->t.fits es.size=true->es.size=xs.length->(∀b o,s.heap.get? b=some o->h'.get? b=some o)->Q (.ref s.heap.objs.size) { s with heap:=h',toks:=tk' }) :
  wpAny (model prog w) A (call (.type "set") [.ref l]) Q E s:=by
 obtain⟨c,tl,hmro⟩:=F.called_set.mro;have hmade:=F.called_set.made;have hsub:=F.called_set.sub;refine wpAny_call (codeAny_of_tree ?_);refine lB ⟨Code.quiet_builtin _ (by symm),codeAny_builtin F.entry_type_call ?_⟩;rw[Around.under_plain (weight_type_call_type "set" [.ref l] []) rfl];have h1:=F.called_set.notType;have h2:=F.called_set.canCreate;have hct:=F.typeCall_set_1 (.ref l);unfold Builtin.«type.__call__»;dsimp only;refine lD (decide_eq_false (by rw[h1];exact lX)) ?_;refine lD (decide_eq_false (by rw[h2];exact lX)) ?_;refine lA (wpAny_of_eq hct (lA (wpAny_of_eq hmro ?_)));refine lD (by rfl) ?_;refine lA (wpAny_of_eq hmade ?_);dsimp only;refine lA (lB ?_);refine lA (lE (wpAny_call (codeAny_mono (zD0 (E:=E) (Q₁:=λ obj s₁=>obj = .ref s.heap.objs.size/\s₁={ s with heap:=s.heap.push (zBU #[] 0 (SetTable.fresh 0 0 (!w.params.followText "set-order"))) }) (.ref l) ⟨rfl,rfl⟩) λ r s₁ hr=>?_)));rcases r with e|f
 ·exact hr
 cases f with
 |ret v=>?_
 |_=>exact hr
 obtain⟨rfl,rfl⟩:=hr;have hd:=lH (h:=s.heap) (o:=zBU #[] 0 (SetTable.fresh 0 0 (!w.params.followText "set-order"))) rfl;have hT:(⟨s.heap.push (zBU #[] 0 (SetTable.fresh 0 0 (!w.params.followText "set-order"))),s.gens,s.drawn,s.toks,s.os⟩:Shared).TypeIs (.ref s.heap.objs.size) "set" := ⟨_,hd,rfl⟩;refine lA (wpAny_isInstance hT hsub (lD (by rfl) ?_));refine lA (lE (wpAny_callSpecial?_slot (name:=Str.ofString "__init__") hT F.called_set.init (wpAny_call (codeAny_call_builtin F.called_set.init.plain F.entry_set_init (check_set_init_1 hT ?_)))));have kp0:∀b o,s.heap.get? b=some o->(s.heap.push (zBU #[] 0 (SetTable.fresh 0 0 (!w.params.followText "set-order")))).get? b=some o:=λ b o hb=>lG _ hb;have hl0:(s.heap.push (zBU #[] 0 (SetTable.fresh 0 0 (!w.params.followText "set-order")))).IsTuple l vs:=hl.push _;have lt:l<s.heap.objs.size:=let ⟨o,ho,_⟩:=hl;lI ho;unfold Builtin.«set.__init__»;refine lA (wpAny_of_eq (a:=()) (by rfl) ?_);dsimp only;have hsl:isSubtype (.type "tuple") (.type "set")=pure false:=by first|exact F.sub_tuple_set|(rw[isSubtype_type];kernel_rfl)
 have hsf:isSubtype (.type "tuple") (.type "frozenset")=pure false:=by first|exact F.sub_tuple_frozenset|(rw[isSubtype_type];kernel_rfl)
 refine lA ?_;unfold typeNameOfCut;have hTl:(⟨s.heap.push (zBU #[] 0 (SetTable.fresh 0 0 (!w.params.followText "set-order"))),s.gens,s.drawn,s.toks,s.os⟩:Shared).TypeIs (.ref l) "tuple" := hl0.typeIs
 repeat (any_goals (first|assumption|exact hT|(with_reducible refine wpAny_isInstance hTl hsl ?_)|(with_reducible refine wpAny_isInstance hTl hsf ?_)|(with_reducible refine wpAny_pyIter_tuple hl0 ?_)|(with_reducible refine wpAny_typeOf hTl ?_)|(with_reducible refine wpAny_runValue ?_)|wp_step))
 have ltp:s.heap.objs.size<(s.heap.push (zBU #[] 0 (SetTable.fresh 0 0 (!w.params.followText "set-order")))).objs.size:=by rw[Heap.size_push];exact Nat.lt_succ_self _
 have hd2:=lG { cls:=Value.type "tuple_iterator", data:=Data.fields #[Value.ref l,Value.int 0 0] } hd;have hl2:=hl0.push { cls:=Value.type "tuple_iterator", data:=Data.fields #[Value.ref l,Value.int 0 0] };refine zIn (vs:=vs) (xs:=xs) (show A.in1.in1.handled=none from hh) (by show A.units+1+1+20<cLine;omega) (lS ltp) (lS (Nat.lt_trans lt ltp)) (lS lt) hlen hds ((hv.kept λ b y hb=>hb.push _).kept λ b y hb=>hb.push _) ⟨_,lH _ rfl,rfl,rfl⟩ hl2 hd2 λ h' es ep t tk' e1 e3 esz kp=>?_;refine lB (lB ?_);refine lD (by rfl) (lB ?_);refine h h' es ep t tk' e1 e3 esz λ b o e=>?_;have lb:=lI e;exact kp b o (lS lb) (lS (Nat.lt_trans lb ltp)) (lG _ (kp0 b o e))
end
def zKL (ta:TA):TE:=λ σ H Q=>ta σ H λ vs H1=>∃(a:Addr) (xs:List Dt),vs=[.ref a]/\DR H1 (.tup xs) (.ref a)/\xs.length<=1/\(∀x∈xs,(∃ds,x = .tup ds)/\x.deep<=8)/\Q (.int (xs.length:Nat)) H1
theorem zIB {X:Cx}{a:Expr}{ta:TA}{p p2 pos pos2:Pos}(hu:X.A.units+150<cLine) (hc:X.calm=true) (hg:Gl X "len") (hm:X.mg "len" = none) (hg2:Gl X "set") (hm2:X.mg "set" = none) (ha:PA X [a] ta) (hs:starEach [a] X.env=[(false,eval a X.env)]:=by rfl)
  (hs3:starEach [Expr.Call (.Name "set" p2) [a] [] pos2] X.env=[(false,eval (Expr.Call (.Name "set" p2) [a] [] pos2) X.env)]:=by rfl) :
  PE X (.Call (.Name "len" p) [.Call (.Name "set" p2) [a] [] pos2] [] pos) (zKL ta):=by
 intro jP s σ H Q I h;refine wpAny_Call_Name_kw (zCl I hg hm PySem.boot_len (PyProof.Rows.callWith_builtin1 ?_ hs3 rfl));rw[hs3];show wpAny _ _ (spliced [(false,eval (Expr.Call (.Name "set" p2) [a] [] pos2) X.env)]) _ _ s;refine Calls.spliced_cons ?_;refine Call_ (zCl I hg2 hm2 zGX (PyProof.Rows.callWith_type1 (thn (ha pos2 jP s σ H _ I h) λ us s1 ⟨vs,H1,I1,r1,q1⟩=>?_) hs rfl));obtain⟨l,xs,e,h1,hx,hds,q⟩:=q1;subst e;obtain⟨u,rfl,ru⟩:=vals1 r1;cases ru;have da:=DR.da I1.hok h1 rfl;cases da with
 | @tup _ its _ t1 hv =>
 refine zJ5 (vs:=its) (xs:=xs) (I1.ok.hd hc) (by omega) t1 hv hx hds λ h2 es ep t tk' hd hf ess kp=>?_;refine Calls.spliced_nil ?_;have I2:Inv X jP σ H1 { s1 with heap:=h2,toks:=tk' }:=I1.kept (t':=tk') kp;refine PySem.call_len_set (s:={ s1 with heap:=h2,toks:=tk' }) hd ⟨rfl,rfl,rfl⟩ rfl hf (by omega) ?_;exact⟨.int (xs.length:Nat),H1,I2.tok _,⟨_,by rw[ess]⟩,q⟩
noncomputable def dtA:Atom->Dt
 |.name x=>.tup [.str "name", .str x]
 |.num n=>.tup [.str "num", .int n]
 |.gap g=>.tup [.str "gap", .str g,.tup []]
theorem AtRep.dr {H:Hp}:∀{a:Atom}{v:V},AtRep H a v->DR H (dtA a) v
 |.name _,_,⟨_,rfl,h⟩=>.tup h (.cons (.str _) (.cons (.str _) .nil))
 |.num _,_,⟨_,rfl,h⟩=>.tup h (.cons (.str _) (.cons (.int _) .nil))
 |.gap _,_,⟨_,_,rfl,h,h2⟩=>.tup h (.cons (.str _) (.cons (.str _) (.cons (.tup h2 .nil) .nil)))
theorem zL0 {H:Hp}{as:List Atom}{us:List V}(h:Paired (AtRep H) as us):DRs H (as.map dtA) us:=by
 induction h with
 |nil=>exact .nil
 |cons r t ih=>exact .cons r.dr ih
theorem zM1 (a:Atom):(∃ds,dtA a = .tup ds)/\(dtA a).deep<=8:=by cases a<;>exact⟨⟨_,rfl⟩,by simp[dtA,Dt.deep,Dt.deeps]⟩
noncomputable def nmA:Atom->Option Str
 |.name x=>some x
 |_=>none
def noPc (as:List Atom):Prop:=(∃a∈as,nmA a=none)\/¬(as.filterMap nmA).Nodup
theorem zK4 {as:List Atom}(h:as.length<=1):noPc as↔∃a∈as,nmA a=none:=by
 refine⟨λ z=>z.elim id λ y=>absurd ?_ y,.inl⟩
 obtain _|⟨a,_|_⟩:=as
 ·exact List.nodup_nil
 ·cases a<;>first|exact List.nodup_nil|simp[nmA]
 ·simp at h
theorem zM6 {H:Hp}{a:Atom}{v:V}(h:AtRep H a v):∃(p:Addr) (k:Str) (r:List V),v = .ref p/\H p=some (.tup (.str k::r))/\(k=Str.ofString "name" ↔ nmA a≠none):=by
 cases a with
 |name x=>obtain⟨p,rfl,h⟩:=h;exact⟨p,_,_,rfl,h,⟨λ Ω z=>(nomatch z),λ Ω=>rfl⟩⟩
 |num n=>obtain⟨p,rfl,h⟩:=h;exact⟨p,_,_,rfl,h,⟨λ z=>absurd z (by symm),λ z=>absurd rfl z⟩⟩
 |gap g=>obtain⟨p,b,rfl,h,_⟩:=h;exact⟨p,_,_,rfl,h,⟨λ z=>absurd z (by symm),λ z=>absurd rfl z⟩⟩
def noPcT (t:Tr):Prop:=∃g as,t = .gap g as/\noPc as
end L2
namespace PySem
open Sem (wp)
end PySem
namespace PySem.W
open PySem PySem.Spec PySem.Calls PyProof.Rows Builtin Builtin.ObjectAttr
end PySem.W
namespace L2
open PySem PySem.Spec PyProof.Rows
noncomputable def less (H:Hp) (ea:Addr):Hp:=λ b=>if b=ea then none else H b
abbrev HRG:=Ends->Addr->Option Addr->St->Hp->Prop
def zNL (P:Program) (w:World) (K:W.Frag) (mg:Str->Option Value) (base:Heap) (k:Nat) (tn:TE) (t:TA):TE:=λ σ H Q=>tn σ H λ x H1=>∃(f:Addr) (fd:FuncData) (ps:List Str) (sp:Sp),x = .ref f/\FnOk P w K mg base CX0 k f fd ps sp/\Binds K fd ps []/\W.keepIn K (.ref f)=true/\t σ H1 λ vs H2=>sp vs H2 Q E0
theorem zKi {X:Cx}{x:Str}{p pos:Pos}{tn:TE}{t:TA}{e:Expr}{es:List Expr}{k:Nat}(hn:PE X (.Name x p) tn) (hr:Room k X.A) (ha:PA X (e::es) t) (he:starEach (e::es) X.env=(false,eval e X.env)::starEach es X.env:=by rfl) (hpl:(backTo pos (starEach es X.env)).any (·.1)=false:=by rfl) :
  PE X (.Call (.Name x p) (e::es) [] pos) (zNL X.prog X.w X.K X.mg X.base k tn t):=by
 intro jP s σ H Q I h;refine wpAny_Call_Name_kw (thn (hn jP s σ H _ I h) λ u s1 ⟨y,H1,I1,ry,f,fd,ps,sp,ey,F,hb,hk,q⟩=>?_);subst ey;obtain rfl:u=Value.ref f:=ry;refine W.callWith_K (h₀:=X.base) I.ok.mod.kin hk (thn (ha pos jP s1 σ H1 _ I1 q) λ us s2 ⟨vs,H2,I2,r,q2⟩=>⟨I2.kIn,?_⟩) he hpl;exact zLg (dvs:=[]) F hr hb .nil pass0 I2 r (by rw[nO];exact q2)
abbrev RP:=Tr->Tr->List (Str × Str)->Prop
inductive Due (t u:Tr) (ks:List (Str × Str)):List (Str × RP)->Option Str->Prop
 |nil:Due t u ks [] none
 |yes {w:Str}{R:RP}{L:List (Str × RP)}:R t u ks->Due t u ks ((w,R)::L) (some w)
 |no {w:Str}{R:RP}{L:List (Str × RP)}{r:Option Str}:¬R t u ks->Due t u ks L r->Due t u ks ((w,R)::L) r
noncomputable def rLeaf:RP:=λ t Ω Ω=>t.kd.leaf=true
noncomputable def zHb:RP:=λ t u Ω=>¬(letN t).Nodup\/¬(letN u).Nodup
noncomputable def rFree:RP:=λ t u Ω=>t.fv []≠[]\/u.fv []≠[]
noncomputable def rTold:RP:=λ t u ks=>(∃x∈t.subs,noPcT x)\/zKB (gcnt t) (gcnt t++gcnt u)\/∃g∈u.subs.filter isGap,badP ks g
noncomputable def rGap:RP:=λ t u Ω=>∃g∈(gcnt u).map (·.1),g∉(gcnt t).map (·.1)
noncomputable def rKind:RP:=λ t Ω ks=>∃k∈ks,badK (gcnt t) k
noncomputable def rLoud:RP:=λ t u Ω=>loudT u/\¬loudT t
noncomputable def zBA:List (Str × RP):=[("leaf", rLeaf),("twice", zHb),("free", rFree),("told", rTold),("gap", rGap),("kind", rKind),("loud", rLoud)]
theorem zIv {α β:Type}{R:α->β->Prop}{as:List α}{bs:List β}{i:Nat}{a:α}(h:Paired R as bs):as[i]?=some a->∃b,bs[i]?=some b/\R a b:=by
 induction h generalizing i with
 |nil=>exact λ e=>nomatch e
 |cons h t ih=>cases i with
  |zero=>exact λ e=>⟨_,rfl,by cases e;exact h⟩
  |succ i=>exact λ e=>ih (i:=i) (by simpa using e)
theorem zIu {α β:Type}{R:α->β->Prop}{as:List α}{bs:List β}(h:Paired R as bs):as.length=bs.length:=by
 induction h with
 |nil=>rfl
 |cons _ t ih=>exact congrArg (·+1) ih
def TupK (K:W.Frag) (a:Addr) (xs:List V):Prop:=∃(o:Obj) (its:Array Value) (n:Nat),K.lookup a=some o/\o.cls = .type "tuple" /\ o.data = .seq its n/\its.size<=sizeLine/\Vals xs its.toList
theorem TupK.sq {K:W.Frag}{H:Hp}{a:Addr}{xs:List V}(h:TupK K a xs):SqT K H a xs:=.inr h
open PySem.Calls PySem.W
def rNotN (P:Program) (w:World):R2:=λ x y H Q=>∃(a:Addr) (k:Dt) (kvs:List (Dt × V)),y = .ref a/\DicE P w H a kvs/\KyN H x k/\Q (.bl (!(valV kvs k).isSome)) H
theorem zI5 {X:Cx}(hu:X.A.units+150<cLine):OpR X (compareOp .NotIn) (rNotN X.prog X.w):=by
 intro jP s σ H x y v u Q I rx ry h;obtain⟨a,k,kvs,rfl,d,⟨b,rfl,hk,hd⟩,q⟩:=h;cases ry;cases rx;obtain⟨raw,hs,⟨xs,rfl,rel⟩,dd,_⟩:=e_raw I d;refine wpAny_notIn_heap (zG7 (by omega)) (n_is I hk hd) hs dd ?_;have e:=(rel.val k).isSome_eq;rw[Option.isSome_map] at e;rw[←e];exact⟨.bl _,H,I.tok _,rfl,q⟩
noncomputable def Itn (P:Program) (w:World) (o:Obj) (a:Addr) (xs:XN):It :=
 ⟨λ i H=>H a=some (.frz o (dN P w a xs))/\i<xs.length,λ i H x H'=>H'=H/\∃p,xs[i]?=some p/\x = .ref p.2.1,λ i H=>H a=some (.frz o (dN P w a xs))/\xs.length<=i⟩
theorem zMo {xs:XN}{raw:List (Dt × Addr × Value)}(rel:KTN xs raw) {i:Nat}{p:Dt × Addr × V}(hp:xs[i]?=some p):∃q,raw[i]?=some q/\p.1=q.1/\p.2.1=q.2.1/\RelV p.2.2 q.2.2:=by
 induction rel generalizing i with
 |nil=>simp at hp
 | @cons p' q' ps qs h t ih =>
  cases i with
  |zero=>simp at hp;subst hp;exact⟨q',rfl,h⟩
  |succ i=>exact ih (i:=i) (by simpa using hp)
theorem zJe {X:Cx}{jP:List (Addr × Obj)}{σ:L2.St}{H:Hp}{s:Shared}{a:Addr}{o:Obj}{xs:XN}{es:Array DictEntry}{ep:Nat}(I:Inv X jP σ H s) (ha:H a=some (.frz o (dN X.prog X.w a xs))) (hd:o.data = .dict es ep) :
  (a == sysModules)=false/\zBZ s.heap a es ep/\es.size=xs.length/\∀(i:Nat) (p:Dt × Addr × V),xs[i]?=some p->∃e:DictEntry,es[i]?=some e/\e.key=Value.ref p.2.1:=by
 obtain⟨e,⟨hs,raw,rel,o',es',ep',h1,c1,d1,l1,nd⟩,_⟩:=(show ObjOk X.prog X.w H s.heap a (.frz o (dN X.prog X.w a xs)) from I.hok a _ ha);rw[e] at h1;cases h1;rw[hd] at d1;cases d1;have hl:=Paired.length rel
 have hz:es.size=raw.length:=by
  have:=congrArg List.length l1;simpa using this
 refine⟨hs,⟨o,e,c1,hd⟩,by omega,λ i p hp=>?_⟩;obtain⟨q,hq,r1,r2,_⟩:=zMo rel hp;have h2:es.toList[i]?=some (entryOfKey (zCW X.prog X.w) q):=by rw[l1,mJ,hq];rfl
 refine⟨_,by rw[←nG];exact h2,?_⟩;show Value.ref q.2.1=_;rw[r2]
theorem zNE {P:Program}{w:World}{K:W.Frag}{tg:Expr}(a it:Addr) (o:Obj) (xs:XN):Turn P w K tg (Itn P w o a xs) [it] it (λ i h=>∃es ep,o.data = .dict es ep/\h.IsKeyIter it a i es.size ep) where
 mem:=by simp
 obj:=λ i h st b hb=>by
  have e:b=it:=by simpa using hb
  subst e;obtain⟨_,_,_,ob,e,c,d⟩:=st;exact⟨ob,e,λ v z=>by rw[d] at z;cases z⟩
 keep:=λ i h h' st k=>by
  obtain⟨es,ep,hd,ob,e,r⟩:=st;exact⟨es,ep,hd,ob,k it (by simp) ob e,r⟩
 item:=by
  intro X hP hw hK hc i jP s σ H E I hf st hg;subst hP hw hK;obtain⟨ha,hi⟩:=hg;obtain⟨es,ep,hd,hit⟩:=st;obtain⟨hs,hm,hz,hk⟩:=zJe I ha hd;obtain⟨ent,hent,hkey⟩:=hk i _ (lW hi);have hi2:i<es.size:=by omega
  obtain⟨f0,f1,f2,f3,f4,f5⟩:=hf it (by simp);refine zL8 hit hm hi2 λ h' hit' sb=>?_;have I1:Inv X jP σ H { s with heap:=h' }:=I.turned (t':=s.toks) (λ b o hb e=>(sb.2 b hb).trans e) f0 f1 f3 f4 f5;obtain⟨ob,e,c,d⟩:=id hit'
  have ek:es[i].key = .ref (xs[i]).2.1:=by
   rw[Array.getElem?_eq_getElem hi2] at hent;cases hent;exact hkey
  rw[ek];exact⟨_,rfl,go_of (s:={ s with heap:=h' }) e c d (by decide) ⟨.ref (xs[i]).2.1,H,I1,rfl,⟨rfl,_,lW hi,rfl⟩,⟨es,ep,hd,hit'⟩,λ b hb=>(hf b hb).1⟩⟩
 done:=by
  intro X hP hw hK hc i jP s σ H E I hf st hg;subst hP hw hK;obtain⟨ha,hi⟩:=hg;obtain⟨es,ep,hd,hit⟩:=st;obtain⟨hs,hm,hz,hk⟩:=zJe I ha hd;obtain⟨f0,f1,f2,f3,f4,f5⟩:=hf it (by simp);exact zNO (I.ok.hd hc) hit hm (by omega) λ h' eb=>⟨rfl,I.turned (t':=s.toks) (λ b o hb e=>eb b o hb e) f0 f1 f3 f4 f5⟩
 self:=λ A i s Q E st h=>by
  obtain⟨es,ep,hd,hit⟩:=st;refine wpAny_pyIter_slot hit.typeIs F.slot_dict_keyiterator_iter (wpAny_call_entry F.slot_dict_keyiterator_iter hit.typeIs F.entry_dict_keyiterator_iter ?_ (F.args_dict_keyiterator_iter_1 _));show wpAny _ _ (ret (.ref it)) _ _ s;exact lB ⟨_,rfl, "dict_keyiterator", _,hit.typeIs,F.slot_dict_keyiterator_next.lookup,h⟩
def zNz (P:Program) (w:World) (tl:TE):TI:=λ σ H R=>tl σ H λ x H1=>∃a,x = .ref a/\((∃xs,H1 a=some (dN P w a xs)/\∀o,R (Itn P w o a xs) (upd H1 a (.frz o (dN P w a xs))))\/(H1 a=some (.dK [])/\∀o,R (Itd o a []) (upd H1 a (.frz o (.dK [])))))
theorem zKc {X:Cx}{tg l:Expr}{tl:TE}(hl:PE X l tl):PI X tg l (zNz X.prog X.w tl):=by
 intro jP s σ H R I h;refine thn (hl jP s σ H _ I h) λ v s1 ⟨x,H1,I1,r1,q1⟩=>?_;obtain⟨a,e,q⟩:=q1;subst e;cases r1;rcases q with ⟨xs,ha,q⟩|⟨ha,q⟩
 ·obtain⟨⟨hs,raw,rel,o,es,ep,h1,c1,d1,l1,nd⟩,ex,_⟩:=(show ObjOk X.prog X.w H1 s1.heap a (dN X.prog X.w a xs) from I1.hok a _ ha)
  have lt:=lI h1;refine zL9 hs ⟨o,h1,c1,d1⟩ ?_;refine⟨s1.heap.objs.size,[s1.heap.objs.size],_,_,upd H1 a (.frz o (dN X.prog X.w a xs)),rfl,I1.write (t':=s1.toks) (x:=a) (e:=a) (by rw[ha];exact True.intro) (.inl rfl) (λ b o Ω e=>lG _ e) ⟨o,lG _ h1⟩ ?_,zNE a _ o xs,⟨es,ep,d1,_,lH _ rfl,rfl,rfl⟩,λ b hb=>?_,q o⟩
  ·exact⟨lG _ h1,zJx ⟨hs,raw,rel,o,es,ep,lG _ h1,c1,d1,l1,nd⟩⟩
  ·have e:b=s1.heap.objs.size:=by simpa using hb
   subst e;exact I1.fpOk (lQ _) (by rw[zAR (Nat.ne_of_gt lt)];exact I1.hok.fresh (lQ _))
 ·obtain⟨z,sy,vs,r,o,es',ep',e,c1,d1,rest⟩:=(show ObjOk X.prog X.w H1 s1.heap a (.dK []) from I1.hok a _ ha)
  refine wpAny_pyIter_dict (knd:=zAd X.prog X.w) (kvs:=vs) (ep:=ep') sy ⟨o,es',e,c1,d1,rest⟩ ?_;have lt:=lI e;refine⟨s1.heap.objs.size,[s1.heap.objs.size],_,_,upd H1 a (.frz o (.dK [])),rfl,I1.write (t':=s1.toks) (x:=a) (e:=a) (by rw[ha];exact True.intro) (.inl rfl) (λ b o Ω e=>lG _ e) ⟨o,lG _ e⟩ ?_,zEF a _ o [],⟨es',ep',d1,_,lH _ rfl,rfl,by rw[Paired.length r];rfl⟩,λ b hb=>?_,q o⟩
  ·exact⟨lG _ e,z,sy,vs,r,o,es',ep',lG _ e,c1,d1,rest⟩
  ·have e:b=s1.heap.objs.size:=by simpa using hb
   subst e;exact I1.fpOk (lQ _) (by rw[zAR (Nat.ne_of_gt lt)];exact I1.hok.fresh (lQ _))
theorem zIP {P:Program}{w:World}{o:Obj}{a:Addr}{xs:XN}{acc:Addr}{g:TG}{tt:TT}{te:TE}{σ:L2.St}{H:Hp}{R:Hp->Prop}(Pv:Nat->Hp->Prop) (h0:Pv 0 (upd H acc (.lst []))) (hl:∀i H,i<=xs.length->Pv i H->H a=some (.frz o (dN P w a xs)))
  (hs:∀i p H,xs[i]?=some p->Pv i H->g (.ref p.2.1) σ H λ σ2 H4=>Ext σ σ2/\tt σ2 H4 λ b H5 =>
   if b=true then te σ2 H5 λ y H6=>∃zs,H6 acc=some (.lst zs)/\zs.length<sizeLine/\Pv (i+1) (upd H6 acc (.lst (zs++[y]))) else Pv (i+1) H5) (hd:∀H,Pv xs.length H->R H) :
  ∃W:Nat->Nat->Hp->Prop,(∃m,W 0 m (upd H acc (.lst [])))/\∀i m H2,W i m H2 ->
   ((Itn P w o a xs).stop i H2/\R H2)\/((Itn P w o a xs).go i H2/\∃N:Hp->Prop,(∀H',N H'->∃m',m'<m/\W (i+1) m' H')/\∀x H3,(Itn P w o a xs).yld i H2 x H3->g x σ H3 λ σ2 H4=>Ext σ σ2/\tt σ2 H4 λ b H5 =>
    if b=true then te σ2 H5 λ y H6=>∃zs,H6 acc=some (.lst zs)/\zs.length<sizeLine/\N (upd H6 acc (.lst (zs++[y])))
    else N H5):=by
 refine⟨λ i m H=>m=xs.length - i/\i<=xs.length/\Pv i H,⟨xs.length,by simp,lY _,h0⟩,?_⟩;rintro i m H2 ⟨rfl,hi,p⟩;have q:=hl i H2 hi p
 by_cases hlt:i<xs.length
 ·refine .inr ⟨⟨q,hlt⟩,Pv (i+1),λ H' p'=>⟨xs.length - (i+1),by omega,rfl,hlt,p'⟩,λ x H' y=>?_⟩
  obtain⟨e,p',hp',ex⟩:=y;subst e ex;exact hs i p' _ hp' p
 ·have e:i=xs.length:=by omega
  subst e;exact .inl ⟨⟨q,lQ _⟩,hd H2 p⟩
end L2
namespace PySem
open PySem.Builtin PyProof.Rows
section
variable {prog:Program}{w:World}{A:Around}{E:XQ}{s:Shared}{d it:Addr}{es:Array DictEntry}{ep i:Nat}
abbrev zNB (d:Addr) (n ep:Nat):Obj:={ cls:=.type "dict_valueiterator", data:=.fields #[.ref d,.int 0 0,.int n 0,.int ep 0] }
theorem zKQ {Q:Option Value->Shared->Prop}(hit:s.heap.IsValIter it d i es.size ep) (hm:zBZ s.heap d es ep) (hi:i<es.size)
  (hQ:∀h',h'.IsValIter it d (i+1) es.size ep->Heap.SameBut it s.heap h'->Q (some es[i].val) { s with heap:=h' }):wpAny (model prog w) A (pyNext (.ref it)) Q E s:=by
 obtain⟨o,ho,hc,hd⟩:=id hit;obtain⟨od,hod,hcd,hdd⟩:=id hm;unfold pyNext;refine lA (wpAny_attempt (wpAny_callSpecial?_slot (name:=Str.ofString "__next__") hit.typeIs F.slot_dict_valueiterator_next (wpAny_call_entry F.slot_dict_valueiterator_next hit.typeIs F.entry_dict_valueiterator_next ?_ (F.args_dict_valueiterator_next_1 _))));refine lA (lB (lA (lA ?_)))
 first|refine lA (wpAny_typeNameOfWhole_valiter hit.typeIs (lB (lA (wpAny_fieldsOf ho hd ?_))))|refine lA (wpAny_typeNameOf_valiter hit.typeIs (lB (lA (wpAny_fieldsOf ho hd ?_))))
 simp only[show Builtin.Dict_items.ownsTuple "dict_valueiterator" = false by decide,Bool.false_eq_true,if_false];show wpAny _ _ (if (Value.ref d == Value.none)=true then _ else _) _ _ s;rw[if_neg (show ¬((Value.ref d == Value.none)=true) from Bool.false_ne_true)];refine lA (lB (lA (wpAny_dictEntries hod hdd ?_)));rw[if_neg (by simp)];refine lA (lB (lA (wpAny_dictEpoch hod hdd ?_)));rw[if_neg (by simp)];refine lB ?_;simp only[show ¬((i:Int)<0) from by omega,if_false,Int.toNat_natCast,Array.getElem?_eq_getElem hi];refine lA ?_
 first|refine lA (wpAny_typeNameOfWhole_valiter hit.typeIs (lB (lA (wpAny_isOneOf_valiter hit.typeIs ?_))))|refine lA (wpAny_typeNameOf_valiter hit.typeIs (lB (lA (wpAny_isOneOf_valiter hit.typeIs ?_))))
 show wpAny _ _ (setField (.ref it) 1 (rawInt ((i:Int)+1)) >>= _) _ _ s;refine lA (wpAny_setField ho hd (by simp) ?_);have hit':(s.heap.update it (Obj.mapFields (·.setIfInBounds 1 (rawInt ((i:Int)+1))))).IsValIter it d (i+1) es.size ep:=⟨_,mI _ ho (Obj.isFreed_of_fields (Obj.data_mapFields hd _)),(Obj.cls_mapFields ..).trans hc,by rw[Obj.data_mapFields hd];simp[rawInt]⟩;refine lA (lE (lA (wpAny_isOneOf_valiter (s:={ s with heap:=s.heap.update it (Obj.mapFields (·.setIfInBounds 1 (rawInt ((i:Int)+1)))) }) hit'.typeIs ?_)));rw[if_neg (by decide)];refine lA (wpAny_isOneOf_valiter (s:={ s with heap:=s.heap.update it (Obj.mapFields (·.setIfInBounds 1 (rawInt ((i:Int)+1)))) }) hit'.typeIs ?_);show wpAny _ _ (pure es[i].val) _ _ _;exact lB (lB ⟨_,rfl,lB (hQ _ hit' (Heap.SameBut.update ..))⟩)
theorem zL7 {Q:Option Value->Shared->Prop}(hh:A.handled=none) (hit:s.heap.IsValIter it d i es.size ep) (hm:zBZ s.heap d es ep) (hi:es.size<=i)
  (hQ:∀h',Heap.ExtBut it s.heap h'->Q none { s with heap:=h' }):wpAny (model prog w) A (pyNext (.ref it)) Q E s:=by
 obtain⟨o,ho,hc,hd⟩:=id hit;obtain⟨od,hod,hcd,hdd⟩:=id hm;unfold pyNext;refine lA (wpAny_attempt (wpAny_callSpecial?_slot (name:=Str.ofString "__next__") hit.typeIs F.slot_dict_valueiterator_next (wpAny_call_entry F.slot_dict_valueiterator_next hit.typeIs F.entry_dict_valueiterator_next ?_ (F.args_dict_valueiterator_next_1 _))));refine lA (lB (lA (lA ?_)))
 first|refine lA (wpAny_typeNameOfWhole_valiter hit.typeIs (lB (lA (wpAny_fieldsOf ho hd ?_))))|refine lA (wpAny_typeNameOf_valiter hit.typeIs (lB (lA (wpAny_fieldsOf ho hd ?_))))
 simp only[show Builtin.Dict_items.ownsTuple "dict_valueiterator" = false by decide,Bool.false_eq_true,if_false];show wpAny _ _ (if (Value.ref d == Value.none)=true then _ else _) _ _ s;rw[if_neg (show ¬((Value.ref d == Value.none)=true) from Bool.false_ne_true)];refine lA (lB (lA (wpAny_dictEntries hod hdd ?_)));rw[if_neg (by simp)];refine lA (lB (lA (wpAny_dictEpoch hod hdd ?_)));rw[if_neg (by simp)];refine lB ?_;simp only[show ¬((i:Int)<0) from by omega,if_false,Int.toNat_natCast,Array.getElem?_eq_none hi];refine lA ?_
 first|refine lA (wpAny_typeNameOfWhole_valiter hit.typeIs (lB ?_))|refine lA (wpAny_typeNameOf_valiter hit.typeIs (lB ?_))|skip
 show wpAny _ _ (setField (.ref it) 0 .none >>= _) _ _ s;refine lA (wpAny_setField ho hd (by simp) ?_);show wpAny _ _ (newExc (.type "StopIteration") [] >>= _) _ _ _;refine lA ?_;simp only[newExc,newTuple];refine lA (wpAny_newObj_type ?_ (by size_fits));refine lA (m:=firstArgMember _ _) (wpAny_of_eq (a:=Value.none) (by first|rfl|(simp only[firstArgMember];rfl)) (wpAny_newObj_type ?_ (by size_fits)));simp only[raiseNew];refine lA (wpAny_handled ?_);rw[show A.in1.handled=none from hh];refine lA (lB (wpAny_throw ?_));refine lA (wpAny_isInstance (T := "StopIteration") (b:=true) ⟨_,lH _ rfl,rfl⟩ isSubtype_stop ?_);exact lB (hQ _ (((Heap.SameBut.update ..).extBut.push _).push _))
theorem zIV (hh:A.handled=none) (I d:Addr) (hne:d≠I) (es:Array DictEntry) (ep:Nat) :
  Walks prog w A I [I,d] [I] es.size (λ i v=>∃e,es[i]?=some e/\v=e.val) (λ i h=>h.IsValIter I d i es.size ep/\zBZ h d es ep) where
 sub:=λ b hb=>by simp at hb;simp[hb]
 frame:=λ Ω Ω Ω st hk=>⟨st.1.at λ o e=>hk I (by simp) o e,st.2.at λ o e=>hk d (by simp) o e⟩
 item:=λ i s Q E hi st hQ=>zKQ st.1 st.2 hi λ h' hit' hs'=>hQ _ h' s.toks ⟨es[i],by simp[hi],rfl⟩ ⟨hit',st.2.at λ o e=>hs'.extBut d o hne e⟩ λ b o hb e=>hs'.extBut b o (λ h=>hb (by simp[h])) e
 done:=λ s Q E st hQ=>zL7 hh st.1 st.2 (lQ _) λ h' he'=>hQ h' s.toks λ b o hb e=>he' b o (λ h=>hb (by simp[h])) e
 self:=λ Ω Ω Ω Ω st hQ=>wpAny_pyIter_valiter st.1 hQ
end
end PySem
namespace PySem.W
open PySem
section
variable {prog:Program}{w:World}{d r:Addr}{es:Array DictEntry}{ep:Nat}
theorem zGg {A:Around}{E:XQ}{s:Shared}{v:Addr}{Q:XQ}(hv:s.heap.IsValuesView v d) (hm:zBZ s.heap d es ep) (hQ:Q (.ref s.heap.objs.size) { s with heap:=s.heap.push (zNB d es.size ep) }):wpAny (model prog w) A (pyIter (.ref v)) Q E s:=by
 obtain⟨ov,hov,hcv,hdv⟩:=id hv;obtain⟨o,ho,hc,hdat⟩:=id hm;refine wpAny_pyIter_slot hv.typeIs PySem.F.slot_dict_values_iter (wpAny_call_entry PySem.F.slot_dict_values_iter hv.typeIs PySem.F.entry_dict_values_iter ?_ (PySem.F.args_dict_values_iter_1 _));unfold Builtin.«dict_values.__iter__»;refine lA (lB (lA ?_));unfold Builtin.Dict_items.dictOf;refine lA (wpAny_field hov hdv (x:=.ref d) rfl (lB (lA ?_)));unfold Builtin.Dict_items.newIterator;refine lA (wpAny_dictEntries ho hdat (lA (wpAny_dictEpoch ho hdat ?_)));simp only[show Builtin.Dict_items.ownsTuple "dict_valueiterator" = false by decide,Bool.false_eq_true,if_false];refine wpAny_newObj_type (lB ⟨_,rfl, "dict_valueiterator", _,⟨_,lH _ rfl,rfl⟩,PySem.F.slot_dict_valueiterator_next.lookup,?_⟩);simpa[rawInt] using hQ
theorem zKM:KdlSrc prog w "dict_values" r d es.size (λ i v=>∃e,es[i]?=some e/\v=e.val) (λ h=>h.IsValuesView r d/\zBZ h d es ep) where
 type:=λ Ω hm=>hm.1.typeIs
 there:=λ Ω hm=>⟨let ⟨_,ho,_⟩:=hm.1;lI ho,let ⟨_,ho,_⟩:=hm.2;lI ho⟩
 keep:=λ Ω Ω hm hk=>⟨let ⟨o,ho,x⟩:=hm.1;⟨o,hk r (.inl rfl) o ho,x⟩,hm.2.at λ o e=>hk d (.inr rfl) o e⟩
 notList:=by decide
 notTuple:=by decide
 hint:=λ Ω Ω Ω Ω hm hq=>kdl_hint_values hm.1.typeIs hq
 iter:=λ Ω Ω hh hm=>⟨_,_,(λ Ω Ω hq=>zGg hm.1 hm.2 hq),zIV hh _ d (let ⟨o,ho,_⟩:=hm.2;lS (lI ho)) es ep,⟨⟨_,lH _ rfl,rfl,rfl⟩,hm.2.at λ o e=>lG _ e⟩⟩
end
end PySem.W
namespace L2
open PySem PySem.Calls PySem.Spec PyProof.Rows PySem.W
theorem zEE {H:Hp}{h:Heap}{P:Program}{w:World}(ok:HOk P w H h) {a:Addr}{kvs:List (Dt × V)}(d:DicE P w H a kvs):∃(es:Array DictEntry) (ep:Nat),(a == sysModules)=false/\zBZ h a es ep/\es.size=kvs.length/\es.size<=1000/\∀acc:List Value,acc.length=es.size->(∀(j:Nat) (v:Value),acc[j]?=some v->∃e:DictEntry,es[j]?=some e/\v=e.val)->Vals (kvs.map (·.2)) acc:=by
 rcases d with d|⟨ea,rfl⟩
 rotate_left
 ·obtain⟨_,hs,vs,rel,o,es,ep,h1,h2,h3,_,h4,_⟩:=dk_of ok ea
  cases rel
  have e0:es.toList=[]:=by
   generalize es.toList=L at h4;cases h4;rfl
  have e1:es.size=0:=by rw[←Array.length_toList,e0];rfl
  exact⟨es,ep,hs,⟨o,h1,h2,h3⟩,e1,by omega,λ acc ha Ω=>by
   have:acc=[]:=nJ.mp (by omega);subst this;exact .nil⟩
 obtain⟨xs,e,r,k,l⟩:=d;obtain⟨⟨hs,raw,rel,o,es,ep,h1,h2,h3,h4,h5⟩,hX⟩:=r.ok ok;clear hX;subst e;have hl:raw.length=xs.length:=(Paired.length rel).symm;have hes:es.size=raw.length:=by rw[←Array.length_toList,h4,mD]
 refine⟨es,ep,hs,⟨o,h1,h2,h3⟩,by rw[hes,hl];simp[prs],by omega,λ acc ha hj=>?_⟩
 have hk:acc=raw.map (λ q=>q.2.2):=by
  refine List.ext_getElem? λ j=>?_
  by_cases c:j<acc.length
  ·obtain⟨e,he,hv⟩:=hj j _ (lW c)
   rw[nM c,hv,mJ];rw[←nG,h4,mJ] at he;obtain⟨q,hq,rfl⟩:=lV.mp he;rw[hq];rfl
  ·rw[List.getElem?_eq_none (by omega),List.getElem?_eq_none (by rw[mD];omega)]
 rw[hk];clear hj hk h4 h5 l hl hes k r ha
 induction rel with
 |nil=>exact .nil
 | @cons p q ps qs hq t ih=>exact .cons hq.2.2 ih
section
variable {X:Cx}{o:Expr}{apos cpos:Pos}{td:TE}
theorem zGI (d:Addr) (lo:(d == sysModules)=false):MeetsIn X.prog X.w (Builtin.«dict.values» ⟨[.ref d],[]⟩) (λ Ω R s=>(∃es ep,zBZ s.heap d es ep) /\
   R (.ok (.ret (.ref s.heap.objs.size))) { s with heap:=s.heap.push { cls:=.type "dict_values", data:=.fields #[.ref d] } }) :=
 .of_wp λ A R s ⟨⟨es,ep,hm⟩,h⟩=>by
  refine lA ?_;unfold Builtin.Dict.noArgs;refine lA (wpAny_notOrdered_dict hm.typeIs ?_);(show wpAny _ _ (pure d) _ _ s);refine lB ?_;show wpAny _ _ (Builtin.Dict.showsAll d >>= _) _ _ s;unfold Builtin.Dict.showsAll;rw[if_neg (by rw[lo];exact lX)];exact lA (lB (lA (wpAny_newObj_type (lB ⟨_,rfl,h⟩))))
def zNG (P:Program) (w:World) (td:TE):TE:=λ σ H Q=>td σ H λ x H1=>∃(d:Addr) (kvs:List (Dt × V)),x = .ref d/\DicE P w H1 d kvs/\∀p,H1 p=none->Q (.ref p) (upd H1 p (viewO p d))
theorem zKd (ho:PE X o td) (hbase:attributeBase o "values" X.env (eval o X.env)=eval o X.env:=by rfl) (hline:(apos.endLine == cpos.line)=true:=by rfl):PE X (.Call (.Attribute o "values" apos) [] [] cpos) (zNG X.prog X.w td):=by
 intro jP s σ H Q I h;refine wpAny_Call_method0_late hbase hline (thn (ho jP s σ H _ I h) λ v s1 ⟨x,H1,I1,r1,d,kvs,ex,hd,q⟩=>?_);subst ex;obtain rfl:v=Value.ref d:=r1;obtain⟨es,ep,lo,hrw,_⟩:=zEE I1.hok hd;refine⟨"dict", "dict.values", rT,PySem.F.slot_dict_values,PySem.F.type_dict_values,hrw.typeIs,λ a e=>?_,Calls.callWith_builtin rfl (PySem.evalArgs_none ?_)⟩
 ·cases e
  obtain⟨ob,h1,h2,_⟩:=hrw;exact⟨ob,h1,h2.2.1⟩
 refine call_meetsIn PySem.F.slot_dict_values hrw.typeIs PySem.F.entry_dict_values (PySem.F.args_dict_values_1 _) (zGI d lo) ⟨⟨es,ep,hrw⟩,?_⟩;refine⟨.ref s1.heap.objs.size,_,I1.laid (t':=s1.toks) (o:=viewO s1.heap.objs.size d) (λ b u e=>lG _ e) (lQ _) ?_,rfl,q _ (I1.hok.fresh (lQ _))⟩;exact⟨⟨_,lH _ rfl,rfl,rfl⟩,⟨_,lH _ rfl⟩,λ h1 h2 ⟨o,e,r⟩ k=>⟨o,k o e,r⟩⟩
def zNV (P:Program) (w:World):List V->Hp->VK->Prop:=λ xs H Q=>∃(p d:Addr) (kvs:List (Dt × V)),xs=[.ref p]/\H p=some (viewO p d)/\DicE P w H d kvs/\∀l,H l=none->Q (.ref l) (upd H l (.lst (kvs.map (·.2))))
theorem zIQ (hc:X.calm=true):CallR X (.type "list") (zNV X.prog X.w):=by
 intro jP s σ H xs us Q I r h;obtain⟨p,d,kvs,rfl,hp,hd,q⟩:=h;obtain⟨u,rfl,ru⟩:=vals1 r;cases ru;obtain⟨hview,_⟩:=(show ObjOk X.prog X.w H s.heap p (viewO p d) from I.hok p _ hp);obtain⟨es,ep,lo,hrw,hsz,hle,hvals⟩:=zEE I.hok hd;refine kdl_call (zKM (r:=p) (d:=d) (es:=es) (ep:=ep)) (I.ok.hd hc) ⟨hview,hrw⟩ (Nat.le_of_lt (zAK hle)) λ h' tk acc c hk hS hacc=>?_;have la:acc.toList.length=es.size:=by rw[Array.length_toList];exact hacc.1
 refine⟨.ref s.heap.objs.size,_,I.laid (t':=tk) hk (lQ _) (show ObjOk X.prog X.w _ h' _ (.lst (kvs.map (·.2))) from⟨by rw[mD,←hsz];exact Nat.le_of_lt (zAK hle),acc.toList,c,hvals acc.toList la λ j v hv=>hacc.2 j v (by rw[←nG];exact hv),by rw[Array.toArray_toList];exact hS⟩),rfl,q _ (I.hok.fresh (lQ _))⟩
end
noncomputable def dtT:Tr->Dt
 |.num n=>.tup [.str "num", .int n]
 |.name x=>.tup [.str "name", .str x]
 |.ask x=>.tup [.str "ask", .str x]
 |.stop x=>.tup [.str "stop", .str x]
 |.gap g as=>.tup [.str "gap", .str g,.tup (as.map dtA)]
 |.say a=>.tup [.str "say", dtT a]
 |.bin o a b=>.tup [.str o.s,dtT a,dtT b]
 |.ite a b c=>.tup [.str "if", dtT a,dtT b,dtT c]
 |.lett x a b=>.tup [.str "let", .str x,dtT a,dtT b]
def Pln:Tr->Prop
 |.gap _ _=>False
 |.lett _ _ _=>False
 |.say a=>Pln a
 |.bin _ a b=>Pln a/\Pln b
 |.ite a b c=>Pln a/\Pln b/\Pln c
 |_=>True
theorem Pln.part {t p:Tr}(h:Pln t) (hp:p∈t.parts):Pln p:=by
 cases t with
 |say a=>rw[mQ.mp hp];exact h
 |bin o a b =>
  rcases lN.mp hp with rfl|hp
  ·exact h.1
  ·rw[mQ.mp hp];exact h.2
 |ite a b c =>
  rcases lN.mp hp with rfl|hp
  ·exact h.1
  ·rcases lN.mp hp with rfl|hp
   ·exact h.2.1
   ·rw[mQ.mp hp];exact h.2.2
 |lett x a b=>exact h.elim
 |gap g as=>exact h.elim
 |_=>cases hp
theorem Pln.ng {t:Tr}(h:Pln t):¬t.kd = .gap:=by
 cases t with
 |gap g as=>exact h.elim
 |bin o a b=>cases o<;>exact λ z=>nomatch z
 |_=>exact λ z=>nomatch z
theorem Pln.nl {t:Tr}(h:Pln t):¬t.kd = .lett:=by
 cases t with
 |lett x a b=>exact h.elim
 |bin o a b=>cases o<;>exact λ z=>nomatch z
 |_=>exact λ z=>nomatch z
theorem Rep.drP {H:Hp}:∀{t:Tr}{v:V},Rep H t v->Pln t->DR H (dtT t) v
 |.num n,_,⟨a,e,h⟩,_=>e ▸ .tup h (.cons (.str _) (.cons (.int _) .nil))
 |.name n,_,⟨a,e,h⟩,_=>e ▸ .tup h (.cons (.str _) (.cons (.str _) .nil))
 |.ask n,_,⟨a,e,h⟩,_=>e ▸ .tup h (.cons (.str _) (.cons (.str _) .nil))
 |.stop n,_,⟨a,e,h⟩,_=>e ▸ .tup h (.cons (.str _) (.cons (.str _) .nil))
 |.gap g as,_,_,z=>z.elim
 |.say _,_,⟨a,u,e,h,r⟩,z=>e ▸ .tup h (.cons (.str _) (.cons (r.drP z) .nil))
 |.bin o _ _,_,⟨a,u,w,e,h,r,s⟩,z=>e ▸ .tup h (.cons (.str _) (.cons (r.drP z.1) (.cons (s.drP z.2) .nil)))
 |.ite _ _ _,_,⟨a,u,w,z',e,h,r,s,t⟩,z=>e ▸ .tup h (.cons (.str _) (.cons (r.drP z.1) (.cons (s.drP z.2.1) (.cons (t.drP z.2.2) .nil))))
 |.lett x _ _,_,_,z=>z.elim
theorem zDy {s s':Str}{l l':List Dt}(h:Dt.tup (.str s::l)=Dt.tup (.str s'::l')):s=s'/\l=l':=by
 obtain⟨h1,h2⟩:=List.cons.inj (Dt.tup.inj h);exact⟨Dt.str.inj h1,h2⟩
theorem zEo (t:Tr):∃l,dtT t = .tup (.str t.kd.s::l):=by
 cases t with
 |bin o a b=>exact⟨_,by cases o<;>rfl⟩
 |_=>exact⟨_,rfl⟩
theorem dt_kd {t u:Tr}(h:dtT t=dtT u):t.kd=u.kd:=by
 obtain⟨l,e⟩:=zEo t;obtain⟨l',e'⟩:=zEo u;rw[e,e'] at h;exact Kd.eq_iff.mp (by rw[(zDy h).1])
theorem zDz:∀(t u:Tr),Pln t->Pln u->dtT t=dtT u->t=u
 |.num n,u,_,_,h=>by
  have k:=dt_kd h;cases u with
  |num m=>have:=(zDy h).2;simp at this;rw[this]
  |bin o a b=>cases o<;>cases k
  |_=>cases k
 |.name n,u,_,_,h=>by
  have k:=dt_kd h;cases u with
  |name m=>have:=(zDy h).2;simp at this;rw[this]
  |bin o a b=>cases o<;>cases k
  |_=>cases k
 |.ask n,u,_,_,h=>by
  have k:=dt_kd h;cases u with
  |ask m=>have:=(zDy h).2;simp at this;rw[this]
  |bin o a b=>cases o<;>cases k
  |_=>cases k
 |.stop n,u,_,_,h=>by
  have k:=dt_kd h;cases u with
  |stop m=>have:=(zDy h).2;simp at this;rw[this]
  |bin o a b=>cases o<;>cases k
  |_=>cases k
 |.gap _ _,_,z,_,_=>z.elim
 |.lett _ _ _,_,z,_,_=>z.elim
 |.say a,u,pt,pu,h=>by
  have k:=dt_kd h;cases u with
  |say b=>have:=(zDy h).2;simp at this;rw[zDz a b pt pu this]
  |bin o a b=>cases o<;>cases k
  |_=>cases k
 |.bin o a b,u,pt,pu,h=>by
  have k:=dt_kd h;cases u with
  |bin o' a' b' =>
   obtain⟨h1,h2⟩:=zDy h;have e:o=o':=by cases o<;>cases o'<;>first|rfl|cases k
   simp at h2;rw[e,zDz a a' pt.1 pu.1 h2.1,zDz b b' pt.2 pu.2 h2.2]
  |_=>cases o<;>cases k
 |.ite a b c,u,pt,pu,h=>by
  have k:=dt_kd h;cases u with
  |ite a' b' c' =>
   have:=(zDy h).2;simp at this;rw[zDz a a' pt.1 pu.1 this.1,zDz b b' pt.2.1 pu.2.1 this.2.1,zDz c c' pt.2.2 pu.2.2 this.2.2]
  |bin o a b=>cases o<;>cases k
  |_=>cases k
noncomputable def dpT:Tr->Nat
 |.say a=>dpT a+1
 |.bin _ a b=>max (dpT a) (dpT b)+1
 |.ite a b c=>max (dpT a) (max (dpT b) (dpT c))+1
 |.lett _ a b=>max (dpT a) (dpT b)+1
 |_=>1
theorem zBT:∀t:Tr,Pln t->(dtT t).deep<=dpT t
 |.num _,_=>by simp[dtT,dpT,Dt.deep,Dt.deeps]
 |.name _,_=>by simp[dtT,dpT,Dt.deep,Dt.deeps]
 |.ask _,_=>by simp[dtT,dpT,Dt.deep,Dt.deeps]
 |.stop _,_=>by simp[dtT,dpT,Dt.deep,Dt.deeps]
 |.gap _ _,z=>z.elim
 |.lett _ _ _,z=>z.elim
 |.say a,z=>by have:=zBT a z;simp only[dtT,dpT,Dt.deep,Dt.deeps];omega
 |.bin o a b,z=>by have:=zBT a z.1;have:=zBT b z.2;simp only[dtT,dpT,Dt.deep,Dt.deeps];omega
 |.ite a b c,z=>by have:=zBT a z.1;have:=zBT b z.2.1;have:=zBT c z.2.2;simp only[dtT,dpT,Dt.deep,Dt.deeps];omega
def Hal (t u:Tr):Prop:=t.kd=u.kd/\(t.kd.leaf=true->t=u)
def Let1 (t:Tr):Prop:=∃p∈t.subs,p.kd = .lett
def PrR (H:Hp) (q:Tr × Tr) (v:V):Prop:=∃p a b,v = .ref p/\H p=some (.tup [a,b])/\Rep H q.1 a/\Rep H q.2 b
theorem PrR.mono {H H':Hp}(k:Tk H H') {q:Tr × Tr}{v:V}:PrR H q v->PrR H' q v
 |⟨p,a,b,e,h,r,s⟩=>⟨p,a,b,e,k _ _ h,r.mono k,s.mono k⟩
def PrOk (ps:List (Tr × Tr)):Prop:=1<=ps.length/\ps.length<=8/\∀q∈ps,¬Let1 q.1/\¬Let1 q.2
def Beg (ts:List Tr):Prop:=∃t0,ts[0]?=some t0/\¬t0.kd = .name/\∀u∈ts,Hal t0 u
def RowR (H:Hp) (ts:List Tr) (v:V):Prop:=∃p us,v = .ref p/\H p=some (.tup us)/\Paired (Rep H) ts us
theorem RowR.mono {H H':Hp}(k:Tk H H') {ts:List Tr}{v:V}:RowR H ts v->RowR H' ts v
 |⟨p,us,e,h,r⟩=>⟨p,us,e,k _ _ h,Paired.mapP r λ Ω Ω z=>Rep.mono k z⟩
structure RowG (ts:List Tr):Prop where
 ne:1<=ts.length
 fw:ts.length<=10
 pl:∀t∈ts,Pln t
 dp:∀t∈ts,dpT t<=100
theorem zBn {α:Type}{F:α->V->Prop}{as:List α}{us:List V}{i:Nat}{a:α}(h:Paired F as us) (e:as[i]?=some a):∃u,us[i]?=some u/\F a u:=by
 have hl:=zAG h;have hi:i<us.length:=by have:=(lJ.mp e).1;omega
 obtain⟨a',ea,r⟩:=zAJ h (lW hi);rw[e] at ea;cases ea;exact⟨_,lW hi,r⟩
noncomputable def rowsW (ts:List Tr):List (List Tr):=(List.range ((ts[0]?.map λ t=>t.parts.length).getD 0)).map λ i=>ts.filterMap λ t=>t.parts[i]?
noncomputable def arK:Kd->Nat
 |.say=>1|.add=>2|.sub=>2|.mul=>2|.thn=>2|.ite=>3|.lett=>2
 |_=>0
theorem zD9 (t:Tr):t.parts.length=arK t.kd:=by
 cases t with
 |bin o a b=>cases o<;>rfl
 |_=>rfl
theorem zCE {t u:Tr}(h:Hal t u):u.parts.length=t.parts.length:=by rw[zD9,zD9,h.1]
theorem zMk {M:Model}{A:Around}{E:XQ}{s:Shared}{scope:Scope}{globals:Addr}{cl:List (Str × Addr)}{qual:Str}{env:Env}{Q:Env->Shared->Prop}
  (hQ:∀h',h'.Ns s.heap.objs.size (λ Ω=>none)->(∀b o,s.heap.get? b=some o->h'.get? b=some o) ->
   h'=pushCells (s.heap.push { cls:=.type "dict", data:=.dict #[] }) scope.names ->
   Q (newEnv scope s.heap.objs.size globals (cellsFrom (s.heap.objs.size+1) scope.names cl) qual none .none (some env) builtinsNs) { s with heap:=h' }) :
  wpAny M A (newFunctionEnv scope globals cl [] qual none .none (some env)) Q E s:=by
 simp only[newFunctionEnv,Option.isSome_some,if_true];refine lA (wpAny_alloc ?_);refine lA (wpAny_layCells _ (λ name kind cells=>by cases hkc:kind == NameKind.cell<;>simp[hkc]) _ _ _ _ ?_);rw[show ({ s with heap:=s.heap.push { cls:=.type "dict", data:=.dict #[] } }:Shared).heap.objs.size=s.heap.objs.size+1 from Heap.size_push ..];exact lB (hQ _ ((Heap.Ns.new s.heap (.type "dict")).keeps (pushCells_keeps _ _)) (λ b o e=>pushCells_keeps _ _ b o (lG _ e)) rfl)
theorem zBW:∀(names:List (Str × NameKind)) (n:Nat) (acc:List (Str × Addr)) (h:Heap),
  cellsFrom n names acc=cellsFrom n (names.filter λ y=>y.2 == .cell) acc/\pushCells h names=pushCells h (names.filter λ y=>y.2 == .cell)
 |[],_,_,_=>⟨rfl,rfl⟩
 | (x,k)::r,n,acc,h=>by
  cases hk:k == NameKind.cell with
  |true =>
   rw[List.filter_cons_of_pos (by exact hk)];unfold cellsFrom pushCells;rw[if_pos hk,if_pos hk,if_pos hk,if_pos hk];exact⟨(zBW r _ _ h).1,(zBW r n acc _).2⟩
  |false =>
   rw[List.filter_cons_of_neg (by rw[hk];decide)];have a:=zBW r n acc h;constructor
   ·rw[←a.1];conv=>lhs;unfold cellsFrom
    rw[hk];rfl
   ·rw[←a.2];conv=>lhs;unfold pushCells
    rw[hk];rfl
theorem zMl {M:Model}{A:Around}{E:XQ}{s:Shared}{scope:Scope}{globals:Addr}{cl:List (Str × Addr)}{qual:Str}{env:Env}{Q:Env->Shared->Prop}{x:Str}
  (hx:(scope.names.filter λ y=>y.2 == .cell)=[(x,.cell)])
  (hQ:∀h',h'.Ns s.heap.objs.size (λ Ω=>none)->(∀b o,s.heap.get? b=some o->h'.get? b=some o)->h'.IsCell (s.heap.objs.size+1) none ->
   Q (newEnv scope s.heap.objs.size globals ((x,s.heap.objs.size+1)::cl) qual none .none (some env) builtinsNs) { s with heap:=h' }) :
  wpAny M A (newFunctionEnv scope globals cl [] qual none .none (some env)) Q E s:=by
 refine zMk λ h' a b c=>?_;rw[(zBW scope.names _ cl h').1,hx];refine hQ h' a b ?_;rw[c,(zBW scope.names 0 [] _).2,hx];have e:(s.heap.push { cls:=.type "dict", data:=.dict #[] }).objs.size=s.heap.objs.size+1:=Heap.size_push ..;exact⟨_,e▸lH _ rfl,rfl⟩
noncomputable def Cx.blockO (X:Cx) (x:Str) (sc:Scope) (cl:List (Str × Addr)) (N:List Str) (s:Shared) (H:Hp) (C:Addr) (ex:List Addr):Cx :=
 { X.block sc cl N s H C ex with env:=compEnvC sc ((x,C+1)::cl) C X.env,fn:=λ y=>y == x }
theorem zNf {names:List (Str × NameKind)}{x y:Str}(hx:(names.filter λ y=>y.2 == .cell)=[(x,.cell)]) (h:(y,NameKind.cell)∈names):y=x:=by
 have m:(y,NameKind.cell)∈names.filter λ y=>y.2 == .cell:=List.mem_filter.mpr ⟨h,rfl⟩;rw[hx] at m;cases mQ.mp m;rfl
set_option tactic.hygienic true in
theorem zET {sc:Scope}{env:Env}{x y:Str}{k:NameKind}(hk:k = .cell\/k = .free) (hx:(sc.names.filter λ y=>y.2 == .cell)=[(x,.cell)]) (h:(relabel sc env).names.lookup y=some k):y=x\/(y,NameKind.free)∈sc.names:=by
 have m:=zCC h;obtain⟨⟨n,j⟩,hm,e⟩:=mC.mp m;have q:(if (j == NameKind.free && env.scope.kind == .function && env.kindOf n == some .cell)=true then (n,NameKind.cell) else (n,j))=(y,k):=e;split at q
 ·rename_i c
  rw[Bool.and_eq_true,Bool.and_eq_true] at c;have j':j = .free:=by simpa using c.1.1
  cases q;rw[j'] at hm;exact .inr hm
 ·cases q
  rcases hk with z|z
  ·rw[z] at hm;exact .inl (zNf hx hm)
  ·rw[z] at hm;exact .inr hm
theorem zJ8 {X:Cx}{jP:List (Addr × Obj)}{σ:St}{H:Hp}{s:Shared}{sc:Scope}{cl:List (Str × Addr)}{N:List Str}{C:Addr}{fp:List Addr}{x:Str}(I:Inv X jP σ H s) (hk:sc.kind = .function) (hx:(sc.names.filter λ y=>y.2 == .cell)=[(x,.cell)])
  (hC:s.heap.objs.size<=C) (hf:∀b∈fp,FpOk X jP H b) (hfo:∀b∈fp,∃o,s.heap.get? b=some o) (c1:∀x c,cl.lookup x=some c->X.env.cells.lookup x=some c) (c2:∀n,(n,NameKind.free)∈sc.names->∃c,cl.lookup n=some c) :
  (X.blockO x sc cl N s H C fp).Ok:=by
 have lt:∀y c,cl.lookup y=some c->c<s.heap.objs.size:=λ y c e=>by
  obtain⟨v,o,ho,_⟩:=I.cell y c (c1 y c e);exact lI ho
 have two:∀y c,((x,C+1)::cl).lookup y=some c->(y=x/\c=C+1)\/cl.lookup y=some c:=λ y c e=>by
  rw[List.lookup_cons] at e;cases hy:y == x with
  |true=>rw[hy] at e;cases e;exact .inl ⟨eq_of_beq hy,rfl⟩
  |false=>rw[hy] at e;exact .inr e
 have no:∀y,cl.lookup y≠some (C+1):=λ y e=>absurd (lZ (lt y _ e) hC) (by omega)
 have ltb:∀b∈fp,b<s.heap.objs.size:=λ b hb=>by
  obtain⟨o,e⟩:=hfo b hb;exact lI e
 exact {
  mod:=I.ok.mod
  kind:=hk
  glob:=I.ok.glob
  blt:=I.ok.blt
  above:=hC
  inj:=λ y z c e e'=>by
   rcases two y c e with ⟨r1,r2⟩|r<;>rcases two z c e' with ⟨q1,q2⟩|q
   ·rw[r1,q1]
   ·rw[r2] at q;exact absurd q (no z)
   ·rw[q2] at r;exact absurd r (no y)
   ·exact I.ok.inj y z c (c1 y c r) (c1 z c q)
  has:=λ y h=>by
   have:y=x\/(y,NameKind.free)∈sc.names:=h.elim (zET (.inl rfl) hx) (zET (.inr rfl) hx);show ∃c,((x,C+1)::cl).lookup y=some c;rw[List.lookup_cons];cases hy:y == x with
   |true=>exact⟨_,rfl⟩
   |false =>
    rcases this with z|z
    ·rw[z] at hy;simp at hy
    ·exact c2 y z
  cab:=λ y c e e'=>by
   rcases two y c e' with ⟨_,r⟩|r
   ·rw[r];exact Nat.le_succ_of_le hC
   ·have:y=x:=eq_of_beq e
    have e2:((x,C+1)::cl).lookup y=some c:=e';rw[List.lookup_cons,show (y == x)=true from e] at e2;cases e2;exact Nat.le_succ_of_le hC
  hd:=I.ok.hd
  frames:=I.ok.frames
  stk:=.inl rfl
  exf:=λ b hb=>⟨λ z=>absurd (lZ (ltb b hb) hC) (by rw[z];exact Nat.lt_irrefl _),λ y c e=>by
   rcases two y c e with ⟨_,r⟩|r
   ·intro z
    have k:C+1<s.heap.objs.size:=(r.symm.trans z)▸ltb b hb;exact absurd (lZ k hC) (Nat.not_lt.mpr (Nat.le_succ C))
   ·exact(hf b hb).2.2.2.2.1 y c (c1 y c r)⟩
  bs:=I.bs
  bsz:=mG I.ok.bsz I.sz
  noex:=λ b o e hb=>by
   rcases (hf b hb).2.2.2.1 with z|z
   ·exact I.ok.noex b o e z
   ·exact absurd (lZ (lI (I.ok.bs b o e).1) z) (Nat.lt_irrefl _)
  exfs:=λ b hb hs=>by
   rcases lN.mp (I.stkSub b hs) with z|z
   ·exact(hf b hb).2.1 z
   ·exact(hf b hb).2.2.1 z
  funs:=I.stack
  frf:=I.stkFree }
theorem zKh {X:Cx}{elt tg iter:Expr}{ifs:List Expr}{sc:Scope}{pos:Pos}{wi:TI}{g:TG}{tt:TT}{te:TE}(xo:Str) (N:List Str) (cap:List (Option Nat)) (hc:X.calm=true) (hi:PI X tg iter wi)
  (hg:∀cl s H C ex,PG (X.blockO xo sc cl N s H C ex) tg g) (ht:∀cl s H C ex,PTs (X.blockO xo sc cl N s H C ex) ifs tt) (he:∀cl s H C ex,PE (X.blockO xo sc cl N s H C ex) elt te)
  (hk:sc.kind = .function) (hx:(sc.names.filter λ y=>y.2 == .cell)=[(xo,.cell)]) (hxo:sc.names.lookup xo=some .cell) (hnames:∀y∈sc.names,y.2 = .local->sc.names.lookup y.1=some .local)
  (hfree:∀n,(n,NameKind.free)∈sc.names->X.env.kindOf n=some .cell)
  (hcap:∀(i j:Nat),cap[i]?=some (some j)->∃x,N[i]?=some x/\X.N[j]?=some x/\sc.names.lookup x=some .free) (hlen:cap.length=N.length)
  (hs:∀x,foldedSetIterable iter X.env x=pure x:=by intro _;rfl):PE X (.ListComp elt [⟨tg,iter,ifs,0⟩] sc pos) (tComp cap wi g tt te):=by
 intro jP s σ H Q I h;obtain⟨cl,hclos,c1,c2⟩:=zDn (sc:=sc) (env:=X.env) λ n hn=>I.ok.has n (.inl (hfree n hn));rw[eval_ListComp];refine wpAny_comprehension_free (use:=none) rfl hs hclos hk hnames ?_;refine thn (hi jP s σ H _ I h) λ v s1 h1=>thn h1 λ itv s2 h2=>?_;obtain⟨it,fp,tn,J,H2,e,I2,T,st2,f2,q2⟩:=h2;subst e;have hfr:H2 s2.heap.objs.size=none:=I2.fresh;obtain⟨W,⟨m0,w0⟩,turn⟩:=q2 s2.heap.objs.size hfr;have I3:=I2.lnew (ys:=[]) (its:=[]) (t':=s2.toks) .nil (lY _);have hacc:H2 s2.heap.objs.size=none:=hfr;refine wpAny_newObj_type (zMl hx λ h4 hns up4' hoc=>?_);generalize hs3:({ s2 with heap:=s2.heap.push { cls:=.type "list", data:=.seq ([]:List Value).toArray } }:Shared)=s3 at hns up4' hoc I3 ⊢;have hheap:s3.heap=s2.heap.push { cls:=.type "list", data:=.seq ([]:List Value).toArray }:=by rw[←hs3]
 generalize hH3:upd H2 s2.heap.objs.size (.lst [])=H3 at I3 w0;have up2:∀b o,s2.heap.get? b=some o->s3.heap.get? b=some o:=λ b o q=>by rw[hheap];exact lG _ q
 have neA:∀b∈fp,b≠s2.heap.objs.size:=λ b hb=>by
  obtain⟨o,q,_⟩:=T.obj _ _ st2 b hb;exact lS (lI q)
 have f3:∀b∈fp,FpOk X jP H3 b:=λ b hb=>⟨by rw[←hH3,zAR (neA b hb)];exact(f2 b hb).1,(f2 b hb).2⟩
 have o3:∀b∈fp,∃o,s3.heap.get? b=some o:=λ b hb=>by
  obtain⟨o,q,_⟩:=T.obj _ _ st2 b hb;exact⟨o,up2 b o q⟩
 have ok':=zJ8 (N:=N) (C:=s3.heap.objs.size) I3 hk hx (lQ _) f3 o3 c1 c2;generalize hC:s3.heap.objs.size=C at hns hoc ok' ⊢;have ltC:∀b o,s3.heap.get? b=some o->b≠C:=λ b o q=>by rw[←hC];exact lS (lI q)
 have up4:∀b o,s3.heap.get? b=some o->h4.get? b=some o:=up4';have st4:tn 0 h4:=T.keep _ _ _ st2 λ b hb o q=>up4 b o (up2 b o q)
 have two:∀y c,((xo,C+1)::cl).lookup y=some c->(y=xo/\c=C+1)\/cl.lookup y=some c:=λ y c e=>by
  rw[List.lookup_cons] at e;cases hy:y == xo with
  |true=>rw[hy] at e;cases e;exact .inl ⟨eq_of_beq hy,rfl⟩
  |false=>rw[hy] at e;exact .inr e
 have I4:Inv (X.blockO xo sc cl N s3 H3 C fp) [] (capSt cap σ) H3 { s3 with heap:=h4 }:=by
  refine⟨ok',rfl,I3.bare,Un.kept up4,⟨_,hns,λ i x v e1 e2 e3=>?_⟩,λ x c q=>?_,?_,λ x c q=>(two x c q).elim (λ z=>by rw[z.2];exact I3.hok.fresh (by rw[hC];exact Nat.le_succ _)) (λ z=>I3.freeC x c (c1 x c z)),λ p hp=>(nomatch hp),I3.hok.kept up4,?_⟩
  ·have ee:∃j,cap[i]?=some (some j)/\σ[j]?=some (some v):=by
    unfold capSt at e2;rw[mJ] at e2;cases q:cap[i]? with
    |none=>rw[q] at e2;cases e2
    |some o =>
     rw[q] at e2;cases o with
     |none=>cases e2
     |some j =>
      refine⟨j,rfl,?_⟩;have e2':some ((σ[j]?).join)=some (some v):=e2;cases z:σ[j]? with
      |none=>rw[z] at e2';cases e2'
      |some o' =>
       rw[z] at e2';have e2'':o'=some v:=mE e2';rw[e2'']
   obtain⟨j,ej,es⟩:=ee;obtain⟨x',n1,n2,n3⟩:=hcap i j ej;have e1':N[i]?=some x:=e1;rw[n1] at e1';cases e1';have hfr':(x,NameKind.free)∈sc.names:=zCC n3;have kc:=hfree x hfr'
   have nx:(x == xo)=false:=by
    cases z:x == xo with
    |false=>rfl
    |true=>rw[eq_of_beq z,hxo] at n3;cases n3
   obtain⟨m,_,hl⟩:=I3.loc;obtain⟨u,r,l⟩:=hl j x v n2 es (.inr (.inl kc));refine⟨u,r,?_⟩;rcases l with ⟨l,_⟩|⟨_,c,ec,z⟩
   ·rw[kc] at l;cases l
   ·obtain⟨c',ec'⟩:=c2 x hfr'
    have:=c1 x c' ec';rw[ec] at this;cases this;obtain⟨oc,q1,q2⟩:=z;exact .inr ⟨zAy (sc:=sc) n3,c,by show List.lookup x ((xo,C+1)::cl)=_;rw[List.lookup_cons,nx];exact ec',oc,up4 _ _ q1,q2⟩
  ·rcases two x c q with ⟨_,z⟩|z
   ·rw[z];exact⟨_,hoc⟩
   obtain⟨v,oc,q1,q2⟩:=I3.cell x c (c1 x c z);exact⟨v,oc,up4 _ _ q1,q2⟩
  ·exact I3.hok.fresh (by rw[hC];exact lQ _)
  ·show (capSt cap σ).length=N.length
   unfold capSt;rw[mD,hlen]
 have loop:codeAny (model X.prog X.w) X.A (.compLoop (.ListComp elt [⟨tg,iter,ifs,0⟩] sc pos) 0 (.ref it) (.ref s2.heap.objs.size) (compEnvC sc ((xo,C+1)::cl) C X.env)) (compPost (model X.prog X.w) X.A X.xe none (EP X jP σ Q) (.ref s2.heap.objs.size) C)
   { s3 with heap:=h4 }:=by
  have stat:∀{H':Hp},(∀b∈fp,H' b=none)->∀b∈fp,FpOk (X.blockO xo sc cl N s3 H3 C fp) [] H' b:=λ hn b hb =>
   ⟨hn b hb,(ok'.exf b hb).1,ok'.exfs b hb,.inl hb,(ok'.exf b hb).2,λ p hp=>(nomatch hp)⟩
  refine zEs (λ n s'=>∃i H',Inv (X.blockO xo sc cl N s3 H3 C fp) [] (capSt cap σ) H' s'/\tn i s'.heap/\(∀b∈fp,H' b=none)/\W i n H') ?_ m0 ⟨0,H3,I4,st4,λ b hb=>(f3 b hb).1,w0⟩;rintro n s5 ⟨i,H5,I5,st5,fr5,w5⟩;rcases turn i n H5 w5 with ⟨stop,qn⟩|⟨go,N',hN',step⟩
  ·refine thn (T.done (X.blockO xo sc cl N s3 H3 C fp) rfl rfl rfl hc i [] s5 _ H5 NoX I5 (stat fr5) st5 stop) λ r s6 ⟨hr,I6⟩=>?_
   subst hr;obtain⟨m,hm,_⟩:=I6.loc;refine⟨m,hm,λ h' sb=>⟨.ref s2.heap.objs.size,H5,?_,rfl,qn⟩⟩;refine I3.call' (s':={ s6 with heap:=h' }) (ch:=fp) I6.os (I6.base.but (by rw[←hC];exact lQ _) sb) (I6.hok.but I6.free sb) I6.bare λ b hb=>?_;obtain⟨g0,g1,g2,g3,g4,g5⟩:=f3 b hb;exact⟨g3,g1,g4,g5⟩
  ·refine thn (T.item (X.blockO xo sc cl N s3 H3 C fp) rfl rfl rfl hc i [] s5 _ H5 NoX I5 (stat fr5) st5 go) λ r s6 ⟨u,hr,h6⟩=>?_
   subst hr;refine thn h6 λ _ s7 ⟨x,H7,I7,r7,y7,st7,fr7⟩=>?_;have I7':=I7.pinned (stat fr7) (T.obj _ _ st7)
   have again:∀{σ8:St}{H8:Hp}{s8:Shared},Inv (X.blockO xo sc cl N s3 H3 C fp) ([]++zEV fp s7.heap) σ8 H8 s8->Ext (capSt cap σ) σ8->N' H8 ->
     ∃m,m<n/\∃i H',Inv (X.blockO xo sc cl N s3 H3 C fp) [] (capSt cap σ) H' s8/\tn i s8.heap/\(∀b∈fp,H' b=none)/\W i m H':=λ{σ8 H8 s8} I8 ex n8=>by
    obtain⟨m',hm,w8⟩:=hN' H8 n8;have I8':=I8.unpinned.weak ex.len ex.get;refine⟨m',hm,i+1,H8,I8',T.keep _ _ _ st7 λ b hb o q=>(I8.pin (b,o) (mB _ (mB _ (zBN hb q)))).1,λ b hb=>?_,w8⟩;obtain⟨o,q,d⟩:=T.obj _ _ st7 b hb;exact(I8.pin (b,o) (mB _ (mB _ (zBN hb q)))).2.1
   refine thn (hg cl s3 H3 C fp _ s7 _ H7 x u _ I7' r7 (step x H7 y7)) λ _ s8 ⟨σ8,H8,I8,ex8,q8⟩=>?_;refine thn (ht cl s3 H3 C fp _ s8 σ8 H8 _ I8 q8) λ b s9 ⟨H9,I9,q9⟩=>?_;cases b with
   |false=>exact again I9 ex8 q9
   |true =>
    rw[if_pos rfl] at q9 ⊢;refine thn (he cl s3 H3 C fp _ s9 σ8 H9 _ I9 q9) λ yv s10 ⟨y,H10,I10,r10,zs,e10,l10,q10⟩=>?_;refine thn (zDH (X:=X.blockO xo sc cl N s3 H3 C fp) _ s10 σ8 H10 (.ref s2.heap.objs.size) [y] (.ref s2.heap.objs.size) [yv] (λ Ω H'=>N' H') I10 rfl (.cons r10 .nil) ⟨_,zs,y,rfl,rfl,e10,l10,q10⟩) λ _ s11 ⟨_,H11,I11,_,q11⟩=>?_;exact again I11 ex8 q11
 exact codeAny_compStart_list loop (T.self X.A 0 _ _ _ st4 loop)
noncomputable def zJ0 (xo:Str) (sc:Scope) (env:Env) (XN N:List Str) (cap:List (Option Nat)):Bool :=
 (sc.kind == .function) && ((sc.names.filter λ y=>y.2 == .cell) == [(xo,.cell)]) && (sc.names.lookup xo == some .cell) && (sc.names.all λ y=>y.2 != .local || sc.names.lookup y.1 == some .local) &&
 (sc.names.all λ y=>y.2 != .free || env.kindOf y.1 == some .cell) &&
 ((List.range cap.length).all λ i=>match cap[i]? with
  |some (some j)=>(match N[i]? with|some x=>XN[j]? == some x && sc.names.lookup x == some .free|none=>false)
  |_=>true) && (cap.length == N.length)
theorem zI2 {X:Cx}{elt tg iter:Expr}{ifs:List Expr}{sc:Scope}{pos:Pos}{wi:TI}{g:TG}{tt:TT}{te:TE}(xo:Str) (N:List Str) (cap:List (Option Nat)) (hc:X.calm=true) (hi:PI X tg iter wi)
  (hg:∀cl s H C ex,PG (X.blockO xo sc cl N s H C ex) tg g) (ht:∀cl s H C ex,PTs (X.blockO xo sc cl N s H C ex) ifs tt) (he:∀cl s H C ex,PE (X.blockO xo sc cl N s H C ex) elt te)
  (ck:zJ0 xo sc X.env X.N N cap=true) (hs:∀x,foldedSetIterable iter X.env x=pure x:=by intro _;rfl):PE X (.ListComp elt [⟨tg,iter,ifs,0⟩] sc pos) (tComp cap wi g tt te):=by
 unfold zJ0 at ck;simp only[Bool.and_eq_true] at ck;obtain⟨⟨⟨⟨⟨⟨k1,k2⟩,k2'⟩,k3⟩,k4⟩,k5⟩,k6⟩:=ck;refine zKh xo N cap hc hi hg ht he (by simpa using k1) (eq_of_beq k2) (eq_of_beq k2') (λ y hy z=>?_) (λ n hn=>?_) (λ i j e=>?_) (by simpa using k6) hs
 ·have:=List.all_eq_true.mp k3 y hy
  rw[z] at this;simpa using this
 ·have:=List.all_eq_true.mp k4 _ hn
  simpa using this
 ·have hi:i<cap.length:=(lJ.mp e).1
  have:=List.all_eq_true.mp k5 i (List.mem_range.mpr hi);rw[e] at this;dsimp only at this;cases q:N[i]? with
  |none=>rw[q] at this;cases this
  |some x =>
   rw[q] at this;dsimp only at this;rw[Bool.and_eq_true] at this;exact⟨x,rfl,by simpa using this.1,by simpa using this.2⟩
theorem zMM {X:Cx}{tg l:Expr}{tl:TE}(K:W.Frag) (hK:X.K=K) (hl:PE X l tl):PI X tg l (iTup K tl):=hK▸zBm hl
theorem zE6 {X:Cx}(K:W.Frag) (hK:X.K=K):CallR X (.type "tuple") (λ xs H Q=>∃p ys,xs=[V.ref p]/\((SqL K H p ys/\∀l,H l=none->Q (.ref l) (upd H l (.tup ys)))\/SqT K H p ys/\Q (.ref p) H)):=by
 subst hK;exact zBe
theorem Rep.build {H:Hp}{t:Tr}{v:V}{ps:List Tr}(h:Rep H t v) (hl:ps.length=t.parts.length):∃a hs us,v = .ref a/\H a=some (.tup (.str t.sign::hs++us))/\hs.length+1=t.head/\us.length=t.parts.length /\
  ∀{H':Hp}{p:Addr}{ws:List V},Tk H H'->H' p=some (.tup (.str t.sign::hs++ws))->Paired (Rep H') ps ws->Rep H' (t.withP ps) (.ref p):=by
 cases t with
 |num n=>obtain⟨a,e,ha⟩:=h;exact⟨a,[.int n],[],e,ha,rfl,rfl,λ k e p=>by cases ps with|nil=>cases p;exact⟨_,rfl,e⟩|cons _ _=>cases hl⟩
 |name x=>obtain⟨a,e,ha⟩:=h;exact⟨a,[.str x],[],e,ha,rfl,rfl,λ k e p=>by cases ps with|nil=>cases p;exact⟨_,rfl,e⟩|cons _ _=>cases hl⟩
 |ask x=>obtain⟨a,e,ha⟩:=h;exact⟨a,[.str x],[],e,ha,rfl,rfl,λ k e p=>by cases ps with|nil=>cases p;exact⟨_,rfl,e⟩|cons _ _=>cases hl⟩
 |stop x=>obtain⟨a,e,ha⟩:=h;exact⟨a,[.str x],[],e,ha,rfl,rfl,λ k e p=>by cases ps with|nil=>cases p;exact⟨_,rfl,e⟩|cons _ _=>cases hl⟩
 |gap g as =>
  obtain⟨a,b,us,e,ha,hb,n,q⟩:=h;exact⟨a,[.str g,.ref b],[],e,ha,rfl,rfl,λ k e p=>by cases ps with|nil=>cases p;exact⟨_,b,us,rfl,e,k _ _ hb,n,Paired.mapP q λ Ω Ω z=>z.mono k⟩|cons _ _=>cases hl⟩
 |say s =>
  obtain⟨a,u,e,ha,r⟩:=h
  exact⟨a,[],[u],e,ha,rfl,rfl,λ k e p=>by
   match ps,hl with
   |[c],_ =>
    cases p with|cons r1 p=>cases p;exact⟨_,_,rfl,e,r1⟩⟩
 |bin o s t =>
  obtain⟨a,u,w,e,ha,r,r'⟩:=h
  exact⟨a,[],[u,w],e,(by show _=some (HO.tup [V.str o.kd.s,u,w]);rw[Bin.kd_s];exact ha),rfl,rfl,λ{H' p ws} k e q=>by
   match ps,hl with
   |[c,d],_ =>
    cases q with|cons r1 q=>cases q with|cons r2 q =>
     cases q;have e':H' p=some (.tup [.str o.kd.s,_,_]):=e;rw[Bin.kd_s] at e';exact⟨_,_,_,rfl,e',r1,r2⟩⟩
 |ite r s t =>
  obtain⟨a,u,w,z,e,ha,_,_,_⟩:=h
  exact⟨a,[],[u,w,z],e,ha,rfl,rfl,λ k e q=>by
   match ps,hl with
   |[c,d,f],_ =>
    cases q with|cons r1 q=>cases q with|cons r2 q=>cases q with|cons r3 q =>
     cases q;exact⟨_,_,_,_,rfl,e,r1,r2,r3⟩⟩
 |lett x s t =>
  obtain⟨a,u,w,e,ha,_,_⟩:=h
  exact⟨a,[.str x],[u,w],e,ha,rfl,rfl,λ k e q=>by
   match ps,hl with
   |[c,d],_ =>
    cases q with|cons r1 q=>cases q with|cons r2 q =>
     cases q;exact⟨_,_,_,rfl,e,r1,r2⟩⟩
theorem zFF (a b:List Tr):zAb (a++b)=zAb a+zAb b:=by simp[zAb]
theorem zIJ (h:Tr):zAb [h]=h.parts.length:=by simp[zAb]
theorem zEc (hs:List Tr) (i:Nat):zAb (hs.take i)<=zAb hs:=by
 have e:zAb hs=zAb (hs.take i)+zAb (hs.drop i):=by rw[←zFF,List.take_append_drop]
 omega
theorem zDd {α:Type}{F:α->V->Prop}:∀{as:List α}{us:List V}(i n:Nat),Paired F as us->Paired F ((as.drop i).take n) ((us.drop i).take n)
 |_,_,i,n,.nil=>by simp;exact .nil
 |_,_,0,0,.cons r t=>by simp;exact .nil
 |_,_,0,n+1,.cons r t=>by simpa using Paired.cons r (by simpa using zDd 0 n t)
 |_,_,i+1,n,.cons r t=>by simpa using zDd i n t
def zOA (H:Hp) (hs:List Tr) (v:V):Prop:=∃l us,v = .ref l/\H l=some (.lst us)/\Paired (Rep H) hs us
theorem zE3 {α:Type}{F:α->V->Prop}{L:List α}{us:List V}(h:Paired F L.reverse us) {i:Nat}{x:V}(hi:i<us.length) (e:us[us.length - 1 - i]?=some x):∃a,L[i]?=some a/\F a x:=by
 obtain⟨a,ea,r⟩:=zAJ h e;have hl:us.length=L.length:=by rw[zAG h,List.length_reverse]
 rw[List.getElem?_reverse (by omega)] at ea;refine⟨a,?_,r⟩;rw[←ea];congr 1;omega
noncomputable def abcS:Str := "abcdefghijklmnopqrstuvwxyz"
theorem zKA:abcS.length=26:=by symm
theorem zN8:∀i<26,abcS.cps.toList[i]?=some (97+i):=by symm
noncomputable def keptS:List Str:=["let", "in", "if", "then", "else", "say", "ask", "stop", "where", "quiet", "number"]
noncomputable def keptV:List V:=keptS.map V.str
def KeptW (K:W.Frag) (kv:Addr):Prop:=∃(o:Obj) (its:Array Value) (n:Nat),K.lookup kv=some o/\o.cls = .type "tuple" /\ o.data = .seq its n/\its.size<=sizeLine/\Vals keptV its.toList
noncomputable def wrdN (n:Nat):Str:=if n<26 then ⟨#[97+n]⟩ else ⟨#[96+n / 26,97+n % 26]⟩
theorem zKF {n m:Nat}(hn:n<702) (hm:m<702) (h:wrdN n=wrdN m):n=m:=by
 unfold wrdN at h;split at h<;>split at h
 ·have:=congrArg (λ s:Str=>s.cps.toList) h
  simp at this;exact this
 ·have:=congrArg (λ s:Str=>s.cps.toList) h
  simp at this
 ·have:=congrArg (λ s:Str=>s.cps.toList) h
  simp at this
 ·have:=congrArg (λ s:Str=>s.cps.toList) h
  simp at this;omega
theorem zKE {ks:List Str}{n:Nat}(h:∀j<n,wrdN j∈ks\/wrdN j∈keptS) (hn:n<=702):n<=ks.length+11:=by
 have nd:((List.range n).map wrdN).Nodup:=by
  refine List.pairwise_map.mpr (List.Pairwise.imp_of_mem (λ{a b} ha hb ne e=>?_) (List.nodup_range (n:=n)));have:=List.mem_range.mp ha;have:=List.mem_range.mp hb;exact ne (zKF (by omega) (by omega) e)
 have:=zDF (ws:=ks++keptS) nd λ x hx=>by
  obtain⟨j,hj,rfl⟩:=mC.mp hx;exact lK.mpr (h j (List.mem_range.mp hj))
 simpa[keptS] using this
def Unu (ks:List Str) (m:Str):Prop:=∃n,m=wrdN n/\n<=701/\(∀j<n,wrdN j∈ks\/wrdN j∈keptS)/\wrdN n∉ks/\wrdN n∉keptS
theorem Unu.new {ks:List Str}{m:Str}:Unu ks m->m∉ks:=by
 rintro⟨n,rfl,_,_,h,_⟩;exact h
abbrev WS:=List (List Tr × Str)
noncomputable def dtRow (ts:List Tr):Dt:=.tup (ts.map dtT)
noncomputable def kvW (q:List Tr × Str):Dt × V:=(dtRow q.1,.str q.2)
def WsR (P:Program) (w:World) (H:Hp) (d:Addr) (ws:WS):Prop:=DicP P w H d (ws.map kvW)
structure RowP (ts:List Tr):Prop where
 fw:ts.length<=10
 al:∀t∈ts,Pln t/\dpT t<=7/\t.size<=60
theorem RowR.dr {H:Hp}{ts:List Tr}{v:V}(r:RowR H ts v) (h:RowP ts):∃b,v = .ref b/\DR H (dtRow ts) v/\(dtRow ts).deep<=8:=by
 obtain⟨p,us,rfl,hp,pu⟩:=r
 have key:∀{ts:List Tr}{us:List V},Paired (Rep H) ts us->(∀t∈ts,Pln t/\dpT t<=7/\t.size<=60)->DRs H (ts.map dtT) us/\Dt.deeps (ts.map dtT)<=7:=by
  intro ts us pu
  induction pu with
  |nil=>intro _;exact⟨.nil,lY _⟩
  | @cons t u ts us r _ ih =>
   intro h;obtain⟨h1,h2⟩:=ih λ x hx=>h x (lP _ hx);have h0:=h t lO;have:=zBT t h0.1;have:=h0.2.1;refine⟨.cons (r.drP h0.1) h1,?_⟩;rw[mL];show max _ _<=7;omega
 obtain⟨k1,k2⟩:=key pu h.al;refine⟨p,rfl,.tup hp k1,?_⟩;show Dt.deeps _+1<=8;omega
theorem zGQ {a b:List Tr}(ha:∀t∈a,Pln t) (hb:∀t∈b,Pln t) (h:dtRow a=dtRow b):a=b:=by
 have h:=Dt.tup.inj h
 induction a generalizing b with
 |nil=>cases b with
  |nil=>rfl
  |cons _ _=>cases h
 |cons x a ih=>cases b with
  |nil=>cases h
  |cons y b =>
   rw[mL,mL] at h;obtain⟨h1,h2⟩:=List.cons.inj h;rw[zDz x y (ha x List.mem_cons_self) (hb y List.mem_cons_self) h1,ih (λ t ht=>ha t (List.mem_cons_of_mem _ ht)) (λ t ht=>hb t (List.mem_cons_of_mem _ ht)) (by unfold dtRow;rw[h2]) h2]
def wOf (ws:WS) (ts:List Tr) (g:Str):Prop:=∃a b,ws=a++(ts,g)::b/\∀q∈a,q.1≠ts
theorem wOf.uniq {ws:WS}{ts:List Tr}{g g':Str}:wOf ws ts g->wOf ws ts g'->g=g':=by
 rintro⟨a,b,e,h⟩ ⟨a',b',e',h'⟩;rw[e] at e';clear e
 induction a generalizing a' with
 |nil=>cases a' with
  |nil=>cases e';rfl
  |cons x a'=>cases e';exact absurd rfl (h' _ lO)
 |cons x a ih=>cases a' with
  |nil=>cases e';exact absurd rfl (h _ lO)
  |cons y a' =>
   rw[List.cons_append,List.cons_append] at e';obtain⟨_,e2⟩:=List.cons.inj e';exact ih (λ q hq=>h q (lP _ hq)) a' e2 (λ q hq=>h' q (lP _ hq))
theorem wOf.mem {ws:WS}{ts:List Tr}{g:Str}:wOf ws ts g->(ts,g)∈ws:=by
 rintro⟨a,b,rfl,_⟩;simp
theorem zLX (ws:WS) (ts:List Tr) (hp:RowP ts) (hw:∀q∈ws,RowP q.1):(∃g,wOf ws ts g/\valV (ws.map kvW) (dtRow ts)=some (.str g))\/((∀q∈ws,q.1≠ts)/\valV (ws.map kvW) (dtRow ts)=none):=by
 induction ws with
 |nil=>exact .inr ⟨(λ q hq=>nomatch hq),rfl⟩
 |cons x ws ih =>
  obtain⟨ts',g'⟩:=x;have hx:=hw (ts',g') lO
  by_cases e:ts'=ts
  ·subst e
   refine .inl ⟨g',⟨[],ws,rfl,(λ q hq=>nomatch hq)⟩,?_⟩
   unfold valV;rw[mL,List.find?_cons];simp[kvW]
  ·have e':¬dtRow ts'=dtRow ts:=λ z=>e (zGQ (λ t ht=>(hx.al t ht).1) (λ t ht=>(hp.al t ht).1) z)
   have step:valV (((ts',g')::ws).map kvW) (dtRow ts)=valV (ws.map kvW) (dtRow ts):=by
    unfold valV;rw[mL,List.find?_cons];have:decide ((kvW (ts',g')).1=dtRow ts)=false:=decide_eq_false e';simp only[this]
   rw[step];rcases ih (λ q hq=>hw q (lP _ hq)) with ⟨g,⟨a,b,rfl,h⟩,h2⟩|⟨h,h2⟩
   ·refine .inl ⟨g,⟨(ts',g')::a,b,rfl,λ q hq=>?_⟩,h2⟩
    rcases lN.mp hq with rfl|hq
    ·exact e
    ·exact h q hq
   ·refine .inr ⟨λ q hq=>?_,h2⟩
    rcases lN.mp hq with rfl|hq
    ·exact e
    ·exact h q hq
inductive Gap1 (ws:WS) (ts:List Tr):Str->WS->Prop
 |old {g:Str}:wOf ws ts g->Gap1 ws ts g ws
 |new {g:Str}:(∀q∈ws,q.1≠ts)->Unu (ws.map (·.2)) g->Gap1 ws ts g (ws++[(ts,g)])
theorem viaN {D:Ends}{t1 t2:TS}{σ:L2.St}{H:Hp}(h:∀N:L2.St->Hp->Prop,(∀σ' H',t2 D σ' H'->N σ' H')->t1 { D with nx:=N } σ H):tSeq t1 t2 D σ H:=h _ λ Ω Ω z=>z
def Sx (d:Addr) (H H':Hp):Prop:=∀b u,b≠d->H b=some u->H' b=some u
theorem Sx.same {d:Addr}{H H1 H':Hp}(g:Sx d H H1) (k:Same H1 H'):Sx d H H':=λ b u n e=>k b u (g b u n e)
theorem Sx.set {d p:Addr}{H H':Hp}{o:HO}(g:Sx d H H') (h:H p=none):Sx d H (upd H' p o):=λ b u n e=>by rw[zAR (zAN e h)];exact g b u n e
theorem Sx.own {U:Addr}{H H':Hp}{o:HO}(g:Sx U H H'):Sx U H (upd H' U o):=λ b u n e=>by rw[zAR n];exact g b u n e
theorem Sx.trans {U:Addr}{H H1 H2:Hp}(a:Sx U H H1) (b:Sx U H1 H2):Sx U H H2:=λ c u n e=>b c u n (a c u n e)
theorem Sx.of {U:Addr}{H H':Hp}(g:Same H H'):Sx U H H':=λ b u Ω e=>g b u e
theorem WsR.at {P:Program}{w:World}{H:Hp}{d:Addr}{ws:WS}(h:WsR P w H d ws):∃o,H d=some o/\(∀xs,o ≠ .tup xs)/\∀xs,o ≠ .lst xs:=by
 rcases h with ⟨xs,_,e,_⟩|⟨e,_⟩
 ·exact⟨_,e,(λ xs z=>nomatch z),(λ xs z=>nomatch z)⟩
 ·exact⟨_,e,(λ xs z=>nomatch z),(λ xs z=>nomatch z)⟩
theorem Sx.tk {P:Program}{w:World}{d:Addr}{H H':Hp}{ws:WS}(g:Sx d H H') (h:WsR P w H d ws):Tk H H':=λ b xs e=>by
 obtain⟨o,eo,n,_⟩:=h.at;exact g b _ (λ z=>by rw[z,eo] at e;exact n xs (mE e)) e
theorem WsR.mono {P:Program}{w:World}{H H':Hp}{d:Addr}{ws:WS}(h:WsR P w H d ws) (g:Same H H'):WsR P w H' d ws:=by
 obtain⟨o,eo,_⟩:=h.at;rcases h with h|⟨e,h2⟩
 ·exact .inl (h.mono g.tk (by rw[g _ _ eo,eo]))
 ·exact .inr ⟨g _ _ e,h2⟩
theorem WsR.tkD {P:Program}{w:World}{H H':Hp}{d:Addr}{ws:WS}(h:WsR P w H d ws) (k:Tk H H') (e:H' d=H d):WsR P w H' d ws:=by
 rcases h with h|⟨e',h2⟩
 ·exact .inl (h.mono k e)
 ·exact .inr ⟨by rw[e,e'],h2⟩
structure RowQ (ts:List Tr):Prop where
 ne:1<=ts.length
 fw:ts.length<=10
 pl:RowP ts
theorem RowQ.g {ts:List Tr}(h:RowQ ts):RowG ts:=⟨h.ne,h.fw,λ t ht=>(h.pl.al t ht).1,λ t ht=>mG (h.pl.al t ht).2.1 (by decide)⟩
noncomputable def sz0 (ts:List Tr):Nat:=(ts[0]?.map Tr.size).getD 0
noncomputable def totR (lev:List (List Tr)):Nat:=(lev.map sz0).sum
theorem zFN (a b:List (List Tr)):totR (a++b)=totR a+totR b:=by simp[totR]
theorem zCY (a:List Tr) (b:List (List Tr)):totR (a::b)=sz0 a+totR b:=by simp[totR]
theorem zGj {ts:List Tr}(h:RowQ ts):1<=sz0 ts:=by
 have:=h.ne;cases ts with
 |nil=>simp at this
 |cons t r=>exact zFU t
theorem zLb {ts:List Tr}{t:Tr}(h:ts[0]?=some t):sz0 ts=t.size:=by unfold sz0;rw[h];rfl
theorem zI4 (t:Tr):(t.parts.map Tr.size).sum+1=t.size:=by
 cases t<;>simp[Tr.parts,Tr.size]<;>omega
theorem zBk {ts:List Tr}{t:Tr}(h:ts[0]?=some t):(rowsW ts).length=t.parts.length:=by
 unfold rowsW;rw[h];simp
theorem zHa {ts:List Tr}{t:Tr}(h:ts[0]?=some t):(rowsW ts).map sz0=t.parts.map Tr.size:=by
 refine List.ext_getElem (by rw[mD,mD,zBk h]) λ i h1 h2=>?_;rw[mD] at h2;cases ts with
 |nil=>cases h
 |cons x r =>
  cases h;simp only[rowsW,List.getElem_map,List.getElem_range];rw[List.filterMap_cons];have:t.parts[i]?=some t.parts[i]:=lW h2;rw[this];rfl
theorem zGB {ts:List Tr}{t:Tr}(h:ts[0]?=some t):totR (rowsW ts)+1=sz0 ts:=by
 unfold totR;rw[zHa h,zLb h];exact zI4 t
theorem zDk {t p:Tr}(h:p∈t.parts):dpT p<dpT t:=by
 cases t with
 |say a=>rw[mQ.mp h];simp[dpT]
 |bin o a b=>simp[Tr.parts] at h;rcases h with rfl|rfl<;>simp only[dpT]<;>omega
 |ite a b c=>simp[Tr.parts] at h;rcases h with rfl|rfl|rfl<;>simp only[dpT]<;>omega
 |lett x a b=>simp[Tr.parts] at h;rcases h with rfl|rfl<;>simp only[dpT]<;>omega
 |_=>cases h
theorem zLu {ts:List Tr}{i:Nat}(h:∀t∈ts,i<t.parts.length):(ts.filterMap λ t=>t.parts[i]?).length=ts.length:=by
 induction ts with
 |nil=>rfl
 |cons t r ih =>
  rw[List.filterMap_cons,nM (h t List.mem_cons_self)];simp[ih λ x hx=>h x (List.mem_cons_of_mem _ hx)]
theorem zMA {ts:List Tr}(h:RowQ ts) (b:Beg ts):∀r∈rowsW ts,RowQ r:=by
 obtain⟨t0,e0,_,hal⟩:=b;intro r hr;unfold rowsW at hr;rw[e0] at hr;obtain⟨i,hi,rfl⟩:=mC.mp hr;have hi:i<t0.parts.length:=List.mem_range.mp hi;have hl:=zLu (ts:=ts) (i:=i) λ t ht=>by rw[zCE (hal t ht)];exact hi
 refine⟨by rw[hl];exact h.ne,by rw[hl];exact h.fw,by rw[hl];exact h.fw,λ d hd=>?_⟩;obtain⟨t,ht,e⟩:=List.mem_filterMap.mp hd;have hm:=lM e;exact⟨(h.pl.al t ht).1.part hm,by have:=zDk hm;have:=(h.pl.al t ht).2.1;omega,by have:=zEY hm;have:=(h.pl.al t ht).2.2;omega⟩
inductive Lv1:WS->List (List Tr)->WS->List Tr->List (List Tr)->Prop
 |nil {ws:WS}:Lv1 ws [] ws [] []
 |beg {ws ws1:WS}{row:List Tr}{rest dp:List (List Tr)}{t:Tr}{hs:List Tr}:Beg row->row[0]?=some t->Lv1 ws rest ws1 hs dp->Lv1 ws (row::rest) ws1 (t::hs) (rowsW row++dp)
 |gap {ws ws1 ws2:WS}{row:List Tr}{rest dp:List (List Tr)}{g:Str}{hs:List Tr}:¬Beg row->Gap1 ws row g ws1->Lv1 ws1 rest ws2 hs dp->Lv1 ws (row::rest) ws2 (.gap g []::hs) dp
inductive Cs:WS->List (List Tr)->WS->List (List Tr)->Prop
 |nil {ws:WS}:Cs ws [] ws []
 |cons {ws ws1 ws2:WS}{r:List Tr}{lev dp:List (List Tr)}{hs:List Tr}{L:List (List Tr)}:Lv1 ws (r::lev) ws1 hs dp->Cs ws1 dp ws2 L->Cs ws (r::lev) ws2 (hs::L)
theorem Gap1.len {ws ws':WS}{ts:List Tr}{g:Str}(h:Gap1 ws ts g ws'):ws'.length<=ws.length+1:=by
 cases h with
 |old _=>exact Nat.le_succ _
 |new _ _=>simp
theorem Gap1.rp {ws ws':WS}{ts:List Tr}{g:Str}(h:Gap1 ws ts g ws') (hp:RowP ts) (hw:∀q∈ws,RowP q.1):∀q∈ws',RowP q.1:=by
 cases h with
 |old _=>exact hw
 |new _ _ =>
  intro q hq;rcases lK.mp hq with z|z
  ·exact hw q z
  ·rw[mQ.mp z];exact hp
structure WsN (ws:WS):Prop where
 w:(ws.map (·.2)).Nodup
 r:(ws.map (·.1)).Nodup
theorem zDe {α:Type}{l:List α}{a:α}(h:l.Nodup) (n:a∉l):(l++[a]).Nodup:=by
 rw[List.nodup_append];refine⟨h,by simp,λ x hx y hy e=>?_⟩;rw[mQ.mp hy] at e;exact n (e▸hx)
theorem Gap1.nd {ws ws':WS}{ts:List Tr}{g:Str}(h:Gap1 ws ts g ws') (nd:WsN ws):WsN ws':=by
 cases h with
 |old _=>exact nd
 |new n u =>
  refine⟨?_,?_⟩
  ·rw[mP]
   exact zDe nd.w u.new
  ·rw[mP]
   refine zDe nd.r λ z=>?_;obtain⟨q,hq,e⟩:=mC.mp z;exact n q hq e
structure LvOk (ws:WS) (lev:List (List Tr)) (ws1:WS) (hs:List Tr) (dp:List (List Tr)):Prop where
 hl:hs.length=lev.length
 np:zAb hs=dp.length
 q:∀r∈dp,RowQ r
 wp:∀q∈ws1,RowP q.1
 nd:WsN ws1
 bd:ws1.length+totR dp<=ws.length+totR lev
 tt:totR dp+lev.length<=totR lev
theorem Lv1.ok {ws ws1:WS}{lev dp:List (List Tr)}{hs:List Tr}(a:Lv1 ws lev ws1 hs dp) (hq:∀r∈lev,RowQ r) (hw:∀q∈ws,RowP q.1) (nd:WsN ws):LvOk ws lev ws1 hs dp:=by
 induction a with
 |nil=>exact⟨rfl,rfl,(λ r hr=>nomatch hr),hw,nd,lQ _,lQ _⟩
 | @beg ws ws1 row rest dp t hs hb ht _ ih =>
  obtain⟨a,b,c,d,e,f,g⟩:=ih (λ r hr=>hq r (lP _ hr)) hw nd;have h0:=zGB ht;refine⟨by simp[a],?_,?_,d,e,?_,?_⟩
  ·rw[mK,zBk ht,←b];simp[zAb]
  ·intro r hr
   rcases lK.mp hr with z|z
   ·exact zMA (hq row lO) hb r z
   ·exact c r z
  ·rw[zFN,zCY];omega
  ·rw[zFN,zCY,mM];omega
 | @gap ws ws1 ws2 row rest dp g hs n hg _ ih =>
  have h0:=zGj (hq row lO);obtain⟨a,b,c,d,e,f,g'⟩:=ih (λ r hr=>hq r (lP _ hr)) (hg.rp (hq row lO).pl hw) (hg.nd nd);have h1:=hg.len;refine⟨by simp[a],?_,c,d,e,?_,?_⟩
  ·rw[←b];simp[zAb,Tr.parts]
  ·rw[zCY];omega
  ·rw[zCY,mM];omega
def Cln:Tr->Prop
 |.name _=>False
 |.lett _ _ _=>False
 |.gap _ as=>as=[]
 |.say a=>Cln a
 |.bin _ a b=>Cln a/\Cln b
 |.ite a b c=>Cln a/\Cln b/\Cln c
 |_=>True
def ShR (n:Nat) (r:Tr):Prop:=Cln r/\r.size<=n
theorem zL6 {t:Tr}(hp:Pln t) (hn:¬t.kd = .name) {rs:List Tr}(h:All2 ShR (t.parts.map Tr.size) rs):ShR t.size (t.withP rs):=by
 cases t with
 |name x=>exact absurd rfl hn
 |gap g as=>exact hp.elim
 |lett x a b=>exact hp.elim
 |num n=>cases h;exact⟨True.intro,lQ _⟩
 |ask n=>cases h;exact⟨True.intro,lQ _⟩
 |stop n=>cases h;exact⟨True.intro,lQ _⟩
 |say a =>
  cases h with
  |cons h1 h=>cases h;exact⟨h1.1,Nat.succ_le_succ h1.2⟩
 |bin o a b =>
  cases h with
  |cons h1 h=>cases h with
   |cons h2 h =>
    cases h;have a1:=h1.2;have a2:=h2.2;exact⟨⟨h1.1,h2.1⟩,by simp only[Tr.withP,Tr.size];omega⟩
 |ite a b c =>
  cases h with
  |cons h1 h=>cases h with
   |cons h2 h=>cases h with
    |cons h3 h =>
     cases h;have a1:=h1.2;have a2:=h2.2;have a3:=h3.2;exact⟨⟨h1.1,h2.1,h3.1⟩,by simp only[Tr.withP,Tr.size];omega⟩
theorem Lv1.sh {ws ws1:WS}{lev dp:List (List Tr)}{hs R:List Tr}(a:Lv1 ws lev ws1 hs dp) (hq:∀r∈lev,RowQ r) (h:All2 ShR (dp.map sz0) R):All2 ShR (lev.map sz0) (growL hs R):=by
 induction a generalizing R with
 |nil=>exact .nil
 | @beg ws ws1 row rest dp t hs hb ht _ ih =>
  rw[mP] at h;obtain⟨R1,R2,rfl,k1,k2⟩:=h.split;have l1:R1.length=t.parts.length:=by rw[←k1.length,mD,zBk ht]
  rw[zHa ht] at k1;show All2 ShR (sz0 row::rest.map sz0) (t.withP ((R1++R2).take t.parts.length)::growL hs ((R1++R2).drop t.parts.length));rw[←l1,List.take_left',List.drop_left']
  ·refine .cons ?_ (ih (λ r hr=>hq r (lP _ hr)) k2)
   obtain⟨t0,e0,nn,_⟩:=hb;rw[ht] at e0;cases e0;rw[zLb ht];exact zL6 ((hq row lO).pl.al t (lM ht)).1 nn k1
  ·rfl
  ·rfl
 | @gap ws ws1 ws2 row rest dp g hs n hg _ ih =>
  exact .cons ⟨rfl,zGj (hq row lO)⟩ (ih (λ r hr=>hq r (lP _ hr)) h)
theorem zCV:∀(a b:List (List Tr)) (R:List Tr),zBK (a++b) R=zBK b (zBK a R)
 |[],_,_=>rfl
 |h::a,b,R=>zCV a b (growL h R)
def Ch:List (List Tr)->Nat->Prop
 |[],n=>n=0
 |hs::L,n=>hs.length=n/\Ch L (zAb hs)
theorem zLz:∀(L:List (List Tr)) {Lr:List (List Tr)}{n:Nat},Ch L n->Fit Lr n->Fit (L.reverse++Lr) 0
 |[],_,_,h,f=>by cases h;exact f
 |hs::L,Lr,n,h,f=>by
  rw[List.reverse_cons,mX];obtain⟨rfl,h2⟩:=h;exact zLz L h2 ⟨rfl,f⟩
structure CsOk (ws:WS) (lev:List (List Tr)) (ws2:WS) (L:List (List Tr)):Prop where
 ch:Ch L lev.length
 sh:All2 ShR (lev.map sz0) (zBK L.reverse [])
 wp:∀q∈ws2,RowP q.1
 nd:WsN ws2
 bd:ws2.length<=ws.length+totR lev
 lh:∀hs∈L,hs.length<=totR lev
theorem zFg {lev:List (List Tr)}(h:∀r∈lev,RowQ r):lev.length<=totR lev:=by
 induction lev with
 |nil=>exact lQ _
 |cons r lev ih =>
  have:=ih λ x hx=>h x (lP _ hx);have:=zGj (h r lO);rw[zCY,mM];omega
theorem Cs.ok {ws ws2:WS}{lev L:List (List Tr)}(a:Cs ws lev ws2 L) (hq:∀r∈lev,RowQ r) (hw:∀q∈ws,RowP q.1) (nd:WsN ws):CsOk ws lev ws2 L:=by
 induction a with
 |nil=>exact⟨rfl,.nil,hw,nd,lQ _,(λ h z=>nomatch z)⟩
 | @cons ws ws1 ws2 r lev dp hs L hl _ ih =>
  have o:=hl.ok hq hw nd;have k:=ih o.q o.wp o.nd;refine⟨⟨o.hl,by rw[o.np];exact k.ch⟩,?_,k.wp,k.nd,?_,λ h hh=>?_⟩
  ·rw[List.reverse_cons,zCV]
   exact hl.sh hq k.sh
  ·have:=o.bd;have:=k.bd;omega
  ·have:=o.tt
   rcases lN.mp hh with rfl|z
   ·rw[o.hl];exact zFg hq
   ·have:=k.lh h z;omega
theorem Cs.tree {ws ws2:WS}{ts:List Tr}{L:List (List Tr)}(a:Cs ws [ts] ws2 L) (hq:RowQ ts) (hw:∀q∈ws,RowP q.1) (nd:WsN ws):∃r,zBK L.reverse []=[r]/\ShR (sz0 ts) r/\Fit L.reverse 0/\(∀q∈ws2,RowP q.1)/\WsN ws2/\ws2.length<=ws.length+sz0 ts/\∀hs∈L,hs.length<=sz0 ts:=by
 have o:=a.ok (λ r hr=>by rw[mQ.mp hr];exact hq) hw nd;have e:totR [ts]=sz0 ts:=by simp[totR]
 have f:=zLz L (Lr:=[]) o.ch rfl;rw[nO] at f;have sh:=o.sh;have bd:=o.bd;have lh:=o.lh;rw[e] at bd lh;generalize zBK L.reverse []=R at sh ⊢;cases sh with
 |cons h1 h2 =>
  cases h2;exact⟨_,rfl,h1,f,o.wp,o.nd,bd,lh⟩
theorem Lv1.snocB {ws ws1:WS}{lev dp:List (List Tr)}{hs:List Tr}{row:List Tr}{t:Tr}(a:Lv1 ws lev ws1 hs dp) (hb:Beg row) (ht:row[0]?=some t):Lv1 ws (lev++[row]) ws1 (hs++[t]) (dp++rowsW row):=by
 induction a with
 | @nil ws=>have:=Lv1.beg hb ht (Lv1.nil (ws:=ws));rw[nO] at this;exact this
 |beg hb' ht' _ ih=>rw[mX];exact .beg hb' ht' ih
 |gap n hg _ ih=>exact .gap n hg ih
theorem Lv1.snocG {ws ws1 ws2:WS}{lev dp:List (List Tr)}{hs:List Tr}{row:List Tr}{g:Str}(a:Lv1 ws lev ws1 hs dp) (n:¬Beg row) (hg:Gap1 ws1 row g ws2):Lv1 ws (lev++[row]) ws2 (hs++[.gap g []]) dp:=by
 induction a with
 |nil=>exact .gap n hg .nil
 |beg hb' ht' _ ih=>exact .beg hb' ht' (ih hg)
 |gap n' hg' _ ih=>exact .gap n' hg' (ih hg)
def LevN (A:Addr) (H:Hp) (hs:List Tr) (v:V):Prop:=∃l us,v = .ref l/\l≠A/\H l=some (.lst us)/\Paired (Rep H) hs us
theorem LevN.mono {A:Addr}{H H':Hp}(k:Tk H H') (g:∀b us,b≠A->H b=some (.lst us)->H' b=some (.lst us)) {hs:List Tr}{v:V}:LevN A H hs v->LevN A H' hs v
 |⟨l,us,e,n,h,p⟩=>⟨l,us,e,n,g l us n h,Paired.mapP p λ Ω Ω z=>z.mono k⟩
theorem zFw (lev:List (List Tr)) (i:Nat):totR (lev.take i)<=totR lev:=by
 have e:totR lev=totR (lev.take i)+totR (lev.drop i):=by rw[←zFN,List.take_append_drop]
 omega
noncomputable def ltS (a b:Str):Bool:=decide (a.cps.toList<b.cps.toList)
theorem zHi (a:Str):ltS a a=false:=decide_eq_false (List.lt_irrefl _)
theorem zL5 {a b:Str}(h:a.cps.toList=b.cps.toList):a=b:=by
 cases a;cases b;congr;exact Array.toList_inj.mp h
theorem zMm {a b:Str}(h:a≠b) (k:ltS a b=false):ltS b a=true:=by
 have k':=of_decide_eq_false k;refine lU ?_
 by_cases z:b.cps.toList<a.cps.toList
 ·exact z
 ·exact absurd (zL5 (List.le_antisymm (List.not_lt.mp z) (List.not_lt.mp k'))) h
theorem zK6 {a b:Str}(k:ltS a b=true):ltS b a=false:=decide_eq_false λ z=>List.lt_asymm z (lT k)
theorem zJL {a b c:Str}(h:ltS a b=true) (k:ltS b c=true):ltS a c=true:=lU (List.lt_trans (lT h) (lT k))
end L2
namespace PySem
open PySem.Calls PyProof.Rows PySem.W L2
section
variable {prog:Program}{w:World}{A:Around}{E:XQ}{s:Shared}
def TxtAt (h:Heap) (v:Value) (x:Str):Prop:=∃(a:Addr) (t:Tok) (u:Value),v = .ref a/\h.IsTuple a #[.str x t,u]
theorem TxtAt.kept {h h':Heap}{v:Value}{x:Str}(k:∀b o,o.cls = .type "tuple" -> h.get? b=some o->h'.get? b=some o):TxtAt h v x->TxtAt h' v x
 |⟨a,t,u,e,⟨o,ho,hc,r⟩⟩=>⟨a,t,u,e,⟨o,k _ _ hc ho,hc,r⟩⟩
theorem zFv {h h':Heap}(k:∀b o,o.cls = .type "tuple" -> h.get? b=some o->h'.get? b=some o) {vs:List Value}{ps:List Str}(p:Paired (TxtAt h) vs ps):Paired (TxtAt h') vs ps:=by
 induction p with
 |nil=>exact .nil
 |cons r _ ih=>exact .cons (r.kept k) ih
theorem zLY {h:Heap}{vs:List Value}{ps:List Str}(p:Paired (TxtAt h) vs ps):∀{i:Nat},i<vs.length->TxtAt h (vs.getD i Value.none) (ps.getD i ""):=by
 induction p with
 |nil=>intro i hi;simp at hi
 |cons r _ ih =>
  intro i hi;cases i with
  |zero=>exact r
  |succ i=>simpa using ih (i:=i) (by simpa using hi)
theorem zND {x y:Value}{ns ms:Str}{Q:Bool->Shared->Prop}(hx:TxtAt s.heap x ns) (hy:TxtAt s.heap y ms) (hne:ns≠ms) (hu:A.units<cLine) (h:Q (ltS ns ms) s):wpAny (model prog w) A (keyLt' (tuples' true) x y) Q E s:=by
 obtain⟨a,t,u,rfl,⟨o,ho,hc,n,hd⟩⟩:=hx;obtain⟨a',t',u',rfl,⟨o',ho',hc',n',hd'⟩⟩:=hy;refine kat_lt ho hd ho' hd' ?_;show KatLex prog w A true _ Q [(.str ns t,.str ms t'),(u,u')] 0 s;have e:(ns == ms)=false:=by simpa using hne
 have k:=SeqAt.EqAt.str_str (A:=A) (s:=s) ns t ms t';rw[e] at k;exact kat_cons (k prog w _ _ (kat_no (oneLt_str h)))
theorem zKG {h:Heap}{vs:List Value}{ps:List Str}(p:Paired (TxtAt h) vs ps):∃fs,KatTups h vs fs/\fs.length=vs.length/\∀v∈fs,Looks (model prog w) h (typeOf v) (.type "str"):=by
 induction p with
 |nil=>exact⟨[],trivial,rfl,λ v hv=>nomatch hv⟩
 |cons r _ ih =>
  obtain⟨fs,h1,h2,h3⟩:=ih;obtain⟨a,t,u,rfl,⟨o,ho,hc,n,hd⟩⟩:=r;refine⟨.str _ t::fs,KatTups.cons ho hc hd rfl h1,by simp[h2],λ v hv=>?_⟩;rcases lN.mp hv with rfl|hv
  ·exact .now
  ·exact h3 v hv
theorem zFe {a:Addr}{vs:List Value}{ps:List Str}{n:Nat}{P:PySem.Fin->Shared->Prop}(ho:s.heap.get? a=some (seqObj "list" vs.toArray n)) (hp:Paired (TxtAt s.heap) vs ps) (nd:ps.Nodup) (h64:vs.length<64) (hu:A.units<cLine)
  (h:∀p:Array Nat,PermN vs.length p->Asc (λ i j=>ltS (ps.getD i "") (ps.getD j "")) p vs.length->P (.done (.ret .none)) { s with heap:=sortedHeap s.heap a vs (List.toArray (p.toList.map λ i=>vs.getD i Value.none)) }) :
  wpAny (model prog w) A (Builtin.«list.sort» ⟨[.ref a],[]⟩) P E s:=by
 rw[list_sort_plain];have hlp:vs.length=ps.length:=hp.length;have ha:a<s.heap.objs.size:=lI ho;refine lA (listItems_at ho rfl ?_);refine lA (listUpdate_at ho rfl ?_ (by rw[mH,sizeLine_eq];omega) (lY _));obtain⟨e1,ho1⟩:∃e1,(s.heap.update a (Obj.mapSeq λ Ω=>#[])).get? a=some (seqObj "list" #[] e1):=⟨_,get?_update_seq ho (λ Ω=>#[])⟩;refine lA (seqEpoch_at ho1 rfl ?_);refine lA (wpAny_newTuple ?_ (by show vs.length<=_;rw[sizeLine_eq];omega));refine lA (wpAny_newList ?_ (lY _));refine lE ?_
 have ho6:(((s.heap.update a (Obj.mapSeq λ Ω=>#[])).push (seqObj "tuple" vs.toArray 0)).push (seqObj "list" #[] 0)).get? a=some (seqObj "list" #[] e1):=by
  rw[Heap.get?_push_ne _ _ _ (by rw[size_push',Heap.size_update];exact lS (Nat.lt_succ_of_lt ha)),Heap.get?_push_ne _ _ _ (by rw[Heap.size_update];exact lS ha)];exact ho1
 have keep:∀b o,o.cls = .type "tuple" -> s.heap.get? b=some o->(((s.heap.update a (Obj.mapSeq λ Ω=>#[])).push (seqObj "tuple" vs.toArray 0)).push (seqObj "list" #[] 0)).get? b=some o:=λ b o hc hb=>by
  have hne:b≠a:=λ z=>by
   rw[z,ho] at hb;cases hb;injection hc with hh
   exact absurd hh (by decide)
  exact lG _ (lG _ (by rw[Heap.get?_update_ne _ _ _ _ hne];exact hb))
 have hp6:=zFv keep hp;show wpAny (model prog w) A _ P E { s with heap:=((s.heap.update a (Obj.mapSeq λ Ω=>#[])).push (seqObj "tuple" vs.toArray 0)).push (seqObj "list" #[] 0) };dsimp only
 by_cases h2:vs.toArray.size<2
 ·rw[if_pos h2,if_pos h2]
  refine lA (lB ?_);rw[StateT.run_pure];refine lA (lB ?_);dsimp only;have h2':vs.length<2:=by simpa using h2
  have hid:(arrOf (SortSt.mk' general' (vs.toArray.zip vs.toArray) #[] 7 none)).map (·.2)=List.toArray ((List.toArray (List.range vs.length)).toList.map λ i=>vs.getD i Value.none):=by
   show (vs.toArray.zip vs.toArray).map (·.2)=_;exact zHZ h2'
  refine lA (seqEpoch_at ho6 rfl ?_);refine lA (listUpdate_at ho6 rfl ?_ (lY _) (by rw[Array.size_map];show (vs.toArray.zip vs.toArray).size<=_;rw[sizeLine_eq];simp;omega));simp only[bne_self_eq_false,Bool.false_eq_true,if_false];refine lB ?_;have fin:=h (List.toArray (List.range vs.length)) (by unfold PermN;simp) (λ i j hij hj=>by omega);rw[←hid] at fin;exact fin
 ·rw[if_neg h2,if_neg h2]
  have h2':2<=vs.length:=by simpa using h2
  obtain⟨fs,t1,t2,t3⟩:=zKG (prog:=prog) (w:=w) hp6;refine lA (kat_kind (T:=.type "str") t1 (by omega) t3 (by decide) ?_);show wpAny (model prog w) A ((sortRuns').run (SortSt.mk' (tuples' true) (vs.toArray.zip vs.toArray) #[] 7 none) >>= _) P E _
  have o:Ord vs.length (λ i j=>ltS (ps.getD i "") (ps.getD j "")):=by
   have inj:∀i j,i<vs.length->j<vs.length->i≠j->ps.getD i "" ≠ ps.getD j "" := λ i j hi hj ne e=>by
    have e1:ps.getD i "" = ps[i]'(by omega):=by simp[show i<ps.length by omega]
    have e2:ps.getD j "" = ps[j]'(by omega):=by simp[show j<ps.length by omega]
    rw[e1,e2] at e;exact ne ((List.getElem_inj nd).mp e)
   exact⟨λ i j hi hj ne k=>zMm (inj i j hi hj ne) k,λ i j Ω Ω k=>zK6 k,λ i j k Ω Ω Ω a b=>zJL a b⟩
  refine lA (wpAny_mono (kat_run (Q:=λ st' s'=>∃p:Array Nat,PermN vs.length p/\Asc (λ i j=>ltS (ps.getD i "") (ps.getD j "")) p vs.length/\s'={ s with heap:=((s.heap.update a (Obj.mapSeq λ Ω=>#[])).push (seqObj "tuple" vs.toArray 0)).push (seqObj "list" #[] 0) }/\arrOf st'=p.map (kas_item (vs.toArray.zip vs.toArray))/\failedOf st'=none)
   (G:=λ p s'=>(PermN vs.length p/\Asc (λ i j=>ltS (ps.getD i "") (ps.getD j "")) p vs.length)/\s'={ s with heap:=((s.heap.update a (Obj.mapSeq λ Ω=>#[])).push (seqObj "tuple" vs.toArray 0)).push (seqObj "list" #[] 0) })
   rfl h2' h64 (λ p' st' s' a1 a2 a3 a4=>⟨p',a4.1.1,a4.1.2,a4.2,a2,a3⟩) ?_) ?_ λ Ω Ω e=>e)
  ·refine Ev.wp (St:=λ s'=>s'={ s with heap:=((s.heap.update a (Obj.mapSeq λ Ω=>#[])).push (seqObj "tuple" vs.toArray 0)).push (seqObj "list" #[] 0) }) (λ i j C s' hi hj hij hs hC=>?_) (λ p s' q hs=>⟨q,hs⟩) (zJi o h2') rfl
   subst hs;unfold kas_ask;refine zND (zLY hp6 hi) (zLY hp6 hj) ?_ hu (hC _ rfl);intro e;have:=o.tot i j hi hj hij (by rw[e];exact zHi _);rw[e,zHi] at this;cases this
  ·rintro⟨⟨⟩,st'⟩ s' ⟨p,pm,asc,rfl,har,hf⟩
   dsimp only;have hout:=kat_snds rfl har;rw[hout];have hsz:(List.toArray (p.toList.map λ i=>vs.getD i Value.none)).size=vs.length:=by rw[mH,mD,Array.length_toList,pm.size]
   refine lA (seqEpoch_at ho6 rfl ?_);refine lA (listUpdate_at ho6 rfl ?_ (lY _) (mG (Nat.le_of_eq hsz) (by rw[sizeLine_eq];omega)));rw[hf];simp only[bne_self_eq_false,Bool.false_eq_true,if_false];exact lB (h p pm asc)
end
end PySem
namespace L2
open PySem PySem.Spec PyProof.Rows PySem.W
def TxV (H:Hp) (p:Str × V) (v:V):Prop:=∃(b:Addr),v = .ref b/\H b=some (.tup [.str p.1,p.2])
theorem zL2 {P:Program}{w:World}{H:Hp}{h:Heap}(ok:HOk P w H h) {ps:List (Str × V)}{vs:List V}(hp:Paired (TxV H) ps vs):∀{us:List Value},Vals vs us->Paired (TxtAt h) us (ps.map (·.1)):=by
 induction hp with
 |nil=>intro us r;cases r;exact .nil
 |cons hp _ ih =>
  intro us r;cases r with
  |cons r1 r2 =>
   refine .cons ?_ (ih r2);obtain⟨b,rfl,h1⟩:=hp;cases r1;obtain⟨_,its,rv,tp⟩:=(show ObjOk P w H h b (.tup [.str _,_]) from ok b _ h1);cases rv with
   |cons q1 rv=>cases rv with
    |cons q2 rv =>
     cases rv;obtain⟨t,rfl⟩:=q1;exact⟨b,t,_,rfl,tp⟩
theorem zDw {ps:List (Str × V)}{vs:List V}{H:Hp}(h:Paired (TxV H) ps vs):∀(ix:List Nat),(∀i∈ix,i<vs.length)->Paired (TxV H) (ix.map λ i=>ps.getD i ("", .non)) (ix.map λ i=>vs.getD i .non)
 |[],_=>.nil
 |i::ix,hx=>by
  refine .cons ?_ (zDw h ix λ j hj=>hx j (lP _ hj));have hi:=hx i lO;obtain⟨p,hp,q⟩:=zAJ h (lW hi);have e1:ps.getD i ("", .non)=p:=by rw[List.getD_eq_getElem?_getD,hp];rfl
  have e2:vs.getD i .non=vs[i]:=by simp[hi]
  dsimp only;rw[e1,e2];exact q
section
variable {X:Cx}
def zNT:List V->Hp->VK->Prop:=λ xs H Q=>∃(l:Addr) (vs:List V) (ps:List (Str × V)),xs=[.ref l]/\H l=some (.lst vs)/\Paired (TxV H) ps vs/\(ps.map (·.1)).Nodup/\ps.length<64 /\
 ∀(l':Addr) (ws:List V) (qs:List (Str × V)),H l'=none->Paired (TxV H) qs ws->qs.Perm ps->Q (.ref l') (upd H l' (.lst ws))
theorem zGU (hu:X.A.units+150<cLine):CallR X (.builtin "sorted") zNT:=by
 intro jP s σ H xs us Q I r h;obtain⟨l,vs,ps,rfl,hl,hp,nd,h64,q⟩:=h;obtain⟨u,rfl,ru⟩:=vals1 r;cases ru;obtain⟨_,its,n0,rv,hlen,el⟩:=I.lstM hl;have hlv:its.length=vs.length:=rv.length.symm;have hlp:ps.length=vs.length:=Paired.length hp;have line:its.length<=sizeLine:=Nat.le_of_lt (zAK (by omega));refine Calls.call_function_entry kind_sorted plain_sorted entry_sorted (args_sorted1 _) ?_;unfold Builtin.«sorted»;refine lA (m:=checkCount "sorted" 1 1 _) (lB ?_);have hL:s.heap.IsList l its.toArray:=⟨_,el,rfl,_,rfl⟩;refine lA (collect_list hL ?_ (by simpa using line));refine lA (wpAny_newList ?_ (by simpa using line))
 have keep1:∀b o,s.heap.get? b=some o->((s.heap.push (seqObj "list" #[] 0)).update s.heap.objs.size (Obj.mapSeq (·++its.toArray))).get? b=some o:=λ b o q=>by
  have hlt:b<s.heap.objs.size:=lI q;rw[Heap.get?_update_ne _ _ _ _ (Nat.ne_of_lt hlt)];exact lG _ q
 show wpAny _ _ _ _ _ { s with heap:=((s.heap.push (seqObj "list" #[] 0)).update s.heap.objs.size (Obj.mapSeq (·++its.toArray))).push { cls:=.type "list", data:=.seq its.toArray } };generalize (s.heap.push (seqObj "list" #[] 0)).update s.heap.objs.size (Obj.mapSeq (·++its.toArray))=h1 at keep1 ⊢;have I1:Inv X jP σ H { s with heap:=h1 }:=I.kept (t':=s.toks) keep1;have hoL:(h1.push { cls:=.type "list", data:=.seq its.toArray }).get? h1.objs.size=some (seqObj "list" its.toArray 0):=lH _ rfl;have hplc:Paired (TxtAt (h1.push { cls:=.type "list", data:=.seq its.toArray })) its (ps.map (·.1)):=zFv (λ b o Ω e=>lG _ e) (zL2 I1.hok hp rv);refine lA (lE (wpAny_call_entry slot_list_sort ⟨_,hoL,rfl⟩ entry_list_sort (zFe hoL hplc nd (by omega) (by show X.A.units+1+1<cLine;omega) λ p pm asc=>⟨_,rfl,?_⟩) (args_list_sort _)));have pm':p.toList.Perm (List.range ps.length):=by have:=pm;unfold PermN at this;rw[hlv,←hlp] at this;exact this
 have hix:∀i∈p.toList,i<vs.length:=λ i hi=>by
  have:=List.mem_range.mp (pm'.mem_iff.mp hi);omega
 obtain⟨e,he⟩:∃e,(sortedHeap (h1.push { cls:=.type "list", data:=.seq its.toArray }) h1.objs.size its (List.toArray (p.toList.map λ i=>its.getD i Value.none))).get? h1.objs.size=some (seqObj "list" (List.toArray (p.toList.map λ i=>its.getD i Value.none)) e):=sortedHeap_at hoL;have hn1:=I1.hok.fresh (lQ h1.objs.size);refine lB ⟨_,rfl,⟨.ref h1.objs.size,upd H h1.objs.size (.lst (p.toList.map λ i=>vs.getD i .non)),I1.laid (t':=s.toks) (a:=h1.objs.size) (o:=.lst (p.toList.map λ i=>vs.getD i .non)) (λ b o hb=>?_) (lQ _) ⟨?_,_,e,zED rv p.toList hix,?_⟩,rfl,q _ _ (p.toList.map λ i=>ps.getD i ("", .non)) hn1 (zDw hp p.toList hix) (zGE _ ps pm')⟩⟩
 ·rw[sortedHeap_old (Nat.ne_of_lt (Heap.lt_size hb)) (by rw[Heap.size_push];exact Nat.lt_succ_of_lt (lI hb))]
  exact lG _ hb
 ·rw[mD,pm'.length_eq,List.length_range]
  exact Nat.le_of_lt (zAK (by omega))
 ·rw[he]
end
structure FnD1 (P:Program) (w:World) (K:W.Frag) (mg:Str->Option Value) (base:Heap) (k:Nat) (x:Str) (f:Addr) (fd:FuncData) (ps:List Str) (sp:Sp):Prop where
 ok:FnOk P w K mg base CX0 k f fd ps sp
 bd0:Binds K fd ps []
 bd1:Binds K fd ps [.none]
 kp:W.keepIn K (.ref f)=true
 gl:mg x=some (.ref f)
theorem FnD1.up {P:Program}{w:World}{K:W.Frag}{mg:Str->Option Value}{base:Heap}{j k:Nat}{x:Str}{f:Addr}{fd:FuncData}{ps:List Str}{sp:Sp}(F:FnD1 P w K mg base j x f fd ps sp) (h:j<=k):FnD1 P w K mg base k x f fd ps sp:=⟨F.ok.mono h,F.bd0,F.bd1,F.kp,F.gl⟩
theorem Pln.sub {t:Tr}(h:Pln t):∀p∈t.subs,Pln p:=by
 induction t with
 |say a ih=>intro p hp;rcases lN.mp hp with rfl|hp<;>first|exact h|exact ih h p (by simpa[Tr.subs] using hp)
 |bin o a b iha ihb =>
  intro p hp;rw[zA6] at hp;simp only[Tr.parts,rF,List.flatMap_nil,nO,nL,nK] at hp;rcases hp with rfl|hp|hp
  ·exact h
  ·exact iha h.1 p hp
  ·exact ihb h.2 p hp
 |ite a b c iha ihb ihc =>
  intro p hp;rw[zA6] at hp;simp only[Tr.parts,rF,List.flatMap_nil,nO,nL,nK] at hp;rcases hp with rfl|hp|hp|hp
  ·exact h
  ·exact iha h.1 p hp
  ·exact ihb h.2.1 p hp
  ·exact ihc h.2.2 p hp
 |lett x a b=>exact h.elim
 |gap g as=>exact h.elim
 |_=>intro p hp;rw[zA6] at hp;simp only[Tr.parts,List.flatMap_nil,nL,mZ,or_false] at hp;subst hp;exact h
theorem zKe {X:Cx}{o i:Expr}{pos:Pos}{td ty:TE}(P:Program) (w:World) (hP:X.prog=P) (hw:X.w=w) (hu:X.A.units+150<cLine) (ho:PE X o td) (hi:PE X i ty) (hs:NoSl i):PE X (.Subscript o i pos) (tNGet P w td ty):=by
 subst hP hw;exact zI1 hu ho hi hs
open Classical in
noncomputable def kindF (ts:List Tr):Option Str:=if ∀t∈ts,t.kd = .num then some "number" else if ∀t∈ts,¬loudT t then some "quiet" else none
noncomputable def optV:Option Str->V
 |some x=>.str x
 |none=>.non
theorem drs2 {H:Hp}{a b:Dt}{us:List V}(h:DRs H [a,b] us):∃u v,us=[u,v]/\DR H a u/\DR H b v:=by
 cases h with
 |cons h1 h=>cases h with
  |cons h2 h=>cases h;exact⟨_,_,rfl,h1,h2⟩
theorem DR.rep {H:Hp}{t:Tr}:Pln t->∀{v:V},DR H (dtT t) v->Rep H t v:=by
 induction t with
 |gap g as=>intro h;exact h.elim
 |lett x a b=>intro h;exact h.elim
 |num n =>
  intro _ v h;cases h with
  |tup h hs=>obtain⟨u,w,rfl,h1,h2⟩:=drs2 hs;cases h1;cases h2;exact⟨_,rfl,h⟩
 |name n =>
  intro _ v h;cases h with
  |tup h hs=>obtain⟨u,w,rfl,h1,h2⟩:=drs2 hs;cases h1;cases h2;exact⟨_,rfl,h⟩
 |ask n =>
  intro _ v h;cases h with
  |tup h hs=>obtain⟨u,w,rfl,h1,h2⟩:=drs2 hs;cases h1;cases h2;exact⟨_,rfl,h⟩
 |stop n =>
  intro _ v h;cases h with
  |tup h hs=>obtain⟨u,w,rfl,h1,h2⟩:=drs2 hs;cases h1;cases h2;exact⟨_,rfl,h⟩
 |say a ih =>
  intro p v h;cases h with
  |tup h hs=>obtain⟨u,w,rfl,h1,h2⟩:=drs2 hs;cases h1;exact⟨_,_,rfl,h,ih p h2⟩
 |bin o a b iha ihb =>
  intro p v h;cases h with
  |tup h hs =>
   cases hs with
   |cons h1 hs =>
    obtain⟨u,w,rfl,h2,h3⟩:=drs2 hs;cases h1;exact⟨_,_,_,rfl,h,iha p.1 h2,ihb p.2 h3⟩
 |ite a b c iha ihb ihc =>
  intro p v h;cases h with
  |tup h hs =>
   cases hs with
   |cons h1 hs=>cases hs with
    |cons h2 hs =>
     obtain⟨u,w,rfl,h3,h4⟩:=drs2 hs;cases h1;exact⟨_,_,_,_,rfl,h,iha p.1 h2,ihb p.2.1 h3,ihc p.2.2 h4⟩
set_option tactic.hygienic true in
theorem zNQ {H:Hp}{ts:List Tr}{v:V}(h:DR H (dtRow ts) v) (hp:RowP ts):RowR H ts v:=by
 cases h with
 |tup h hs =>
  refine⟨_,_,rfl,h,?_⟩;have al:=hp.al;clear hp h;rename_i xs
  induction ts generalizing xs with
  |nil=>cases hs;exact .nil
  |cons t ts ih =>
   cases hs with
   |cons h1 hs=>exact .cons (h1.rep (al t lO).1) (ih hs λ x hx=>al x (lP _ hx))
noncomputable def ksOf (ws:WS):List (Str × Str):=ws.filterMap λ q=>(kindF q.1).map λ k=>(q.2,k)
noncomputable def txOf (q:List Tr × Str):Str × V:=(q.2,optV (kindF q.1))
noncomputable def notN (p:Str × V):Bool:=!decide (p.2 = .non)
noncomputable def bkK (p:Str × V):Str × Str:=(p.1,match p.2 with|.str x=>x|_ => "")
theorem zMp (ws:WS):((ws.map txOf).filter notN).map bkK=ksOf ws/\∀p∈(ws.map txOf).filter notN,p.2 = .str (bkK p).2:=by
 induction ws with
 |nil=>exact⟨rfl,λ p hp=>nomatch hp⟩
 |cons q ws ih =>
  cases e:kindF q.1 with
  |none =>
   have e1:notN (txOf q)=false:=by simp[notN,txOf,e,optV]
   have e2:ksOf (q::ws)=ksOf ws:=by unfold ksOf;rw[List.filterMap_cons];simp only[e,Option.map_none]
   rw[mL,List.filter_cons,if_neg (by rw[e1];decide),e2];exact ih
  |some k =>
   have e1:notN (txOf q)=true:=by simp[notN,txOf,e,optV]
   have e2:ksOf (q::ws)=(q.2,k)::ksOf ws:=by unfold ksOf;rw[List.filterMap_cons];simp only[e,Option.map_some]
   have e3:bkK (txOf q)=(q.2,k):=by simp[bkK,txOf,e,optV]
   rw[mL,List.filter_cons,if_pos e1,e2,mL,e3,ih.1];refine⟨rfl,λ p hp=>?_⟩;rcases lN.mp hp with rfl|hp
   ·rw[e3];simp[txOf,e,optV]
   ·exact ih.2 p hp
theorem TxV.mono {H H':Hp}(k:Tk H H') {p:Str × V}{v:V}:TxV H p v->TxV H' p v
 |⟨b,e,h⟩=>⟨b,e,k _ _ h⟩
theorem zNP {H H':Hp}(k:Tk H H') {qs:List (Str × V)}{us:List V}(pq:Paired (TxV H) qs us):(∀p∈qs,p.2 = .str (bkK p).2)->Paired (RpK H') (qs.map bkK) us:=by
 induction pq with
 |nil=>intro _;exact .nil
 | @cons p v ps vs h1 _ ih =>
  intro hq;obtain⟨b,e,hb⟩:=h1;refine .cons ⟨b,e,?_⟩ (ih λ x hx=>hq x (lP _ hx));rw[hq p List.mem_cons_self] at hb;exact k _ _ hb
theorem zNA {ws:WS}(hn:WsN ws) (hw:∀q∈ws,RowP q.1) {q:List Tr × Str}(hq:q∈ws):valV (ws.map kvW) (dtRow q.1)=some (.str q.2):=by
 rcases zLX ws q.1 (hw q hq) hw with ⟨g,hg,hv⟩|⟨h,_⟩
 ·have e:g=q.2:=by
   obtain⟨i,hi,ei⟩:=List.mem_iff_getElem.mp hg.mem;obtain⟨j,hj,ej⟩:=List.mem_iff_getElem.mp hq;have:i=j:=(List.getElem_inj (xs:=ws.map (·.1)) (h₀:=by simpa using hi) (h₁:=by simpa using hj) hn.r).mp (by simp[ei,ej]);subst this;rw[ei] at ej;rw[←ej]
  rw[hv,e]
 ·exact absurd rfl (h q hq)
noncomputable def lfN:Tr->Nat
 |.say a=>lfN a
 |.bin _ a b=>lfN a+lfN b
 |.ite a b c=>lfN a+lfN b+lfN c
 |.lett _ a b=>lfN a+lfN b
 |_=>1
theorem zNq (t:Tr):1<=lfN t:=by
 induction t<;>simp only[lfN]<;>omega
theorem zK7 (t:Tr):(t.parts.map lfN).sum<=lfN t:=by
 cases t<;>simp[Tr.parts,lfN]<;>omega
noncomputable def lf0 (ts:List Tr):Nat:=(ts[0]?.map lfN).getD 0
noncomputable def lfR (lev:List (List Tr)):Nat:=(lev.map lf0).sum
theorem zKR {ts:List Tr}{t:Tr}(h:ts[0]?=some t):(rowsW ts).map lf0=t.parts.map lfN:=by
 refine List.ext_getElem (by rw[mD,mD,zBk h]) λ i h1 h2=>?_;rw[mD] at h2;cases ts with
 |nil=>cases h
 |cons x r =>
  cases h;simp only[rowsW,List.getElem_map,List.getElem_range];rw[List.filterMap_cons];have:t.parts[i]?=some t.parts[i]:=lW h2;rw[this];rfl
theorem Lv1.lf {ws ws1:WS}{lev dp:List (List Tr)}{hs:List Tr}(a:Lv1 ws lev ws1 hs dp) (hq:∀r∈lev,RowQ r):ws1.length+lfR dp<=ws.length+lfR lev:=by
 induction a with
 |nil=>exact lQ _
 | @beg ws ws1 row rest dp t hs hb ht _ ih =>
  have:=ih λ r hr=>hq r (lP _ hr);have e:((rowsW row).map lf0).sum<=lf0 row:=by rw[zKR ht];unfold lf0;rw[ht];exact zK7 t
  unfold lfR at this ⊢;rw[mP,List.sum_append,mL,List.sum_cons];omega
 | @gap ws ws1 ws2 row rest dp g hs n hg _ ih =>
  have:=ih λ r hr=>hq r (lP _ hr);have h1:=hg.len
  have h0:1<=lf0 row:=by
   have:=(hq row lO).ne;cases row with
   |nil=>simp at this
   |cons t r=>exact zNq t
  unfold lfR at this ⊢;rw[mL,List.sum_cons];omega
theorem Cs.lf {ws ws2:WS}{lev L:List (List Tr)}(a:Cs ws lev ws2 L) (hq:∀r∈lev,RowQ r) (hw:∀q∈ws,RowP q.1) (nd:WsN ws):ws2.length<=ws.length+lfR lev:=by
 induction a with
 |nil=>exact Nat.le_add_right _ _
 | @cons ws ws1 ws2 r lev dp hs L hl _ ih =>
  have o:=hl.ok hq hw nd;have:=ih o.q o.wp o.nd;have:=hl.lf hq;omega
inductive Com (ws:WS):List Tr->Tr->Prop
 |gap {row:List Tr}{g:Str}:¬Beg row->wOf ws row g->Com ws row (.gap g [])
 |beg {row:List Tr}{t:Tr}{rs:List Tr}:Beg row->row[0]?=some t->rs.length=t.parts.length->(∀(i:Nat) (rw:List Tr) (r:Tr),(rowsW row)[i]?=some rw->rs[i]?=some r->Com ws rw r)->Com ws row (t.withP rs)
def PreW (a b:WS):Prop:=∃c,b=a++c
theorem PreW.refl (a:WS):PreW a a:=⟨[],by simp⟩
theorem PreW.trans {a b c:WS}:PreW a b->PreW b c->PreW a c:=by
 rintro⟨x,rfl⟩ ⟨y,rfl⟩;exact⟨x++y,by simp⟩
theorem wOf.mono {a b:WS}{ts:List Tr}{g:Str}(h:wOf a ts g):PreW a b->wOf b ts g:=by
 rintro⟨c,rfl⟩;obtain⟨x,y,rfl,n⟩:=h;exact⟨x,y++c,by simp,n⟩
theorem Gap1.pre {ws ws':WS}{ts:List Tr}{g:Str}(h:Gap1 ws ts g ws'):PreW ws ws'/\wOf ws' ts g:=by
 cases h with
 |old h=>exact⟨.refl _,h⟩
 |new n _=>exact⟨⟨_,rfl⟩,ws,[],rfl,n⟩
theorem Com.mono {a b:WS}(p:PreW a b) {row:List Tr}{r:Tr}(h:Com a row r):Com b row r:=by
 induction h with
 |gap n w=>exact .gap n (w.mono p)
 |beg hb ht hl _ ih=>exact .beg hb ht hl ih
theorem zLf {row:List Tr}{t:Tr}(ht:row[0]?=some t) {i:Nat}(hi:i<t.parts.length):∃rw,(rowsW row)[i]?=some rw:=⟨_,lW (by rw[zBk ht];exact hi)⟩
theorem Com.uniq {ws:WS}{row:List Tr}{r r':Tr}(h:Com ws row r) (k:Com ws row r'):r=r':=by
 induction h generalizing r' with
 |gap n w =>
  cases k with
  |gap _ w'=>rw[w.uniq w']
  |beg hb _ _ _=>exact absurd hb n
 | @beg row t rs hb ht hl _ ih =>
  cases k with
  |gap n _=>exact absurd hb n
  | @beg _ t' rs' _ ht' hl' k =>
   rw[ht] at ht';cases ht'
   have:rs=rs':=by
    refine List.ext_getElem (by omega) λ i h1 h2=>?_;obtain⟨rw,e⟩:=zLf ht (by omega:i<t.parts.length);exact ih i rw _ e (lW h1) (k i rw _ e (lW h2))
   rw[this]
theorem All2.get {α β:Type}{F:α->β->Prop}{as:List α}{bs:List β}(h:All2 F as bs):∀{i:Nat}{a:α}{b:β},as[i]?=some a->bs[i]?=some b->F a b:=by
 induction h with
 |nil=>intro i a b e;simp at e
 |cons h _ ih =>
  intro i a b e e';cases i with
  |zero=>simp at e e';subst e e';exact h
  |succ i=>exact ih (by simpa using e) (by simpa using e')
theorem Lv1.pre {ws ws1:WS}{lev dp:List (List Tr)}{hs:List Tr}(a:Lv1 ws lev ws1 hs dp):PreW ws ws1:=by
 induction a with
 |nil=>exact .refl _
 |beg _ _ _ ih=>exact ih
 |gap _ hg _ ih=>exact hg.pre.1.trans ih
theorem Cs.pre {ws ws2:WS}{lev L:List (List Tr)}(a:Cs ws lev ws2 L):PreW ws ws2:=by
 induction a with
 |nil=>exact .refl _
 |cons hl _ ih=>exact hl.pre.trans ih
theorem Lv1.com {ws ws1 W:WS}{lev dp:List (List Tr)}{hs R:List Tr}(a:Lv1 ws lev ws1 hs dp) (p:PreW ws1 W) (h:All2 (Com W) dp R):All2 (Com W) lev (growL hs R):=by
 induction a generalizing R with
 |nil=>exact .nil
 | @beg ws ws1 row rest dp t hs hb ht _ ih =>
  obtain⟨R1,R2,rfl,k1,k2⟩:=h.split;have l1:R1.length=t.parts.length:=by rw[←k1.length,zBk ht]
  show All2 (Com W) (row::rest) (t.withP ((R1++R2).take t.parts.length)::growL hs ((R1++R2).drop t.parts.length));rw[←l1,List.take_left',List.drop_left']
  ·exact .cons (.beg hb ht l1 λ i rw r e e'=>k1.get e e') (ih p k2)
  ·rfl
  ·rfl
 | @gap ws ws1 ws2 row rest dp g hs n hg hl ih=>exact .cons (.gap n (hg.pre.2.mono (hl.pre.trans p))) (ih p h)
theorem Cs.com {ws ws2:WS}{lev L:List (List Tr)}(a:Cs ws lev ws2 L):All2 (Com ws2) lev (zBK L.reverse []):=by
 induction a with
 |nil=>exact .nil
 |cons hl hc ih =>
  rw[List.reverse_cons,zCV];exact hl.com hc.pre ih
theorem Lv1.nb {ws ws1:WS}{lev dp:List (List Tr)}{hs:List Tr}(a:Lv1 ws lev ws1 hs dp) (h:∀q∈ws,¬Beg q.1):∀q∈ws1,¬Beg q.1:=by
 induction a with
 |nil=>exact h
 |beg _ _ _ ih=>exact ih h
 |gap n hg _ ih =>
  refine ih λ q hq=>?_;cases hg with
  |old _=>exact h q hq
  |new _ _ =>
   rcases lK.mp hq with z|z
   ·exact h q z
   ·rw[mQ.mp z];exact n
theorem Cs.nb {ws ws2:WS}{lev L:List (List Tr)}(a:Cs ws lev ws2 L):(∀q∈ws,¬Beg q.1)->∀q∈ws2,¬Beg q.1:=by
 induction a with
 |nil=>exact λ h=>h
 |cons hl _ ih=>exact λ h=>ih (hl.nb h)
theorem Lv1.used {ws ws1:WS}{lev dp:List (List Tr)}{hs:List Tr}(a:Lv1 ws lev ws1 hs dp):∀q∈ws1,q∈ws \/ .gap q.2 []∈hs:=by
 induction a with
 |nil=>exact λ q hq=>.inl hq
 |beg _ _ _ ih=>exact λ q hq=>(ih q hq).imp id (lP _)
 |gap n hg _ ih =>
  intro q hq;rcases ih q hq with z|z
  ·cases hg with
   |old _=>exact .inl z
   |new _ _ =>
    rcases lK.mp z with z|z
    ·exact .inl z
    ·rw[mQ.mp z];exact .inr lO
  ·exact .inr (lP _ z)
theorem zCy {t:Tr}{ps:List Tr}(h:ps.length=t.parts.length):(t.withP ps).parts=ps:=by
 cases t with
 |say a=>match ps,h with | [_],_=>rfl
 |bin o a b=>match ps,h with | [_,_],_=>rfl
 |ite a b c=>match ps,h with | [_,_,_],_=>rfl
 |lett x a b=>match ps,h with | [_,_],_=>rfl
 |_=>exact(nJ.mp h).symm
theorem zHH (t:Tr):t∈t.subs:=by rw[zA6];exact lO
theorem zHI {t p x:Tr}(hp:p∈t.parts) (hx:x∈p.subs):x∈t.subs:=by
 rw[zA6];exact lP _ (mW.mpr ⟨p,hp,hx⟩)
theorem zHo:∀{hs R:List Tr},R.length=zAb hs->∀x∈R,∀y∈x.subs,∃z∈growL hs R,y∈z.subs
 |[],R,h,x,hx,_,_=>by
  have:R=[]:=nJ.mp h;subst this;cases hx
 |t::hs,R,h,x,hx,y,hy=>by
  have hn:R.length=t.parts.length+zAb hs:=by rw[h];simp[zAb]
  rw[←List.take_append_drop t.parts.length R] at hx;rcases lK.mp hx with z|z
  ·refine⟨_,lO,zHI (p:=x) ?_ hy⟩
   rw[zCy (by rw[mN];omega)];exact z
  ·obtain⟨w,hw,hy'⟩:=zHo (hs:=hs) (R:=R.drop t.parts.length) (by rw[mV];omega) x z y hy
   exact⟨w,lP _ hw,hy'⟩
theorem zHp:∀{hs R:List Tr}{g:Str},.gap g []∈hs -> .gap g []∈growL hs R
 |t::hs,R,g,h=>by
  rcases lN.mp h with rfl|h
  ·exact lO
  ·exact lP _ (zHp h)
theorem Cs.used {ws ws2:WS}{lev L:List (List Tr)}(a:Cs ws lev ws2 L) (hq:∀r∈lev,RowQ r) (hw:∀q∈ws,RowP q.1) (nd:WsN ws):∀q∈ws2,q∈ws\/∃z∈zBK L.reverse [],.gap q.2 []∈z.subs:=by
 induction a with
 |nil=>exact λ q hq=>.inl hq
 | @cons ws ws1 ws2 r lev dp hs L hl hc ih =>
  have o:=hl.ok hq hw nd;have k:=hc.ok o.q o.wp o.nd;intro q hq';rw[List.reverse_cons,zCV];show _\/∃z∈growL hs (zBK L.reverse []),_;rcases ih o.q o.wp o.nd q hq' with z|⟨z,hz,e⟩
  ·rcases hl.used q z with z|z
   ·exact .inl z
   ·exact .inr ⟨_,zHp z,zHH _⟩
  ·refine .inr (zHo ?_ z hz _ e)
   have:=k.sh.length;rw[mD] at this;rw[←this,o.np]
theorem Cln.sub {t:Tr}(h:Cln t):∀p∈t.subs,Cln p:=by
 induction t with
 |say a ih=>intro p hp;rcases lN.mp hp with rfl|hp<;>first|exact h|exact ih h p (by simpa[Tr.subs] using hp)
 |bin o a b iha ihb =>
  intro p hp;rw[zA6] at hp;simp only[Tr.parts,rF,List.flatMap_nil,nO,nL,nK] at hp;rcases hp with rfl|hp|hp
  ·exact h
  ·exact iha h.1 p hp
  ·exact ihb h.2 p hp
 |ite a b c iha ihb ihc =>
  intro p hp;rw[zA6] at hp;simp only[Tr.parts,rF,List.flatMap_nil,nO,nL,nK] at hp;rcases hp with rfl|hp|hp|hp
  ·exact h
  ·exact iha h.1 p hp
  ·exact ihb h.2.1 p hp
  ·exact ihc h.2.2 p hp
 |lett x a b=>exact h.elim
 |name x=>exact h.elim
 |_=>intro p hp;rw[zA6] at hp;simp only[Tr.parts,List.flatMap_nil,nL,mZ,or_false] at hp;subst hp;exact h
theorem Cln.gap {t:Tr}(h:Cln t) {g:Str}{as:List Atom}(hm:.gap g as∈t.subs):as=[]:=h.sub _ hm
theorem Cln.fv {t:Tr}(h:Cln t):∀bs,t.fv bs=[]:=by
 induction t with
 |say a ih=>intro bs;exact ih h bs
 |bin o a b iha ihb=>intro bs;simp only[Tr.fv,iha h.1 bs,ihb h.2 bs,nO]
 |ite a b c iha ihb ihc=>intro bs;simp only[Tr.fv,iha h.1 bs,ihb h.2.1 bs,ihc h.2.2 bs,nO]
 |lett x a b=>exact h.elim
 |name x=>exact h.elim
 |gap g as=>intro bs;cases h;simp[Tr.fv,Tr.names]
 |_=>intro bs;simp[Tr.fv,Tr.names]
theorem Cln.cnt {t:Tr}(h:Cln t):∀p∈t.subs,(cnt1 p).length<=10:=by
 intro p hp;have hc:=h.sub p hp;cases p with
 |gap g as=>cases hc;exact(by show 1<=10;decide)
 |_=>exact lY _
theorem Sx.out {d:Addr}{H H2 H':Hp}(g:Same H H2) (hd:H d=none) (k:Sx d H2 H'):Same H H':=λ b u e=>k b u (λ z=>by rw[z,hd] at e;cases e) (g b u e)
theorem wsN0:WsN []:=⟨List.nodup_nil,List.nodup_nil⟩
theorem zCD (ws:WS):((ksOf ws).map (·.1)).Sublist (ws.map (·.2)):=by
 induction ws with
 |nil=>exact List.Sublist.refl _
 |cons q ws ih =>
  unfold ksOf at ih ⊢;rw[List.filterMap_cons];cases kindF q.1 with
  |none=>exact ih.cons _
  |some k=>exact ih.cons_cons _
def PrG (ps:List (Tr × Tr)):Prop:=∀q∈ps,(Pln q.1/\dpT q.1<=7/\q.1.size<=57/\lfN q.1<=40)/\Pln q.2/\dpT q.2<=7/\q.2.size<=30/\lfN q.2<=20
theorem PrG.q1 {ps:List (Tr × Tr)}(g:PrG ps) (o:PrOk ps):RowQ (ps.map (·.1))/\sz0 (ps.map (·.1))<=57/\lfR [ps.map (·.1)]<=40:=by
 have h1:=o.1;have h2:=o.2.1;refine⟨⟨by rw[mD];omega,by rw[mD];omega,by rw[mD];omega,λ t ht=>?_⟩,?_⟩
 ·obtain⟨q,hq,rfl⟩:=mC.mp ht
  obtain⟨a,b,c,_⟩:=(g q hq).1;exact⟨a,b,by omega⟩
 ·cases ps with
  |nil=>simp at h1
  |cons q ps=>have:=(g q lO).1;exact⟨this.2.2.1,by simpa[lfR,lf0] using this.2.2.2⟩
theorem PrG.q2 {ps:List (Tr × Tr)}(g:PrG ps) (o:PrOk ps):RowQ (ps.map (·.2))/\sz0 (ps.map (·.2))<=30/\lfR [ps.map (·.2)]<=20:=by
 have h1:=o.1;have h2:=o.2.1;refine⟨⟨by rw[mD];omega,by rw[mD];omega,by rw[mD];omega,λ t ht=>?_⟩,?_⟩
 ·obtain⟨q,hq,rfl⟩:=mC.mp ht
  obtain⟨a,b,c,_⟩:=(g q hq).2;exact⟨a,b,by omega⟩
 ·cases ps with
  |nil=>simp at h1
  |cons q ps=>have:=(g q lO).2;exact⟨this.2.2.1,by simpa[lfR,lf0] using this.2.2.2⟩
structure RdW (ps:List (Tr × Tr)) (t u:Tr) (ks:List (Str × Str)) (ws:WS):Prop where
 c1:Com ws (ps.map (·.1)) t
 c2:Com ws (ps.map (·.2)) u
 kp:ks.Perm (ksOf ws)
 nd:WsN ws
 rp:∀q∈ws,RowP q.1
 nb:∀q∈ws,¬Beg q.1
 us:∀q∈ws,.gap q.2 []∈t.subs \/ .gap q.2 []∈u.subs
 ct:Cln t
 cu:Cln u
 ln:ws.length<=60
theorem zJ1 {ws ws2:WS}{ts:List Tr}{L:List (List Tr)}{r:Tr}(a:Cs ws [ts] ws2 L) (e:zBK L.reverse []=[r]):Com ws2 ts r:=by
 have:=a.com;rw[e] at this;cases this with
 |cons h _=>exact h
theorem zHF {ws ws2:WS}{ts:List Tr}{L:List (List Tr)}{r:Tr}(a:Cs ws [ts] ws2 L) (e:zBK L.reverse []=[r]) (hq:RowQ ts) (hw:∀q∈ws,RowP q.1) (nd:WsN ws):∀q∈ws2,q∈ws \/ .gap q.2 []∈r.subs:=by
 intro q hq';rcases a.used (λ r hr=>by rw[mQ.mp hr];exact hq) hw nd q hq' with z|⟨z,hz,k⟩
 ·exact .inl z
 ·rw[e] at hz
  rw[mQ.mp hz] at k;exact .inr k
noncomputable def fillT (φ:Str->Tr):Tr->Tr
 |.gap g _=>φ g
 |.say a=>.say (fillT φ a)
 |.bin o a b=>.bin o (fillT φ a) (fillT φ b)
 |.ite a b c=>.ite (fillT φ a) (fillT φ b) (fillT φ c)
 |.lett x a b=>.lett x (fillT φ a) (fillT φ b)
 |t=>t
noncomputable def gpS:Tr->List Str
 |.gap g _=>[g]
 |.say a=>gpS a
 |.bin _ a b=>gpS a++gpS b
 |.ite a b c=>gpS a++(gpS b++gpS c)
 |.lett _ a b=>gpS a++gpS b
 |_=>[]
def Shp:Tr->Prop
 |.num _=>True
 |.gap _ as=>as=[]
 |.bin _ a b=>Shp a/\Shp b
 |.ite a b c=>Shp a/\Shp b/\Shp c
 |_=>False
noncomputable def rowF (φs:List (Str->Tr)) (sh:Tr):List Tr:=φs.map λ φ=>fillT φ sh
theorem zDh {α β:Type}(f:α->β):∀(l:List α) (g:α->Option β),(∀a,g a=some (f a))->l.filterMap g=l.map f
 |[],_,_=>rfl
 |a::l,g,h=>by rw[List.filterMap_cons,h a,mL,zDh f l g h]
theorem zMD {φs:List (Str->Tr)}(hn:φs≠[]) (o:Bin) (a b:Tr):Beg (rowF φs (.bin o a b))/\∃a0 b0,(rowF φs (.bin o a b))[0]?=some (.bin o a0 b0)/\rowsW (rowF φs (.bin o a b))=[rowF φs a,rowF φs b]:=by
 cases φs with
 |nil=>exact absurd rfl hn
 |cons φ φs =>
  refine⟨⟨.bin o (fillT φ a) (fillT φ b),rfl,by cases o<;>exact(λ z=>nomatch z),λ u hu=>?_⟩,fillT φ a,fillT φ b,rfl,?_⟩
  ·obtain⟨ψ,_,rfl⟩:=mC.mp hu
   exact⟨rfl,λ z=>by cases o<;>cases z⟩
  ·show (List.range 2).map _=_
   simp only[List.range_succ,List.range_zero,nS,mL,List.map_nil,List.cons_append];unfold rowF;rw[List.filterMap_map,List.filterMap_map];exact congr (congrArg List.cons (zDh _ _ _ λ Ω=>rfl)) (congrArg (λ x=>[x]) (zDh _ _ _ λ Ω=>rfl))
theorem zMC {φs:List (Str->Tr)}(hn:φs≠[]) (a b c:Tr):Beg (rowF φs (.ite a b c))/\∃a0 b0 c0,(rowF φs (.ite a b c))[0]?=some (.ite a0 b0 c0)/\rowsW (rowF φs (.ite a b c))=[rowF φs a,rowF φs b,rowF φs c]:=by
 cases φs with
 |nil=>exact absurd rfl hn
 |cons φ φs =>
  refine⟨⟨.ite (fillT φ a) (fillT φ b) (fillT φ c),rfl,(λ z=>nomatch z),λ u hu=>?_⟩,fillT φ a,fillT φ b,fillT φ c,rfl,?_⟩
  ·obtain⟨ψ,_,rfl⟩:=mC.mp hu
   exact⟨rfl,λ z=>nomatch z⟩
  ·show (List.range 3).map _=_
   simp only[List.range_succ,List.range_zero,nS,mL,List.map_nil,List.cons_append];unfold rowF;rw[List.filterMap_map,List.filterMap_map,List.filterMap_map];exact congr (congrArg List.cons (zDh _ _ _ λ Ω=>rfl)) (congr (congrArg List.cons (zDh _ _ _ λ Ω=>rfl)) (congrArg (λ x=>[x]) (zDh _ _ _ λ Ω=>rfl)))
theorem zMB {φs:List (Str->Tr)}(hn:φs≠[]) (n:Int):Beg (rowF φs (.num n))/\(rowF φs (.num n))[0]?=some (.num n):=by
 cases φs with
 |nil=>exact absurd rfl hn
 |cons φ φs =>
  refine⟨⟨.num n,rfl,(λ z=>nomatch z),λ u hu=>?_⟩,rfl⟩
  obtain⟨ψ,_,rfl⟩:=mC.mp hu;exact⟨rfl,λ Ω=>rfl⟩
theorem zG9 {ws:WS}{φs:List (Str->Tr)}(hn:φs≠[]) {o:Bin}{a b r:Tr}(h:Com ws (rowF φs (.bin o a b)) r):∃r1 r2,r = .bin o r1 r2/\Com ws (rowF φs a) r1/\Com ws (rowF φs b) r2:=by
 obtain⟨hb,a0,b0,e0,er⟩:=zMD hn o a b;cases h with
 |gap n _=>exact absurd hb n
 | @beg _ t rs _ ht hl k =>
  rw[e0] at ht;cases ht;rw[er] at k
  match rs,hl with
  |[r1,r2],_=>exact⟨r1,r2,rfl,k 0 _ _ rfl rfl,k 1 _ _ rfl rfl⟩
theorem zJ2 {ws:WS}{φs:List (Str->Tr)}(hn:φs≠[]) {a b c r:Tr}(h:Com ws (rowF φs (.ite a b c)) r):∃r1 r2 r3,r = .ite r1 r2 r3/\Com ws (rowF φs a) r1/\Com ws (rowF φs b) r2/\Com ws (rowF φs c) r3:=by
 obtain⟨hb,a0,b0,c0,e0,er⟩:=zMC hn a b c;cases h with
 |gap n _=>exact absurd hb n
 | @beg _ t rs _ ht hl k =>
  rw[e0] at ht;cases ht;rw[er] at k
  match rs,hl with
  |[r1,r2,r3],_=>exact⟨r1,r2,r3,rfl,k 0 _ _ rfl rfl,k 1 _ _ rfl rfl,k 2 _ _ rfl rfl⟩
theorem zM4 {ws:WS}{φs:List (Str->Tr)}(hn:φs≠[]) {n:Int}{r:Tr}(h:Com ws (rowF φs (.num n)) r):r = .num n:=by
 obtain⟨hb,e0⟩:=zMB hn n;cases h with
 |gap n _=>exact absurd hb n
 | @beg _ t rs _ ht hl k =>
  rw[e0] at ht;cases ht;rfl
theorem zGk {o:Bin}{a b x:Tr}:x∈(Tr.bin o a b).subs↔x = .bin o a b\/x∈a.subs\/x∈b.subs:=by
 rw[zA6];simp[Tr.parts]
theorem zFQ {a b c x:Tr}:x∈(Tr.ite a b c).subs↔x = .ite a b c\/x∈a.subs\/x∈b.subs\/x∈c.subs:=by
 rw[zA6];simp[Tr.parts]
theorem zN7 {ws:WS}{φs:List (Str->Tr)}(hn:φs≠[]) {sh:Tr}:Shp sh->∀{r:Tr},Com ws (rowF φs sh) r->∀g∈gpS sh,∃c,Com ws (φs.map (· g)) c/\∀x∈c.subs,x∈r.subs:=by
 induction sh with
 |num n=>intro _ r _ g hg;cases hg
 |gap g as=>intro _ r h g' hg;rw[mQ.mp hg];exact⟨r,h,λ Ω z=>z⟩
 |bin o a b iha ihb =>
  intro hs r h g hg;obtain⟨r1,r2,rfl,h1,h2⟩:=zG9 hn h;rcases lK.mp hg with z|z
  ·obtain⟨c,hc,k⟩:=iha hs.1 h1 g z
   exact⟨c,hc,λ x hx=>zGk.mpr (.inr (.inl (k x hx)))⟩
  ·obtain⟨c,hc,k⟩:=ihb hs.2 h2 g z
   exact⟨c,hc,λ x hx=>zGk.mpr (.inr (.inr (k x hx)))⟩
 |ite a b c iha ihb ihc =>
  intro hs r h g hg;obtain⟨r1,r2,r3,rfl,h1,h2,h3⟩:=zJ2 hn h;rcases lK.mp hg with z|z
  ·obtain⟨c,hc,k⟩:=iha hs.1 h1 g z
   exact⟨c,hc,λ x hx=>zFQ.mpr (.inr (.inl (k x hx)))⟩
  ·rcases lK.mp z with z|z
   ·obtain⟨c,hc,k⟩:=ihb hs.2.1 h2 g z
    exact⟨c,hc,λ x hx=>zFQ.mpr (.inr (.inr (.inl (k x hx))))⟩
   ·obtain⟨c,hc,k⟩:=ihc hs.2.2 h3 g z
    exact⟨c,hc,λ x hx=>zFQ.mpr (.inr (.inr (.inr (k x hx))))⟩
 |_=>intro z;exact z.elim
theorem zM3 {ws:WS}{φs:List (Str->Tr)}(hn:φs≠[]) {sh:Tr}:Shp sh->∀{r:Tr},Com ws (rowF φs sh) r->∀x∈r.subs,(x.kd = .gap\/x.kd.loud=true)->∃g∈gpS sh,∃c,Com ws (φs.map (· g)) c/\x∈c.subs:=by
 induction sh with
 |num n =>
  intro _ r h x hx hk;rw[zM4 hn h] at hx;rw[zA6] at hx;simp[Tr.parts] at hx;subst hx;rcases hk with z|z<;>cases z
 |gap g as=>intro _ r h x hx _;exact⟨g,mQ.mpr rfl,r,h,hx⟩
 |bin o a b iha ihb =>
  intro hs r h x hx hk;obtain⟨r1,r2,rfl,h1,h2⟩:=zG9 hn h;rcases zGk.mp hx with rfl|z|z
  ·cases o<;>rcases hk with z|z<;>cases z
  ·obtain⟨g,hg,k⟩:=iha hs.1 h1 x z hk
   exact⟨g,mF _ hg,k⟩
  ·obtain⟨g,hg,k⟩:=ihb hs.2 h2 x z hk
   exact⟨g,mB _ hg,k⟩
 |ite a b c iha ihb ihc =>
  intro hs r h x hx hk;obtain⟨r1,r2,r3,rfl,h1,h2,h3⟩:=zJ2 hn h;rcases zFQ.mp hx with rfl|z|z|z
  ·rcases hk with z|z<;>cases z
  ·obtain⟨g,hg,k⟩:=iha hs.1 h1 x z hk
   exact⟨g,mF _ hg,k⟩
  ·obtain⟨g,hg,k⟩:=ihb hs.2.1 h2 x z hk
   exact⟨g,mB _ (mF _ hg),k⟩
  ·obtain⟨g,hg,k⟩:=ihc hs.2.2 h3 x z hk
   exact⟨g,mB _ (mB _ hg),k⟩
 |_=>intro z;exact z.elim
structure LwP (ps:List (Tr × Tr)) (φs:List (Str->Tr)) (L1 L2 R:Tr):Prop where
 ne:φs≠[]
 e1:ps.map (·.1)=rowF φs (.bin .add L1 L2)
 e2:ps.map (·.2)=rowF φs R
 s1:Shp L1/\Shp L2
 s2:Shp R
 gp:∀g∈gpS R,g∈gpS (.bin .add L1 L2)
theorem Cln.cnt0 {t:Tr}(h:Cln t):∀x∈gcnt t,x.2=0 /\ .gap x.1 []∈t.subs:=by
 intro x hx;obtain⟨p,hp,hc⟩:=mW.mp hx;have hc':=h.sub p hp;cases p with
 |gap g as =>
  cases hc';have:x=(g,0):=by simpa[cnt1] using hc
  subst this;exact⟨rfl,hp⟩
 |_=>cases hc
theorem zJd {t:Tr}{g:Str}(h:.gap g []∈t.subs):(g,0)∈gcnt t:=mW.mpr ⟨_,h,by simp[cnt1]⟩
theorem Cln.first {t:Tr}(h:Cln t) {g:Str}{n:Nat}(e:zAw (gcnt t) g=some n):n=0:=by
 unfold zAw at e;obtain⟨x,hx,rfl⟩:=lV.mp e;exact(h.cnt0 x (List.mem_of_find?_eq_some hx)).1
theorem Cln.lets {t:Tr}(h:Cln t):letN t=[]:=by
 unfold letN;rw[List.filterMap_eq_nil_iff];intro p hp;have hc:=h.sub p hp;cases p with
 |lett x a b=>exact hc.elim
 |_=>rfl
theorem RdW.due {ps:List (Tr × Tr)}{t u:Tr}{ks:List (Str × Str)}{ws:WS}{φs:List (Str->Tr)}{L1 L2 R:Tr}(h:RdW ps t u ks ws) (l:LwP ps φs L1 L2 R):Due t u ks zBA none:=by
 have c1:=h.c1;have c2:=h.c2;rw[l.e1] at c1;rw[l.e2] at c2;obtain⟨r1,r2,rfl,_,_⟩:=zG9 l.ne c1
 have key:∀x∈u.subs,(x.kd = .gap\/x.kd.loud=true)->x∈(Tr.bin .add r1 r2).subs:=λ x hx hk=>by
  obtain⟨g,hg,c,hc,hxc⟩:=zM3 l.ne l.s2 c2 x hx hk;obtain⟨c',hc',k⟩:=zN7 l.ne (sh:=.bin .add L1 L2) l.s1 c1 g (l.gp g hg);rw[hc'.uniq hc] at k;exact k x hxc
 have kg:∀g,.gap g []∈u.subs -> .gap g []∈(Tr.bin .add r1 r2).subs:=λ g hg=>key _ hg (.inl rfl);refine .no (λ z=>nomatch z) (.no ?_ (.no ?_ (.no ?_ (.no ?_ (.no ?_ (.no ?_ .nil))))))
 ·rintro (z|z)
  ·exact z (by rw[h.ct.lets];exact List.nodup_nil)
  ·exact z (by rw[h.cu.lets];exact List.nodup_nil)
 ·rintro (z|z)
  ·exact z (h.ct.fv [])
  ·exact z (h.cu.fv [])
 ·rintro (⟨x,hx,g,as,rfl,z⟩|⟨x,hx,n,e,z⟩|⟨g,hg,g',as,rfl,a,ha,_⟩)
  ·have:=h.ct.gap hx
   subst this;rcases z with ⟨a,ha,_⟩|z
   ·cases ha
   ·exact z List.nodup_nil
  ·have h0:x.2=0:=by
    rcases lK.mp hx with y|y
    ·exact(h.ct.cnt0 x y).1
    ·exact(h.cu.cnt0 x y).1
   exact z (by rw[h.ct.first e,h0])
  ·have:=h.cu.gap (List.mem_filter.mp hg).1
   subst this;cases ha
 ·rintro⟨g,hg,z⟩
  obtain⟨x,hx,rfl⟩:=mC.mp hg;exact z (mC.mpr ⟨_,zJd (kg _ (h.cu.cnt0 x hx).2),rfl⟩)
 ·rintro⟨k,hk,z⟩
  have hk':k.1∈(ksOf ws).map (·.1):=mC.mpr ⟨k,h.kp.mem_iff.mp hk,rfl⟩;obtain⟨q,hq,eq⟩:=mC.mp ((zCD ws).subset hk')
  have hin : .gap k.1 []∈(Tr.bin .add r1 r2).subs:=by
   rw[←eq];exact(h.us q hq).elim id (kg _)
  rcases z with z|⟨_,n,e,n0⟩
  ·have:=zDi.mpr (mC.mpr ⟨_,zJd hin,rfl⟩)
   rw[z] at this;cases this
  ·have:=h.ct.first e
   omega
 ·rintro⟨⟨x,hx,e⟩,z⟩
  exact z ⟨x,key x hx (.inr e),e⟩
theorem zGu {n d:Nat}{v:Int}(h0:0<=v) (h1:v<=n):HT.sIx n d (some v)=v.toNat:=by
 have e:((v.toNat:Nat):Int)=v:=by omega
 rw[←e,HT.sIx_nat,Int.toNat_natCast];omega
theorem zJy {ns:List Int}{lo hi:Option Int}{i j:Nat}(h1:HT.sIx ns.length 0 lo=i) (h2:HT.sIx ns.length ns.length hi=j) (h:j<=ns.length):∃ms:List Int,cutV (ns.map V.int) lo hi=ms.map V.int/\ms.length=j - i:=by
 refine⟨(ns.drop i).take (j - i),?_,?_⟩
 ·unfold cutV
  rw[mD,h1,h2,←List.map_drop,←List.map_take]
 ·rw[mN,mV]
  omega
theorem zGc {α:Type}{xs:List α}{i:Int}(h0:0<=i) (h1:i<(xs.length:Int)):∃x∈xs,atI xs i=some x:=by
 obtain⟨k,rfl⟩:=Int.eq_ofNat_of_zero_le h0;have hk:k<xs.length:=by omega
 exact⟨xs[k],List.getElem_mem hk,zAQ (lW hk)⟩
noncomputable def FB:Nat->Nat->Nat
 |0,_=>0
 |d+1,n=>if n<=1 then 0 else ((List.range n).map λ a=>FB d a+FB d (n - 1 - a)+1).foldr max 0
theorem zHn:∀{l:List Nat}{x:Nat},x∈l->x<=l.foldr max 0
 |a::l,x,h=>by
  rw[List.foldr_cons];rcases lN.mp h with rfl|h
  ·omega
  ·have:=zHn h
   omega
theorem zM9 {d n a:Nat}(hn:1<n) (ha:a<n):FB d a+FB d (n - 1 - a)+1<=FB (d+1) n:=by
 rw[FB,if_neg (by omega)];exact zHn (mC.mpr ⟨a,List.mem_range.mpr ha,rfl⟩)
noncomputable def fsN:Tr->Nat
 |.gap _ _=>4
 |.bin _ a b=>fsN a+fsN b+1
 |.ite a b c=>fsN a+fsN b+fsN c+1
 |_=>1
noncomputable def flN:Tr->Nat
 |.gap _ _=>3
 |.bin _ a b=>flN a+flN b
 |.ite a b c=>flN a+flN b+flN c
 |_=>1
structure ShB (sh:Tr) (marks:List Str) (n:Nat) (d:Int):Prop where
 hs:Shp sh
 gp:∀g∈gpS sh,g∈marks
 dp:(dpT sh:Int)<=d+1
 fs:fsN sh<=6 * FB d.toNat n+4
 fl:flN sh<=4 * FB d.toNat n+3
structure PcT (t:Tr):Prop where
 pl:Pln t
 dp:dpT t<=2
 sz:t.size<=4
 lf:lfN t<=3
theorem zJh {φ:Str->Tr}{sh:Tr}(hs:Shp sh) (h:∀g∈gpS sh,PcT (φ g)):Pln (fillT φ sh)/\dpT (fillT φ sh)<=dpT sh+1/\(fillT φ sh).size<=fsN sh/\lfN (fillT φ sh)<=flN sh:=by
 induction sh with
 |num n=>exact⟨True.intro,by simp[fillT,dpT],by simp[fillT,fsN,Tr.size],by simp[fillT,flN,lfN]⟩
 |gap g as =>
  obtain⟨a,b,c,d⟩:=h g (mQ.mpr rfl);exact⟨a,b,c,d⟩
 |bin o a b iha ihb =>
  obtain⟨a1,a2,a3,a4⟩:=iha hs.1 λ g hg=>h g (mF _ hg);obtain⟨b1,b2,b3,b4⟩:=ihb hs.2 λ g hg=>h g (mB _ hg);exact⟨⟨a1,b1⟩,by simp only[fillT,dpT];omega,by simp only[fillT,fsN,Tr.size];omega,by simp only[fillT,flN,lfN];omega⟩
 |ite a b c iha ihb ihc =>
  obtain⟨a1,a2,a3,a4⟩:=iha hs.1 λ g hg=>h g (mF _ hg);obtain⟨b1,b2,b3,b4⟩:=ihb hs.2.1 λ g hg=>h g (mB _ (mF _ hg));obtain⟨c1,c2,c3,c4⟩:=ihc hs.2.2 λ g hg=>h g (mB _ (mB _ hg));exact⟨⟨a1,b1,c1⟩,by simp only[fillT,dpT];omega,by simp only[fillT,fsN,Tr.size];omega,by simp only[fillT,flN,lfN];omega⟩
 |_=>exact hs.elim
theorem sign4 {z:Int}(z0:0<=z) (z4:z<4):∃o:Bin,atI [V.str "add", V.str "sub", V.str "mul", V.str "then"] z=some (.str o.s):=by
 rcases (show z=0\/z=1\/z=2\/z=3 by omega) with rfl|rfl|rfl|rfl
 ·exact⟨.add,rfl⟩
 ·exact⟨.sub,rfl⟩
 ·exact⟨.mul,rfl⟩
 ·exact⟨.thn,rfl⟩
theorem zG4 {c:Int}{n:Nat}(hn:1<=n):∃j:Nat,c % (n:Int)=(j:Int)/\j<n:=by
 have h0:=Int.emod_nonneg c (show (n:Int)≠0 by omega);have h1:=Int.emod_lt_of_pos c (show (0:Int)<(n:Int) by omega);exact⟨(c % (n:Int)).toNat,by omega,by omega⟩
theorem zEG {xs:List Str}{j:Nat}(h:j<xs.length):atI (xs.map V.str) (j:Int)=some (.str xs[j]):=zAQ (by rw[mJ,nM h];rfl)
theorem Rep.tpl {H:Hp}{t:Tr}{v:V}(h:Rep H t v) (hg:¬t.kd = .gap) (hl:¬t.kd = .lett):∃a ys,v = .ref a/\H a=some (.tup (.str t.sign::ys))/\((t.parts=[]/\∃y,ys=[y]/\((∃i,y = .int i)\/∃x,y = .str x))\/Paired (Rep H) t.parts ys/\ys≠[]/\¬t.kd.leaf=true):=by
 cases t with
 |gap g as=>exact absurd rfl hg
 |lett x a b=>exact absurd rfl hl
 |num n=>obtain⟨a,e,h⟩:=h;exact⟨a,_,e,h,.inl ⟨rfl,_,rfl,.inl ⟨_,rfl⟩⟩⟩
 |name n=>obtain⟨a,e,h⟩:=h;exact⟨a,_,e,h,.inl ⟨rfl,_,rfl,.inr ⟨_,rfl⟩⟩⟩
 |ask n=>obtain⟨a,e,h⟩:=h;exact⟨a,_,e,h,.inl ⟨rfl,_,rfl,.inr ⟨_,rfl⟩⟩⟩
 |stop n=>obtain⟨a,e,h⟩:=h;exact⟨a,_,e,h,.inl ⟨rfl,_,rfl,.inr ⟨_,rfl⟩⟩⟩
 |say t =>
  obtain⟨a,u,e,h,r⟩:=h;exact⟨a,_,e,h,.inr ⟨.cons r .nil,(λ z=>nomatch z),(λ z=>nomatch z)⟩⟩
 |bin o t t2 =>
  obtain⟨a,u,w,e,h,r,r2⟩:=h;have es:(Tr.bin o t t2).sign=o.s:=Bin.kd_s o;exact⟨a,_,e,(by rw[es];exact h),.inr ⟨.cons r (.cons r2 .nil),(λ z=>nomatch z),by cases o<;>exact(λ z=>nomatch z)⟩⟩
 |ite t t2 t3 =>
  obtain⟨a,u,w,z,e,h,r,r2,r3⟩:=h;exact⟨a,_,e,h,.inr ⟨.cons r (.cons r2 (.cons r3 .nil)),(λ z=>nomatch z),(λ z=>nomatch z)⟩⟩
theorem zEq (x:V) (ys:List V):cutV (x::ys) (some 1) none=ys:=by
 unfold cutV
 have e:HT.sIx (x::ys).length 0 (some 1)=1:=by
  show HT.sIx _ _ (some ((1:Nat):Int))=1;rw[HT.sIx_nat];simp
 rw[e,HT.sIx_none];simp
theorem zCj (x:V) (ys:List V):¬(HT.sIx (x::ys).length 0 (some 1)=0/\HT.sIx (x::ys).length (x::ys).length none=(x::ys).length):=by
 rintro⟨z,_⟩
 have e:HT.sIx (x::ys).length 0 (some 1)=1:=by
  show HT.sIx _ _ (some ((1:Nat):Int))=1;rw[HT.sIx_nat];simp
 rw[e] at z;cases z
theorem zEn {t:Tr}(h:¬t.kd = .gap):gpS t=t.parts.flatMap gpS:=by
 cases t with
 |gap g as=>exact absurd rfl h
 |_=>simp[gpS,Tr.parts]
theorem zJb (t:Tr):(gpS t).length<=t.size:=by
 induction t<;>simp only[gpS,Tr.size,mK,List.length_nil,List.length_singleton]<;>omega
theorem Shp.nl {t:Tr}(h:Shp t):¬t.kd = .lett:=by
 cases t with
 |lett x a b=>exact h.elim
 |bin o a b=>cases o<;>exact λ z=>nomatch z
 |_=>exact λ z=>nomatch z
theorem Shp.part {t p:Tr}(h:Shp t) (hp:p∈t.parts):Shp p:=by
 cases t with
 |bin o a b=>simp[Tr.parts] at hp;rcases hp with rfl|rfl<;>first|exact h.1|exact h.2
 |ite a b c=>simp[Tr.parts] at hp;rcases hp with rfl|rfl|rfl<;>first|exact h.1|exact h.2.1|exact h.2.2
 |say a=>exact h.elim
 |lett x a b=>exact h.elim
 |_=>cases hp
theorem zFp (t:Tr):1<=dpT t:=by cases t<;>simp[dpT]
structure LfT (t:Tr):Prop where
 pl:Pln t
 dp:dpT t=1
 sz:t.size=1
 lf:lfN t=1
theorem LfT.pc {t:Tr}(h:LfT t):PcT t:=⟨h.pl,by rw[h.dp];decide,by rw[h.sz];decide,by rw[h.lf];decide⟩
theorem zKS {H H':Hp}{φ:Str->Tr}{sh:Tr}(hs:Shp sh) (hg:¬sh.kd = .gap) {p:Addr}{ys zs:List V}{a:Addr}(ha:H a=some (.tup (.str sh.sign::ys))) (hR:Rep H sh (.ref a)) (hp:H' p=some (.tup (.str sh.sign::zs))) (hz:(sh.parts=[]/\zs=ys)\/(sh.parts≠[]/\Paired (Rep H') (sh.parts.map (fillT φ)) zs)):Rep H' (fillT φ sh) (.ref p):=by
 cases sh with
 |gap g as=>exact absurd rfl hg
 |num n =>
  rcases hz with ⟨_,rfl⟩|⟨z,_⟩
  ·obtain⟨a',e,h⟩:=hR
   cases e;rw[ha] at h;cases h;exact⟨p,rfl,hp⟩
  ·exact absurd rfl z
 |bin o a b =>
  rcases hz with ⟨z,_⟩|⟨_,q⟩
  ·cases z
  ·have es:(Tr.bin o a b).sign=o.s:=Bin.kd_s o
   rw[es] at hp;cases q with|cons r1 q=>cases q with|cons r2 q=>cases q;exact⟨p,_,_,rfl,hp,r1,r2⟩
 |ite a b c =>
  rcases hz with ⟨z,_⟩|⟨_,q⟩
  ·cases z
  ·cases q with|cons r1 q=>cases q with|cons r2 q=>cases q with|cons r3 q=>cases q;exact⟨p,_,_,_,rfl,hp,r1,r2,r3⟩
 |_=>exact hs.elim
theorem zDf {t:Tr}:loudT t↔t.kd.loud=true\/∃p∈t.parts,loudT p:=by
 unfold loudT;constructor
 ·rintro⟨x,hx,e⟩
  rw[zA6] at hx;rcases lN.mp hx with rfl|hx
  ·exact .inl e
  ·obtain⟨p,hp,hx⟩:=mW.mp hx
   exact .inr ⟨p,hp,x,hx,e⟩
 ·rintro (e|⟨p,hp,x,hx,e⟩)
  ·exact⟨t,zHH t,e⟩
  ·exact⟨x,zHI hp hx,e⟩
noncomputable def hdD:Tr->List Dt
 |.num n=>[.str "num", .int n]
 |.name x=>[.str "name", .str x]
 |.ask x=>[.str "ask", .str x]
 |.stop x=>[.str "stop", .str x]
 |t=>[.str t.kd.s]
theorem zJZ (t:Tr):∃l,hdD t = .str t.kd.s::l:=by
 cases t<;>exact⟨_,rfl⟩
theorem zN0 {t u:Tr}(ht:Pln t) (hu:Pln u):hdD t=hdD u↔Hal t u:=by
 constructor
 ·intro h
  have k:t.kd=u.kd:=by
   obtain⟨l,e⟩:=zJZ t;obtain⟨l',e'⟩:=zJZ u;rw[e,e'] at h;exact Kd.inj (Dt.str.inj (List.cons.inj h).1)
  refine⟨k,λ hl=>?_⟩;cases t with
  |num n=>cases u with
   |num m=>cases h;rfl
   |bin o a b=>cases o<;>cases k
   |_=>cases k
  |name n=>cases u with
   |name m=>cases h;rfl
   |bin o a b=>cases o<;>cases k
   |_=>cases k
  |ask n=>cases u with
   |ask m=>cases h;rfl
   |bin o a b=>cases o<;>cases k
   |_=>cases k
  |stop n=>cases u with
   |stop m=>cases h;rfl
   |bin o a b=>cases o<;>cases k
   |_=>cases k
  |gap g as=>exact ht.elim
  |bin o a b=>cases o<;>cases hl
  |_=>cases hl
 ·rintro⟨k,h⟩
  by_cases hl:t.kd.leaf=true
  ·rw[h hl]
  ·have e1:hdD t=[.str t.kd.s]:=by cases t<;>first|rfl|exact absurd rfl hl
   have hl':¬u.kd.leaf=true:=by rw[←k];exact hl
   have e2:hdD u=[.str u.kd.s]:=by cases u<;>first|rfl|exact absurd rfl hl'
   rw[e1,e2,k]
theorem Hal.symm {t u:Tr}(h:Hal t u):Hal u t:=⟨h.1.symm,λ z=>(h.2 (by rw[h.1];exact z)).symm⟩
theorem zFh {ts:List Tr}(h:∀t∈ts,t.kd = .num):kindF ts=some "number" := by unfold kindF;exact if_pos h
theorem zDg {ts:List Tr}(n:¬∀t∈ts,t.kd = .num) (h:∀t∈ts,¬loudT t):kindF ts=some "quiet" := by unfold kindF;rw[if_neg n];exact if_pos h
theorem zEg {ts:List Tr}(n:¬∀t∈ts,t.kd = .num) (h:¬∀t∈ts,¬loudT t):kindF ts=none:=by unfold kindF;rw[if_neg n];exact if_neg h
theorem zMt (t:Tr):(Dt.tup (hdD t)).deep<=150:=by cases t<;>simp[hdD,Dt.deep,Dt.deeps]
structure FD (H:Hp) (i:Nat) (ws:WS) (kvs:List (Key × V)):Prop where
 nd:(kvs.map (·.1)).Nodup
 al:∀kv∈kvs,∃q∈ws,kv.1=(Sum.inr q.2:Key)/\∃t,q.1[i]?=some t/\Rep H t kv.2
theorem FD.mono {H H':Hp}(k:Tk H H') {i:Nat}{ws:WS}{kvs:List (Key × V)}(h:FD H i ws kvs):FD H' i ws kvs:=⟨h.nd,λ kv hk=>let ⟨q,hq,e,t,et,r⟩:=h.al kv hk;⟨q,hq,e,t,et,r.mono k⟩⟩
theorem zJH {α:Type}:∀{a b:List α},a.Nodup->(∀x∈a,x∈b)->a.length<=b.length:=by
 intro a
 induction a with
 |nil=>intro b _ _;exact lY _
 |cons x a ih =>
  intro b hn hs;obtain⟨b1,b2,rfl⟩:=List.append_of_mem (hs x lO)
  have:=ih (b:=b1++b2) (rC.mp hn).2 λ y hy=>by
   have:=hs y (lP _ hy);simp only[nK,nL] at this ⊢;rcases this with z|rfl|z
   ·exact .inl z
   ·exact absurd hy (rC.mp hn).1
   ·exact .inr z
  simp only[mK,mM] at this ⊢;omega
theorem FD.len {H:Hp}{i:Nat}{ws:WS}{kvs:List (Key × V)}(h:FD H i ws kvs):kvs.length<=ws.length:=by
 have:=zJH (b:=ws.map λ q=>(Sum.inr q.2:Key)) h.nd λ x hx=>by
  obtain⟨kv,hk,rfl⟩:=mC.mp hx;obtain⟨q,hq,e,_⟩:=h.al kv hk;rw[e];exact mC.mpr ⟨q,hq,rfl⟩
 rw[mD,mD] at this;exact this
theorem zFM {ws:WS}(hn:WsN ws) {p q:List Tr × Str}(hp:p∈ws) (hq:q∈ws) (e:p.2=q.2):p=q:=by
 obtain⟨i,hi,ei⟩:=List.mem_iff_getElem.mp hp;obtain⟨j,hj,ej⟩:=List.mem_iff_getElem.mp hq;have:i=j:=(List.getElem_inj (xs:=ws.map (·.2)) (h₀:=by simpa using hi) (h₁:=by simpa using hj) hn.w).mp (by simp[ei,ej,e]);subst this;rw[←ei,←ej]
theorem zGh {kvs:List (Key × V)}{k:Key}{v:V}(h:valV kvs k=some v):(k,v)∈kvs:=by
 unfold valV at h;obtain⟨x,hx,rfl⟩:=lV.mp h;have:=List.find?_some hx;have e:x.1=k:=lT this;rw[←e];exact List.mem_of_find?_eq_some hx
theorem zD5 {kvs:List (Key × V)}{k:Key}(h:valV kvs k=none):∀p∈kvs,p.1≠k:=by
 unfold valV at h;rw[Option.map_eq_none_iff,List.find?_eq_none] at h;intro p hp e;exact h p hp (lU e)
theorem zKW {kvs:List (Key × V)}{k:Key}{v:V}(h:valV kvs k=none):putK kvs k v=kvs++[(k,v)]:=by
 have:(kvs.any λ kv=>decide (kv.1=k))=false:=by
  rw[List.any_eq_false];intro p hp;simpa using zD5 h p hp
 unfold putK;rw[this];rfl
theorem FD.put {H:Hp}{i:Nat}{ws:WS}{kvs:List (Key × V)}(h:FD H i ws kvs) {row:List Tr}{g:Str}{u:Tr}{v:V}(hv:valV kvs (Sum.inr g:Key)=none) (hq:(row,g)∈ws) (hu:row[i]?=some u) (ru:Rep H u v):FD H i ws (kvs++[((Sum.inr g:Key),v)]):=by
 refine⟨?_,λ kv hk=>?_⟩
 ·rw[mP]
  refine zDe h.nd λ z=>?_;obtain⟨p,hp,e⟩:=mC.mp z;exact zD5 hv p hp e
 ·rcases lK.mp hk with z|z
  ·exact h.al kv z
  ·rw[mQ.mp z]
   exact⟨(row,g),hq,rfl,u,hu,ru⟩
theorem Sx.tkd {d:Addr}{H H':Hp}{kvs:List (Key × V)}(g:Sx d H H') (h:H d=some (.dK kvs)):Tk H H':=λ b xs e=>g b _ (λ z=>by rw[z,h] at e;cases e) e
def HasG (kvs:List (Key × V)) (g:Str):Prop:=∃p∈kvs,p.1=(Sum.inr g:Key)
theorem zHD {t:Tr}{rs:List Tr}(h:rs.length=t.parts.length):(t.withP rs).kd=t.kd:=by
 cases t with
 |say a=>match rs,h with | [_],_=>rfl
 |bin o a b=>match rs,h with | [_,_],_=>rfl
 |ite a b c=>match rs,h with | [_,_,_],_=>rfl
 |lett x a b=>match rs,h with | [_,_],_=>rfl
 |_=>rfl
theorem zJf {ts:List Tr}{j:Nat}(h:∀t∈ts,j<t.parts.length):∀{i:Nat}{u:Tr},ts[i]?=some u->(ts.filterMap λ t=>t.parts[j]?)[i]?=u.parts[j]?:=by
 induction ts with
 |nil=>intro i u e;simp at e
 |cons t ts ih =>
  intro i u e;have h0:=h t lO;rw[List.filterMap_cons,nM h0];cases i with
  |zero=>simp at e;subst e;simp[h0]
  |succ i=>simpa using ih (λ x hx=>h x (lP _ hx)) (by simpa using e)
theorem zIr {row:List Tr}(b:Beg row) {t u:Tr}(ht:row[0]?=some t) {i j:Nat}(hu:row[i]?=some u) (hj:j<t.parts.length):∃rw x,(rowsW row)[j]?=some rw/\u.parts[j]?=some x/\rw[i]?=some x:=by
 obtain⟨t0,e0,_,hal⟩:=b;rw[ht] at e0;cases e0;have hju:j<u.parts.length:=by rw[zCE (hal u (List.mem_of_getElem? hu))];exact hj
 refine⟨row.filterMap λ t=>t.parts[j]?,u.parts[j],?_,lW hju,?_⟩
 ·unfold rowsW
  rw[ht,mJ,List.getElem?_range (by simpa using hj)];rfl
 ·rw[zJf (λ x hx=>by rw[zCE (hal x hx)];exact hj) hu]
  exact lW hju
theorem zJO {H:Hp}{t:Tr}{a b:Addr}{y z:V}(hp:Pln t) (h1:Rep H t (.ref a)) (h2:Rep H t (.ref b)) (e1:H a=some (.tup [.str t.sign,y])) (e2:H b=some (.tup [.str t.sign,z])) (hl:t.kd.leaf=true):y=z:=by
 cases t with
 |num n=>obtain⟨_,x,h⟩:=h1;cases x;rw[e1] at h;cases h;obtain⟨_,x,h⟩:=h2;cases x;rw[e2] at h;cases h;rfl
 |name n=>obtain⟨_,x,h⟩:=h1;cases x;rw[e1] at h;cases h;obtain⟨_,x,h⟩:=h2;cases x;rw[e2] at h;cases h;rfl
 |ask n=>obtain⟨_,x,h⟩:=h1;cases x;rw[e1] at h;cases h;obtain⟨_,x,h⟩:=h2;cases x;rw[e2] at h;cases h;rfl
 |stop n=>obtain⟨_,x,h⟩:=h1;cases x;rw[e1] at h;cases h;obtain⟨_,x,h⟩:=h2;cases x;rw[e2] at h;cases h;rfl
 |gap g as=>exact hp.elim
 |bin o a b=>cases o<;>cases hl
 |_=>cases hl
theorem zM0 (t:Tr):∃ds,dtT t = .tup ds:=let ⟨l,e⟩:=zEo t;⟨_,e⟩
section
variable {X:Cx}
theorem zJp {H:Hp}{ds:List Dt}{vs:List V}(h:DRs H ds vs):∀(j:Nat) (h1:j<ds.length) (h2:j<vs.length),DR H ds[j] vs[j]:=by
 induction vs generalizing ds with
 |nil=>intro j _ h2;simp at h2
 |cons v vs ih =>
  cases h with
  |cons h t =>
   intro j h1 h2;cases j with
   |zero=>exact h
   |succ j=>exact ih t j (by simpa using h1) (by simpa using h2)
theorem zGR:∀{ds:List Dt}{n:Nat},Dt.deeps ds<=n->∀(j:Nat) (h:j<ds.length),(ds[j]).deep<=n
 |d::ds,n,h,0,_=>by simp only[Dt.deeps] at h;simp;omega
 |d::ds,n,h,j+1,hj=>by
  simp only[Dt.deeps] at h;simpa using zGR (ds:=ds) (n:=n) (by omega) j (by simpa using hj)
def rInLL:R2:=λ x y H Q=>∃(p r:Addr) (xs ls:List V) (ds:List Dt),x = .ref p/\H p=some (.lst xs)/\DRs H ds xs/\y = .ref r/\H r=some (.lst ls)/\(∀v∈ls,∃(a:Addr) (ys:List V) (es:List Dt),v = .ref a/\H a=some (.lst ys)/\DRs H es ys/\es≠ds/\es.length=ds.length/\Dt.deeps es<=100)/\Q (.bl false) H
theorem zMV (hu:X.A.units+150<cLine):OpR X (compareOp .In) rInLL:=by
 intro jP s σ H x y v u Q I rx ry h;obtain⟨p,r,xs,ls,ds,rfl,hp,hd,rfl,hr,hl,q⟩:=h;cases rx;cases ry;obtain⟨_,its,n,rv,l1,e1⟩:=I.lstM hr;obtain⟨_,its2,n2,rv2,l2,e2⟩:=I.lstM hp;have L1:s.heap.IsList r its.toArray:=⟨_,e1,rfl,_,rfl⟩;have L2:s.heap.IsList p its2.toArray:=⟨_,e2,rfl,_,rfl⟩
 have key:∀(A:Around),A.units+110<cLine->∀w∈its,SeqAt.EqAt A s w (.ref p) false:=by
  intro A hA w hw
  obtain⟨v,hv,rvw⟩:∃v∈ls,RelV v w:=by
   have:∀{vs:List V}{us:List Value},Vals vs us->∀w∈us,∃v∈vs,RelV v w:=by
    intro vs us h
    induction h with
    |nil=>intro w hw;cases hw
    |cons r _ ih =>
     intro w hw;rcases lN.mp hw with rfl|hw
     ·exact⟨_,lO,r⟩
     ·obtain⟨v,hv,r'⟩:=ih w hw
      exact⟨v,lP _ hv,r'⟩
   exact this rv w hw
  obtain⟨a,ys,es,rfl,ha,he,hne,hlen,hdp⟩:=hl v hv;cases rvw;obtain⟨_,its3,n3,rv3,l3,e3⟩:=I.lstM ha;have L3:s.heap.IsList a its3.toArray:=⟨_,e3,rfl,_,rfl⟩
  have nap:a≠p:=λ z=>by
   subst z;rw[ha] at hp;cases hp;exact hne (DRs.inj he hd)
  have k1:=rv3.length;have k2:=rv2.length;have k3:=he.length;have k4:=hd.length
  have key:=SeqAt.RcAt.lists (A:=A) (s:=s) (e:=λ j=>match es[j]?,ds[j]? with|some d,some e=>Dt.beq d e|_,_=>false) L3 L2 (by simp;omega) (by omega) λ j h1 h2=>by
   have g1:j<ys.length:=by rw[k1];simpa using h1
   have g2:j<xs.length:=by rw[k2];simpa using h2
   obtain⟨u1,eu,q1⟩:=rv3.get (lW g1);obtain⟨u2,ev,q2⟩:=rv2.get (lW g2);have z1:its3.toArray[j]=u1:=by obtain⟨_,q⟩:=lJ.mp eu;simpa using q
   have z2:its2.toArray[j]=u2:=by obtain⟨_,q⟩:=lJ.mp ev;simpa using q
   have j1:j<es.length:=by omega
   have j2:j<ds.length:=by omega
   rw[z1,z2];rw[nM j1,nM j2];exact zJm I 100 A.in1 (zGR hdp j j1) (zJp he j j1 g1) (zJp hd j j2 g2) q1 q2 (by show A.units+1+100<cLine;omega)
  have ez:((List.range its3.toArray.size).all λ j=>match es[j]?,ds[j]? with|some d,some e=>Dt.beq d e|_,_=>false)=false:=by
   cases hq:((List.range its3.toArray.size).all λ j=>match es[j]?,ds[j]? with|some d,some e=>Dt.beq d e|_,_=>false) with
   |false=>rfl
   |true =>
    refine absurd (List.ext_getElem hlen λ j h1 h2=>?_) hne;have:=List.all_eq_true.mp hq j (List.mem_range.mpr (by simp;omega));rw[nM h1,nM h2] at this;exact Dt.beq_iff.mp this
  rw[ez] at key;exact SeqAt.EqAt.of_refs nap key
 refine SeqAt.in_listAt (λ Ω=>false) L1 (λ w hw=>key _ (by first|(show X.A.in1.units+110<cLine;rw[show X.A.in1.units=X.A.units+1 from rfl];omega)|(show X.A.in1.in1.units+110<cLine;rw[show X.A.in1.in1.units=X.A.units+2 from rfl];omega)|omega) w (by simpa using hw)) ⟨.bl _,H,I,rfl,?_⟩;have:(its.toArray.any λ Ω=>false)=false:=by simp
 rw[this];exact q
end
theorem zHs {ws:WS}{Pr:List Tr->Prop}(inh:∀row,Beg row->Pr row->∀rw∈rowsW row,Pr rw) (hpl:∀row,Pr row->∀t∈row,Pln t) {row:List Tr}{r:Tr}(h:Com ws row r):Pr row->∀g,.gap g []∈r.subs->∃ρ,wOf ws ρ g/\Pr ρ:=by
 induction h with
 |gap n w =>
  intro hp g hg;rw[zA6] at hg;simp only[Tr.parts,List.flatMap_nil,nL,mZ,or_false] at hg;cases hg;exact⟨_,w,hp⟩
 | @beg row t rs hb ht hl _ ih =>
  intro hp g hg;rw[zA6,zCy hl] at hg;rcases lN.mp hg with z|z
  ·have:=congrArg Tr.kd z
   rw[zHD hl] at this;exact absurd this.symm (hpl row hp t (lM ht)).ng
  ·obtain⟨x,hx,hg2⟩:=mW.mp z
   obtain⟨i,hi⟩:=List.getElem?_of_mem hx;obtain⟨rw,e⟩:=zLf ht (by rw[←hl];exact(lJ.mp hi).1);exact ih i rw x e hi (inh row hb hp rw (lM e)) g hg2
structure PrRow (qs:List (Tr × Tr)) (row:List Tr):Prop where
 ln:row.length=qs.length
 pl:∀t∈row,Pln t/\dpT t<=7
 sm:∀i j:Nat,qs[i]?=qs[j]?->row[i]?=row[j]?
theorem PrRow.inh {qs:List (Tr × Tr)}(row:List Tr) (hb:Beg row) (h:PrRow qs row):∀rw∈rowsW row,PrRow qs rw:=by
 obtain⟨t0,e0,_,hal⟩:=hb;intro rw hrw;unfold rowsW at hrw;rw[e0] at hrw;obtain⟨k,hk,rfl⟩:=mC.mp hrw;have hk:k<t0.parts.length:=List.mem_range.mp hk;have hal':∀t∈row,k<t.parts.length:=λ t ht=>by rw[zCE (hal t ht)];exact hk
 have hl:=zLu hal';refine⟨by rw[hl];exact h.ln,λ d hd=>?_,λ i j e=>?_⟩
 ·obtain⟨t,ht,e⟩:=List.mem_filterMap.mp hd
  have hm:=lM e;have:=zDk hm;have h7:=(h.pl t ht).2;exact⟨(h.pl t ht).1.part hm,by omega⟩
 ·have:=h.sm i j e
  cases hi:row[i]? with
  |some u =>
   rw[hi] at this;rw[zJf hal' hi,zJf hal' this.symm]
  |none =>
   rw[hi] at this;have i1:=List.getElem?_eq_none_iff.mp hi;have j1:=List.getElem?_eq_none_iff.mp this.symm;rw[List.getElem?_eq_none (by rw[hl];exact i1),List.getElem?_eq_none (by rw[hl];exact j1)]
theorem RdW.rows {ps:List (Tr × Tr)}{t u:Tr}{ks:List (Str × Str)}{ws:WS}(h:RdW ps t u ks ws) (hp:∀q∈ps,(Pln q.1/\dpT q.1<=7)/\Pln q.2/\dpT q.2<=7):∀q∈ws,PrRow ps q.1:=by
 have p1:PrRow ps (ps.map (·.1)):=⟨mD _,λ t ht=>by obtain⟨q,hq,rfl⟩:=mC.mp ht;exact(hp q hq).1,λ i j e=>by rw[mJ,mJ,e]⟩;have p2:PrRow ps (ps.map (·.2)):=⟨mD _,λ t ht=>by obtain⟨q,hq,rfl⟩:=mC.mp ht;exact(hp q hq).2,λ i j e=>by rw[mJ,mJ,e]⟩;intro q hq
 have key:∃ρ,wOf ws ρ q.2/\PrRow ps ρ:=by
  rcases h.us q hq with z|z
  ·exact zHs (λ row b r=>PrRow.inh row b r) (λ row r t ht=>(r.pl t ht).1) h.c1 p1 _ z
  ·exact zHs (λ row b r=>PrRow.inh row b r) (λ row r t ht=>(r.pl t ht).1) h.c2 p2 _ z
 obtain⟨ρ,hw,hr⟩:=key;have:=zFM h.nd hw.mem hq rfl;rw[←this];exact hr
structure TkP (ps qs:List (Tr × Tr)):Prop where
 hn:1<=ps.length
 h3:ps.length<=qs.length
 h1:∀i:Nat,i<ps.length->qs[i]?=ps[i]?
 h2:∀i:Nat,ps.length<=i->i<qs.length->qs[i]?=qs[0]?
theorem TkP.at {ps qs:List (Tr × Tr)}(h:TkP ps qs) {ρ:List Tr}(hr:PrRow qs ρ) (i:Nat) (hi:i<qs.length):ρ[i]?=(ρ.take ps.length)[i]?\/ρ[i]?=(ρ.take ps.length)[0]?:=by
 by_cases c:i<ps.length
 ·exact .inl (by rw[nW,if_pos c])
 ·refine .inr ?_
  have:=h.hn;rw[nW,if_pos (by omega)];exact hr.sm _ _ (h.h2 i (by omega) hi)
theorem TkP.mem {ps qs:List (Tr × Tr)}(h:TkP ps qs) {ρ:List Tr}(hr:PrRow qs ρ) {t:Tr}:t∈ρ.take ps.length↔t∈ρ:=by
 refine⟨nD,λ ht=>?_⟩;obtain⟨i,hi⟩:=List.getElem?_of_mem ht;have hl:=(lJ.mp hi).1;rw[hr.ln] at hl;rcases h.at hr i hl with e|e<;>(rw[hi] at e;exact lM e.symm)
theorem TkP.inj {ps qs:List (Tr × Tr)}(h:TkP ps qs) {ρ ρ':List Tr}(hr:PrRow qs ρ) (hr':PrRow qs ρ') (e:ρ.take ps.length=ρ'.take ps.length):ρ=ρ':=by
 refine List.ext_getElem? λ i=>?_
 by_cases hi:i<qs.length
 ·by_cases c:i<ps.length
  ·have:=congrArg (λ l=>l[i]?) e
   simp only[nW,if_pos c] at this;exact this
  ·have h0:=h.hn
   rw[hr.sm _ _ (h.h2 i (by omega) hi),hr'.sm _ _ (h.h2 i (by omega) hi)];have:=congrArg (λ l=>l[0]?) e;simp only[nW,if_pos (show 0<ps.length by omega)] at this;exact this
 ·rw[List.getElem?_eq_none (by rw[hr.ln];omega),List.getElem?_eq_none (by rw[hr'.ln];omega)]
theorem TkP.beg {ps qs:List (Tr × Tr)}(h:TkP ps qs) {ρ:List Tr}(hr:PrRow qs ρ) (b:Beg (ρ.take ps.length)):Beg ρ:=by
 obtain⟨t0,e0,nn,hal⟩:=b;have:=h.hn;rw[nW,if_pos (by omega)] at e0;exact⟨t0,e0,nn,λ u hu=>hal u ((h.mem hr).mpr hu)⟩
theorem zIM {a b:List Tr}(h:∀t,t∈a↔t∈b):kindF a=kindF b:=by
 have e:∀p:Tr->Prop,(∀t∈a,p t)↔(∀t∈b,p t):=λ p=>⟨λ k t ht=>k t ((h t).mpr ht),λ k t ht=>k t ((h t).mp ht)⟩
 by_cases c1:∀t∈a,t.kd = .num
 ·rw[zFh c1,zFh ((e _).mp c1)]
 ·have c1':¬∀t∈b,t.kd = .num:=λ z=>c1 ((e _).mpr z)
  by_cases c2:∀t∈a,¬loudT t
  ·rw[zDg c1 c2,zDg c1' ((e _).mp c2)]
  ·rw[zEg c1 c2,zEg c1' λ z=>c2 ((e _).mpr z)]
theorem zLo {ws:WS}{g k:Str}:(g,k)∈ksOf ws↔∃q∈ws,q.2=g/\kindF q.1=some k:=by
 unfold ksOf;rw[List.mem_filterMap];constructor
 ·rintro⟨q,hq,e⟩
  obtain⟨k',ek,e⟩:=lV.mp e;cases e;exact⟨q,hq,rfl,ek⟩
 ·rintro⟨q,hq,rfl,e⟩
  exact⟨q,hq,by rw[e];rfl⟩
theorem zGL {ws:WS}{ks:List (Str × Str)}(hn:WsN ws) (pm:ks.Perm (ksOf ws)) (nk:(ks.map (·.1)).Nodup) {q:List Tr × Str}(hq:q∈ws):(valV (zBC [] (kdV ks)) (Sum.inr q.2:Key)).getD (.str "") = .str ((kindF q.1).getD ""):=by
 rw[zDN];have K:=zLp nk q.2;cases e:valV (kdV ks).reverse (Sum.inr q.2:Key) with
 |none =>
  have:kindF q.1=none:=by
   cases z:kindF q.1 with
   |none=>rfl
   |some k =>
    have:=(K (.str k)).mpr ⟨k,rfl,pm.mem_iff.mpr (zLo.mpr ⟨q,hq,rfl,z⟩)⟩;rw[e] at this;cases this
  rw[this];rfl
 |some v =>
  obtain⟨k,rfl,hk⟩:=(K v).mp e;obtain⟨q',hq',e1,e2⟩:=zLo.mp (pm.mem_iff.mp hk);have:=zFM hn hq' hq e1;rw[this] at e2;rw[e2];rfl
theorem zJK {more:List (Key × V)}:∀{kvs:List (Key × V)}{p:Key × V},p∈zBC kvs more->p.1∈kvs.map (·.1)\/p.1∈more.map (·.1):=by
 induction more with
 |nil=>exact λ h=>.inl (mC.mpr ⟨_,h,rfl⟩)
 |cons q more ih =>
  intro kvs p h;rcases ih (show p∈zBC (putK kvs q.1 q.2) more from h) with h|h
  ·unfold putK at h
   split at h
   ·obtain⟨x,hx,e⟩:=mC.mp h
    obtain⟨y,hy,rfl⟩:=mC.mp hx;refine .inl (mC.mpr ⟨y,hy,?_⟩);rw[←e];split<;>simp_all
   ·rw[mP,nK] at h
    rcases h with h|h
    ·exact .inl h
    ·exact .inr (by simp at h;rw[h];simp)
  ·exact .inr (lP _ h)
def FilR (H:Hp) (ws:WS) (ds:List Addr):Prop:=∀(j:Nat) (d:Addr),ds[j]?=some d->∃kvs,H d=some (.dK kvs)/\FD H j ws kvs/\∀q∈ws,HasG kvs q.2
theorem FilR.mono {H H':Hp}(g:Same H H') {ws:WS}{ds:List Addr}(h:FilR H ws ds):FilR H' ws ds:=λ j d e=>let ⟨kvs,a,b,c⟩:=h j d e;⟨kvs,g _ _ a,b.mono g.tk,c⟩
theorem zN2 {H:Hp}{i:Nat}{ws:WS}{kvs:List (Key × V)}(h:FD H i ws kvs) (hn:WsN ws) {q:List Tr × Str}(hq:q∈ws) (hg:HasG kvs q.2):∃v t,valV kvs (Sum.inr q.2:Key)=some v/\q.1[i]?=some t/\Rep H t v:=by
 cases e:valV kvs (Sum.inr q.2:Key) with
 |none =>
  obtain⟨p,hp,e'⟩:=hg;exact absurd e' (zD5 e p hp)
 |some v =>
  obtain⟨q',hq',e1,t,et,rt⟩:=h.al _ (zGh e);have:=zFM hn hq' hq (Sum.inr.inj e1).symm;rw[this] at et;exact⟨v,t,rfl,et,rt⟩
noncomputable def keyS:Key->Str
 |.inr s=>s
 |_ => ""
theorem zLD {kvs:List (Key × V)}(h:∀kv∈kvs,∃s,kv.1=(Sum.inr s:Key)):kvs.map (·.1)=(kvs.map λ kv=>keyS kv.1).map Sum.inr:=by
 rw[nP];refine List.map_congr_left λ kv hk=>?_;obtain⟨s,e⟩:=h kv hk;show kv.1=Sum.inr (keyS kv.1);rw[e];rfl
theorem zJo {H:Hp}{ts:List Tr}{us:List V}(h:Paired (Rep H) ts us):(∀t∈ts,Pln t/\dpT t<=7)->DRs H (ts.map dtT) us/\Dt.deeps (ts.map dtT)<=100:=by
 induction h with
 |nil=>intro _;exact⟨.nil,by decide⟩
 | @cons t u ts us r _ ih =>
  intro hp;obtain⟨h1,h2⟩:=ih λ x hx=>hp x (lP _ hx);have h0:=hp t lO;have:=zBT t h0.1;have:=h0.2;refine⟨.cons (r.drP h0.1) h1,?_⟩;rw[mL];show max _ _<=100;omega
def RwK (H:Hp) (ws:WS) (n:Nat) (rl:Addr) (g:Str) (v:V):Prop:=∃(a:Addr) (ys:List V) (ρ:List Tr),(ρ,g)∈ws/\v = .ref a/\a≠rl/\H a=some (.lst ys)/\Paired (Rep H) (ρ.take n) ys
theorem RwK.sx {H H':Hp}{ws:WS}{n:Nat}{rl:Addr}{g:Str}{v:V}(k:Tk H H') (sx:Sx rl H H'):RwK H ws n rl g v->RwK H' ws n rl g v
 |⟨a,ys,ρ,h,e,ne,ha,p⟩=>⟨a,ys,ρ,h,e,ne,sx _ _ ne ha,Paired.mapP p λ Ω Ω z=>z.mono k⟩
structure FG (H:Hp) (ms:List Str) (d:Addr) (kvs:List (Key × V)) (φ:Str->Tr):Prop where
 ed:H d=some (.dK kvs)
 ln:kvs.length<=10
 al:∀g∈ms,PcT (φ g)/\∃v,valV kvs (Sum.inr g:Key)=some v/\Rep H (φ g) v
def FGs (H0 H:Hp) (ms:List Str) (ds:List Addr):Prop:=∀d∈ds,H0 d=none/\∃kvs φ,FG H ms d kvs φ
set_option tactic.hygienic true in
theorem zHl (kvs:List (Key × V)) (k:Key) (v:V):(putK kvs k v).length<=kvs.length+1/\((valV kvs k).isSome=true->(putK kvs k v).length=kvs.length):=by
 unfold putK;split
 ·rename_i h
  simp
 ·rename_i h
  refine⟨by simp,λ z=>?_⟩;exfalso;unfold valV at z;rw[Option.isSome_map,List.find?_isSome] at z;obtain⟨x,hx,e⟩:=z;exact h (List.any_eq_true.mpr ⟨x,hx,e⟩)
theorem FG.put {H H':Hp}{ms:List Str}{d:Addr}{kvs:List (Key × V)}{φ:Str->Tr}(h:FG H ms d kvs φ) (k:Tk H H') {g:Str}{t:Tr}{v:V}(e:H' d=some (.dK (putK kvs (Sum.inr g:Key) v))) (hl:(putK kvs (Sum.inr g:Key) v).length<=10) (hp:PcT t) (r:Rep H' t v):FG H' (ms++[g]) d (putK kvs (Sum.inr g:Key) v) (λ x=>if x=g then t else φ x):=by
 refine⟨e,hl,λ x hx=>?_⟩
 by_cases c:x=g
 ·subst c
  simp only[if_pos];exact⟨hp,v,by rw[zD6,if_pos rfl],r⟩
 ·simp only[if_neg c]
  have hx':x∈ms:=by
   rcases lK.mp hx with z|z
   ·exact z
   ·exact absurd (mQ.mp z) c
  obtain⟨a,v',ev,rv⟩:=h.al x hx';exact⟨a,v',by rw[zD6,if_neg (λ z=>c (Sum.inr.inj z))];exact ev,rv.mono k⟩
def rNeRL:R2:=λ x y H Q=>∃(p r:Addr) (xs:List V),x = .ref p/\y = .ref r/\H p=some (.lst xs)/\H r=some (.lst xs)/\(∀x∈xs,∃b,x = .ref b)/\Q (.bl false) H
theorem zMT {X:Cx}(hu:X.A.units<cLine):OpR X (compareOp .NotEq) rNeRL:=by
 intro jP s σ H x y v u Q I rx ry h;obtain⟨p,r,xs,rfl,rfl,hp,hr,hx,q⟩:=h;cases rx;cases ry;obtain⟨_,its,n,r1,l1,e1⟩:=I.lstM hp;obtain⟨_,its2,n2,r2,l2,e2⟩:=I.lstM hr;have L1:s.heap.IsList p its.toArray:=⟨_,e1,rfl,_,rfl⟩;have L2:s.heap.IsList r its2.toArray:=⟨_,e2,rfl,_,rfl⟩;refine SeqAt.RcNeAt.lists (e:=λ Ω=>true) L1 L2 (by simp;omega) hu (λ j h1 h2=>?_) _ _ _ _ ?_
 ·have k1:=r1.length
  have k2:=r2.length;have g1:j<xs.length:=by rw[k1];simpa using h1
  obtain⟨u1,eu,q1⟩:=r1.get (lW g1);obtain⟨u2,ev,q2⟩:=r2.get (lW g1);obtain⟨b,eb⟩:=hx _ (List.getElem_mem g1);rw[eb] at q1 q2;cases q1;cases q2;have z1:its.toArray[j] = .ref b:=by obtain⟨_,q⟩:=lJ.mp eu;simpa using q
  have z2:its2.toArray[j] = .ref b:=by obtain⟨_,q⟩:=lJ.mp ev;simpa using q
  rw[z1,z2];exact SeqAt.EqAt.same _
 ·have:((List.range its.toArray.size).all λ Ω=>true)=true:=by simp
  rw[this];exact⟨.bl false,H,I,rfl,q⟩
theorem zNd {X:Cx}{a b:Expr}{ta tb:TE}{pos:Pos}{op:Operator}{r:R2}(ho:OpR X (binaryOp op) r) (ha:Sd (PE X a ta)) (hb:Sd (PE X b tb)):Sd (PE X (.BinOp a op b pos) (tOp r ta tb)):=⟨pe_op ho ha.un hb.un⟩
theorem pa_cS {X:Cx}{es:List Expr}{te:TE}{tA:TA}{c:Const}{k:Nat}{p:Pos}(ha:Sd (PE X (.Constant c k p) te)) (hr:Sd (PA X es tA)):Sd (PA X (.Constant c k p::es) (tCons te tA)):=⟨zAB ha.un hr.un rfl⟩
theorem pa_bS {X:Cx}{es:List Expr}{te:TE}{tA:TA}{a b:Expr}{op:Operator}{p:Pos}(ha:Sd (PE X (.BinOp a op b p) te)) (hr:Sd (PA X es tA)):Sd (PA X (.BinOp a op b p::es) (tCons te tA)):=⟨zAB ha.un hr.un rfl⟩
theorem zNM {X:Cx}{st:List Stmt}{G:TS->Prop}(h:∃t,Sd (PSs X st t)/\G t):∃t,PSs X st t/\G t:=h.elim λ t ht=>⟨t,ht.1.un,ht.2⟩
theorem pa_nS {X:Cx}{es:List Expr}{te:TE}{tA:TA}{x:Str}{p:Pos}(ha:Sd (PE X (.Name x p) te)) (hr:Sd (PA X es tA)):Sd (PA X (.Name x p::es) (tCons te tA)):=⟨zAB ha.un hr.un rfl⟩
theorem pa_kS {X:Cx}{es xs:List Expr}{ks:List Keyword}{te:TE}{tA:TA}{f:Expr}{p:Pos}(ha:Sd (PE X (.Call f xs ks p) te)) (hr:Sd (PA X es tA)):Sd (PA X (.Call f xs ks p::es) (tCons te tA)):=⟨zAB ha.un hr.un rfl⟩
theorem zBv {X:Cx}{CX:CXT}{k:Nat}{f:Addr}{fd:FuncData}{ps:List Str}{sp:Sp}{ds:List Value}{dvs:List V}{E:XK}{x:Str}{p pos:Pos}{e:Expr}{es:List Expr}{t:TA}(F:FnOk X.prog X.w X.K X.mg X.base CX k f fd ps sp) (hr:Room k X.A) (hg:Gl X x) (hm:X.mg x=some (.ref f)) (hk:W.keepIn X.K (.ref f)=true) (hb:Binds X.K fd ps ds) (hd:Vals dvs ds) (hx:zHw CX X E)
  (ha:Sd (PA X (e::es) t)) (hdb:(x == ("__debug__" : Str))=false:=by decide) (he:starEach (e::es) X.env=(false,eval e X.env)::starEach es X.env:=by rfl) (hpl:(backTo pos (starEach es X.env)).any (·.1)=false:=by rfl) :
  Sd (PE X (.Call (.Name x p) (e::es) [] pos) (tCall sp dvs E t)):=⟨zGv F hr hg hm hk hb hd hx ha.un hdb he hpl⟩
theorem cutN {ns:List Int}(lo hi:Nat) (h:lo<=hi):∃ms:List Int,cutV (ns.map V.int) (some (lo:Int)) (some (hi:Int))=ms.map V.int/\ms.length<=hi - lo:=by
 refine⟨(ns.drop (min lo ns.length)).take (min hi ns.length - min lo ns.length),?_,?_⟩
 ·unfold cutV
  rw[mD,HT.sIx_nat,HT.sIx_nat,←List.map_drop,←List.map_take]
 ·rw[mN]
  omega
theorem fb4:∀n<7,FB 4 n<=4:=by decide
theorem fb3:∀n<5,FB 3 n<=3:=by decide
theorem zKO {sh:Tr}(h:Shp sh):sh.size<=fsN sh:=by
 induction sh with
 |bin o a b iha ihb=>have:=iha h.1;have:=ihb h.2;simp only[Tr.size,fsN];omega
 |ite a b c iha ihb ihc=>have:=iha h.1;have:=ihb h.2.1;have:=ihc h.2.2;simp only[Tr.size,fsN];omega
 |num n=>simp[Tr.size,fsN]
 |gap g as=>simp[Tr.size,fsN]
 |_=>exact h.elim
structure SdS (L R:Tr) (ms:List Str):Prop where
 lb:∃A B,L = .bin .add A B
 sl:Shp L
 sr:Shp R
 gl:∀g∈gpS L,g∈ms
 gr:∀g∈gpS R,g∈gpS L
 b1:dpT L<=6/\fsN L<=57/\flN L<=40
 b2:dpT R<=6/\fsN R<=30/\flN R<=20
noncomputable def psF (L R:Tr) (φs:List (Str->Tr)):List (Tr × Tr):=φs.map λ φ=>(fillT φ L,fillT φ R)
def GdF (ms:List Str) (φs:List (Str->Tr)):Prop:=∀φ∈φs,∀g∈ms,PcT (φ g)
theorem SdS.prg {L R:Tr}{ms:List Str}(h:SdS L R ms) {φs:List (Str->Tr)}(hg:GdF ms φs):PrG (psF L R φs):=by
 intro q hq;obtain⟨φ,hφ,rfl⟩:=mC.mp hq;obtain⟨a1,a2,a3,a4⟩:=zJh h.sl λ g hx=>hg φ hφ g (h.gl g hx);obtain⟨b1,b2,b3,b4⟩:=zJh h.sr λ g hx=>hg φ hφ g (h.gl g (h.gr g hx));have c1:=h.b1;have c2:=h.b2;dsimp only;exact⟨⟨a1,by omega,by omega,by omega⟩,b1,by omega,by omega,by omega⟩
theorem Pln.nolet {t:Tr}(h:Pln t):¬Let1 t:=by
 rintro⟨p,hp,e⟩;exact(h.sub p hp).nl e
theorem SdS.ok {L R:Tr}{ms:List Str}(h:SdS L R ms) {φs:List (Str->Tr)}(hg:GdF ms φs) (l1:1<=φs.length) (l8:φs.length<=8):PrOk (psF L R φs):=by
 have hl:(psF L R φs).length=φs.length:=mD _;exact⟨by omega,by omega,λ q hq=>⟨(h.prg hg q hq).1.1.nolet,(h.prg hg q hq).2.1.nolet⟩⟩
theorem SdS.lw {L R:Tr}{ms:List Str}(h:SdS L R ms) {φs:List (Str->Tr)}(l1:1<=φs.length):∃A B,LwP (psF L R φs) φs A B R:=by
 obtain⟨A,B,rfl⟩:=h.lb;refine⟨A,B,λ z=>by rw[z] at l1;simp at l1,?_,?_,h.sl,h.sr,h.gr⟩
 ·unfold psF rowF;rw[nP];rfl
 ·unfold psF rowF;rw[nP];rfl
theorem SdS.due {L R:Tr}{ms:List Str}(h:SdS L R ms) {φs:List (Str->Tr)}(l1:1<=φs.length):∀t u ks ws,RdW (psF L R φs) t u ks ws->Due t u ks zBA none:=λ t u ks ws k=>let ⟨_,_,l⟩:=h.lw l1;k.due l
theorem SdS.pl {L R:Tr}{ms:List Str}(h:SdS L R ms) {φs:List (Str->Tr)}(hg:GdF ms φs):∀q∈psF L R φs,(Pln q.1/\dpT q.1<=7)/\Pln q.2/\dpT q.2<=7:=λ q hq=>let ⟨⟨a,b,_⟩,c,d,_⟩:=h.prg hg q hq;⟨⟨a,b⟩,c,d⟩
theorem zFO {ps:List (Tr × Tr)}(h:1<=ps.length):TkP ps ps:=⟨h,lQ _,λ Ω Ω=>rfl,λ i a b=>by omega⟩
theorem zKJ {p:Tr × Tr}{ps:List (Tr × Tr)}:TkP (p::ps) (p::ps++[p]):=by
 refine⟨by simp,by simp,λ i hi=>mS hi,λ i a b=>?_⟩
 have:i=(p::ps).length:=by
  rw[mK,List.length_singleton] at b;omega
 subst this;rw[List.getElem?_append_right (Nat.le_refl _)];simp
theorem zN6 (x:V) (ys:List V):cutV (x::ys) none (some 1)=[x]:=by
 show cutV (x::ys) none (some ((1:Nat):Int))=[x];unfold cutV;rw[HT.sIx_nat,HT.sIx_none,List.drop_zero,Nat.sub_zero,mM,Nat.min_eq_left (by omega)];rfl
end L2
namespace K71
open PySem PySem.Spec L2 PyProof.Rows
section
variable {P:Program}{w:World}{K:W.Frag}{mg:Str->Option Value}{base:Heap}{k n:Nat}{f g g1 g2 g3 g4 g5 g6 g7 kv la lv:Addr}{fd gd gd1 gd2 gd3 gd4 gd5 gd6 gd7:FuncData}
def top (i:Nat):Stmt:=PySem.Challenge.pw_recastle_k71_most_special.main.body.getD i (.Pass ⟨0,0,0,0⟩)
abbrev zCJ:Stmt:=top 6
theorem zEz:zAT ["tree"] ["tree"] (zAH zCJ):=scI
abbrev zGt:Stmt:=top 7
theorem zKP:zAT ["tree"] ["tree"] (zAH zGt):=scI
abbrev zC3:Stmt:=top 9
theorem zBM:zAT ["tree", "found", "level", "deeper", "part"] ["tree"] (zAH zC3):=scI
abbrev zB2:Stmt:=top 10
theorem zAe:zAT ["tree", "found", "level", "deeper", "place", "part", "number", "inner"] ["tree"] (zAH zB2):=scI
noncomputable def zDK (t:Tr):Int:=t.head
def zBx:Sp:=λ vs H Q Ω=>E2 λ t v=>A3 (vs=[v]) (Rep H t v) (Q (.int (zDK t)) H)
theorem zE4 {k:Nat}{f:Addr}{fd:FuncData}{lv:Addr}(F:Fun K "parts_begin" "parts_begin" zCJ f fd) (z_len:mg "len" = none) (zOB:mg "LEAF_SIGNS" = some (.ref lv)) (hL:zDM K lv) :
  FnOk P w K mg base CX0 (k+1) f fd ["tree"] zBx:=by
 refine F.ok zEz (λ vs H Q E h=>?_) (λ cdv A outer s H vs Q E hr h=>?_)
 ·obtain⟨t,v,rfl,_⟩:=h
  rfl
 obtain⟨t,v,rfl,hR,q⟩:=h
 refine⟨_,(zAE (ps_if (zAO (r:=rIn K false) zBo (iC (r:=rIxT K) zAS (pv 0)) (zB8 (v:=.ref _) (by rfl) zOB (by rfl)) rfl) (zAF (zAU (cL z_len (zAB (pv 0) zAD)))) zAV)
  (zAE (ps_if (zAO op_eq (iC (r:=rIxT K) zAS (pv 0)) zAZ (zAY _)) (zAF (zAU zAI)) zAV)
  (zAF (zAU zAI)))),?_⟩
 obtain⟨a,hs,us,rfl,ha,hl,hp⟩:=hR.all;have h0:atI (V.str t.kd.s::hs++us) 0=some (.str t.kd.s):=zAQ (j:=0) rfl;refine⟨_,rfl,a,_,0,_,rfl,rfl,SqT.of ha,h0,lv,zDs,rfl,.inr (.inr hL),rfl,rfl,_,rfl,?_⟩;show if inV (.str t.kd.s) zDs=true then _ else _
 rw[zFj];refine ite2 (λ c=>?_) (λ c=>?_)
 ·refine⟨_,rfl,a,_,rfl,.inr (SqT.of ha),?_⟩
  have e:((V.str t.sign::hs++us).length:Int)=zDK t:=by
   have hu:us.length=0:=by
    rw[←hp.length];cases t with
    |bin o a b=>cases o<;>cases c
    |_=>first|rfl|cases c
   rw[mK,mM,hu];unfold zDK;omega
  rw[e];exact q
 ·refine⟨_,rfl,a,_,0,_,rfl,rfl,SqT.of ha,h0,rfl,_,rfl,?_⟩
  refine ite2 (λ d=>?_) (λ d=>?_)
  ·have z:t.kd = .lett:=Kd.eq_iff.mp (lT d)
   have e:zDK t=2:=by
    cases t with
    |lett x a b=>rfl
    |bin o a b=>cases o<;>cases z
    |_=>cases z
   rw[e] at q;exact q
  ·have e:zDK t=1:=by
    cases t with
    |lett x a b=>exact absurd rfl d
    |bin o a b=>rfl
    |ite a b c=>rfl
    |say a=>rfl
    |_=>exact absurd rfl c
   rw[e] at q;exact q
def zCo:Sp:=λ vs H Q Ω=>E2 λ t v=>A3 (vs=[v]) (Rep H t v) (∀p H' us,Same H H'->H' p=some (.tup us)->Paired (Rep H') t.parts us->Q (.ref p) H')
theorem zKm (F:Fun K "parts" "parts" zGt f fd) (zOC:FnB P w K mg base k "parts_begin" g gd ["tree"] zBx) :
  FnOk P w K mg base CX0 (k+1) f fd ["tree"] zCo:=by
 refine F.ok zKP (λ vs H Q E h=>?_) (λ cdv A outer s H vs Q E hr h=>?_)
 ·obtain⟨t,v,rfl,_⟩:=h
  rfl
 obtain⟨t,v,rfl,hR,q⟩:=h;refine⟨_,(zAF (zAU (zAg zCZ (pv 0) (zAh (pe_cl zOC hr (zAB (pv 0) zAD))) zA7))),?_⟩;obtain⟨a,hs,us,rfl,ha,hl,hp⟩:=hR.all;have hn:(V.str t.sign::hs++us).length=t.head+us.length:=by rw[mK,mM];omega
 have h1:=zLF t
 have e1:HT.sIx (V.str t.sign::hs++us).length 0 (some (zDK t))=t.head:=by
  show HT.sIx _ 0 (some ((t.head:Nat):Int))=_;rw[HT.sIx_nat,hn];omega
 have e2:cutV (V.str t.sign::hs++us) (some (zDK t)) none=us:=by
  unfold cutV;rw[e1,HT.sIx_none,hn]
  have:(V.str t.sign::hs++us).drop t.head=us:=by
   rw[←hl];exact List.drop_left' rfl
  rw[this,mU (by omega)]
 refine⟨_,rfl,_,rfl,t,_,rfl,hR,_,rfl,a,_,rfl,ha,λ z=>?_,λ p H' g e=>?_⟩
 ·rw[e1] at z
  omega
 ·rw[e2] at e
  exact q p H' us g e (Paired.mapP hp λ Ω Ω r=>r.mono g.tk)
def zF7:Sp:=λ vs H Q Ω=>E2 λ(t:Tr) (v:V)=>A4 (vs=[v]) (Rep H t v) (t.size<=60) (∀(l:Addr) (us:List V) (F:List Tr) (H':Hp),Same H H'->H' l=some (.lst us)->Paired (Rep H') F us->F.Perm t.subs->Q (.ref l) H')
theorem zNm (F:Fun K "all_parts" "all_parts" zC3 f fd) (zOD:FnB P w K mg base k "parts" g1 gd1 ["tree"] zCo):FnOk P w K mg base CX0 (k+1) f fd ["tree"] zF7:=by
 refine F.ok zBM (λ vs H Q E h=>?_) (λ cdv A outer s H vs Q E hr h=>?_)
 ·obtain⟨t,v,rfl,_⟩:=h
  rfl
 obtain⟨t,v,rfl,hR,hsz,q⟩:=h
 refine⟨_,(zAE (pS (i:=1) zBM.nd (zAs zAD:PE _ _ _))
  (zAE (pS (i:=2) zBM.nd (zAs (zAB (pv 0) zAD):PE _ _ _))
  (zAE (zCv PassesOwn.never (zD7 (pv 2) (λ Ω=>rfl)) (zAE (zCU (pe_bm rS rW rX zDG (pv 1) (zAB (pv 2) zAD)))
  (zAE (pS (i:=3) zBM.nd (zAs zAD:PE _ _ _))
  (zAE (zAv PassesOwn.never rfl (zAf (pv 2)) (pGn (i:=4) zBM.nd) (zAF (zCU (pe_bm rS rW rX zIK (pv 3) (zAB (pe_cl zOD hr (zAB (pv 4) zAD)) zAD)))))
  (zAF (pS (i:=2) zBM.nd (pv 3)))))))
  (zAF (zAU (pv 1)))))),?_⟩
 refine⟨(by show 0<=sizeLine;decide),λ fo hfo=>⟨_,rfl,(by show 1<=sizeLine;decide),λ l hl=>?_⟩⟩;have g1:=zAC (o:=.lst []) hfo;have g2:=zAC (o:=.lst [v]) hl
 refine⟨(λ m σ' H'=>E7 λ(l:Addr) (ls fs:List V) (L Fd:List Tr) (s3 s4:Option V)=>A11 (σ'=[some v,some (.ref fo),some (.ref l),s3,s4]) (Same H H') (H l=none) (l≠fo) (H' fo=some (.lst fs)) (H' l=some (.lst ls)) (Paired (Rep H') Fd fs) (Paired (Rep H') L ls) (m=szT L) ((Fd++L.flatMap Tr.subs).Perm t.subs) (Fd.length+szT L<=t.size)),
  ⟨t.size,l,[v],[],[t],[],none,none,rfl,g1.trans g2,g1.free hl,Ne.symm (zAN (zAA (H:=H) (a:=fo) (o:=.lst [])) hl),g2 _ _ zAA,zAA,.nil,.cons (hR.mono (g1.trans g2).tk) .nil,by simp[szT],by simp,by simp[szT]⟩,?_⟩
 rintro m σ' Hw ⟨l,ls,fs,L,Fd,s3,s4,rfl,gw,hl,hlf,ef,el,pF,pL,rfl,hmem,hcnt⟩;have lL:ls.length=L.length:=zAG pL;have lF:fs.length=Fd.length:=zAG pF;have hZ:=zC8 L;refine⟨_,rfl,_,.inl ⟨ls,SqL.of el,rfl⟩,?_⟩;refine ite2 (λ c=>?_) (λ c=>?_)
 ·refine⟨_,λ Ω Ω h=>h,?_⟩
  refine⟨_,rfl,.inl ⟨rfl,_,SqL.of ef⟩,_,rfl,fo,l,fs,ls,rfl,rfl,ef,el,zAz (by omega),?_⟩;have ef1:=@zAA Hw fo (.lst (fs++ls));have el1:(upd Hw fo (.lst (fs++ls))) l=some (.lst ls):=by rw[zAR hlf];exact el
  have gw1:Same H (upd Hw fo (.lst (fs++ls))):=zAW gw hfo;have tk1:Tk Hw (upd Hw fo (.lst (fs++ls))):=Tk.lst ef;show tSeq _ _ _ _ (upd Hw fo (.lst (fs++ls)));generalize upd Hw fo _=H1 at ef1 el1 gw1 tk1 ⊢;refine⟨(by show 0<=sizeLine;decide),λ dp hdp=>?_⟩;have g4:=zAC (o:=.lst []) hdp;have hdpH:H dp=none:=gw1.free hdp;have ndf:dp≠fo:=Ne.symm (zAN ef1 hdp);have ndl:dp≠l:=Ne.symm (zAN el1 hdp);refine⟨_,rfl,l,rfl,⟨ls,SqL.of (g4 _ _ el1)⟩,?_⟩;refine zA1 (xs:=ls) (λ i σ' H'=>E2 λ(dps:List V) (s4:Option V)=>A7 (σ'=[some v,some (.ref fo),some (.ref l),some (.ref dp),s4]) (Same H H') (Tk H1 H') (H' fo=some (.lst (fs++ls))) (H' l=some (.lst ls)) (H' dp=some (.lst dps)) (Paired (Rep H') ((L.take i).flatMap Tr.parts) dps)) ?_ ?_ ?_ ?_
  ·exact⟨[],s4,rfl,gw1.trans g4,g4.tk,g4 _ _ ef1,g4 _ _ el1,zAA,.nil⟩
  ·rintro i σ1 H2 _ ⟨dps,s4,rfl,g5,k5,ef5,el5,ed5,p5⟩
   exact SqL.of el5
  ·rintro i x σ1 H2 hx ⟨dps,s4,rfl,g5,k5,ef5,el5,ed5,p5⟩
   obtain⟨tq,eq,rq⟩:=zAJ pL hx;refine⟨_,rfl,.inl ⟨rfl,_,SqL.of ed5⟩,_,rfl,tq,x,rfl,rq.mono (tk1.trans k5),λ pp H3 us g6 ep hus=>?_⟩
   have hflat:((L.take (i+1)).flatMap Tr.parts)=((L.take i).flatMap Tr.parts)++tq.parts:=by
    rw[zAL eq,nI];simp
   have hlen:dps.length+us.length<=1000:=by
    have z0:=zAG p5;have z1:=zAG hus;have z2:=zGi ((L.take (i+1)).flatMap Tr.parts);have z3:=zC8 (L.take (i+1));have z4:=zHG L (i+1);rw[hflat,mK] at z2;rw[hflat] at z3;omega
   have ed6:=g6 _ _ ed5;refine⟨dp,pp,dps,us,rfl,rfl,ed6,SqT.of ep,zAz hlen,?_⟩;have tkz:Tk H3 (upd H3 dp (.lst (dps++us))):=Tk.lst ed6;refine⟨dps++us,_,rfl,zAW (g5.trans g6) hdpH,k5.trans (g6.tk.trans tkz),by rw[zAR (Ne.symm ndf)];exact g6 _ _ ef5,by rw[zAR (Ne.symm ndl)];exact g6 _ _ el5,zAA,?_⟩;rw[hflat];exact zAM (Paired.mapP p5 λ Ω Ω z=>z.mono (g6.tk.trans tkz)) (Paired.mapP hus λ Ω Ω z=>z.mono tkz)
  ·rintro σ1 H2 ⟨dps,s4,rfl,g5,k5,ef5,el5,ed5,p5⟩
   rw[mU (by omega)] at p5
   have hpos:0<L.length:=by
    rw[←lL];cases ls with
    |nil=>simp at c
    |cons _ _=>simp
   refine⟨_,rfl,szT (L.flatMap Tr.parts),by omega,dp,dps,fs++ls,L.flatMap Tr.parts,Fd++L,some (.ref dp),s4,rfl,g5,hdpH,ndf,ef5,ed5,zAM (Paired.mapP pF λ Ω Ω z=>z.mono (tk1.trans k5)) (Paired.mapP pL λ Ω Ω z=>z.mono (tk1.trans k5)),p5,rfl,?_,?_⟩
   ·rw[mX];exact((zFD L).symm.append_left Fd).trans hmem
   ·rw[mK]
    omega
 ·have e0:ls=[]:=by
   cases ls with
   |nil=>rfl
   |cons _ _=>simp at c
  have eL:L=[]:=by
   subst e0;cases L with
   |nil=>rfl
   |cons _ _=>simp at lL
  subst eL;refine⟨_,rfl,q fo fs Fd Hw gw ef pF ?_⟩;simpa using hmem
def PPl (H:Hp) (x:PlT) (v:V):Prop:=∃u,PlV H (x.1,u) v/\Rep H x.2 u
theorem PPl.mono {H H':Hp}(k:Tk H H') {x:PlT}{v:V}:PPl H x v->PPl H' x v
 |⟨u,h,r⟩=>⟨u,h.mono k,r.mono k⟩
theorem zJN {α β:Type}(g:α->β):∀{qs l:List β},qs.Perm l->∀{Z:List α},Z.map g=l->∃Z':List α,Z'.Perm Z/\Z'.map g=qs:=by
 intro qs l h
 induction h with
 |nil =>
  intro Z e;have:Z=[]:=List.map_eq_nil_iff.mp e;subst this;exact⟨[],.nil,rfl⟩
 |cons x _ ih =>
  intro Z e;obtain⟨z,Z2,rfl,e1,e2⟩:=List.map_eq_cons_iff.mp e;obtain⟨Z',h1,h2⟩:=ih e2;exact⟨z::Z',h1.cons z,by simp[e1,h2]⟩
 |swap x y l =>
  intro Z e;obtain⟨z,Z2,rfl,e1,e2⟩:=List.map_eq_cons_iff.mp e;obtain⟨z2,Z3,rfl,e3,e4⟩:=List.map_eq_cons_iff.mp e2;exact⟨z2::z::Z3,.swap _ _ _,by simp[e1,e3,e4]⟩
 |trans _ _ ih1 ih2 =>
  intro Z e;obtain⟨Z1,h1,h2⟩:=ih2 e;obtain⟨Z2,h3,h4⟩:=ih1 h2;exact⟨Z2,h3.trans h1,h4⟩
theorem zGD {H:Hp}{F:List PlT}{us:List V}(h:Paired (PPl H) F us):∃Z:List (PlT × V),Z.map (·.1)=F/\Paired (PlV H) (Z.map λ z=>(z.1.1,z.2)) us/\∀z∈Z,Rep H z.1.2 z.2:=by
 induction h with
 |nil=>exact⟨[],rfl,.nil,λ z h=>nomatch h⟩
 |cons r q ih =>
  obtain⟨Z,h1,h2,h3⟩:=ih;obtain⟨u,hu,ru⟩:=r;refine⟨(_,u)::Z,by simp[h1],.cons hu h2,λ z hz=>?_⟩;rcases nL.mp hz with rfl|hz
  ·exact ru
  ·exact h3 z hz
theorem zHc {H:Hp}:∀{Z:List (PlT × V)}{us:List V},Paired (PlV H) (Z.map λ z=>(z.1.1,z.2)) us->(∀z∈Z,Rep H z.1.2 z.2)->Paired (λ x v=>∃pl,PPl H (pl,x) v) (Z.map λ z=>z.1.2) us
 |[],_,h,_=>by
  cases h;exact .nil
 |z::Z,_,h,k=>by
  rw[mL] at h ⊢;cases h with
  |cons r q=>exact .cons ⟨z.1.1,z.2,r,k z lO⟩ (zHc q λ y hy=>k y (lP _ hy))
def zF3:Sp:=λ vs H Q Ω=>E2 λ(t:Tr) (v:V)=>A4 (vs=[v]) (Rep H t v) (t.size<=60) (∀(l:Addr) (us:List V) (H':Hp),Same H H'->H' l=some (.lst us)->Paired (λ x v=>∃pl,PPl H' (pl,x) v) t.subs us->Q (.ref l) H')
theorem zJA (F:Fun K "placed_parts" "placed_parts" zB2 f fd) (z_enumerate:mg "enumerate" = none) (z_sorted:mg "sorted" = none) (zOD:FnB P w K mg base k "parts" g1 gd1 ["tree"] zCo):FnOk P w K mg base CX0 (k+1) f fd ["tree"] zF3:=by
 refine F.ok zAe (λ vs H Q E h=>?_) (λ cdv A outer s H vs Q E hr h=>?_)
 ·obtain⟨t,v,rfl,_⟩:=h
  rfl
 obtain⟨t,v,rfl,hR,hsz,q⟩:=h;have hu5:=hu150 hr
 refine⟨_,(zAE (pS (i:=1) zAe.nd (zAs zAD:PE _ _ _))
  (zAE (pS (i:=2) zAe.nd (zAs (zAB (zBQ (zAB (zBQ zAD:PE _ _ _) (zAB (pv 0) zAD)):PE _ _ _) zAD):PE _ _ _))
  (zAE (zCv PassesOwn.never (zD7 (pv 2) (λ Ω=>rfl)) (zAE (zCU (pe_bm rS rW rX zDG (pv 1) (zAB (pv 2) zAD)))
  (zAE (pS (i:=3) zAe.nd (zAs zAD:PE _ _ _))
  (zAE (zAv PassesOwn.never rfl (zAf (pv 2)) (zCh rfl (zAa (pGn (i:=4) zAe.nd) (zAa (pGn (i:=5) zAe.nd) zBP))) (zAF (zAv PassesOwn.never rfl (zIz (by rfl) z_enumerate (zAB (pe_cl zOD hr (zAB (pv 5) zAD)) zAD)) (zCh rfl (zAa (pGn (i:=6) zAe.nd) (zAa (pGn (i:=7) zAe.nd) zBP))) (zAF (pAp (pv 3) (zBQ (zAB (pe_op zGw (pv 4) (zBQ (zAB (pv 6) zAD):PE _ _ _)) (zAB (pv 7) zAD)):PE _ _ _))))))
  (zAF (pS (i:=2) zAe.nd (pv 3)))))))
  (zAF (zAU (zAt (zGT hu5) (by rfl) z_sorted PyProof.Rows.boot_sorted (zAB (pv 1) zAD))))))),?_⟩
 have d2:2<=sizeLine:=by decide
 refine⟨(by show 0<=sizeLine;decide),λ fo hfo=>⟨(by show 0<=sizeLine;decide),λ pe hpe=>⟨_,rfl,d2,λ pr hpr=>⟨(by show 1<=sizeLine;decide),λ l hl=>?_⟩⟩⟩⟩;have g1:=zAC (o:=.lst []) hfo;have g2:=zAC (o:=.tup []) hpe;have g3:=zAC (o:=.tup [.ref pe,v]) hpr;have g4:=zAC (o:=.lst [.ref pr]) hl;have g23:=g2.trans g3;have gA:=g1.trans (g23.trans g4)
 refine⟨(λ m σ' H'=>E10 λ(l:Addr) (ls fs:List V) (L Fd:List PlT) (s3 s4 s5 s6 s7:Option V)=>A11 (σ'=[some v,some (.ref fo),some (.ref l),s3,s4,s5,s6,s7]) (Same H H') (H l=none) (l≠fo) (H' fo=some (.lst fs)) (H' l=some (.lst ls)) (Paired (PPl H') Fd fs) (Paired (PPl H') L ls) (m=szP L) ((Fd++allP L).Perm (psub [] t)) (∀x∈L,x.1.length+x.2.size<=60)),
  ⟨szP [([],t)],l,[.ref pr],[],[([],t)],[],none,none,none,none,none,rfl,gA,(g1.trans g23).free hl,?_,g4 _ _ (g23 _ _ zAA),zAA,.nil,.cons ⟨v,⟨pr,pe,rfl,g4 _ _ zAA,g4 _ _ (g3 _ _ zAA)⟩,hR.mono gA.tk⟩ .nil,rfl,by simp[allP],by simpa using hsz⟩,?_⟩
 ·exact Ne.symm (zAN (g23 _ _ (zAA (H:=H) (a:=fo) (o:=.lst []))) hl)
 rintro m σ' Hw ⟨l,ls,fs,L,Fd,s3,s4,s5,s6,s7,rfl,gw,hl,hlf,ef,el,pF,pL,rfl,hperm,hdp0⟩;have lL:ls.length=L.length:=zAG pL;have lF:fs.length=Fd.length:=zAG pF;have hZ:=zFx L
 have hcnt:Fd.length+szP L<=60:=by
  have:=hperm.length_eq;rw[mK,zLW,zBS] at this;omega
 refine⟨_,rfl,_,.inl ⟨ls,SqL.of el,rfl⟩,?_⟩;refine ite2 (λ c=>?_) (λ c=>?_)
 ·refine⟨_,λ Ω Ω h=>h,?_⟩
  refine⟨_,rfl,.inl ⟨rfl,_,SqL.of ef⟩,_,rfl,fo,l,fs,ls,rfl,rfl,ef,el,zAz (by omega),?_⟩;have ef1:=@zAA Hw fo (.lst (fs++ls));have el1:(upd Hw fo (.lst (fs++ls))) l=some (.lst ls):=by rw[zAR hlf];exact el
  have gw1:Same H (upd Hw fo (.lst (fs++ls))):=zAW gw hfo;have tk1:Tk Hw (upd Hw fo (.lst (fs++ls))):=Tk.lst ef;show tSeq _ _ _ _ (upd Hw fo (.lst (fs++ls)));generalize upd Hw fo _=H1 at ef1 el1 gw1 tk1 ⊢;refine⟨(by show 0<=sizeLine;decide),λ dp hdp=>?_⟩;have g4:=zAC (o:=.lst []) hdp;have hdpH:H dp=none:=gw1.free hdp;have ndf:dp≠fo:=Ne.symm (zAN ef1 hdp);have ndl:dp≠l:=Ne.symm (zAN el1 hdp);refine⟨_,rfl,l,rfl,⟨ls,SqL.of (g4 _ _ el1)⟩,?_⟩;refine zA1 (xs:=ls) (λ i σ' H'=>E5 λ(dps:List V) (s4 s5 s6 s7:Option V)=>A7 (σ'=[some v,some (.ref fo),some (.ref l),some (.ref dp),s4,s5,s6,s7]) (Same H H') (Tk H1 H') (H' fo=some (.lst (fs++ls))) (H' l=some (.lst ls)) (H' dp=some (.lst dps)) (Paired (PPl H') ((L.take i).flatMap kidsP) dps)) ?_ ?_ ?_ ?_
  ·exact⟨[],s4,s5,s6,s7,rfl,gw1.trans g4,g4.tk,g4 _ _ ef1,g4 _ _ el1,zAA,.nil⟩
  ·rintro i σ1 H2 _ ⟨dps,s4,s5,s6,s7,rfl,g5,k5,ef5,el5,ed5,p5⟩
   exact SqL.of el5
  ·rintro i x σ1 H2 hx ⟨dps,s4,s5,s6,s7,rfl,g5,k5,ef5,el5,ed5,p5⟩
   obtain⟨⟨pl,tq⟩,eq,rq⟩:=zAJ pL hx;obtain⟨u,⟨b,c',rfl,hb,hc'⟩,ru⟩:=rq.mono (tk1.trans k5);dsimp only at hb hc' ru;refine⟨b,_,rfl,SqT.of hb,rfl,_,_,rfl,_,_,rfl,rfl,?_⟩
   have hflat:((L.take (i+1)).flatMap kidsP)=((L.take i).flatMap kidsP)++kidsP (pl,tq):=by
    rw[zAL eq,nI];simp
   have hlen:((L.take i).flatMap kidsP).length+(kidsP (pl,tq)).length<=60:=by
    have z2:=zL4 ((L.take (i+1)).flatMap kidsP);have z3:=zFx (L.take (i+1));have z4:szP (L.take (i+1))<=szP L:=by unfold szP;rw[List.map_take];exact zHG _ _
    rw[hflat,mK] at z2;rw[hflat] at z3;omega
   refine⟨_,rfl,tq,u,rfl,ru,λ pp H3 us g6 ep hus=>⟨pp,rfl,⟨us,SqT.of ep⟩,?_⟩⟩;have lus:us.length=tq.parts.length:=zAG hus;refine zHq (xs:=us) (λ j σ' H'=>E3 λ(dps':List V) (s6 s7:Option V)=>A7 (σ'=[some v,some (.ref fo),some (.ref l),some (.ref dp),some (.ref c'),some u,s6,s7]) (Same H H') (Tk H3 H') (H' fo=some (.lst (fs++ls))) (H' l=some (.lst ls)) (H' dp=some (.lst dps')) (Paired (PPl H') (((L.take i).flatMap kidsP)++(kidsP (pl,tq)).take j) dps')) ?_ ?_ ?_ ?_
   ·refine⟨dps,s6,s7,rfl,g5.trans g6,.refl _,g6 _ _ ef5,g6 _ _ el5,g6 _ _ ed5,?_⟩
    rw[List.take_zero,nO];exact Paired.mapP p5 λ Ω Ω z=>z.mono g6.tk
   ·rintro j σ3 H5 _ ⟨dps5,s6,s7,rfl,g7,k7,ef7,el7,ed7,p7⟩
    exact SqT.of (k7 _ _ ep)
   ·rintro j x T σ3 H5 hx ⟨dps5,s6,s7,rfl,g7,k7,ef7,el7,ed7,p7⟩ hT
    have gT:=zAC (o:=.tup [.int j,x]) hT;obtain⟨cc,ec,rc⟩:=zAJ hus hx;have kk:=zJU (pl:=pl) ec
    have ld:dps5.length<=60:=by
     rw[zAG p7,mK,mN];omega
    refine⟨T,_,rfl,SqT.of zAA,rfl,_,_,rfl,_,_,rfl,rfl,?_⟩;have ed8:=gT _ _ ed7;have hc8:(upd H5 T (.tup [.int j,x])) c'=some (.tup (pl.map V.int)):=gT.tk _ _ (k7 _ _ (g6.tk _ _ hc'));refine⟨_,rfl,.inl ⟨rfl,_,SqL.of ed8⟩,_,rfl,_,rfl,(by show 1<=sizeLine;decide),λ pj hpj=>?_⟩;have gj:=zAC (o:=.tup [.int j]) hpj
    have hpl:pl.length<=60:=by
     have h9:=hdp0 _ (lM eq);dsimp only at h9;omega
    refine⟨c',pj,_,_,rfl,rfl,gj.tk _ _ hc8,zAA,zAz (by simp;omega),λ pn H6 g9 e9=>?_⟩;refine⟨_,rfl,d2,λ pt hpt=>?_⟩;have g10:=zAC (o:=.tup [.ref pn,x]) hpt;have gB:=gT.trans (gj.trans (g9.trans g10));have ed9:=gB _ _ ed7;refine⟨dp,dps5,_,rfl,rfl,ed9,zAK (by omega),?_⟩;have tkz:Tk _ _:=Tk.lst (o:=.lst (dps5++[.ref pt])) ed9;have e9':H6 pn=some (.tup ((pl++[(j:Int)]).map V.int)):=by rw[e9,mP];rfl
    refine⟨dps5++[.ref pt],_,_,rfl,zAW (g7.trans gB) hdpH,k7.trans (gB.tk.trans tkz),by rw[zAR (Ne.symm ndf)];exact gB _ _ ef7,by rw[zAR (Ne.symm ndl)];exact gB _ _ el7,zAA,?_⟩;rw[zAL kk,←mX];exact zAM (Paired.mapP p7 λ Ω Ω z=>z.mono (gB.tk.trans tkz)) (.cons ⟨x,⟨pt,pn,rfl,tkz _ _ zAA,tkz _ _ (g10.tk _ _ e9')⟩,rc.mono (k7.trans (gB.tk.trans tkz))⟩ .nil)
   ·rintro σ3 H5 ⟨dps5,s6,s7,rfl,g7,k7,ef7,el7,ed7,p7⟩
    have ek:(kidsP (pl,tq)).take us.length=kidsP (pl,tq):=mU (by rw[zJT];omega);rw[ek,←hflat] at p7;exact⟨dps5,_,_,_,_,rfl,g7,k5.trans (g6.tk.trans k7),ef7,el7,ed7,p7⟩
  ·rintro σ1 H2 ⟨dps,s4,s5,s6,s7,rfl,g5,k5,ef5,el5,ed5,p5⟩
   rw[mU (by omega)] at p5
   have hpos:0<L.length:=by
    rw[←lL];cases ls with
    |nil=>simp at c
    |cons _ _=>simp
   refine⟨_,rfl,szP (L.flatMap kidsP),by omega,dp,dps,fs++ls,L.flatMap kidsP,Fd++L,some (.ref dp),s4,s5,s6,s7,rfl,g5,hdpH,ndf,ef5,ed5,zAM (Paired.mapP pF λ Ω Ω z=>z.mono (tk1.trans k5)) (Paired.mapP pL λ Ω Ω z=>z.mono (tk1.trans k5)),p5,rfl,?_,?_⟩
   ·rw[mX]
    exact((zFL L).symm.append_left Fd).trans hperm
   ·intro x hx
    obtain⟨y,hy,hx⟩:=mW.mp hx;have h9:=hdp0 y hy;unfold kidsP at hx;obtain⟨z,hz,rfl⟩:=mC.mp hx;have h8:z.1∈y.2.parts:=List.fst_mem_of_mem_zipIdx hz;have h7:=zEY h8;simp;omega
 ·have e0:ls=[]:=by
   cases ls with
   |nil=>rfl
   |cons _ _=>simp at c
  have eL:L=[]:=by
   subst e0;cases L with
   |nil=>rfl
   |cons _ _=>simp at lL
  subst eL;have hperm':Fd.Perm (psub [] t):=by simpa[allP] using hperm
  obtain⟨Z,w1,w2,w3⟩:=zGD pF;have hfst:((Z.map λ z=>(z.1.1,z.2)).map (·.1))=Fd.map (·.1):=by rw[←w1,nP,nP];rfl
  have hlz:Z.length=Fd.length:=by rw[←w1,mD]
  refine⟨_,rfl,fo,fs,Z.map λ z=>(z.1.1,z.2),rfl,ef,w2,?_,by rw[mD];omega,λ l' zs qs hl' pq hq hasc=>?_⟩
  ·rw[hfst]
   exact(hperm'.map _).nodup_iff.mpr (zCT t [])
  ·obtain⟨Z',z1,rfl⟩:=zJN _ hq rfl
   have gl:=zAC (o:=.lst zs) hl'
   have e1:(Z'.map (·.1)).Perm (psub [] t):=by
    refine(z1.map _).trans ?_;rw[w1];exact hperm'
   have e2:(Z'.map (·.1)).Pairwise λ a b=>lexB a.1 b.1=true:=by
    rw[List.pairwise_map] at hasc ⊢;exact hasc
   have e3:(psub [] t).Pairwise λ a b=>lexB a.1 b.1=true:=by
    have:=zBc t []
    rwa [List.pairwise_map] at this
   have e4:Z'.map (·.1)=psub [] t:=List.Perm.eq_of_pairwise (λ a b Ω Ω h1 h2=>by rw[zEe h1] at h2;cases h2) e2 e3 e1
   have e5:(Z'.map λ z=>z.1.2)=t.subs:=by
    rw[←zBb t [],←e4,nP];rfl
   have hj:=Paired.mapP (zHc pq λ z hz=>w3 z (z1.mem_iff.mp hz)) λ _ _ (⟨pl,h⟩:∃pl,PPl _ (pl,_) _)=>(⟨pl,h.mono gl.tk⟩:∃pl,PPl _ (pl,_) _);rw[e5] at hj;exact q l' zs _ (gw.trans gl) zAA hj
abbrev zEP:Stmt:=top 30
theorem zH3:zAT ["tree"] ["tree"] (zAH zEP):=scI
abbrev zBO:Stmt:=top 32
theorem zC0:zAT ["rule"] ["rule"] (zAH zBO):=scI
abbrev zCd:Stmt:=top 41
theorem zFW:zAT ["rule"] ["rule"] (zAH zCd):=scI
def zIh:Sp:=λ vs H Q Ω=>E2 λ(t:Tr) (v:V)=>A4 (vs=[v]) (Rep H t v) (t.size<=60) (∀(b:Bool) (H':Hp),Same H H'->(b=true↔loudT t)->Q (.bl b) H')
theorem zMb (F:Fun K "is_loud" "is_loud" zEP f fd) (z_any:mg "any" = none) (zOE:mg "LOUD_SIGNS" = some (.ref la)) (hL:zEx K la) (zOF:FnB P w K mg base k "all_parts" g1 gd1 ["tree"] zF7):FnOk P w K mg base CX0 (k+1) f fd ["tree"] zIh:=by
 refine F.ok zH3 (λ vs H Q E h=>?_) (λ cdv A outer s H vs Q E hr h=>?_)
 ·obtain⟨t,v,rfl,_⟩:=h
  rfl
 obtain⟨t,v,rfl,hR,hsz,q⟩:=h;refine⟨_,(zAF (zAU (zAt (zBr rfl) (by rfl) z_any PyProof.Rows.boot_any (zAB (zAk ["part"] [none] rfl (zAf (pe_cl zOF hr (zAB (pv 0) zAD))) (λ Ω Ω Ω Ω Ω=>(zAc (i:=0) (show List.Nodup (["part"]:List Str) by symm) rfl (Or.inl rfl))) (λ Ω Ω Ω Ω Ω=>zBF) (λ Ω Ω Ω Ω Ω=>(zA4 (r:=rIn K false) zBo (iC (r:=rIxT K) zAS (pv 0)) (zB8 (v:=.ref _) (by rfl) zOE (by rfl)) rfl)) rfl) zAD)))),?_⟩;refine⟨_,rfl,t,v,rfl,hR,hsz,λ l us F H1 g1 el pF hF=>⟨l,rfl,⟨us,SqL.of el⟩,λ acc hacc=>?_⟩⟩;have lu:us.length=F.length:=zAG pF;have lF:F.length=t.size:=by rw[hF.length_eq,zB9]
 refine zAl (xs:=us) (λ i H'=>Same H1 H'/\H' acc=some (.lst (((F.take i).map λ p=>p.kd.loud).map V.bl))) ⟨zAC hacc,zAA⟩ (λ i H' Ω h=>SqL.of (h.1 _ _ el)) ?_ ?_
 ·rintro i x Hx hx ⟨gx,ea⟩
  obtain⟨tq,eq,ru⟩:=zAJ pF hx;obtain⟨pa,hs,us',rfl,hpa,hhl,hparts⟩:=(ru.mono gx.tk).all;have at0:atI (V.str tq.kd.s::hs++us') 0=some (.str tq.kd.s):=zAQ (j:=0) rfl;refine⟨.skip .nil,_,rfl,pa,_,0,_,rfl,rfl,SqT.of hpa,at0,la,loudV,rfl,.inr (.inr hL),rfl,rfl,?_⟩;refine⟨_,ea,?_,zAW gx hacc,?_⟩
  ·rw[mD,mD,mN]
   exact zAK (by omega)
  ·rw[zAA,zAL eq,mP,mP]
   show some (HO.lst (_++[V.bl (inV (.str tq.kd.s) loudV)]))=_;rw[zG2];rfl
 rintro H2 ⟨g2,ea⟩;rw[mU (by omega)] at ea;exact⟨acc,_,rfl,ea,q _ H2 (g1.trans g2) (zLU λ p=>hF.mem_iff)⟩
def zHQ:Sp:=λ vs H Q Ω=>E4 λ(t:Tr) (p:Addr) (a:V) (r:List V)=>A4 (vs=[.ref p]) (H p=some (.tup (a::r))) (Rep H t a) (Q (.bl t.kd.leaf) H)
theorem zKt (F:Fun K "begins_with_leaf" "begins_with_leaf" zBO f fd) (zOB:mg "LEAF_SIGNS" = some (.ref lv)) (hL:zDM K lv):FnOk P w K mg base CX0 (k+1) f fd ["rule"] zHQ:=by
 refine F.ok zC0 (λ vs H Q E h=>?_) (λ cdv A outer s H vs Q E hr h=>?_)
 ·obtain⟨t,p,a,r,rfl,_⟩:=h
  rfl
 obtain⟨t,p,a,r,rfl,hp,hR,q⟩:=h;refine⟨_,(zAF (zAU (zA4 (r:=rIn K false) zBo (pe_ix (r:=rIxT K) zAS (iC (r:=rIxT K) zAS (pv 0)) zAI (λ Ω Ω=>rfl)) (zB8 (v:=.ref _) (by rfl) zOB (by rfl)) rfl))),?_⟩;obtain⟨pa,hs,us',rfl,hpa,hhl,hparts⟩:=hR.all;refine⟨_,rfl,p,_,0,_,rfl,rfl,SqT.of hp,zAQ (j:=0) rfl,pa,_,0,_,rfl,rfl,SqT.of hpa,zAQ (j:=0) rfl,lv,zDs,rfl,.inr (.inr hL),rfl,rfl,?_⟩;have:=zFj t.kd;show Q (.bl (inV (.str t.kd.s) zDs)) H;rw[this];exact q
def zHV:Sp:=λ vs H Q Ω=>E6 λ(t u:Tr) (p:Addr) (a b:V) (r:List V)=>A7 (vs=[.ref p]) (H p=some (.tup (a::b::r))) (Rep H t a) (Rep H u b) (t.size<=60) (u.size<=60) (∀(z:Bool) (H':Hp),Same H H'->(z=true↔loudT u/\¬loudT t)->Q (.bl z) H')
theorem zKx (F:Fun K "grows_loud" "grows_loud" zCd f fd) (zOG:FnB P w K mg base k "is_loud" g1 gd1 ["tree"] zIh):FnOk P w K mg base CX0 (k+1) f fd ["rule"] zHV:=by
 refine F.ok zFW (λ vs H Q E h=>?_) (λ cdv A outer s H vs Q E hr h=>?_)
 ·obtain⟨t,u,p,a,b,r,rfl,_⟩:=h
  rfl
 obtain⟨t,u,p,a,b,r,rfl,hp,ra,rb,st,su,q⟩:=h;refine⟨_,(zAF (zAU (zI3 (pe_cl zOG hr (zAB (iC (r:=rIxT K) zAS (pv 0)) zAD)) (zEX (zNe (pe_cl zOG hr (zAB (iC (r:=rIxT K) zAS (pv 0)) zAD))))))),?_⟩;refine⟨_,rfl,p,_,1,_,rfl,rfl,SqT.of hp,zAQ (j:=1) rfl,u,b,rfl,rb,su,λ z1 H1 g1 e1=>⟨_,rfl,ite2 (λ c=>?_) (λ c=>?_)⟩⟩
 ·refine⟨_,rfl,p,_,0,_,rfl,rfl,SqT.of (g1 _ _ hp),zAQ (j:=0) rfl,t,a,rfl,ra.mono g1.tk,st,λ z2 H2 g2 e2=>⟨_,rfl,q _ H2 (g1.trans g2) ?_⟩⟩
  have h1:=e1.mp c;cases z2 with
  |false=>exact⟨λ Ω=>⟨h1,λ z=>absurd (e2.mpr z) (by decide)⟩,λ Ω=>rfl⟩
  |true=>exact⟨(λ z=>by cases z),λ z=>absurd (e2.mp rfl) z.2⟩
 ·refine q _ H1 g1 ⟨(λ z=>by cases z),λ z=>absurd (e1.mpr z.1) c⟩
abbrev zCP:Stmt:=top 33
theorem zB1:zAT ["rule", "side", "bound"] ["rule"] (zAH zCP):=scI
def zHK:Sp:=λ vs H Q Ω=>E6 λ(t u:Tr) (p:Addr) (a b c:V)=>A7 (vs=[.ref p]) (H p=some (.tup [a,b,c])) (Rep H t a) (Rep H u b) (t.size<=60) (u.size<=60) (∀(z:Bool) (H':Hp),Same H H'->(z=true↔¬(letN t).Nodup\/¬(letN u).Nodup)->Q (.bl z) H')
theorem zKj (F:Fun K "binds_twice" "binds_twice" zCP f fd) (z_len:mg "len" = none) (z_set:mg "set" = none) (zOF:FnB P w K mg base k "all_parts" g1 gd1 ["tree"] zF7):FnOk P w K mg base CX0 (k+1) f fd ["rule"] zHK:=by
 refine F.ok zB1 (λ vs H Q E h=>?_) (λ cdv A outer s H vs Q E hr h=>?_)
 ·obtain⟨t,u,p,a,b,c,rfl,_⟩:=h
  rfl
 obtain⟨t,u,p,a,b,c,rfl,hp,ra,rb,st,su,q⟩:=h
 refine⟨_,(zAE (zAv PassesOwn.never rfl (zBm (zAg zCZ (pv 0) zA7 (zAh zAI))) (pGn (i:=1) zB1.nd) (zAE (zD8 (jj:=2) ["part"] [none] rfl (zAf (pe_cl zOF hr (zAB (pv 1) zAD))) (λ Ω Ω Ω Ω Ω=>(zAc (i:=0) (show List.Nodup (["part"]:List Str) by symm) rfl (Or.inl rfl))) (λ Ω Ω Ω Ω Ω=>(zCS (zAO op_eq (iC (r:=rIxT K) zAS (pv 0)) zAZ (zAY _)))) (λ Ω Ω Ω Ω Ω=>(iC (r:=rIxT K) zAS (pv 0))) rfl zB1.nd rfl (Or.inl rfl) (Or.inr rfl))
  (zAF (ps_if (zAO op_lt (zIA rfl (by rfl) z_len (by rfl) z_set (zAB (pv 2) zAD)) (cL z_len (zAB (pv 2) zAD)) (zAY _)) (zAF (zAU pe_bl)) zAV))))
  (zAF (zAU pe_bl))),?_⟩
 refine⟨_,rfl,_,rfl,p,_,rfl,hp,λ z=>?_,λ ps H1 g1 e1=>?_⟩
 ·exact absurd z (show ¬((0:Nat)=0/\(2:Nat)=3) by decide)
 have e1':H1 ps=some (.tup [a,b]):=e1;refine⟨ps,rfl,⟨_,SqT.of e1'⟩,?_⟩;refine zC5 (xs:=[a,b]) (λ i σ' H'=>E3 λ(s1 s2 s3:Option V)=>A3 (σ'=[some (.ref p),s1,s2]) (Same H1 H') (∀x∈[t,u].take i,(letN x).Nodup)) ⟨none,none,none,rfl,Same.refl _,by simp⟩ (λ i σ' H' _ h=>?_) ?_ ?_
 ·obtain⟨_,_,_,_,g,_⟩:=h
  exact SqT.of (g _ _ e1')
 ·rintro i x σ1 H2 hx ⟨s1,s2,s3,rfl,g2,hn⟩
  obtain⟨tq,etq,rq,sq⟩:∃tq,[t,u][i]?=some tq/\Rep H tq x/\tq.size<=60:=by
   match i,hx with
   |0,hx=>cases hx;exact⟨t,rfl,ra,st⟩
   |1,hx=>cases hx;exact⟨u,rfl,rb,su⟩
  have g12:=g1.trans g2;refine⟨_,rfl,tq,x,rfl,rq.mono g12.tk,sq,λ l us F H3 g3 el pF hF=>⟨l,rfl,⟨us,SqL.of el⟩,λ acc hacc=>?_⟩⟩;have lu:us.length=F.length:=zAG pF;have lF:F.length=tq.size:=by rw[hF.length_eq,zB9]
  refine zAl (xs:=us) (λ i H'=>Same H3 H'/\H' acc=some (.lst (((F.take i).filterMap letX).map V.str))) ⟨zAC hacc,zAA⟩ (λ i H' Ω h=>SqL.of (h.1 _ _ el)) ?_ ?_
  ·rintro j y Hx hy ⟨gx,ea⟩
   obtain⟨tr,er,rr⟩:=zAJ pF hy;have hj:j<F.length:=(lJ.mp er).1;obtain⟨pa,hs,us',rfl,hpa,hhl,hparts⟩:=(rr.mono gx.tk).all;have at0:atI (V.str tr.kd.s::hs++us') 0=some (.str tr.kd.s):=zAQ (j:=0) rfl;refine⟨.skip .nil,_,rfl,pa,_,0,_,rfl,rfl,SqT.of hpa,at0,rfl,_,rfl,ite2 (λ c=>?_) (λ c=>?_)⟩
   ·have cs:(letX tr).isSome=true:=(zLm tr).mp (V.str.inj (lT c))
    cases tr with
    |lett y a b =>
     have at1:atI (V.str Kd.lett.s::hs++us') 1=some (.str y):=by
      obtain⟨pa2,v1,v2,e2,h2,_⟩:=rr.mono gx.tk;cases e2;rw[hpa] at h2;have h3:=HO.tup.inj (mE h2);exact(congrArg (λ l=>atI l 1) h3).trans (zAQ (j:=1) rfl)
     refine⟨_,rfl,pa,_,1,_,rfl,rfl,SqT.of hpa,at1,?_⟩;refine⟨_,ea,?_,zAW gx hacc,?_⟩
     ·rw[mD]
      have:=List.length_filterMap_le letX (F.take j);rw[mN] at this;exact zAK (by omega)
     ·rw[zAA,zAL er,List.filterMap_append,mP]
      rfl
    |bin o a b=>cases o<;>cases cs
    |_=>cases cs
   ·have cn:letX tr=none:=by
     cases e:letX tr with
     |none=>rfl
     |some y=>exact absurd (lU (congrArg V.str ((zLm tr).mpr (by rw[e];rfl)))) c
    refine⟨gx,?_⟩;rw[ea,zAL er,List.filterMap_append];simp[cn]
  ·rintro H4 ⟨g4,ea⟩
   rw[mU (by omega)] at ea;have hB:(F.filterMap letX).Perm (letN tq):=hF.filterMap letX
   have bl:(F.filterMap letX).length<=60:=by
    have:=List.length_filterMap_le letX F;omega
   refine⟨_,rfl,acc,F.filterMap letX,rfl,SqL.of ea,by omega,_,rfl,acc,_,rfl,.inl (SqL.of ea),_,_,rfl,rfl,_,rfl,ite2 (λ c=>?_) (λ c=>?_)⟩
   ·have c':(((dd (F.filterMap letX)).length:Nat):Int)<((((F.filterMap letX).map V.str).length:Nat):Int):=lT c
    rw[mD] at c';have nn:¬(letN tq).Nodup:=λ z=>(zEp (F.filterMap letX)).mp (by omega) (hB.nodup_iff.mpr z);refine q true H4 (g12.trans (g3.trans g4)) ⟨λ Ω=>?_,λ Ω=>rfl⟩
    match i,etq with
    |0,e=>cases e;exact .inl nn
    |1,e=>cases e;exact .inr nn
   ·have c':¬(dd (F.filterMap letX)).length<(F.filterMap letX).length:=λ z=>c (lU (by
     show (((dd (F.filterMap letX)).length:Nat):Int)<((((F.filterMap letX).map V.str).length:Nat):Int);rw[mD];omega))
    have nd:(letN tq).Nodup:=hB.nodup_iff.mp (Classical.byContradiction λ z=>c' ((zEp _).mpr z));refine⟨_,_,none,rfl,g2.trans (g3.trans g4),λ y hy=>?_⟩;rw[zAL etq] at hy;rcases lK.mp hy with h|h
    ·exact hn y h
    ·rw[mQ.mp h];exact nd
 ·rintro σ1 H2 ⟨s1,s2,s3,rfl,g2,hn⟩
  refine q false H2 (g1.trans g2) ⟨(λ z=>by cases z),λ z=>?_⟩;rcases z with z|z
  ·exact absurd (hn t (by simp)) z
  ·exact absurd (hn u (by simp)) z
abbrev zDV:Stmt:=top 14
theorem zGo:zAT ["part"] ["part"] (zAH zDV):=scI
abbrev zDa:Stmt:=top 15
theorem zGr:zAT ["part", "number", "bound"] ["part", "number", "bound"] (zAH zDa):=scI
abbrev zCf:Stmt:=top 16
theorem zAi:zAT ["tree", "free", "level", "deeper", "part", "bound", "name", "number", "inner"] ["tree"] (zAH zCf):=scI
abbrev zBj:Stmt:=top 34
theorem zD4:zAT ["rule"] ["rule"] (zAH zBj):=scI
def zEH:Sp:=λ vs H Q Ω=>E2 λ t v=>A3 (vs=[v]) (Rep H t v) (∀l H',Same H H'->H l=none->H' l=some (.lst (t.names.map V.str))->Q (.ref l) H')
theorem zGx (F:Fun K "names_at" "names_at" zDV f fd):FnOk P w K mg base CX0 (k+1) f fd ["part"] zEH:=by
 refine F.ok zGo (λ vs H Q E h=>?_) (λ cdv A outer s H vs Q E hr h=>?_)
 ·obtain⟨t,v,rfl,_⟩:=h
  rfl
 obtain⟨t,v,rfl,hR,q⟩:=h
 refine⟨_,(zAE (ps_if (zAO op_eq (iC (r:=rIxT K) zAS (pv 0)) zAZ (zAY _)) (zAF (zAU (zAs (zAB (iC (r:=rIxT K) zAS (pv 0)) zAD):PE _ _ _))) zAV)
  (zAE (ps_if (zAO op_eq (iC (r:=rIxT K) zAS (pv 0)) zAZ (zAY _)) (zAF (zAU (zAk ["atom"] [none] rfl (zBm (iC (r:=rIxT K) zAS (pv 0))) (λ Ω Ω Ω Ω Ω=>(zAc (i:=0) (show List.Nodup (["atom"]:List Str) by symm) rfl (Or.inl rfl))) (λ Ω Ω Ω Ω Ω=>(zCS (zAO op_eq (iC (r:=rIxT K) zAS (pv 0)) zAZ (zAY _)))) (λ Ω Ω Ω Ω Ω=>(iC (r:=rIxT K) zAS (pv 0))) rfl))) zAV)
  (zAF (zAU (zAs zAD:PE _ _ _))))),?_⟩
 obtain⟨a,hs,us,rfl,ha,hl,hp⟩:=hR.all;have h0:atI (V.str t.kd.s::hs++us) 0=some (.str t.kd.s):=zAQ (j:=0) rfl;refine⟨_,rfl,a,_,0,_,rfl,rfl,SqT.of ha,h0,rfl,_,rfl,?_⟩;refine ite2 (λ c=>?_) (λ c=>?_)
 ·have z:t.kd = .name:=Kd.eq_iff.mp (lT c)
  cases t with
  |name x =>
   obtain⟨a,e,ha⟩:=hR;cases e;refine⟨_,rfl,a,_,1,_,rfl,rfl,SqT.of ha,rfl,(by show 1<=sizeLine;decide),λ l hn=>?_⟩;exact q l _ (zAC hn) hn zAA
  |bin o a b=>cases o<;>cases z
  |_=>cases z
 ·refine⟨_,rfl,a,_,0,_,rfl,rfl,SqT.of ha,h0,rfl,_,rfl,?_⟩
  refine ite2 (λ d=>?_) (λ d=>?_)
  ·have z:t.kd = .gap:=Kd.eq_iff.mp (lT d)
   cases t with
   |gap g as =>
    obtain⟨a,b,vs,e,ha,hb,hz,hp⟩:=hR;cases e;refine⟨_,rfl,a,_,2,_,rfl,rfl,SqT.of ha,rfl,b,rfl,⟨_,SqT.of hb⟩,λ acc hacc=>?_⟩;refine zLR (xs:=vs) (λ i H'=>Same H H'/\H' acc=some (.lst (((as.take i).flatMap Atom.names).map V.str))) ?_ ?_ ?_ ?_
    ·exact⟨zAC hacc,zAA⟩
    ·exact λ i H' Ω p=>SqT.of (p.1 _ _ hb)
    ·intro i x H1 hx ⟨g1,e1⟩
     obtain⟨at_,ea,ra⟩:=zAJ hp hx;have ra:=ra.mono g1.tk;have en:=zAL ea
     have small:((as.take i).flatMap Atom.names).length<=i:=by
      have:∀l:List Atom,(l.flatMap Atom.names).length<=l.length:=by
       intro l
       induction l with
       |nil=>simp
       |cons a r ih =>
        rw[rF,mK,mM];have:a.names.length<=1:=by cases a<;>simp[Atom.names]
        omega
      exact mG (this _) (by rw[mN];omega)
     have hi:i<vs.length:=(lJ.mp hx).1;refine⟨.skip .nil,?_⟩;cases at_ with
     |name y =>
      obtain⟨c,rfl,hc⟩:=ra;refine⟨_,rfl,c,_,0,_,rfl,rfl,SqT.of hc,rfl,rfl,_,rfl,?_⟩;refine iteY rfl ?_;refine⟨_,rfl,c,_,1,_,rfl,rfl,SqT.of hc,rfl,_,e1,?_,zAW g1 hacc,?_⟩
      ·rw[mD];exact zAK (by omega)
      ·rw[zAA,en,nI,mP];rfl
     |num n =>
      obtain⟨c,rfl,hc⟩:=ra;refine⟨_,rfl,c,_,0,_,rfl,rfl,SqT.of hc,rfl,rfl,_,rfl,?_⟩;refine iteN (by symm) ?_;exact⟨g1,by rw[e1,en,nI];simp[Atom.names]⟩
     |gap n =>
      obtain⟨c,d,rfl,hc,_⟩:=ra;refine⟨_,rfl,c,_,0,_,rfl,rfl,SqT.of hc,rfl,rfl,_,rfl,?_⟩;refine iteN (by symm) ?_;exact⟨g1,by rw[e1,en,nI];simp[Atom.names]⟩
    ·intro H1 ⟨g1,e1⟩
     refine q acc H1 g1 hacc ?_;rw[e1,←hp.length,mO];rfl
   |bin o a b=>cases o<;>cases z
   |_=>cases z
  ·refine⟨(by show 0<=sizeLine;decide),λ l hn=>?_⟩
   have e:t.names=[]:=by
    cases t with
    |name x=>exact absurd rfl c
    |gap g as=>exact absurd rfl d
    |_=>rfl
   refine q l _ (zAC hn) hn ?_;rw[e];exact zAA
def zEI:Sp:=λ vs H Q Ω=>E5 λ(t:Tr) (v:V) (i:Int) (b:Addr) (bs:List Str)=>A5 (vs=[v,.int i,.ref b]) (Rep H t v) (H b=some (.tup (bs.map V.str))) (bs.length<=900) (∀p H',Same H H'->H' p=some (.tup ((bIn t i bs).map V.str))->Q (.ref p) H')
theorem zGy (F:Fun K "bound_in" "bound_in" zDa f fd):FnOk P w K mg base CX0 (k+1) f fd ["part", "number", "bound"] zEI:=by
 refine F.ok zGr (λ vs H Q E h=>?_) (λ cdv A outer s H vs Q E hr h=>?_)
 ·obtain⟨t,v,i,b,bs,rfl,_⟩:=h
  rfl
 obtain⟨t,v,i,b,bs,rfl,hR,hb,hlen,q⟩:=h
 refine⟨_,(zAE (ps_if (zDu (zAO op_eq (iC (r:=rIxT K) zAS (pv 0)) zAZ (zAY _)) (zCg (zAO op_eq (pv 1) zAI (zAY _)))).pt (zAF (zAU (pe_op zGw (pv 2) (zBQ (zAB (iC (r:=rIxT K) zAS (pv 0)) zAD):PE _ _ _)))) zAV)
  (zAF (zAU (pv 2)))),?_⟩
 obtain⟨a,hs,us,rfl,ha,hl,hp⟩:=hR.all;have h0:atI (V.str t.kd.s::hs++us) 0=some (.str t.kd.s):=zAQ (j:=0) rfl;refine⟨_,rfl,a,_,0,_,rfl,rfl,SqT.of ha,h0,rfl,_,rfl,?_⟩;refine ite2 (λ c=>?_) (λ c=>?_)
 ·have z:t.kd = .lett:=Kd.eq_iff.mp (lT c)
  refine⟨_,rfl,rfl,_,rfl,?_⟩;cases t with
  |lett x s t =>
   obtain⟨a',u,w',e,ha',_⟩:=hR;cases e;refine ite2 (λ d=>?_) (λ d=>?_)
   ·have d':i=1:=V.int.inj (lT d)
    subst d';refine⟨_,rfl,_,rfl,a,_,1,_,rfl,rfl,SqT.of ha',rfl,(by show 1<=sizeLine;decide),λ p hpn=>?_⟩;refine⟨b,p,_,[.str x],rfl,rfl,zAC hpn _ _ hb,zAA,zAz (by rw[mD];show bs.length+1<=1000;omega),λ r H' g e=>?_⟩;refine q r H' ((zAC hpn).trans g) ?_;rw[e];simp[bIn]
   ·have d':¬i=1:=λ z=>d (by rw[z];exact lU rfl)
    refine⟨_,rfl,q b H (.refl H) ?_⟩;rw[hb];simp[bIn,d']
  |bin o a b=>cases o<;>cases z
  |_=>cases z
 ·refine iteF ?_
  refine⟨_,rfl,q b H (.refl H) ?_⟩
  have e:bIn t i bs=bs:=by
   cases t with
   |lett x s t=>exact absurd rfl c
   |_=>rfl
  rw[hb,e]
abbrev zN9 (ss:List Str):Prop:=ss.Pairwise (λ a b=>ltCps b.cps.toList a.cps.toList=false)
def zM8 (t:Tr) (H:Hp) (Q:VK):Prop:=∀(l:Addr) (H':Hp) (ss:List Str),Same H H'->H l=none->H' l=some (.lst (ss.map V.str))->ss.Nodup->zN9 ss->(∀x,x∈ss↔x∈t.fv [])->Q (.ref l) H'
def zDA:Sp:=λ vs H Q Ω=>E3 λ(t:Tr) (v:V) (ws:List Str)=>A6 (vs=[v]) (Rep H t v) (t.size<=500) (ws.length<64) (∀x∈t.fv [],x∈ws) (zM8 t H Q)
theorem zFc (F:Fun K "free_names" "free_names" zCf f fd) (z_sorted:mg "sorted" = none) (z_enumerate:mg "enumerate" = none)
  (zOD:FnB P w K mg base k "parts" g1 gd1 ["tree"] zCo) (zOH:FnB P w K mg base k "names_at" g2 gd2 ["part"] zEH) (zOI:FnB P w K mg base k "bound_in" g3 gd3 ["part", "number", "bound"] zEI) :
  FnOk P w K mg base CX0 (k+1) f fd ["tree"] zDA:=by
 refine F.ok zAi (λ vs H Q E h=>?_) (λ cdv A outer s H vs Q E hr h=>?_)
 ·obtain⟨t,v,ws,rfl,_⟩:=h
  rfl
 obtain⟨t,v,ws,rfl,hR,hsz,hws,hsub,q⟩:=h;have hu:=hu_of hr
 refine⟨_,(zAE (pS (i:=1) zAi.nd zDD)
  (zAE (pS (i:=2) zAi.nd (zAs (zAB (zBQ (zAB (pv 0) (zAB (zBQ zAD:PE _ _ _) zAD)):PE _ _ _) zAD):PE _ _ _))
  (zAE (zCv PassesOwn.never (zD7 (pv 2) (λ Ω=>rfl)) (zAE (pS (i:=3) zAi.nd (zAs zAD:PE _ _ _))
  (zAE (zAv PassesOwn.never rfl (zAf (pv 2)) (zCh rfl (zAa (pGn (i:=4) zAi.nd) (zAa (pGn (i:=5) zAi.nd) zBP))) (zAE (zAv PassesOwn.never rfl (zAf (pe_cl zOH hr (zAB (pv 4) zAD))) (pGn (i:=6) zAi.nd) (zAF (ps_if (zAO (r:=rIn K true) zDx (pv 6) (pv 5) rfl) (zAF (zFY hu (pv 1) (pv 6) pe_bl rfl)) zAV)))
  (zAF (zAv PassesOwn.never rfl (zIz (by rfl) z_enumerate (zAB (pe_cl zOD hr (zAB (pv 4) zAD)) zAD)) (zCh rfl (zAa (pGn (i:=7) zAi.nd) (zAa (pGn (i:=8) zAi.nd) zBP))) (zAF (pAp (pv 3) (zBQ (zAB (pv 8) (zAB (pe_cl zOI hr (zAB (pv 4) (zAB (pv 7) (zAB (pv 5) zAD)))) zAD)):PE _ _ _)))))))
  (zAF (pS (i:=2) zAi.nd (pv 3))))))
  (zAF (zAU (zAt (zD1 rfl) (by rfl) z_sorted PyProof.Rows.boot_sorted (zAB (pv 1) zAD))))))),?_⟩
 refine λ d hd=>⟨_,rfl,(by show 0<=sizeLine;decide),λ e he=>⟨(by show 2<=sizeLine;decide),λ pr hpr=>⟨(by show 1<=sizeLine;decide),λ l hl=>?_⟩⟩⟩;have g1:Same H (upd H d (.dK [])):=zAC hd;have g2:Same (upd H d (.dK [])) _:=zAC (o:=.tup []) he;have g3:=zAC (o:=.tup [v,.ref e]) hpr;have g4:=zAC (o:=.lst [.ref pr]) hl;have gAll:=g1.trans (g2.trans (g3.trans g4));have hld:l≠d:=Ne.symm (zAN (g3 _ _ (g2 _ _ zAA)) hl);have hlH:H l=none:=(g1.trans (g2.trans g3)).free hl
 refine⟨(λ m σ' H'=>E10 λ(l:Addr) (ps:List V) (lev:List (Tr × List Str)) (ks:List Str) (s3 s4 s5 s6 s7 s8:Option V)=>A12 (σ'=[some v,some (.ref d),some (.ref l),s3,s4,s5,s6,s7,s8]) (Same H H') (H l=none) (l≠d) (H' d=some (.dK (kvOf ks))) (H' l=some (.lst ps)) (Paired (zDq H') lev ps) ks.Nodup (m=total lev) (total lev<=500) (∀q∈lev,q.2.length+q.1.size<=500) (∀x,(x∈ks\/∃q∈lev,x∈q.1.fv q.2)↔x∈t.fv [])),
  ⟨t.size,l,_,[(t,[])],[],none,none,none,none,none,none,rfl,gAll,hlH,hld,g4 _ _ (g3 _ _ (g2 _ _ zAA)),zAA,.cons ⟨pr,v,e,rfl,g4 _ _ zAA,hR.mono gAll.tk,g4 _ _ (g3 _ _ zAA)⟩ .nil,List.nodup_nil,by simp[total],by simpa[total] using hsz,by simpa using hsz,by simp⟩,?_⟩
 rintro m σ' Hw ⟨l,ps,lev,ks,s3,s4,s5,s6,s7,s8,rfl,gw,hl,hld,ed,el,hp,hnd,rfl,htot,hdeep,hset⟩;refine⟨_,rfl,_,.inl ⟨ps,SqL.of el,rfl⟩,?_⟩;refine ite2 (λ c=>?_) (λ c=>?_)
 ·refine⟨_,λ Ω Ω h=>h,(by show 0<=sizeLine;decide),λ dp hdp=>⟨_,rfl,l,rfl,⟨ps,SqL.of (zAC hdp _ _ el)⟩,?_⟩⟩
  have gd:=zAC (o:=.lst []) hdp;have hdpH:H dp=none:=gw.free hdp;have ndd:dp≠d:=Ne.symm (zAN ed hdp);have ndl:dp≠l:=Ne.symm (zAN el hdp);refine zA1 (xs:=ps) (λ i σ' H'=>E7 λ(dps:List V) (ks':List Str) (s4 s5 s6 s7 s8:Option V)=>A9 (σ'=[some v,some (.ref d),some (.ref l),some (.ref dp),s4,s5,s6,s7,s8]) (Same H H') (Tk Hw H') (H' d=some (.dK (kvOf ks'))) (H' l=some (.lst ps)) (H' dp=some (.lst dps)) (Paired (zDq H') ((lev.take i).flatMap λ q=>kids q.1 q.2) dps) ks'.Nodup (∀x,x∈ks'↔x∈ks\/∃q∈lev.take i,x∈q.1.names/\x∉q.2)) ?_ ?_ ?_ ?_
  ·exact⟨[],ks,s4,s5,s6,s7,s8,rfl,gw.trans gd,gd.tk,gd _ _ ed,gd _ _ el,zAA,.nil,hnd,by simp⟩
  ·rintro i σ1 H1 _ ⟨dps,ks1,s4,s5,s6,s7,s8,rfl,g1,k1,ed1,el1,edp1,hp1,n1,m1⟩
   exact SqL.of el1
  ·rintro i x σ1 H1 hx ⟨dps,ks1,s4,s5,s6,s7,s8,rfl,g1,k1,ed1,el1,edp1,hp1,n1,m1⟩
   obtain⟨⟨tq,bs⟩,eq,rq⟩:=zAJ hp hx;have hmem:(tq,bs)∈lev:=lM eq;have hdq:=hdeep _ hmem;have spq:=zFU tq;dsimp only at hdq;obtain⟨a,u,b,rfl,ha,ru,hb⟩:=rq.mono k1;refine⟨a,_,rfl,SqT.of ha,rfl,_,_,rfl,_,_,rfl,rfl,?_⟩;refine⟨_,rfl,tq,u,rfl,ru,λ ln H2 g2 hln e2=>⟨ln,rfl,⟨_,SqL.of e2⟩,?_⟩⟩;have nlnd:ln≠d:=Ne.symm (zAN ed1 hln);have nlnl:ln≠l:=Ne.symm (zAN el1 hln);have nlnp:ln≠dp:=Ne.symm (zAN edp1 hln);refine zA1 (xs:=tq.names.map V.str) (λ j σ' H'=>E2 λ(ks':List Str) (s6:Option V)=>A9 (σ'=[some v,some (.ref d),some (.ref l),some (.ref dp),some u,some (.ref b),s6,s7,s8]) (Same H H') (Tk H2 H') (H' d=some (.dK (kvOf ks'))) (H' l=some (.lst ps)) (H' dp=some (.lst dps)) (H' ln=some (.lst (tq.names.map V.str))) ks'.Nodup (∀x,x∈ks'↔x∈ks1\/(x∈tq.names.take j/\x∉bs))) ?_ ?_ ?_ ?_
   ·exact⟨ks1,s6,rfl,g1.trans g2,.refl _,g2 _ _ ed1,g2 _ _ el1,g2 _ _ edp1,e2,n1,by simp⟩
   ·rintro j σ2 H3 _ ⟨ks2,s6,rfl,g3,k3,ed3,el3,edp3,eln3,n3,m3⟩
    exact SqL.of eln3
   ·rintro j x σ2 H3 hx ⟨ks2,s6,rfl,g3,k3,ed3,el3,edp3,eln3,n3,m3⟩
    rw[mJ] at hx;obtain⟨y,hy,rfl⟩:=lV.mp hx;have hb3:H3 b=some (.tup (bs.map V.str)):=k3 _ _ (g2.tk _ _ hb);refine⟨_,rfl,_,rfl,b,_,rfl,.inr (SqT.of hb3),rfl,zMw bs,_,rfl,?_⟩;show if (!inV (V.str y) (bs.map V.str))=true then _ else _
    rw[zFk];have et:=zAL hy
    have kle:ks2.length<=ws.length:=by
     refine zDF n3 λ z hz=>hsub z ((hset z).mp ?_);rcases (m3 z).mp hz with h|⟨h,h'⟩
     ·rcases (m1 z).mp h with h|⟨q',hq',h1,h2⟩
      ·exact .inl h
      ·exact .inr ⟨q',nD hq',(zEh _ _ _).mpr (.inl ⟨h1,h2⟩)⟩
     ·exact .inr ⟨(tq,bs),hmem,(zEh _ _ _).mpr (.inl ⟨nD h,h'⟩)⟩
    refine ite2 (λ c=>?_) (λ c=>?_)
    ·have ny:y∉bs:=by simpa using c
     refine⟨_,rfl,_,rfl,d,_,rfl,DPut.k (k:=Sum.inr y) ed3 (zAK (by rw[show (kvOf ks2).length=ks2.length from mD _];omega)),?_⟩;refine⟨addK ks2 y,some (.str y),rfl,zAW g3 hd,k3.trans (Tk.dk ed3),by rw[zAA,zKX],by rw[zAR hld];exact el3,by rw[zAR ndd];exact edp3,by rw[zAR nlnd];exact eln3,zIT n3,λ z=>?_⟩;rw[zK5,m3,et,nK,mQ];constructor
     ·rintro ((h|⟨h1,h2⟩)|h)
      ·exact .inl h
      ·exact .inr ⟨.inl h1,h2⟩
      ·exact .inr ⟨.inr h,h▸ny⟩
     ·rintro (h|⟨h1|h1,h2⟩)
      ·exact .inl (.inl h)
      ·exact .inl (.inr ⟨h1,h2⟩)
      ·exact .inr h1
    ·have ny:y∈bs:=by simpa using c
     refine⟨ks2,some (.str y),rfl,g3,k3,ed3,el3,edp3,eln3,n3,λ z=>?_⟩;rw[m3,et,nK,mQ];constructor
     ·rintro (h|⟨h1,h2⟩)
      ·exact .inl h
      ·exact .inr ⟨.inl h1,h2⟩
     ·rintro (h|⟨h1|h1,h2⟩)
      ·exact .inl h
      ·exact .inr ⟨h1,h2⟩
      ·exact absurd (h1▸ny) h2
   ·rintro σ2 H3 ⟨ks2,s6,rfl,g3,k3,ed3,el3,edp3,eln3,n3,m3⟩
    rw[mD,mO] at m3;have k13:Tk H1 H3:=g2.tk.trans k3;have ru3:=ru.mono k13;refine⟨_,rfl,tq,u,rfl,ru3,λ pt H4 us g4 e4 hus=>⟨pt,rfl,⟨us,SqT.of e4⟩,?_⟩⟩;have hk:=zLB tq bs;have hul:us.length=(kids tq bs).length:=by rw[hk,hus.length]
    have hb4:H4 b=some (.tup (bs.map V.str)):=g4.tk _ _ (k13 _ _ hb);have ru4:=ru3.mono g4.tk;refine zHq (xs:=us) (λ j σ' H'=>E3 λ(dps':List V) (s7 s8:Option V)=>A7 (σ'=[some v,some (.ref d),some (.ref l),some (.ref dp),some u,some (.ref b),s6,s7,s8]) (Same H H') (Tk H4 H') (H' d=some (.dK (kvOf ks2))) (H' l=some (.lst ps)) (H' dp=some (.lst dps')) (Paired (zDq H') (((lev.take i).flatMap λ q=>kids q.1 q.2)++(kids tq bs).take j) dps')) ?_ ?_ ?_ ?_
    ·exact⟨dps,s7,s8,rfl,g3.trans g4,.refl _,g4 _ _ ed3,g4 _ _ el3,g4 _ _ edp3,by
      rw[List.take_zero,nO];exact Paired.mapP hp1 λ Ω Ω z=>z.mono (k13.trans g4.tk)⟩
    ·rintro j σ3 H5 _ ⟨dps5,s7,s8,rfl,g5,k5,ed5,el5,edp5,hp5⟩
     exact SqT.of (k5 _ _ e4)
    ·rintro j x T σ3 H5 hx ⟨dps5,s7,s8,rfl,g5,k5,ed5,el5,edp5,hp5⟩ hT
     have gT:=zAC (o:=.tup [.int j,x]) hT;obtain⟨c,ec,rc⟩:=zAJ hus hx;have kk:=zLC tq bs j c ec;have hj:j<us.length:=(lJ.mp hx).1;refine⟨T,_,rfl,SqT.of zAA,rfl,_,_,rfl,_,_,rfl,rfl,?_⟩;have edp6:=gT _ _ edp5;refine⟨_,rfl,.inl ⟨rfl,_,SqL.of edp6⟩,_,rfl,_,rfl,_,rfl,_,rfl,tq,u,j,b,bs,rfl,ru4.mono (k5.trans gT.tk),gT.tk _ _ (k5 _ _ hb4),by omega,λ p H6 g6 e6=>⟨(by show 2<=sizeLine;decide),λ pq hpq=>?_⟩⟩;have gq:=zAC (o:=.tup [x,.ref p]) hpq;have gA:=gT.trans (g6.trans gq);have edp7:=gA _ _ edp5
     have tot:dps5.length<=500:=by
      rw[←hp5.length,mK,mN];have l1:=zEf ((lev.take i).flatMap λ q=>kids q.1 q.2);have l2:=zHm (lev.take i);have l3:total (lev.take (i+1))<=total lev:=zH0 lev _;rw[zAL eq,zCX,zDO,zIY] at l3;have l4:=zFH tq bs;have l5:=zEf (kids tq bs);dsimp only at l3;omega
     refine⟨dp,_,_,rfl,rfl,edp7,zAK (by omega),?_⟩;have kset:Tk H5 (upd (upd H6 pq (.tup [x,.ref p])) dp (.lst (dps5++[.ref pq]))):=gA.tk.trans (Tk.lst edp7);refine⟨_,_,_,rfl,zAW (g5.trans gA) hdpH,k5.trans kset,by rw[zAR (Ne.symm ndd)];exact gA _ _ ed5,by rw[zAR (Ne.symm ndl)];exact gA _ _ el5,zAA,?_⟩;rw[zAL kk,←mX];refine zAM (Paired.mapP hp5 λ Ω Ω z=>z.mono kset) (.cons ⟨pq,x,p,rfl,Tk.lst edp7 _ _ zAA,rc.mono (k5.trans kset),Tk.lst edp7 _ _ (gq _ _ e6)⟩ .nil)
    ·rintro σ3 H5 ⟨dps5,s7,s8,rfl,g5,k5,ed5,el5,edp5,hp5⟩
     refine⟨dps5,ks2,some u,some (.ref b),s6,s7,s8,rfl,g5,k1.trans (k13.trans (g4.tk.trans k5)),ed5,el5,edp5,?_,n3,λ z=>?_⟩
     ·rw[hul,mO] at hp5
      rw[zAL eq,nI];simpa using hp5
     ·rw[m3,m1,zAL eq]
      simp only[nK,mQ];constructor
      ·rintro ((h|⟨q',hq',h⟩)|h)
       ·exact .inl h
       ·exact .inr ⟨q',.inl hq',h⟩
       ·exact .inr ⟨(tq,bs),.inr rfl,h⟩
      ·rintro (h|⟨q',hq'|hq',h⟩)
       ·exact .inl (.inl h)
       ·exact .inl (.inr ⟨q',hq',h⟩)
       ·subst hq';exact .inr h
  ·rintro σ1 H1 ⟨dps,ks1,s4,s5,s6,s7,s8,rfl,g1,k1,ed1,el1,edp1,hp1,n1,m1⟩
   have hlen:ps.length=lev.length:=hp.length.symm;rw[hlen,mO] at hp1 m1
   have pos:0<lev.length:=by
    rw[←hlen];cases ps with
    |nil=>simp at c
    |cons _ _=>simp
   have lk:=zHm lev;refine⟨_,rfl,_,?_,dp,dps,_,ks1,some (.ref dp),s4,s5,s6,s7,s8,rfl,g1,hdpH,ndd,ed1,edp1,hp1,n1,rfl,by omega,λ q' hq'=>?_,λ x=>?_⟩
   ·omega
   ·obtain⟨r,hr',hq''⟩:=mW.mp hq'
    exact zJR r.1 r.2 500 (hdeep r hr') q' hq''
   ·rw[←hset,m1]
    constructor
    ·rintro ((h|⟨r,hr',h⟩)|⟨q',hq',h⟩)
     ·exact .inl h
     ·exact .inr ⟨r,hr',(zEh _ _ _).mpr (.inl h)⟩
     ·obtain⟨r,hr',hq''⟩:=mW.mp hq'
      exact .inr ⟨r,hr',(zEh _ _ _).mpr (.inr ⟨q',hq'',h⟩)⟩
    ·rintro (h|⟨r,hr',h⟩)
     ·exact .inl (.inl h)
     ·rcases (zEh _ _ _).mp h with h|⟨q',hq',h⟩
      ·exact .inl (.inr ⟨r,hr',h⟩)
      ·exact .inr ⟨q',mW.mpr ⟨r,hr',hq'⟩,h⟩
 ·have e0:ps=[]:=by
   cases ps with
   |nil=>rfl
   |cons _ _=>exact absurd rfl c
  subst e0;cases hp;have hk:∀x,x∈ks↔x∈t.fv []:=λ x=>by rw[←hset];simp
  refine⟨_,rfl,d,kvOf ks,ks,rfl,ed,by simp[kvOf,nP,Function.comp_def],?_,λ r ss hr' hperm hris=>?_⟩
  ·exact Nat.lt_of_le_of_lt (zDF hnd λ x hx=>hsub x ((hk x).mp hx)) hws
  ·exact q r _ ss (gw.trans (zAC hr')) (gw.free hr') zAA (hperm.nodup_iff.mpr hnd) hris λ x=>by rw[hperm.mem_iff,hk]
def zE8:Sp:=λ vs H Q Ω=>E7 λ(t u:Tr) (p:Addr) (a b c:V) (ws:List Str)=>A10 (vs=[.ref p]) (H p=some (.tup [a,b,c])) (Rep H t a) (Rep H u b) (t.size<=60) (u.size<=60) (ws.length<64) (∀x∈t.fv [],x∈ws) (∀x∈u.fv [],x∈ws) (∀(z:Bool) (H':Hp),Same H H'->(z=true↔t.fv []≠[]\/u.fv []≠[])->Q (.bl z) H')
theorem zIF (F:Fun K "has_free_name" "has_free_name" zBj f fd) (z_len:mg "len" = none) (z_any:mg "any" = none) (zOJ:FnB P w K mg base k "free_names" g1 gd1 ["tree"] zDA):FnOk P w K mg base CX0 (k+1) f fd ["rule"] zE8:=by
 refine F.ok zD4 (λ vs H Q E h=>?_) (λ cdv A outer s H vs Q E hr h=>?_)
 ·obtain⟨t,u,p,a,b,c,ws,rfl,_⟩:=h
  rfl
 obtain⟨t,u,p,a,b,c,ws,rfl,hp,ra,rb,st,su,hws,ft,fu,q⟩:=h;refine⟨_,(zAF (zAU (zAt (zBr rfl) (by rfl) z_any PyProof.Rows.boot_any (zAB (zAk ["side"] [none] rfl (zBm (zAg zCZ (pv 0) zA7 (zAh zAI))) (λ Ω Ω Ω Ω Ω=>(zAc (i:=0) (show List.Nodup (["side"]:List Str) by symm) rfl (Or.inl rfl))) (λ Ω Ω Ω Ω Ω=>zBF) (λ Ω Ω Ω Ω Ω=>(zA4 op_gt (zAt (r:=rLen K) zJ6 (by rfl) z_len PySem.boot_len (zAB (pe_cl zOJ hr (zAB (pv 0) zAD)) zAD)) zAI (zAY _))) rfl) zAD)))),?_⟩;refine⟨_,rfl,_,rfl,p,_,rfl,hp,λ z=>?_,λ ps H1 g1 e1=>?_⟩
 ·exact absurd z (show ¬((0:Nat)=0/\(2:Nat)=3) by decide)
 have e1':H1 ps=some (.tup [a,b]):=e1;refine⟨ps,rfl,⟨_,SqT.of e1'⟩,λ acc hacc=>?_⟩;refine zBq (xs:=[a,b]) (λ i H'=>Same H1 H'/\∃bs:List Bool,H' acc=some (.lst (bs.map V.bl))/\bs.length=i/\(bs.any id=true↔∃x∈[t,u].take i,x.fv []≠[])) ⟨zAC hacc,[],zAA,rfl,by simp⟩ (λ i H' Ω h=>SqT.of (h.1 _ _ e1')) ?_ ?_
 ·rintro i x H2 hx ⟨g2,bs,ea,lb,hb⟩
  obtain⟨tq,etq,rq,sq,fq⟩:∃tq,[t,u][i]?=some tq/\Rep H tq x/\tq.size<=60/\∀x∈tq.fv [],x∈ws:=by
   match i,hx with
   |0,hx=>cases hx;exact⟨t,rfl,ra,st,ft⟩
   |1,hx=>cases hx;exact⟨u,rfl,rb,su,fu⟩
  have g12:=g1.trans g2;have hi:i<2:=(lJ.mp hx).1;refine⟨.skip .nil,_,rfl,tq,x,ws,rfl,rq.mono g12.tk,by omega,hws,fq,λ l H3 ss g3 hln el nd rs hss=>?_⟩;refine⟨l,_,rfl,.inl (SqL.of el),_,_,rfl,rfl,?_⟩;refine⟨_,g3 _ _ ea,zAK (by rw[mD];omega),zAW (g2.trans g3) hacc,bs++[decide (0<ss.length)],?_,by simp[lb],?_⟩
  ·rw[zAA,mP]
   have e9:decide ((0:Int)<(((ss.map V.str).length:Nat):Int))=decide (0<ss.length):=by
    rw[mD,Bool.eq_iff_iff,decide_eq_true_iff,decide_eq_true_iff];omega
   show some (HO.lst (_++[V.bl (decide ((0:Int)<(((ss.map V.str).length:Nat):Int)))]))=_;rw[e9];rfl
  ·rw[List.any_append,Bool.or_eq_true,hb,zAL etq]
   have e8 : [decide (0<ss.length)].any id=true↔tq.fv []≠[]:=by
    simp only[List.any_cons,List.any_nil,Bool.or_false,id_eq,decide_eq_true_iff];constructor
    ·intro h z
     cases ss with
     |nil=>cases h
     |cons x ss=>have:=(hss x).mp lO;rw[z] at this;cases this
    ·intro h
     cases e:tq.fv [] with
     |nil=>exact absurd e h
     |cons x r =>
      have:=(hss x).mpr (by rw[e];exact lO);exact List.length_pos_of_mem this
   rw[e8];constructor
   ·rintro (⟨y,hy,h⟩|h)
    ·exact⟨y,mF _ hy,h⟩
    ·exact⟨tq,by simp,h⟩
   ·rintro⟨y,hy,h⟩
    rcases lK.mp hy with z|z
    ·exact .inl ⟨y,z,h⟩
    ·rw[mQ.mp z] at h;exact .inr h
 ·rintro H2 ⟨g2,bs,ea,lb,hb⟩
  refine⟨acc,bs,rfl,ea,q _ H2 (g1.trans g2) (hb.trans ?_)⟩;simp
abbrev zC2:Stmt:=top 27
theorem zGA:zAT ["shape"] ["shape"] (zAH zC2):=scI
abbrev zB5:Stmt:=top 28
theorem zBh:zAT ["shape", "counted", "part"] ["shape"] (zAH zB5):=scI
abbrev zER:Stmt:=top 29
theorem zCr:zAT ["shape", "first", "gap", "many"] ["shape"] (zAH zER):=scI
def zFS:Sp:=λ vs H Q Ω=>E2 λ(t:Tr) (v:V)=>A4 (vs=[v]) (Rep H t v) (t.size<=60) (∀(l:Addr) (us:List V) (H':Hp),Same H H'->H l=none->H' l=some (.lst us)->Paired (Rep H') (t.subs.filter isGap) us->Q (.ref l) H')
theorem zMg (F:Fun K "gap_parts" "gap_parts" zC2 f fd) (zOK:FnB P w K mg base k "placed_parts" g1 gd1 ["tree"] zF3):FnOk P w K mg base CX0 (k+1) f fd ["shape"] zFS:=by
 refine F.ok zGA (λ vs H Q E h=>?_) (λ cdv A outer s H vs Q E hr h=>?_)
 ·obtain⟨t,v,rfl,_⟩:=h
  rfl
 obtain⟨t,v,rfl,hR,hsz,q⟩:=h;refine⟨_,(zAF (zAU (zAk ["place", "part"] [none,none] rfl (zAf (pe_cl zOK hr (zAB (pv 0) zAD))) (λ Ω Ω Ω Ω Ω=>(zFZ (K:=K) (n:=2) rfl rfl (zAa (zAc (i:=0) (show List.Nodup (["place", "part"]:List Str) by symm) rfl (Or.inl rfl)) (zAa (zAc (i:=1) (show List.Nodup (["place", "part"]:List Str) by symm) rfl (Or.inl rfl)) zBP)))) (λ Ω Ω Ω Ω Ω=>(zCS (zAO op_eq (iC (r:=rIxT K) zAS (pv 1)) zAZ (zAY _)))) (λ Ω Ω Ω Ω Ω=>(pv 1)) rfl))),?_⟩;refine⟨_,rfl,t,v,rfl,hR,hsz,λ l us H1 g1 el pF=>⟨l,rfl,⟨us,SqL.of el⟩,λ acc hacc=>?_⟩⟩;have lu:us.length=t.subs.length:=zAG pF;have ls:=zB9 t;refine zAl (xs:=us) (λ i H'=>Same H1 H'/\∃(zs:List V),H' acc=some (.lst zs)/\Paired (Rep H') ((t.subs.take i).filter isGap) zs) ⟨zAC hacc,[],zAA,.nil⟩ (λ i H' Ω h=>SqL.of (h.1 _ _ el)) ?_ ?_
 ·rintro i x Hx hx ⟨gx,zs,ez,pG⟩
  obtain⟨tq,eq,pl,u,⟨b,c,rfl,hb,_⟩,ru⟩:=zAJ pF hx;have hi:i<us.length:=(lJ.mp hx).1;have lz:=zAG pG;have lz2:=List.length_filter_le isGap (t.subs.take i);rw[mN] at lz2;have ru':=ru.mono gx.tk;dsimp only at hb ru';obtain⟨pa,hs,us',rfl,hpa,hhl,hparts⟩:=ru'.all;have at0:atI (V.str tq.kd.s::hs++us') 0=some (.str tq.kd.s):=zAQ (j:=0) rfl;have htk:=zAL eq;refine⟨b,_,rfl,SqT.of (gx _ _ hb),rfl,_,_,rfl,_,_,rfl,rfl,.skip (.skip .nil),?_⟩;refine⟨_,rfl,pa,_,0,_,rfl,rfl,SqT.of hpa,at0,rfl,_,rfl,ite2 (λ c=>?_) (λ c=>?_)⟩
  ·have z:tq.kd = .gap:=Kd.eq_iff.mp (lT c)
   have tkz:Tk Hx (upd Hx acc (.lst (zs++[.ref pa]))):=Tk.lst ez;refine⟨_,rfl,zs,ez,zAK (by omega),zAW gx hacc,zs++[.ref pa],zAA,?_⟩;rw[htk,List.filter_append,show [tq].filter isGap=[tq] by rw[List.filter_cons_of_pos (by exact decide_eq_true z)];rfl];exact zAM (Paired.mapP pG λ Ω Ω z=>z.mono tkz) (.cons (ru'.mono tkz) .nil)
  ·have z:¬tq.kd = .gap:=λ z=>c (lU (by rw[z];rfl))
   refine⟨gx,zs,ez,?_⟩;rw[htk,List.filter_append,show [tq].filter isGap=[] by rw[List.filter_cons_of_neg (by exact λ w=>z (of_decide_eq_true w))];rfl,nO];exact pG
 rintro H2 ⟨g2,zs,ez,pG⟩;rw[mU (by omega)] at pG;exact q acc zs H2 (g1.trans g2) (g1.free hacc) ez pG
def zDQ:Sp:=λ vs H Q Ω=>E2 λ(t:Tr) (v:V)=>A5 (vs=[v]) (Rep H t v) (t.size<=60) (∀p∈t.subs,(cnt1 p).length<=10) (∀(l:Addr) (us:List V) (H':Hp),Same H H'->H' l=some (.lst us)->Paired (WN H') (gcnt t) us->us.length<=600->Q (.ref l) H')
theorem zIG (F:Fun K "counted_gaps" "counted_gaps" zB5 f fd) (z_len:mg "len" = none) (zOL:FnB P w K mg base k "gap_parts" g1 gd1 ["shape"] zFS):FnOk P w K mg base CX0 (k+1) f fd ["shape"] zDQ:=by
 refine F.ok zBh (λ vs H Q E h=>?_) (λ cdv A outer s H vs Q E hr h=>?_)
 ·obtain⟨t,v,rfl,_⟩:=h
  rfl
 obtain⟨t,v,rfl,hR,hsz,h10,q⟩:=h
 refine⟨_,(Sd.un (zAX (pSS (i:=1) zBh.nd (zDb ⟨zAD⟩))
  (zAX ⟨zAv PassesOwn.never rfl (zAf (pe_cl zOL hr (zAB (pv 0) zAD))) (pGn (i:=2) zBh.nd) (zAE (pAp (pv 1) (zBQ (zAB (iC (r:=rIxT K) zAS (pv 2)) (zAB (cL z_len (zAB (iC (r:=rIxT K) zAS (pv 2)) zAD)) zAD)):PE _ _ _))
  (zAF (zCU (pe_bm rS rW rX zDG (pv 1) (zAB (zAk ["atom"] [none] rfl (zBm (iC (r:=rIxT K) zAS (pv 2))) (λ Ω Ω Ω Ω Ω=>(zAc (i:=0) (show List.Nodup (["atom"]:List Str) by symm) rfl (Or.inl rfl))) (λ Ω Ω Ω Ω Ω=>(zCS (zAO op_eq (iC (r:=rIxT K) zAS (pv 0)) zAZ (zAY _)))) (λ Ω Ω Ω Ω Ω=>(zBQ (zAB (iC (r:=rIxT K) zAS (pv 0)) (zAB zAI zAD)):PE _ _ _)) rfl) zAD)))))⟩
  (zAj (zA3 ⟨pv 1⟩))))),?_⟩
 have d2:2<=sizeLine:=by decide
 refine⟨(by show 0<=sizeLine;decide),λ co hco=>?_⟩;have g0:=zAC (o:=.lst []) hco;have eco:=@zAA H co (.lst []);have hR0:=hR.mono g0.tk;show tSeq _ _ _ _ (upd H co (.lst []));generalize upd H co _=H0 at g0 eco hR0 ⊢;refine⟨_,rfl,t,v,rfl,hR0,hsz,λ l us H1 g1 hln el pF=>⟨l,rfl,⟨us,SqL.of el⟩,?_⟩⟩;have hF:∀p,p∈t.subs.filter isGap↔p∈t.subs/\p.kd = .gap:=λ p=>by rw[List.mem_filter];exact⟨λ h=>⟨h.1,lT h.2⟩,λ h=>⟨h.1,lU h.2⟩⟩
 have hl:(t.subs.filter isGap).length<=60:=by have:=List.length_filter_le isGap t.subs;have:=zB9 t;omega
 have eF:=zJc t;generalize t.subs.filter isGap=F at pF hF hl eF;have lu:us.length=F.length:=zAG pF;have nlc:l≠co:=λ z=>by rw[z,eco] at hln;cases hln
 have bound:∀i,((F.take i).flatMap cnt1).length<=10 * i:=λ i=>by
  have key:∀L:List Tr,(∀p∈L,(cnt1 p).length<=10)->(L.flatMap cnt1).length<=10 * L.length:=by
   intro L
   induction L with
   |nil=>simp
   |cons a L ih =>
    intro h;have h1:=h a lO;have h2:=ih λ p hp=>h p (lP _ hp);rw[rF,mK,mM];omega
  have:=key (F.take i) λ p hp=>h10 p ((hF p).mp (nD hp)).1;rw[mN] at this;omega
 refine zA1 (xs:=us) (λ i σ' H'=>E2 λ(cs:List V) (s2:Option V)=>A6 (σ'=[some v,some (.ref co),s2]) (Same H H') (Tk H1 H') (H' l=some (.lst us)) (H' co=some (.lst cs)) (Paired (WN H') ((F.take i).flatMap cnt1) cs)) ?_ ?_ ?_ ?_
 ·exact⟨[],none,rfl,g0.trans g1,.refl _,el,g1 _ _ eco,.nil⟩
 ·rintro i σ' H' _ ⟨cs,s2,rfl,g,tk,el',ec,pc⟩
  exact SqL.of el'
 ·rintro i x σ' H' hx ⟨cs,s2,rfl,g,tk,el',ec,pc⟩
  obtain⟨tq,eq,rq⟩:=zAJ pF hx;have hi:i<us.length:=(lJ.mp hx).1;have lc:cs.length=((F.take i).flatMap cnt1).length:=zAG pc;have bi:=bound i;have bi1:=bound (i+1);have htk:(F.take (i+1)).flatMap cnt1=(F.take i).flatMap cnt1++cnt1 tq:=by rw[zAL eq,nI];simp
  rw[htk,mK] at bi1;have z:=((hF tq).mp (lM eq)).2;cases tq with
  |gap gx as =>
   obtain⟨pa,b',us2,rfl,ha',hb',hl2,pas⟩:=rq.mono tk;have las:us2.length=as.length:=zAG pas;have at1:atI [V.str "gap", .str gx,.ref b'] 1=some (.str gx):=zAQ (j:=1) rfl;have at2:atI [V.str "gap", .str gx,.ref b'] 2=some (.ref b'):=zAQ (j:=2) rfl;refine⟨_,rfl,.inl ⟨rfl,_,SqL.of ec⟩,_,rfl,pa,_,1,_,rfl,rfl,SqT.of ha',at1,_,rfl,pa,_,2,_,rfl,rfl,SqT.of ha',at2,b',us2,rfl,.inr (SqT.of hb'),d2,λ pt hpt=>?_⟩;have k1:=zAC (o:=.tup [.str gx,.int ((us2.length:Nat):Int)]) hpt;have ec1:=k1 _ _ ec;refine⟨co,cs,_,rfl,rfl,ec1,zAK (by omega),?_⟩;have k2:Tk (upd H' pt (.tup [.str gx,.int ((us2.length:Nat):Int)])) (upd (upd H' pt (.tup [.str gx,.int ((us2.length:Nat):Int)])) co (.lst (cs++[.ref pt]))):=Tk.lst ec1;have g2:Same H (upd (upd H' pt (.tup [.str gx,.int ((us2.length:Nat):Int)])) co (.lst (cs++[.ref pt]))):=zAW (g.trans k1) hco;have el2:(upd (upd H' pt (.tup [.str gx,.int ((us2.length:Nat):Int)])) co (.lst (cs++[.ref pt]))) l=some (.lst us):=by rw[zAR nlc];exact k1 _ _ el'
   have ec2:=@zAA (upd H' pt (.tup [.str gx,.int ((us2.length:Nat):Int)])) co (.lst (cs++[.ref pt]));have tk2:=tk.trans (k1.tk.trans k2);have ha2:=(k1.tk.trans k2) _ _ ha';have hb2:=(k1.tk.trans k2) _ _ hb';have pas2:Paired (AtRep (upd (upd H' pt (.tup [.str gx,.int ((us2.length:Nat):Int)])) co (.lst (cs++[.ref pt])))) as us2:=Paired.mapP pas λ Ω Ω z=>z.mono (k1.tk.trans k2);have pc2:Paired (WN (upd (upd H' pt (.tup [.str gx,.int ((us2.length:Nat):Int)])) co (.lst (cs++[.ref pt])))) ((F.take i).flatMap cnt1++[(gx,as.length)]) (cs++[.ref pt]):=zAM (Paired.mapP pc λ Ω Ω z=>z.mono (k1.tk.trans k2)) (.cons ⟨pt,rfl,by rw[←las];exact k2 _ _ zAA⟩ .nil);generalize upd (upd H' pt _) co _=H2 at g2 el2 ec2 tk2 ha2 hb2 pas2 pc2 ⊢;refine⟨_,rfl,.inl ⟨rfl,_,SqL.of ec2⟩,_,rfl,pa,_,2,_,rfl,rfl,SqT.of ha2,at2,b',rfl,⟨us2,SqT.of hb2⟩,λ acc hacc=>?_⟩;have b3:(cnt1 (.gap gx as)).length=1+(as.flatMap λ a=>(agap a).map λ h=>(h,0)).length:=by simp[cnt1];omega
   refine zBq (xs:=us2) (λ j H'=>Same H2 H'/\∃zs:List V,H' acc=some (.lst zs)/\Paired (WN H') ((as.take j).flatMap λ a=>(agap a).map λ h=>(h,0)) zs/\zs.length<=j) ⟨zAC hacc,[],zAA,.nil,lQ _⟩ (λ j H' Ω h=>SqT.of (h.1 _ _ hb2)) ?_ ?_
   ·rintro j x Hx hx ⟨gx',zs,ez,pz,lz⟩
    obtain⟨at',eat,rat⟩:=zAJ pas2 hx;have hj:j<us2.length:=(lJ.mp hx).1;have htj:((as.take (j+1)).flatMap λ a=>(agap a).map λ h=>(h,0))=((as.take j).flatMap λ a=>(agap a).map λ h=>(h,0))++(agap at').map λ h=>(h,0):=by rw[zAL eat,nI];simp
    obtain⟨b,r,rfl,hb⟩:=(rat.mono gx'.tk).all;rcases hb with ⟨h,rfl,hb⟩|⟨hag,kk,hkk,hb⟩
    ·have a0:atI (V.str "gap" :: .str h::r) 0=some (.str "gap"):=zAQ (j:=0) rfl
     have a1:atI (V.str "gap" :: .str h::r) 1=some (.str h):=zAQ (j:=1) rfl;refine⟨.skip .nil,_,rfl,b,_,0,_,rfl,rfl,SqT.of hb,a0,rfl,_,rfl,ite2 (λ Ω=>?_) (λ c=>absurd (lU rfl) c)⟩;refine⟨_,rfl,b,_,1,_,rfl,rfl,SqT.of hb,a1,d2,λ pq hpq=>?_⟩;have k5:=zAC (o:=.tup [.str h,.int 0]) hpq;have tkz:Tk (upd Hx pq (.tup [.str h,.int 0])) (upd (upd Hx pq (.tup [.str h,.int 0])) acc (.lst (zs++[.ref pq]))):=Tk.lst (k5 _ _ ez);refine⟨zs,k5 _ _ ez,zAK (by omega),zAW (gx'.trans k5) hacc,zs++[.ref pq],zAA,?_,by simp;omega⟩;rw[htj];exact zAM (Paired.mapP pz λ Ω Ω z=>z.mono (k5.tk.trans tkz)) (.cons ⟨pq,rfl,tkz _ _ zAA⟩ .nil)
    ·have a0:atI (V.str kk::r) 0=some (.str kk):=zAQ (j:=0) rfl
     refine⟨.skip .nil,_,rfl,b,_,0,_,rfl,rfl,SqT.of hb,a0,rfl,_,rfl,ite2 (λ c=>absurd (V.str.inj (lT c)) hkk) (λ Ω=>?_)⟩;refine⟨gx',zs,ez,?_,by omega⟩;rw[htj,hag];simpa using pz
   ·rintro H3 ⟨g3,zs,ez,pz,lz⟩
    rw[mU (by omega)] at pz;have lz2:zs.length=(as.flatMap λ a=>(agap a).map λ h=>(h,0)).length:=zAG pz;have ec3:=g3 _ _ ec2;refine⟨co,acc,cs++[.ref pt],zs,rfl,rfl,ec3,ez,zAz (by simp;omega),?_⟩;have tkz:Tk H3 (upd H3 co (.lst (cs++[.ref pt]++zs))):=Tk.lst ec3;refine⟨cs++[.ref pt]++zs,_,rfl,zAW (g2.trans g3) hco,tk2.trans (g3.tk.trans tkz),by rw[zAR nlc];exact g3 _ _ el2,zAA,?_⟩;rw[htk];have e9:(F.take i).flatMap cnt1++cnt1 (.gap gx as)=(F.take i).flatMap cnt1++[(gx,as.length)]++as.flatMap λ a=>(agap a).map λ h=>(h,0):=by simp[cnt1]
    rw[e9];exact zAM (Paired.mapP pc2 λ Ω Ω z=>z.mono (g3.tk.trans tkz)) (Paired.mapP pz λ Ω Ω z=>z.mono tkz)
  |bin o a b=>cases o<;>cases z
  |_=>cases z
 ·rintro σ' H' ⟨cs,s2,rfl,g,tk,el',ec,pc⟩
  have bi:=bound us.length;rw[mU (by omega)] at pc bi;have lp:=zAG pc;rw[eF] at pc;exact⟨_,rfl,q co cs H' g ec pc (by omega)⟩
def zC9:Sp:=λ vs H Q Ω=>E2 λ(t:Tr) (v:V)=>A5 (vs=[v]) (Rep H t v) (t.size<=60) (∀p∈t.subs,(cnt1 p).length<=10) (∀(d:Addr) (kvs:List (Key × V)) (H':Hp),Same H H'->H d=none->H' d=some (.dK kvs)->Fd1 (gcnt t) kvs->kvs.length<=600->Q (.ref d) H')
theorem zJE (F:Fun K "gaps_of" "gaps_of" zER f fd) (zOM:FnB P w K mg base k "counted_gaps" g1 gd1 ["shape"] zDQ):FnOk P w K mg base CX0 (k+1) f fd ["shape"] zC9:=by
 refine F.ok zCr (λ vs H Q E h=>?_) (λ cdv A outer s H vs Q E hr h=>?_)
 ·obtain⟨t,v,rfl,_⟩:=h
  rfl
 obtain⟨t,v,rfl,hR,hsz,h10,q⟩:=h
 refine⟨_,(zAE (pS (i:=1) zCr.nd zDD)
  (zAE (zAv PassesOwn.never rfl (zAf (pe_cl zOM hr (zAB (pv 0) zAD))) (zCh rfl (zAa (pGn (i:=2) zCr.nd) (zAa (pGn (i:=3) zCr.nd) zBP))) (zAF (zCU (pe_bm rT PySem.F.slot_dict_setdefault PySem.F.type_dict_setdefault zFd (pv 1) (zAB (pv 2) (zAB (pv 3) zAD))))))
  (zAF (zAU (pv 1))))),?_⟩
 refine λ d0 hd0=>?_;have g0:=zAC (o:=.dK []) hd0;have ed0:=@zAA H d0 (.dK []);have hR0:=hR.mono g0.tk;show tSeq _ _ _ _ (upd H d0 (.dK []));generalize upd H d0 _=H0 at g0 ed0 hR0 ⊢;refine⟨_,rfl,t,v,rfl,hR0,hsz,h10,λ l us H1 g1 el pC hl=>⟨l,rfl,⟨us,SqL.of el⟩,?_⟩⟩;generalize hCe:gcnt t=C at pC;have lu:us.length=C.length:=zAG pC;have nld:l≠d0:=λ z=>by rw[z,g1 _ _ ed0] at el;cases el
 refine zA1 (xs:=us) (λ i σ' H'=>E3 λ(kvs:List (Key × V)) (s2 s3:Option V)=>A7 (σ'=[some v,some (.ref d0),s2,s3]) (Same H H') (Tk H1 H') (H' l=some (.lst us)) (H' d0=some (.dK kvs)) (Fd1 (C.take i) kvs) (kvs.length<=i)) ?_ ?_ ?_ ?_
 ·exact⟨[],none,none,rfl,g0.trans g1,.refl _,el,g1 _ _ ed0,Fd1.nil,lQ _⟩
 ·rintro i σ' H' _ ⟨kvs,s2,s3,rfl,g,tk,el',ed,gd,le⟩
  exact SqL.of el'
 ·rintro i x σ' H' hx ⟨kvs,s2,s3,rfl,g,tk,el',ed,gd,le⟩
  obtain⟨⟨y,n⟩,eq,rq⟩:=zAJ pC hx;have hi:i<us.length:=(lJ.mp hx).1;obtain⟨b,rfl,hb⟩:=rq.mono tk;dsimp only at hb;have htk:C.take (i+1)=C.take i++[(y,n)]:=zAL eq;refine⟨b,_,rfl,SqT.of hb,rfl,_,_,rfl,_,_,rfl,rfl,?_⟩;refine⟨_,rfl,.inr (.inr (.inl ⟨rfl,.inl ⟨kvs,ed⟩⟩)),_,rfl,_,rfl,d0,kvs,Sum.inr y,_,rfl,rfl,ed,by omega,λ z hz=>?_,λ hz=>?_⟩
  ·refine⟨kvs,_,_,rfl,g,tk,el',ed,?_,by omega⟩
   rw[htk];exact gd.same hz
  ·refine⟨_,_,_,rfl,zAW g hd0,tk.trans (Tk.dk ed),by rw[zAR nld];exact el',zAA,?_,?_⟩
   ·rw[htk]
    exact gd.put hz
   ·have:=zBp kvs (Sum.inr y:Key) (.int ((n:Nat):Int))
    omega
 ·rintro σ' H' ⟨kvs,s2,s3,rfl,g,tk,el',ed,gd,le⟩
  rw[mU (by omega)] at gd;exact⟨_,rfl,q d0 kvs H' g hd0 ed (hCe▸gd) (by omega)⟩
abbrev zCM:Stmt:=top 39
theorem zCw:zAT ["rule", "left"] ["rule"] (zAH zCM):=scI
structure RuS (H:Hp) (p:Addr) (a b c:V) (t u:Tr):Prop where
 hp:H p=some (.tup [a,b,c])
 ra:Rep H t a
 rb:Rep H u b
 st:t.size<=60
 su:u.size<=60
 ct:∀p∈t.subs,(cnt1 p).length<=10
 cu:∀p∈u.subs,(cnt1 p).length<=10
theorem RuS.mono {H H':Hp}{p:Addr}{a b c:V}{t u:Tr}(h:RuS H p a b c t u) (k:Tk H H'):RuS H' p a b c t u:=⟨k _ _ h.hp,h.ra.mono k,h.rb.mono k,h.st,h.su,h.ct,h.cu⟩
def zF4:Sp:=λ vs H Q Ω=>E6 λ(t u:Tr) (p:Addr) (a b c:V)=>A3 (vs=[.ref p]) (RuS H p a b c t u) (∀(z:Bool) (H':Hp),Same H H'->(z=true↔∃g∈(gcnt u).map (·.1),g∉(gcnt t).map (·.1))->Q (.bl z) H')
theorem zJB (F:Fun K "has_new_gap" "has_new_gap" zCM f fd) (z_any:mg "any" = none) (zON:FnB P w K mg base k "gaps_of" g1 gd1 ["shape"] zC9):FnOk P w K mg base CX0 (k+1) f fd ["rule"] zF4:=by
 refine F.ok zCw (λ vs H Q E h=>?_) (λ cdv A outer s H vs Q E hr h=>?_)
 ·obtain⟨t,u,p,a,b,c,rfl,_⟩:=h
  rfl
 obtain⟨t,u,p,a,b,c,rfl,hS,q⟩:=h;have hu:=hu_of hr
 refine⟨_,(zAE (zGC (i:=1) zCw.nd rfl (Or.inr rfl) (pe_cl zON hr (zAB (iC (r:=rIxT K) zAS (pv 0)) zAD)))
  (zAF (zAU (zAt (zBr rfl) (by rfl) z_any PyProof.Rows.boot_any (zAB (zAk ["gap", "left"] [none,some 1] rfl (zI0 (pe_cl zON hr (zAB (iC (r:=rIxT K) zAS (pv 0)) zAD))) (λ Ω Ω Ω Ω Ω=>(zAc (i:=0) (show List.Nodup (["gap", "left"]:List Str) by symm) rfl (Or.inl rfl))) (λ Ω Ω Ω Ω Ω=>zBF) (λ Ω Ω Ω Ω Ω=>(zA4 (zCi hu) (pv 0) (pv 1) rfl)) rfl) zAD))))),?_⟩
 refine⟨_,rfl,p,_,0,_,rfl,rfl,SqT.of hS.hp,zAQ (j:=0) rfl,t,a,rfl,hS.ra,hS.st,hS.ct,λ dl kl H1 g1 hdl edl fl ll=>?_⟩;refine⟨_,rfl,p,_,1,_,rfl,rfl,SqT.of (g1 _ _ hS.hp),zAQ (j:=1) rfl,u,b,rfl,hS.rb.mono g1.tk,hS.su,hS.cu,λ dr kr H2 g2 hdr edr fr lr=>⟨dr,kr,rfl,.inr ⟨edr,λ ob=>?_⟩⟩⟩;have g6:Same H1 (upd H2 dr (.frz ob (.dK kr))):=zAW g2 hdr;have edr6:=@zAA H2 dr (.frz ob (.dK kr));generalize upd H2 dr _=H6 at g6 edr6 ⊢;have edl6:=g6 _ _ edl;refine λ acc hacc=>?_
 refine zDl (o:=ob) (a:=dr) (kvs:=kr) (λ i H'=>Same H6 H'/\∃bs:List Bool,H' acc=some (.lst (bs.map V.bl))/\bs.length<=i /\
   (bs.any id=true↔∃p∈kr.take i,∃g:Str,p.1=(Sum.inr g:Key)/\g∉(gcnt t).map (·.1))) ?_ ?_ ?_ ?_
 ·exact⟨zAC hacc,[],zAA,lQ _,by simp⟩
 ·rintro i H' _ ⟨g,_⟩
  exact g _ _ edr6
 ·rintro i pr H' hpr ⟨g,bs,eb,lb,hb⟩
  obtain⟨x,hx,ex⟩:=fr.ky pr (lM hpr);have hi:i<kr.length:=(lJ.mp hpr).1;obtain⟨p1,p2⟩:=pr;dsimp only at ex;subst ex;refine⟨.skip (.keep .nil),_,rfl,_,rfl,dl,_,rfl,DGet.k (k:=Sum.inr x) (g _ _ edl6),?_⟩;rw[fl.isS x];refine⟨_,eb,zAK (by rw[mD];omega),zAW g hacc,bs++[!decide (x∈(gcnt t).map (·.1))],?_,by simp;omega,?_⟩
  ·rw[zAA,mP]
   rfl
  ·rw[List.any_append,Bool.or_eq_true,hb,zAL hpr]
   constructor
   ·rintro (⟨y,hy,h⟩|h)
    ·exact⟨y,mF _ hy,h⟩
    ·exact⟨_,mB _ lO,x,rfl,by simpa using h⟩
   ·rintro⟨y,hy,h⟩
    rcases lK.mp hy with z|z
    ·exact .inl ⟨y,z,h⟩
    ·obtain⟨g',e',n'⟩:=h
     rw[mQ.mp z] at e';rw[←Sum.inr.inj e'] at n';exact .inr (by simpa using n')
 ·rintro H3 ⟨g3,bs,eb,lb,hb⟩
  rw[mU (Nat.le_refl _)] at hb;refine⟨acc,bs,rfl,eb,q _ H3 (g1.trans (g6.trans g3)) (hb.trans ?_)⟩;constructor
  ·rintro⟨y,hy,g,e,n⟩
   exact⟨g,fr.has.mp ⟨y,hy,e⟩,n⟩
  ·rintro⟨g,hg,n⟩
   obtain⟨y,hy,e⟩:=fr.has.mpr hg;exact⟨y,hy,g,e,n⟩
abbrev zBJ:Stmt:=top 36
theorem zBD:zAT ["rule", "first", "counted"] ["rule"] (zAH zBJ):=scI
def zF2:Sp:=λ vs H Q Ω=>E6 λ(t u:Tr) (p:Addr) (a b c:V)=>A3 (vs=[.ref p]) (RuS H p a b c t u) (∀(z:Bool) (H':Hp),Same H H'->(z=true↔zKB (gcnt t) (gcnt t++gcnt u))->Q (.bl z) H')
theorem zI9 (F:Fun K "has_unlike_counts" "has_unlike_counts" zBJ f fd) (z_any:mg "any" = none) (zON:FnB P w K mg base k "gaps_of" g1 gd1 ["shape"] zC9) (zOM:FnB P w K mg base k "counted_gaps" g2 gd2 ["shape"] zDQ):FnOk P w K mg base CX0 (k+1) f fd ["rule"] zF2:=by
 refine F.ok zBD (λ vs H Q E h=>?_) (λ cdv A outer s H vs Q E hr h=>?_)
 ·obtain⟨t,u,p,a,b,c,rfl,_⟩:=h
  rfl
 obtain⟨t,u,p,a,b,c,rfl,hS,q⟩:=h;have hu:=hu_of hr
 refine⟨_,(zAE (zGC (i:=1) zBD.nd rfl (Or.inr rfl) (pe_cl zON hr (zAB (iC (r:=rIxT K) zAS (pv 0)) zAD)))
  (zAE (pS (i:=2) zBD.nd (pe_op zI6 (pe_cl zOM hr (zAB (iC (r:=rIxT K) zAS (pv 0)) zAD)) (pe_cl zOM hr (zAB (iC (r:=rIxT K) zAS (pv 0)) zAD))))
  (zAF (zAU (zAt (zBr rfl) (by rfl) z_any PyProof.Rows.boot_any (zAB (zAk ["gap", "many", "first"] [none,none,some 1] rfl (zAf (pv 2)) (λ Ω Ω Ω Ω Ω=>(zFZ (K:=K) (n:=2) rfl rfl (zAa (zAc (i:=0) (show List.Nodup (["gap", "many", "first"]:List Str) by symm) rfl (Or.inl rfl)) (zAa (zAc (i:=1) (show List.Nodup (["gap", "many", "first"]:List Str) by symm) rfl (Or.inl rfl)) zBP)))) (λ Ω Ω Ω Ω Ω=>zBF) (λ Ω Ω Ω Ω Ω=>(zI3 (zA4 (zNh hu) (pv 0) (pv 2) rfl) (zEX (zA4 op_ne (zDc hu (pv 2) (pv 0) (λ Ω Ω=>rfl)) (pv 1) (zAY _))))) rfl) zAD)))))),?_⟩
 refine⟨_,rfl,p,_,0,_,rfl,rfl,SqT.of hS.hp,zAQ (j:=0) rfl,t,a,rfl,hS.ra,hS.st,hS.ct,λ d kv H1 g1 hd ed fd ld=>?_⟩;have hS1:=hS.mono g1.tk;refine⟨_,rfl,p,_,0,_,rfl,rfl,SqT.of hS1.hp,zAQ (j:=0) rfl,t,a,rfl,hS1.ra,hS.st,hS.ct,λ l1 us1 H2 g2 e1 p1 n1=>?_⟩;have hS2:=hS1.mono g2.tk;refine⟨_,rfl,p,_,1,_,rfl,rfl,SqT.of hS2.hp,zAQ (j:=1) rfl,u,b,rfl,hS2.rb,hS.su,hS.cu,λ l2 us2 H3 g3 e2 p2 n2=>⟨l1,l2,us1,us2,rfl,rfl,g3 _ _ e1,e2,Nat.le_of_lt (zCk (by omega)),λ l hl=>?_⟩⟩;have k4:=zAC (o:=.lst (us1++us2)) hl;have el:=@zAA H3 l (.lst (us1++us2));have pC:Paired (WN (upd H3 l (.lst (us1++us2)))) (gcnt t++gcnt u) (us1++us2):=zAM (Paired.mapP p1 λ Ω Ω z=>z.mono (g3.trans k4).tk) (Paired.mapP p2 λ Ω Ω z=>z.mono k4.tk);have g14:=g2.trans (g3.trans k4);generalize upd H3 l _=H4 at el pC k4 g14 ⊢;have ed4:=g14 _ _ ed;have lC:=zAG pC;rw[mK] at lC;refine⟨_,rfl,l,rfl,⟨_,SqL.of el⟩,λ acc hacc=>?_⟩;refine zAl (xs:=us1++us2) (λ i H'=>Same H4 H'/\∃bs:List Bool,H' acc=some (.lst (bs.map V.bl))/\bs.length<=i/\(bs.any id=true↔∃x∈(gcnt t++gcnt u).take i,∃n,zAw (gcnt t) x.1=some n/\n≠x.2)) ⟨zAC hacc,[],zAA,lQ _,by simp⟩ (λ i H' Ω h=>SqL.of (h.1 _ _ el)) ?_ ?_
 ·rintro i x H' hx ⟨g,bs,eb,lb,hb⟩
  obtain⟨⟨y,n⟩,ey,bp,rfl,hbp⟩:=zAJ pC hx;dsimp only at hbp;have hi:i<(us1++us2).length:=(lJ.mp hx).1;rw[mK] at hi;refine⟨bp,_,rfl,SqT.of (g _ _ hbp),rfl,_,_,rfl,_,_,rfl,rfl,.skip (.skip (.keep .nil)),?_⟩;refine⟨_,rfl,_,rfl,d,_,rfl,DGet.k (k:=Sum.inr y) (g _ _ ed4),_,rfl,?_⟩;have hv:=fd.vl y;cases e0:zAw (gcnt t) y with
  |none =>
   rw[e0] at hv;rw[hv];refine iteF ⟨_,eb,zCk (by rw[mD];omega),zAW g hacc,bs++[false],?_,by simp;omega,zEC ey hb ⟨(λ z=>by cases z),λ z=>?_⟩⟩
   ·rw[zAA,mP];rfl
   ·obtain⟨m,em,_⟩:=z
    rw[e0] at em;cases em
  |some m =>
   rw[e0] at hv;rw[hv];refine iteT ⟨_,rfl,_,rfl,d,_,rfl,hv▸DGet.k (k:=Sum.inr y) (g _ _ ed4),_,rfl,rfl,?_⟩;refine⟨_,eb,zCk (by rw[mD];omega),zAW g hacc,bs++[!decide (V.int ((m:Nat):Int)=V.int ((n:Nat):Int))],?_,by simp;omega,zEC ey hb ?_⟩
   ·rw[zAA,mP];rfl
   ·rw[Bool.not_eq_true',decide_eq_false_iff_not]
    constructor
    ·intro z
     exact⟨m,e0,λ w=>z (by rw[w])⟩
    ·rintro⟨m',em,hm⟩ z
     rw[e0] at em;cases em;exact hm (Int.ofNat.inj (V.int.inj z))
 ·rintro H5 ⟨g5,bs,eb,lb,hb⟩
  rw[mU (by rw[←lC,mK];exact lQ _)] at hb;exact⟨acc,bs,rfl,eb,q _ H5 (g1.trans (g14.trans g5)) hb⟩
abbrev zBY:Stmt:=top 40
theorem zA9:zAT ["rule", "left", "gap", "kind"] ["rule"] (zAH zBY):=scI
def zF0:Sp:=λ vs H Q Ω=>E7 λ(t u:Tr) (ks:List (Str × Str)) (p:Addr) (a b c:V)=>A4 (vs=[.ref p]) (RuS H p a b c t u) (RpKs H ks c) (∀(z:Bool) (H':Hp),Same H H'->(z=true↔∃k∈ks,badK (gcnt t) k)->Q (.bl z) H')
theorem zI7 (F:Fun K "has_wrong_kind" "has_wrong_kind" zBY f fd) (zON:FnB P w K mg base k "gaps_of" g1 gd1 ["shape"] zC9):FnOk P w K mg base CX0 (k+1) f fd ["rule"] zF0:=by
 refine F.ok zA9 (λ vs H Q E h=>?_) (λ cdv A outer s H vs Q E hr h=>?_)
 ·obtain⟨t,u,ks,p,a,b,c,rfl,_⟩:=h
  rfl
 obtain⟨t,u,ks,p,a,b,c,rfl,hS,hK,q⟩:=h;have hu:=hu_of hr
 refine⟨_,(zAE (pS (i:=1) zA9.nd (pe_cl zON hr (zAB (iC (r:=rIxT K) zAS (pv 0)) zAD)))
  (zAE (zAv PassesOwn.never rfl (zBm (iC (r:=rIxT K) zAS (pv 0))) (zCh rfl (zAa (pGn (i:=2) zA9.nd) (zAa (pGn (i:=3) zA9.nd) zBP))) (zAF (ps_if (pw_or (zAO (zCi hu) (pv 2) (pv 1) rfl) (zCB (zDu (zAO op_eq (pv 3) zAZ (zAY _)) (zCg (zAO op_gt (zDc hu (pv 1) (pv 2) (λ Ω Ω=>rfl)) zAI (zAY _)))).pt)).pt (zAF (zAU pe_bl)) zAV)))
  (zAF (zAU pe_bl)))),?_⟩
 refine⟨_,rfl,p,_,0,_,rfl,rfl,SqT.of hS.hp,zAQ (j:=0) rfl,t,a,rfl,hS.ra,hS.st,hS.ct,λ d kv H1 g1 hd ed fd ld=>?_⟩;obtain⟨pc,o,us,rfl,hpc,hod,hus⟩:=hK.mono g1;have luk:us.length=ks.length:=zAG hus;refine⟨_,rfl,p,_,2,_,rfl,rfl,SqT.of (g1 _ _ hS.hp),zAQ (j:=2) rfl,pc,rfl,⟨_,.inl (.inr ⟨o,hpc⟩)⟩,?_⟩;refine zC5 (xs:=us) (λ i σ' H'=>E2 λ(s2 s3:Option V)=>A3 (σ'=[some (.ref p),some (.ref d),s2,s3]) (Same H1 H') (∀k∈ks.take i,¬badK (gcnt t) k)) ⟨none,none,rfl,Same.refl _,by simp⟩ (λ i σ' H' _ h=>?_) ?_ ?_
 ·obtain⟨_,_,_,g,_⟩:=h
  exact .inl (.inr ⟨o,g _ _ hpc⟩)
 ·rintro i x σ1 H2 hx ⟨s2,s3,rfl,g2,hn⟩
  obtain⟨kd,ek,pk,rfl,hpk⟩:=zAJ hus hx;have fin:badK (gcnt t) kd->Q (.bl true) H2:=λ h=>q true H2 (g1.trans g2) ⟨λ Ω=>⟨kd,lM ek,h⟩,λ Ω=>rfl⟩
  have next:¬badK (gcnt t) kd->∀k∈ks.take (i+1),¬badK (gcnt t) k:=λ h k hk=>by
   rw[zAL ek] at hk;rcases lK.mp hk with z|z
   ·exact hn k z
   ·rw[mQ.mp z];exact h
  refine⟨pk,_,rfl,SqT.of (g2 _ _ hpk),rfl,_,_,rfl,_,_,rfl,rfl,?_⟩;refine⟨_,rfl,_,rfl,d,_,rfl,DGet.k (k:=Sum.inr kd.1) (g2 _ _ ed),_,rfl,?_⟩;have hv:=fd.vl kd.1;cases e0:zAw (gcnt t) kd.1 with
  |none =>
   rw[e0] at hv;rw[hv];exact iteT (iteT (fin (.inl e0)))
  |some m =>
   rw[e0] at hv;rw[hv];refine iteF ⟨_,rfl,rfl,_,rfl,ite2 (λ c1=>?_) (λ c1=>?_)⟩
   ·have e1:kd.2=Str.ofString "number" := V.str.inj (lT c1)
    refine⟨_,rfl,_,rfl,d,_,rfl,hv▸DGet.k (k:=Sum.inr kd.1) (g2 _ _ ed),_,_,rfl,rfl,_,rfl,ite2 (λ c2=>?_) (λ c2=>?_)⟩
    ·have c2':(0:Int)<((m:Nat):Int):=lT c2
     exact fin (.inr ⟨e1,m,e0,by omega⟩)
    ·refine⟨_,_,rfl,g2,next λ z=>?_⟩
     rcases z with z|⟨_,n,en,hn0⟩
     ·rw[e0] at z;cases z
     ·rw[e0] at en
      cases en;exact c2 (lU (by show (0:Int)<((m:Nat):Int);omega))
   ·refine iteF ⟨_,_,rfl,g2,next λ z=>?_⟩
    rcases z with z|⟨e1,_⟩
    ·rw[e0] at z;cases z
    ·exact c1 (lU (congrArg V.str e1))
 ·rintro σ1 H2 ⟨s2,s3,rfl,g2,hn⟩
  rw[mU (by omega)] at hn;exact q false H2 (g1.trans g2) ⟨(λ z=>by cases z),λ⟨k,hk,hb⟩=>absurd hb (hn k hk)⟩
abbrev zBE:Stmt:=top 37
theorem zAr:zAT ["rule", "kinds", "part", "atom"] ["rule"] (zAH zBE):=scI
def zHN:Sp:=λ vs H Q Ω=>E7 λ(t u:Tr) (ks:List (Str × Str)) (p:Addr) (a b c:V)=>A6 (vs=[.ref p]) (RuS H p a b c t u) (RpKs H ks c) ((ks.map (·.1)).Nodup) (ks.length<=60) (∀(z:Bool) (H':Hp),Same H H'->(z=true↔∃g∈u.subs.filter isGap,badP ks g)->Q (.bl z) H')
theorem zKn (F:Fun K "has_no_number_atom" "has_no_number_atom" zBE f fd) (z_dict:mg "dict" = none) (zOL:FnB P w K mg base k "gap_parts" g1 gd1 ["shape"] zFS):FnOk P w K mg base CX0 (k+1) f fd ["rule"] zHN:=by
 refine F.ok zAr (λ vs H Q E h=>?_) (λ cdv A outer s H vs Q E hr h=>?_)
 ·obtain⟨t,u,ks,p,a,b,c,rfl,_⟩:=h
  rfl
 obtain⟨t,u,ks,p,a,b,c,rfl,hS,hK,nd,lk,q⟩:=h;have hu:=hu_of hr
 refine⟨_,(zAE (pS (i:=1) zAr.nd (zBG (zDo rfl) (by rfl) z_dict PyProof.Rows.boot_dict (zAB (iC (r:=rIxT K) zAS (pv 0)) zAD)))
  (zAE (zAv PassesOwn.never rfl (zAf (pe_cl zOL hr (zAB (iC (r:=rIxT K) zAS (pv 0)) zAD))) (pGn (i:=2) zAr.nd) (zAF (zAv PassesOwn.never rfl (zBm (iC (r:=rIxT K) zAS (pv 2))) (pGn (i:=3) zAr.nd) (zAF (ps_if (zDu (zAO op_eq (iC (r:=rIxT K) zAS (pv 3)) zAZ (zAY _)) (zCg (zAO op_ne (zKg hu (pv 1) (iC (r:=rIxT K) zAS (pv 3)) ⟨rfl,rfl,rfl,rfl⟩) zAZ (zAY _)))).pt (zAF (zAU pe_bl)) zAV)))))
  (zAF (zAU pe_bl)))),?_⟩
 obtain⟨pc,o,us,rfl,hpc,hod,hus⟩:=id hK;refine⟨_,rfl,p,_,2,_,rfl,rfl,SqT.of hS.hp,zAQ (j:=2) rfl,pc,o,us,kdV ks,rfl,hpc,hod,zJQ hus,by unfold kdV;rw[mD];omega,λ dk hdk=>?_⟩;have g1:=zAC (o:=.dK (zBC [] (kdV ks))) hdk;have edk:=@zAA H dk (.dK (zBC [] (kdV ks)));have hS1:=hS.mono g1.tk;show tSeq _ _ _ _ (upd H dk (.dK (zBC [] (kdV ks))));generalize upd H dk _=H1 at g1 edk hS1 ⊢;refine⟨_,rfl,p,_,1,_,rfl,rfl,SqT.of hS1.hp,zAQ (j:=1) rfl,u,b,rfl,hS1.rb,hS.su,λ l vs H2 g2 hln el pF=>⟨l,rfl,⟨vs,SqL.of el⟩,?_⟩⟩;have edk2:=g2 _ _ edk;have lv:vs.length=(u.subs.filter isGap).length:=zAG pF;refine zA1 (xs:=vs) (λ i σ' H'=>E2 λ(s2 s3:Option V)=>A3 (σ'=[some (.ref p),some (.ref dk),s2,s3]) (H'=H2) (∀x∈(u.subs.filter isGap).take i,¬badP ks x)) ⟨none,none,rfl,rfl,by simp⟩ (λ i σ' H' _ h=>?_) ?_ ?_
 ·obtain⟨_,_,_,rfl,_⟩:=h
  exact SqL.of el
 ·rintro i x σ1 H3 hx ⟨s2,s3,rfl,rfl,hn⟩
  obtain⟨tq,eq,rq⟩:=zAJ pF hx;have hgap:tq.kd = .gap:=lT (List.mem_filter.mp (lM eq)).2;cases tq with
  |gap gx as =>
   obtain⟨pa,b',us2,rfl,ha',hb',hl2,pas⟩:=rq;have las:us2.length=as.length:=zAG pas;refine⟨_,rfl,pa,_,2,_,rfl,rfl,SqT.of ha',zAQ (j:=2) rfl,b',rfl,⟨us2,SqT.of hb'⟩,?_⟩;refine zC5 (xs:=us2) (λ j σ' H'=>∃(s3:Option V),A3 (σ'=[some (.ref p),some (.ref dk),some (.ref pa),s3]) (H'=H3) (∀y∈as.take j,¬badA ks y)) ⟨s3,rfl,rfl,by simp⟩ (λ j σ' H' _ h=>?_) ?_ ?_
   ·obtain⟨_,_,rfl,_⟩:=h
    exact SqT.of hb'
   ·rintro j y σ2 H4 hy ⟨s4,rfl,rfl,hm⟩
    obtain⟨at',eat,rat⟩:=zAJ pas hy;obtain⟨b2,r,rfl,hb2⟩:=rat.all
    have next:¬badA ks at'->∀y∈as.take (j+1),¬badA ks y:=λ h y hy=>by
     rw[zAL eat] at hy;rcases lK.mp hy with z|z
     ·exact hm y z
     ·rw[mQ.mp z];exact h
    rcases hb2 with ⟨h,rfl,hb2⟩|⟨hag,kk,hkk,hb2⟩
    ·obtain⟨z,ez,sz,hz⟩:=zNx nd h
     refine⟨_,rfl,b2,_,0,_,rfl,rfl,SqT.of hb2,zAQ (j:=0) rfl,rfl,_,rfl,ite2 (λ Ω=>?_) (λ c=>absurd (lU rfl) c)⟩;refine⟨_,rfl,dk,rfl,.inl ⟨_,.inl edk2⟩,_,rfl,b2,_,1,_,rfl,rfl,SqT.of hb2,zAQ (j:=1) rfl,_,DGet.k (k:=Sum.inr h) edk2,?_⟩;rw[ez];refine⟨sz,_,rfl,ite2 (λ c=>?_) (λ c=>?_)⟩
     ·have nk:(h,("number" : Str))∉ks:=λ w=>by
       rw[hz.mpr w] at c;simp at c
      exact q true H4 (g1.trans g2) ⟨λ Ω=>⟨_,lM eq,gx,as,rfl,_,lM eat,h,rfl,nk⟩,λ Ω=>rfl⟩
     ·refine⟨_,rfl,rfl,next λ w=>?_⟩
      obtain⟨h',e',n'⟩:=w;cases e';refine c ?_;rw[Bool.not_eq_true',decide_eq_false_iff_not];exact λ w=>n' (hz.mp w)
    ·refine⟨_,rfl,b2,_,0,_,rfl,rfl,SqT.of hb2,zAQ (j:=0) rfl,rfl,_,rfl,ite2 (λ c=>absurd (V.str.inj (lT c)) hkk) (λ Ω=>iteF ⟨_,rfl,rfl,next λ w=>?_⟩)⟩
     obtain⟨h',e',_⟩:=w;rw[e'] at hag;cases hag
   ·rintro σ2 H4 ⟨s4,rfl,rfl,hm⟩
    rw[mU (by omega)] at hm;refine⟨_,_,rfl,rfl,λ y hy=>?_⟩;rw[zAL eq] at hy;rcases lK.mp hy with z|z
    ·exact hn y z
    ·rw[mQ.mp z]
     rintro⟨g',as',e',a',ha,hb⟩;cases e';exact hm a' ha hb
  |bin o a b=>cases o<;>cases hgap
  |_=>cases hgap
 ·rintro σ1 H3 ⟨s2,s3,rfl,rfl,hn⟩
  rw[mU (by omega)] at hn;exact q false H3 (g1.trans g2) ⟨(λ z=>by cases z),λ⟨k,hk,hb⟩=>absurd hb (hn k hk)⟩
abbrev zBX:Stmt:=top 35
theorem zDS:zAT ["gap"] ["gap"] (zAH zBX):=scI
abbrev zBi:Stmt:=top 38
theorem zD3:zAT ["rule"] ["rule"] (zAH zBi):=scI
def zLc:Sp:=λ vs H Q Ω=>E3 λ(g:Str) (as:List Atom) (v:V)=>A4 (vs=[v]) (Rep H (.gap g as) v) (as.length<=1) (∀(z:Bool) (H':Hp),Same H H'->(z=true↔noPc as)->Q (.bl z) H')
theorem zNi (F:Fun K "tells_no_piece" "tells_no_piece" zBX f fd) (z_any:mg "any" = none) (z_len:mg "len" = none) (z_set:mg "set" = none):FnOk P w K mg base CX0 (k+1) f fd ["gap"] zLc:=by
 refine F.ok zDS (λ vs H Q E h=>?_) (λ cdv A outer s H vs Q E hr h=>?_)
 ·obtain⟨g,as,v,rfl,_⟩:=h
  rfl
 obtain⟨g,as,v,rfl,hR,hl,q⟩:=h;have hu9:=hu150 hr;refine⟨_,(zAF (zAU (pe_or (zA4 op_lt (zIB hu9 rfl (by rfl) z_len (by rfl) z_set (zAB (iC (r:=rIxT K) zAS (pv 0)) zAD)) (cL z_len (zAB (iC (r:=rIxT K) zAS (pv 0)) zAD)) (zAY _)) (zEX (zAt (zBr rfl) (by rfl) z_any PyProof.Rows.boot_any (zAB (zAk ["atom"] [none] rfl (zBm (iC (r:=rIxT K) zAS (pv 0))) (λ Ω Ω Ω Ω Ω=>(zAc (i:=0) (show List.Nodup (["atom"]:List Str) by symm) rfl (Or.inl rfl))) (λ Ω Ω Ω Ω Ω=>zBF) (λ Ω Ω Ω Ω Ω=>(zA4 op_ne (iC (r:=rIxT K) zAS (pv 0)) zAZ (zAY _))) rfl) zAD)))))),?_⟩;obtain⟨pa,b',us2,rfl,ha',hb',hl2,pas⟩:=hR;have las:us2.length=as.length:=zAG pas;refine⟨_,rfl,pa,_,2,_,rfl,rfl,SqT.of ha',zAQ (j:=2) rfl,b',as.map dtA,rfl,.tup hb' (zL0 pas),by rw[mD];exact hl,λ x hx=>?_,_,rfl,pa,_,2,_,rfl,rfl,SqT.of ha',zAQ (j:=2) rfl,b',_,rfl,.inr (SqT.of hb'),_,_,rfl,rfl,?_⟩
 ·obtain⟨a,_,rfl⟩:=mC.mp hx
  exact zM1 a
 refine⟨_,rfl,ite2 (λ c=>?_) (λ c=>?_)⟩
 ·have:=lT c
  rw[mD] at this;omega
 ·refine⟨_,rfl,pa,_,2,_,rfl,rfl,SqT.of ha',zAQ (j:=2) rfl,b',rfl,⟨us2,SqT.of hb'⟩,λ acc hacc=>?_⟩
  refine zBq (xs:=us2) (λ i H'=>Same H H'/\∃bs:List Bool,H' acc=some (.lst (bs.map V.bl))/\bs.length<=i/\(bs.any id=true↔∃a∈as.take i,nmA a=none)) ⟨zAC hacc,[],zAA,lQ _,by simp⟩ (λ i H' Ω h=>SqT.of (h.1 _ _ hb')) ?_ ?_
  ·rintro i x H' hx ⟨g',bs,eb,lb,hb⟩
   obtain⟨at',eat,rat⟩:=zAJ pas hx;have hi:i<us2.length:=(lJ.mp hx).1;obtain⟨p2,kk,r,rfl,hp2,hkk⟩:=zM6 rat;refine⟨.skip .nil,_,rfl,p2,_,0,_,rfl,rfl,SqT.of (g' _ _ hp2),zAQ (j:=0) rfl,rfl,?_⟩;refine⟨_,eb,zCk (by rw[mD];omega),zAW g' hacc,bs++[!decide (V.str kk=V.str "name")],?_,by simp;omega,zEC eat hb ?_⟩
   ·rw[zAA,mP];rfl
   ·rw[Bool.not_eq_true',decide_eq_false_iff_not]
    constructor
    ·intro z
     exact Classical.byContradiction λ y=>z (congrArg V.str (hkk.mpr y))
    ·intro z y
     exact hkk.mp (V.str.inj y) z
  ·rintro H5 ⟨g5,bs,eb,lb,hb⟩
   rw[mU (by omega)] at hb;refine⟨acc,bs,rfl,eb,q _ H5 g5 (hb.trans ?_)⟩;rw[zK4 hl]
def zIe:Sp:=λ vs H Q Ω=>E7 λ(t u:Tr) (ks:List (Str × Str)) (p:Addr) (a b c:V)=>A7 (vs=[.ref p]) (RuS H p a b c t u) (∀x∈t.subs,∀g as,x = .gap g as->as.length<=1) (RpKs H ks c) ((ks.map (·.1)).Nodup) (ks.length<=60) (∀(z:Bool) (H':Hp),Same H H'->(z=true↔(∃x∈t.subs,noPcT x)\/zKB (gcnt t) (gcnt t++gcnt u)\/∃g∈u.subs.filter isGap,badP ks g)->Q (.bl z) H')
theorem zMY (F:Fun K "is_told_wrong" "is_told_wrong" zBi f fd) (z_any:mg "any" = none) (zOL:FnB P w K mg base k "gap_parts" g1 gd1 ["shape"] zFS) (zOO:FnB P w K mg base k "tells_no_piece" g2 gd2 ["gap"] zLc)
  (zOP:FnB P w K mg base k "has_unlike_counts" g3 gd3 ["rule"] zF2) (zOQ:FnB P w K mg base k "has_no_number_atom" g4 gd4 ["rule"] zHN):FnOk P w K mg base CX0 (k+1) f fd ["rule"] zIe:=by
 refine F.ok zD3 (λ vs H Q E h=>?_) (λ cdv A outer s H vs Q E hr h=>?_)
 ·obtain⟨t,u,ks,p,a,b,c,rfl,_⟩:=h
  rfl
 obtain⟨t,u,ks,p,a,b,c,rfl,hS,h4,hK,nd,lk,q⟩:=h;have hu:=hu_of hr
 refine⟨_,(zAE (ps_if (zBB (zAt (zBr rfl) (by rfl) z_any PyProof.Rows.boot_any (zAB (zAk ["part"] [none] rfl (zAf (pe_cl zOL hr (zAB (iC (r:=rIxT K) zAS (pv 0)) zAD))) (λ Ω Ω Ω Ω Ω=>(zAc (i:=0) (show List.Nodup (["part"]:List Str) by symm) rfl (Or.inl rfl))) (λ Ω Ω Ω Ω Ω=>zBF) (λ Ω Ω Ω Ω Ω=>(pe_cl zOO hr (zAB (pv 0) zAD))) rfl) zAD))) (zAF (zAU pe_bl)) zAV)
  (zAF (zAU (pe_or (pe_cl zOP hr (zAB (pv 0) zAD)) (zEX (pe_cl zOQ hr (zAB (pv 0) zAD))))))),?_⟩
 refine⟨_,rfl,p,_,0,_,rfl,rfl,SqT.of hS.hp,zAQ (j:=0) rfl,t,a,rfl,hS.ra,hS.st,λ l vs H2 g2 hln el pF=>⟨l,rfl,⟨vs,SqL.of el⟩,λ acc hacc=>?_⟩⟩;have lv:vs.length=(t.subs.filter isGap).length:=zAG pF
 have lf:(t.subs.filter isGap).length<=60:=by
  have:=List.length_filter_le isGap t.subs;rw[zB9] at this;have:=hS.st;omega
 refine zAl (xs:=vs) (λ i H'=>Same H2 H'/\∃bs:List Bool,H' acc=some (.lst (bs.map V.bl))/\bs.length<=i/\(bs.any id=true↔∃x∈(t.subs.filter isGap).take i,noPcT x)) ⟨zAC hacc,[],zAA,lQ _,by simp⟩ (λ i H' Ω h=>SqL.of (h.1 _ _ el)) ?_ ?_
 ·rintro i x H' hx ⟨g',bs,eb,lb,hb⟩
  obtain⟨tq,eq,rq⟩:=zAJ pF hx;have hi:i<vs.length:=(lJ.mp hx).1;have hmem:=List.mem_filter.mp (lM eq);have hgap:tq.kd = .gap:=lT hmem.2;cases tq with
  |gap gx as =>
   refine⟨.skip .nil,_,rfl,gx,as,x,rfl,rq.mono g'.tk,h4 _ hmem.1 gx as rfl,λ z H6 g6 hz=>?_⟩;have g7:=g'.trans g6;refine⟨_,g6 _ _ eb,zCk (by rw[mD];omega),zAW g7 hacc,bs++[z],?_,by simp;omega,zEC eq hb (hz.trans ?_)⟩
   ·rw[zAA,mP];rfl
   ·exact⟨λ h=>⟨gx,as,rfl,h⟩,λ⟨_,_,e,h⟩=>by cases e;exact h⟩
  |bin o a b=>cases o<;>cases hgap
  |_=>cases hgap
 ·rintro H5 ⟨g5,bs,eb,lb,hb⟩
  rw[mU (by omega)] at hb;have hb':bs.any id=true↔∃x∈t.subs,noPcT x:=hb.trans ⟨λ⟨x,hx,h⟩=>⟨x,(List.mem_filter.mp hx).1,h⟩,λ⟨x,hx,h⟩=>⟨x,List.mem_filter.mpr ⟨hx,by obtain⟨g,as,rfl,_⟩:=h;exact lU rfl⟩,h⟩⟩;have g25:=g2.trans g5;refine⟨acc,bs,rfl,eb,_,rfl,ite2 (λ c1=>?_) (λ c1=>?_)⟩
  ·exact q true H5 g25 ⟨λ Ω=>.inl (hb'.mp c1),λ Ω=>rfl⟩
  ·have hS5:=hS.mono g25.tk
   refine⟨_,rfl,t,u,p,a,b,c,rfl,hS5,λ z H6 g6 hz=>⟨_,rfl,ite2 (λ c2=>?_) (λ c2=>?_)⟩⟩
   ·exact q _ H6 (g25.trans g6) ⟨λ Ω=>.inr (.inl (hz.mp c2)),λ Ω=>rfl⟩
   ·refine⟨_,rfl,t,u,ks,p,a,b,c,rfl,hS5.mono g6.tk,hK.mono (g25.trans g6),nd,lk,λ z2 H7 g7 hz2=>q _ H7 (g25.trans (g6.trans g7)) (hz2.trans ⟨λ h=>.inr (.inr h),λ h=>?_⟩)⟩
    rcases h with h|h|h
    ·exact absurd (hb'.mpr h) c1
    ·exact absurd (hz.mpr h) c2
    ·exact h
abbrev zIq:Stmt:=top 43
theorem zGq:zAT ["rule", "why", "is_due"] ["rule"] (zAH zIq):=scI
structure RuR (H:Hp) (p:Addr) (t u:Tr) (ks:List (Str × Str)):Prop where
 ru:∃a b c,RuS H p a b c t u/\RpKs H ks c
 h4:∀x∈t.subs,∀g as,x = .gap g as->as.length<=1
 nd:(ks.map (·.1)).Nodup
 lk:ks.length<=60
 ws:∃ws:List Str,ws.length<64/\(∀x∈t.fv [],x∈ws)/\(∀x∈u.fv [],x∈ws)
theorem RuR.mono {H H':Hp}{p:Addr}{t u:Tr}{ks:List (Str × Str)}(h:RuR H p t u ks) (g:Same H H'):RuR H' p t u ks :=
 ⟨let ⟨a,b,c,x,y⟩:=h.ru;⟨a,b,c,x.mono g.tk,y.mono g⟩,h.h4,h.nd,h.lk,h.ws⟩
def zDr (R:RP):Sp:=λ vs H Q Ω=>E4 λ(p:Addr) (t u:Tr) (ks:List (Str × Str))=>A3 (vs=[.ref p]) (RuR H p t u ks) (∀(z:Bool) (H':Hp),Same H H'->(z=true↔R t u ks)->Q (.bl z) H')
structure DueF (P:Program) (w:World) (K:W.Frag) (mg:Str->Option Value) (base:Heap) (k:Nat) (f:Addr) (R:RP):Prop where
 ok:∃fd,FnOk P w K mg base CX0 k f fd ["rule"] (zDr R)/\Binds K fd ["rule"] []
 kp:W.keepIn K (.ref f)=true
def zIm:Sp:=λ vs H Q Ω=>E4 λ(p:Addr) (t u:Tr) (ks:List (Str × Str))=>A4 (vs=[.ref p]) (RuR H p t u ks) (Due t u ks zBA none) (∀H',Same H H'->Q .non H')
theorem zMh {k:Nat}{f la:Addr}{fd:FuncData}{as fs:List Addr}(F:Fun K "form" "form" zIq f fd) (zOR:mg "REASONS" = some (.ref la)) (hL:TupK K la (as.map V.ref)) (hin:Paired (λ(a:Addr) (q:(Str × RP) × Addr)=>TupK K a [.str q.1.1,.ref q.2]) as (zBA.zip fs)) (hfs:fs.length=7)
  (hdue:∀q∈zBA.zip fs,DueF P w K mg base k q.2 q.1.2):FnOk P w K mg base CX0 (k+1) f fd ["rule"] zIm:=by
 refine F.ok zGq (λ vs H Q E h=>?_) (λ cdv A outer s H vs Q E hr h=>?_)
 ·obtain⟨p,t,u,ks,rfl,_⟩:=h
  rfl
 obtain⟨p,t,u,ks,rfl,hR,hD,q⟩:=h;refine⟨_,(zAF (zAv PassesOwn.never rfl (zBm (zB8 (v:=.ref _) (by rfl) zOR (by rfl))) (zCh rfl (zAa (pGn (i:=1) zGq.nd) (zAa (pGn (i:=2) zGq.nd) zBP))) (zAF (ps_if (zBB (zKi (pv 2) hr (zAB (pv 0) zAD))) (zAF zFX) zAV)))),?_⟩;refine⟨la,rfl,⟨_,hL.sq⟩,?_⟩;have lz:(zBA.zip fs).length=7:=by rw[List.length_zip,hfs];rfl
 have las:as.length=7:=by rw[zIu hin,lz]
 refine zC5 (xs:=as.map V.ref) (λ i σ' H'=>E2 λ(s1 s2:Option V)=>A3 (σ'=[some (.ref p),s1,s2]) (Same H H') (Due t u ks (zBA.drop i) none)) ⟨none,none,rfl,Same.refl _,hD⟩ (λ i σ' H' _ h=>hL.sq) ?_ ?_
 ·rintro i x σ1 H1 hx ⟨s1,s2,rfl,g1,hd⟩
  rw[mJ] at hx;obtain⟨ai,ha,rfl⟩:=lV.mp hx;obtain⟨qi,hq,hT⟩:=zIv hin ha;obtain⟨⟨wy,Rp⟩,fi2⟩:=qi
  have hq1:zBA[i]?=some (wy,Rp):=by
   rw[List.getElem?_zip_eq_some] at hq;exact hq.1
  have hdrop:zBA.drop i=(wy,Rp)::zBA.drop (i+1):=by
   have hi:=(lJ.mp hq1);rw[List.drop_eq_getElem_cons hi.1,hi.2]
  obtain⟨⟨fdd,hF,hB⟩,hk2⟩:=hdue _ (lM hq);rw[hdrop] at hd;cases hd with
  |no nR hd =>
   refine⟨ai,_,rfl,hT.sq,rfl,_,_,rfl,_,_,rfl,rfl,?_⟩;exact⟨_,rfl,fi2,fdd,["rule"],_,rfl,hF,hB,hk2,_,rfl,p,t,u,ks,rfl,hR.mono g1,λ z H2 g2 hz=>⟨_,rfl,ite2 (λ c=>absurd (hz.mp c) nR) (λ c=>⟨_,_,rfl,g1.trans g2,hd⟩)⟩⟩
 ·rintro σ1 H1 ⟨s1,s2,rfl,g1,hd⟩
  exact q H1 g1
abbrev zGs:Stmt:=top 17
abbrev zB7:Stmt:=top 18
theorem zEM:zAT ["one", "other", "pairs"] ["one", "other", "pairs"] (zAH zB7):=scI
abbrev zCR:Stmt:=top 20
theorem zE2:zAT ["one", "other", "pairs"] ["one", "other", "pairs"] (zAH zCR):=scI
def sp_no:Sp:=λ Ω Ω Ω Ω=>False
theorem ok_no {k:Nat}{f:Addr}{fd:FuncData}{ps:List Str}:FnOk P w K mg base CX0 k f fd ps sp_no:=⟨λ vs H Q E h=>h.elim,λ A outer s H args us vs Q E Ω Ω Ω Ω h=>h.elim⟩
def zFA:Sp:=λ vs H Q Ω=>E5 λ(t u:Tr) (v1 v2 v3:V)=>A6 (vs=[v1,v2,v3]) (Rep H t v1) (Rep H u v2) (Pln t/\Pln u/\dpT t<=100) (¬t.kd = .name) (∀z:Bool,(z=true↔t=u)->Q (.bl z) H)
theorem zII (F:Fun K "alike_leaves" "alike_leaves" zB7 f fd) (zOS:FnB P w K mg base k "same_name" g1 gd1 ["one", "other", "pairs"] sp_no):FnOk P w K mg base CX0 (k+1) f fd ["one", "other", "pairs"] zFA:=by
 refine F.ok zEM (λ vs H Q E h=>?_) (λ cdv A outer s H vs Q E hr h=>?_)
 ·obtain⟨t,u,v1,v2,v3,rfl,_⟩:=h
  rfl
 obtain⟨t,u,v1,v2,v3,rfl,r1,r2,⟨p1,p2,hd⟩,nn,q⟩:=h;have hu5:=hu150 hr
 refine⟨_,(zAE (ps_if (zDu (zAO op_eq (iC (r:=rIxT K) zAS (pv 0)) zAZ (zAY _)) (zCg (zAO op_eq (iC (r:=rIxT K) zAS (pv 1)) zAZ (zAY _)))).pt (zAF (zAU (pe_cl zOS hr (zAB (iC (r:=rIxT K) zAS (pv 0)) (zAB (iC (r:=rIxT K) zAS (pv 1)) (zAB (pv 2) zAD)))))) zAV)
  (zAF (zAU (zA4 (zLl hu5) (pv 0) (pv 1) (zAY _))))),?_⟩
 have dr1:=r1.drP p1;have dr2:=r2.drP p2;obtain⟨a1,hs1,us1,rfl,ha1,_,_⟩:=r1.all;have at1:atI (V.str t.kd.s::hs1++us1) 0=some (.str t.kd.s):=zAQ (j:=0) rfl;refine⟨_,rfl,a1,_,0,_,rfl,rfl,SqT.of ha1,at1,rfl,_,rfl,ite2 (λ c=>absurd (Kd.eq_iff.mp (lT c)) nn) (λ c=>iteF ?_)⟩;obtain⟨l,e1⟩:=zEo t;obtain⟨l',e2⟩:=zEo u;have dp:=zBT t p1
 have key:Dt.beqs (.str t.kd.s::l) (.str u.kd.s::l')=true↔t=u:=by
  rw[Dt.beqs_iff];constructor
  ·intro h
   exact zDz t u p1 p2 (by rw[e1,e2,h])
  ·rintro rfl
   rw[e1] at e2;exact Dt.tup.inj e2
 rw[e1] at dr1 dp;rw[e2] at dr2;exact⟨_,rfl,_,rfl,_,_,dr1,dr2,by omega,q _ key⟩
def zHT:Sp:=λ vs H Q Ω=>E5 λ(t u:Tr) (v1 v2 v3:V)=>A6 (vs=[v1,v2,v3]) (Rep H t v1) (Rep H u v2) (Pln t/\Pln u/\dpT t<=100) (¬t.kd = .name) (∀z:Bool,(z=true↔Hal t u)->Q (.bl z) H)
theorem zKv (F:Fun K "alike_heads" "alike_heads" zCR f fd) (zOB:mg "LEAF_SIGNS" = some (.ref lv)) (hL:zDM K lv) (zOT:FnB P w K mg base k "alike_leaves" g1 gd1 ["one", "other", "pairs"] zFA):FnOk P w K mg base CX0 (k+1) f fd ["one", "other", "pairs"] zHT:=by
 refine F.ok zE2 (λ vs H Q E h=>?_) (λ cdv A outer s H vs Q E hr h=>?_)
 ·obtain⟨t,u,v1,v2,v3,rfl,_⟩:=h
  rfl
 obtain⟨t,u,v1,v2,v3,rfl,r1,r2,⟨p1,p2,hd⟩,nn,q⟩:=h
 refine⟨_,(zAE (ps_if (zAO op_ne (iC (r:=rIxT K) zAS (pv 0)) (iC (r:=rIxT K) zAS (pv 1)) (zAY _)) (zAF (zAU pe_bl)) zAV)
  (zAE (ps_if (zAO op_eq (iC (r:=rIxT K) zAS (pv 0)) zAZ (zAY _)) zIt zAV)
  (zAF (zAU (pe_or (zA4 (r:=rIn K true) zDx (iC (r:=rIxT K) zAS (pv 0)) (zB8 (v:=.ref _) (by rfl) zOB (by rfl)) rfl) (zEX (pe_cl zOT hr (zAB (pv 0) (zAB (pv 1) (zAB (pv 2) zAD)))))))))),?_⟩
 have r10:=r1;have r20:=r2;obtain⟨a1,hs1,us1,rfl,ha1,_,_⟩:=r1.all;obtain⟨a2,hs2,us2,rfl,ha2,_,_⟩:=r2.all;have at1:atI (V.str t.kd.s::hs1++us1) 0=some (.str t.kd.s):=zAQ (j:=0) rfl;have at2:atI (V.str u.kd.s::hs2++us2) 0=some (.str u.kd.s):=zAQ (j:=0) rfl;refine⟨_,rfl,a1,_,0,_,rfl,rfl,SqT.of ha1,at1,_,rfl,a2,_,0,_,rfl,rfl,SqT.of ha2,at2,rfl,_,rfl,ite2 (λ c=>?_) (λ c=>?_)⟩
 ·refine q false ⟨(λ z=>nomatch z),(λ z=>?_)⟩
  rw[z.1,decide_eq_true rfl] at c;cases c
 have ek:t.kd=u.kd:=by
  by_cases z:V.str t.kd.s=V.str u.kd.s
  ·exact Kd.eq_iff.mp z
  ·rw[decide_eq_false z] at c
   exact absurd rfl c
 refine⟨_,rfl,a1,_,0,_,rfl,rfl,SqT.of ha1,at1,rfl,_,rfl,ite2 (λ c=>?_) (λ Ω=>?_)⟩
 ·exact absurd (Kd.eq_iff.mp (lT c)) p1.ng
 refine⟨_,rfl,a1,_,0,_,rfl,rfl,SqT.of ha1,at1,lv,zDs,rfl,.inr (.inr hL),rfl,rfl,_,rfl,?_⟩;show if (!inV (.str t.kd.s) zDs)=true then _ else _
 rw[zFj];refine ite2 (λ e=>?_) (λ e=>?_)
 ·have nlf:¬t.kd.leaf=true:=λ z=>by rw[z] at e;cases e
  exact q true ⟨λ Ω=>⟨ek,λ z=>absurd z nlf⟩,λ Ω=>rfl⟩
 ·have hlf:t.kd.leaf=true:=by simpa using e
  exact⟨_,rfl,_,rfl,_,rfl,t,u,_,_,v3,rfl,r10,r20,⟨p1,p2,hd⟩,nn,λ z hz=>q z (hz.trans ⟨λ h=>⟨ek,λ Ω=>h⟩,λ h=>h.2 hlf⟩)⟩
abbrev zEQ:Stmt:=top 46
theorem zH4:zAT ["tree"] ["tree"] (zAH zEQ):=scI
abbrev zCO:Stmt:=top 47
theorem zB0:zAT ["pairs", "before", "behind"] ["pairs"] (zAH zCO):=scI
def zF5:Sp:=λ vs H Q Ω=>E2 λ(t:Tr) (v:V)=>A4 (vs=[v]) (Rep H t v) (t.size<=60) (∀(z:Bool) (H':Hp),Same H H'->(z=true↔Let1 t)->Q (.bl z) H')
theorem zJD (F:Fun K "has_let" "has_let" zEQ f fd) (z_any:mg "any" = none) (zOF:FnB P w K mg base k "all_parts" g1 gd1 ["tree"] zF7):FnOk P w K mg base CX0 (k+1) f fd ["tree"] zF5:=by
 refine F.ok zH4 (λ vs H Q E h=>?_) (λ cdv A outer s H vs Q E hr h=>?_)
 ·obtain⟨t,v,rfl,_⟩:=h
  rfl
 obtain⟨t,v,rfl,hR,hz,q⟩:=h;refine⟨_,(zAF (zAU (zAt (zBr rfl) (by rfl) z_any PyProof.Rows.boot_any (zAB (zAk ["part"] [none] rfl (zAf (pe_cl zOF hr (zAB (pv 0) zAD))) (λ Ω Ω Ω Ω Ω=>(zAc (i:=0) (show List.Nodup (["part"]:List Str) by symm) rfl (Or.inl rfl))) (λ Ω Ω Ω Ω Ω=>zBF) (λ Ω Ω Ω Ω Ω=>(zA4 op_eq (iC (r:=rIxT K) zAS (pv 0)) zAZ (zAY _))) rfl) zAD)))),?_⟩;refine⟨_,rfl,t,v,rfl,hR,hz,λ l us F1 H1 g1 el pu perm=>⟨l,rfl,⟨us,SqL.of el⟩,λ acc hacc=>?_⟩⟩;have lF:F1.length<=60:=by rw[perm.length_eq];rw[zB9];exact hz
 have lu:us.length=F1.length:=zAG pu;refine zAl (xs:=us) (λ j H'=>Same H1 H'/\H' acc=some (.lst ((F1.take j).map λ p=>V.bl (decide (p.kd = .lett))))) ⟨zAC hacc,zAA⟩ (λ j H' Ω h=>SqL.of (h.1 _ _ el)) ?_ ?_
 ·rintro j x Hx hxj ⟨gx,ex⟩
  obtain⟨p,hp,rp⟩:=zAJ pu hxj;have hj:j<F1.length:=(lJ.mp hp).1;obtain⟨a0,hs0,us0,rfl,ha0,_,_⟩:=(rp.mono gx.tk).all;have at0:atI (V.str p.kd.s::hs0++us0) 0=some (.str p.kd.s):=zAQ (j:=0) rfl;refine⟨.skip .nil,_,rfl,a0,_,0,_,rfl,rfl,SqT.of ha0,at0,rfl,_,ex,zAK (by simp;omega),zAW gx hacc,?_⟩;rw[zAA,zAL hp,mP]
  have e:decide (V.str p.kd.s=V.str "let")=decide (p.kd = .lett):=by
   rw[decide_eq_decide];exact Kd.eq_iff (b:=.lett)
  rw[e];rfl
 ·rintro H2 ⟨g2,e2⟩
  rw[lu,mO] at e2;have e3:(F1.map λ p=>V.bl (decide (p.kd = .lett)))=(F1.map λ p=>decide (p.kd = .lett)).map V.bl:=by rw[nP];rfl
  rw[e3] at e2;refine⟨acc,_,rfl,e2,q _ H2 (g1.trans g2) ?_⟩;rw[List.any_map,List.any_eq_true];constructor
  ·rintro⟨p,hp,e⟩
   exact⟨p,perm.mem_iff.mp hp,by simpa using e⟩
  ·rintro⟨p,hp,e⟩
   exact⟨p,perm.mem_iff.mpr hp,by simpa using e⟩
def zHX:Sp:=λ vs H Q Ω=>E3 λ(l:Addr) (us:List V) (ps:List (Tr × Tr))=>A6 (vs=[.ref l]) (H l=some (.lst us)) (Paired (PrR H) ps us) (∀q∈ps,q.1.size<=60/\q.2.size<=60) (PrOk ps) (∀H',Same H H'->Q .non H')
theorem zKz {k:Nat}{f g1:Addr}{fd gd1:FuncData}{tk:Tok}(F:Fun K "check_pairs" "check_pairs" zCO f fd) (z_len:mg "len" = none) (zOU:mg "MOST_PAIRS" = some (.int 8 tk)) (zOV:FnB P w K mg base k "has_let" g1 gd1 ["tree"] zF5):FnOk P w K mg base CX0 (k+1) f fd ["pairs"] zHX:=by
 refine F.ok zB0 (λ vs H Q E h=>?_) (λ cdv A outer s H vs Q E hr h=>?_)
 ·obtain⟨l,us,ps,rfl,_⟩:=h
  rfl
 obtain⟨l,us,ps,rfl,el,pu,hz,ok,q⟩:=h
 refine⟨_,(zAE (ps_if (zCx (zKY op_le op_le zAI (cL z_len (zAB (pv 0) zAD)) (zB8 (v:=.int 8) (by rfl) zOU ⟨_,rfl⟩))) (zAF zFX) zAV)
  (zAF (zAv PassesOwn.never rfl (zAf (pv 0)) (zCh rfl (zAa (pGn (i:=1) zB0.nd) (zAa (pGn (i:=2) zB0.nd) zBP))) (zAF (ps_if (pw_or (zBB (pe_cl zOV hr (zAB (pv 1) zAD))) (zCB (zBB (pe_cl zOV hr (zAB (pv 2) zAD))))).pt (zAF zFX) zAV))))),?_⟩
 have lu:us.length=ps.length:=zAG pu;have o1:=ok.1;have o2:=ok.2.1;refine⟨_,rfl,l,us,rfl,.inl (SqL.of el),_,_,rfl,rfl,_,rfl,ite2 (λ c1=>⟨_,_,rfl,rfl,_,rfl,ite2 (λ c2=>?_) (λ c2=>?_)⟩) (λ c1=>?_)⟩
 ·have:decide (((us.length:Nat):Int)<=8)=true:=lU (by omega)
  rw[this] at c2;cases c2
 ·refine⟨_,rfl,l,rfl,⟨us,SqL.of el⟩,?_⟩
  refine zA1 (xs:=us) (λ i σ' H'=>E2 λ(s1 s2:Option V)=>(σ'=[some (.ref l),s1,s2])/\(Same H H')) ⟨none,none,rfl,.refl _⟩ ?_ ?_ ?_
  ·rintro i σ' H' _ ⟨s1,s2,rfl,g⟩
   exact SqL.of (g _ _ el)
  ·rintro i x σ' H' hx ⟨s1,s2,rfl,g⟩
   obtain⟨pq,ep,pa,a,b,rfl,hp,ra,rb⟩:=zAJ pu hx;have hm:=lM ep;obtain⟨n1,n2⟩:=ok.2.2 pq hm;refine⟨pa,_,rfl,SqT.of (g _ _ hp),rfl,_,_,rfl,_,_,rfl,rfl,?_⟩;refine⟨_,rfl,pq.1,a,rfl,ra.mono g.tk,(hz pq hm).1,λ z1 H1 g1 h1=>⟨_,rfl,ite2 (λ c=>absurd (h1.mp c) n1) (λ c=>?_)⟩⟩;exact⟨_,rfl,pq.2,b,rfl,rb.mono (g.trans g1).tk,(hz pq hm).2,λ z2 H2 g2 h2=>⟨_,rfl,ite2 (λ c'=>absurd (h2.mp c') n2) (λ c'=>⟨_,_,rfl,g.trans (g1.trans g2)⟩)⟩⟩
  ·rintro σ' H' ⟨s1,s2,rfl,g⟩
   exact q H' g
 ·exact absurd (lU (by omega)) c1
abbrev zCQ:Stmt:=top 48
theorem zE1:zAT ["trees"] ["trees"] (zAH zCQ):=scI
abbrev zCI:Stmt:=top 49
theorem zEy:zAT ["trees"] ["trees"] (zAH zCI):=scI
def zHY:Sp:=λ vs H Q Ω=>E2 λ(v:V) (ts:List Tr)=>A4 (vs=[v]) (RowR H ts v) (RowG ts) (∀(z:Bool) (H':Hp),Same H H'->(z=true↔Beg ts)->Q (.bl z) H')
theorem zK0 (F:Fun K "begin_alike" "begin_alike" zCQ f fd) (z_all:mg "all" = none) (zOW:FnB P w K mg base k "alike_heads" g1 gd1 ["one", "other", "pairs"] zHT):FnOk P w K mg base CX0 (k+1) f fd ["trees"] zHY:=by
 refine F.ok zE1 (λ vs H Q E h=>?_) (λ cdv A outer s H vs Q E hr h=>?_)
 ·obtain⟨v,ts,rfl,_⟩:=h
  rfl
 obtain⟨v,ts,rfl,⟨p,us,rfl,hp,pu⟩,G,q⟩:=h;refine⟨_,(zAF (zAU (zI3 (zA4 op_ne (pe_ix (r:=rIxT K) zAS (iC (r:=rIxT K) zAS (pv 0)) zAI (λ Ω Ω=>rfl)) zAZ (zAY _)) (zEX (zAt (zEu rfl) (by rfl) z_all PyProof.Rows.boot_all (zAB (zAk ["tree", "trees"] [none,some 0] rfl (zBm (pv 0)) (λ Ω Ω Ω Ω Ω=>(zAc (i:=0) (show List.Nodup (["tree", "trees"]:List Str) by symm) rfl (Or.inl rfl))) (λ Ω Ω Ω Ω Ω=>zBF) (λ Ω Ω Ω Ω Ω=>(pe_cl zOW hr (zAB (iC (r:=rIxT K) zAS (pv 1)) (zAB (pv 0) (zAB (zBQ zAD:PE _ _ _) zAD))))) rfl) zAD)))))),?_⟩;have d0:0<=sizeLine:=by decide
 have h1:=G.ne;have h10:=G.fw;have lu:us.length=ts.length:=zAG pu;obtain⟨t0,e0⟩:∃t0,ts[0]?=some t0:=⟨_,lW (by omega)⟩;obtain⟨u0,eu0,r0⟩:=zBn pu e0;have hm0:=lM e0;have atu:atI us 0=some u0:=zAQ (j:=0) eu0;obtain⟨a0,hs0,us0,rfl,ha0,_,_⟩:=id r0.all;have at0:atI (V.str t0.kd.s::hs0++us0) 0=some (.str t0.kd.s):=zAQ (j:=0) rfl;refine⟨_,rfl,p,us,0,_,rfl,rfl,SqT.of hp,atu,a0,_,0,_,rfl,rfl,SqT.of ha0,at0,rfl,_,rfl,ite2 (λ c=>?_) (λ c=>?_)⟩
 ·have nn:¬t0.kd = .name:=λ z=>by
   have:decide (V.str t0.kd.s=V.str "name")=true:=lU (Kd.eq_iff (b:=.name).mpr z);rw[this] at c;cases c
  refine⟨_,rfl,p,rfl,⟨us,SqT.of hp⟩,λ acc hacc=>?_⟩;refine zBq (xs:=us) (λ j H'=>Same H H'/\∃bs:List Bool,H' acc=some (.lst (bs.map V.bl))/\bs.length=j/\(bs.all id=true↔∀u∈ts.take j,Hal t0 u)) ⟨zAC hacc,[],zAA,rfl,by simp⟩ (λ j H' Ω h=>SqT.of (h.1 _ _ hp)) ?_ ?_
  ·rintro j x Hx hxj ⟨gx,bs,ex,lb,hb⟩
   obtain⟨t,ht,rt⟩:=zAJ pu hxj;have hj:j<ts.length:=(lJ.mp ht).1;have hm:=lM ht;refine⟨.skip (.keep .nil),_,rfl,p,us,0,_,rfl,rfl,SqT.of (gx _ _ hp),atu,_,rfl,d0,λ pe hpe=>?_⟩;have ke:=zAC (o:=.tup []) hpe;have gk:=gx.trans ke;have ex':=ke _ _ ex;generalize upd Hx pe _=Hy at ke gk ex' ⊢;refine⟨t0,t,_,_,_,rfl,r0.mono gk.tk,rt.mono gk.tk,⟨G.pl t0 hm0,G.pl t hm,G.dp t0 hm0⟩,nn,λ z hz=>?_⟩;refine⟨_,ex',zAK (by simp;omega),zAW gk hacc,bs++[z],?_,by simp[lb],?_⟩
   ·rw[zAA,mP]
    rfl
   ·rw[List.all_append,Bool.and_eq_true,hb,zAL ht]
    constructor
    ·rintro⟨h1,h2⟩ u hu
     rcases lK.mp hu with h|h
     ·exact h1 u h
     ·rw[mQ.mp h]
      exact hz.mp (by simpa using h2)
    ·intro h
     exact⟨λ u hu=>h u (mF _ hu),by simpa using hz.mpr (h t (by simp))⟩
  ·rintro H2 ⟨g2,bs,e2,lb,hb⟩
   rw[lu,mO] at hb;refine⟨acc,bs,rfl,e2,q _ H2 g2 ?_⟩;rw[hb];constructor
   ·intro h
    exact⟨t0,e0,nn,h⟩
   ·rintro⟨t1,e1,_,h⟩
    rw[e0] at e1;cases e1;exact h
 ·refine q false H (.refl _) ⟨(λ z=>nomatch z),?_⟩
  rintro⟨t1,e1,nn,_⟩;rw[e0] at e1;cases e1;refine absurd ?_ c;have:decide (V.str t0.kd.s=V.str "name")=false:=decide_eq_false λ z=>nn (Kd.eq_iff (b:=.name).mp z);rw[this];rfl
def zIf:Sp:=λ vs H Q Ω=>E2 λ(v:V) (ts:List Tr)=>A5 (vs=[v]) (RowR H ts v) (RowG ts) (Beg ts) (∀(l:Addr) (us:List V) (H':Hp),Same H H'->H l=none->H' l=some (.lst us)->Paired (RowR H') (rowsW ts) us->Q (.ref l) H')
theorem zMZ (F:Fun K "rows_within" "rows_within" zCI f fd) (z_range:mg "range" = none) (z_len:mg "len" = none) (z_tuple:mg "tuple" = none) (zOD:FnB P w K mg base k "parts" g1 gd1 ["tree"] zCo):FnOk P w K mg base CX0 (k+1) f fd ["trees"] zIf:=by
 refine F.ok zEy (λ vs H Q E h=>?_) (λ cdv A outer s H vs Q E hr h=>?_)
 ·obtain⟨v,ts,rfl,_⟩:=h
  rfl
 obtain⟨v,ts,rfl,⟨p,us,rfl,hp,pu⟩,G,B,q⟩:=h;refine⟨_,(zAF (zAU (zI2 "number" ["number", "trees"] [none,some 0] rfl (zEW (by rfl) z_range (zAB (cL z_len (zAB (pe_cl zOD hr (zAB (iC (r:=rIxT K) zAS (pv 0)) zAD)) zAD)) zAD)) (λ Ω Ω Ω Ω Ω=>(zAc (i:=0) (by symm:List.Nodup (["number", "trees"]:List Str)) rfl (Or.inr rfl))) (λ Ω Ω Ω Ω Ω=>zBF) (λ Ω Ω Ω Ω Ω=>(zBG (zE6 K rfl) (by rfl) z_tuple rK (zAB (zAk ["tree", "number"] [none,some 0] rfl (zMM K rfl (pv 1)) (λ Ω Ω Ω Ω Ω=>(zAc (i:=0) (by symm:List.Nodup (["tree", "number"]:List Str)) rfl (Or.inl rfl))) (λ Ω Ω Ω Ω Ω=>zBF) (λ Ω Ω Ω Ω Ω=>(pe_ix (r:=rIxT K) zAS (pe_cl zOD hr (zAB (pv 0) zAD)) (pv 1) (λ Ω Ω=>rfl))) rfl) zAD))) rfl))),?_⟩;have h1:=G.ne;have h10:=G.fw;have lu:us.length=ts.length:=zAG pu;obtain⟨t0,e0,nn,hal⟩:=B;obtain⟨u0,eu0,r0⟩:=zBn pu e0;have hm0:=lM e0;have atu:atI us 0=some u0:=zAQ (j:=0) eu0;refine⟨_,rfl,p,us,0,_,rfl,rfl,SqT.of hp,atu,t0,u0,rfl,r0,λ pp H1 pus g1 epp hpp=>?_⟩;have lp:pus.length=t0.parts.length:=zAG hpp;have h3:=zDE t0;refine⟨pp,pus,rfl,.inr (SqT.of epp),_,rfl,by omega,by omega,λ acc hacc=>?_⟩;have hp1:=g1 _ _ hp;have pu1:=Paired.mapP pu λ Ω Ω z=>Rep.mono g1.tk z;refine zG8 (n:=((pus.length:Nat):Int).toNat) (λ j H'=>Same H1 H'/\∃os:List V,H' acc=some (.lst os)/\Paired (RowR H') ((List.range j).map λ i=>ts.filterMap λ t=>t.parts[i]?) os) ⟨zAC hacc,[],zAA,.nil⟩ ?_ ?_
 ·rintro j H2 hj ⟨g2,os,eo,po⟩
  rw[Int.toNat_natCast] at hj;have lo:=zAG po;rw[mD,List.length_range] at lo;refine⟨.skip (.keep .nil),_,rfl,p,rfl,⟨us,SqT.of (g2 _ _ hp1)⟩,λ ac2 hac2=>?_⟩;refine zBq (xs:=us) (λ m H'=>Same H2 H'/\∃vs:List V,H' ac2=some (.lst vs)/\vs.length=m/\Paired (Rep H') ((ts.take m).filterMap λ t=>t.parts[j]?) vs) ⟨zAC hac2,[],zAA,rfl,.nil⟩ (λ m H' Ω h=>SqT.of (h.1 _ _ (g2 _ _ hp1))) ?_ ?_
  ·rintro m x Hx hxm ⟨gx,vs,ev,lv,pv⟩
   obtain⟨t,ht,rt⟩:=zAJ pu1 hxm;have hm:m<ts.length:=(lJ.mp ht).1;have hmt:=lM ht;have lt:=zCE (hal t hmt);refine⟨.skip (.keep .nil),_,rfl,t,x,rfl,rt.mono (g2.trans gx).tk,λ pq Hy qus gy eq hq=>?_⟩;obtain⟨d,hd⟩:∃d,t.parts[j]?=some d:=⟨_,lW (by omega)⟩;obtain⟨y,ey,ry⟩:=zBn hq hd;have ev2:=gy _ _ ev;refine⟨_,rfl,pq,qus,j,y,rfl,by simp,SqT.of eq,zAQ ey,vs,ev2,zAK (by omega),zAW (gx.trans gy) hac2,vs++[y],zAA,by simp[lv],?_⟩;rw[zAL ht,List.filterMap_append];have:List.filterMap (λ t=>t.parts[j]?) [t]=[d]:=by simp[hd]
   rw[this];exact zAM (Paired.mapP pv λ Ω Ω z=>z.mono (gy.tk.trans (Tk.lst ev2))) (.cons (ry.mono (Tk.lst ev2)) .nil)
  ·rintro H3 ⟨g3,vs,ev,lv,pv⟩
   rw[lu,mO] at pv;refine⟨ac2,vs,rfl,.inl ⟨SqL.of ev,λ tp htp=>?_⟩⟩;have g4:=zAC (o:=.tup vs) htp;have eo2:=(g3.trans g4) _ _ eo;refine⟨os,eo2,zAK (by omega),zAW (g2.trans (g3.trans g4)) hacc,os++[.ref tp],zAA,?_⟩;rw[List.range_succ,mP];refine zAM (Paired.mapP po λ Ω Ω z=>z.mono ((g3.trans g4).tk.trans (Tk.lst eo2))) (.cons (RowR.mono (Tk.lst eo2) ⟨tp,vs,rfl,zAA,Paired.mapP pv λ Ω Ω z=>z.mono g4.tk⟩) .nil)
 ·rintro H2 ⟨g2,os,eo,po⟩
  rw[Int.toNat_natCast] at po;refine q acc os H2 (g1.trans g2) ?_ eo ?_
  ·cases z:H acc with
   |none=>rfl
   |some o=>rw[g1 _ _ z] at hacc;cases hacc
  ·unfold rowsW
   rw[e0];rw[lp] at po;exact po
abbrev zCc:Stmt:=top 8
theorem zFV:zAT ["tree", "parts"] ["tree", "parts"] (zAH zCc):=scI
abbrev zCN:Stmt:=top 23
theorem zA2:zAT ["heads", "ready", "grown", "begin", "head", "end"] ["heads", "ready"] (zAH zCN):=scI
abbrev zCe:Stmt:=top 24
theorem zBa:zAT ["levels", "ready", "heads"] ["levels"] (zAH zCe):=scI
abbrev zEN:Stmt:=top 21
theorem zCA:zAT ["number", "word", "rest"] ["number"] (zAH zEN):=scI
def zId:Sp:=λ vs H Q Ω=>E5 λ(t:Tr) (v:V) (l:Addr) (us:List V) (ps:List Tr)=>A6 (vs=[v,.ref l]) (Rep H t v) (H l=some (.lst us)) (Paired (Rep H) ps us) (ps.length=t.parts.length) (∀v' H',Same H H'->Rep H' (t.withP ps) v'->Q v' H')
theorem zLG (t:Tr):t.head<=3:=by cases t<;>simp[Tr.head]
theorem zMX (F:Fun K "with_parts" "with_parts" zCc f fd) (z_tuple:mg "tuple" = none) (zOC:FnB P w K mg base k "parts_begin" g gd ["tree"] zBx) :
  FnOk P w K mg base CX0 (k+1) f fd ["tree", "parts"] zId:=by
 refine F.ok zFV (λ vs H Q E h=>?_) (λ cdv A outer s H vs Q E hr h=>?_)
 ·obtain⟨t,v,l,us,ps,rfl,_⟩:=h
  rfl
 obtain⟨t,v,l,ws,ps,rfl,hR,hl0,hp,hpl,q⟩:=h;refine⟨_,(zAF (zAU (pe_op zGw (zAg zGl (pv 0) zA7 (zAh (pe_cl zOC hr (zAB (pv 0) zAD)))) (zBG zBe (by rfl) z_tuple rK (zAB (pv 1) zAD))))),?_⟩;obtain⟨a,hs,us,rfl,ha,hl,hul,mk⟩:=hR.build hpl;have hn:(V.str t.sign::hs++us).length=t.head+us.length:=by rw[mK,mM];omega
 have e1:HT.sIx (V.str t.sign::hs++us).length (V.str t.sign::hs++us).length (some (zDK t))=t.head:=by
  show HT.sIx _ _ (some ((t.head:Nat):Int))=_;rw[HT.sIx_nat,hn];omega
 have e2:cutV (V.str t.sign::hs++us) none (some (zDK t))=V.str t.sign::hs:=by
  unfold cutV;rw[e1,HT.sIx_none,Nat.sub_zero,List.drop_zero,←hl];exact List.take_left' rfl
 have h3:=zLG t;have h4:=zDE t;refine⟨_,rfl,_,rfl,t,_,rfl,hR,_,rfl,a,_,rfl,ha,λ p H' g e=>?_⟩
 ·rw[e2] at e
  have hw:ws.length=ps.length:=(zAG hp);refine⟨_,rfl,l,ws,rfl,.inl ⟨SqL.of (g _ _ hl0),λ p2 hp2=>?_⟩⟩;have g2:=zAC (o:=.tup ws) hp2;refine⟨p,p2,_,_,rfl,rfl,g2 _ _ e,zAA,zAz ?_,λ p3 H3 g3 e3=>?_⟩
  ·rw[mM]
   omega
  ·have gA:=g.trans (g2.trans g3)
   exact q (.ref p3) H3 gA (mk gA.tk e3 (Paired.mapP hp λ Ω Ω r=>r.mono gA.tk))
def zHP:Sp:=λ vs H Q Ω=>E6 λ(hl rl:Addr) (hvs rvs:List V) (hs R:List Tr)=>A8 (vs=[.ref hl,.ref rl]) (H hl=some (.lst hvs)) (H rl=some (.lst rvs)) (Paired (Rep H) hs hvs) (Paired (Rep H) R rvs) (R.length=zAb hs) (hs.length<=600) (∀l us H',Same H H'->H l=none->H' l=some (.lst us)->Paired (Rep H') (growL hs R) us->Q (.ref l) H')
theorem zKs (F:Fun K "grown_level" "grown_level" zCN f fd) (z_len:mg "len" = none) (zOD:FnB P w K mg base k "parts" g1 gd1 ["tree"] zCo) (zOX:FnB P w K mg base k "with_parts" g2 gd2 ["tree", "parts"] zId) :
  FnOk P w K mg base CX0 (k+1) f fd ["heads", "ready"] zHP:=by
 refine F.ok zA2 (λ vs H Q E h=>?_) (λ cdv A outer s H vs Q E hr h=>?_)
 ·obtain⟨hl,rl,hvs,rvs,hs,R,rfl,_⟩:=h
  rfl
 obtain⟨hl,rl,hvs,rvs,hs,R,rfl,eh,er,pH,pR,hRn,hz,q⟩:=h
 refine⟨_,(zAE (pS (i:=2) zA2.nd (zAs zAD:PE _ _ _))
  (zAE (pS (i:=3) zA2.nd zAI)
  (zAE (zAv PassesOwn.never rfl (zAf (pv 0)) (pGn (i:=4) zA2.nd) (zAE (pS (i:=5) zA2.nd (pe_op zEb (pv 3) (cL z_len (zAB (pe_cl zOD hr (zAB (pv 4) zAD)) zAD))))
  (zAE (pAp (pv 2) (pe_cl zOX hr (zAB (pv 4) (zAB (zAg (r:=rSlL K) zBf (pv 1) (zAh (pv 3)) (zAh (pv 5))) zAD))))
  (zAF (pS (i:=3) zA2.nd (pv 5))))))
  (zAF (zAU (pv 2)))))),?_⟩
 have lh:hvs.length=hs.length:=zAG pH;have lr:rvs.length=R.length:=zAG pR;refine⟨(by show 0<=sizeLine;decide),λ gl hgl=>?_⟩;have g0:=zAC (o:=.lst []) hgl;refine⟨_,rfl,hl,rfl,⟨hvs,SqL.of (g0 _ _ eh)⟩,?_⟩;refine zA1 (xs:=hvs) (λ i σ' H'=>E3 λ(us:List V) (s4 s5:Option V)=>A4 (σ'=[some (.ref hl),some (.ref rl),some (.ref gl),some (.int ((zAb (hs.take i):Nat):Int)),s4,s5]) (Same H H') (H' gl=some (.lst us)) (Paired (Rep H') (growL (hs.take i) (R.take (zAb (hs.take i)))) us)) ?_ ?_ ?_ ?_
 ·exact⟨[],none,none,rfl,g0,zAA,.nil⟩
 ·rintro i σ1 H1 _ ⟨us,s4,s5,rfl,g1,eg1,p1⟩
  exact SqL.of (g1 _ _ eh)
 ·rintro i x σ1 H1 hx ⟨us,s4,s5,rfl,g1,eg1,p1⟩
  obtain⟨h,eh',rh⟩:=zAJ pH hx;have hi:i<hs.length:=(lJ.mp eh').1;have et:=zAL eh';have en:zAb (hs.take (i+1))=zAb (hs.take i)+h.parts.length:=by rw[et,zFF,zIJ]
  have le:=zEc hs (i+1);refine⟨_,rfl,_,rfl,h,x,rfl,rh.mono g1.tk,λ pt H2 ws g2 ept pw=>?_⟩;have lw:ws.length=h.parts.length:=zAG pw;refine⟨pt,_,rfl,.inr (SqT.of ept),_,_,rfl,rfl,?_⟩;have er2:=(g1.trans g2) _ _ er;refine⟨_,rfl,.inl ⟨rfl,_,SqL.of (g2 _ _ eg1)⟩,_,rfl,_,rfl,_,rfl,_,rfl,_,rfl,_,rfl,rl,rvs,rfl,SqL.of er2,λ sl hsl=>?_⟩
  have e0:cutV rvs (some ((zAb (hs.take i):Nat):Int)) (some (((zAb (hs.take i):Nat):Int)+(ws.length:Int)))=(rvs.drop (zAb (hs.take i))).take h.parts.length:=by
   have e1:(((zAb (hs.take i):Nat):Int)+(ws.length:Int))=((zAb (hs.take i)+h.parts.length:Nat):Int):=by rw[lw];omega
   rw[e1];unfold cutV;rw[HT.sIx_nat,HT.sIx_nat];congr 1
   ·omega
   ·congr 1
    omega
  rw[e0];have g3:=zAC (o:=.lst ((rvs.drop (zAb (hs.take i))).take h.parts.length)) hsl;have gA:=g1.trans (g2.trans g3);refine⟨h,x,sl,_,(R.drop (zAb (hs.take i))).take h.parts.length,rfl,rh.mono gA.tk,zAA,Paired.mapP (zDd _ _ pR) (λ Ω Ω z=>z.mono gA.tk),?_,λ v' H4 g4 r4=>?_⟩
  ·rw[mN,mV]
   omega
  have eg4:=(g2.trans (g3.trans g4)) _ _ eg1
  have lus:us.length<=i:=by
   have:=zAG p1;rw[zEm,mN] at this;omega
  refine⟨gl,us,v',rfl,rfl,eg4,zAK (by omega),?_⟩;have tkz:Tk H4 (upd H4 gl (.lst (us++[v']))):=Tk.lst eg4;refine⟨_,rfl,us++[v'],some x,some (V.int (((zAb (hs.take i):Nat):Int)+(ws.length:Int))),?_,zAW (gA.trans g4) hgl,zAA,?_⟩
  ·have e1:(((zAb (hs.take i):Nat):Int)+(ws.length:Int))=((zAb (hs.take (i+1)):Nat):Int):=by rw[lw,en];omega
   show [some (V.ref hl),some (V.ref rl),some (V.ref gl),some (V.int (((zAb (hs.take i):Nat):Int)+(ws.length:Int))),some x,some (V.int (((zAb (hs.take i):Nat):Int)+(ws.length:Int)))]=_;rw[e1]
  ·have e2:R.take (zAb (hs.take (i+1)))=R.take (zAb (hs.take i))++(R.drop (zAb (hs.take i))).take h.parts.length:=by
    rw[en,List.take_add]
   rw[e2,et,zFJ _ (by rw[mN];have:=zEc hs i;omega) (by rw[mN,mV];omega)];exact zAM (Paired.mapP p1 λ Ω Ω z=>z.mono ((g2.trans (g3.trans g4)).tk.trans tkz)) (.cons (r4.mono tkz) .nil)
 ·rintro σ1 H1 ⟨us,s4,s5,rfl,g1,eg1,p1⟩
  rw[lh,mO,←hRn,mO] at p1;exact⟨_,rfl,q gl us H1 g1 hgl eg1 p1⟩
def zHU:Sp:=λ vs H Q Ω=>E4 λ(L:Addr) (lvs:List V) (Lr:List (List Tr)) (r:Tr)=>A7 (vs=[.ref L]) (H L=some (.lst lvs)) (Paired (zOA H) Lr.reverse lvs) (Fit Lr 0) (zBK Lr []=[r]) (∀hs∈Lr,hs.length<=600) (∀v' H',Same H H'->Rep H' r v'->Q v' H')
theorem zKw (F:Fun K "grown_tree" "grown_tree" zCe f fd) (z_reversed:mg "reversed" = none) (zOY:FnB P w K mg base k "grown_level" g1 gd1 ["heads", "ready"] zHP):FnOk P w K mg base CX0 (k+1) f fd ["levels"] zHU:=by
 refine F.ok zBa (λ vs H Q E h=>?_) (λ cdv A outer s H vs Q E hr h=>?_)
 ·obtain⟨L,lvs,Lr,r,rfl,_⟩:=h
  rfl
 obtain⟨L,lvs,Lr,r,rfl,eL,pL,hfit,hgrow,hz,q⟩:=h
 refine⟨_,(zAE (pS (i:=1) zBa.nd (zAs zAD:PE _ _ _))
  (zAE (zAv PassesOwn.never rfl (zMN (by rfl) z_reversed (zAB (pv 0) zAD)) (pGn (i:=2) zBa.nd) (zAF (pS (i:=1) zBa.nd (pe_cl zOY hr (zAB (pv 2) (zAB (pv 1) zAD))))))
  (zAF (zAU (iC (r:=rIxL K) zA0 (pv 1)))))),?_⟩
 have ll:lvs.length=Lr.length:=by rw[zAG pL,List.length_reverse]
 refine⟨(by show 0<=sizeLine;decide),λ rl0 hrl0=>?_⟩;have g0:=zAC (o:=.lst []) hrl0;refine⟨_,rfl,L,rfl,lvs,SqL.of (g0 _ _ eL),?_⟩;refine zLH (xs:=lvs) (λ i σ' H'=>E4 λ(rl:Addr) (rvs:List V) (R:List Tr) (s2:Option V)=>A6 (σ'=[some (.ref L),some (.ref rl),s2]) (Same H H') (H' rl=some (.lst rvs)) (Paired (Rep H') R rvs) (Fit (Lr.drop i) R.length) (zBK (Lr.drop i) R=[r])) ?_ ?_ ?_ ?_
 ·exact⟨rl0,[],[],none,rfl,g0,zAA,.nil,hfit,hgrow⟩
 ·rintro i σ1 H1 _ ⟨rl,rvs,R,s2,rfl,g1,er,pR,hf,hg⟩
  exact SqL.of (g1 _ _ eL)
 ·rintro i x σ1 H1 hi hx ⟨rl,rvs,R,s2,rfl,g1,er,pR,hf,hg⟩
  obtain⟨hs,ehs,l,us,rfl,el,pl⟩:=zE3 pL hi hx;have hlt:i<Lr.length:=by omega
  have ed:Lr.drop i=hs::Lr.drop (i+1):=by
   rw[List.drop_eq_getElem_cons hlt];have:=(lJ.mp ehs).2;rw[this]
  rw[ed] at hf hg;obtain⟨hf1,hf2⟩:=hf;refine⟨_,rfl,_,rfl,l,rl,us,rvs,hs,R,rfl,g1 _ _ el,er,Paired.mapP pl (λ Ω Ω z=>z.mono g1.tk),pR,hf1.symm,hz hs (lM ehs),λ l2 us2 H2 g2 Ω e2 p2=>?_⟩;refine⟨l2,us2,growL hs R,_,rfl,g1.trans g2,e2,p2,by rw[zEm];exact hf2,hg⟩
 ·rintro σ1 H1 ⟨rl,rvs,R,s2,rfl,g1,er,pR,hf,hg⟩
  rw[ll,List.drop_length] at hg;have hg':R=[r]:=hg;subst hg';cases pR with
  |cons r1 pR =>
   cases pR;exact⟨_,rfl,rl,_,0,_,rfl,rfl,SqL.of er,rfl,q _ H1 g1 r1⟩
def zE7:Sp:=λ vs H Q Ω=>∃(n:Nat),A3 (vs=[.int (n:Int)]) (n<702) (Q (.str (wrdN n)) H)
theorem zIE {k:Nat}{f:Addr}{fd:FuncData}{tk:Tok}(F:Fun K "word_of" "word_of" zEN f fd) (zOZ:mg "LETTERS" = some (.str abcS tk)):FnOk P w K mg base CX0 (k+1) f fd ["number"] zE7:=by
 refine F.ok zCA (λ vs H Q E h=>?_) (λ cdv A outer s H vs Q E hr h=>?_)
 ·obtain⟨n,rfl,_⟩:=h
  rfl
 obtain⟨n,rfl,hn,q⟩:=h
 refine⟨_,(zAE (pS (i:=1) zCA.nd (pe_ix zLq (zB8 (v:=.str abcS) (by rfl) zOZ ⟨_,rfl⟩) (pe_op zAu (pv 0) zAI) (λ Ω Ω=>rfl)))
  (zAE (pS (i:=2) zCA.nd (pe_op zA5 (pv 0) zAI))
  (zAE (zCv PassesOwn.never (zAO op_gt (pv 2) zAI (zAY _)) (zAE (pS (i:=1) zCA.nd (pe_op zID (pe_ix zLq (zB8 (v:=.str abcS) (by rfl) zOZ ⟨_,rfl⟩) (pe_op zAu (pe_op zGG (pv 2) zAI) zAI) (λ Ω Ω=>rfl)) (pv 1)))
  (zAF (pS (i:=2) zCA.nd (pe_op zA5 (pe_op zGG (pv 2) zAI) zAI)))))
  (zAF (zAU (pv 1)))))),?_⟩
 have at_:∀i:Nat,i<26->atI abcS.cps.toList ((i:Nat):Int)=some (97+i):=λ i hi=>zAQ (zN8 i hi);have e1:(n:Int) % 26=((n % 26:Nat):Int):=by omega
 have e2:(n:Int) / 26=((n / 26:Nat):Int):=by omega
 refine⟨_,rfl,_,_,rfl,rfl,(show (0:Int)<26 by decide),abcS,_,_,rfl,rfl,zAz (by rw[zKA];decide),(by rw[e1];exact at_ _ (by omega)),?_⟩;refine⟨_,rfl,_,_,rfl,rfl,⟨(show (0:Int)<26 by decide),(show (26:Int)<1073741824 by decide)⟩,?_⟩;refine⟨λ m σ' H'=>H'=H/\((σ'=[some (.int (n:Int)),some (.str ⟨#[97+n % 26]⟩),some (.int ((n:Int) / 26))]/\m=1)\/(26<=n/\σ'=[some (.int (n:Int)),some (.str ⟨#[96+n / 26,97+n % 26]⟩),some (.int 0)]/\m=0)),⟨1,rfl,.inl ⟨rfl,rfl⟩⟩,?_⟩;rintro m σ' H' ⟨rfl,⟨rfl,rfl⟩|⟨hb,rfl,rfl⟩⟩
 ·refine⟨_,rfl,_,_,rfl,rfl,_,rfl,?_⟩
  refine ite2 (λ c=>?_) (λ c=>?_)
  ·have c':(0:Int)<(n:Int) / 26:=lT c
   have e3:((n:Int) / 26 - 1) % 26=((n / 26 - 1:Nat):Int):=by omega
   have e4:((n:Int) / 26 - 1) / 26=0:=by omega
   refine⟨_,λ Ω Ω h=>h,?_⟩;refine⟨_,rfl,_,_,rfl,rfl,_,_,rfl,rfl,(show (0:Int)<26 by decide),abcS,_,_,rfl,rfl,zAz (by rw[zKA];decide),(by rw[e3];exact at_ _ (by omega)),_,rfl,_,_,rfl,rfl,zAz (by show 1+1<=1000;decide),?_⟩;refine⟨_,rfl,_,_,rfl,rfl,_,_,rfl,rfl,⟨(show (0:Int)<26 by decide),(show (26:Int)<1073741824 by decide)⟩,?_⟩;refine⟨0,by decide,rfl,.inr ⟨by omega,?_,rfl⟩⟩;have e5:97+(n / 26 - 1)=96+n / 26:=by omega
   show [some (V.int (n:Int)),some (V.str ⟨#[97+(n / 26 - 1),97+n % 26]⟩),some (V.int (((n:Int) / 26 - 1) / 26))]=_;rw[e4,e5]
  ·have c':¬(0:Int)<(n:Int) / 26:=λ z=>c (lU z)
   have e:wrdN n=⟨#[97+n % 26]⟩:=by
    unfold wrdN;rw[if_pos (by omega),Nat.mod_eq_of_lt (by omega)]
   rw[e] at q;exact⟨_,rfl,q⟩
 ·refine⟨_,rfl,_,_,rfl,rfl,_,rfl,?_⟩
  refine iteN (by decide) ?_
  have e:wrdN n=⟨#[96+n / 26,97+n % 26]⟩:=by
   unfold wrdN;rw[if_neg (by omega)]
  rw[e] at q;exact⟨_,rfl,q⟩
abbrev zCH:Stmt:=top 22
theorem zBz:zAT ["used", "number"] ["used"] (zAH zCH):=scI
abbrev zES:Stmt:=top 50
theorem zH5:zAT ["trees", "words"] ["trees", "words"] (zAH zES):=scI
def zF1:Sp:=λ vs H Q Ω=>E2 λ(u:Addr) (ks:List Str)=>A4 (vs=[.ref u]) (H u=some (.lst (ks.map V.str))) (ks.length<=600) (∀m,Unu ks m->Q (.str m) H)
theorem zI8 (F:Fun K "unused_word" "unused_word" zCH f fd) (zOa:mg "KEPT_WORDS" = some (.ref kv)) (hL:KeptW K kv) (zOb:FnB P w K mg base k "word_of" g1 gd1 ["number"] zE7):FnOk P w K mg base CX0 (k+1) f fd ["used"] zF1:=by
 refine F.ok zBz (λ vs H Q E h=>?_) (λ cdv A outer s H vs Q E hr h=>?_)
 ·obtain⟨u,ks,rfl,_⟩:=h
  rfl
 obtain⟨u,ks,rfl,hd,hz,q⟩:=h
 refine⟨_,(zAE (pS (i:=1) zBz.nd zAI)
  (zAE (zCv PassesOwn.never (pw_or (zAO (r:=rIn K false) zBo (pe_cl zOb hr (zAB (pv 1) zAD)) (pv 0) rfl) (zCB (zAO (r:=rIn K false) zBo (pe_cl zOb hr (zAB (pv 1) zAD)) (zB8 (v:=.ref _) (by rfl) zOa (by rfl)) rfl))).pt (zAF (zNX (i:=1) zBz.nd rfl (Or.inl rfl) zAI zNy)))
  (zAF (zAU (pe_cl zOb hr (zAB (pv 1) zAD)))))),?_⟩
 have inK:∀x:Str,inV (.str x) keptV=decide (x∈keptS):=λ x=>zFk x keptS;have flU:(ks.map V.str).all flatV=true:=by rw[List.all_map];exact List.all_eq_true.mpr λ Ω Ω=>rfl
 refine⟨λ m σ' H'=>H'=H/\∃n:Nat,σ'=[some (.ref u),some (.int (n:Int))]/\m=701 - n/\(∀j<n,wrdN j∈ks\/wrdN j∈keptS)/\n<=701,⟨701,rfl,0,rfl,rfl,(λ j hj=>absurd hj (Nat.not_lt_zero j)),by decide⟩,?_⟩;rintro m σ' H' ⟨rfl,n,rfl,rfl,hall,hn7⟩;have hn:n<=ks.length+11:=zKE hall (by omega)
 have more:(wrdN n∈ks\/wrdN n∈keptS)->∀j<n+1,wrdN j∈ks\/wrdN j∈keptS:=λ z j hj=>by
  rcases Nat.lt_or_ge j n with h|h
  ·exact hall j h
  ·have:j=n:=by omega
   rw[this];exact z
 refine⟨_,rfl,n,rfl,by omega,_,rfl,u,ks.map V.str,rfl,.inl (SqL.of hd),rfl,flU,_,rfl,?_⟩;show if inV (.str (wrdN n)) (ks.map V.str)=true then _ else _
 rw[zFk];refine ite2 (λ c=>?_) (λ c=>?_)
 ·have hin:wrdN n∈ks:=by simpa using c
  exact iteT ⟨_,λ Ω Ω h=>h,_,rfl,n,1,rfl,rfl,701 - (n+1),by omega,rfl,n+1,rfl,rfl,more (.inl hin),by omega⟩
 ·have hnin:wrdN n∉ks:=by simpa using c
  refine⟨_,rfl,n,rfl,by omega,kv,keptV,rfl,.inr (.inr hL),rfl,rfl,_,rfl,?_⟩;show if inV (.str (wrdN n)) keptV=true then _ else _
  rw[inK];refine ite2 (λ c2=>?_) (λ c2=>?_)
  ·have hin:wrdN n∈keptS:=by simpa using c2
   exact⟨_,λ Ω Ω h=>h,_,rfl,n,1,rfl,rfl,701 - (n+1),by omega,rfl,n+1,rfl,rfl,more (.inr hin),by omega⟩
  ·have hnk:wrdN n∉keptS:=by simpa using c2
   exact⟨_,rfl,n,rfl,by omega,q _ ⟨n,rfl,hn7,hall,hnin,hnk⟩⟩
def zLd (P:Program) (w:World):Sp:=λ vs H Q Ω=>E4 λ(v:V) (d:Addr) (ts:List Tr) (ws:WS)=>A7 (vs=[v,.ref d]) (RowR H ts v) (RowP ts) (WsR P w H d ws) (∀q∈ws,RowP q.1) (ws.length<=200) (∀(g:Str) (ws':WS) (v':V) (H':Hp),Gap1 ws ts g ws'->Sx d H H'->WsR P w H' d ws'->Rep H' (.gap g []) v'->Q v' H')
theorem zNk (F:Fun K "gap_for" "gap_for" zES f fd) (z_list:mg "list" = none) (zOc:FnB P w K mg base k "unused_word" g1 gd1 ["used"] zF1):FnOk P w K mg base CX0 (k+1) f fd ["trees", "words"] (zLd P w):=by
 refine F.ok zH5 (λ vs H Q E h=>?_) (λ cdv A outer s H vs Q E hr h=>?_)
 ·obtain⟨v,d,ts,ws,rfl,_⟩:=h
  rfl
 obtain⟨v,d,ts,ws,rfl,rR,hp,hW,hwp,hwl,q⟩:=h;have hu5:=hu150 hr
 refine⟨_,(zAE (ps_if (zAO (zI5 hu5) (pv 0) (pv 1) rfl) (zAF (zMJ hu5 (pv 1) (pv 0) (pe_cl zOc hr (zAB (zBG (zIQ rfl) (by rfl) z_list PyProof.Rows.boot_list (zAB (zKd (pv 1)) zAD)) zAD)) rfl)) zAV)
  (zAF (zAU (zBQ (zAB zAZ (zAB (zI1 hu5 (pv 1) (pv 0) (λ Ω Ω=>rfl)) (zAB (zBQ zAD:PE _ _ _) zAD))):PE _ _ _)))),?_⟩
 obtain⟨b,rfl,dr,dp⟩:=rR.dr hp;refine viaN λ N hN=>?_
 have fin:∀(g:Str) (ws':WS) (H1:Hp),Gap1 ws ts g ws'->Sx d H H1->WsR P w H1 d ws'->valV (ws'.map kvW) (dtRow ts)=some (.str g)->N [some (.ref b),some (.ref d)] H1:=λ g ws' H1 hg hx hw hv=>hN _ _ (by
  have dr1:=dr.mono (hx.tk hW);refine⟨_,rfl,_,rfl,d,dtRow ts,_,_,rfl,(DicP.e hw).r hv,⟨b,rfl,dr1,dp⟩,hv,(by show 0<=sizeLine;decide),λ p1 h1=>⟨(by show 3<=sizeLine;decide),λ p2 h2=>?_⟩⟩;have g1:=zAC (o:=.tup []) h1;have g2:=zAC (o:=.tup [.str "gap", .str g,.ref p1]) h2;exact q g ws' (.ref p2) _ hg (hx.same (g1.trans g2)) (hw.mono (g1.trans g2)) ⟨p2,p1,[],rfl,zAA,g2 _ _ zAA,lY _,.nil⟩)
 refine⟨_,rfl,_,rfl,d,dtRow ts,ws.map kvW,rfl,DicP.e hW,⟨b,rfl,dr,dp⟩,_,rfl,?_⟩;rcases zLX ws ts hp hwp with ⟨g,hg,hv⟩|⟨hn,hv⟩
 ·rw[hv]
  exact iteF (fin g ws H (.old hg) (.of (Same.refl _)) hW hv)
 ·rw[hv]
  refine iteT ⟨_,rfl,d,ws.map kvW,rfl,DicP.e hW,λ p hpn=>?_⟩;have g1:=zAC (o:=viewO p d) hpn;refine⟨p,d,ws.map kvW,rfl,zAA,DicP.e (hW.mono g1),λ l hl=>?_⟩;have g2:=zAC (o:=.lst ((ws.map kvW).map (·.2))) hl;have gA:=g1.trans g2
  have e2:(upd (upd H p (viewO p d)) l (.lst ((ws.map kvW).map (·.2)))) l=some (.lst ((ws.map (·.2)).map V.str)):=by
   rw[zAA,nP,nP];rfl
  refine⟨l,ws.map (·.2),rfl,e2,by rw[mD];omega,λ m hm=>?_⟩;have hW2:=hW.mono gA;refine⟨_,rfl,_,rfl,d,dtRow ts,ws.map kvW,rfl,hW2,by rw[mD];omega,⟨b,rfl,dr.mono gA.tk,dp⟩,λ o hd tk=>?_⟩
  have ep:putK (ws.map kvW) (dtRow ts) (.str m)=(ws++[(ts,m)]).map kvW:=by
   unfold putK
   have:((ws.map kvW).any λ kv=>decide (kv.1=dtRow ts))=false:=by
    unfold valV at hv;rw[Option.map_eq_none_iff,List.find?_eq_none] at hv;rw[List.any_eq_false];exact hv
   rw[this];simp[kvW]
  rw[ep] at hd;refine fin m _ _ (.new hn hm) ((Sx.of gA).own) (.inl hd) ?_;rw[mP];unfold valV at hv ⊢;rw[Option.map_eq_none_iff] at hv;rw[List.find?_append,hv];simp[kvW]
abbrev zB6:Stmt:=top 51
theorem zAn:zAT ["trees", "words", "levels", "level", "heads", "deeper", "row"] ["trees", "words"] (zAH zB6):=scI
def zF6 (P:Program) (w:World):Sp:=λ vs H Q Ω=>E5 λ(tl d:Addr) (us:List V) (ts:List Tr) (ws:WS)=>A9 (vs=[.ref tl,.ref d]) (H tl=some (.lst us)) (Paired (Rep H) ts us) (RowQ ts) (WsR P w H d ws) (∀q∈ws,RowP q.1) (WsN ws) (ws.length+sz0 ts<=150)
 (∀(ws2:WS) (L:List (List Tr)) (r:Tr) (v':V) (H':Hp),Cs ws [ts] ws2 L->zBK L.reverse []=[r]->Sx d H H'->WsR P w H' d ws2->Rep H' r v'->Q v' H')
theorem zJF (F:Fun K "common_shape" "common_shape" zB6 f fd) (z_tuple:mg "tuple" = none) (zOd:FnB P w K mg base k "begin_alike" g1 gd1 ["trees"] zHY) (zOe:FnB P w K mg base k "rows_within" g2 gd2 ["trees"] zIf)
  (zOf:FnB P w K mg base k "gap_for" g3 gd3 ["trees", "words"] (zLd P w)) (zOg:FnB P w K mg base k "grown_tree" g4 gd4 ["levels"] zHU):FnOk P w K mg base CX0 (k+1) f fd ["trees", "words"] (zF6 P w):=by
 refine F.ok zAn (λ vs H Q E h=>?_) (λ cdv A outer s H vs Q E hr h=>?_)
 ·obtain⟨tl,d,us,ts,ws,rfl,_⟩:=h
  rfl
 obtain⟨tl,d,us,ts,ws,rfl,etl,pu,hQ,hW,hwp,hnd,hbd,q⟩:=h
 refine⟨_,(zAE (pS (i:=2) zAn.nd (zAs zAD:PE _ _ _))
  (zAE (pS (i:=3) zAn.nd (zAs (zAB (zBG zBe (by rfl) z_tuple rK (zAB (pv 0) zAD)) zAD):PE _ _ _))
  (zAE (zCv PassesOwn.never (zD7 (pv 3) (λ Ω=>rfl)) (zAE (pS (i:=4) zAn.nd (zAs zAD:PE _ _ _))
  (zAE (pS (i:=5) zAn.nd (zAs zAD:PE _ _ _))
  (zAE (zAv PassesOwn.never rfl (zAf (pv 3)) (pGn (i:=6) zAn.nd) (zAF (ps_if (zBB (pe_cl zOd hr (zAB (pv 6) zAD))) (zAE (pAp (pv 4) (iC (r:=rIxT K) zAS (pv 6)))
  (zAF (zCU (pe_bm rS rW rX zDG (pv 5) (zAB (pe_cl zOe hr (zAB (pv 6) zAD)) zAD))))) (zAF (pAp (pv 4) (pe_cl zOf hr (zAB (pv 6) (zAB (pv 1) zAD))))))))
  (zAE (pAp (pv 2) (pv 4))
  (zAF (pS (i:=3) zAn.nd (pv 5))))))))
  (zAF (zAU (pe_cl zOg hr (zAB (pv 2) zAD))))))),?_⟩
 have d0:0<=sizeLine:=by decide
 refine⟨d0,λ lv hlv=>?_⟩;have g0:=zAC (o:=.lst []) hlv;refine⟨_,rfl,tl,us,rfl,.inl ⟨SqL.of (g0 _ _ etl),λ tp htp=>⟨(by show 1<=sizeLine;decide),λ le0 hle=>?_⟩⟩⟩;have g1:=zAC (o:=.tup us) htp;have g2:=zAC (o:=.lst [.ref tp]) hle;have gA:=g0.trans (g1.trans g2);have s1:totR [ts]=sz0 ts:=by simp[totR]
 refine⟨λ m σ' Hw=>E9 λ(le:Addr) (lev:List V) (rows:List (List Tr)) (lvs:List V) (Lr:List (List Tr)) (wsi:WS) (s4 s5 s6:Option V)=>A14 (σ'=[some (.ref tl),some (.ref d),some (.ref lv),some (.ref le),s4,s5,s6]) (Sx d H Hw) (Hw le=some (.lst lev)) (Paired (RowR Hw) rows lev) (Hw lv=some (.lst lvs)) (Paired (LevN lv Hw) Lr.reverse lvs) (WsR P w Hw d wsi) (∀r∈rows,RowQ r) (∀q∈wsi,RowP q.1) (WsN wsi)
   (wsi.length+totR rows<=ws.length+sz0 ts) (m=totR rows) (Lr.length+totR rows<=sz0 ts) (∀ws2 L,Cs wsi rows ws2 L->Cs ws [ts] ws2 (Lr.reverse++L)),
  ⟨totR [ts],le0,_,[ts],[],[],ws,none,none,none,rfl,.of gA,zAA,.cons ⟨tp,us,rfl,g2 _ _ zAA,Paired.mapP pu λ Ω Ω z=>z.mono gA.tk⟩ .nil,(g1.trans g2) _ _ zAA,.nil,hW.mono gA,(λ r hr=>by rw[mQ.mp hr];exact hQ),hwp,hnd,by rw[s1];exact lQ _,rfl,by rw[s1];simp,λ ws2 L h=>h⟩,?_⟩
 rintro m σ' Hw ⟨le,lev,rows,lvs,Lr,wsi,s4,s5,s6,rfl,sw,ele,pR,elv,pL,hWw,hrq,hwpw,hndw,hbw,rfl,hlr,hcs⟩;have lR:lev.length=rows.length:=zAG pR;have lL:lvs.length=Lr.length:=by rw[zAG pL,List.length_reverse]
 have ltR:=zFg hrq;obtain⟨od,eod,nodt,nodl⟩:=hWw.at;have nLd:∀{b xs},Hw b=some (.lst xs)->b≠d:=λ{b xs} e z=>by rw[z,eod] at e;exact nodl _ (mE e)
 refine⟨_,rfl,_,.inl ⟨lev,SqL.of ele,rfl⟩,?_⟩;refine ite2 (λ c=>?_) (λ c=>?_)
 ·refine⟨_,λ Ω Ω h=>h,d0,λ hd hhd=>⟨d0,λ dp hdp=>?_⟩⟩
  have ga:=zAC (o:=.lst []) hhd;have gb:=zAC (o:=.lst []) hdp;have hdpW:Hw dp=none:=ga.free hdp;have nhd:hd≠dp:=zAN (zAA (H:=Hw) (a:=hd) (o:=.lst [])) hdp;have ndh:d≠hd:=zAN eod hhd;have ndd:d≠dp:=zAN eod hdpW;refine⟨_,rfl,le,rfl,⟨lev,SqL.of ((ga.trans gb) _ _ ele)⟩,?_⟩;refine zA1 (xs:=lev) (λ i σ' H'=>E6 λ(hvs dvs:List V) (hs:List Tr) (ds:List (List Tr)) (wsj:WS) (s6:Option V)=>A8 (σ'=[some (.ref tl),some (.ref d),some (.ref lv),some (.ref le),some (.ref hd),some (.ref dp),s6]) (Sx d Hw H') (H' hd=some (.lst hvs)) (H' dp=some (.lst dvs)) (Paired (Rep H') hs hvs) (Paired (RowR H') ds dvs) (WsR P w H' d wsj) (Lv1 wsi (rows.take i) wsj hs ds)) ?_ ?_ ?_ ?_
  ·exact⟨[],[],[],[],wsi,s6,rfl,.of (ga.trans gb),gb _ _ zAA,zAA,.nil,.nil,hWw.mono (ga.trans gb),.nil⟩
  ·rintro i σ1 H1 _ ⟨hvs,dvs,hs,ds,wsj,s6,rfl,sx,_⟩
   exact SqL.of (sx _ _ (nLd ele) ele)
  ·rintro i x σ1 H1 hx ⟨hvs,dvs,hs,ds,wsj,s6,rfl,sx,eh,ed,pH,pD,hWj,hlv1⟩
   obtain⟨row,er,rr⟩:=zAJ pR hx;have hm:=lM er;have rq:=hrq row hm;have et:=zAL er;have o:=hlv1.ok (λ r hr=>hrq r (nD hr)) hwpw hndw;have o1:=o.hl;have o2:=o.bd;have o3:=o.tt;have o4:=zFw rows (i+1);have o5:=zFw rows i;have tk1:=sx.tk hWw;have rr1:=rr.mono tk1;have hi:i<rows.length:=(lJ.mp er).1;have lt:(rows.take i).length=i:=by rw[mN];omega
   have lh:hvs.length=i:=by rw[zAG pH];omega
   have ld:dvs.length=ds.length:=zAG pD;have lds:=zFg o.q;refine⟨_,rfl,x,row,rfl,rr1,rq.g,λ z H2 g2 hz=>⟨_,rfl,ite2 (λ c=>?_) (λ c=>?_)⟩⟩
   ·have hB:=hz.mp c
    obtain⟨t0,e0,_,_⟩:=id hB;obtain⟨p,us',rfl,hp,pu'⟩:=id (rr1.mono g2.tk);obtain⟨u0,eu0,r0⟩:=zBn pu' e0;have atu:atI us' 0=some u0:=zAQ (j:=0) eu0;have eh2:=g2 _ _ eh;refine⟨_,rfl,.inl ⟨rfl,_,SqL.of eh2⟩,_,rfl,p,us',0,_,rfl,rfl,SqT.of hp,atu,hd,hvs,_,rfl,rfl,eh2,zAK (by omega),?_⟩;have k3:Tk H2 (upd H2 hd (.lst (hvs++[u0]))):=Tk.lst eh2;have s3:Sx d Hw (upd H2 hd (.lst (hvs++[u0]))):=(sx.same g2).set hhd;have e3:=@zAA H2 hd (.lst (hvs++[u0]));have d3:(upd H2 hd (.lst (hvs++[u0]))) dp=some (.lst dvs):=by rw[zAR (Ne.symm nhd)];exact g2 _ _ ed
    have w3:WsR P w (upd H2 hd (.lst (hvs++[u0]))) d wsj:=(hWj.mono g2).tkD k3 (zAR ndh);generalize upd H2 hd _=H3 at k3 s3 e3 d3 w3 ⊢;have tk3:=g2.tk.trans k3;refine⟨_,rfl,.inl ⟨rfl,_,SqL.of d3⟩,_,rfl,_,row,rfl,rr1.mono tk3,rq.g,hB,λ l ls H4 g4 hl el pl=>⟨dp,l,dvs,ls,rfl,rfl,g4 _ _ d3,el,zAz ?_,?_⟩⟩
    ·rw[zAG pl,zBk e0,ld]
     have:=zGB e0;have:=zDE t0;omega
    ·have d4:=g4 _ _ d3
     have k5:Tk H4 (upd H4 dp (.lst (dvs++ls))):=Tk.lst d4;refine⟨hvs++[u0],dvs++ls,hs++[t0],ds++rowsW row,wsj,_,rfl,(s3.same g4).set hdpW,by rw[zAR nhd];exact g4 _ _ e3,zAA,?_,?_,(w3.mono g4).tkD k5 (zAR ndd),?_⟩
     ·exact zAM (Paired.mapP pH λ Ω Ω z=>z.mono (tk3.trans (g4.tk.trans k5))) (.cons (r0.mono (k3.trans (g4.tk.trans k5))) .nil)
     ·exact zAM (Paired.mapP pD λ Ω Ω z=>z.mono (tk3.trans (g4.tk.trans k5))) (Paired.mapP pl λ Ω Ω z=>z.mono k5)
     ·rw[et]
      exact hlv1.snocB hB e0
   ·have hB:¬Beg row:=λ z=>c (hz.mpr z)
    have eh2:=g2 _ _ eh;refine⟨_,rfl,.inl ⟨rfl,_,SqL.of eh2⟩,_,rfl,_,rfl,x,d,row,wsj,rfl,rr1.mono g2.tk,rq.pl,hWj.mono g2,o.wp,by omega,λ g ws' v' H3 hg s3 w3 r3=>?_⟩;have eh3:=s3 _ _ (Ne.symm ndh) eh2;have k3:=s3.tk (hWj.mono g2);have k4:Tk H3 (upd H3 hd (.lst (hvs++[v']))):=Tk.lst eh3;have tk4:=g2.tk.trans (k3.trans k4);refine⟨hd,hvs,v',rfl,rfl,eh3,zAK (by omega),?_⟩;refine⟨hvs++[v'],dvs,hs++[.gap g []],ds,ws',_,rfl,((sx.same g2).trans s3).set hhd,zAA,by rw[zAR (Ne.symm nhd)];exact s3 _ _ (Ne.symm ndd) (g2 _ _ ed),?_,Paired.mapP pD λ Ω Ω z=>z.mono tk4,w3.tkD k4 (zAR ndh),?_⟩
    ·exact zAM (Paired.mapP pH λ Ω Ω z=>z.mono tk4) (.cons (r3.mono k4) .nil)
    ·rw[et]
     exact hlv1.snocG hB hg
  ·rintro σ1 H1 ⟨hvs,dvs,hs,ds,wsj,s6,rfl,sx,eh,ed,pH,pD,hWj,hlv1⟩
   rw[lR,mO] at hlv1;have o:=hlv1.ok hrq hwpw hndw;have elv1:=sx _ _ (nLd elv) elv;have nvh:lv≠hd:=zAN elv hhd;have nvd:lv≠dp:=zAN elv hdpW;have ndv:d≠lv:=λ z=>nLd elv z.symm;have b1:=o.bd;have b2:=o.tt
   have hne:1<=rows.length:=by
    cases lev with
    |nil=>exact absurd c (by simp)
    |cons _ _=>rw[←lR];simp
   refine⟨_,rfl,.inl ⟨rfl,_,SqL.of elv1⟩,_,rfl,lv,lvs,_,rfl,rfl,elv1,zAK (by omega),?_⟩;have k2:Tk H1 (upd H1 lv (.lst (lvs++[.ref hd]))):=Tk.lst elv1;refine⟨_,rfl,totR ds,by omega,dp,dvs,ds,lvs++[.ref hd],hs::Lr,wsj,_,_,_,rfl,(sw.trans sx).set hlv,by rw[zAR (Ne.symm nvd)];exact ed,Paired.mapP pD λ Ω Ω z=>z.mono k2,zAA,?_,hWj.tkD k2 (zAR ndv),o.q,o.wp,o.nd,by omega,rfl,by rw[mM];omega,λ ws2 L h=>?_⟩
   ·rw[List.reverse_cons]
    refine zAM (Paired.mapP pL λ Ω Ω z=>z.mono ((sx.tk hWw).trans k2) λ b us n e=>?_) (.cons ⟨hd,hvs,rfl,Ne.symm nvh,by rw[zAR (Ne.symm nvh)];exact eh,Paired.mapP pH λ Ω Ω z=>z.mono k2⟩ .nil);rw[zAR n];exact sx _ _ (nLd e) e
   ·rw[List.reverse_cons,mX]
    refine hcs ws2 (hs::L) ?_;cases rows with
    |nil=>simp at hne
    |cons r rs=>exact .cons hlv1 h
 ·have er:rows=[]:=by
   cases lev with
   |nil=>exact nJ.mp lR.symm
   |cons _ _=>exact absurd rfl c
  subst er;have hc:=hcs wsi [] .nil;rw[nO] at hc;obtain⟨r,e1,_,fit,_,_,_,lh⟩:=hc.tree hQ hwp hnd;rw[List.reverse_reverse] at fit;have e2:=e1;rw[List.reverse_reverse] at e2;refine⟨_,rfl,lv,lvs,Lr,r,rfl,elv,Paired.mapP pL (λ _ _ ⟨l,us,e,_,h,p⟩=>⟨l,us,e,h,p⟩),fit,e2,λ hs hh=>?_,λ v' H' g' r'=>q wsi Lr.reverse r v' H' hc e1 (sw.same g') (hWw.mono g') r'⟩;have:=lh hs (List.mem_reverse.mpr hh);omega
abbrev zAq:Stmt:=top 31
theorem zCz:zAT ["tree", "kinds", "told", "part"] ["tree", "kinds"] (zAH zAq):=scI
abbrev zEO:Stmt:=top 52
theorem zH2:zAT ["trees"] ["trees"] (zAH zEO):=scI
abbrev zDZ:Stmt:=top 53
theorem zEL:zAT ["words", "told"] ["words"] (zAH zDZ):=scI
def zHL:Sp:=λ vs H Q Ω=>E2 λ(t:Tr) (v:V)=>A5 (vs=[v,.non]) (Rep H t v) (t.size<=60) (Pln t) (∀(z:Bool) (H':Hp),Same H H'->(z=true↔¬loudT t)->Q (.bl z) H')
theorem zKl (F:FunD K "is_quiet" "is_quiet" zAq f fd [.none]) (z_dict:mg "dict" = none) (zOE:mg "LOUD_SIGNS" = some (.ref la)) (hL:zEx K la) (zOF:FnB P w K mg base k "all_parts" g1 gd1 ["tree"] zF7):FnOk P w K mg base CX0 (k+1) f fd ["tree", "kinds"] zHL:=by
 refine F.ok zCz (λ vs H Q E h=>?_) (λ cdv A outer s H vs Q E hr h=>?_)
 ·obtain⟨t,v,rfl,_⟩:=h
  rfl
 obtain⟨t,v,rfl,hR,hsz,hp,q⟩:=h;have hu:=hu_of hr
 refine⟨_,(zAE (pS (i:=2) zCz.nd (zBG (zDo rfl) (by rfl) z_dict PyProof.Rows.boot_dict (zAB (zNc (pv 1) (zEX (zMP zAD))) zAD)))
  (zAE (zAv PassesOwn.never rfl (zAf (pe_cl zOF hr (zAB (pv 0) zAD))) (pGn (i:=3) zCz.nd) (zAF (ps_if (pw_or (zAO (r:=rIn K false) zBo (iC (r:=rIxT K) zAS (pv 3)) (zB8 (v:=.ref _) (by rfl) zOE (by rfl)) rfl) (zCB (zDu (zAO op_eq (iC (r:=rIxT K) zAS (pv 3)) zAZ (zAY _)) (zCg (zAO (zCi hu) (iC (r:=rIxT K) zAS (pv 3)) (pv 2) rfl))).pt)).pt (zAF (zAU pe_bl)) zAV)))
  (zAF (zAU pe_bl)))),?_⟩
 refine⟨_,rfl,false,rfl,iteF ⟨lY _,λ p o hpn ho=>?_⟩⟩;refine⟨p,o,[],[],rfl,zAA,ho,.nil,lY _,λ d hd=>?_⟩;have g1:=(zAC (o:=.frz o (.tup [])) hpn).trans (zAC (o:=.dK (zBC [] [])) hd);refine⟨_,rfl,t,v,rfl,hR.mono g1.tk,hsz,λ l us F H2 g2 el pF hF=>⟨l,rfl,⟨us,SqL.of el⟩,?_⟩⟩;have g12:=g1.trans g2;refine zA1 (xs:=us) (λ i σ' H'=>∃(s3:Option V),A3 (σ'=[some v,some .non,some (.ref d),s3]) (Same H2 H') (∀p∈F.take i,p.kd.loud=false)) ⟨none,rfl,.refl _,(λ p hp=>nomatch hp)⟩ ?_ ?_ ?_
 ·rintro i σ' H' _ ⟨s3,rfl,g,_⟩
  exact SqL.of (g _ _ el)
 ·rintro i x σ' H' hx ⟨s3,rfl,g,hn⟩
  obtain⟨tq,eq,rq⟩:=zAJ pF hx;have hmem:tq∈t.subs:=hF.mem_iff.mp (lM eq);obtain⟨pa,hs,us',rfl,hpa,hhl,hparts⟩:=(rq.mono g.tk).all;have at0:atI (V.str tq.kd.s::hs++us') 0=some (.str tq.kd.s):=zAQ (j:=0) rfl;refine⟨_,rfl,pa,_,0,_,rfl,rfl,SqT.of hpa,at0,la,loudV,rfl,.inr (.inr hL),rfl,rfl,_,rfl,?_⟩;show if inV (.str tq.kd.s) loudV=true then _ else _
  rw[zG2];refine ite2 (λ c=>?_) (λ c=>?_)
  ·exact iteT (q false H' (g12.trans g) ⟨(λ z=>nomatch z),λ z=>(z ⟨tq,hmem,c⟩).elim⟩)
  refine⟨_,rfl,pa,_,0,_,rfl,rfl,SqT.of hpa,at0,rfl,_,rfl,ite2 (λ c2=>?_) (λ c2=>?_)⟩
  ·exact absurd (Kd.eq_iff.mp (lT c2)) (hp.sub tq hmem).ng
  ·refine iteF ⟨_,rfl,g,λ p hpp=>?_⟩
   rw[zAL eq] at hpp;rcases lK.mp hpp with z|z
   ·exact hn p z
   ·rw[mQ.mp z]
    simpa using c
 ·rintro σ' H' ⟨s3,rfl,g,hn⟩
  have lu:us.length=F.length:=zAG pF;rw[lu,mO] at hn;refine q true H' (g12.trans g) ⟨λ Ω=>?_,λ Ω=>rfl⟩;rintro⟨p,hpp,e⟩;rw[hn p (hF.mem_iff.mpr hpp)] at e;cases e
def zIj:Sp:=λ vs H Q Ω=>E2 λ(v:V) (ts:List Tr)=>A4 (vs=[v]) (RowR H ts v) (RowP ts) (∀H',Same H H'->Q (optV (kindF ts)) H')
theorem zMc (F:Fun K "kind_of" "kind_of" zEO f fd) (z_all:mg "all" = none) (zOh:FnD1 P w K mg base k "is_quiet" g1 gd1 ["tree", "kinds"] zHL):FnOk P w K mg base CX0 (k+1) f fd ["trees"] zIj:=by
 refine F.ok zH2 (λ vs H Q E h=>?_) (λ cdv A outer s H vs Q E hr h=>?_)
 ·obtain⟨v,ts,rfl,_⟩:=h
  rfl
 obtain⟨v,ts,rfl,⟨p,us,rfl,hp,pu⟩,hP,q⟩:=h
 refine⟨_,(zAE (ps_if (zBB (zAt (zEu rfl) (by rfl) z_all PyProof.Rows.boot_all (zAB (zAk ["tree"] [none] rfl (zBm (pv 0)) (λ Ω Ω Ω Ω Ω=>(zAc (i:=0) (show List.Nodup (["tree"]:List Str) by symm) rfl (Or.inl rfl))) (λ Ω Ω Ω Ω Ω=>zBF) (λ Ω Ω Ω Ω Ω=>(zA4 op_eq (iC (r:=rIxT K) zAS (pv 0)) zAZ (zAY _))) rfl) zAD))) (zAF (zAU zAZ)) zAV)
  (zAE (ps_if (zBB (zAt (zEu rfl) (by rfl) z_all PyProof.Rows.boot_all (zAB (zAk ["tree"] [none] rfl (zBm (pv 0)) (λ Ω Ω Ω Ω Ω=>(zAc (i:=0) (show List.Nodup (["tree"]:List Str) by symm) rfl (Or.inl rfl))) (λ Ω Ω Ω Ω Ω=>zBF) (λ Ω Ω Ω Ω Ω=>(zGv zOh.ok hr (by rfl) zOh.gl zOh.kp zOh.bd1 zL1 pass0 (zAB (pv 0) zAD))) rfl) zAD))) (zAF (zAU zAZ)) zAV)
  (zAF (zAU zLi)))),?_⟩
 have lu:us.length=ts.length:=zAG pu;have l10:=hP.fw;refine⟨_,rfl,p,rfl,⟨us,SqT.of hp⟩,λ acc hacc=>?_⟩;refine zBq (xs:=us) (λ j H'=>Same H H'/\H' acc=some (.lst (((ts.take j).map λ t=>decide (t.kd = .num)).map V.bl))) ⟨zAC hacc,zAA⟩ (λ j H' Ω h=>SqT.of (h.1 _ _ hp)) ?_ ?_
 ·rintro j x Hx hxj ⟨gx,ex⟩
  obtain⟨t,ht,rt⟩:=zAJ pu hxj;have hj:j<ts.length:=(lJ.mp ht).1;obtain⟨a0,hs0,us0,rfl,ha0,_,_⟩:=(rt.mono gx.tk).all;have at0:atI (V.str t.kd.s::hs0++us0) 0=some (.str t.kd.s):=zAQ (j:=0) rfl;refine⟨.skip .nil,_,rfl,a0,_,0,_,rfl,rfl,SqT.of ha0,at0,rfl,_,ex,zAK (by simp;omega),zAW gx hacc,?_⟩;rw[zAA,zAL ht,mP,mP]
  have e:decide (V.str t.kd.s=V.str "num")=decide (t.kd = .num):=by
   rw[decide_eq_decide];exact Kd.eq_iff (b:=.num)
  rw[e];rfl
 ·rintro H2 ⟨g2,e2⟩
  rw[lu,mO] at e2;refine⟨acc,_,rfl,e2,_,rfl,ite2 (λ c=>?_) (λ c=>?_)⟩
  ·have e:kindF ts=some "number" := by
    unfold kindF;refine if_pos λ t ht=>?_;rw[List.all_map,List.all_eq_true] at c;simpa using c t ht
   have:=q H2 g2;rw[e] at this;exact this
  ·have n1:¬∀t∈ts,t.kd = .num:=λ z=>c (by
    rw[List.all_map,List.all_eq_true];intro t ht;simpa using z t ht)
   refine⟨_,rfl,p,rfl,⟨us,SqT.of (g2 _ _ hp)⟩,λ acc2 hacc2=>?_⟩;refine zBq (xs:=us) (λ j H'=>Same H2 H'/\∃bs:List Bool,H' acc2=some (.lst (bs.map V.bl))/\bs.length=j/\(bs.all id=true↔∀u∈ts.take j,¬loudT u)) ⟨zAC hacc2,[],zAA,rfl,by simp⟩ (λ j H' Ω h=>SqT.of (h.1 _ _ (g2 _ _ hp))) ?_ ?_
   ·rintro j x Hx hxj ⟨gx,bs,ex,lb,hb⟩
    obtain⟨t,ht,rt⟩:=zAJ pu hxj;have hj:j<ts.length:=(lJ.mp ht).1;have hm:=lM ht;refine⟨.skip .nil,_,rfl,t,x,rfl,rt.mono (g2.trans gx).tk,(hP.al t hm).2.2,(hP.al t hm).1,λ z Hy gy hz=>?_⟩;refine⟨_,gy _ _ ex,zAK (by simp;omega),zAW (gx.trans gy) hacc2,bs++[z],?_,by simp[lb],?_⟩
    ·rw[zAA,mP]
     rfl
    ·rw[List.all_append,Bool.and_eq_true,hb,zAL ht]
     constructor
     ·rintro⟨h1,h2⟩ u hu
      rcases lK.mp hu with h|h
      ·exact h1 u h
      ·rw[mQ.mp h]
       exact hz.mp (by simpa using h2)
     ·intro h
      exact⟨λ u hu=>h u (mF _ hu),by simpa using hz.mpr (h t (by simp))⟩
   ·rintro H3 ⟨g3,bs,e3,lb,hb⟩
    rw[lu,mO] at hb;refine⟨acc2,bs,rfl,e3,_,rfl,ite2 (λ c2=>?_) (λ c2=>?_)⟩
    ·have e:kindF ts=some "quiet" := by
      unfold kindF;rw[if_neg n1];exact if_pos (hb.mp c2)
     have:=q H3 (g2.trans g3);rw[e] at this;exact this
    ·have e:kindF ts=none:=by
      unfold kindF;rw[if_neg n1];exact if_neg λ z=>c2 (hb.mpr z)
     have:=q H3 (g2.trans g3);rw[e] at this;exact this
def zHS (P:Program) (w:World):Sp:=λ vs H Q Ω=>E2 λ(d:Addr) (ws:WS)=>A6 (vs=[.ref d]) (WsR P w H d ws) (∀q∈ws,RowP q.1) (WsN ws) (ws.length<64) (∀(ks:List (Str × Str)) (v':V) (H':Hp),ks.Perm (ksOf ws)->Sx d H H'->RpKs H' ks v'->Q v' H')
theorem zKu (F:Fun K "kinds_of" "kinds_of" zDZ f fd) (z_tuple:mg "tuple" = none) (z_sorted:mg "sorted" = none) (zOi:FnB P w K mg base k "kind_of" g1 gd1 ["trees"] zIj):FnOk P w K mg base CX0 (k+1) f fd ["words"] (zHS P w):=by
 refine F.ok zEL (λ vs H Q E h=>?_) (λ cdv A outer s H vs Q E hr h=>?_)
 ·obtain⟨d,ws,rfl,_⟩:=h
  rfl
 obtain⟨d,ws,rfl,hW,hwp,hnd,hl,q⟩:=h;have hu5:=hu150 hr
 refine⟨_,(zAE (zD8 (jj:=1) ["trees", "words"] [none,some 0] rfl (zKc (pv 0)) (λ Ω Ω Ω Ω Ω=>(zAc (i:=0) (show List.Nodup (["trees", "words"]:List Str) by symm) rfl (Or.inl rfl))) (λ Ω Ω Ω Ω Ω=>zBF) (λ Ω Ω Ω Ω Ω=>(zBQ (zAB (zKe P w rfl rfl hu5 (pv 1) (pv 0) (λ Ω Ω=>rfl)) (zAB (pe_cl zOi hr (zAB (pv 0) zAD)) zAD)):PE _ _ _)) rfl zEL.nd rfl (Or.inl rfl) (Or.inr rfl))
  (zAF (zAU (zBG zHA (by rfl) z_tuple rK (zAB (zAt (zGU hu5) (by rfl) z_sorted PyProof.Rows.boot_sorted (zAB (zAk ["pair"] [none] rfl (zAf (pv 1)) (λ Ω Ω Ω Ω Ω=>(zAc (i:=0) (show List.Nodup (["pair"]:List Str) by symm) rfl (Or.inl rfl))) (λ Ω Ω Ω Ω Ω=>(zCS (zAO zMS (iC (r:=rIxT K) zAS (pv 0)) zLi (zAY _)))) (λ Ω Ω Ω Ω Ω=>(pv 0)) rfl) zAD)) zAD))))),?_⟩
 refine viaN λ N hN=>?_
 have fin:∀(tl:Addr) (tvs:List V) (H1:Hp),Sx d H H1->H1 tl=some (.lst tvs)->Paired (TxV H1) (ws.map txOf) tvs->N [some (.ref d),some (.ref tl)] H1:=λ tl tvs H1 sx et pt=>hN _ _ (by
  have lt:tvs.length=ws.length:=by rw[zAG pt,mD]
  refine⟨_,rfl,tl,rfl,⟨tvs,SqL.of et⟩,λ acc hacc=>?_⟩;refine zAl (xs:=tvs) (λ j H'=>Same H1 H'/\∃zs:List V,H' acc=some (.lst zs)/\zs.length<=j/\Paired (TxV H') (((ws.map txOf).take j).filter notN) zs) ⟨zAC hacc,[],zAA,lQ _,.nil⟩ (λ j H' Ω h=>SqL.of (h.1 _ _ et)) ?_ ?_
  ·rintro j x Hx hxj ⟨gx,zs,ez,lz,pz⟩
   obtain⟨p,ep,b,rfl,hb⟩:=zAJ pt hxj;have hj:=(lJ.mp hxj).1;refine⟨.skip .nil,_,rfl,b,_,1,_,rfl,rfl,SqT.of (gx _ _ hb),zAQ (j:=1) rfl,rfl,_,rfl,ite2 (λ c=>?_) (λ c=>?_)⟩
   ·refine⟨_,rfl,zs,ez,zAK (by omega),zAW gx hacc,zs++[.ref b],zAA,by simp;omega,?_⟩
    rw[zAL ep,List.filter_append];have:List.filter notN [p]=[p]:=by rw[List.filter_cons,if_pos (show notN p=true from c)];rfl
    rw[this];exact zAM (Paired.mapP pz λ Ω Ω z=>z.mono (Tk.lst ez)) (.cons ⟨b,rfl,Tk.lst ez _ _ (gx _ _ hb)⟩ .nil)
   ·refine⟨gx,zs,ez,by omega,?_⟩
    rw[zAL ep,List.filter_append];have:List.filter notN [p]=[]:=by rw[List.filter_cons,if_neg (show ¬notN p=true from c)];rfl
    rw[this,nO];exact pz
  ·rintro H2 ⟨g2,zs,ez,lz,pz⟩
   have ltl:tvs.length=(ws.map txOf).length:=by rw[lt,mD]
   rw[ltl,mO] at pz
   have lf:((ws.map txOf).filter notN).length<=ws.length:=by
    have:=List.length_filter_le notN (ws.map txOf);rw[mD] at this;exact this
   have nd:(((ws.map txOf).filter notN).map (·.1)).Nodup:=by
    have e:(ws.map txOf).map (·.1)=ws.map (·.2):=by rw[nP];rfl
    have n:=hnd.w;rw[←e] at n;exact n.sublist (List.filter_sublist.map _)
   refine⟨acc,zs,_,rfl,ez,pz,nd,by omega,λ l' us qs hl' pq perm=>⟨l',us,rfl,SqL.of zAA,λ l o hll ho=>?_⟩⟩;have g3:=zAC (o:=.lst us) hl';have g4:=zAC (o:=.frz o (.tup us)) hll;obtain⟨b1,b2⟩:=zMp ws;refine q (qs.map bkK) (.ref l) _ (by rw[←b1];exact perm.map _) (sx.same (g2.trans (g3.trans g4))) ⟨l,o,us,rfl,zAA,ho,?_⟩;exact zNP (g3.trans g4).tk pq λ p hp=>b2 p (perm.mem_iff.mp hp))
 rcases id hW with ⟨xs,exs,hd,keys,hxl⟩|⟨hd,ews⟩
 ·refine⟨_,rfl,d,rfl,.inl ⟨xs,hd,λ o acc hacc=>?_⟩⟩
  have sx0:Sx d H (upd H d (.frz o (dN P w d xs))):=(Sx.of (Same.refl H)).own
  have hacc0:H acc=none:=by
   rw[zAR (λ z=>by rw[z,zAA] at hacc;cases hacc)] at hacc;exact hacc
  have nad:d≠acc:=zAN hd hacc0
  have lw:xs.length=ws.length:=by
   have:=congrArg List.length exs;unfold prs at this;rw[mD,mD] at this;exact this.symm
  refine zIP (λ i H'=>Sx d H H'/\H' d=some (.frz o (dN P w d xs))/\∃zs:List V,H' acc=some (.lst zs)/\zs.length=i/\Paired (TxV H') ((ws.take i).map txOf) zs) ⟨sx0.set hacc0,by rw[zAR nad];exact zAA,[],zAA,rfl,.nil⟩ (λ i H' Ω h=>h.2.1) ?_ ?_
  ·rintro i p H1 hp ⟨sx,ed,zs,ez,lz,pz⟩
   have tk1:=sx.tk hW;have hi:=(lJ.mp hp).1
   obtain⟨qq,eq,ek⟩:∃q,ws[i]?=some q/\kvW q=(p.1,p.2.2):=by
    have:(prs xs)[i]?=some (p.1,p.2.2):=by unfold prs;rw[mJ,hp];rfl
    rw[←exs,mJ] at this;obtain⟨q,h1,h2⟩:=lV.mp this;exact⟨q,h1,h2⟩
   obtain⟨k1,k2⟩:=Prod.mk.inj ek;have hm:=lM eq;obtain⟨dr,dp⟩:=keys p (lM hp);rw[←k1] at dr dp;have rw1:=zNQ (dr.mono tk1) (hwp qq hm);refine⟨.skip (.keep .nil),_,rfl,_,rfl,d,dtRow qq.1,.str qq.2,ws.map kvW,rfl,⟨xs,exs,.inr ⟨o,ed⟩,keys.mono tk1,hxl⟩,⟨p.2.1,rfl,dr.mono tk1,dp⟩,zNA hnd hwp hm,?_⟩;refine⟨_,rfl,_,qq.1,rfl,rw1,hwp qq hm,λ H2 g2=>⟨(by show 2<=sizeLine;decide),λ tp htp=>?_⟩⟩;have g3:=zAC (o:=.tup [.str qq.2,optV (kindF qq.1)]) htp;have gA:=g2.trans g3;have ez3:=gA _ _ ez;refine⟨zs,ez3,zAK (by omega),(sx.same gA).set hacc0,by rw[zAR nad];exact gA _ _ ed,zs++[.ref tp],zAA,by simp[lz],?_⟩;rw[zAL eq,mP];exact zAM (Paired.mapP pz λ Ω Ω z=>z.mono (gA.tk.trans (Tk.lst ez3))) (.cons ⟨tp,rfl,Tk.lst ez3 _ _ zAA⟩ .nil)
  ·rintro H2 ⟨sx,ed,zs,ez,lz,pz⟩
   rw[lw,mO] at pz;exact fin acc zs H2 sx ez pz
 ·have e0:ws=[]:=List.map_eq_nil_iff.mp ews
  subst e0;refine⟨_,rfl,d,rfl,.inr ⟨hd,λ o acc hacc=>?_⟩⟩
  have hacc0:H acc=none:=by
   rw[zAR (λ z=>by rw[z,zAA] at hacc;cases hacc)] at hacc;exact hacc
  have nad:d≠acc:=zAN hd hacc0;refine zDl (kvs:=[]) (λ i H'=>Sx d H H'/\H' d=some (.frz o (.dK []))/\H' acc=some (.lst [])) ⟨((Sx.of (Same.refl H)).own).set hacc0,by rw[zAR nad];exact zAA,zAA⟩ (λ i H' Ω h=>h.2.1) ?_ ?_
  ·rintro i p H1 hp _
   cases hp
  ·rintro H2 ⟨sx,_,ez⟩
   exact fin acc [] H2 sx ez .nil
abbrev zDU:Stmt:=top 54
theorem zBg:zAT ["pairs", "words", "left", "right", "rule"] ["pairs"] (zAH zDU):=scI
def zIg:Sp:=λ vs H Q Ω=>E3 λ(l:Addr) (us:List V) (ps:List (Tr × Tr))=>A7 (vs=[.ref l]) (H l=some (.lst us)) (Paired (PrR H) ps us) (PrOk ps) (PrG ps) (∀t u ks ws,RdW ps t u ks ws->Due t u ks zBA none)
 (∀(t u:Tr) (ks:List (Str × Str)) (ws:WS) (p:Addr) (x y z:V) (H':Hp),RdW ps t u ks ws->Same H H'->H' p=some (.tup [x,y,z])->Rep H' t x->Rep H' u y->RpKs H' ks z->Q (.ref p) H')
theorem zMa (F:Fun K "read_off" "read_off" zDU f fd) (zOj:FnB P w K mg base k "check_pairs" g1 gd1 ["pairs"] zHX) (zOk:FnB P w K mg base k "common_shape" g2 gd2 ["trees", "words"] (zF6 P w))
  (zOl:FnB P w K mg base k "kinds_of" g3 gd3 ["words"] (zHS P w)) (zOm:FnB P w K mg base k "form" g4 gd4 ["rule"] zIm):FnOk P w K mg base CX0 (k+1) f fd ["pairs"] zIg:=by
 refine F.ok zBg (λ vs H Q E h=>?_) (λ cdv A outer s H vs Q E hr h=>?_)
 ·obtain⟨l,us,ps,rfl,_⟩:=h
  rfl
 obtain⟨l,us,ps,rfl,el,pu,ok,hG,hdue,qo⟩:=h
 refine⟨_,(zAE (zCU (pe_cl zOj hr (zAB (pv 0) zAD)))
  (zAE (pS (i:=1) zBg.nd zDD)
  (zAE (pS (i:=2) zBg.nd (pe_cl zOk hr (zAB (zAk ["before", "behind"] [none,none] rfl (zAf (pv 0)) (λ Ω Ω Ω Ω Ω=>(zFZ (K:=K) (n:=2) rfl rfl (zAa (zAc (i:=0) (show List.Nodup (["before", "behind"]:List Str) by symm) rfl (Or.inl rfl)) (zAa (zAc (i:=1) (show List.Nodup (["before", "behind"]:List Str) by symm) rfl (Or.inl rfl)) zBP)))) (λ Ω Ω Ω Ω Ω=>zBF) (λ Ω Ω Ω Ω Ω=>(pv 0)) rfl) (zAB (pv 1) zAD))))
  (zAE (pS (i:=3) zBg.nd (pe_cl zOk hr (zAB (zAk ["before", "behind"] [none,none] rfl (zAf (pv 0)) (λ Ω Ω Ω Ω Ω=>(zFZ (K:=K) (n:=2) rfl rfl (zAa (zAc (i:=0) (show List.Nodup (["before", "behind"]:List Str) by symm) rfl (Or.inl rfl)) (zAa (zAc (i:=1) (show List.Nodup (["before", "behind"]:List Str) by symm) rfl (Or.inl rfl)) zBP)))) (λ Ω Ω Ω Ω Ω=>zBF) (λ Ω Ω Ω Ω Ω=>(pv 1)) rfl) (zAB (pv 1) zAD))))
  (zAE (pS (i:=4) zBg.nd (zBQ (zAB (pv 2) (zAB (pv 3) (zAB (pe_cl zOl hr (zAB (pv 1) zAD)) zAD))):PE _ _ _))
  (zAE (zCU (pe_cl zOm hr (zAB (pv 4) zAD)))
  (zAF (zAU (pv 4))))))))),?_⟩
 have lu:us.length=ps.length:=zAG pu;have hz:∀q∈ps,q.1.size<=60/\q.2.size<=60:=λ q hq=>⟨by have:=(hG q hq).1.2.2.1;omega,by have:=(hG q hq).2.2.2.1;omega⟩;refine⟨_,rfl,l,us,ps,rfl,el,pu,hz,ok,λ H1 g1=>?_⟩;obtain⟨rq1,z1,y1⟩:=hG.q1 ok;obtain⟨rq2,z2,y2⟩:=hG.q2 ok;have l8:=ok.2.1;refine λ d hd=>?_;have g2:=zAC (o:=.dK []) hd;have hd0:H d=none:=g1.free hd;have g02:=g1.trans g2;have W0:WsR P w (upd H1 d (.dK [])) d []:=.inr ⟨zAA,rfl⟩;generalize upd H1 d _=H2 at g2 g02 W0 ⊢;have nld:l≠d:=λ z=>by rw[z,hd0] at el;cases el
 have el2:=g02 _ _ el;have pu2:=Paired.mapP pu λ Ω Ω z=>PrR.mono g02.tk z;refine⟨_,rfl,l,rfl,⟨us,SqL.of el2⟩,λ acc hacc=>?_⟩;refine zAl (xs:=us) (λ j H'=>Same H2 H'/\∃zs:List V,H' acc=some (.lst zs)/\Paired (Rep H') ((ps.take j).map (·.1)) zs) ⟨zAC hacc,[],zAA,.nil⟩ (λ j H' Ω h=>SqL.of (h.1 _ _ el2)) ?_ ?_
 ·rintro j x Hx hxj ⟨gx,zs,ez,pz⟩
  obtain⟨pq,ep,pa,a,b,rfl,hp,ra,rb⟩:=zAJ pu2 hxj;have hj:=(lJ.mp hxj).1;have lz:=zAG pz;rw[mD,mN] at lz;refine⟨pa,_,rfl,SqT.of (gx _ _ hp),rfl,_,_,rfl,_,_,rfl,rfl,.skip (.skip .nil),_,rfl,zs,ez,zAK (by omega),zAW gx hacc,zs++[a],zAA,?_⟩;rw[zAL ep,mP];exact zAM (Paired.mapP pz λ Ω Ω z=>z.mono (Tk.lst ez)) (.cons ((ra.mono gx.tk).mono (Tk.lst ez)) .nil)
 rintro H3 ⟨g3,zs,ez,pz⟩;rw[lu,mO] at pz;refine⟨_,rfl,acc,d,zs,ps.map (·.1),[],rfl,ez,pz,rq1,W0.mono g3,(λ q hq=>nomatch hq),wsN0,(by show 0+_<=150;omega),λ ws1 L1 t v1 H4 c1 e1 x4 W4 r4=>?_⟩
 obtain⟨t',f1,sh1,_,wp1,nd1,bd1,_⟩:=c1.tree rq1 (λ q hq=>nomatch hq) wsN0
 rw[e1] at f1;cases f1;have bd1':ws1.length<=40:=by have:ws1.length<=0+_:=c1.lf (λ r hr=>by rw[mQ.mp hr];exact rq1) (λ q hq=>nomatch hq) wsN0;omega
 have x24:Sx d H2 H4:=(Sx.of g3).trans x4;have tk24:=x24.tk W0;have el4:=x24 _ _ nld el2;refine⟨_,rfl,l,rfl,⟨us,SqL.of el4⟩,λ ac2 hac2=>?_⟩;refine zAl (xs:=us) (λ j H'=>Same H4 H'/\∃zs:List V,H' ac2=some (.lst zs)/\Paired (Rep H') ((ps.take j).map (·.2)) zs) ⟨zAC hac2,[],zAA,.nil⟩ (λ j H' Ω h=>SqL.of (h.1 _ _ el4)) ?_ ?_
 ·rintro j x Hx hxj ⟨gx,zs,ez,pz⟩
  obtain⟨pq,ep,pa,a,b,rfl,hp,ra,rb⟩:=zAJ pu2 hxj;have hj:=(lJ.mp hxj).1;have lz:=zAG pz;rw[mD,mN] at lz;refine⟨pa,_,rfl,SqT.of (gx _ _ (tk24 _ _ hp)),rfl,_,_,rfl,_,_,rfl,rfl,.skip (.skip .nil),_,rfl,zs,ez,zAK (by omega),zAW gx hac2,zs++[b],zAA,?_⟩;rw[zAL ep,mP];exact zAM (Paired.mapP pz λ Ω Ω z=>z.mono (Tk.lst ez)) (.cons ((rb.mono (tk24.trans gx.tk)).mono (Tk.lst ez)) .nil)
 rintro H5 ⟨g5,zs2,ez2,pz2⟩;rw[lu,mO] at pz2;refine⟨_,rfl,ac2,d,zs2,ps.map (·.2),ws1,rfl,ez2,pz2,rq2,W4.mono g5,wp1,nd1,by omega,λ ws2 L2 u v2 H6 c2 e2 x6 W6 r6=>?_⟩;obtain⟨u',f2,sh2,_,wp2,nd2,bd2,_⟩:=c2.tree rq2 wp1 nd1;rw[e2] at f2;cases f2;have bd2':ws2.length<=60:=by have:=c2.lf (λ r hr=>by rw[mQ.mp hr];exact rq2) wp1 nd1;omega
 have x46:Sx d H4 H6:=(Sx.of g5).trans x6;have r46:=r4.mono (x46.tk W4);refine⟨_,rfl,_,rfl,_,rfl,d,ws2,rfl,W6,wp2,nd2,by omega,λ ks v3 H7 pm x7 rk=>⟨(by show 3<=sizeLine;decide),λ p hp=>?_⟩⟩;have tk7:=x7.tk W6;have g8:=zAC (o:=.tup [v1,v2,v3]) hp;have gAll:Same H (upd H7 p (.tup [v1,v2,v3])):=Sx.out g02 hd0 ((x24.trans (x46.trans x7)).same g8);have hF:RdW ps t u ks ws2:=⟨(zJ1 c1 e1).mono c2.pre,zJ1 c2 e2,pm,nd2,wp2,c2.nb (c1.nb (λ q hq=>nomatch hq)),λ q hq=>(zHF c2 e2 rq2 wp1 nd1 q hq).imp (λ z=>(zHF c1 e1 rq1 (λ q hq=>nomatch hq) wsN0 q z).elim (λ z=>nomatch z) id) id,sh1.1,sh2.1,bd2'⟩
 have nk:(ks.map (·.1)).Nodup:=((pm.map (·.1)).nodup_iff).mpr (nd2.w.sublist (zCD ws2))
 have lk:ks.length<=60:=by
  have:=(zCD ws2).length_le;rw[mD,mD] at this;rw[pm.length_eq];omega
 have hR:RuR (upd H7 p (.tup [v1,v2,v3])) p t u ks:=⟨⟨v1,v2,v3,⟨zAA,(r46.mono tk7).mono g8.tk,(r6.mono tk7).mono g8.tk,by have:=sh1.2;omega,by have:=sh2.2;omega,sh1.1.cnt,sh2.1.cnt⟩,rk.mono g8⟩,λ x hx g as e=>by subst e;rw[sh1.1.gap hx];decide,nk,lk,[],by decide,by rw[sh1.1.fv];simp,by rw[sh2.1.fv];simp⟩;exact⟨_,rfl,p,t,u,ks,rfl,hR,hdue t u ks ws2 hF,λ H9 g9=>⟨_,rfl,qo t u ks ws2 p v1 v2 v3 H9 hF (gAll.trans g9) (g9 _ _ zAA) ((r46.mono tk7).mono (g8.trans g9).tk) ((r6.mono tk7).mono (g8.trans g9).tk) (rk.mono (g8.trans g9))⟩⟩
abbrev zCL:Stmt:=top 56
theorem zE0:zAT ["_law_script", "_law_k"] ["_law_script", "_law_k"] (zAH zCL):=scI
abbrev zCK:Stmt:=top 57
theorem zBV:zAT ["_law_cells", "_law_deep", "_law_marks", "_law_cell", "_law_at", "_law_one", "_law_other"] ["_law_cells", "_law_deep", "_law_marks"] (zAH zCK):=scI
def zDR (K:W.Frag):Sp:=λ vs H Q Ω=>E3 λ(a:Addr) (ns:List Int) (k:Int)=>A4 (vs=[.ref a,.int k]) (SqL K H a (ns.map V.int)) (0<=k) (∀i:Int,Q (.int i) H)
theorem zIH (F:Fun K "_law_cell_at" "_law_cell_at" zCL f fd) (z_len:mg "len" = none):FnOk P w K mg base CX0 (k+1) f fd ["_law_script", "_law_k"] (zDR K):=by
 refine F.ok zE0 (λ vs H Q E h=>?_) (λ cdv A outer s H vs Q E hr h=>?_)
 ·obtain⟨a,ns,k,rfl,_⟩:=h
  rfl
 obtain⟨a,ns,k,rfl,hS,h0,q⟩:=h
 refine⟨_,(zAE (ps_if (zAO op_lt (pv 1) (cL z_len (zAB (pv 0) zAD)) (zAY _)) (zAF (zAU (pe_ix (r:=rIxL K) zA0 (pv 0) (pv 1) (λ Ω Ω=>rfl)))) zAV)
  (zAF (zAU zAI))),?_⟩
 refine⟨_,rfl,_,rfl,a,_,rfl,.inl hS,_,_,rfl,rfl,_,rfl,?_⟩;refine ite2 (λ c=>?_) (λ c=>?_)
 ·have c':k<((ns.map V.int).length:Int):=lT c
  obtain⟨v,hv,e⟩:=zGc h0 c';obtain⟨i,_,rfl⟩:=mC.mp hv;exact⟨_,rfl,_,rfl,a,_,k,_,rfl,rfl,hS,e,q i⟩
 ·exact q 0
def zCn (K:W.Frag) (n:Nat):Sp:=λ vs H Q Ω=>E5 λ(a ml:Addr) (ns:List Int) (d:Int) (marks:List Str)=>A8 (vs=[.ref a,.int d,.ref ml]) (SqL K H a (ns.map V.int)) (ns.length<=63) (0<=d) (d<n) (d<=12) (H ml=some (.lst (marks.map V.str))/\1<=marks.length) (∀(sh:Tr) (v:V) (H':Hp),Same H H'->Rep H' sh v->ShB sh marks ns.length d->Q v H')
theorem zKk (F:Fun K "_law_shape" "_law_shape" zCK f fd) (z_len:mg "len" = none)
  (zOn:FnB P w K mg base k "_law_shape" f fd ["_law_cells", "_law_deep", "_law_marks"] (zCn K n)):FnOk P w K mg base CX0 (k+1) f fd ["_law_cells", "_law_deep", "_law_marks"] (zCn K (n+1)):=by
 refine F.ok zBV (λ vs H Q E h=>?_) (λ cdv A outer s H vs Q E hr h=>?_)
 ·obtain⟨a,ml,ns,d,marks,rfl,_⟩:=h
  rfl
 obtain⟨a,ml,ns,d,marks,rfl,hS,h63,hd0,hdn,h12,⟨hm,hm1⟩,q⟩:=h
 refine⟨_,(Sd.un (zAX (zBl ⟨zAO op_eq (cL z_len (zAB (pv 0) zAD)) zAI (zAY _)⟩ (zAj (zA3 (zA8 (zAP ⟨zAZ⟩ (zAP (zDv (r:=rIxL K) zA0 ⟨pv 2⟩ ⟨pe_op zAu (pv 1) (cL z_len (zAB (pv 2) zAD))⟩ (λ Ω Ω=>rfl)) (zAP (zA8 ⟨zAD⟩) ⟨zAD⟩)))))) ⟨zAV⟩)
  (zAX (pSS (i:=3) zBV.nd ⟨pe_op zAu (pe_op zGH (iC (r:=rIxL K) zA0 (pv 0)) zAI) zAI⟩)
  (zAX (zBl ⟨(pw_or (zAO op_eq (cL z_len (zAB (pv 0) zAD)) zAI (zAY _)) (zCB (zAO op_eq (pv 1) zAI (zAY _)))).pt⟩ (zAX (zBl ⟨zAO op_eq (pe_op zAu (pv 3) zAI) zAI (zAY _)⟩ (zAj (zA3 (zA8 (zAP ⟨zAZ⟩ (zAP ⟨pe_op zAu (iC (r:=rIxL K) zA0 (pv 0)) (pe_op zLk zAI zAI)⟩ ⟨zAD⟩))))) ⟨zAV⟩)
  (zAj (zA3 (zA8 (zAP ⟨zAZ⟩ (zAP (zDv (r:=rIxL K) zA0 ⟨pv 2⟩ ⟨pe_op zAu (pe_op zA5 (pv 3) zAI) (cL z_len (zAB (pv 2) zAD))⟩ (λ Ω Ω=>rfl)) (zAP (zA8 ⟨zAD⟩) ⟨zAD⟩))))))) ⟨zAV⟩)
  (zAX (pSS (i:=4) zBV.nd ⟨pe_op zEb zAI (pe_op zAu (pe_op zA5 (pv 3) zAI) (cL z_len (zAB (pv 0) zAD)))⟩)
  (zAX (pSS (i:=5) zBV.nd ⟨pe_cl zOn hr (zAB (zAg (r:=rSlL K) zBf (pv 0) (zAh zAI) (zAh (pv 4))) (zAB (pe_op zGG (pv 1) zAI) (zAB (pv 2) zAD)))⟩)
  (zAX (pSS (i:=6) zBV.nd ⟨pe_cl zOn hr (zAB (zAg (r:=rSlL K) zBf (pv 0) (zAh (pv 4)) zA7) (zAB (pe_op zGG (pv 1) zAI) (zAB (pv 2) zAD)))⟩)
  (zAX (zBl ⟨zAO op_lt (pe_op zAu (pv 3) zAI) zAI (zAY _)⟩ (zAj (zA3 (zA8 (zAP ⟨zAZ⟩ (zAP ⟨pv 6⟩ (zAP (zA8 (zAP ⟨zAZ⟩ (zAP ⟨pe_op zAu (pe_op zA5 (pv 3) zAI) zAI⟩ ⟨zAD⟩))) (zAP ⟨pv 5⟩ ⟨zAD⟩))))))) ⟨zAV⟩)
  (zAj (zA3 (zA8 (zAP (zDv (r:=rIxL K) zA0 ⟨zFa [.str "add", .str "sub", .str "mul", .str "then"] (by rfl)⟩ ⟨pe_op zAu (pv 3) zAI⟩ (λ Ω Ω=>rfl)) (zAP ⟨pv 5⟩ (zAP ⟨pv 6⟩ ⟨zAD⟩)))))))))))))),?_⟩
 have d0:0<=sizeLine:=by decide
 have d2:2<=sizeLine:=by decide
 have d3:3<=sizeLine:=by decide
 have hlen:(ns.map V.int).length=ns.length:=mD _;have hml:(marks.map V.str).length=marks.length:=mD _
 have gapQ:∀(j:Nat) (hj:j<marks.length) (p1 p2:Addr) (H1:Hp),Same H H1->H1 p1=none->(upd H1 p1 (.tup [])) p2=none->Q (.ref p2) (upd (upd H1 p1 (.tup [])) p2 (.tup [.str "gap", .str marks[j],.ref p1])):=λ j hj p1 p2 H1 g1 h1 h2 =>
  q (.gap marks[j] []) (.ref p2) _ (g1.trans ((zAC h1).trans (zAC h2))) ⟨p2,p1,[],rfl,zAA,zAC h2 _ _ zAA,lY _,.nil⟩ ⟨rfl,λ g hg=>by rw[mQ.mp hg];exact List.getElem_mem hj,by show ((1:Nat):Int)<=_;omega,by show 4<=_;omega,by show 3<=_;omega⟩
 refine⟨_,rfl,a,_,rfl,.inl hS,rfl,_,rfl,?_⟩;refine ite2 (λ Ω=>?_) (λ c0=>?_)
 ·obtain⟨j,ej,hj⟩:=zG4 (c:=d) hm1
  exact⟨_,rfl,_,rfl,_,rfl,ml,_,rfl,.inl (SqL.of hm),_,_,rfl,rfl,(by rw[hml];omega),ml,_,_,_,rfl,rfl,SqL.of hm,(by rw[hml,ej];exact zEG hj),d0,λ p1 h1=>⟨d3,λ p2 h2=>gapQ j hj p1 p2 H (.refl _) h1 h2⟩⟩
 have c0':ns.length≠0:=λ z=>c0 (lU (by rw[hlen,z];rfl));obtain⟨v0,hv0,e0⟩:=zGc (xs:=ns.map V.int) (i:=0) (Int.le_refl 0) (by rw[hlen];omega);obtain⟨i0,_,rfl⟩:=mC.mp hv0;refine⟨_,rfl,a,_,0,_,rfl,rfl,hS,e0,_,_,rfl,rfl,.inr ⟨by decide,by decide⟩,_,_,rfl,rfl,(show (0:Int)<2147483647 by decide),?_⟩;dsimp only;generalize hN:i0 * 39373 % 2147483647=N;refine⟨_,rfl,a,_,rfl,.inl hS,rfl,_,rfl,?_⟩;refine ite2 (λ Ω=>?leafA) (λ c1=>⟨_,rfl,rfl,_,rfl,ite2 (λ Ω=>?leafB) (λ c2=>?rest)⟩)
 case leafA|leafB =>
  refine⟨_,rfl,_,_,rfl,rfl,(show (0:Int)<5 by decide),rfl,_,rfl,ite2 (λ Ω=>?_) (λ c3=>?_)⟩
  ·refine⟨_,rfl,a,_,0,_,rfl,rfl,hS,e0,_,_,rfl,rfl,⟨by decide,by decide,by decide⟩,_,_,rfl,rfl,(show (0:Int)<10 ^ 30 by decide),d2,λ p hp=>?_⟩
   exact q (.num _) (.ref p) _ (zAC hp) ⟨p,rfl,zAA⟩ ⟨True.intro,(λ g hg=>nomatch hg),by show ((1:Nat):Int)<=_;omega,by show 1<=_;omega,by show 1<=_;omega⟩
  ·obtain⟨j,ej,hj⟩:=zG4 (c:=N / 5) hm1
   exact⟨_,rfl,_,rfl,_,_,rfl,rfl,⟨(show (0:Int)<5 by decide),(show (5:Int)<1073741824 by decide)⟩,_,rfl,ml,_,rfl,.inl (SqL.of hm),_,_,rfl,rfl,(by rw[hml];omega),ml,_,_,_,rfl,rfl,SqL.of hm,(by rw[hml,ej];exact zEG hj),d0,λ p1 h1=>⟨d3,λ p2 h2=>gapQ j hj p1 p2 H (.refl _) h1 h2⟩⟩
 case rest =>
  have c2':d≠0:=λ z=>c2 (lU (by rw[z]));have c1':ns.length≠1:=λ z=>c1 (lU (by rw[hlen,z];rfl));refine⟨_,rfl,_,_,rfl,rfl,⟨(show (0:Int)<8 by decide),(show (8:Int)<1073741824 by decide)⟩,_,rfl,a,_,rfl,.inl hS,_,_,rfl,rfl,(by rw[hlen];omega),_,_,rfl,rfl,?_⟩
  obtain⟨at_,hat,hat0,hat1⟩:∃at_:Int,1+N / 8 % ((ns.map V.int).length:Int)=at_/\1<=at_/\at_<=ns.length :=
   ⟨_,rfl,by have:=Int.emod_nonneg (N / 8) (show ((ns.map V.int).length:Int)≠0 by rw[hlen];omega);omega,by have:=Int.emod_lt_of_pos (N / 8) (show (0:Int)<((ns.map V.int).length:Int) by rw[hlen];omega);rw[hlen] at this ⊢;omega⟩
  dsimp only;rw[hat];obtain⟨m1,em1,lm1⟩:=zJy (ns:=ns) (lo:=some 1) (hi:=some at_) (i:=1) (j:=at_.toNat) (zGu (by decide) (by omega)) (zGu (by omega) hat1) (by omega);obtain⟨m2,em2,lm2⟩:=zJy (ns:=ns) (lo:=some at_) (hi:=none) (i:=at_.toNat) (j:=ns.length) (zGu (by omega) hat1) rfl (lQ _)
  have hF:FB (d - 1).toNat m1.length+FB (d - 1).toNat m2.length+1<=FB d.toNat ns.length:=by
   have:=zM9 (d:=(d - 1).toNat) (n:=ns.length) (a:=m1.length) (by omega) (by omega);rw[show (d - 1).toNat+1=d.toNat by omega,show ns.length - 1 - m1.length=m2.length by omega] at this;exact this
  refine⟨_,rfl,_,rfl,_,rfl,_,rfl,a,_,rfl,hS,λ p1 hp1=>?_⟩;rw[em1];have g1:=zAC (o:=.lst (m1.map V.int)) hp1;refine⟨_,rfl,_,_,rfl,rfl,_,rfl,p1,ml,m1,d - 1,marks,rfl,SqL.of zAA,by omega,by omega,by omega,by omega,⟨g1 _ _ hm,hm1⟩,λ t1 v1 H1 g2 r1 s1=>?_⟩;have gA:=g1.trans g2;refine⟨_,rfl,_,rfl,_,rfl,a,_,rfl,gA.seq hS,λ p2 hp2=>?_⟩;rw[em2];have g3:=zAC (o:=.lst (m2.map V.int)) hp2;refine⟨_,rfl,_,_,rfl,rfl,_,rfl,p2,ml,m2,d - 1,marks,rfl,SqL.of zAA,by omega,by omega,by omega,by omega,⟨(gA.trans g3) _ _ hm,hm1⟩,λ t2 v2 H2 g4 r2 s2=>?_⟩;have gB:=gA.trans (g3.trans g4);have r1':=r1.mono (g3.trans g4).tk;have x1:=s1.fs;have x2:=s2.fs;have y1:=s1.fl;have y2:=s2.fl;have w1:=s1.dp;have w2:=s2.dp;refine⟨_,rfl,_,_,rfl,rfl,(show (0:Int)<8 by decide),_,_,rfl,rfl,_,rfl,ite2 (λ Ω=>?_) (λ Ω=>?_)⟩
  ·refine⟨_,rfl,_,rfl,_,_,rfl,rfl,⟨(show (0:Int)<64 by decide),(show (64:Int)<1073741824 by decide)⟩,_,_,rfl,rfl,(show (0:Int)<3 by decide),d2,λ p0 hp0=>⟨_,rfl,(by show 4<=sizeLine;decide),λ p hp=>?_⟩⟩
   have g6:=zAC (o:=.tup [.str "num", .int (N / 64 % 3)]) hp0;have g7:=zAC (o:=.tup [.str "if", v2,.ref p0,v1]) hp;refine q (.ite t2 (.num _) t1) (.ref p) _ (gB.trans (g6.trans g7)) ⟨p,v2,.ref p0,v1,rfl,zAA,r2.mono (g6.trans g7).tk,⟨p0,rfl,g7 _ _ zAA⟩,r1'.mono (g6.trans g7).tk⟩ ⟨⟨s2.hs,True.intro,s1.hs⟩,λ g hg=>?_,?_,?_,?_⟩
   ·rcases lK.mp hg with z|z
    ·exact s2.gp g z
    ·exact s1.gp g z
   ·show ((max (dpT t2) (max 1 (dpT t1))+1:Nat):Int)<=_;omega
   ·show fsN t2+1+fsN t1+1<=_;omega
   ·show flN t2+1+flN t1<=_;omega
  ·obtain⟨o,ho⟩:=sign4 (z:=N % 4) (by omega) (by omega)
   refine⟨(by show 4<=sizeLine;decide),λ p3 hp3=>⟨_,rfl,_,_,rfl,rfl,(show (0:Int)<4 by decide),p3,_,_,_,rfl,rfl,SqL.of zAA,ho,_,rfl,_,rfl,d3,λ p hp=>?_⟩⟩;have g6:=zAC hp3 (o:=.lst [V.str "add", V.str "sub", V.str "mul", V.str "then"]);have g7:=zAC (o:=.tup [.str o.s,v1,v2]) hp;refine q (.bin o t1 t2) (.ref p) _ (gB.trans (g6.trans g7)) ⟨p,v1,v2,rfl,zAA,r1'.mono (g6.trans g7).tk,r2.mono (g6.trans g7).tk⟩ ⟨⟨s1.hs,s2.hs⟩,λ g hg=>?_,?_,?_,?_⟩
   ·rcases lK.mp hg with z|z
    ·exact s1.gp g z
    ·exact s2.gp g z
   ·show ((max (dpT t1) (dpT t2)+1:Nat):Int)<=_;omega
   ·show fsN t1+fsN t2+1<=_;omega
   ·show flN t1+flN t2<=_;omega
theorem zK1 {k:Nat}{f:Addr}{fd:FuncData}:FnOk P w K mg base CX0 k f fd ["_law_cells", "_law_deep", "_law_marks"] (zCn K 0):=by
 have no:∀vs H Q E,¬zCn K 0 vs H Q E:=λ vs H Q E h=>by
  obtain⟨a,ml,ns,d,marks,_,_,_,h1,h2,_⟩:=h;omega
 exact⟨λ vs H Q E h=>(no _ _ _ _ h).elim,λ A outer s H args us vs Q E Ω Ω Ω Ω h=>(no _ _ _ _ h).elim⟩
theorem zGd (F:Fun K "_law_shape" "_law_shape" zCK f fd) (b:Binds K fd ["_law_cells", "_law_deep", "_law_marks"] []) (m:mg "_law_shape" = some (.ref f)) (z_len:mg "len" = none) :
  ∀n:Nat,FnB P w K mg base (k+n) "_law_shape" f fd ["_law_cells", "_law_deep", "_law_marks"] (zCn K n)
 |0=>⟨zK1,b,F.kp,m⟩
 |n+1=>⟨zKk F z_len (zGd F b m z_len n),b,F.kp,m⟩
abbrev zCt:Stmt:=top 58
theorem zCF:zAT ["_law_shape_here", "_law_found", "_law_part"] ["_law_shape_here"] (zAH zCt):=scI
abbrev zDX:Stmt:=top 59
theorem zEK:zAT ["_law_cell", "_law_kind", "_law_turn"] ["_law_cell", "_law_kind"] (zAH zDX):=scI
abbrev zC1:Stmt:=top 60
theorem zBs:zAT ["_law_cell", "_law_kind", "_law_more", "_law_one", "_law_other"] ["_law_cell", "_law_kind"] (zAH zC1):=scI
def zDP (n:Nat):Sp:=λ vs H Q Ω=>E2 λ(sh:Tr) (v:V)=>A6 (vs=[v]) (Rep H sh v) (Shp sh) (dpT sh<=n) (sh.size<=60) (∀(l:Addr) (H':Hp),Same H H'->H l=none->H' l=some (.lst ((gpS sh).map V.str))->Q (.ref l) H')
theorem zMf (F:Fun K "_law_gaps" "_law_gaps" zCt f fd) (z_isinstance:mg "isinstance" = none) (z_tuple:mg "tuple" = none)
  (zOo:FnB P w K mg base k "_law_gaps" f fd ["_law_shape_here"] (zDP n)):FnOk P w K mg base CX0 (k+1) f fd ["_law_shape_here"] (zDP (n+1)):=by
 refine F.ok zCF (λ vs H Q E h=>?_) (λ cdv A outer s H vs Q E hr h=>?_)
 ·obtain⟨sh,v,rfl,_⟩:=h
  rfl
 obtain⟨sh,v,rfl,hR,hs,hd,hz,q⟩:=h
 refine⟨_,(zAE (ps_if (zAO op_eq (iC (r:=rIxT K) zAS (pv 0)) zAZ (zAY _)) (zAF (zAU (zAs (zAB (iC (r:=rIxT K) zAS (pv 0)) zAD):PE _ _ _))) zAV)
  (zAE (pS (i:=1) zCF.nd (zAs zAD:PE _ _ _))
  (zAE (zAv PassesOwn.never rfl (zBm (zAg zCZ (pv 0) (zAh zAI) zA7)) (pGn (i:=2) zCF.nd) (zAF (ps_if (zBB (cI z_isinstance z_tuple rK (pv 2))) (zAF (pS (i:=1) zCF.nd (pe_op zI6 (pv 1) (pe_cl zOo hr (zAB (pv 2) zAD))))) zAV)))
  (zAF (zAU (pv 1)))))),?_⟩
 have d0:0<=sizeLine:=by decide
 by_cases hg:sh.kd = .gap
 ·cases sh with
  |gap g as =>
   obtain⟨a,b,us,rfl,ha,hb,_,_⟩:=hR;exact⟨_,rfl,a,_,0,_,rfl,rfl,SqT.of ha,rfl,rfl,_,rfl,ite2 (λ Ω=>⟨_,rfl,a,_,1,_,rfl,rfl,SqT.of ha,rfl,(by show 1<=sizeLine;decide),λ l hl=>q l _ (zAC hl) hl zAA⟩) (λ c=>absurd (lU rfl) c)⟩
  |bin o a b=>cases o<;>cases hg
  |_=>cases hg
 obtain⟨a,ys,rfl,ha,hcase⟩:=hR.tpl hg hs.nl;have at0:atI (V.str sh.kd.s::ys) 0=some (.str sh.kd.s):=zAQ (j:=0) rfl;have gl:=zJb sh;refine⟨_,rfl,a,_,0,_,rfl,rfl,SqT.of ha,at0,rfl,_,rfl,ite2 (λ c=>absurd (Kd.eq_iff.mp (lT c)) hg) (λ Ω=>?_)⟩;refine⟨d0,λ l0 hl0=>?_⟩;have g0:=zAC (o:=.lst []) hl0;refine⟨_,rfl,_,rfl,a,_,rfl,g0 _ _ ha,zCj _ _,λ p H1 g1 e1=>?_⟩;rw[zEq] at e1;refine⟨p,rfl,⟨ys,SqT.of e1⟩,?_⟩;refine zC5 (xs:=ys) (λ i σ' H'=>E2 λ(l:Addr) (s2:Option V)=>A4 (σ'=[some (.ref a),some (.ref l),s2]) (Same H1 H') (H l=none) (H' l=some (.lst (((sh.parts.take i).flatMap gpS).map V.str)))) ⟨l0,none,rfl,.refl _,hl0,g1 _ _ zAA⟩ (λ i σ' H' _ h=>by obtain⟨l,s2,_,g,_⟩:=h;exact SqT.of (g _ _ e1)) ?_ ?_
 ·rintro i x σ' H' hx ⟨l,s2,rfl,g,hl,el⟩
  rcases hcase with ⟨pe,y,rfl,hy⟩|⟨pp,_,_⟩
  ·have:i=0:=by have:=(lJ.mp hx).1;simp at this;exact this
   subst this;cases hx;have fin:∀σ:L2.St,True:=λ Ω=>True.intro;rcases hy with ⟨z,rfl⟩|⟨z,rfl⟩
   ·exact⟨_,rfl,.int z, "tuple", _,false,rfl,.int z,rfl,_,rfl,iteF ⟨l,_,rfl,g,hl,by rw[el,pe];rfl⟩⟩
   ·exact⟨_,rfl,.str z, "tuple", _,false,rfl,.str z,rfl,_,rfl,iteF ⟨l,_,rfl,g,hl,by rw[el,pe];rfl⟩⟩
  ·obtain⟨t,et,rt⟩:=zAJ pp hx
   have hm:=lM et;have rt':=rt.mono (g0.trans (g1.trans g)).tk;obtain⟨b,hs',us',rfl,hb,_,_⟩:=id rt'.all;have dpt:=zDk hm;have szt:=zEY hm;refine⟨_,rfl,.ref b, "tuple", _,true,rfl,.tup hb,rfl,_,rfl,iteT ?_⟩;refine⟨_,rfl,_,rfl,t,.ref b,rfl,rt',hs.part hm,by omega,by omega,λ l2 H2 g2 hl2 e2=>?_⟩;have lt:=zJb t
   have l1:((sh.parts.take i).flatMap gpS).length<=(gpS sh).length:=by
    rw[zEn hg]
    conv=>rhs;rw[←List.take_append_drop i sh.parts]
    rw[nI,mK];omega
   refine⟨l,l2,_,_,rfl,rfl,g2 _ _ el,e2,zAz (by rw[mD,mD];omega),λ l3 hl3=>?_⟩;have g3:=zAC (o:=.lst (((sh.parts.take i).flatMap gpS).map V.str++(gpS t).map V.str)) hl3;refine⟨l3,_,rfl,g.trans (g2.trans g3),(g0.trans (g1.trans (g.trans g2))).free hl3,?_⟩;rw[zAA,zAL et,nI,mP];simp
 ·rintro σ' H' ⟨l,s2,rfl,g,hl,el⟩
  refine⟨_,rfl,q l H' (g0.trans (g1.trans g)) hl ?_⟩;rw[el,zEn hg];rcases hcase with ⟨pe,_⟩|⟨pp,_,_⟩
  ·rw[pe,List.take_nil]
  ·rw[zAG pp,mO]
theorem zMj {k:Nat}{f:Addr}{fd:FuncData}:FnOk P w K mg base CX0 k f fd ["_law_shape_here"] (zDP 0):=by
 have no:∀vs H Q E,¬zDP 0 vs H Q E:=λ vs H Q E h=>by
  obtain⟨sh,v,_,_,_,h1,_⟩:=h;have:=zFp sh;omega
 exact⟨λ vs H Q E h=>(no _ _ _ _ h).elim,λ A outer s H args us vs Q E Ω Ω Ω Ω h=>(no _ _ _ _ h).elim⟩
theorem zHv (F:Fun K "_law_gaps" "_law_gaps" zCt f fd) (b:Binds K fd ["_law_shape_here"] []) (m:mg "_law_gaps" = some (.ref f)) (z_isinstance:mg "isinstance" = none) (z_tuple:mg "tuple" = none):∀n:Nat,FnB P w K mg base (k+n) "_law_gaps" f fd ["_law_shape_here"] (zDP n)
 |0=>⟨zMj,b,F.kp,m⟩
 |n+1=>⟨zMf F z_isinstance z_tuple (zHv F b m z_isinstance z_tuple n),b,F.kp,m⟩
def zIi:Sp:=λ vs H Q Ω=>E2 λ(c k:Int)=>A4 (vs=[.int c,.int k]) (0<=k) (k<4) (∀(t:Tr) (v:V) (H':Hp),Same H H'->Rep H' t v->LfT t->Q v H')
theorem zKq (F:Fun K "_law_leaf" "_law_leaf" zDX f fd):FnOk P w K mg base CX0 (k+1) f fd ["_law_cell", "_law_kind"] zIi:=by
 refine F.ok zEK (λ vs H Q E h=>?_) (λ cdv A outer s H vs Q E hr h=>?_)
 ·obtain⟨c,k,rfl,_⟩:=h
  rfl
 obtain⟨c,k,rfl,h0,h4,q⟩:=h
 refine⟨_,(Sd.un (zAX (zBl ⟨zAO op_eq (pv 1) zAI (zAY _)⟩ (zAj (zA3 (zA8 (zAP ⟨zAZ⟩ (zAP (zDv (r:=rIxL K) zA0 (zDb (zAP ⟨pe_op zAu (pe_op zA5 (pv 0) zAI) zAI⟩ (zAP ⟨pe_op zAu (pe_op zA5 (pv 0) zAI) (pe_op zLk zAI zAI)⟩ ⟨zAD⟩))) ⟨pe_op zA5 (pe_op zAu (pe_op zA5 (pv 0) zAI) zAI) zAI⟩ (λ Ω Ω=>rfl)) ⟨zAD⟩))))) ⟨zAV⟩)
  (zAX (pSS (i:=2) zEK.nd ⟨pe_op zAu (pv 0) (pe_ix (r:=rIxL K) zA0 (zFa [.int 1,.int 3,.int 4,.int 4] (by rfl):PE _ _ _) (pv 1) (λ Ω Ω=>rfl))⟩)
  (zAX (zBl ⟨zAO op_lt (pv 2) zAI (zAY _)⟩ (zAj (zA3 (zA8 (zAP ⟨zAZ⟩ (zAP ⟨pe_op zAu (pe_op zA5 (pv 0) zAI) zAI⟩ ⟨zAD⟩))))) ⟨zAV⟩)
  (zAX (zBl ⟨zAO op_eq (pv 2) zAI (zAY _)⟩ (zAj (zA3 (zA8 (zAP ⟨zAZ⟩ (zAP (zDv (r:=rIxL K) zA0 (zDb (zAP ⟨zAZ⟩ (zAP ⟨zAZ⟩ ⟨zAD⟩))) ⟨pe_op zAu (pe_op zA5 (pv 0) zAI) zAI⟩ (λ Ω Ω=>rfl)) ⟨zAD⟩))))) ⟨zAV⟩)
  (zAj (zA3 (zA8 (zAP (zDv (r:=rIxL K) zA0 ⟨zFa [.str "ask", .str "ask", .str "stop"] (by rfl)⟩ ⟨pe_op zAu (pe_op zA5 (pv 0) zAI) zAI⟩ (λ Ω Ω=>rfl)) (zAP (zDv (r:=rIxL K) zA0 (zDb (zAP ⟨zAZ⟩ (zAP ⟨zAZ⟩ ⟨zAD⟩))) ⟨pe_op zAu (pe_op zA5 (pv 0) zAI) zAI⟩ (λ Ω Ω=>rfl)) ⟨zAD⟩)))))))))),?_⟩
 have d2:2<=sizeLine:=by decide
 have numQ:∀(n:Int) (H1:Hp) (p:Addr),Same H H1->H1 p=none->Q (.ref p) (upd H1 p (.tup [.str "num", .int n])):=λ n H1 p g h=>q (.num n) (.ref p) _ (g.trans (zAC h)) ⟨p,rfl,zAA⟩ ⟨True.intro,rfl,rfl,rfl⟩;have f4:(0:Int)<4/\(4:Int)<1073741824:=⟨by decide,by decide⟩;have f16:(0:Int)<16/\(16:Int)<1073741824:=⟨by decide,by decide⟩;refine⟨_,rfl,rfl,_,rfl,ite2 (λ Ω=>?_) (λ c0=>?_)⟩
 ·refine⟨_,rfl,_,_,rfl,rfl,f16,_,_,rfl,rfl,(show (0:Int)<3 by decide),_,rfl,_,_,rfl,rfl,f16,_,_,rfl,rfl,⟨by decide,by decide,by decide⟩,_,_,rfl,rfl,(show (0:Int)<10 ^ 30 by decide),d2,λ p1 hp1=>?_⟩
  obtain⟨v,hv,ev⟩:=zGc (xs:=[V.int (c / 16 % 3),V.int (c / 16 % 10 ^ (30:Int).toNat)]) (i:=c / 4 % 4 / 3) (by omega) (by show _<((2:Nat):Int);omega)
  obtain⟨n,rfl⟩:∃n,v = .int n:=by
   rcases lN.mp hv with rfl|hv
   ·exact⟨_,rfl⟩
   ·exact⟨_,mQ.mp hv⟩
  exact⟨_,rfl,_,_,rfl,rfl,f4,_,_,rfl,rfl,(show (0:Int)<4 by decide),_,_,rfl,rfl,⟨(show (0:Int)<3 by decide),(show (3:Int)<1073741824 by decide)⟩,p1,_,_,_,rfl,rfl,SqL.of zAA,ev,d2,λ p hp=>numQ n _ p (zAC hp1) hp⟩
 ·obtain⟨m,em,hm⟩:∃m:Int,atI [V.int 1,V.int 3,V.int 4,V.int 4] k=some (.int m)/\0<m:=by
   rcases (show k=0\/k=1\/k=2\/k=3 by omega) with rfl|rfl|rfl|rfl
   ·exact⟨1,rfl,by decide⟩
   ·exact⟨3,rfl,by decide⟩
   ·exact⟨4,rfl,by decide⟩
   ·exact⟨4,rfl,by decide⟩
  refine⟨_,rfl,(by show 4<=sizeLine;decide),λ p1 hp1=>⟨_,rfl,p1,_,_,_,rfl,rfl,SqL.of zAA,em,_,_,rfl,rfl,hm,?_⟩⟩;have g1:=zAC (o:=.lst [V.int 1,V.int 3,V.int 4,V.int 4]) hp1;dsimp only[gName];generalize upd H p1 _=H1 at g1 ⊢;refine⟨_,rfl,_,_,rfl,rfl,_,rfl,ite2 (λ Ω=>?_) (λ Ω=>?_)⟩
  ·exact⟨_,rfl,_,_,rfl,rfl,f4,_,_,rfl,rfl,(show (0:Int)<3 by decide),d2,λ p hp=>numQ _ H1 p g1 hp⟩
  refine⟨_,rfl,rfl,_,rfl,ite2 (λ Ω=>?_) (λ Ω=>?_)⟩
  ·obtain⟨v,hv,ev⟩:=zGc (xs:=[V.str "b", V.str "bb"]) (i:=c / 4 % 2) (by omega) (by show _<((2:Nat):Int);omega)
   obtain⟨x,rfl⟩:∃x,v = .str x:=by
    rcases lN.mp hv with rfl|hv
    ·exact⟨_,rfl⟩
    ·exact⟨_,mQ.mp hv⟩
   refine⟨d2,λ p2 hp2=>⟨_,rfl,_,_,rfl,rfl,f4,_,_,rfl,rfl,(show (0:Int)<2 by decide),p2,_,_,_,rfl,rfl,SqL.of zAA,ev,d2,λ p hp=>?_⟩⟩;exact q (.name x) (.ref p) _ (g1.trans ((zAC hp2).trans (zAC hp))) ⟨p,rfl,zAA⟩ ⟨True.intro,rfl,rfl,rfl⟩
  ·obtain⟨v,hv,ev⟩:=zGc (xs:=[V.str "b", V.str "ab"]) (i:=c / 12 % 2) (by omega) (by show _<((2:Nat):Int);omega)
   obtain⟨x,rfl⟩:∃x,v = .str x:=by
    rcases lN.mp hv with rfl|hv
    ·exact⟨_,rfl⟩
    ·exact⟨_,mQ.mp hv⟩
   obtain⟨s0,t,e0,k1,k2⟩:∃(s:Str) (t:Str->Tr),atI [V.str "ask", V.str "ask", V.str "stop"] (c / 4 % 3)=some (.str s)/\(∀x,LfT (t x))/\∀(H:Hp) (p:Addr) x,H p=some (.tup [.str s,.str x])->Rep H (t x) (.ref p):=by
    rcases (show c / 4 % 3=0\/c / 4 % 3=1\/c / 4 % 3=2 by omega) with e|e|e<;>rw[e]
    ·exact⟨_,.ask,rfl,λ x=>⟨True.intro,rfl,rfl,rfl⟩,λ H p x h=>⟨p,rfl,h⟩⟩
    ·exact⟨_,.ask,rfl,λ x=>⟨True.intro,rfl,rfl,rfl⟩,λ H p x h=>⟨p,rfl,h⟩⟩
    ·exact⟨_,.stop,rfl,λ x=>⟨True.intro,rfl,rfl,rfl⟩,λ H p x h=>⟨p,rfl,h⟩⟩
   refine⟨(by show 3<=sizeLine;decide),λ p2 hp2=>⟨_,rfl,_,_,rfl,rfl,f4,_,_,rfl,rfl,(show (0:Int)<3 by decide),p2,_,_,_,rfl,rfl,SqL.of zAA,e0,?_⟩⟩;refine⟨d2,λ p3 hp3=>⟨_,rfl,_,_,rfl,rfl,⟨(show (0:Int)<12 by decide),(show (12:Int)<1073741824 by decide)⟩,_,_,rfl,rfl,(show (0:Int)<2 by decide),p3,_,_,_,rfl,rfl,SqL.of zAA,ev,d2,λ p hp=>?_⟩⟩;exact q (t x) (.ref p) _ (g1.trans ((zAC hp2).trans ((zAC hp3).trans (zAC hp)))) (k2 _ p x zAA) (k1 x)
def zHM:Sp:=λ vs H Q Ω=>E2 λ(c k:Int)=>A4 (vs=[.int c,.int k]) (0<=k) (k<4) (∀(t:Tr) (v:V) (H':Hp),Same H H'->Rep H' t v->PcT t->Q v H')
theorem zJC (F:Fun K "_law_piece" "_law_piece" zC1 f fd) (zOp:FnB P w K mg base k "_law_leaf" g1 gd1 ["_law_cell", "_law_kind"] zIi):FnOk P w K mg base CX0 (k+1) f fd ["_law_cell", "_law_kind"] zHM:=by
 refine F.ok zBs (λ vs H Q E h=>?_) (λ cdv A outer s H vs Q E hr h=>?_)
 ·obtain⟨c,k,rfl,_⟩:=h
  rfl
 obtain⟨c,k,rfl,h0,h4,q⟩:=h
 refine⟨_,(Sd.un (zAX (pSS (i:=2) zBs.nd ⟨pe_op zAu (pe_op zGH (pv 0) zAI) zAI⟩)
  (zAX (pSS (i:=3) zBs.nd ⟨pe_cl zOp hr (zAB (pv 0) (zAB (pv 1) zAD))⟩)
  (zAX (zBl ⟨(pw_or (zAO op_eq (pv 1) zAI (zAY _)) (zCB (zAO op_lt (pe_op zAu (pv 2) zAI) zAI (zAY _)))).pt⟩ (zAj (zA3 ⟨pv 3⟩)) ⟨zAV⟩)
  (zAX (pSS (i:=4) zBs.nd ⟨pe_cl zOp hr (zAB (pe_op zA5 (pv 2) zAI) (zAB (pv 1) zAD))⟩)
  (zAX (zBl ⟨(zDu (zAO op_eq (pe_op zAu (pv 2) zAI) zAI (zAY _)) (zCg (zAO op_eq (pv 1) zAI (zAY _)))).pt⟩ (zAj (zA3 (zA8 (zAP ⟨zAZ⟩ (zAP ⟨pv 3⟩ ⟨zAD⟩))))) ⟨zAV⟩)
  (zAX (zBl ⟨zAO op_eq (pe_op zAu (pv 2) zAI) zAI (zAY _)⟩ (zAj (zA3 (zA8 (zAP ⟨zAZ⟩ (zAP ⟨pv 3⟩ (zAP ⟨pv 4⟩ (zAP ⟨pv 3⟩ ⟨zAD⟩))))))) ⟨zAV⟩)
  (zAj (zA3 (zA8 (zAP (zDv (r:=rIxL K) zA0 (zDb (zAP ⟨zAZ⟩ (zAP ⟨zAZ⟩ ⟨zAD⟩))) ⟨pe_op zAu (pv 2) zAI⟩ (λ Ω Ω=>rfl)) (zAP ⟨pv 3⟩ (zAP ⟨pv 4⟩ ⟨zAD⟩))))))))))))),?_⟩
 have d2:2<=sizeLine:=by decide
 have z8:(0:Int)<8:=by decide
 refine⟨_,rfl,_,_,rfl,rfl,.inr ⟨by decide,by decide⟩,_,_,rfl,rfl,(show (0:Int)<2147483647 by decide),?_⟩;dsimp only[gName];generalize c * 16807 % 2147483647=N;refine⟨_,rfl,_,rfl,c,k,rfl,h0,h4,λ t1 v1 H1 g1 r1 l1=>?_⟩;refine⟨_,rfl,rfl,_,rfl,ite2 (λ Ω=>iteT ⟨_,rfl,q t1 v1 H1 g1 r1 l1.pc⟩) (λ Ω=>?_)⟩;refine⟨_,rfl,_,_,rfl,rfl,z8,_,_,rfl,rfl,_,rfl,ite2 (λ Ω=>⟨_,rfl,q t1 v1 H1 g1 r1 l1.pc⟩) (λ Ω=>?_)⟩;refine⟨_,rfl,_,_,rfl,rfl,⟨z8,(show (8:Int)<1073741824 by decide)⟩,_,rfl,N / 8,k,rfl,h0,h4,λ t2 v2 H2 g2 r2 l2=>?_⟩;have r1':=r1.mono g2.tk;have gA:=g1.trans g2;obtain⟨a1,a2,a3,a4⟩:=l1;obtain⟨b1,b2,b3,b4⟩:=l2
 have two:∀(p:Addr) (H3:Hp),Same H2 H3->H3 p=none->∀o:Bin,Q (.ref p) (upd H3 p (.tup [.str o.s,v1,v2])):=λ p H3 g3 hp o=>by
  have g4:=zAC (o:=.tup [.str o.s,v1,v2]) hp;exact q (.bin o t1 t2) (.ref p) _ (gA.trans (g3.trans g4)) ⟨p,v1,v2,rfl,zAA,r1'.mono (g3.trans g4).tk,r2.mono (g3.trans g4).tk⟩ ⟨⟨a1,b1⟩,by simp only[dpT];omega,by simp only[Tr.size];omega,by simp only[lfN];omega⟩
 refine⟨_,rfl,_,_,rfl,rfl,z8,rfl,_,rfl,ite2 (λ Ω=>⟨_,rfl,rfl,_,rfl,ite2 (λ Ω=>?_) (λ Ω=>?R1)⟩) (λ Ω=>iteF ?R2)⟩
 ·refine⟨_,rfl,d2,λ p hp=>?_⟩
  have g4:=zAC (o:=.tup [.str "say", v1]) hp;exact q (.say t1) (.ref p) _ (gA.trans g4) ⟨p,v1,rfl,zAA,r1'.mono g4.tk⟩ ⟨a1,by simp only[dpT];omega,by simp only[Tr.size];omega,by simp only[lfN];omega⟩
 case R1|R2 =>
  refine⟨_,rfl,_,_,rfl,rfl,z8,rfl,_,rfl,ite2 (λ Ω=>?_) (λ Ω=>?_)⟩
  ·refine⟨_,rfl,_,rfl,_,rfl,(by show 4<=sizeLine;decide),λ p hp=>?_⟩
   have g4:=zAC (o:=.tup [.str "if", v1,v2,v1]) hp;exact q (.ite t1 t2 t1) (.ref p) _ (gA.trans g4) ⟨p,v1,v2,v1,rfl,zAA,r1'.mono g4.tk,r2.mono g4.tk,r1'.mono g4.tk⟩ ⟨⟨a1,b1,a1⟩,by simp only[dpT];omega,by simp only[Tr.size];omega,by simp only[lfN];omega⟩
  ·obtain⟨o,ho⟩:∃o:Bin,atI [V.str "add", V.str "mul"] (N % 2)=some (.str o.s):=by
    rcases (show N % 2=0\/N % 2=1 by omega) with e|e<;>rw[e]
    ·exact⟨.add,rfl⟩
    ·exact⟨.mul,rfl⟩
   exact⟨d2,λ p3 hp3=>⟨_,rfl,_,_,rfl,rfl,(show (0:Int)<2 by decide),p3,_,_,_,rfl,rfl,SqL.of zAA,ho,_,rfl,_,rfl,(by show 3<=sizeLine;decide),λ p hp=>two p _ (zAC hp3) hp o⟩⟩
abbrev zBt:Stmt:=top 61
theorem zCG:zAT ["_law_shape_here", "_law_filling", "_law_found", "_law_part"] ["_law_shape_here", "_law_filling"] (zAH zBt):=scI
def zCq (n:Nat):Sp:=λ vs H Q Ω=>E5 λ(sh:Tr) (v:V) (d:Addr) (kvs:List (Key × V)) (φ:Str->Tr)=>A7 (vs=[v,.ref d]) (Rep H sh v) (Shp sh) (dpT sh<=n) (H d=some (.dK kvs)) (∀g∈gpS sh,∃u,valV kvs (Sum.inr g:Key)=some u/\Rep H (φ g) u) (∀(v':V) (H':Hp),Same H H'->Rep H' (fillT φ sh) v'->Q v' H')
theorem zKr (F:Fun K "_law_filled" "_law_filled" zBt f fd) (z_isinstance:mg "isinstance" = none) (z_tuple:mg "tuple" = none)
  (zOq:FnB P w K mg base k "_law_filled" f fd ["_law_shape_here", "_law_filling"] (zCq n)):FnOk P w K mg base CX0 (k+1) f fd ["_law_shape_here", "_law_filling"] (zCq (n+1)):=by
 refine F.ok zCG (λ vs H Q E h=>?_) (λ cdv A outer s H vs Q E hr h=>?_)
 ·obtain⟨sh,v,d,kvs,φ,rfl,_⟩:=h
  rfl
 obtain⟨sh,v,d,kvs,φ,rfl,hR,hs,hd,ed,hφ,q⟩:=h;have hu:=hu_of hr
 refine⟨_,(zAE (ps_if (zAO op_eq (iC (r:=rIxT K) zAS (pv 0)) zAZ (zAY _)) (zAF (zAU (zDc hu (pv 1) (iC (r:=rIxT K) zAS (pv 0)) (λ Ω Ω=>rfl)))) zAV)
  (zAE (pS (i:=2) zCG.nd (zAs (zAB (iC (r:=rIxT K) zAS (pv 0)) zAD):PE _ _ _))
  (zAE (zAv PassesOwn.never rfl (zBm (zAg zCZ (pv 0) (zAh zAI) zA7)) (pGn (i:=3) zCG.nd) (zAF (ps_if (zBB (cI z_isinstance z_tuple rK (pv 3))) (zAF (pAp (pv 2) (pe_cl zOq hr (zAB (pv 3) (zAB (pv 1) zAD))))) (zAF (pAp (pv 2) (pv 3))))))
  (zAF (zAU (zBG zBe (by rfl) z_tuple rK (zAB (pv 2) zAD))))))),?_⟩
 by_cases hg:sh.kd = .gap
 ·cases sh with
  |gap g as =>
   obtain⟨a,b,us,rfl,ha,hb,_,_⟩:=hR;obtain⟨u,eu,ru⟩:=hφ g (mQ.mpr rfl);have dg:DGet H d (.str g) (some u):=eu▸DGet.k (k:=Sum.inr g) ed;exact⟨_,rfl,a,_,0,_,rfl,rfl,SqT.of ha,rfl,rfl,_,rfl,ite2 (λ Ω=>⟨_,rfl,_,rfl,a,_,1,_,rfl,rfl,SqT.of ha,rfl,d,u,rfl,dg,q u H (.refl _) ru⟩) (λ c=>absurd (lU rfl) c)⟩
  |bin o a b=>cases o<;>cases hg
  |_=>cases hg
 obtain⟨a,ys,rfl,ha,hcase⟩:=hR.tpl hg hs.nl;have at0:atI (V.str sh.kd.s::ys) 0=some (.str sh.kd.s):=zAQ (j:=0) rfl;refine⟨_,rfl,a,_,0,_,rfl,rfl,SqT.of ha,at0,rfl,_,rfl,ite2 (λ c=>absurd (Kd.eq_iff.mp (lT c)) hg) (λ Ω=>?_)⟩;refine⟨_,rfl,a,_,0,_,rfl,rfl,SqT.of ha,at0,(by show 1<=sizeLine;decide),λ l hl=>?_⟩;have g0:=zAC (o:=.lst [V.str sh.kd.s]) hl;refine⟨_,rfl,_,rfl,a,_,rfl,g0 _ _ ha,zCj _ _,λ p H1 g1 e1=>?_⟩;rw[zEq] at e1
 have l3:ys.length<=3:=by
  rcases hcase with ⟨_,y,rfl,_⟩|⟨pp,_,_⟩
  ·simp
  ·rw[zAG pp];exact zDE sh
 refine⟨p,rfl,⟨ys,SqT.of e1⟩,?_⟩;refine zC5 (xs:=ys) (λ i σ' H'=>E2 λ(s3:Option V) (zs:List V)=>A6 (σ'=[some (.ref a),some (.ref d),some (.ref l),s3]) (Same H H') (H' p=some (.tup ys)) (H' l=some (.lst (V.str sh.kd.s::zs))) (zs.length=i) ((sh.parts=[]/\zs=ys.take i)\/(sh.parts≠[]/\Paired (Rep H') ((sh.parts.take i).map (fillT φ)) zs))) ?_ (λ i σ' H' _ h=>by obtain⟨s3,zs,_,_,e,_⟩:=h;exact SqT.of e) ?_ ?_
 ·refine⟨none,[],rfl,g0.trans g1,e1,g1 _ _ zAA,rfl,?_⟩
  by_cases z:sh.parts=[]
  ·exact .inl ⟨z,rfl⟩
  ·exact .inr ⟨z,.nil⟩
 ·rintro i x σ' H' hx ⟨s3,zs,rfl,g,ep,el,lz,hz⟩
  have hi:=(lJ.mp hx).1;rcases hcase with ⟨pe,y,rfl,hy⟩|⟨pp,hne,_⟩
  ·have:i=0:=by simp at hi;exact hi
   subst this;cases hx;rcases hz with ⟨_,hz⟩|⟨z,_⟩
   ·have npl:p≠l:=λ z=>by rw[z,el] at ep;cases ep
    have z0:zs=[]:=nJ.mp lz;subst z0;rcases hy with ⟨z,rfl⟩|⟨z,rfl⟩
    ·exact⟨_,rfl,.int z, "tuple", _,false,rfl,.int z,rfl,_,rfl,iteF ⟨_,rfl,.inl ⟨rfl,_,SqL.of el⟩,_,rfl,l,_,_,rfl,rfl,el,zAK (by simp),_,[_],rfl,zAW g hl,by rw[zAR npl];exact ep,zAA,rfl,.inl ⟨pe,rfl⟩⟩⟩
    ·exact⟨_,rfl,.str z, "tuple", _,false,rfl,.str z,rfl,_,rfl,iteF ⟨_,rfl,.inl ⟨rfl,_,SqL.of el⟩,_,rfl,l,_,_,rfl,rfl,el,zAK (by simp),_,[_],rfl,zAW g hl,by rw[zAR npl];exact ep,zAA,rfl,.inl ⟨pe,rfl⟩⟩⟩
   ·exact absurd pe z
  ·have npe:sh.parts≠[]:=λ z=>by
    have:=zAG pp;rw[z] at this;exact hne (nJ.mp this)
   obtain⟨t,et,rt⟩:=zAJ pp hx;have hm:=lM et;have rt':=rt.mono g.tk;obtain⟨b,hs',us',rfl,hb,_,_⟩:=id rt'.all;have dpt:=zDk hm;rcases hz with ⟨z,_⟩|⟨_,hz⟩
   ·exact absurd z npe
   refine⟨_,rfl,.ref b, "tuple", _,true,rfl,.tup hb,rfl,_,rfl,iteT ?_⟩;refine⟨_,rfl,.inl ⟨rfl,_,SqL.of el⟩,_,rfl,_,rfl,t,.ref b,d,kvs,φ,rfl,rt',hs.part hm,by omega,g _ _ ed,λ g' hg'=>?_,λ v' H2 g2 r2=>?_⟩
   ·have:g'∈gpS sh:=by
     rw[zEn hg];exact mW.mpr ⟨t,hm,hg'⟩
    obtain⟨u,e,r⟩:=hφ g' this;exact⟨u,e,r.mono g.tk⟩
   ·have el2:=g2 _ _ el
    have k3:Tk _ _:=Tk.lst (o:=.lst (V.str sh.kd.s::zs++[v'])) el2;have npl:p≠l:=λ z=>by rw[z,el] at ep;cases ep
    refine⟨l,_,v',rfl,rfl,el2,zAK (by rw[mM];omega),_,zs++[v'],rfl,zAW (g.trans g2) hl,by rw[zAR npl];exact g2 _ _ ep,zAA,by simp[lz],.inr ⟨npe,?_⟩⟩;rw[zAL et,mP];exact zAM (Paired.mapP hz λ Ω Ω z=>z.mono (g2.tk.trans k3)) (.cons (r2.mono k3) .nil)
 ·rintro σ' H' ⟨s3,zs,rfl,g,ep,el,lz,hz⟩
  refine⟨_,rfl,l,_,rfl,.inl ⟨SqL.of el,λ p2 hp2=>?_⟩⟩;have g2:=zAC (o:=.tup (V.str sh.kd.s::zs)) hp2;refine q (.ref p2) _ (g.trans g2) (zKS hs hg ha hR zAA ?_);rcases hz with ⟨pe,hz⟩|⟨npe,hz⟩
  ·exact .inl ⟨pe,by rw[hz,mO]⟩
  ·refine .inr ⟨npe,?_⟩
   have ly:ys.length=sh.parts.length:=by
    rcases hcase with ⟨pe,_⟩|⟨pp,_,_⟩
    ·exact absurd pe npe
    ·exact zAG pp
   rw[ly,mO] at hz;exact Paired.mapP hz λ Ω Ω z=>z.mono g2.tk
theorem zK3 {k:Nat}{f:Addr}{fd:FuncData}:FnOk P w K mg base CX0 k f fd ["_law_shape_here", "_law_filling"] (zCq 0):=by
 have no:∀vs H Q E,¬zCq 0 vs H Q E:=λ vs H Q E h=>by
  obtain⟨sh,v,d,kvs,φ,_,_,_,h1,_⟩:=h;have:=zFp sh;omega
 exact⟨λ vs H Q E h=>(no _ _ _ _ h).elim,λ A outer s H args us vs Q E Ω Ω Ω Ω h=>(no _ _ _ _ h).elim⟩
theorem zGf (F:Fun K "_law_filled" "_law_filled" zBt f fd) (b:Binds K fd ["_law_shape_here", "_law_filling"] []) (m:mg "_law_filled" = some (.ref f)) (z_isinstance:mg "isinstance" = none) (z_tuple:mg "tuple" = none):∀n:Nat,FnB P w K mg base (k+n) "_law_filled" f fd ["_law_shape_here", "_law_filling"] (zCq n)
 |0=>⟨zK3,b,F.kp,m⟩
 |n+1=>⟨zKr F z_isinstance z_tuple (zGf F b m z_isinstance z_tuple n),b,F.kp,m⟩
abbrev zCs:Stmt:=top 63
theorem zEJ:zAT ["_law_tree", "_law_part"] ["_law_tree"] (zAH zCs):=scI
abbrev zDY:Stmt:=top 64
theorem zGp:zAT ["_law_tree"] ["_law_tree"] (zAH zDY):=scI
abbrev zB3:Stmt:=top 65
theorem zCa:zAT ["_law_row", "_law_kind", "_law_heads"] ["_law_row", "_law_kind"] (zAH zB3):=scI
def zCp (n:Nat):Sp:=λ vs H Q Ω=>E2 λ(t:Tr) (v:V)=>A5 (vs=[v]) (Rep H t v) (Pln t) (dpT t<=n) (∀(z:Bool) (H':Hp),Same H H'->(z=true↔loudT t)->Q (.bl z) H')
theorem zKp (F:Fun K "_law_loud" "_law_loud" zCs f fd) (z_isinstance:mg "isinstance" = none) (z_tuple:mg "tuple" = none)
  (zOr:FnB P w K mg base k "_law_loud" f fd ["_law_tree"] (zCp n)):FnOk P w K mg base CX0 (k+1) f fd ["_law_tree"] (zCp (n+1)):=by
 refine F.ok zEJ (λ vs H Q E h=>?_) (λ cdv A outer s H vs Q E hr h=>?_)
 ·obtain⟨t,v,rfl,_⟩:=h
  rfl
 obtain⟨t,v,rfl,hR,hp,hd,q⟩:=h
 refine⟨_,(zAE (ps_if (zAO (r:=rIn K false) zBo (iC (r:=rIxT K) zAS (pv 0)) (zMO [.str "say", .str "ask", .str "stop"] (by rfl):PE _ _ _) rfl) (zAF (zAU pe_bl)) zAV)
  (zAE (zAv PassesOwn.never rfl (zBm (zAg zCZ (pv 0) (zAh zAI) zA7)) (pGn (i:=1) zEJ.nd) (zAF (ps_if (zDu (zBB (cI z_isinstance z_tuple rK (pv 1))) (zCg (zBB (pe_cl zOr hr (zAB (pv 1) zAD))))).pt (zAF (zAU pe_bl)) zAV)))
  (zAF (zAU pe_bl)))),?_⟩
 obtain⟨a,ys,rfl,ha,hcase⟩:=hR.tpl hp.ng hp.nl;have at0:atI (V.str t.kd.s::ys) 0=some (.str t.kd.s):=zAQ (j:=0) rfl;refine⟨_,rfl,a,_,0,_,rfl,rfl,SqT.of ha,at0,(by show 3<=sizeLine;decide),λ p0 hp0=>⟨p0,loudV,rfl,.inr (SqT.of zAA),rfl,rfl,_,rfl,?_⟩⟩;have g0:=zAC (o:=.tup loudV) hp0;show if inV (.str t.kd.s) loudV=true then _ else _
 rw[zG2];refine ite2 (λ c=>q true _ g0 ⟨λ Ω=>zDf.mpr (.inl c),λ Ω=>rfl⟩) (λ c=>?_);refine⟨_,rfl,_,rfl,a,_,rfl,g0 _ _ ha,zCj _ _,λ p H1 g1 e1=>?_⟩;rw[zEq] at e1;refine⟨p,rfl,⟨ys,SqT.of e1⟩,?_⟩;refine zC5 (xs:=ys) (λ i σ' H'=>∃(s1:Option V),A3 (σ'=[some (.ref a),s1]) (Same H1 H') (∀u∈t.parts.take i,¬loudT u)) ⟨none,rfl,.refl _,(λ u hu=>by simp at hu)⟩ (λ i σ' H' _ h=>by obtain⟨s1,_,g,_⟩:=h;exact SqT.of (g _ _ e1)) ?_ ?_
 ·rintro i x σ' H' hx ⟨s1,rfl,g,hn⟩
  have gA:=g0.trans (g1.trans g);rcases hcase with ⟨pe,y,rfl,hy⟩|⟨pp,_,_⟩
  ·have:i=0:=by have:=(lJ.mp hx).1;simp at this;exact this
   subst this;cases hx;rcases hy with ⟨z,rfl⟩|⟨z,rfl⟩
   ·exact⟨_,rfl,.int z, "tuple", _,false,rfl,.int z,rfl,_,rfl,iteF (iteF ⟨_,rfl,g,by rw[pe];simp⟩)⟩
   ·exact⟨_,rfl,.str z, "tuple", _,false,rfl,.str z,rfl,_,rfl,iteF (iteF ⟨_,rfl,g,by rw[pe];simp⟩)⟩
  ·obtain⟨u,eu,ru⟩:=zAJ pp hx
   have hm:=lM eu;have ru':=ru.mono gA.tk;obtain⟨b,hs',us',rfl,hb,_,_⟩:=id ru'.all;have dpt:=zDk hm;refine⟨_,rfl,.ref b, "tuple", _,true,rfl,.tup hb,rfl,_,rfl,iteT ⟨_,rfl,u,.ref b,rfl,ru',hp.part hm,by omega,λ z H2 g2 hz=>⟨_,rfl,ite2 (λ c'=>?_) (λ c'=>?_)⟩⟩⟩
   ·exact q true H2 (gA.trans g2) ⟨λ Ω=>zDf.mpr (.inr ⟨u,hm,hz.mp c'⟩),λ Ω=>rfl⟩
   ·refine⟨_,rfl,g.trans g2,λ w hw=>?_⟩
    rw[zAL eu] at hw;rcases lK.mp hw with y|y
    ·exact hn w y
    ·rw[mQ.mp y]
     exact λ z'=>c' (hz.mpr z')
 ·rintro σ' H' ⟨s1,rfl,g,hn⟩
  refine q false H' (g0.trans (g1.trans g)) ⟨(λ z=>nomatch z),λ z=>?_⟩
  rcases zDf.mp z with y|⟨u,hu,y⟩
  ·exact absurd y c
  ·rcases hcase with ⟨pe,_⟩|⟨pp,_,_⟩
   ·rw[pe] at hu;cases hu
   ·rw[zAG pp,mO] at hn
    exact absurd y (hn u hu)
theorem zK2 {k:Nat}{f:Addr}{fd:FuncData}:FnOk P w K mg base CX0 k f fd ["_law_tree"] (zCp 0):=by
 have no:∀vs H Q E,¬zCp 0 vs H Q E:=λ vs H Q E h=>by
  obtain⟨t,v,_,_,_,h1,_⟩:=h;have:=zFp t;omega
 exact⟨λ vs H Q E h=>(no _ _ _ _ h).elim,λ A outer s H args us vs Q E Ω Ω Ω Ω h=>(no _ _ _ _ h).elim⟩
theorem zGe (F:Fun K "_law_loud" "_law_loud" zCs f fd) (b:Binds K fd ["_law_tree"] []) (m:mg "_law_loud" = some (.ref f)) (z_isinstance:mg "isinstance" = none) (z_tuple:mg "tuple" = none):∀n:Nat,FnB P w K mg base (k+n) "_law_loud" f fd ["_law_tree"] (zCp n)
 |0=>⟨zK2,b,F.kp,m⟩
 |n+1=>⟨zKp F z_isinstance z_tuple (zGe F b m z_isinstance z_tuple n),b,F.kp,m⟩
def zIk:Sp:=λ vs H Q Ω=>E2 λ(t:Tr) (v:V)=>A4 (vs=[v]) (Rep H t v) (Pln t) (∀(p:Addr) (H':Hp),Same H H'->DR H' (.tup (hdD t)) (.ref p)->Q (.ref p) H')
theorem zMd (F:Fun K "_law_head" "_law_head" zDY f fd) (z_isinstance:mg "isinstance" = none) (z_tuple:mg "tuple" = none):FnOk P w K mg base CX0 (k+1) f fd ["_law_tree"] zIk:=by
 refine F.ok zGp (λ vs H Q E h=>?_) (λ cdv A outer s H vs Q E hr h=>?_)
 ·obtain⟨t,v,rfl,_⟩:=h
  rfl
 obtain⟨t,v,rfl,hR,hp,q⟩:=h
 refine⟨_,(zAE (ps_if (zBB (cI z_isinstance z_tuple rK (iC (r:=rIxT K) zAS (pv 0)))) (zAF (zAU (zAg zGl (pv 0) zA7 (zAh zAI)))) zAV)
  (zAF (zAU (zAg zGl (pv 0) zA7 (zAh zAI))))),?_⟩
 obtain⟨a,ys,rfl,ha,hcase⟩:=id (hR.tpl hp.ng hp.nl)
 have cut1:∀(x:V) (zs:List V),cutV (x::zs) none (some 1)=[x]:=λ x zs=>by
  unfold cutV
  have e:HT.sIx (x::zs).length (x::zs).length (some 1)=1:=by
   show HT.sIx _ _ (some ((1:Nat):Int))=1;rw[HT.sIx_nat];simp
  rw[e,HT.sIx_none];rfl
 rcases hcase with ⟨pe,y,rfl,hy⟩|⟨pp,hne,nl⟩
 ·have at1:atI (V.str t.sign::[y]) 1=some y:=zAQ (j:=1) rfl
  have drt:∀(H':Hp) (p:Addr),H' p=some (.tup [V.str t.sign,y])->DR H' (.tup (hdD t)) (.ref p):=λ H' p e=>by
   cases t with
   |gap g as=>exact hp.elim
   |lett x a b=>exact hp.elim
   |num n=>obtain⟨a',e',h⟩:=hR;cases e';rw[ha] at h;cases h;exact .tup e (.cons (.str _) (.cons (.int _) .nil))
   |name n=>obtain⟨a',e',h⟩:=hR;cases e';rw[ha] at h;cases h;exact .tup e (.cons (.str _) (.cons (.str _) .nil))
   |ask n=>obtain⟨a',e',h⟩:=hR;cases e';rw[ha] at h;cases h;exact .tup e (.cons (.str _) (.cons (.str _) .nil))
   |stop n=>obtain⟨a',e',h⟩:=hR;cases e';rw[ha] at h;cases h;exact .tup e (.cons (.str _) (.cons (.str _) .nil))
   |_=>cases pe
  have cut2:cutV (V.str t.sign::[y]) none (some 2)=[V.str t.sign,y]:=rfl;rcases hy with ⟨z,rfl⟩|⟨z,rfl⟩
  ·exact⟨_,rfl,a,_,1,_,rfl,rfl,SqT.of ha,at1,.int z, "tuple", _,false,rfl,.int z,rfl,_,rfl,iteF ⟨_,rfl,_,rfl,a,_,rfl,ha,λ p H' g e=>q p H' g (drt H' p (by rw[cut2] at e;exact e))⟩⟩
  ·exact⟨_,rfl,a,_,1,_,rfl,rfl,SqT.of ha,at1,.str z, "tuple", _,false,rfl,.str z,rfl,_,rfl,iteF ⟨_,rfl,_,rfl,a,_,rfl,ha,λ p H' g e=>q p H' g (drt H' p (by rw[cut2] at e;exact e))⟩⟩
 ·obtain⟨y,ys,rfl⟩:∃y zs,ys=y::zs:=by
   cases ys with
   |nil=>exact absurd rfl hne
   |cons y zs=>exact⟨y,zs,rfl⟩
  obtain⟨u,eu,ru⟩:=zAJ pp (i:=0) rfl;obtain⟨b,hs',us',rfl,hb,_,_⟩:=ru.all;have at1:atI (V.str t.sign :: .ref b::ys) 1=some (.ref b):=zAQ (j:=1) rfl;have e1:hdD t=[.str t.kd.s]:=by cases t<;>first|rfl|exact absurd rfl nl
  refine⟨_,rfl,a,_,1,_,rfl,rfl,SqT.of ha,at1,.ref b, "tuple", _,true,rfl,.tup hb,rfl,_,rfl,iteT ⟨_,rfl,_,rfl,a,_,rfl,ha,λ p H' g e=>q p H' g ?_⟩⟩;rw[cut1] at e;rw[e1];exact .tup e (.cons (.str _) .nil)
def zIl:Sp:=λ vs H Q Ω=>E3 λ(l:Addr) (us:List V) (ts:List Tr)=>A7 (vs=[.ref l,.str ((kindF ts).getD "")]) (H l=some (.lst us)) (Paired (Rep H) ts us) (1<=ts.length/\ts.length<=10) (∀t∈ts,Pln t/\dpT t<=7) (¬Beg ts) (∀H',Same H H'->Q (.bl true) H')
theorem zMe (F:Fun K "_law_row_good" "_law_row_good" zB3 f fd) (zOs:FnB P w K mg base k "_law_head" g1 gd1 ["_law_tree"] zIk) (zOr:FnB P w K mg base k "_law_loud" g2 gd2 ["_law_tree"] (zCp 7)):FnOk P w K mg base CX0 (k+1) f fd ["_law_row", "_law_kind"] zIl:=by
 refine F.ok zCa (λ vs H Q E h=>?_) (λ cdv A outer s H vs Q E hr h=>?_)
 ·obtain⟨l,us,ts,rfl,_⟩:=h
  rfl
 obtain⟨l,us,ts,rfl,el,pu,⟨n1,n10⟩,hp,hb,q⟩:=h;have hu0:=Nat.lt_of_succ_lt (hu_of hr);have hu5:=hu150 hr
 refine⟨_,(zAE (zD8 (jj:=2) ["_law_tree", "_law_row"] [none,some 0] rfl (zAf (pv 0)) (λ Ω Ω Ω Ω Ω=>(zAc (i:=0) (show List.Nodup (["_law_tree", "_law_row"]:List Str) by symm) rfl (Or.inl rfl))) (λ Ω Ω Ω Ω Ω=>(zCS (pw_or (zAO op_eq (iC (r:=rIxT K) zAS (pv 0)) zAZ (zAY _)) (zCB (zAO (zNg hu5) (pe_cl zOs hr (zAB (pv 0) zAD)) (pe_cl zOs hr (zAB (iC (r:=rIxL K) zA0 (pv 1)) zAD)) (zAY _)))).pt)) (λ Ω Ω Ω Ω Ω=>(pv 0)) rfl zCa.nd rfl (Or.inl rfl) (Or.inr rfl))
  (zAE (ps_if (zAO (zFb hu0) (pv 2) (zAs zAD:PE _ _ _) (zAY _)) (zAF (zAU pe_bl)) zAV)
  (zAE (ps_if (zAO (zFb hu0) (zAk ["_law_tree"] [none] rfl (zAf (pv 0)) (λ Ω Ω Ω Ω Ω=>(zAc (i:=0) (show List.Nodup (["_law_tree"]:List Str) by symm) rfl (Or.inl rfl))) (λ Ω Ω Ω Ω Ω=>(zCS (zAO op_ne (iC (r:=rIxT K) zAS (pv 0)) zAZ (zAY _)))) (λ Ω Ω Ω Ω Ω=>(pv 0)) rfl) (zAs zAD:PE _ _ _) (zAY _)) (zAF (zAU (zA4 op_eq (pv 1) zAZ (zAY _)))) zAV)
  (zAE (ps_if (zAO (zFb hu0) (zAk ["_law_tree"] [none] rfl (zAf (pv 0)) (λ Ω Ω Ω Ω Ω=>(zAc (i:=0) (show List.Nodup (["_law_tree"]:List Str) by symm) rfl (Or.inl rfl))) (λ Ω Ω Ω Ω Ω=>(zCS (zBB (pe_cl zOr hr (zAB (pv 0) zAD))))) (λ Ω Ω Ω Ω Ω=>(pv 0)) rfl) (zAs zAD:PE _ _ _) (zAY _)) (zAF (zAU (zA4 op_eq (pv 1) zAZ (zAY _)))) zAV)
  (zAF (zAU (zA4 op_eq (pv 1) zAZ (zAY _)))))))),?_⟩
 have d0:0<=sizeLine:=by decide
 have lu:us.length=ts.length:=zAG pu;obtain⟨t0,e0⟩:∃t0,ts[0]?=some t0:=⟨_,lW (by omega)⟩;obtain⟨u0,eu0,r0⟩:=zBn pu e0;have p0:=(hp t0 (lM e0)).1;have atu:atI us 0=some u0:=zAQ (j:=0) eu0;refine⟨_,rfl,l,rfl,⟨us,SqL.of el⟩,λ acc hacc=>?_⟩;refine zAl (xs:=us) (λ j H'=>Same H H'/\∃zs:List V,H' acc=some (.lst zs)/\zs.length<=j/\(zs=[]->∀u∈ts.take j,¬u.kd = .name/\Hal u t0)) ⟨zAC hacc,[],zAA,lQ _,λ Ω u hu=>by simp at hu⟩ (λ j H' Ω h=>SqL.of (h.1 _ _ el)) ?_ ?_
 ·rintro j x Hx hxj ⟨gx,zs,ez,lz,hz⟩
  obtain⟨t,ht,rt⟩:=zAJ pu hxj;have hj:=(lJ.mp hxj).1;have hm:=lM ht;have pt:=(hp t hm).1;have rt':=rt.mono gx.tk;obtain⟨a0,hs0,us0,rfl,ha0,_,_⟩:=id rt'.all;have at0:atI (V.str t.kd.s::hs0++us0) 0=some (.str t.kd.s):=zAQ (j:=0) rfl;have put:∀Hy,Same Hx Hy->(Same H (upd Hy acc (.lst (zs++[.ref a0])))/\∃zs':List V,(upd Hy acc (.lst (zs++[.ref a0]))) acc=some (.lst zs')/\zs'.length<=j+1/\(zs'=[]->∀u∈ts.take (j+1),¬u.kd = .name/\Hal u t0)):=λ Hy gy=>⟨zAW (gx.trans gy) hacc,zs++[.ref a0],zAA,by simp;omega,λ z=>by simp at z⟩;refine⟨.skip (.keep .nil),_,rfl,a0,_,0,_,rfl,rfl,SqT.of ha0,at0,rfl,_,rfl,ite2 (λ c=>iteT ⟨_,rfl,zs,ez,zAK (by omega),put Hx (.refl _)⟩) (λ c=>?_)⟩;refine⟨_,rfl,t,.ref a0,rfl,rt',pt,λ p1 Hy gy dr1=>?_⟩;refine⟨_,rfl,l,us,0,_,rfl,rfl,SqL.of ((gx.trans gy) _ _ el),atu,t0,u0,rfl,r0.mono (gx.trans gy).tk,p0,λ p2 Hw gw dr2=>?_⟩;refine⟨_,_,dr1.mono gw.tk,dr2,zMt t,_,rfl,ite2 (λ c'=>⟨_,rfl,zs,(gy.trans gw) _ _ ez,zAK (by omega),put Hw (gy.trans gw)⟩) (λ c'=>?_)⟩;refine⟨gx.trans (gy.trans gw),zs,(gy.trans gw) _ _ ez,by omega,λ z u hu=>?_⟩;rw[zAL ht] at hu;rcases lK.mp hu with y|y
  ·exact hz z u y
  ·rw[mQ.mp y]
   refine⟨λ k=>c (lU (Kd.eq_iff (b:=.name).mpr k)),(zN0 pt p0).mp ?_⟩;rw[←Dt.beqs_iff];cases hbq:Dt.beqs (hdD t) (hdD t0) with
   |true=>rfl
   |false =>
    refine absurd ?_ c';show (if true=true then !Dt.beqs (hdD t) (hdD t0) else Dt.beqs (hdD t) (hdD t0))=true;rw[hbq];rfl
 rintro H1 ⟨g1,zs,ez,lz,hz⟩;rw[lu,mO] at hz;have zne:zs≠[]:=λ z=>hb ⟨t0,e0,(hz z t0 (lM e0)).1,λ u hu=>(hz z u hu).2.symm⟩;refine⟨_,rfl,d0,λ p1 hp1=>⟨acc,p1,zs,rfl,rfl,zAC hp1 _ _ ez,zAA,_,rfl,ite2 (λ c=>absurd (by simpa using c) zne) (λ Ω=>?_)⟩⟩;have g2:=g1.trans (zAC (o:=.lst []) hp1);generalize upd H1 p1 _=H2 at g2 ⊢;refine⟨_,rfl,l,rfl,⟨us,SqL.of (g2 _ _ el)⟩,λ ac2 hac2=>?_⟩;refine zAl (xs:=us) (λ j H'=>Same H2 H'/\∃zs:List V,H' ac2=some (.lst zs)/\zs.length<=j/\(zs=[]↔∀u∈ts.take j,u.kd = .num)) ⟨zAC hac2,[],zAA,lQ _,by simp⟩ (λ j H' Ω h=>SqL.of (h.1 _ _ (g2 _ _ el))) ?_ ?_
 ·rintro j x Hx hxj ⟨gx,zs,ez,lz,hz⟩
  obtain⟨t,ht,rt⟩:=zAJ pu hxj;have hj:=(lJ.mp hxj).1;obtain⟨a0,hs0,us0,rfl,ha0,_,_⟩:=id (rt.mono (g2.trans gx).tk).all;have at0:atI (V.str t.kd.s::hs0++us0) 0=some (.str t.kd.s):=zAQ (j:=0) rfl;refine⟨.skip .nil,_,rfl,a0,_,0,_,rfl,rfl,SqT.of ha0,at0,rfl,_,rfl,ite2 (λ c=>⟨_,rfl,zs,ez,zAK (by omega),zAW gx hac2,_,zAA,by simp;omega,?_⟩) (λ c=>⟨gx,zs,ez,by omega,?_⟩)⟩
  ·rw[zAL ht]
   refine⟨λ z=>by simp at z,λ z=>?_⟩;have:t.kd = .num:=z t (by simp);rw[this] at c;exact absurd c (by symm)
  ·have k:t.kd = .num:=by
    cases hk:decide (V.str t.kd.s=V.str "num") with
    |true=>exact Kd.eq_iff (b:=.num).mp (lT hk)
    |false=>rw[hk] at c;exact absurd rfl c
   rw[hz,zAL ht];constructor
   ·intro z u hu
    rcases lK.mp hu with y|y
    ·exact z u y
    ·rw[mQ.mp y];exact k
   ·exact λ z u hu=>z u (mF _ hu)
 rintro H3 ⟨g3,zs2,ez2,_,hz2⟩;rw[lu,mO] at hz2
 have eqQ:∀(x y:Str) (H':Hp),x=y->Same H H'->Q (.bl (decide (V.str x=V.str y))) H':=λ x y H' e g=>by
  rw[e,decide_eq_true rfl];exact q H' g
 refine⟨d0,λ p2 hp2=>⟨ac2,p2,zs2,rfl,rfl,zAC hp2 _ _ ez2,zAA,_,rfl,ite2 (λ c=>?_) (λ c=>?_)⟩⟩
 ·have al:=hz2.mp (by simpa using c)
  exact⟨_,rfl,rfl,eqQ _ _ _ (by rw[zFh al];rfl) (g2.trans (g3.trans (zAC hp2)))⟩
 have n1':¬∀t∈ts,t.kd = .num:=λ z=>c (by have:=hz2.mpr z;simp[this]);have g4:=g2.trans (g3.trans (zAC (o:=.lst []) hp2));generalize upd H3 p2 _=H4 at g4 ⊢;refine⟨_,rfl,l,rfl,⟨us,SqL.of (g4 _ _ el)⟩,λ ac3 hac3=>?_⟩;refine zAl (xs:=us) (λ j H'=>Same H4 H'/\∃zs:List V,H' ac3=some (.lst zs)/\zs.length<=j/\(zs=[]↔∀u∈ts.take j,¬loudT u)) ⟨zAC hac3,[],zAA,lQ _,by simp⟩ (λ j H' Ω h=>SqL.of (h.1 _ _ (g4 _ _ el))) ?_ ?_
 ·rintro j x Hx hxj ⟨gx,zs,ez,lz,hz⟩
  obtain⟨t,ht,rt⟩:=zAJ pu hxj;have hj:=(lJ.mp hxj).1;have hm:=lM ht;refine⟨.skip .nil,_,rfl,t,x,rfl,rt.mono (g4.trans gx).tk,(hp t hm).1,(hp t hm).2,λ z Hy gy hzl=>⟨_,rfl,ite2 (λ c=>⟨_,rfl,zs,gy _ _ ez,zAK (by omega),zAW (gx.trans gy) hac3,_,zAA,by simp;omega,?_⟩) (λ c=>⟨gx.trans gy,zs,gy _ _ ez,by omega,?_⟩)⟩⟩
  ·rw[zAL ht]
   refine⟨λ z=>by simp at z,λ y=>?_⟩;exact absurd (hzl.mp c) (y t (by simp))
  ·rw[hz,zAL ht]
   constructor
   ·intro y u hu
    rcases lK.mp hu with y'|y'
    ·exact y u y'
    ·rw[mQ.mp y'];exact λ k=>c (hzl.mpr k)
   ·exact λ y u hu=>y u (mF _ hu)
 rintro H5 ⟨g5,zs3,ez3,_,hz3⟩;rw[lu,mO] at hz3;refine⟨d0,λ p3 hp3=>⟨ac3,p3,zs3,rfl,rfl,zAC hp3 _ _ ez3,zAA,_,rfl,ite2 (λ c=>?_) (λ c=>?_)⟩⟩
 ·have al:=hz3.mp (by simpa using c)
  exact⟨_,rfl,rfl,eqQ _ _ _ (by rw[zDg n1' al];rfl) (g4.trans (g5.trans (zAC hp3)))⟩
 ·have nq:¬∀t∈ts,¬loudT t:=λ z=>c (by have:=hz3.mpr z;simp[this])
  exact⟨_,rfl,rfl,eqQ _ _ _ (by rw[zEg n1' nq];rfl) (g4.trans (g5.trans (zAC hp3)))⟩
abbrev zDB:Stmt:=top 62
theorem zDT:zAT ["_law_shape_here", "_law_tree", "_law_filling", "_law_one", "_law_other"] ["_law_shape_here", "_law_tree", "_law_filling"] (zAH zDB):=scI
def FitQ (d:Addr) (i:Nat) (ws:WS) (r:Tr) (kvs:List (Key × V)) (H:Hp) (Q:VK):Prop:=∀(kvs':List (Key × V)) (H':Hp),Sx d H H'->H' d=some (.dK kvs')->FD H' i ws kvs'->(∀g,HasG kvs g->HasG kvs' g)->(∀g,.gap g []∈r.subs->HasG kvs' g)->Q (.bl true) H'
def zE9 (n:Nat):Sp:=λ vs H Q Ω=>E9 λ(r u:Tr) (v1 v2:V) (d:Addr) (kvs:List (Key × V)) (ws:WS) (i:Nat) (row:List Tr)=>A12 (vs=[v1,v2,.ref d]) (Rep H r v1) (Rep H u v2) (Com ws row r) (row[i]?=some u) (∀t∈row,Pln t/\dpT t<=n) (WsN ws) (n<=100) (ws.length<=60) (H d=some (.dK kvs)) (FD H i ws kvs) (FitQ d i ws r kvs H Q)
theorem zNl (F:Fun K "_law_fit" "_law_fit" zDB f fd) (z_isinstance:mg "isinstance" = none) (z_tuple:mg "tuple" = none) (z_len:mg "len" = none) (z_zip:mg "zip" = none)
  (zOt:FnB P w K mg base k "_law_fit" f fd ["_law_shape_here", "_law_tree", "_law_filling"] (zE9 n)):FnOk P w K mg base CX0 (k+1) f fd ["_law_shape_here", "_law_tree", "_law_filling"] (zE9 (n+1)):=by
 refine F.ok zDT (λ vs H Q E h=>?_) (λ cdv A outer s H vs Q E hr h=>?_)
 ·obtain⟨r,u,v1,v2,d,kvs,ws,i,row,rfl,_⟩:=h
  rfl
 obtain⟨r,u,v1,v2,d,kvs,ws,i,row,rfl,r1,r2,hc,hu',hrow,hnd,hn,hwl,ed,hfd,q⟩:=h;have hu:=hu_of hr;have hu5:=hu150 hr
 refine⟨_,(zAE (ps_if (zAO op_eq (iC (r:=rIxT K) zAS (pv 0)) zAZ (zAY _)) (zAE (ps_if (zAO (zCi hu) (iC (r:=rIxT K) zAS (pv 0)) (pv 2) rfl) (zAF (zFY hu (pv 2) (iC (r:=rIxT K) zAS (pv 0)) (pv 1) rfl)) zAV)
  (zAF (zAU (zA4 (zLl hu5) (zDc hu (pv 2) (iC (r:=rIxT K) zAS (pv 0)) (λ Ω Ω=>rfl)) (pv 1) (zAY _))))) zAV)
  (zAE (ps_if (pw_or (zAO op_ne (iC (r:=rIxT K) zAS (pv 0)) (iC (r:=rIxT K) zAS (pv 1)) (zAY _)) (zCB (zAO op_ne (cL z_len (zAB (pv 0) zAD)) (cL z_len (zAB (pv 1) zAD)) (zAY _)))).pt (zAF (zAU pe_bl)) zAV)
  (zAE (zAv PassesOwn.never rfl (zNa (by rfl) z_zip (zAB (zAg zCZ (pv 0) (zAh zAI) zA7) (zAB (zAg zCZ (pv 1) (zAh zAI) zA7) zAD))) (zCh rfl (zAa (pGn (i:=3) zDT.nd) (zAa (pGn (i:=4) zDT.nd) zBP))) (zAF (ps_if (zCx (zBB (cI z_isinstance z_tuple rK (pv 3)))) (zAF (ps_if (zAO op_ne (pv 3) (pv 4) (zAY _)) (zAF (zAU pe_bl)) zAV)) (zAF (ps_if (zCx (zBB (pe_cl zOt hr (zAB (pv 3) (zAB (pv 4) (zAB (pv 2) zAD)))))) (zAF (zAU pe_bl)) zAV)))))
  (zAF (zAU pe_bl))))),?_⟩
 obtain⟨pu,du⟩:=hrow u (lM hu');have lk:=hfd.len;cases hc with
 | @gap _ g nb wo =>
  obtain⟨a,b,us,rfl,ha,hb,_,_⟩:=r1;have hin:=wo.mem;refine⟨_,rfl,a,_,0,_,rfl,rfl,SqT.of ha,rfl,rfl,_,rfl,ite2 (λ Ω=>?_) (λ c=>absurd (lU rfl) c)⟩;refine viaN λ N hN=>?_
  have fin:∀(kvs':List (Key × V)) (w:V) (H':Hp),Sx d H H'->H' d=some (.dK kvs')->FD H' i ws kvs'->(∀g,HasG kvs g->HasG kvs' g)->valV kvs' (Sum.inr g:Key)=some w->N [some (.ref a),some v2,some (.ref d),none,none] H':=λ kvs' w H' sx ed' fd' hk hv=>hN _ _ (by
   obtain⟨q',hq',e,t',et',rt'⟩:=fd'.al _ (zGh hv);have:q'=(row,g):=zFM hnd hq' hin (Sum.inr.inj e).symm;subst this;rw[hu'] at et';cases et';have tk:=sx.tkd ed;have dg:DGet H' d (.str g) (some w):=hv▸DGet.k (k:=Sum.inr g) ed';obtain⟨ds,eds⟩:=zM0 u;have dp:=zBT u pu;have dr1:=rt'.drP pu;have dr2:=(r2.mono tk).drP pu;rw[eds] at dr1 dr2 dp;refine⟨_,rfl,_,rfl,a,_,1,_,rfl,rfl,SqT.of (tk _ _ ha),rfl,d,w,rfl,dg,_,rfl,ds,ds,dr1,dr2,by omega,?_⟩;have:(if false=true then !Dt.beqs ds ds else Dt.beqs ds ds)=true:=Dt.beqs_iff.mpr rfl;rw[this];refine q kvs' H' sx ed' fd' hk λ g' hg'=>?_;rw[zA6] at hg';simp only[Tr.parts,List.flatMap_nil,nL,mZ,or_false] at hg';cases hg';exact⟨_,zGh hv,rfl⟩)
  cases hv:valV kvs (Sum.inr g:Key) with
  |some w =>
   have dg:DGet H d (.str g) (some w):=hv▸DGet.k (k:=Sum.inr g) ed;exact⟨_,rfl,a,_,1,_,rfl,rfl,SqT.of ha,rfl,_,rfl,d,_,rfl,dg,_,rfl,iteF (fin kvs w H (.of (.refl _)) ed hfd (λ Ω z=>z) hv)⟩
  |none =>
   have dg:DGet H d (.str g) none:=hv▸DGet.k (k:=Sum.inr g) ed;refine⟨_,rfl,a,_,1,_,rfl,rfl,SqT.of ha,rfl,_,rfl,d,_,rfl,dg,_,rfl,iteT ?_⟩;refine⟨_,rfl,_,rfl,_,rfl,a,_,1,_,rfl,rfl,SqT.of ha,rfl,d,_,rfl,DPut.k (k:=Sum.inr g) ed (zAK (by omega)),?_⟩;have ep:=zKW (v:=v2) hv;rw[ep];have k1:Tk H (upd H d (.dK (kvs++[((Sum.inr g:Key),v2)]))):=Tk.dk ed;refine fin _ v2 _ ((Sx.of (.refl _)).own) zAA ((hfd.put hv hin hu' r2).mono k1) (λ g' ⟨p,hp,e⟩=>⟨p,mF _ hp,e⟩) ?_;unfold valV at hv ⊢;rw[Option.map_eq_none_iff] at hv;rw[List.find?_append,hv];simp
 | @beg _ t rs hb ht hl k =>
  obtain⟨t0,e0,nn,hal⟩:=id hb;rw[ht] at e0;cases e0;have ptp:=(hrow t (lM ht)).1;have hH:=hal u (lM hu');have ekd:(t.withP rs).kd=u.kd:=by rw[zHD hl,hH.1]
  have ng:¬(t.withP rs).kd = .gap:=by rw[ekd];exact pu.ng
  have nl:¬(t.withP rs).kd = .lett:=by rw[ekd];exact pu.nl
  have esg:(t.withP rs).sign=u.sign:=by unfold Tr.sign;rw[ekd]
  have epr:(t.withP rs).parts=rs:=zCy hl;obtain⟨a,ys,rfl,ha,hca⟩:=id (r1.tpl ng nl);obtain⟨b,zs,rfl,hb',hcb⟩:=id (r2.tpl pu.ng pu.nl);have at0:atI (V.str (t.withP rs).kd.s::ys) 0=some (.str (t.withP rs).kd.s):=zAQ (j:=0) rfl;have at1:atI (V.str u.kd.s::zs) 0=some (.str u.kd.s):=zAQ (j:=0) rfl
  have both:(∃y,ys=[y]/\zs=[y]/\rs=[]/\((∃i,y = .int i)\/∃x,y = .str x))\/(Paired (Rep H) rs ys/\Paired (Rep H) u.parts zs/\ys.length=rs.length/\zs.length=rs.length):=by
   by_cases hlf:u.kd.leaf=true
   ·have htl:t.kd.leaf=true:=by rw[hH.1];exact hlf
    have etu:t=u:=hH.2 htl;subst etu
    have tp:t.parts=[]:=by
     cases t with
     |bin o a b=>cases o<;>cases htl
     |say a=>cases htl
     |ite a b c=>cases htl
     |lett x a b=>cases htl
     |_=>rfl
    have r0:rs=[]:=nJ.mp (by rw[hl,tp];rfl);subst r0
    have ew:t.withP []=t:=by
     cases t with
     |bin o a b=>cases o<;>cases htl
     |say a=>cases htl
     |ite a b c=>cases htl
     |lett x a b=>cases htl
     |_=>rfl
    rw[ew] at r1 ha hca;rcases hca with ⟨_,y,rfl,hy⟩|⟨_,_,z⟩
    ·rcases hcb with ⟨_,z,rfl,_⟩|⟨_,_,z⟩
     ·have:=zJO ptp r1 r2 ha hb' htl
      subst this;exact .inl ⟨y,rfl,rfl,rfl,hy⟩
     ·exact absurd htl z
    ·exact absurd htl z
   ·rcases hca with ⟨pe,_⟩|⟨pa,_,_⟩
    ·rw[epr] at pe
     have:t.parts=[]:=nJ.mp (by rw[←hl,pe];rfl);have hl1:=zD9 t;rw[this,hH.1] at hl1;cases u with
     |bin o a b=>cases o<;>cases hl1
     |say a=>cases hl1
     |ite a b c=>cases hl1
     |lett x a b=>cases hl1
     |_=>exact absurd rfl hlf
    ·rcases hcb with ⟨pe,_⟩|⟨pb,_,_⟩
     ·have hl1:=zD9 u
      rw[pe] at hl1;cases u with
      |bin o a b=>cases o<;>cases hl1
      |say a=>cases hl1
      |ite a b c=>cases hl1
      |lett x a b=>cases hl1
      |_=>exact absurd rfl hlf
     ·rw[epr] at pa
      exact .inr ⟨pa,pb,zAG pa,by rw[zAG pb,zCE hH,hl]⟩
  have lyz:ys.length=zs.length:=by
   rcases both with ⟨y,rfl,rfl,_⟩|⟨_,_,h1,h2⟩
   ·rfl
   ·omega
  refine⟨_,rfl,a,_,0,_,rfl,rfl,SqT.of ha,at0,rfl,_,rfl,ite2 (λ c=>absurd (Kd.eq_iff.mp (lT c)) ng) (λ Ω=>?_)⟩;refine⟨_,rfl,a,_,0,_,rfl,rfl,SqT.of ha,at0,_,rfl,b,_,0,_,rfl,rfl,SqT.of hb',at1,rfl,_,rfl,ite2 (λ c=>absurd c (by rw[ekd];simp)) (λ Ω=>?_)⟩;refine⟨_,rfl,a,_,rfl,.inr (SqT.of ha),_,rfl,b,_,rfl,.inr (SqT.of hb'),rfl,_,rfl,ite2 (λ c=>absurd c (by simp[lyz])) (λ Ω=>?_)⟩;refine⟨_,rfl,_,rfl,a,_,rfl,ha,zCj _ _,λ p1 H1 g1 e1=>?_⟩;rw[zEq] at e1;refine⟨_,rfl,_,rfl,b,_,rfl,g1 _ _ hb',zCj _ _,λ p2 H2 g2 e2=>?_⟩;rw[zEq] at e2;have gA:=g1.trans g2;have ed2:=gA _ _ ed;have e1':=g2 _ _ e1;refine⟨p1,p2,ys,zs,rfl,e1',e2,?_⟩
  refine zMv (xs:=ys) (ys:=zs) (λ j σ' H'=>E3 λ(s3 s4:Option V) (kv:List (Key × V))=>A6 (σ'=[some (.ref a),some (.ref b),some (.ref d),s3,s4]) (Sx d H2 H') (H' d=some (.dK kv)) (FD H' i ws kv) (∀g,HasG kvs g->HasG kv g) (∀x∈rs.take j,∀g,.gap g []∈x.subs->HasG kv g)) ⟨none,none,kvs,rfl,.of (.refl _),ed2,hfd.mono gA.tk,λ Ω z=>z,(λ x hx=>by simp at hx)⟩ (λ j σ' H' _ h=>by
   obtain⟨s3,s4,kv,_,sx,_⟩:=h;exact⟨sx.tkd ed2 _ _ e1',sx.tkd ed2 _ _ e2⟩) ?_ ?_
  ·rintro j x y T σ' H' hx hy ⟨s3,s4,kv,rfl,sx,edj,fdj,hk,hg⟩ hT
   have gT:=zAC (o:=.tup [x,y]) hT;have ndT:d≠T:=zAN edj hT;refine⟨T,_,rfl,SqT.of zAA,rfl,_,_,rfl,_,_,rfl,rfl,?_⟩;have sxT:=sx.same gT;have edT:=gT _ _ edj;have fdT:=fdj.mono gT.tk;generalize upd H' T _=H3 at sxT edT fdT ⊢;rcases both with ⟨y0,rfl,rfl,rfl,hy0⟩|⟨pa,pb,l1,l2⟩
   ·have j0:j=0:=by have:=(lJ.mp hx).1;simp at this;exact this
    subst j0;cases hx;cases hy;rcases hy0 with ⟨z,rfl⟩|⟨z,rfl⟩
    ·exact⟨_,rfl,.int z, "tuple", _,false,rfl,.int z,rfl,_,rfl,iteT ⟨_,rfl,_,rfl,rfl,_,rfl,ite2 (λ c=>absurd c (by simp)) (λ Ω=>⟨_,_,kv,rfl,sxT,edT,fdT,hk,(λ x hx=>by simp at hx)⟩)⟩⟩
    ·exact⟨_,rfl,.str z, "tuple", _,false,rfl,.str z,rfl,_,rfl,iteT ⟨_,rfl,_,rfl,rfl,_,rfl,ite2 (λ c=>absurd c (by simp)) (λ Ω=>⟨_,_,kv,rfl,sxT,edT,fdT,hk,(λ x hx=>by simp at hx)⟩)⟩⟩
   ·have tk3:=gA.tk.trans (sxT.tkd ed2)
    obtain⟨rj,erj,rrj⟩:=zAJ pa hx;obtain⟨uj,euj,ruj⟩:=zAJ pb hy;have hj:j<rs.length:=(lJ.mp erj).1;obtain⟨rw',x',erw,ex',eri⟩:=zIr hb ht hu' (j:=j) (by omega);rw[euj] at ex';cases ex';obtain⟨c,hs',us',rfl,hcb',_,_⟩:=id (rrj.mono tk3).all;refine⟨_,rfl,.ref c, "tuple", _,true,rfl,.tup hcb',rfl,_,rfl,iteF ?_⟩;refine⟨_,rfl,_,rfl,_,rfl,rj,uj,.ref c,y,d,kv,ws,i,rw',rfl,rrj.mono tk3,ruj.mono tk3,k j rw' rj erw erj,eri,λ z hz=>?_,hnd,by omega,hwl,edT,fdT,λ kv' H4 sx4 ed4 fd4 hk4 hg4=>⟨_,rfl,iteF ⟨_,_,kv',rfl,sxT.trans sx4,ed4,fd4,λ g z=>hk4 g (hk g z),λ z hz g hg'=>?_⟩⟩⟩
    ·unfold rowsW at erw
     rw[ht,mJ,List.getElem?_range (by simpa using (show j<t.parts.length by omega))] at erw;cases erw;obtain⟨z',hz',ez⟩:=List.mem_filterMap.mp hz;have hm:=lM ez;obtain⟨w1,w2⟩:=hrow z' hz';have:=zDk hm;exact⟨w1.part hm,by omega⟩
    ·rw[zAL erj] at hz
     rcases lK.mp hz with w|w
     ·exact hk4 g (hg z w g hg')
     ·rw[mQ.mp w] at hg'
      exact hg4 g hg'
  ·rintro σ' H' ⟨s3,s4,kv,rfl,sx,edj,fdj,hk,hg⟩
   refine q kv H' ((Sx.of gA).trans sx) edj fdj hk λ g hg'=>?_;rw[zA6,epr] at hg';rcases lN.mp hg' with z|z
   ·have:=congrArg Tr.kd z
    exact absurd this.symm ng
   ·obtain⟨x,hx,hg2⟩:=mW.mp z
    refine hg x ?_ g hg2
    have:rs.length<=min ys.length zs.length:=by
     rcases both with ⟨y,rfl,rfl,rfl,_⟩|⟨_,_,h1,h2⟩
     ·simp
     ·omega
    rw[mU this];exact hx
theorem zNn {k:Nat}{f:Addr}{fd:FuncData}:FnOk P w K mg base CX0 k f fd ["_law_shape_here", "_law_tree", "_law_filling"] (zE9 0):=by
 have no:∀vs H Q E,¬zE9 0 vs H Q E:=λ vs H Q E h=>by
  obtain⟨r,u,v1,v2,d,kvs,ws,i,row,_,_,_,_,h1,h2,_⟩:=h;have:=(h2 u (lM h1)).2;have:=zFp u;omega
 exact⟨λ vs H Q E h=>(no _ _ _ _ h).elim,λ A outer s H args us vs Q E Ω Ω Ω Ω h=>(no _ _ _ _ h).elim⟩
theorem zJ9 (F:Fun K "_law_fit" "_law_fit" zDB f fd) (b:Binds K fd ["_law_shape_here", "_law_tree", "_law_filling"] []) (m:mg "_law_fit" = some (.ref f)) (z_isinstance:mg "isinstance" = none) (z_tuple:mg "tuple" = none) (z_len:mg "len" = none) (z_zip:mg "zip" = none) :
  ∀n:Nat,FnB P w K mg base (k+n) "_law_fit" f fd ["_law_shape_here", "_law_tree", "_law_filling"] (zE9 n)
 |0=>⟨zNn,b,F.kp,m⟩
 |n+1=>⟨zNl F z_isinstance z_tuple z_len z_zip (zJ9 F b m z_isinstance z_tuple z_len z_zip n),b,F.kp,m⟩
abbrev zDW:Stmt:=top 66
theorem zAx:zAT ["_law_rule", "_law_pairs", "_law_fillings_here", "_law_before", "_law_behind", "_law_filling", "_law_kinds", "_law_rows", "_law_gap", "_law_row"] ["_law_rule", "_law_pairs"] (zAH zDW):=scI
def zHO:Sp:=λ vs H Q Ω=>E12 λ(p l:Addr) (x y z:V) (us:List V) (ps qs:List (Tr × Tr)) (t u:Tr) (ks:List (Str × Str)) (ws:WS)=>A11 (vs=[.ref p,.ref l]) (H p=some (.tup [x,y,z])) (Rep H t x) (Rep H u y) (RpKs H ks z) (RdW qs t u ks ws) (H l=some (.lst us)) (Paired (PrR H) ps us) (TkP ps qs) (qs.length<=8/\∀q∈qs,(Pln q.1/\dpT q.1<=7)/\Pln q.2/\dpT q.2<=7) (∀H',Same H H'->Q (.bl true) H')
set_option tactic.hygienic true in
theorem zKo (F:Fun K "_law_told" "_law_told" zDW f fd) (z_isinstance:mg "isinstance" = none) (z_tuple:mg "tuple" = none) (z_len:mg "len" = none) (z_dict:mg "dict" = none) (z_sorted:mg "sorted" = none)
  (zOt:FnB P w K mg base k "_law_fit" g1 gd1 ["_law_shape_here", "_law_tree", "_law_filling"] (zE9 7)) (zOu:FnB P w K mg base k "_law_row_good" g2 gd2 ["_law_row", "_law_kind"] zIl):FnOk P w K mg base CX0 (k+1) f fd ["_law_rule", "_law_pairs"] zHO:=by
 refine F.ok zAx (λ vs H Q E h=>?_) (λ cdv A outer s H vs Q E hr h=>?_)
 ·obtain⟨p,l,x,y,z,us,ps,qs,t,u,ks,ws,rfl,_⟩:=h
  rfl
 obtain⟨p,l,x,y,z,us,ps,qs,t,u,ks,ws,rfl,hp,rt,ru,rk,hW,el,pu,tk,⟨hq8,hqp⟩,q⟩:=h;have hu:=hu_of hr;have hu0:=Nat.lt_of_succ_lt (hu_of hr);have hu5:=hu150 hr
 refine⟨_,(zAE (ps_if (pw_or (zCx (zBB (cI z_isinstance z_tuple rK (pv 0)))) (zCB (zAO op_ne (cL z_len (zAB (pv 0) zAD)) zAI (zAY _)))).pt (zAF (zAU pe_bl)) zAV)
  (zAE (zGC (i:=2) zAx.nd rfl (Or.inr rfl) (zAs zAD:PE _ _ _))
  (zAE (zAv PassesOwn.never rfl (zAf (pv 1)) (zCh rfl (zAa (pGn (i:=3) zAx.nd) (zAa (pGn (i:=4) zAx.nd) zBP))) (zAE (pS (i:=5) zAx.nd zDD)
  (zAE (ps_if (pw_or (zCx (zBB (pe_cl zOt hr (zAB (iC (r:=rIxT K) zAS (pv 0)) (zAB (pv 3) (zAB (pv 5) zAD)))))) (zCB (zCx (zBB (pe_cl zOt hr (zAB (iC (r:=rIxT K) zAS (pv 0)) (zAB (pv 4) (zAB (pv 5) zAD)))))))).pt (zAF (zAU pe_bl)) zAV)
  (zAF (pAp (pv 2) (pv 5))))))
  (zAE (pS (i:=6) zAx.nd (zBG (zDo rfl) (by rfl) z_dict PyProof.Rows.boot_dict (zAB (iC (r:=rIxT K) zAS (pv 0)) zAD)))
  (zAE (pS (i:=7) zAx.nd (zAs zAD:PE _ _ _))
  (zAE (zAv PassesOwn.never rfl (zAf (zAt (zD1 rfl) (by rfl) z_sorted PyProof.Rows.boot_sorted (zAB (iC (r:=rIxL K) zA0 (pv 2)) zAD))) (zAc (i:=8) zAx.nd rfl (Or.inr rfl)) (zAE (zD8 (jj:=9) ["_law_filling", "_law_gap"] [none,some 8] rfl (zAf (pv 2)) (λ Ω Ω Ω Ω Ω=>(zAc (i:=0) (show List.Nodup (["_law_filling", "_law_gap"]:List Str) by symm) rfl (Or.inl rfl))) (λ Ω Ω Ω Ω Ω=>zBF) (λ Ω Ω Ω Ω Ω=>(zDc hu (pv 0) (pv 1) (λ Ω Ω=>rfl))) rfl zAx.nd rfl (Or.inl rfl) (Or.inr rfl))
  (zAE (ps_if (pw_or (zAO (zMV hu5) (pv 9) (pv 7) rfl) (zCB (zCx (zBB (pe_cl zOu hr (zAB (pv 9) (zAB (zKf hu (pv 6) (pv 8) zAZ ⟨rfl,rfl,rfl,rfl⟩) zAD))))))).pt (zAF (zAU pe_bl)) zAV)
  (zAF (pAp (pv 7) (pv 9))))))
  (zAF (zAU (zA4 (zFb hu0) (zAk ["_law_gap", "_law_fillings_here"] [none,some 2] rfl (zI0 (pv 6)) (λ Ω Ω Ω Ω Ω=>(zAc (i:=0) (show List.Nodup (["_law_gap", "_law_fillings_here"]:List Str) by symm) rfl (Or.inl rfl))) (λ Ω Ω Ω Ω Ω=>(zCS (zAO (zCi hu) (pv 0) (iC (r:=rIxL K) zA0 (pv 1)) rfl))) (λ Ω Ω Ω Ω Ω=>(pv 0)) rfl) (zAs zAD:PE _ _ _) (zAY _)))))))))),?_⟩
 have d0:0<=sizeLine:=by decide
 have hrows:=hW.rows hqp;have lu:us.length=ps.length:=zAG pu;have n1:=tk.hn;have n8:=tk.h3;have wl:=hW.ln;refine⟨_,rfl,.ref p, "tuple", _,true,rfl,.tup hp,rfl,_,rfl,iteF ⟨_,rfl,p,_,rfl,.inr (SqT.of hp),rfl,_,rfl,ite2 (λ c=>absurd c (by simp)) (λ Ω=>?_)⟩⟩;refine⟨d0,λ fl hfl=>?_⟩;have g0:=zAC (o:=.lst []) hfl;refine⟨_,rfl,l,rfl,⟨us,SqL.of (g0 _ _ el)⟩,?_⟩;refine zA1 (xs:=us) (λ i σ' H'=>E4 λ(s3 s4 s5:Option V) (ds:List Addr)=>A5 (σ'=[some (.ref p),some (.ref l),some (.ref fl),s3,s4,s5,none,none,none,none]) (Same H H') (H' fl=some (.lst (ds.map V.ref))) (ds.length=i) (FilR H' ws ds)) ⟨none,none,none,[],rfl,g0,zAA,rfl,(λ j d e=>by simp at e)⟩ ?_ ?_ ?_
 ·rintro i σ' H' _ ⟨s3,s4,s5,ds,rfl,g,_⟩
  exact SqL.of (g _ _ el)
 ·rintro i v σ' H' hv ⟨s3,s4,s5,ds,rfl,g,ef,ld,hF⟩
  obtain⟨pq,epq,pa,va,vb,rfl,hpa,ra,rb⟩:=zAJ pu hv;have hi:=(lJ.mp epq).1;have eq':qs[i]?=some pq:=by rw[tk.h1 i hi];exact epq
  refine⟨pa,_,rfl,SqT.of (g _ _ hpa),rfl,_,_,rfl,_,_,rfl,rfl,?_⟩;refine λ d hd=>?_;have g1:=zAC (o:=.dK []) hd;have gA:=g.trans g1;have e1:=@zAA H' d (.dK []);have hF1:=hF.mono g1;have ef1:=g1 _ _ ef;have hdH:H d=none:=g.free hd;have ndf:fl≠d:=zAN ef hd
  have nds:∀j e,ds[j]?=some e->e≠d:=λ j e he z=>by
   obtain⟨kv,h1,_⟩:=hF j e he;rw[z,hd] at h1;cases h1
  generalize upd H' d _=H1 at g1 gA e1 hF1 ef1 ⊢;refine⟨_,rfl,p,_,0,_,rfl,rfl,SqT.of (gA _ _ hp),rfl,_,rfl,_,rfl,t,pq.1,x,va,d,[],ws,i,qs.map (·.1),rfl,rt.mono gA.tk,ra.mono gA.tk,hW.c1,by rw[mJ,eq'];rfl,λ w hw=>?_,hW.nd,by decide,wl,e1,⟨List.nodup_nil,(λ kv hk=>nomatch hk)⟩,λ kv1 H2 sx2 ed2 fd2 Ω hg2=>⟨_,rfl,iteF ?_⟩⟩
  ·obtain⟨q',hq',rfl⟩:=mC.mp hw
   exact(hqp q' hq').1
  have sA:Sx d H H2:=(Sx.of gA).trans sx2;have tkA:Tk H H2:=gA.tk.trans (sx2.tkd e1);refine⟨_,rfl,p,_,1,_,rfl,rfl,SqT.of (tkA _ _ hp),rfl,_,rfl,_,rfl,u,pq.2,y,vb,d,kv1,ws,i,qs.map (·.2),rfl,ru.mono tkA,rb.mono tkA,hW.c2,by rw[mJ,eq'];rfl,λ w hw=>?_,hW.nd,by decide,wl,ed2,fd2,λ kv2 H3 sx3 ed3 fd3 hk3 hg3=>⟨_,rfl,iteF ?_⟩⟩
  ·obtain⟨q',hq',rfl⟩:=mC.mp hw
   exact(hqp q' hq').2
  have ef3:=(sx2.trans sx3) _ _ ndf ef1;have k4:Tk H3 (upd H3 fl (.lst (ds.map V.ref++[.ref d]))):=Tk.lst ef3;have sxA:Sx d H H3:=sA.trans sx3;refine⟨_,rfl,.inl ⟨rfl,_,SqL.of ef3⟩,_,rfl,fl,_,_,rfl,rfl,ef3,zAK (by rw[mD];omega),_,_,_,ds++[d],rfl,zAW (λ b o e=>sxA b o (λ z=>by rw[z,hdH] at e;cases e) e) hfl,by rw[zAA,mP];rfl,by simp[ld],λ j e he=>?_⟩
  by_cases hj:j<ds.length
  ·rw[mS hj] at he
   obtain⟨kv,h1,h2,h3⟩:=hF1 j e he;have h1':=(sx2.trans sx3) _ _ (nds j e he) h1;refine⟨kv,?_,(h2.mono ((sx2.tkd e1).trans (sx3.tkd ed2))).mono k4,h3⟩;rw[zAR (λ z=>by rw[z,ef3] at h1';cases h1')];exact h1'
  ·have hj2:j=ds.length:=by
    have:=(lJ.mp he).1;simp at this;omega
   subst hj2;have ee:e=d:=by simpa using he.symm
   subst ee;refine⟨kv2,by rw[zAR (Ne.symm ndf)];exact ed3,by rw[ld];exact fd3.mono k4,λ q' hq'=>?_⟩;rcases hW.us q' hq' with z|z
   ·exact hk3 _ (hg2 _ z)
   ·exact hg3 _ z
 rintro σ' H1 ⟨s3,s4,s5,ds,rfl,g1,ef,ld,hF⟩;rw[lu] at ld;obtain⟨dz,eds0⟩:∃d,ds[0]?=some d:=⟨_,lW (by omega)⟩;obtain⟨kv0,ed0,fd0,hg0⟩:=hF 0 dz eds0;obtain⟨pz,o,kus,rfl,hpz,hod,pk⟩:=rk.mono g1;have lk:kus.length=ks.length:=zAG pk
 have lkw:ks.length<=60:=by
  have:=(zCD ws).length_le;rw[mD,mD] at this;rw[hW.kp.length_eq];omega
 refine⟨_,rfl,p,_,2,_,rfl,rfl,SqT.of (g1 _ _ hp),rfl,pz,o,kus,kdV ks,rfl,hpz,hod,zJQ pk,by unfold kdV;rw[mD];omega,λ kd hkd=>?_⟩;refine⟨d0,λ rl hrl=>?_⟩;have g2:=zAC (o:=.dK (zBC [] (kdV ks))) hkd;have g3:=zAC (o:=.lst []) hrl;have g03:=g1.trans (g2.trans g3);have hF3:=hF.mono (g2.trans g3);have ef3:=(g2.trans g3) _ _ ef;have ekd3:(upd (upd H1 kd (.dK (zBC [] (kdV ks)))) rl (.lst [])) kd=some (.dK (zBC [] (kdV ks))):=g3 _ _ zAA;have erl3:=@zAA (upd H1 kd (.dK (zBC [] (kdV ks)))) rl (.lst []);have ed3:=(g2.trans g3) _ _ ed0;have hkdH:H kd=none:=g1.free hkd;have nrf:fl≠rl:=zAN (g2 _ _ ef) hrl;have hrlH:H rl=none:=(g1.trans g2).free hrl;have fd3:=fd0.mono (g2.trans g3).tk;dsimp only[gName];generalize upd (upd H1 kd _) rl _=H3 at g03 hF3 ef3 ekd3 erl3 ed3 fd3 ⊢;clear g2 g3;have at0:atI (ds.map V.ref) 0=some (.ref dz):=zAQ (j:=0) (by rw[mJ,eds0];rfl);have hks:=zLD (kvs:=kv0) λ kv hk=>let ⟨q',_,e,_⟩:=fd0.al kv hk;⟨_,e⟩;have l0:=fd0.len;refine⟨_,rfl,fl,_,0,_,rfl,rfl,SqL.of ef3,at0,dz,kv0,kv0.map λ kv=>keyS kv.1,rfl,ed3,hks,by rw[mD];omega,λ sl ss hsl perm Ω=>?_⟩;have g4:=zAC (o:=.lst (ss.map V.str)) hsl
 have gss:∀g∈ss,∃q∈ws,q.2=g:=λ g hg=>by
  obtain⟨kv,hk,rfl⟩:=mC.mp (perm.mem_iff.mp hg);obtain⟨q',hq',e,_⟩:=fd0.al kv hk;exact⟨q',hq',by rw[e];rfl⟩
 have nss:ss.Nodup:=by
  rw[perm.nodup_iff];have:=fd0.nd;rw[hks] at this;exact(List.pairwise_map.mp this).imp λ h e=>h (by rw[e])
 have ls60:ss.length<=60:=by rw[perm.length_eq,mD];omega
 have esl4:=@zAA H3 sl (.lst (ss.map V.str));have g04:=g03.trans g4;have hF4:=hF3.mono g4;have ef4:=g4 _ _ ef3;have ekd4:=g4 _ _ ekd3;have erl4:=g4 _ _ erl3;have ed4:=g4 _ _ ed3;have nsr:sl≠rl:=λ e=>by rw[e,erl3] at hsl;cases hsl
 have hp4:=g04 _ _ hp;generalize upd H3 sl _=H4 at g04 hF4 ef4 ekd4 erl4 ed4 esl4 hp4 ⊢;have fd4:=fd3.mono g4.tk;clear g4;have sxk:∀{H':Hp},Sx rl H4 H'->Tk H4 H':=λ{H'} sx b xs e=>sx b _ (λ z=>by rw[z,erl4] at e;cases e) e;have sxd:∀{H':Hp}{b:Addr}{kv:List (Key × V)},Sx rl H4 H'->H4 b=some (.dK kv)->H' b=some (.dK kv):=λ{H' b kv} sx e=>sx b _ (λ z=>by rw[z,erl4] at e;cases e) e;refine⟨sl,rfl,⟨_,SqL.of esl4⟩,?_⟩;refine zA1 (xs:=ss.map V.str) (λ i σ' H'=>E3 λ(s8 s9:Option V) (ls:List V)=>A4 (σ'=[some (.ref p),some (.ref l),some (.ref fl),s3,s4,s5,some (.ref kd),some (.ref rl),s8,s9]) (Sx rl H4 H') (H' rl=some (.lst ls)) (Paired (RwK H' ws ps.length rl) (ss.take i) ls)) ⟨none,none,[],rfl,.of (.refl _),erl4,.nil⟩ ?_ ?_ ?_
 ·rintro i σ' H' _ ⟨s8,s9,ls,rfl,sx,_⟩
  exact SqL.of (sx _ _ nsr esl4)
 ·rintro i v σ' H' hv ⟨s8,s9,ls,rfl,sx,erl,pl⟩
  rw[mJ] at hv;obtain⟨g,eg,rfl⟩:=lV.mp hv;have hi:=(lJ.mp eg).1;obtain⟨⟨ρ,g'⟩,hq,rfl⟩:=gss g (lM eg);have tk':=sxk sx;have prw:=hrows _ hq;have lρ:=prw.ln;dsimp only at prw lρ;have lls:ls.length<=60:=by rw[zAG pl,mN];omega
  have efl:=sx _ _ nrf ef4;refine⟨_,rfl,fl,rfl,⟨_,SqL.of efl⟩,λ acc hacc=>?_⟩;refine zAl (xs:=ds.map V.ref) (λ j H2=>Same H' H2/\∃ys:List V,H2 acc=some (.lst ys)/\ys.length=j/\Paired (Rep H2) (ρ.take j) ys) ⟨zAC hacc,[],zAA,rfl,.nil⟩ (λ j H2 Ω h=>SqL.of (h.1 _ _ efl)) ?_ ?_
  ·rintro j v H2 hv ⟨gj,ys,ey,ly,py⟩
   rw[mJ] at hv;obtain⟨d,ed,rfl⟩:=lV.mp hv;have hj:=(lJ.mp ed).1;obtain⟨kv,h1,h2,h3⟩:=hF4 j d ed;obtain⟨w,tw,ev,etw,rw'⟩:=zN2 h2 hW.nd hq (h3 _ hq);have dg:DGet H2 d (.str g') (some w):=ev▸DGet.k (k:=Sum.inr g') (gj _ _ (sxd sx h1));refine⟨.skip (.keep .nil),_,rfl,_,rfl,d,w,rfl,dg,ys,ey,zAK (by omega),zAW gj hacc,ys++[w],zAA,by simp[ly],?_⟩;rw[zAL etw];exact zAM (Paired.mapP py λ Ω Ω z=>z.mono (Tk.lst ey)) (.cons ((rw'.mono (tk'.trans gj.tk)).mono (Tk.lst ey)) .nil)
  ·rintro H2 ⟨g2,ys,ey,ly,py⟩
   rw[mD,ld] at ly py;have pln:∀t∈ρ.take ps.length,Pln t/\dpT t<=7:=λ t ht=>prw.pl t (nD ht);obtain⟨dr,_⟩:=zJo py pln;have erl2:=g2 _ _ erl;have pl2:Paired (RwK H2 ws ps.length rl) (ss.take i) ls:=Paired.mapP pl λ Ω Ω z=>z.sx g2.tk (.of g2);have lt:(ρ.take ps.length).length=ps.length:=by rw[mN];omega
   refine⟨_,rfl,_,rfl,acc,rl,ys,ls,_,rfl,ey,dr,rfl,erl2,λ v hv=>?_,_,rfl,iteF ?_⟩
   ·obtain⟨jv,hjv⟩:=List.getElem?_of_mem hv
    obtain⟨g2',eg2,a,ys2,ρ2,hq2,rfl,ne,ha,py2⟩:=zAJ pl2 hjv;have prw2:=hrows _ hq2;dsimp only at prw2;obtain⟨dr2,dp2⟩:=zJo py2 λ t ht=>prw2.pl t (nD ht);have lρ2:=prw2.ln;refine⟨a,ys2,_,rfl,ha,dr2,λ z=>?_,by rw[mD,mD,mN,mN];omega,dp2⟩;have e1:=zGQ (a:=ρ2.take ps.length) (b:=ρ.take ps.length) (λ t ht=>(prw2.pl t (nD ht)).1) (λ t ht=>(pln t ht).1) (by unfold dtRow;rw[z]);have e2:=tk.inj prw2 prw e1;subst e2
    have e3:g2'=g':=by
     obtain⟨i1,h1,x1⟩:=List.mem_iff_getElem.mp hq2;obtain⟨i2,h2,x2⟩:=List.mem_iff_getElem.mp hq;have:i1=i2:=(List.getElem_inj (xs:=ws.map (·.1)) (h₀:=by simpa using h1) (h₁:=by simpa using h2) hW.nd.r).mp (by simp[x1,x2]);subst this;rw[x1] at x2;exact congrArg Prod.snd x2
    subst e3;rw[nW] at eg2;split at eg2
    ·rename_i hji
     have:=(List.getElem_inj (xs:=ss) (h₀:=(lJ.mp eg2).1) (h₁:=hi) nss).mp (by rw[(List.getElem?_eq_some_iff.mp eg2).2,(List.getElem?_eq_some_iff.mp eg).2]);omega
    ·cases eg2
   have ekd2:=g2 _ _ (sxd sx ekd4);refine⟨_,rfl,_,rfl,kd,rfl,.inl ⟨_,.inl ekd2⟩,_,rfl,_,DGet.k (k:=Sum.inr g') ekd2,acc,ys,ρ.take ps.length,?_,ey,py,⟨by omega,by omega⟩,pln,λ b=>hW.nb _ hq (tk.beg prw b),λ H5 g5=>⟨_,rfl,iteF ?_⟩⟩
   ·have nk:(ks.map (·.1)).Nodup:=((hW.kp.map (·.1)).nodup_iff).mpr (hW.nd.w.sublist (zCD ws))
    have:=zGL hW.nd hW.kp nk hq;rw[this,zIM λ t=>tk.mem prw];rfl
   ·have erl5:=g5 _ _ erl2
    have nar:acc≠rl:=λ z=>by rw[z,erl] at hacc;cases hacc
    have k6:Tk H5 (upd H5 rl (.lst (ls++[.ref acc]))):=Tk.lst erl5;have sx6:Sx rl H5 (upd H5 rl (.lst (ls++[.ref acc]))):=(Sx.of (.refl _)).own;refine⟨_,rfl,.inl ⟨rfl,_,SqL.of erl5⟩,_,rfl,rl,ls,_,rfl,rfl,erl5,zAK (by omega),_,_,ls++[.ref acc],rfl,((sx.same g2).same g5).trans sx6,zAA,?_⟩;rw[zAL eg];exact zAM (Paired.mapP pl2 λ Ω Ω z=>(z.sx g5.tk (.of g5)).sx k6 sx6) (.cons ⟨acc,ys,ρ,hq,rfl,nar,sx6 _ _ nar (g5 _ _ ey),Paired.mapP py λ Ω Ω z=>z.mono (g5.tk.trans k6)⟩ .nil)
 ·rintro σ' H' ⟨s8,s9,ls,rfl,sx,erl,pl⟩
  have ekd':=sxd sx ekd4;have efl:=sx _ _ nrf ef4;have ed':=sxd sx ed4;have nkf:fl≠kd:=λ z=>by rw[z,ekd'] at efl;cases efl
  have sH:Same H H':=λ b o e=>sx b o (λ z=>by rw[z,hrlH] at e;cases e) (g04 b o e);refine⟨_,rfl,kd,_,rfl,.inr ⟨ekd',λ o acc hacc=>?_⟩⟩
  have hacc0:H' acc=none:=by
   rw[zAR (λ z=>by rw[z,zAA] at hacc;cases hacc)] at hacc;exact hacc
  have nak:kd≠acc:=zAN ekd' hacc0
  have hgk:∀kv∈zBC [] (kdV ks),∃w,kv.1=(Sum.inr w:Key)/\HasG kv0 w:=λ kv hk=>by
   rcases zJK hk with z|z
   ·cases z
   ·obtain⟨kv',hk',e⟩:=mC.mp z
    obtain⟨k0,hk0,rfl⟩:=mC.mp hk';have:k0.1∈(ksOf ws).map (·.1):=mC.mpr ⟨k0,hW.kp.mem_iff.mp hk0,rfl⟩;obtain⟨q',hq',eq'⟩:=mC.mp ((zCD ws).subset this);exact⟨k0.1,e.symm,by rw[←eq'];exact hg0 q' hq'⟩
  refine zDl (λ i H2=>Sx kd H' H2/\H2 kd=some (.frz o (.dK (zBC [] (kdV ks))))/\H2 acc=some (.lst [])) ⟨((Sx.of (.refl _)).own).set hacc0,by rw[zAR nak];exact zAA,zAA⟩ (λ i H2 Ω h=>h.2.1) ?_ ?_
  ·rintro i kv H2 hkv ⟨sx2,e2,ea⟩
   obtain⟨w,ew,p0,hp0,ep0⟩:=hgk kv (lM hkv);have efl2:=sx2 _ _ nkf efl
   have edz:H2 dz=some (.dK kv0):=by
    have:=sxd sx ed4
    by_cases c:dz=kd
    ·exfalso
     rw[c] at ed0;rw[ed0] at hkd;cases hkd
    ·exact sx2 _ _ c this
   cases hv:valV kv0 (Sum.inr w:Key) with
   |none=>exact absurd ep0 (zD5 hv p0 hp0)
   |some v0 =>
    have dg:DGet H2 dz (kV kv.1) (some v0):=by rw[ew];exact hv▸DGet.k (k:=Sum.inr w) edz
    exact⟨.skip (.keep .nil),_,rfl,_,rfl,fl,_,0,_,rfl,rfl,SqL.of efl2,at0,dz,_,rfl,dg,_,rfl,iteF ⟨sx2,e2,ea⟩⟩
  ·rintro H2 ⟨sx2,e2,ea⟩
   refine⟨d0,λ e he=>⟨acc,e,[],rfl,rfl,zAC he _ _ ea,zAA,?_⟩⟩;refine q _ (λ b ob eb=>zAC he _ _ (sx2 b ob (λ z=>by rw[z,hkdH] at eb;cases eb) (sH b ob eb)))
abbrev zB4:Stmt:=top 67
theorem zAm:zAT ["_law_script", "_law_marks", "_law_cell", "_law_fillings_here", "_law_k", "_law_filling", "_law_j", "_law_kind"] ["_law_script", "_law_marks", "_law_cell"] (zAH zB4):=scI
def zHW (K:W.Frag):Sp:=λ vs H Q Ω=>E5 λ(a ml:Addr) (ns:List Int) (ms:List Str) (c:Int)=>A5 (vs=[.ref a,.ref ml,.int c]) (SqL K H a (ns.map V.int)) (H ml=some (.lst (ms.map V.str))) (1<=ms.length/\ms.length<=5)
 (∀(l:Addr) (ds:List Addr) (H':Hp),Same H H'->H' l=some (.lst (ds.map V.ref))->1<=ds.length->ds.length<=8->FGs H H' ms ds->Q (.ref l) H')
theorem zKy (F:Fun K "_law_fillings" "_law_fillings" zB4 f fd) (z_range:mg "range" = none) (z_len:mg "len" = none) (zOv:FnB P w K mg base k "_law_cell_at" g1 gd1 ["_law_script", "_law_k"] (zDR K)) (zOw:FnB P w K mg base k "_law_piece" g2 gd2 ["_law_cell", "_law_kind"] zHM):FnOk P w K mg base CX0 (k+1) f fd ["_law_script", "_law_marks", "_law_cell"] (zHW K):=by
 refine F.ok zAm (λ vs H Q E h=>?_) (λ cdv A outer s H vs Q E hr h=>?_)
 ·obtain⟨a,ml,ns,ms,c,rfl,_⟩:=h
  rfl
 obtain⟨a,ml,ns,ms,c,rfl,hS,em,⟨m1,m5⟩,q⟩:=h;have hu:=hu_of hr
 refine⟨_,(zAE (pS (i:=3) zAm.nd (zAs zAD:PE _ _ _))
  (zAE (zAv PassesOwn.never rfl (zEW (by rfl) z_range (zAB (pe_op zEb zAI (pe_op zAu (pv 2) zAI)) zAD)) (pGn (i:=4) zAm.nd) (zAE (pS (i:=5) zAm.nd zDD)
  (zAE (zAv PassesOwn.never rfl (zEW (by rfl) z_range (zAB (cL z_len (zAB (pv 1) zAD)) zAD)) (pGn (i:=6) zAm.nd) (zAE (pS (i:=7) zAm.nd (pe_op zAu (pe_op zA5 (pv 2) (pe_op zGH zAI (pe_op zEb (pe_op zGH (pv 6) (pv 6)) zAI))) zAI))
  (zAF (zFY hu (pv 5) (pe_ix (r:=rIxL K) zA0 (pv 1) (pv 6) (λ Ω Ω=>rfl)) (pe_cl zOw hr (zAB (pe_cl zOv hr (zAB (pv 0) (zAB (pe_op zEb (pe_op zEb zAI (pe_op zGH zAI (pv 4))) (pv 6)) zAD))) (zAB (pv 7) zAD))) rfl))))
  (zAF (pAp (pv 3) (pv 5))))))
  (zAE (ps_if (zDu (zAO op_gt (cL z_len (zAB (pv 1) zAD)) zAI (zAY _)) (zCg (zAO op_gt (pe_op zAu (pe_op zA5 (pv 2) zAI) zAI) zAI (zAY _)))).pt (zAF (zAv PassesOwn.never rfl (zAf (zAg (r:=rSlL K) zBf (pv 3) (zAh (pe_op zGG (pe_op zAu (pe_op zA5 (pv 2) zAI) zAI) zAI)) zA7)) (pGn (i:=5) zAm.nd) (zAF (zFY hu (pv 5) (iC (r:=rIxL K) zA0 (pv 1)) (zDc hu (pv 5) (iC (r:=rIxL K) zA0 (pv 1)) (λ Ω Ω=>rfl)) rfl)))) zAV)
  (zAF (zAU (pv 3)))))),?_⟩
 have d0:0<=sizeLine:=by decide
 have hml:(ms.map V.str).length=ms.length:=mD _;refine⟨d0,λ fl hfl=>?_⟩;have g0:=zAC (o:=.lst []) hfl;refine⟨_,rfl,_,_,rfl,rfl,(show (0:Int)<8 by decide),_,_,rfl,rfl,1+c % 8,rfl,by omega,by omega,?_⟩;refine zGO (n:=(1+c % 8).toNat) (λ i σ' H'=>E5 λ(s4 s5 s6 s7:Option V) (ds:List Addr)=>A5 (σ'=[some (.ref a),some (.ref ml),some (.int c),some (.ref fl),s4,s5,s6,s7]) (Same H H') (H' fl=some (.lst (ds.map V.ref))) (ds.length=i) (FGs H H' ms ds)) ⟨none,none,none,none,[],rfl,g0,zAA,rfl,(λ d hd=>nomatch hd)⟩ ?_ ?_
 ·rintro i σ' H' hi ⟨s4,s5,s6,s7,ds,rfl,g,ef,ld,hG⟩
  refine λ d hd=>?_;have g1:=zAC (o:=.dK []) hd;have ed1:=@zAA H' d (.dK []);have gA:=g.trans g1;have hdH:H d=none:=g.free hd;have ef1:=g1 _ _ ef;have ndf:fl≠d:=zAN ef hd;have hG1:FGs H (upd H' d (.dK [])) ms ds:=λ e he=>let ⟨n0,kv,φ,h1,h2,h3⟩:=hG e he;⟨n0,kv,φ,g1 _ _ h1,h2,λ x hx=>let ⟨p1,v,ev,rv⟩:=h3 x hx;⟨p1,v,ev,rv.mono g1.tk⟩⟩
  have nds:∀e∈ds,e≠d:=λ e he z=>by
   obtain⟨_,kv,φ,h1,_⟩:=hG e he;rw[z,hd] at h1;cases h1
  dsimp only[gName];generalize upd H' d _=H1 at g1 ed1 gA ef1 hG1 ⊢;refine⟨_,rfl,ml,_,rfl,.inl (SqL.of (gA _ _ em)),((ms.map V.str).length:Int),rfl,by rw[hml];omega,by rw[hml];omega,?_⟩;refine zGO (n:=((ms.map V.str).length:Int).toNat) (λ j σ' H2=>E4 λ(s6 s7:Option V) (kvs:List (Key × V)) (φ:Str->Tr)=>A4 (σ'=[some (.ref a),some (.ref ml),some (.int c),some (.ref fl),some (.int (0+(i:Int))),some (.ref d),s6,s7]) (Sx d H1 H2) (FG H2 (ms.take j) d kvs φ) (kvs.length<=j)) ⟨s6,s7,[],λ Ω=>.num 0,rfl,.of (.refl _),⟨ed1,by decide,λ g hg=>by simp at hg⟩,lQ _⟩ ?_ ?_
  ·rintro j σ' H2 hj ⟨s6,s7,kvs,φ,rfl,sx,fg,lk⟩
   rw[hml,Int.toNat_natCast] at hj;have j5:(j:Int)<=4:=by omega
   have jj:(0+(j:Int)) * (0+(j:Int))<=16:=by
    rcases (show j=0\/j=1\/j=2\/j=3\/j=4 by omega) with rfl|rfl|rfl|rfl|rfl<;>decide
   have jj0:0<=(0+(j:Int)) * (0+(j:Int)):=by
    rcases (show j=0\/j=1\/j=2\/j=3\/j=4 by omega) with rfl|rfl|rfl|rfl|rfl<;>decide
   refine⟨_,rfl,_,rfl,_,rfl,_,_,rfl,rfl,.inl ⟨by omega,by omega⟩,_,_,rfl,rfl,_,_,rfl,rfl,.inl ⟨by decide,by decide⟩,_,_,rfl,rfl,⟨by omega,by omega⟩,_,_,rfl,rfl,(show (0:Int)<4 by decide),?_⟩;dsimp only[gName];generalize hk:c / (8 * ((0+(j:Int)) * (0+(j:Int))+1)) % 4=kd;have k0:0<=kd:=by omega
   have k4:kd<4:=by omega
   have sH:=Sx.out gA hdH sx;refine⟨_,rfl,_,rfl,_,_,rfl,rfl,.inl ⟨by decide,by decide⟩,_,_,rfl,rfl,_,rfl,_,_,rfl,rfl,a,ns,_,rfl,sH.seq hS,by omega,λ i1=>⟨_,rfl,i1,kd,rfl,k0,k4,λ t v H3 g3 r3 p3=>?_⟩⟩;have eg:ms[j]?=some ms[j]:=lW hj;have at_:atI (ms.map V.str) (0+(j:Int))=some (.str ms[j]):=by rw[Int.zero_add];exact zEG hj
   have ed3:=g3 _ _ fg.ed;obtain⟨lp,_⟩:=zHl kvs (Sum.inr ms[j]:Key) v;have k4':Tk H3 (upd H3 d (.dK (putK kvs (Sum.inr ms[j]:Key) v))):=Tk.dk ed3;refine⟨_,rfl,_,rfl,_,rfl,ml,_,_,_,rfl,rfl,SqL.of ((sH.trans g3) _ _ em),at_,d,_,rfl,DPut.k (k:=Sum.inr ms[j]) ed3 (zAK (by omega)),?_⟩;refine⟨_,_,putK kvs (Sum.inr ms[j]:Key) v,λ x=>if x=ms[j] then t else φ x,rfl,(sx.same g3).own,?_,by omega⟩;rw[zAL eg];exact(fg.put (g3.tk.trans k4') zAA (by omega) p3 (r3.mono k4'))
  ·rintro σ' H2 ⟨s6,s7,kvs,φ,rfl,sx,fg,lk⟩
   rw[hml,Int.toNat_natCast,mO] at fg;have ef2:=sx _ _ ndf ef1;have sH:=Sx.out gA hdH sx;have tk2:Tk H1 H2:=sx.tkd ed1;have k3:Tk H2 (upd H2 fl (.lst (ds.map V.ref++[.ref d]))):=Tk.lst ef2;refine⟨_,rfl,.inl ⟨rfl,_,SqL.of ef2⟩,_,rfl,fl,_,_,rfl,rfl,ef2,zAK (by rw[mD];omega),_,_,_,_,ds++[d],rfl,zAW sH hfl,by rw[zAA,mP];rfl,by simp[ld],λ e he=>?_⟩;rcases lK.mp he with z|z
   ·obtain⟨n0,kv,ψ,h1,h2,h3⟩:=hG1 e z
    have h1':=sx _ _ (nds e z) h1;refine⟨n0,kv,ψ,?_,h2,λ x hx=>let ⟨p1,v,ev,rv⟩:=h3 x hx;⟨p1,v,ev,rv.mono (tk2.trans k3)⟩⟩;rw[zAR (λ y=>by rw[y,ef2] at h1';cases h1')];exact h1'
   ·rw[mQ.mp z]
    exact⟨hdH,kvs,φ,by rw[zAR (Ne.symm ndf)];exact fg.ed,fg.ln,λ x hx=>let ⟨p1,v,ev,rv⟩:=fg.al x hx;⟨p1,v,ev,rv.mono k3⟩⟩
 ·rintro σ' H1 ⟨s4,s5,s6,s7,ds,rfl,g1,ef,ld,hG⟩
  have l1:1<=ds.length:=by omega
  have l8:ds.length<=8:=by omega
  dsimp only;refine viaN λ N hN=>?_;have fin:∀(s5:Option V) (H2:Hp),Same H H2->H2 fl=some (.lst (ds.map V.ref))->FGs H H2 ms ds->N [some (.ref a),some (.ref ml),some (.int c),some (.ref fl),s4,s5,s6,s7] H2:=λ s5 H2 g2 e2 h2=>hN _ _ ⟨_,rfl,q fl ds H2 g2 e2 l1 l8 h2⟩;refine⟨_,rfl,ml,_,rfl,.inl (SqL.of (g1 _ _ em)),_,_,rfl,rfl,_,rfl,ite2 (λ c1=>⟨_,rfl,_,_,rfl,rfl,⟨(show (0:Int)<8 by decide),(show (8:Int)<1073741824 by decide)⟩,_,_,rfl,rfl,(show (0:Int)<3 by decide),_,_,rfl,rfl,_,rfl,ite2 (λ c2=>?_) (λ Ω=>fin s5 H1 g1 ef hG)⟩) (λ Ω=>iteF (fin s5 H1 g1 ef hG))⟩
  have m2:1<ms.length:=by
   have:=lT c1;rw[hml] at this;omega
  refine⟨_,rfl,_,rfl,_,_,rfl,rfl,⟨(show (0:Int)<8 by decide),(show (8:Int)<1073741824 by decide)⟩,_,_,rfl,rfl,(show (0:Int)<3 by decide),_,_,rfl,rfl,_,rfl,fl,_,rfl,SqL.of ef,λ p hp=>?_⟩;have g2:=zAC (o:=.lst (cutV (ds.map V.ref) (some (c / 8 % 3 - 1)) none)) hp
  have cm:∀v∈cutV (ds.map V.ref) (some (c / 8 % 3 - 1)) none,∃d∈ds,v = .ref d:=λ v hv=>by
   unfold cutV at hv;have:=List.mem_of_mem_drop (nD hv);obtain⟨d,hd,e⟩:=mC.mp this;exact⟨d,hd,e.symm⟩
  have ep:=@zAA H1 p (.lst (cutV (ds.map V.ref) (some (c / 8 % 3 - 1)) none));have ef2:=g2 _ _ ef;have hG2:FGs H (upd H1 p (.lst (cutV (ds.map V.ref) (some (c / 8 % 3 - 1)) none))) ms ds:=λ e he=>let ⟨n0,kv,φ,h1,h2,h3⟩:=hG e he;⟨n0,kv,φ,g2 _ _ h1,h2,λ x hx=>let ⟨p1,v,ev,rv⟩:=h3 x hx;⟨p1,v,ev,rv.mono g2.tk⟩⟩;have g02:=g1.trans g2;generalize cutV (ds.map V.ref) (some (c / 8 % 3 - 1)) none=vs at g2 cm ep ef2 hG2 g02 ⊢;generalize upd H1 p _=H2 at g2 ep ef2 hG2 g02 ⊢;refine⟨p,rfl,⟨vs,SqL.of ep⟩,?_⟩;refine zA1 (xs:=vs) (λ i σ' H'=>∃(s5:Option V),A5 (σ'=[some (.ref a),some (.ref ml),some (.int c),some (.ref fl),s4,s5,s6,s7]) (Same H H') (H' p=some (.lst vs)) (H' fl=some (.lst (ds.map V.ref))) (FGs H H' ms ds)) ⟨s5,rfl,g02,ep,ef2,hG2⟩ ?_ ?_ ?_
  ·rintro i σ' H' _ ⟨s5,rfl,_,e,_⟩
   exact SqL.of e
  ·rintro i v σ' H' hv ⟨s5,rfl,g,epp,eff,hGG⟩
   obtain⟨d,hd,rfl⟩:=cm v (lM hv);obtain⟨n0,kvs,φ,fg⟩:=hGG d hd;have h0:0<ms.length:=by omega
   obtain⟨p1,v1,ev1,rv1⟩:=fg.al ms[1] (List.getElem_mem m2);obtain⟨_,v0,ev0,_⟩:=fg.al ms[0] (List.getElem_mem h0);have at0:atI (ms.map V.str) 0=some (.str ms[0]):=zEG (j:=0) h0;have at1:atI (ms.map V.str) 1=some (.str ms[1]):=zEG (j:=1) m2;have dg:DGet H' d (.str ms[1]) (some v1):=ev1▸DGet.k (k:=Sum.inr ms[1]) fg.ed;obtain⟨_,lp⟩:=zHl kvs (Sum.inr ms[0]:Key) v1;have lp':=lp (by rw[ev0];rfl);have lk:=fg.ln;have k4':Tk H' (upd H' d (.dK (putK kvs (Sum.inr ms[0]:Key) v1))):=Tk.dk fg.ed;have ndp:p≠d:=λ z=>by rw[z,fg.ed] at epp;cases epp
   have ndf:fl≠d:=λ z=>by rw[z,fg.ed] at eff;cases eff
   refine⟨_,rfl,_,rfl,ml,_,_,_,rfl,rfl,SqL.of (g _ _ em),at1,d,v1,rfl,dg,_,rfl,_,rfl,ml,_,_,_,rfl,rfl,SqL.of (g _ _ em),at0,d,_,rfl,DPut.k (k:=Sum.inr ms[0]) fg.ed (zAK (by omega)),?_⟩;refine⟨_,rfl,zAW g n0,by rw[zAR ndp];exact epp,by rw[zAR ndf];exact eff,λ e he=>?_⟩
   by_cases ce:e=d
   ·subst ce
    have:=fg.put (g:=ms[0]) (v:=v1) k4' zAA (by omega) p1 (rv1.mono k4');exact⟨n0,_,_,this.ed,this.ln,λ x hx=>this.al x (mF _ hx)⟩
   ·obtain⟨n0',kv,ψ,h1,h2,h3⟩:=hGG e he
    exact⟨n0',kv,ψ,by rw[zAR ce];exact h1,h2,λ x hx=>let ⟨p1,v,ev,rv⟩:=h3 x hx;⟨p1,v,ev,rv.mono k4'⟩⟩
  ·rintro σ' H' ⟨s5,rfl,g,epp,eff,hGG⟩
   exact fin s5 H' g eff hGG
abbrev s_law:Stmt:=top 68
theorem zCb:zAT ["_law_script", "_law_cell", "_law_marks", "_law_left", "_law_known", "_law_right", "_law_pairs", "_law_filling", "_law_handed", "_law_rule"] ["_law_script"] (zAH s_law):=scI
def zHR (K:W.Frag):Sp:=λ vs H Q Ω=>E2 λ(a:Addr) (ns:List Int)=>A3 (vs=[.ref a]) (SqL K H a (ns.map V.int)) (∀H',Q (.bl true) H')
theorem zNj (F:Fun K "law" "law" s_law f fd) (z_len:mg "len" = none) (z_list:mg "list" = none)
  (zOv:FnB P w K mg base k "_law_cell_at" g1 gd1 ["_law_script", "_law_k"] (zDR K)) (zOn:FnB P w K mg base k "_law_shape" g2 gd2 ["_law_cells", "_law_deep", "_law_marks"] (zCn K 5)) (zOo:FnB P w K mg base k "_law_gaps" g3 gd3 ["_law_shape_here"] (zDP 7)) (zOx:FnB P w K mg base k "_law_fillings" g4 gd4 ["_law_script", "_law_marks", "_law_cell"] (zHW K)) (zOq:FnB P w K mg base k "_law_filled" g5 gd5 ["_law_shape_here", "_law_filling"] (zCq 7)) (zOy:FnB P w K mg base k "_law_told" g6 gd6 ["_law_rule", "_law_pairs"] zHO) (zOz:FnB P w K mg base k "read_off" g7 gd7 ["pairs"] zIg) :
  FnOk P w K mg base CX0 (k+1) f fd ["_law_script"] (zHR K):=by
 refine F.ok zCb (λ vs H Q E h=>?_) (λ cdv A outer s H vs Q E hr h=>?_)
 ·obtain⟨a,ns,rfl,_⟩:=h
  rfl
 obtain⟨a,ns,rfl,hS,qf⟩:=h;have hu:=hu_of hr;have hu0:=Nat.lt_of_succ_lt (hu_of hr)
 refine zNM ⟨_,(zAX (pSS (i:=1) zCb.nd (zBv zOv.ok hr (by rfl) zOv.gl zOv.kp zOv.bd .nil pass0 (pa_nS ⟨pv 0⟩ (zAP ⟨zAI⟩ ⟨zAD⟩))))
  (zAX (pSS (i:=2) zCb.nd ⟨zAg (r:=rSlL K) zBf (zFa [.str "a", .str "x", .str "many", .str "z", .str "g"] (by rfl):PE _ _ _) zA7 (zAh (pe_op zEb zAI (pe_op zAu (pe_op zA5 (pv 1) zAI) zAI)))⟩)
  (zAX (pSS (i:=3) zCb.nd (zA8 (pa_cS ⟨zAZ⟩ (pa_kS (zBv zOn.ok hr (by rfl) zOn.gl zOn.kp zOn.bd .nil pass0 (zAP ⟨zAg (r:=rSlL K) zBf (pv 0) (zAh zAI) (zAh zAI)⟩ (zAP ⟨zAI⟩ (pa_nS ⟨pv 2⟩ ⟨zAD⟩)))) (pa_kS (zBv zOn.ok hr (by rfl) zOn.gl zOn.kp zOn.bd .nil pass0 (zAP ⟨zAg (r:=rSlL K) zBf (pv 0) (zAh zAI) (zAh zAI)⟩ (zAP ⟨zAI⟩ (pa_nS ⟨pv 2⟩ ⟨zAD⟩)))) ⟨zAD⟩)))))
  (zAX (pSS (i:=4) zCb.nd (zBv zOo.ok hr (by rfl) zOo.gl zOo.kp zOo.bd .nil pass0 (pa_nS ⟨pv 3⟩ ⟨zAD⟩)))
  (zAX (pSS (i:=5) zCb.nd (zA8 (pa_cS ⟨zAZ⟩ (zAP ⟨zAI⟩ ⟨zAD⟩))))
  (zAX (zBl ⟨zAO (zMU hu0) (pv 4) (zAs zAD:PE _ _ _) (zAY _)⟩ (zAj (pSS (i:=5) zCb.nd (zBv zOn.ok hr (by rfl) zOn.gl zOn.kp zOn.bd .nil pass0 (zAP ⟨zAg (r:=rSlL K) zBf (pv 0) (zAh zAI) (zAh zAI)⟩ (zAP ⟨zAI⟩ (pa_nS ⟨pv 4⟩ ⟨zAD⟩)))))) ⟨zAV⟩)
  (zAX (pSS (i:=6) zCb.nd (zDb ⟨zAD⟩))
  (zAX ⟨zAv PassesOwn.never rfl (zAf (pe_cl zOx hr (zAB (pv 0) (zAB (pv 2) (zAB (pe_cl zOv hr (zAB (pv 0) (zAB zAI zAD))) zAD))))) (pGn (i:=7) zCb.nd) (zAF (pAp (pv 6) (zBQ (zAB (pe_cl zOq hr (zAB (pv 3) (zAB (pv 7) zAD))) (zAB (pe_cl zOq hr (zAB (pv 5) (zAB (pv 7) zAD))) zAD)):PE _ _ _)))⟩
  (zAX (pSS (i:=8) zCb.nd (zIC zGW (by rfl) z_list PyProof.Rows.boot_list (pa_nS ⟨pv 6⟩ ⟨zAD⟩)))
  (zAX (pSS (i:=9) zCb.nd (zBv zOz.ok hr (by rfl) zOz.gl zOz.kp zOz.bd .nil pass0 (pa_nS ⟨pv 8⟩ ⟨zAD⟩)))
  (zAX (zBl ⟨(pw_or (zCx (zBB (pe_cl zOy hr (zAB (pv 9) (zAB (pv 6) zAD))))) (zCB (zAO (zMT hu0) (pv 8) (pv 6) (zAY _)))).pt⟩ (zAj (zA3 ⟨pe_bl⟩)) ⟨zAV⟩)
  (zAX (zBl ⟨zAO op_gt (cL z_len (zAB (pv 6) zAD)) zAI (zAY _)⟩ (zAj (zBl ⟨(pw_or (zCx (zBB (pe_cl zOy hr (zAB (pe_cl zOz hr (zAB (zAg (r:=rSlL K) zBf (pv 6) (zAh zAI) zA7) zAD)) (zAB (zAg (r:=rSlL K) zBf (pv 6) (zAh zAI) zA7) zAD))))) (zCB (zCx (zBB (pe_cl zOy hr (zAB (pv 9) (zAB (pv 6) zAD))))))).pt⟩ (zAj (zA3 ⟨pe_bl⟩)) ⟨zAV⟩)) ⟨zAV⟩)
  (zAX (zBl ⟨zAO op_eq (cL z_len (zAB (pv 6) zAD)) zAI (zAY _)⟩ (zAj (zA3 ⟨pe_bl⟩)) ⟨zAV⟩)
  (zAj (zA3 (zBv zOy.ok hr (by rfl) zOy.gl zOy.kp zOy.bd .nil pass0 (pa_kS (zBv zOz.ok hr (by rfl) zOz.gl zOz.kp zOz.bd .nil pass0 (pa_bS (zNd zI6 ⟨pv 6⟩ ⟨zAg (r:=rSlL K) zBf (pv 6) zA7 (zAh zAI)⟩) ⟨zAD⟩)) (pa_nS ⟨pv 6⟩ ⟨zAD⟩)))))))))))))))))),?_⟩
 have d0:0<=sizeLine:=by decide
 have d2:2<=sizeLine:=by decide
 have d3:3<=sizeLine:=by decide
 refine⟨_,rfl,a,ns,0,rfl,hS,by decide,λ C=>?_⟩;refine⟨(by show 5<=sizeLine;decide),λ p0 hp0=>⟨_,rfl,_,_,rfl,rfl,⟨(show (0:Int)<8 by decide),(show (8:Int)<1073741824 by decide)⟩,_,_,rfl,rfl,(show (0:Int)<5 by decide),_,_,rfl,rfl,_,rfl,p0,_,rfl,SqL.of zAA,λ ml hml=>?_⟩⟩
 obtain⟨ms,ems,lm1,lm5⟩:∃ms:List Str,cutV [V.str "a", V.str "x", V.str "many", V.str "z", V.str "g"] none (some (1+C / 8 % 5))=ms.map V.str/\1<=ms.length/\ms.length<=5:=by
  obtain⟨j,ej,hj⟩:=zG4 (c:=C / 8) (n:=5) (by decide);refine⟨(["a", "x", "many", "z", "g"]:List Str).take (j+1),?_,?_,?_⟩
  ·have e:(1+C / 8 % 5)=((j+1:Nat):Int):=by
    have:C / 8 % 5=(j:Int):=ej;omega
   rw[e];unfold cutV;rw[HT.sIx_nat,HT.sIx_none,List.drop_zero,Nat.sub_zero];rcases (show j=0\/j=1\/j=2\/j=3\/j=4 by omega) with rfl|rfl|rfl|rfl|rfl<;>rfl
  ·rw[mN];show 1<=min (j+1) 5;omega
  ·rw[mN];show min (j+1) 5<=5;omega
 rw[ems];have g1:=(zAC (o:=.lst [V.str "a", V.str "x", V.str "many", V.str "z", V.str "g"]) hp0).trans (zAC (o:=.lst (ms.map V.str)) hml);have em1:=@zAA (upd H p0 (.lst [V.str "a", V.str "x", V.str "many", V.str "z", V.str "g"])) ml (.lst (ms.map V.str));dsimp only[gName];generalize upd (upd H p0 _) ml _=H1 at g1 em1 ⊢;obtain⟨n1,c1,k1⟩:=cutN (ns:=ns) 2 8 (by decide);obtain⟨n2,c2,k2⟩:=cutN (ns:=ns) 8 13 (by decide);obtain⟨n3,c3,k3⟩:=cutN (ns:=ns) 13 17 (by decide);refine⟨_,rfl,_,rfl,_,rfl,a,_,rfl,g1.seq hS,λ q1 hq1=>?_⟩;have c1':cutV (ns.map V.int) (some 2) (some 8)=n1.map V.int:=c1;have c2':cutV (ns.map V.int) (some 8) (some 13)=n2.map V.int:=c2;have c3':cutV (ns.map V.int) (some 13) (some 17)=n3.map V.int:=c3;rw[c1'];have g2:=zAC (o:=.lst (n1.map V.int)) hq1;refine⟨_,rfl,q1,ml,n1,4,ms,rfl,SqL.of zAA,by omega,by decide,by decide,by decide,⟨g2 _ _ em1,lm1⟩,λ A1 vA H2 g3 rA sA=>?_⟩;have g13:=g1.trans (g2.trans g3);have em2:=(g2.trans g3) _ _ em1;refine⟨_,rfl,_,rfl,_,rfl,a,_,rfl,g13.seq hS,λ q2 hq2=>?_⟩;rw[c2'];have g4:=zAC (o:=.lst (n2.map V.int)) hq2;refine⟨_,rfl,q2,ml,n2,4,ms,rfl,SqL.of zAA,by omega,by decide,by decide,by decide,⟨g4 _ _ em2,lm1⟩,λ B1 vB H3 g5 rB sB=>⟨d3,λ lp hlp=>?_⟩⟩;have g6:=zAC (o:=.tup [.str "add", vA,vB]) hlp;have gL:=g4.trans (g5.trans g6);have em4:=gL _ _ em2;have rL:Rep (upd H3 lp (.tup [.str "add", vA,vB])) (.bin .add A1 B1) (.ref lp):=⟨lp,vA,vB,rfl,zAA,rA.mono gL.tk,rB.mono g6.tk⟩;have g04:=g13.trans gL;generalize upd H3 lp _=H4 at gL em4 rL g04 ⊢;have fa:=fb4 n1.length (by omega);have fb:=fb4 n2.length (by omega);have x1:=sA.fs;have x2:=sB.fs;have y1:=sA.fl;have y2:=sB.fl;have z1:=sA.dp;have z2:=sB.dp;have t4:(4:Int).toNat=4:=rfl;rw[t4] at x1 x2 y1 y2;have sL:Shp (.bin .add A1 B1):=⟨sA.hs,sB.hs⟩;have bL:dpT (.bin .add A1 B1)<=6/\fsN (.bin .add A1 B1)<=57/\flN (.bin .add A1 B1)<=40:=⟨by simp only[dpT];omega,by simp only[fsN];omega,by simp only[flN];omega⟩
 have glL:∀g∈gpS (.bin .add A1 B1),g∈ms:=λ g hg=>by
  rcases lK.mp hg with z|z
  ·exact sA.gp g z
  ·exact sB.gp g z
 have szL:=zKO sL;have lb:∃A B,Tr.bin .add A1 B1 = .bin .add A B:=⟨_,_,rfl⟩;obtain⟨L,hL⟩:∃L,Tr.bin .add A1 B1=L:=⟨_,rfl⟩;rw[hL] at rL sL bL glL szL lb;clear hL x1 x2 y1 y2 z1 z2 rA rB;refine⟨_,rfl,L,.ref lp,rfl,rL,sL,by omega,by omega,λ kl H5 g7 hkl ekl=>?_⟩;refine⟨d2,λ rp hrp=>?_⟩;have g8:=zAC (o:=.tup [.str "num", .int 7]) hrp;have g06:=g04.trans (g7.trans g8);have em6:=(g7.trans g8) _ _ em4;have rL6:=rL.mono (g7.trans g8).tk;have ekl6:=g8 _ _ ekl;have rR6:Rep (upd H5 rp (.tup [.str "num", .int 7])) (.num 7) (.ref rp):=⟨rp,rfl,zAA⟩;dsimp only[gName];generalize upd H5 rp _=H6 at g8 g06 em6 rL6 ekl6 rR6 ⊢;refine viaN λ N hN=>?_
 have fin:∀(R:Tr) (vR:V) (H7:Hp),Same H H7->H7 ml=some (.lst (ms.map V.str))->Rep H7 L (.ref lp)->Rep H7 R vR->SdS L R ms->N [some (.ref a),some (.int C),some (.ref ml),some (.ref lp),some (.ref kl),some vR,none,none,none,none] H7:=λ R vR H7 g9 em7 rL7 rR7 sd=>hN _ _ (by
  refine⟨d0,λ pl hpl=>?_⟩;have h1:=zAC (o:=.lst []) hpl;have g10:=g9.trans h1;have epl0:=@zAA H7 pl (.lst []);have em8:=h1 _ _ em7;have rL8:=rL7.mono h1.tk;have rR8:=rR7.mono h1.tk;dsimp only[gName];generalize upd H7 pl _=H8 at h1 g10 epl0 em8 rL8 rR8 ⊢;refine⟨_,rfl,_,rfl,_,rfl,a,ns,1,rfl,g10.seq hS,by decide,λ D=>⟨a,ml,ns,ms,D,rfl,g10.seq hS,em8,⟨lm1,lm5⟩,λ fl ds H9 h2 efl l1 l8 hG=>?_⟩⟩;have g11:=g10.trans h2;have epl9:=h2 _ _ epl0;have rL9:=rL8.mono h2.tk;have rR9:=rR8.mono h2.tk
  have nfp:fl≠pl:=λ z=>by
   rw[z,epl9] at efl;have ee:=HO.lst.inj (mE efl);rw[List.map_eq_nil_iff.mp ee.symm] at l1;simp at l1
  refine⟨fl,rfl,⟨_,SqL.of efl⟩,?_⟩;refine zA1 (xs:=ds.map V.ref) (λ i σ' H'=>E3 λ(s7:Option V) (us:List V) (φs:List (Str->Tr))=>A6 (σ'=[some (.ref a),some (.int C),some (.ref ml),some (.ref lp),some (.ref kl),some vR,some (.ref pl),s7,none,none]) (Sx pl H9 H') (H' pl=some (.lst us)) (Paired (PrR H') (psF L R φs) us) (φs.length=i) (GdF ms φs)) ⟨none,[],[],rfl,.of (.refl _),epl9,.nil,rfl,(λ φ hφ=>nomatch hφ)⟩ ?_ ?_ ?_
  ·rintro i σ' H' _ ⟨s7,us,φs,rfl,sx,_⟩
   exact SqL.of (sx _ _ nfp efl)
  ·rintro i v σ' H' hv ⟨s7,us,φs,rfl,sx,epl,pp,lφ,gd⟩
   rw[mJ] at hv;obtain⟨d,ed,rfl⟩:=lV.mp hv;have hi:=(lJ.mp ed).1;obtain⟨_,kvs,φ,fg⟩:=hG d (lM ed);have tk:Tk H9 H':=λ b xs e=>sx b _ (λ z=>by rw[z,epl9] at e;cases e) e;have edd:=sx _ _ (λ z=>by have:=fg.ed;rw[z,epl9] at this;cases this) fg.ed;have lus:us.length=φs.length:=by rw[zAG pp];exact mD _
   refine⟨_,rfl,.inl ⟨rfl,_,SqL.of epl⟩,_,rfl,_,rfl,L,.ref lp,d,kvs,φ,rfl,rL9.mono tk,sL,by omega,edd,λ g hg=>?_,λ v1 H2 k1 r1=>?_⟩
   ·obtain⟨_,u,eu,ru⟩:=fg.al g (sd.gl g hg)
    exact⟨u,eu,ru.mono tk⟩
   refine⟨_,rfl,_,rfl,R,vR,d,kvs,φ,rfl,rR9.mono (tk.trans k1.tk),sd.sr,by have:=sd.b2;omega,k1 _ _ edd,λ g hg=>?_,λ v2 H3 k2 r2=>⟨d2,λ tp htp=>?_⟩⟩
   ·obtain⟨_,u,eu,ru⟩:=fg.al g (sd.gl g (sd.gr g hg))
    exact⟨u,eu,ru.mono (tk.trans k1.tk)⟩
   have k3:=zAC (o:=.tup [v1,v2]) htp;have kA:=k1.trans (k2.trans k3);have epl3:=kA _ _ epl;have k4:Tk _ _:=Tk.lst (o:=.lst (us++[.ref tp])) epl3;refine⟨pl,us,_,rfl,rfl,epl3,zAK (by omega),_,us++[.ref tp],φs++[φ],rfl,(sx.same kA).own,zAA,?_,by simp[lφ],λ ψ hψ g hg=>?_⟩
   ·unfold psF at pp ⊢
    rw[mP];exact zAM (Paired.mapP pp λ Ω Ω z=>z.mono (kA.tk.trans k4)) (.cons ⟨tp,v1,v2,rfl,k4 _ _ zAA,r1.mono ((k2.trans k3).tk.trans k4),r2.mono (k3.tk.trans k4)⟩ .nil)
   ·rcases lK.mp hψ with z|z
    ·exact gd ψ z g hg
    ·rw[mQ.mp z]
     exact(fg.al g hg).1
  ·rintro σ' Ha ⟨s7,us,φs,rfl,sx,epl,pp,lφ,gd⟩
   rw[mD] at lφ;have p1:1<=φs.length:=by omega
   have p8:φs.length<=8:=by omega
   have lps:(psF L R φs).length=φs.length:=mD _;have lus:us.length=φs.length:=by rw[zAG pp,lps]
   have refs:∀x∈us,∃c,x = .ref c:=λ x hx=>by
    obtain⟨n,hn,en⟩:=List.mem_iff_getElem.mp hx;obtain⟨q,_,p,_,_,e,_⟩:=zAJ pp (lW hn);exact⟨p,by rw[←en,e]⟩
   obtain⟨φ0,φt,rfl⟩:∃a b,φs=a::b:=by
    cases φs with
    |nil=>simp at p1
    |cons a b=>exact⟨a,b,rfl⟩
   obtain⟨u0,ut,rfl⟩:∃a b,us=a::b:=by
    cases us with
    |nil=>simp at lus
    |cons a b=>exact⟨a,b,rfl⟩
   dsimp only;refine⟨_,rfl,pl,u0::ut,rfl,.inl (SqL.of epl),λ hl hhl=>?_⟩;have k1:=zAC (o:=.lst (u0::ut)) hhl;have ehl:=@zAA Ha hl (.lst (u0::ut));have eplb:=k1 _ _ epl;have ppb:=Paired.mapP pp λ Ω Ω z=>z.mono k1.tk;dsimp only[gName];generalize upd Ha hl _=Hb at k1 ehl eplb ppb ⊢;refine⟨_,rfl,hl,u0::ut,psF L R (φ0::φt),rfl,ehl,ppb,sd.ok gd p1 p8,sd.prg gd,sd.due p1,λ t u ks ws p x y z Hc hW k2 ep rt ru rk=>?_⟩;have eplc:=k2 _ _ eplb;have ehlc:=k2 _ _ ehl;have ppc:=Paired.mapP ppb λ Ω Ω z=>z.mono k2.tk;have q8:(psF L R (φ0::φt)).length<=8:=by omega
   have q1:1<=(psF L R (φ0::φt)).length:=by omega
   refine⟨_,rfl,_,rfl,p,pl,x,y,z,u0::ut,psF L R (φ0::φt),psF L R (φ0::φt),t,u,ks,ws,rfl,ep,rt,ru,rk,hW,eplc,ppc,zFO q1,⟨q8,sd.pl gd⟩,λ Hd k3=>⟨_,rfl,ite2 (λ c=>absurd c (by simp)) (λ Ω=>?_)⟩⟩;have epld:=k3 _ _ eplc;refine⟨_,rfl,_,rfl,hl,pl,u0::ut,rfl,rfl,k3 _ _ ehlc,epld,refs,_,rfl,ite2 (λ c=>absurd c (by simp)) (λ Ω=>?_)⟩;have ppd:Paired (PrR Hd) ((fillT φ0 L,fillT φ0 R)::psF L R φt) (u0::ut):=Paired.mapP ppc λ Ω Ω z=>z.mono k3.tk
   obtain⟨pd0,pdt⟩:PrR Hd (fillT φ0 L,fillT φ0 R) u0/\Paired (PrR Hd) (psF L R φt) ut:=by
    cases ppd with
    |cons a b=>exact⟨a,b⟩
   have lt1:(φ0::φt).length=φt.length+1:=mM;have lu1:(u0::ut).length=ut.length+1:=mM;refine viaN λ Ω h=>h _ _ ?_;refine viaN λ N hN=>?_
   have fin2:∀He,Same Hd He->N [some (.ref a),some (.int C),some (.ref ml),some (.ref lp),some (.ref kl),some vR,some (.ref pl),s7,some (.ref hl),some (.ref p)] He:=λ He k4=>hN _ _ (by
    have eple:=k4 _ _ epld;refine⟨_,rfl,pl,_,rfl,.inl (SqL.of eple),rfl,_,rfl,ite2 (λ Ω=>qf _) (λ c=>?_)⟩
    have l7:φt.length+1<=7:=by
     rcases Nat.lt_or_ge 7 (φt.length+1) with hh|hh
     ·refine absurd ?_ c
      have:ut.length=7:=by omega
      simp[this]
     ·exact hh
    have gd':GdF ms (φ0::φt++[φ0]):=λ ψ hψ=>by
     rcases lK.mp hψ with hh|hh
     ·exact gd ψ hh
     ·rw[mQ.mp hh]
      exact gd φ0 (lO ..)
    have la:(φ0::φt++[φ0]).length=φt.length+2:=by simp
    have lq:(psF L R (φ0::φt++[φ0])).length=φt.length+2:=by rw[←la];exact mD _
    have ea:psF L R (φ0::φt++[φ0])=(fillT φ0 L,fillT φ0 R)::psF L R φt++[(fillT φ0 L,fillT φ0 R)]:=by
     unfold psF;rw[mP];rfl
    refine⟨_,rfl,_,rfl,_,rfl,pl,_,rfl,SqL.of eple,λ pc hpc=>?_⟩;rw[zN6];have k5:=zAC (o:=.lst [u0]) hpc;refine⟨pl,pc,_,_,rfl,rfl,k5 _ _ eple,zAA,zAK (by simp only[mM,List.length_nil];omega),λ pd hpd=>?_⟩;have k6:=zAC (o:=.lst (u0::ut++[u0])) hpd;have kk:=k4.trans (k5.trans k6);refine⟨pd,_,psF L R (φ0::φt++[φ0]),rfl,zAA,?_,sd.ok gd' (by omega) (by omega),sd.prg gd',sd.due (by omega),λ t' u' ks' ws' p' x' y' z' Hf hW' k7 ep' rt' ru' rk'=>?_⟩
    ·rw[ea]
     exact zAM (Paired.mapP ppd λ Ω Ω z=>z.mono kk.tk) (.cons (pd0.mono kk.tk) .nil)
    refine⟨_,rfl,p',pl,x',y',z',_,psF L R (φ0::φt),psF L R (φ0::φt++[φ0]),t',u',ks',ws',rfl,ep',rt',ru',rk',hW',(k5.trans (k6.trans k7)) _ _ eple,Paired.mapP ppd λ Ω Ω z=>z.mono (kk.trans k7).tk,ea▸zKJ,⟨by omega,sd.pl gd'⟩,λ H' Ω=>qf _⟩)
   refine⟨_,rfl,pl,_,rfl,.inl (SqL.of epld),_,_,rfl,rfl,_,rfl,ite2 (λ c=>?_) (λ Ω=>fin2 Hd (.refl _))⟩
   have l2:1<=φt.length:=by
    have:=lT c;omega
   have gdt:GdF ms φt:=λ ψ hψ=>gd ψ (lP _ hψ);have lpt:(psF L R φt).length=φt.length:=mD _;refine⟨_,rfl,_,rfl,pl,_,rfl,SqL.of epld,λ pc hpc=>?_⟩;rw[zEq];have k5:=zAC (o:=.lst ut) hpc;refine⟨pc,ut,psF L R φt,rfl,zAA,Paired.mapP pdt λ Ω Ω z=>z.mono k5.tk,sd.ok gdt l2 (by omega),sd.prg gdt,sd.due l2,λ t' u' ks' ws' p' x' y' z' Hf hW' k7 ep' rt' ru' rk'=>?_⟩;refine⟨_,rfl,_,rfl,pl,_,rfl,SqL.of ((k5.trans k7) _ _ epld),λ pd hpd=>?_⟩;rw[zEq];have k8:=zAC (o:=.lst ut) hpd;refine⟨p',pd,x',y',z',ut,psF L R φt,psF L R φt,t',u',ks',ws',rfl,k8 _ _ ep',rt'.mono k8.tk,ru'.mono k8.tk,rk'.mono k8,hW',zAA,Paired.mapP pdt λ Ω Ω z=>z.mono (k5.trans (k7.trans k8)).tk,zFO (by omega),⟨by omega,sd.pl gdt⟩,λ Hg k9=>⟨_,rfl,ite2 (λ c=>absurd c (by simp)) (λ Ω=>?_)⟩⟩;have kk:=k5.trans (k7.trans (k8.trans k9));have kc:=k3.trans kk;refine⟨_,rfl,_,rfl,p,pl,x,y,z,u0::ut,psF L R (φ0::φt),psF L R (φ0::φt),t,u,ks,ws,rfl,kc _ _ ep,rt.mono kc.tk,ru.mono kc.tk,rk.mono kc,hW,kk _ _ epld,Paired.mapP ppd λ Ω Ω z=>z.mono kk.tk,zFO q1,⟨q8,sd.pl gd⟩,λ Hi ki=>⟨_,rfl,ite2 (λ c=>absurd c (by simp)) (λ Ω=>fin2 Hi (kk.trans ki))⟩⟩)
 refine⟨_,rfl,d0,λ e he=>⟨kl,e,_,rfl,rfl,zAC he _ _ ekl6,zAA,_,rfl,ite2 (λ c=>?_) (λ Ω=>?_)⟩⟩
 ·have ge:=zAC (o:=.lst []) he
  have kne:1<=(gpS L).length:=by
   cases hg:gpS L with
   |nil=>rw[hg] at c;simp at c
   |cons _ _=>simp
  refine⟨_,rfl,_,rfl,_,rfl,a,_,rfl,(g06.trans ge).seq hS,λ q3 hq3=>?_⟩;rw[c3'];have g9:=zAC (o:=.lst (n3.map V.int)) hq3;refine⟨_,rfl,q3,kl,n3,3,gpS L,rfl,SqL.of zAA,by omega,by decide,by decide,by decide,⟨(ge.trans g9) _ _ ekl6,kne⟩,λ R vR H7 g10 rR sR=>?_⟩;have gA:=ge.trans (g9.trans g10);have f3:=fb3 n3.length (by omega);have x1:=sR.fs;have y1:=sR.fl;have z1:=sR.dp;have t3:(3:Int).toNat=3:=rfl;rw[t3] at x1 y1;exact fin R vR H7 (g06.trans gA) (gA _ _ em6) (rL6.mono gA.tk) rR ⟨lb,sL,sR.hs,glL,sR.gp,bL,by omega,by omega,by omega⟩
 ·have ge:=zAC (o:=.lst []) he
  exact fin (.num 7) (.ref rp) _ (g06.trans ge) (ge _ _ em6) (rL6.mono ge.tk) (rR6.mono ge.tk) ⟨lb,sL,True.intro,glL,(λ g hg=>nomatch hg),bL,by decide,by decide,by decide⟩
section
variable {k:Nat}{f:Addr}{fd:FuncData}
theorem zLN (h:FnOk P w K mg base CX0 k f fd ["rule"] zHQ):FnOk P w K mg base CX0 k f fd ["rule"] (zDr rLeaf):=h.imp λ vs H Q E ⟨p,t,u,ks,e,hR,q⟩=>by
 obtain⟨a,b,c,hS,hK⟩:=hR.ru;exact⟨t,p,a,_,e,hS.hp,hS.ra,q _ H (.refl H) Iff.rfl⟩
theorem zJn (h:FnOk P w K mg base CX0 k f fd ["rule"] zHK):FnOk P w K mg base CX0 k f fd ["rule"] (zDr zHb):=h.imp λ vs H Q E ⟨p,t,u,ks,e,hR,q⟩=>by
 obtain⟨a,b,c,hS,hK⟩:=hR.ru;exact⟨t,u,p,a,b,c,e,hS.hp,hS.ra,hS.rb,hS.st,hS.su,q⟩
theorem zLP (h:FnOk P w K mg base CX0 k f fd ["rule"] zE8):FnOk P w K mg base CX0 k f fd ["rule"] (zDr rFree):=h.imp λ vs H Q E ⟨p,t,u,ks,e,hR,q⟩=>by
 obtain⟨a,b,c,hS,hK⟩:=hR.ru;obtain⟨ws,l,h1,h2⟩:=hR.ws;exact⟨t,u,p,a,b,c,ws,e,hS.hp,hS.ra,hS.rb,hS.st,hS.su,l,h1,h2,q⟩
theorem zLL (h:FnOk P w K mg base CX0 k f fd ["rule"] zIe):FnOk P w K mg base CX0 k f fd ["rule"] (zDr rTold):=h.imp λ vs H Q E ⟨p,t,u,ks,e,hR,q⟩=>by
 obtain⟨a,b,c,hS,hK⟩:=hR.ru;exact⟨t,u,ks,p,a,b,c,e,hS,hR.h4,hK,hR.nd,hR.lk,q⟩
theorem zMy (h:FnOk P w K mg base CX0 k f fd ["rule"] zF4):FnOk P w K mg base CX0 k f fd ["rule"] (zDr rGap):=h.imp λ vs H Q E ⟨p,t,u,ks,e,hR,q⟩=>by
 obtain⟨a,b,c,hS,hK⟩:=hR.ru;exact⟨t,u,p,a,b,c,e,hS,q⟩
theorem zLO (h:FnOk P w K mg base CX0 k f fd ["rule"] zF0):FnOk P w K mg base CX0 k f fd ["rule"] (zDr rKind):=h.imp λ vs H Q E ⟨p,t,u,ks,e,hR,q⟩=>by
 obtain⟨a,b,c,hS,hK⟩:=hR.ru;exact⟨t,u,ks,p,a,b,c,e,hS,hK,q⟩
theorem zLM (h:FnOk P w K mg base CX0 k f fd ["rule"] zHV):FnOk P w K mg base CX0 k f fd ["rule"] (zDr rLoud):=h.imp λ vs H Q E ⟨p,t,u,ks,e,hR,q⟩=>by
 obtain⟨a,b,c,hS,hK⟩:=hR.ru;exact⟨t,u,p,a,b,_,e,hS.hp,hS.ra,hS.rb,hS.st,hS.su,q⟩
end
theorem zMz {k:Nat}{f1 f2 f3 f4 f5 f6 f7:Addr}(h1:DueF P w K mg base k f1 rLeaf) (h2:DueF P w K mg base k f2 zHb) (h3:DueF P w K mg base k f3 rFree) (h4:DueF P w K mg base k f4 rTold) (h5:DueF P w K mg base k f5 rGap) (h6:DueF P w K mg base k f6 rKind) (h7:DueF P w K mg base k f7 rLoud) :
  ∀q∈zBA.zip [f1,f2,f3,f4,f5,f6,f7],DueF P w K mg base k q.2 q.1.2:=by
 intro q hq;have hq':q∈[((("leaf" : Str),(rLeaf:RP)),f1),((("twice" : Str),(zHb:RP)),f2),((("free" : Str),(rFree:RP)),f3),((("told" : Str),(rTold:RP)),f4),((("gap" : Str),(rGap:RP)),f5),((("kind" : Str),(rKind:RP)),f6),((("loud" : Str),(rLoud:RP)),f7)]:=hq;rcases lN.mp hq' with rfl|hq'
 ·exact h1
 rcases lN.mp hq' with rfl|hq'
 ·exact h2
 rcases lN.mp hq' with rfl|hq'
 ·exact h3
 rcases lN.mp hq' with rfl|hq'
 ·exact h4
 rcases lN.mp hq' with rfl|hq'
 ·exact h5
 rcases lN.mp hq' with rfl|hq'
 ·exact h6
 rcases lN.mp hq' with rfl|hq'
 ·exact h7
 ·cases hq'
theorem zH7 {r1 r2 r3 r4 r5 r6 r7 f1 f2 f3 f4 f5 f6 f7:Addr}(h1:TupK K r1 [.str "leaf", .ref f1]) (h2:TupK K r2 [.str "twice", .ref f2]) (h3:TupK K r3 [.str "free", .ref f3]) (h4:TupK K r4 [.str "told", .ref f4]) (h5:TupK K r5 [.str "gap", .ref f5]) (h6:TupK K r6 [.str "kind", .ref f6]) (h7:TupK K r7 [.str "loud", .ref f7]) :
  Paired (λ(a:Addr) (q:(Str × RP) × Addr)=>TupK K a [.str q.1.1,.ref q.2]) [r1,r2,r3,r4,r5,r6,r7] (zBA.zip [f1,f2,f3,f4,f5,f6,f7]):=.cons h1 (.cons h2 (.cons h3 (.cons h4 (.cons h5 (.cons h6 (.cons h7 .nil))))))
theorem zG1 {K:W.Frag}{f:Addr}{oc:Value}{od:Option Addr}{fd:FuncData}{sl:Array (Option Value)}(l:K.lookup f=some ⟨oc,od,.func fd,sl⟩):W.keepIn K (.ref f)=true:=by unfold W.keepIn;dsimp only;rw[l]
def DfA (K:W.Frag) (x:Str) (s:Stmt) (f:Addr):Prop:=∃fd,W.nsIn K mainGlobals x=some (some (.ref f))/\Fun K x x s f fd
theorem dfa {K:W.Frag}{x:Str}{st:Stmt}{f:Addr}{oc:Value}{od an:Option Addr}{osl:Array (Option Value)}{kV doc pm cdv ct:Value}(a:W.nsIn K mainGlobals x=some (some (.ref f))) (l:K.lookup f=some ⟨oc,od,.func (W.fnOf x x (zBR st) (zBL st) (zAH st) .none kV doc pm an cdv ct),osl⟩) (c:W.codeIn K cdv x=true):DfA K x st f:=⟨_,a,zLs l c (zG1 l)⟩
theorem DfA.go {K:W.Frag}{x:Str}{s:Stmt}{f:Addr}{h:Heap}{mg:Str->Option Value}(d:DfA K x s f) (X:K.In h) (G:h.Ns mainGlobals mg):∃fd,Fun K x x s f fd/\mg x=some (.ref f):=d.elim λ fd h=>⟨fd,h.2,W.mg_of X G h.1⟩
theorem us1 {p:List Value->Prop}(h:∀a,p [a]):∀us:List Value,us.length=1->p us:=λ us q=>by
 obtain _|⟨a,us⟩:=us
 ·cases q
 obtain _|⟨z,us⟩:=us
 ·exact h a
 ·simp at q
theorem us2 {p:List Value->Prop}(h:∀a b,p [a,b]):∀us:List Value,us.length=2->p us:=λ us q=>by
 obtain _|⟨a,us⟩:=us
 ·cases q
 obtain _|⟨b,us⟩:=us
 ·cases q
 obtain _|⟨z,us⟩:=us
 ·exact h a b
 ·simp at q
theorem us3 {p:List Value->Prop}(h:∀a b c,p [a,b,c]):∀us:List Value,us.length=3->p us:=λ us q=>by
 obtain _|⟨a,us⟩:=us
 ·cases q
 obtain _|⟨b,us⟩:=us
 ·cases q
 obtain _|⟨c,us⟩:=us
 ·cases q
 obtain _|⟨z,us⟩:=us
 ·exact h a b c
 ·simp at q
theorem ud1:∀{us:List Value},us.length=1->∃a,us=[a]
 |[a],_=>⟨a,rfl⟩
theorem ud2:∀{us:List Value},us.length=2->∃a b,us=[a,b]
 |[a,b],_=>⟨a,b,rfl⟩
theorem all_mk {l:W.OpenLaw}{w:World}{K:W.Frag}{h:Heap}{mg:Str->Option Value}{fa f0 f1 f2 f3 f4 f5 f6 f7 f8 f9 f10 f11 f12 f13 f14 f15 f16 f17 f18 f19 f20 f21 f22 f23 f24 f25 f26 f27 f28 f29 f30 f31 f32 f33 f34 f35 f36 f37 f38 f39 f40 f41 f42 f43 f44 f45 f46 f47 f48 f49 f50 f51 f52 lv_LEAF_SIGNS lv_LOUD_SIGNS lv_KEPT_WORDS la r1 r2 r3 r4 r5 r6 r7:Addr}(X:K.In h) (G:h.Ns mainGlobals mg) (hfa:mg "law" = some (.ref fa))
  {od19 an19:Option Addr}{sl19:Array (Option Value)}{oc19 kV19 dc19 pm19 cd19 ct19:Value}
  {dt19:Addr}{odT19:Option Addr}{slT19:Array (Option Value)}{ocT19:Value}{nT19:Nat}
  {od52 an52:Option Addr}{sl52:Array (Option Value)}{oc52 kV52 dc52 pm52 cd52 ct52:Value}
  {odC0:Option Addr}{slC0:Array (Option Value)}{nC0:Nat}{tC0_0 tC0_1 tC0_2 tC0_3 tC0_4:Tok}
  {odC1:Option Addr}{slC1:Array (Option Value)}{nC1:Nat}{tC1_0 tC1_1 tC1_2:Tok}
  {odC2:Option Addr}{slC2:Array (Option Value)}{nC2:Nat}{tC2_0 tC2_1 tC2_2 tC2_3 tC2_4 tC2_5 tC2_6 tC2_7 tC2_8 tC2_9 tC2_10:Tok}
  {tkL tkM:Tok}
  {od_rs od_r1 od_r2 od_r3 od_r4 od_r5 od_r6 od_r7:Option Addr}{sl_rs sl_r1 sl_r2 sl_r3 sl_r4 sl_r5 sl_r6 sl_r7:Array (Option Value)}{n_rs n_r1 n_r2 n_r3 n_r4 n_r5 n_r6 n_r7:Nat}{t_r1 t_r2 t_r3 t_r4 t_r5 t_r6 t_r7:Tok}
  (a0:DfA K "parts_begin" zCJ f0)
  (a1:DfA K "parts" zGt f1)
  (a2:DfA K "with_parts" zCc f2)
  (a3:DfA K "all_parts" zC3 f3)
  (a4:DfA K "placed_parts" zB2 f4)
  (a5:DfA K "names_at" zDV f5)
  (a6:DfA K "bound_in" zDa f6)
  (a7:DfA K "free_names" zCf f7)
  (a8:DfA K "same_name" zGs f8)
  (a9:DfA K "alike_leaves" zB7 f9)
  (a10:DfA K "alike_heads" zCR f10)
  (a11:DfA K "word_of" zEN f11)
  (a12:DfA K "unused_word" zCH f12)
  (a13:DfA K "grown_level" zCN f13)
  (a14:DfA K "grown_tree" zCe f14)
  (a15:DfA K "gap_parts" zC2 f15)
  (a16:DfA K "counted_gaps" zB5 f16)
  (a17:DfA K "gaps_of" zER f17)
  (a18:DfA K "is_loud" zEP f18)
  (a19:W.nsIn K mainGlobals "is_quiet" = some (some (.ref f19)))
  (l19:K.lookup f19=some ⟨oc19,od19,.func (W.fnOf "is_quiet" "is_quiet" (zBR zAq) (zBL zAq) (zAH zAq) (.ref dt19) kV19 dc19 pm19 an19 cd19 ct19),sl19⟩) (c19:W.codeIn K cd19 "is_quiet" = true)
  (lT19:K.lookup dt19=some ⟨ocT19,odT19,.seq #[.none] nT19,slT19⟩)
  (a20:DfA K "begins_with_leaf" zBO f20)
  (a21:DfA K "binds_twice" zCP f21)
  (a22:DfA K "has_free_name" zBj f22)
  (a23:DfA K "tells_no_piece" zBX f23)
  (a24:DfA K "has_unlike_counts" zBJ f24)
  (a25:DfA K "has_no_number_atom" zBE f25)
  (a26:DfA K "is_told_wrong" zBi f26)
  (a27:DfA K "has_new_gap" zCM f27)
  (a28:DfA K "has_wrong_kind" zBY f28)
  (a29:DfA K "grows_loud" zCd f29)
  (a30:DfA K "form" zIq f30)
  (a31:DfA K "has_let" zEQ f31)
  (a32:DfA K "check_pairs" zCO f32)
  (a33:DfA K "begin_alike" zCQ f33)
  (a34:DfA K "rows_within" zCI f34)
  (a35:DfA K "gap_for" zES f35)
  (a36:DfA K "common_shape" zB6 f36)
  (a37:DfA K "kind_of" zEO f37)
  (a38:DfA K "kinds_of" zDZ f38)
  (a39:DfA K "read_off" zDU f39)
  (a40:DfA K "_law_cell_at" zCL f40)
  (a41:DfA K "_law_shape" zCK f41)
  (a42:DfA K "_law_gaps" zCt f42)
  (a43:DfA K "_law_leaf" zDX f43)
  (a44:DfA K "_law_piece" zC1 f44)
  (a45:DfA K "_law_filled" zBt f45)
  (a46:DfA K "_law_fit" zDB f46)
  (a47:DfA K "_law_loud" zCs f47)
  (a48:DfA K "_law_head" zDY f48)
  (a49:DfA K "_law_row_good" zB3 f49)
  (a50:DfA K "_law_told" zDW f50)
  (a51:DfA K "_law_fillings" zB4 f51)
  (a52:W.nsIn K mainGlobals "law" = some (some (.ref f52)))
  (l52:K.lookup f52=some ⟨oc52,od52,.func (W.fnOf "law" "law" (zBR s_law) (zBL s_law) (zAH s_law) .none kV52 dc52 pm52 an52 cd52 ct52),sl52⟩) (c52:W.codeIn K cd52 "law" = true)
  (aC0:W.nsIn K mainGlobals "LEAF_SIGNS" = some (some (.ref lv_LEAF_SIGNS))) (lC0:K.lookup lv_LEAF_SIGNS=some ⟨.type "tuple", odC0,.seq #[.str "num" tC0_0,.str "name" tC0_1,.str "ask" tC0_2,.str "stop" tC0_3,.str "gap" tC0_4] nC0,slC0⟩)
  (aC1:W.nsIn K mainGlobals "LOUD_SIGNS" = some (some (.ref lv_LOUD_SIGNS))) (lC1:K.lookup lv_LOUD_SIGNS=some ⟨.type "tuple", odC1,.seq #[.str "say" tC1_0,.str "ask" tC1_1,.str "stop" tC1_2] nC1,slC1⟩)
  (aC2:W.nsIn K mainGlobals "KEPT_WORDS" = some (some (.ref lv_KEPT_WORDS))) (lC2:K.lookup lv_KEPT_WORDS=some ⟨.type "tuple", odC2,.seq #[.str "let" tC2_0,.str "in" tC2_1,.str "if" tC2_2,.str "then" tC2_3,.str "else" tC2_4,.str "say" tC2_5,.str "ask" tC2_6,.str "stop" tC2_7,.str "where" tC2_8,.str "quiet" tC2_9,.str "number" tC2_10] nC2,slC2⟩)
  (aRs:W.nsIn K mainGlobals "REASONS" = some (some (.ref la)))
  (lRs:K.lookup la=some ⟨.type "tuple", od_rs,.seq #[.ref r1,.ref r2,.ref r3,.ref r4,.ref r5,.ref r6,.ref r7] n_rs,sl_rs⟩)
  (lr1:K.lookup r1=some ⟨.type "tuple", od_r1,.seq #[.str "leaf" t_r1,.ref f20] n_r1,sl_r1⟩)
  (lr2:K.lookup r2=some ⟨.type "tuple", od_r2,.seq #[.str "twice" t_r2,.ref f21] n_r2,sl_r2⟩)
  (lr3:K.lookup r3=some ⟨.type "tuple", od_r3,.seq #[.str "free" t_r3,.ref f22] n_r3,sl_r3⟩)
  (lr4:K.lookup r4=some ⟨.type "tuple", od_r4,.seq #[.str "told" t_r4,.ref f26] n_r4,sl_r4⟩)
  (lr5:K.lookup r5=some ⟨.type "tuple", od_r5,.seq #[.str "gap" t_r5,.ref f27] n_r5,sl_r5⟩)
  (lr6:K.lookup r6=some ⟨.type "tuple", od_r6,.seq #[.str "kind" t_r6,.ref f28] n_r6,sl_r6⟩)
  (lr7:K.lookup r7=some ⟨.type "tuple", od_r7,.seq #[.str "loud" t_r7,.ref f29] n_r7,sl_r7⟩)
  (aLt:W.nsIn K mainGlobals "LETTERS" = some (some (.str "abcdefghijklmnopqrstuvwxyz" tkL)))
  (aMp:W.nsIn K mainGlobals "MOST_PAIRS" = some (some (.int 8 tkM)))
  (z_len:W.nsIn K mainGlobals "len" = some none)
  (z_range:W.nsIn K mainGlobals "range" = some none)
  (z_isinstance:W.nsIn K mainGlobals "isinstance" = some none)
  (z_tuple:W.nsIn K mainGlobals "tuple" = some none)
  (z_list:W.nsIn K mainGlobals "list" = some none)
  (z_any:W.nsIn K mainGlobals "any" = some none)
  (z_all:W.nsIn K mainGlobals "all" = some none)
  (z_sorted:W.nsIn K mainGlobals "sorted" = some none)
  (z_enumerate:W.nsIn K mainGlobals "enumerate" = some none)
  (z_set:W.nsIn K mainGlobals "set" = some none)
  (z_dict:W.nsIn K mainGlobals "dict" = some none)
  (z_reversed:W.nsIn K mainGlobals "reversed" = some none)
  (z_zip:W.nsIn K mainGlobals "zip" = some none)
  : ∃fd:FuncData,(∀(s:Shared) (v:Value),BindsTo s fd ⟨[v],[]⟩ [("_law_script", v)])/\∀base:Heap,K.In base->base.Ns mainGlobals mg->FnOk l.prog w K mg base CX0 11 fa fd ["_law_script"] (zHR K):=by
 have e:=hfa.symm.trans (W.mg_of X G a52);cases e;have z_len:=W.mg_none_of X G z_len;have z_range:=W.mg_none_of X G z_range;have z_isinstance:=W.mg_none_of X G z_isinstance;have z_tuple:=W.mg_none_of X G z_tuple;have z_list:=W.mg_none_of X G z_list;have z_any:=W.mg_none_of X G z_any;have z_all:=W.mg_none_of X G z_all;have z_sorted:=W.mg_none_of X G z_sorted;have z_enumerate:=W.mg_none_of X G z_enumerate;have z_set:=W.mg_none_of X G z_set;have z_dict:=W.mg_none_of X G z_dict;have z_reversed:=W.mg_none_of X G z_reversed;have z_zip:=W.mg_none_of X G z_zip;have zOB:=W.mg_of X G aC0;have h_LEAF_SIGNS:zDM K lv_LEAF_SIGNS:=⟨_,_,_,lC0,rfl,rfl,(by show 5<=sizeLine;decide),(.cons ⟨_,rfl⟩ (.cons ⟨_,rfl⟩ (.cons ⟨_,rfl⟩ (.cons ⟨_,rfl⟩ (.cons ⟨_,rfl⟩ .nil)))))⟩;have zOE:=W.mg_of X G aC1;have h_LOUD_SIGNS:zEx K lv_LOUD_SIGNS:=⟨_,_,_,lC1,rfl,rfl,(by show 3<=sizeLine;decide),(.cons ⟨_,rfl⟩ (.cons ⟨_,rfl⟩ (.cons ⟨_,rfl⟩ .nil)))⟩;have zOa:=W.mg_of X G aC2;have h_KEPT_WORDS:KeptW K lv_KEPT_WORDS:=⟨_,_,_,lC2,rfl,rfl,(by show 11<=sizeLine;decide),(.cons ⟨_,rfl⟩ (.cons ⟨_,rfl⟩ (.cons ⟨_,rfl⟩ (.cons ⟨_,rfl⟩ (.cons ⟨_,rfl⟩ (.cons ⟨_,rfl⟩ (.cons ⟨_,rfl⟩ (.cons ⟨_,rfl⟩ (.cons ⟨_,rfl⟩ (.cons ⟨_,rfl⟩ (.cons ⟨_,rfl⟩ .nil)))))))))))⟩;have zOR:=W.mg_of X G aRs;have hRs:TupK K la ([r1,r2,r3,r4,r5,r6,r7].map V.ref):=⟨_,_,_,lRs,rfl,rfl,(by show 7<=sizeLine;decide),.cons rfl (.cons rfl (.cons rfl (.cons rfl (.cons rfl (.cons rfl (.cons rfl .nil))))))⟩;have hr1:TupK K r1 [.str "leaf", .ref f20]:=⟨_,_,_,lr1,rfl,rfl,(by show 2<=sizeLine;decide),.cons ⟨_,rfl⟩ (.cons rfl .nil)⟩;have hr2:TupK K r2 [.str "twice", .ref f21]:=⟨_,_,_,lr2,rfl,rfl,(by show 2<=sizeLine;decide),.cons ⟨_,rfl⟩ (.cons rfl .nil)⟩;have hr3:TupK K r3 [.str "free", .ref f22]:=⟨_,_,_,lr3,rfl,rfl,(by show 2<=sizeLine;decide),.cons ⟨_,rfl⟩ (.cons rfl .nil)⟩;have hr4:TupK K r4 [.str "told", .ref f26]:=⟨_,_,_,lr4,rfl,rfl,(by show 2<=sizeLine;decide),.cons ⟨_,rfl⟩ (.cons rfl .nil)⟩;have hr5:TupK K r5 [.str "gap", .ref f27]:=⟨_,_,_,lr5,rfl,rfl,(by show 2<=sizeLine;decide),.cons ⟨_,rfl⟩ (.cons rfl .nil)⟩;have hr6:TupK K r6 [.str "kind", .ref f28]:=⟨_,_,_,lr6,rfl,rfl,(by show 2<=sizeLine;decide),.cons ⟨_,rfl⟩ (.cons rfl .nil)⟩;have hr7:TupK K r7 [.str "loud", .ref f29]:=⟨_,_,_,lr7,rfl,rfl,(by show 2<=sizeLine;decide),.cons ⟨_,rfl⟩ (.cons rfl .nil)⟩;have hIn:=zH7 hr1 hr2 hr3 hr4 hr5 hr6 hr7;have zOZ:mg "LETTERS" = some (.str abcS tkL):=W.mg_of X G aLt;have m_MP:=W.mg_of X G aMp;obtain⟨_,F0,m0⟩:=a0.go X G;have b0:=F0.binds (ps:=["tree"]) λ Ω Ω Ω Ω Ω Ω=>us1 λ Ω=>rfl;obtain⟨_,F1,m1⟩:=a1.go X G;have b1:=F1.binds (ps:=["tree"]) λ Ω Ω Ω Ω Ω Ω=>us1 λ Ω=>rfl;obtain⟨_,F2,m2⟩:=a2.go X G;have b2:=F2.binds (ps:=["tree", "parts"]) λ Ω Ω Ω Ω Ω Ω=>us2 λ Ω Ω=>rfl;obtain⟨_,F3,m3⟩:=a3.go X G;have b3:=F3.binds (ps:=["tree"]) λ Ω Ω Ω Ω Ω Ω=>us1 λ Ω=>rfl;obtain⟨_,F4,m4⟩:=a4.go X G;have b4:=F4.binds (ps:=["tree"]) λ Ω Ω Ω Ω Ω Ω=>us1 λ Ω=>rfl;obtain⟨_,F5,m5⟩:=a5.go X G;have b5:=F5.binds (ps:=["part"]) λ Ω Ω Ω Ω Ω Ω=>us1 λ Ω=>rfl;obtain⟨_,F6,m6⟩:=a6.go X G;have b6:=F6.binds (ps:=["part", "number", "bound"]) λ Ω Ω Ω Ω Ω Ω=>us3 λ Ω Ω Ω=>rfl;obtain⟨_,F7,m7⟩:=a7.go X G;have b7:=F7.binds (ps:=["tree"]) λ Ω Ω Ω Ω Ω Ω=>us1 λ Ω=>rfl;obtain⟨_,F8,m8⟩:=a8.go X G;have b8:=F8.binds (ps:=["one", "other", "pairs"]) λ Ω Ω Ω Ω Ω Ω=>us3 λ Ω Ω Ω=>rfl;obtain⟨_,F9,m9⟩:=a9.go X G;have b9:=F9.binds (ps:=["one", "other", "pairs"]) λ Ω Ω Ω Ω Ω Ω=>us3 λ Ω Ω Ω=>rfl;obtain⟨_,F10,m10⟩:=a10.go X G;have b10:=F10.binds (ps:=["one", "other", "pairs"]) λ Ω Ω Ω Ω Ω Ω=>us3 λ Ω Ω Ω=>rfl;obtain⟨_,F11,m11⟩:=a11.go X G;have b11:=F11.binds (ps:=["number"]) λ Ω Ω Ω Ω Ω Ω=>us1 λ Ω=>rfl;obtain⟨_,F12,m12⟩:=a12.go X G;have b12:=F12.binds (ps:=["used"]) λ Ω Ω Ω Ω Ω Ω=>us1 λ Ω=>rfl;obtain⟨_,F13,m13⟩:=a13.go X G;have b13:=F13.binds (ps:=["heads", "ready"]) λ Ω Ω Ω Ω Ω Ω=>us2 λ Ω Ω=>rfl;obtain⟨_,F14,m14⟩:=a14.go X G;have b14:=F14.binds (ps:=["levels"]) λ Ω Ω Ω Ω Ω Ω=>us1 λ Ω=>rfl;obtain⟨_,F15,m15⟩:=a15.go X G;have b15:=F15.binds (ps:=["shape"]) λ Ω Ω Ω Ω Ω Ω=>us1 λ Ω=>rfl;obtain⟨_,F16,m16⟩:=a16.go X G;have b16:=F16.binds (ps:=["shape"]) λ Ω Ω Ω Ω Ω Ω=>us1 λ Ω=>rfl;obtain⟨_,F17,m17⟩:=a17.go X G;have b17:=F17.binds (ps:=["shape"]) λ Ω Ω Ω Ω Ω Ω=>us1 λ Ω=>rfl;obtain⟨_,F18,m18⟩:=a18.go X G;have b18:=F18.binds (ps:=["tree"]) λ Ω Ω Ω Ω Ω Ω=>us1 λ Ω=>rfl;have k19:=zG1 l19;have F19:=zMu (st:=zAq) (dvs:=[.none]) l19 c19 k19 lT19 rfl;have b190:Binds K (W.fnOf "is_quiet" "is_quiet" (zBR zAq) (zBL zAq) (zAH zAq) (.ref dt19) kV19 dc19 pm19 an19 cd19 ct19) ["tree", "kinds"] []:=λ s us X hl=>by obtain⟨a,b,rfl⟩:=ud2 (us:=us) (by simpa using hl);first|exact .of_eq rfl|exact W.binds_K X rfl lT19 rfl rfl rfl
 have b191:Binds K (W.fnOf "is_quiet" "is_quiet" (zBR zAq) (zBL zAq) (zAH zAq) (.ref dt19) kV19 dc19 pm19 an19 cd19 ct19) ["tree", "kinds"] [.none]:=λ s us X hl=>by obtain⟨a,rfl⟩:=ud1 (us:=us) (by simpa using hl);first|exact .of_eq rfl|exact W.binds_K X rfl lT19 rfl rfl rfl
 have m19:=W.mg_of X G a19;obtain⟨_,F20,m20⟩:=a20.go X G;have b20:=F20.binds (ps:=["rule"]) λ Ω Ω Ω Ω Ω Ω=>us1 λ Ω=>rfl;obtain⟨_,F21,m21⟩:=a21.go X G;have b21:=F21.binds (ps:=["rule"]) λ Ω Ω Ω Ω Ω Ω=>us1 λ Ω=>rfl;obtain⟨_,F22,m22⟩:=a22.go X G;have b22:=F22.binds (ps:=["rule"]) λ Ω Ω Ω Ω Ω Ω=>us1 λ Ω=>rfl;obtain⟨_,F23,m23⟩:=a23.go X G;have b23:=F23.binds (ps:=["gap"]) λ Ω Ω Ω Ω Ω Ω=>us1 λ Ω=>rfl;obtain⟨_,F24,m24⟩:=a24.go X G;have b24:=F24.binds (ps:=["rule"]) λ Ω Ω Ω Ω Ω Ω=>us1 λ Ω=>rfl;obtain⟨_,F25,m25⟩:=a25.go X G;have b25:=F25.binds (ps:=["rule"]) λ Ω Ω Ω Ω Ω Ω=>us1 λ Ω=>rfl;obtain⟨_,F26,m26⟩:=a26.go X G;have b26:=F26.binds (ps:=["rule"]) λ Ω Ω Ω Ω Ω Ω=>us1 λ Ω=>rfl;obtain⟨_,F27,m27⟩:=a27.go X G;have b27:=F27.binds (ps:=["rule"]) λ Ω Ω Ω Ω Ω Ω=>us1 λ Ω=>rfl;obtain⟨_,F28,m28⟩:=a28.go X G;have b28:=F28.binds (ps:=["rule"]) λ Ω Ω Ω Ω Ω Ω=>us1 λ Ω=>rfl;obtain⟨_,F29,m29⟩:=a29.go X G;have b29:=F29.binds (ps:=["rule"]) λ Ω Ω Ω Ω Ω Ω=>us1 λ Ω=>rfl;obtain⟨_,F30,m30⟩:=a30.go X G;have b30:=F30.binds (ps:=["rule"]) λ Ω Ω Ω Ω Ω Ω=>us1 λ Ω=>rfl;obtain⟨_,F31,m31⟩:=a31.go X G;have b31:=F31.binds (ps:=["tree"]) λ Ω Ω Ω Ω Ω Ω=>us1 λ Ω=>rfl;obtain⟨_,F32,m32⟩:=a32.go X G;have b32:=F32.binds (ps:=["pairs"]) λ Ω Ω Ω Ω Ω Ω=>us1 λ Ω=>rfl;obtain⟨_,F33,m33⟩:=a33.go X G;have b33:=F33.binds (ps:=["trees"]) λ Ω Ω Ω Ω Ω Ω=>us1 λ Ω=>rfl;obtain⟨_,F34,m34⟩:=a34.go X G;have b34:=F34.binds (ps:=["trees"]) λ Ω Ω Ω Ω Ω Ω=>us1 λ Ω=>rfl;obtain⟨_,F35,m35⟩:=a35.go X G;have b35:=F35.binds (ps:=["trees", "words"]) λ Ω Ω Ω Ω Ω Ω=>us2 λ Ω Ω=>rfl;obtain⟨_,F36,m36⟩:=a36.go X G;have b36:=F36.binds (ps:=["trees", "words"]) λ Ω Ω Ω Ω Ω Ω=>us2 λ Ω Ω=>rfl;obtain⟨_,F37,m37⟩:=a37.go X G;have b37:=F37.binds (ps:=["trees"]) λ Ω Ω Ω Ω Ω Ω=>us1 λ Ω=>rfl;obtain⟨_,F38,m38⟩:=a38.go X G;have b38:=F38.binds (ps:=["words"]) λ Ω Ω Ω Ω Ω Ω=>us1 λ Ω=>rfl;obtain⟨_,F39,m39⟩:=a39.go X G;have b39:=F39.binds (ps:=["pairs"]) λ Ω Ω Ω Ω Ω Ω=>us1 λ Ω=>rfl;obtain⟨_,F40,m40⟩:=a40.go X G;have b40:=F40.binds (ps:=["_law_script", "_law_k"]) λ Ω Ω Ω Ω Ω Ω=>us2 λ Ω Ω=>rfl;obtain⟨_,F41,m41⟩:=a41.go X G;have b41:=F41.binds (ps:=["_law_cells", "_law_deep", "_law_marks"]) λ Ω Ω Ω Ω Ω Ω=>us3 λ Ω Ω Ω=>rfl;obtain⟨_,F42,m42⟩:=a42.go X G;have b42:=F42.binds (ps:=["_law_shape_here"]) λ Ω Ω Ω Ω Ω Ω=>us1 λ Ω=>rfl;obtain⟨_,F43,m43⟩:=a43.go X G;have b43:=F43.binds (ps:=["_law_cell", "_law_kind"]) λ Ω Ω Ω Ω Ω Ω=>us2 λ Ω Ω=>rfl;obtain⟨_,F44,m44⟩:=a44.go X G;have b44:=F44.binds (ps:=["_law_cell", "_law_kind"]) λ Ω Ω Ω Ω Ω Ω=>us2 λ Ω Ω=>rfl;obtain⟨_,F45,m45⟩:=a45.go X G;have b45:=F45.binds (ps:=["_law_shape_here", "_law_filling"]) λ Ω Ω Ω Ω Ω Ω=>us2 λ Ω Ω=>rfl;obtain⟨_,F46,m46⟩:=a46.go X G;have b46:=F46.binds (ps:=["_law_shape_here", "_law_tree", "_law_filling"]) λ Ω Ω Ω Ω Ω Ω=>us3 λ Ω Ω Ω=>rfl;obtain⟨_,F47,m47⟩:=a47.go X G;have b47:=F47.binds (ps:=["_law_tree"]) λ Ω Ω Ω Ω Ω Ω=>us1 λ Ω=>rfl;obtain⟨_,F48,m48⟩:=a48.go X G;have b48:=F48.binds (ps:=["_law_tree"]) λ Ω Ω Ω Ω Ω Ω=>us1 λ Ω=>rfl;obtain⟨_,F49,m49⟩:=a49.go X G;have b49:=F49.binds (ps:=["_law_row", "_law_kind"]) λ Ω Ω Ω Ω Ω Ω=>us2 λ Ω Ω=>rfl;obtain⟨_,F50,m50⟩:=a50.go X G;have b50:=F50.binds (ps:=["_law_rule", "_law_pairs"]) λ Ω Ω Ω Ω Ω Ω=>us2 λ Ω Ω=>rfl;obtain⟨_,F51,m51⟩:=a51.go X G;have b51:=F51.binds (ps:=["_law_script", "_law_marks", "_law_cell"]) λ Ω Ω Ω Ω Ω Ω=>us3 λ Ω Ω Ω=>rfl;have k52:=zG1 l52;have F52:=zLs (st:=s_law) l52 c52 k52;have b52:=F52.binds (ps:=["_law_script"]) λ Ω Ω Ω Ω Ω Ω=>us1 λ Ω=>rfl;have m52:=W.mg_of X G a52;refine⟨W.fnOf "law" "law" (zBR s_law) (zBL s_law) (zAH s_law) .none kV52 dc52 pm52 an52 cd52 ct52,λ s v=>.of_eq rfl,λ base Ω Ω=>?_⟩;have G0:FnB l.prog w K mg base 1 "parts_begin" f0 _ _ _:=⟨zE4 (k:=0) F0 z_len zOB h_LEAF_SIGNS,b0,F0.kp,m0⟩;have G1:FnB l.prog w K mg base 2 "parts" f1 _ _ _:=⟨zKm F1 (G0.up (k:=1) (by decide)),b1,F1.kp,m1⟩;have G2:FnB l.prog w K mg base 2 "with_parts" f2 _ _ _:=⟨zMX F2 z_tuple (G0.up (k:=1) (by decide)),b2,F2.kp,m2⟩;have G3:FnB l.prog w K mg base 3 "all_parts" f3 _ _ _:=⟨zNm F3 (G1.up (k:=2) (by decide)),b3,F3.kp,m3⟩;have G4:FnB l.prog w K mg base 3 "placed_parts" f4 _ _ _:=⟨zJA F4 z_enumerate z_sorted (G1.up (k:=2) (by decide)),b4,F4.kp,m4⟩;have G18:FnB l.prog w K mg base 4 "is_loud" f18 _ _ _:=⟨zMb F18 z_any zOE h_LOUD_SIGNS (G3.up (k:=3) (by decide)),b18,F18.kp,m18⟩;have G20:FnB l.prog w K mg base 1 "begins_with_leaf" f20 _ _ _:=⟨zKt (k:=0) F20 zOB h_LEAF_SIGNS,b20,F20.kp,m20⟩;have G29:FnB l.prog w K mg base 5 "grows_loud" f29 _ _ _:=⟨zKx F29 (G18.up (k:=4) (by decide)),b29,F29.kp,m29⟩;have G21:FnB l.prog w K mg base 4 "binds_twice" f21 _ _ _:=⟨zKj F21 z_len z_set (G3.up (k:=3) (by decide)),b21,F21.kp,m21⟩;have G5:FnB l.prog w K mg base 1 "names_at" f5 _ _ _:=⟨zGx (k:=0) F5,b5,F5.kp,m5⟩;have G6:FnB l.prog w K mg base 1 "bound_in" f6 _ _ _:=⟨zGy (k:=0) F6,b6,F6.kp,m6⟩;have G7:FnB l.prog w K mg base 3 "free_names" f7 _ _ _:=⟨zFc F7 z_sorted z_enumerate (G1.up (k:=2) (by decide)) (G5.up (k:=2) (by decide)) (G6.up (k:=2) (by decide)),b7,F7.kp,m7⟩;have G22:FnB l.prog w K mg base 4 "has_free_name" f22 _ _ _:=⟨zIF F22 z_len z_any (G7.up (k:=3) (by decide)),b22,F22.kp,m22⟩;have G15:FnB l.prog w K mg base 4 "gap_parts" f15 _ _ _:=⟨zMg F15 (G4.up (k:=3) (by decide)),b15,F15.kp,m15⟩;have G16:FnB l.prog w K mg base 5 "counted_gaps" f16 _ _ _:=⟨zIG F16 z_len (G15.up (k:=4) (by decide)),b16,F16.kp,m16⟩;have G17:FnB l.prog w K mg base 6 "gaps_of" f17 _ _ _:=⟨zJE F17 (G16.up (k:=5) (by decide)),b17,F17.kp,m17⟩;have G27:FnB l.prog w K mg base 7 "has_new_gap" f27 _ _ _:=⟨zJB F27 z_any (G17.up (k:=6) (by decide)),b27,F27.kp,m27⟩;have G24:FnB l.prog w K mg base 7 "has_unlike_counts" f24 _ _ _:=⟨zI9 F24 z_any (G17.up (k:=6) (by decide)) (G16.up (k:=6) (by decide)),b24,F24.kp,m24⟩;have G28:FnB l.prog w K mg base 7 "has_wrong_kind" f28 _ _ _:=⟨zI7 F28 (G17.up (k:=6) (by decide)),b28,F28.kp,m28⟩;have G25:FnB l.prog w K mg base 5 "has_no_number_atom" f25 _ _ _:=⟨zKn F25 z_dict (G15.up (k:=4) (by decide)),b25,F25.kp,m25⟩;have G23:FnB l.prog w K mg base 1 "tells_no_piece" f23 _ _ _:=⟨zNi (k:=0) F23 z_any z_len z_set,b23,F23.kp,m23⟩;have G26:FnB l.prog w K mg base 8 "is_told_wrong" f26 _ _ _:=⟨zMY F26 z_any (G15.up (k:=7) (by decide)) (G23.up (k:=7) (by decide)) (G24.up (k:=7) (by decide)) (G25.up (k:=7) (by decide)),b26,F26.kp,m26⟩;have G30:FnB l.prog w K mg base 9 "form" f30 _ _ _:=⟨zMh (k:=8) F30 zOR hRs hIn rfl (zMz ⟨⟨_,zLN ((G20.up (k:=8) (by decide))).ok,b20⟩,F20.kp⟩ ⟨⟨_,zJn ((G21.up (k:=8) (by decide))).ok,b21⟩,F21.kp⟩ ⟨⟨_,zLP ((G22.up (k:=8) (by decide))).ok,b22⟩,F22.kp⟩ ⟨⟨_,zLL ((G26.up (k:=8) (by decide))).ok,b26⟩,F26.kp⟩ ⟨⟨_,zMy ((G27.up (k:=8) (by decide))).ok,b27⟩,F27.kp⟩ ⟨⟨_,zLO ((G28.up (k:=8) (by decide))).ok,b28⟩,F28.kp⟩ ⟨⟨_,zLM ((G29.up (k:=8) (by decide))).ok,b29⟩,F29.kp⟩),b30,F30.kp,m30⟩;have G8:FnB l.prog w K mg base 1 "same_name" f8 _ _ _:=⟨ok_no,b8,F8.kp,m8⟩;have G9:FnB l.prog w K mg base 2 "alike_leaves" f9 _ _ _:=⟨zII F9 (G8.up (k:=1) (by decide)),b9,F9.kp,m9⟩;have G10:FnB l.prog w K mg base 3 "alike_heads" f10 _ _ _:=⟨zKv F10 zOB h_LEAF_SIGNS (G9.up (k:=2) (by decide)),b10,F10.kp,m10⟩;have G11:FnB l.prog w K mg base 1 "word_of" f11 _ _ _:=⟨zIE (k:=0) F11 zOZ,b11,F11.kp,m11⟩;have G12:FnB l.prog w K mg base 2 "unused_word" f12 _ _ _:=⟨zI8 F12 zOa h_KEPT_WORDS (G11.up (k:=1) (by decide)),b12,F12.kp,m12⟩;have G13:FnB l.prog w K mg base 3 "grown_level" f13 _ _ _:=⟨zKs F13 z_len (G1.up (k:=2) (by decide)) (G2.up (k:=2) (by decide)),b13,F13.kp,m13⟩;have G14:FnB l.prog w K mg base 4 "grown_tree" f14 _ _ _:=⟨zKw F14 z_reversed (G13.up (k:=3) (by decide)),b14,F14.kp,m14⟩;have G19:FnD1 l.prog w K mg base 4 "is_quiet" f19 _ _ _:=⟨zKl F19 z_dict zOE h_LOUD_SIGNS (G3.up (k:=3) (by decide)),b190,b191,k19,m19⟩;have G31:FnB l.prog w K mg base 4 "has_let" f31 _ _ _:=⟨zJD F31 z_any (G3.up (k:=3) (by decide)),b31,F31.kp,m31⟩;have G32:FnB l.prog w K mg base 5 "check_pairs" f32 _ _ _:=⟨zKz F32 z_len m_MP (G31.up (k:=4) (by decide)),b32,F32.kp,m32⟩;have G33:FnB l.prog w K mg base 4 "begin_alike" f33 _ _ _:=⟨zK0 F33 z_all (G10.up (k:=3) (by decide)),b33,F33.kp,m33⟩;have G34:FnB l.prog w K mg base 3 "rows_within" f34 _ _ _:=⟨zMZ F34 z_range z_len z_tuple (G1.up (k:=2) (by decide)),b34,F34.kp,m34⟩;have G35:FnB l.prog w K mg base 3 "gap_for" f35 _ _ _:=⟨zNk F35 z_list (G12.up (k:=2) (by decide)),b35,F35.kp,m35⟩;have G36:FnB l.prog w K mg base 5 "common_shape" f36 _ _ _:=⟨zJF F36 z_tuple (G33.up (k:=4) (by decide)) (G34.up (k:=4) (by decide)) (G35.up (k:=4) (by decide)) (G14.up (k:=4) (by decide)),b36,F36.kp,m36⟩;have G37:FnB l.prog w K mg base 5 "kind_of" f37 _ _ _:=⟨zMc F37 z_all (G19.up (k:=4) (by decide)),b37,F37.kp,m37⟩;have G38:FnB l.prog w K mg base 6 "kinds_of" f38 _ _ _:=⟨zKu F38 z_tuple z_sorted (G37.up (k:=5) (by decide)),b38,F38.kp,m38⟩;have G39:FnB l.prog w K mg base 10 "read_off" f39 _ _ _:=⟨zMa F39 (G32.up (k:=9) (by decide)) (G36.up (k:=9) (by decide)) (G38.up (k:=9) (by decide)) (G30.up (k:=9) (by decide)),b39,F39.kp,m39⟩;have G40:FnB l.prog w K mg base 1 "_law_cell_at" f40 _ _ _:=⟨zIH (k:=0) F40 z_len,b40,F40.kp,m40⟩;have G41:=zGd (P:=l.prog) (w:=w) (base:=base) (k:=0) F41 b41 m41 z_len 5;have G42:=zHv (P:=l.prog) (w:=w) (base:=base) (k:=0) F42 b42 m42 z_isinstance z_tuple 7;have G43:FnB l.prog w K mg base 1 "_law_leaf" f43 _ _ _:=⟨zKq (k:=0) F43,b43,F43.kp,m43⟩;have G44:FnB l.prog w K mg base 2 "_law_piece" f44 _ _ _:=⟨zJC F44 (G43.up (k:=1) (by decide)),b44,F44.kp,m44⟩;have G51:FnB l.prog w K mg base 3 "_law_fillings" f51 _ _ _:=⟨zKy F51 z_range z_len (G40.up (k:=2) (by decide)) (G44.up (k:=2) (by decide)),b51,F51.kp,m51⟩;have G45:=zGf (P:=l.prog) (w:=w) (base:=base) (k:=0) F45 b45 m45 z_isinstance z_tuple 7;have G47:=zGe (P:=l.prog) (w:=w) (base:=base) (k:=0) F47 b47 m47 z_isinstance z_tuple 7;have G48:FnB l.prog w K mg base 1 "_law_head" f48 _ _ _:=⟨zMd (k:=0) F48 z_isinstance z_tuple,b48,F48.kp,m48⟩;have G49:FnB l.prog w K mg base 8 "_law_row_good" f49 _ _ _:=⟨zMe F49 (G48.up (k:=7) (by decide)) (G47.up (k:=7) (by decide)),b49,F49.kp,m49⟩;have G46:=zJ9 (P:=l.prog) (w:=w) (base:=base) (k:=0) F46 b46 m46 z_isinstance z_tuple z_len z_zip 7;have G50:FnB l.prog w K mg base 9 "_law_told" f50 _ _ _:=⟨zKo F50 z_isinstance z_tuple z_len z_dict z_sorted (G46.up (k:=8) (by decide)) (G49.up (k:=8) (by decide)),b50,F50.kp,m50⟩;exact zNj F52 z_len z_list (G40.up (k:=10) (by decide)) (G41.up (k:=10) (by decide)) (G42.up (k:=10) (by decide)) (G51.up (k:=10) (by decide)) (G45.up (k:=10) (by decide)) (G50.up (k:=10) (by decide)) (G39.up (k:=10) (by decide))
theorem walk {l:W.OpenLaw}{q:Program}{loose:List Str}{XP:(Str->Option Value)->Heap->Prop}{YP:World->Heap->Prop}{d:DefRec}{K:Params->W.Frag}(hn:l.most=some 63) (hdf:d.params.defaults=[])
  (hY:∀(w:World) (h:Heap),YP w h->(K w.params).In h)
  (F:∀(w:World) (mg:Str->Option Value) (fa:Addr) (h:Heap),(K w.params).In h->h.Ns mainGlobals mg->mg d.name=some (.ref fa) ->
   ∃fd:FuncData,(∀(s:Shared) (u:Value),BindsTo s fd ⟨[u],[]⟩ [("_law_script", u)])/\∀base:Heap,(K w.params).In base->base.Ns mainGlobals mg->FnOk l.prog w (K w.params) mg base CX0 11 fa fd ["_law_script"] (zHR (K w.params))) :
  W.WalkO q loose XP YP l.row.toRowW d [] (λ f vs=>PySem.call f vs) :=
 L2.walk_of (n:=63) (k:=11) (x := "_law_script") (CX:=λ Ω=>CX0) (sp:=λ w=>zHR (K w.params)) hn (by decide) hdf ⟨rfl,by decide,by decide⟩ hY F (λ Ω Ω a ns hl Ω hS=>⟨a,ns,rfl,hS,λ Ω=>rfl⟩) λ Ω Ω Ω Ω Ω z=>z
end
end K71
namespace PySem.W.Fast
def tw18220914900014141461:Unit:=()
def tw3206221263691527328:Unit:=()
def tw3204289077763509390:Unit:=()
def tw6386217599065193056:Unit:=()
def tw10591294083259507685:Unit:=()
def tw15899492295546634610:Unit:=()
def tw4954359068004709336:Unit:=()
def tw4933224876446784505:Unit:=()
def tw8961509967459666110:Unit:=()
def tw11905097278442041522:Unit:=()
def tw4672751270862612271:Unit:=()
def tw8001500380050989636:Unit:=()
def tw14799302067403408099:Unit:=()
def tw4577403881675648325:Unit:=()
def tw7596046580638534165:Unit:=()
def tw11243870600160482894:Unit:=()
def tw12759808384164237009:Unit:=()
def tw12466390020635677287:Unit:=()
def tw3346057546266406853:Unit:=()
def tw5267812060250298641:Unit:=()
def tw3556718413744676632:Unit:=()
def tw5066084840103984740:Unit:=()
def tw2783477192173758308:Unit:=()
def tw11222660961939842294:Unit:=()
def tw4615635685221404510:Unit:=()
def tw17462944041586699977:Unit:=()
def tw17379239905927052641:Unit:=()
def tw4774022959070657774:Unit:=()
def tw15710682635339863781:Unit:=()
def tw14859463944434470068:Unit:=()
def tw1840207502127679885:Unit:=()
def tw1440606975255810229:Unit:=()
def tw13245340374999328389:Unit:=()
def tw10950180664274728421:Unit:=()
def tw14879937042473272277:Unit:=()
def tw322682121349355258:Unit:=()
def tw10756529070884790023:Unit:=()
def tw7578445228175610124:Unit:=()
def tw15923103730807845065:Unit:=()
def tw13374289064323482551:Unit:=()
def tw3957325133380495112:Unit:=()
def tw7908910938455858813:Unit:=()
def tw7956522526098242141:Unit:=()
def tw4275956352249025069:Unit:=()
def tw11978334331679697418:Unit:=()
def tw6534160905951784894:Unit:=()
def tw15950221214110716880:Unit:=()
def tw2177198128905740875:Unit:=()
def tw16723836914873310131:Unit:=()
def tw1819725887975450477:Unit:=()
def tw10154114649865902889:Unit:=()
def tw13971321947710361891:Unit:=()
def tw13070819850807497346:Unit:=()
def tw4623192144684927914:Unit:=()
def tw18013208197114044260:Unit:=()
def tw4137881520126711039:Unit:=()
def tw13216734043398085402:Unit:=()
def tw2161889071513185545:Unit:=()
def tw13111127418886160596:Unit:=()
def tw17944781926799965559:Unit:=()
def tw12169912396527406313:Unit:=()
def tw2816417753728360853:Unit:=()
def tw3130432282670170386:Unit:=()
def tw1650738858836654755:Unit:=()
def tw209924043947076359:Unit:=()
def tw802099849932612697:Unit:=()
def tw17599585991870131861:Unit:=()
def tw4801754186673195652:Unit:=()
def tw5140496538376562736:Unit:=()
def tw9144091214412426088:Unit:=()
def tw9506292539250530604:Unit:=()
def tw7447724793805493334:Unit:=()
def tw15404519898496278813:Unit:=()
def tw2643003091460434423:Unit:=()
def tw16818107508949957890:Unit:=()
def tw3844334248352235274:Unit:=()
def tw9131890921357527881:Unit:=()
def tw1179617762740184542:Unit:=()
def tw12711821199254420871:Unit:=()
def tw17771449256246841525:Unit:=()
def tw11972775668554011343:Unit:=()
def tw5478145235869151559:Unit:=()
def tw10555936466189159872:Unit:=()
def tw587711597567480276:Unit:=()
def tw6980428333321043169:Unit:=()
def tw4792765131782199316:Unit:=()
def tw3489163641118978805:Unit:=()
def tw17766290623336172982:Unit:=()
def tw1598698319476604355:Unit:=()
def tw13149834622073509849:Unit:=()
def tw8005759587543739464:Unit:=()
def tw4360150967815179268:Unit:=()
def tw14688295347226529161:Unit:=()
def tw14202023205226915223:Unit:=()
def tw1075818105105551049:Unit:=()
def tw13842030183477846273:Unit:=()
def tw14380935485637659409:Unit:=()
def tw10438922864041779487:Unit:=()
def tw3867369707530969210:Unit:=()
def tw9656144858014616203:Unit:=()
def tw904913343690996062:Unit:=()
def tw1175714513755406309:Unit:=()
def tw9836999398770507839:Unit:=()
def tw4834924313400782665:Unit:=()
def tw10637884507655365060:Unit:=()
def tw15192479994677303236:Unit:=()
def tw6984419565323017158:Unit:=()
def tw267351619227682213:Unit:=()
def tw4909232680868898807:Unit:=()
def tw12399051015171062318:Unit:=()
end PySem.W.Fast
open PySem PySem.W PyProof.Rows K71
set_option maxRecDepth 100000 in
set_option maxHeartbeats 0 in
theorem PySem.Challenge.cw_recastle_k71_most_special_holds : PySem.Challenge.rw_recastle_k71_most_special.Holds := by
 w_on;o_law;k_head;(case hw=>w_witness2)
 k_fill
 refine K71.walk (l:=PySem.Challenge.rw_recastle_k71_most_special) rfl rfl (λ w h Y=>W.kIn_of Y) ?F
 case F =>
  intro w mg fa h KX G hmg
  refine' K71.all_mk KX G hmg (dfa ?_ ?_ ?_) (dfa ?_ ?_ ?_) (dfa ?_ ?_ ?_) (dfa ?_ ?_ ?_) (dfa ?_ ?_ ?_) (dfa ?_ ?_ ?_) (dfa ?_ ?_ ?_) (dfa ?_ ?_ ?_) (dfa ?_ ?_ ?_) (dfa ?_ ?_ ?_) (dfa ?_ ?_ ?_) (dfa ?_ ?_ ?_) (dfa ?_ ?_ ?_) (dfa ?_ ?_ ?_) (dfa ?_ ?_ ?_) (dfa ?_ ?_ ?_) (dfa ?_ ?_ ?_) (dfa ?_ ?_ ?_) (dfa ?_ ?_ ?_) ?a19 ?l19 ?c19 ?lT19 (dfa ?_ ?_ ?_) (dfa ?_ ?_ ?_) (dfa ?_ ?_ ?_) (dfa ?_ ?_ ?_) (dfa ?_ ?_ ?_) (dfa ?_ ?_ ?_) (dfa ?_ ?_ ?_) (dfa ?_ ?_ ?_) (dfa ?_ ?_ ?_) (dfa ?_ ?_ ?_) (dfa ?_ ?_ ?_) (dfa ?_ ?_ ?_) (dfa ?_ ?_ ?_) (dfa ?_ ?_ ?_) (dfa ?_ ?_ ?_) (dfa ?_ ?_ ?_) (dfa ?_ ?_ ?_) (dfa ?_ ?_ ?_) (dfa ?_ ?_ ?_) (dfa ?_ ?_ ?_) (dfa ?_ ?_ ?_) (dfa ?_ ?_ ?_) (dfa ?_ ?_ ?_) (dfa ?_ ?_ ?_) (dfa ?_ ?_ ?_) (dfa ?_ ?_ ?_) (dfa ?_ ?_ ?_) (dfa ?_ ?_ ?_) (dfa ?_ ?_ ?_) (dfa ?_ ?_ ?_) (dfa ?_ ?_ ?_) (dfa ?_ ?_ ?_) ?a52 ?l52 ?c52 ?aC0 ?lC0 ?aC1 ?lC1 ?aC2 ?lC2 ?aRs ?lRs ?lr1 ?lr2 ?lr3 ?lr4 ?lr5 ?lr6 ?lr7 ?aLt ?aMp ?z_len ?z_range ?z_isinstance ?z_tuple ?z_list ?z_any ?z_all ?z_sorted ?z_enumerate ?z_set ?z_dict ?z_reversed ?z_zip
  all_goals try k_is
#print axioms PySem.Challenge.cw_recastle_k71_most_special_holds