import PyProof.Rows.All
import Wide.All
import OpenK.AllK
import Wide.FinOn
import Lean
import PyProof.EqAt
import PyProof.EqKinds
import PyProof.TupleCall
import PyProof.NeKinds
import PyProof.AttrMissHeap
import KE.KDictOf
import KE.KDictLaws
import KE.KSortTup
import PyProof.Rows.SortWalk
import PyProof.Rows.SortShellK
import PySem.Challenge.RW_recastle_k14_filled_catches_no_name
local macro_rules|`(tactic|left)=>`(tactic|decide +kernel)
abbrev XQ:=PySem.Value->PySem.Shared->Prop
abbrev lC:=@List.length_map
abbrev mE:=@List.size_toArray
abbrev mI:=@List.getElem?_map
abbrev mK:=@List.length_append
abbrev mL:=@List.map_cons
abbrev mM:=@List.length_cons
abbrev mO:=@List.length_take
abbrev mP:=@List.take_length
abbrev mQ:=@List.map_append
abbrev mR:=@List.mem_singleton
abbrev mS:=@Option.bind_eq_some_iff
abbrev mV:=@List.take_of_length_le
abbrev mW:=@List.length_drop
abbrev mX:=@List.mem_flatMap
abbrev mY:=@List.append_assoc
abbrev nB:=@List.not_mem_nil
abbrev nC:=@Option.ne_none_iff_exists'
abbrev nF:=@List.mem_of_mem_take
abbrev nG:=@Nat.eq_zero_or_pos
abbrev nI:=@Array.getElem?_toList
abbrev nK:=@List.flatMap_append
abbrev nL:=@List.length_eq_zero_iff
abbrev nM:=@List.mem_append
abbrev nN:=@List.mem_cons
abbrev nO:=@List.getElem?_eq_getElem
abbrev nR:=@List.append_nil
abbrev nT:=@List.map_map
abbrev nV:=@List.nil_append
abbrev rA:=@Nat.min_eq_left
abbrev rB:=@Int.emod_nonneg
abbrev rC:=@Int.emod_lt_of_pos
abbrev rD:=@List.nodup_cons
abbrev rG:=@List.flatMap_cons
abbrev rH:=@List.getElem?_set_self
abbrev rL:=@PyProof.Rows.boot_tuple
abbrev rN:=@PyProof.Rows.boot_dict
abbrev rQ:=@PySem.boot_len
abbrev rR:=@PySem.F.plainAttrs_list
abbrev rS:=@PySem.F.plainAttrs_dict
abbrev rW:=@PySem.F.slot_list_extend
abbrev rX:=@PySem.F.type_list_extend
abbrev lA:=@PySem.wpAny_bind
abbrev lB:=@PySem.wpAny_pure
abbrev lD:=@PySem.wpAny_holding
abbrev lE:=@PySem.Heap.get?_push_of_some
abbrev lG:=@PySem.Heap.get?_push_size
abbrev lH:=@PySem.Heap.lt_size
abbrev lJ:=@List.getElem?_eq_some_iff
abbrev lK:=@List.mem_append
abbrev lM:=@List.mem_of_getElem?
abbrev lN:=@List.mem_cons
abbrev lO:=@List.mem_cons_self
abbrev lP:=@List.mem_cons_of_mem
abbrev lQ:=@Nat.le_refl
abbrev lR:=@Nat.ne_of_lt
abbrev lS:=@of_decide_eq_true
abbrev lU:=@decide_eq_true
abbrev lV:=@Option.map_eq_some_iff
abbrev lX:=@List.getElem?_eq_getElem
abbrev lY:=@Bool.false_ne_true
abbrev lZ:=@Nat.zero_le
abbrev mB:=@Nat.lt_of_lt_of_le
abbrev mC:=@List.mem_append_right
abbrev mD:=@List.mem_map
abbrev mF:=@Option.some.inj
abbrev mG:=@List.mem_append_left
abbrev mH:=@Nat.le_trans
abbrev mJ:=@PySem.Heap.get?_update_self
set_option Elab.async false
set_option tactic.hygienic false
set_option linter.all false
set_option maxRecDepth 100000
set_option maxHeartbeats 4000000
namespace L2
open PySem PySem.Spec PyProof.Rows
abbrev Key:=Sum Int Str
noncomputable def keyIs:Key->Value->Bool
 |.inl k,v=>Value.isInt k v
 |.inr x,v=>Value.isStrOf x v
noncomputable def keyH (w:World):Key->Int
 |.inl k=>hashInt k
 |.inr x=>hashStr w x
theorem zAr:∀{k:Key}{v:Value},keyIs k v=true->(∃i t,k=Sum.inl i/\v=Value.int i t)\/(∃x t,k=Sum.inr x/\v=Value.str x t)
 |.inl i,v,h=>by
  obtain⟨t,e⟩:=Value.isInt_shape (k:=i) (v:=v) h;exact .inl ⟨i,t,rfl,e⟩
 |.inr x,v,h=>by
  obtain⟨t,e⟩:=Value.isStrOf_shape (x:=x) (v:=v) h;exact .inr ⟨x,t,rfl,e⟩
theorem zKI (i:Int) (t:Tok):keyIs (.inl i) (.int i t)=true:=by simp[keyIs,Value.isInt]
theorem zKH (x:Str) (t:Tok):keyIs (.inr x) (.str x t)=true:=by simp[keyIs,Value.isStrOf]
theorem zN2 (a b:Int):decide ((Sum.inl a:Key)=Sum.inl b)=(a == b):=by
 by_cases e:a=b
 ·subst e;simp
 ·have h:¬(Sum.inl a:Key)=Sum.inl b:=λ q=>e (Sum.inl.inj q)
  rw[decide_eq_false h];exact(beq_eq_false_iff_ne.mpr e).symm
theorem zNz (a b:Str):decide ((Sum.inr a:Key)=Sum.inr b)=decide (a=b):=by
 by_cases e:a=b
 ·subst e;simp
 ·have h:¬(Sum.inr a:Key)=Sum.inr b:=λ q=>e (Sum.inr.inj q)
  rw[decide_eq_false h,decide_eq_false e]
theorem zN1 (a:Int) (b:Str):decide ((Sum.inl a:Key)=Sum.inr b)=false:=decide_eq_false (λ q=>nomatch q)
theorem zN0 (a:Str) (b:Int):decide ((Sum.inr a:Key)=Sum.inl b)=false:=decide_eq_false (λ q=>nomatch q)
noncomputable def zAd (prog:Program) (w:World):PySem.KeyKind prog w Key where
 is:=keyIs
 hash:=keyH w
 inj:=λ v a b ha hb=>by
  rcases zAr ha with ⟨i,t,rfl,rfl⟩|⟨x,t,rfl,rfl⟩
  ·rcases zAr hb with ⟨j,u,rfl,e⟩|⟨y,u,rfl,e⟩
   ·injection e with e1 _;rw[e1]
   ·exact nomatch e
  ·rcases zAr hb with ⟨j,u,rfl,e⟩|⟨y,u,rfl,e⟩
   ·exact nomatch e
   ·injection e with e1 _;rw[e1]
 byValue:=λ k v h=>by
  rcases zAr h with ⟨i,t,rfl,rfl⟩|⟨x,t,rfl,rfl⟩<;>rfl
 pyHash:=λ hv h=>by
  rcases zAr hv with ⟨i,t,rfl,rfl⟩|⟨x,t,rfl,rfl⟩
  ·exact wpAny_pyHash_int h
  ·exact wpAny_pyHash_str h
 eqBool:=λ hu hv h=>by
  rcases zAr hu with ⟨i,t,rfl,rfl⟩|⟨x,t,rfl,rfl⟩
  ·rcases zAr hv with ⟨j,u,rfl,rfl⟩|⟨y,u,rfl,rfl⟩
   ·rw[zN2] at h;exact wpAny_eqBool_int h
   ·rw[zN1] at h;exact SeqAt.EqAt.int_str i t y u _ _ _ _ h
  ·rcases zAr hv with ⟨j,u,rfl,rfl⟩|⟨y,u,rfl,rfl⟩
   ·rw[zN0] at h;exact SeqAt.EqAt.str_int x t j u _ _ _ _ h
   ·rw[zNz] at h;exact wpAny_eqBool_str h
 «strs»:=λ k x t v h=>by
  rcases zAr h with ⟨i,u,rfl,e⟩|⟨y,u,rfl,e⟩
  ·exact nomatch e
  ·injection e with e1 _
   subst e1;cases v<;>rfl
theorem zHV (prog:Program) (w:World) (i:Int) (t:Tok):(zAd prog w).is (.inl i) (.int i t)=true:=zKI i t
theorem zHU (prog:Program) (w:World) (x:Str) (t:Tok):(zAd prog w).is (.inr x) (.str x t)=true:=zKH x t
inductive V where
 |non|bl (b:Bool)|int (i:Int)|str (x:Str)|byt (b:Array UInt8)|flt (b:UInt64)|ref (a:Addr)|ty (n:String)
 deriving DecidableEq
def RelV:V->Value->Prop
 |.non,u=>u=Value.none
 |.bl b,u=>u=Value.bool b
 |.int i,u=>∃t,u=Value.int i t
 |.str x,u=>∃t,u=Value.str x t
 |.byt b,u=>∃t,u=Value.bytes b t
 |.flt b,u=>∃t,u=Value.float b t
 |.ref a,u=>u=Value.ref a
 |.ty n,u=>u=Value.type n
abbrev Vals:List V->List Value->Prop:=Paired RelV
theorem Vals.length {xs:List V}{us:List Value}(r:Vals xs us):xs.length=us.length:=Paired.length r
theorem Vals.get {xs:List V}{us:List Value}{i:Nat}{x:V}(h:Vals xs us):xs[i]?=some x->∃u,us[i]?=some u/\RelV x u:=by
 induction h generalizing i with
 |nil=>exact λ e=>nomatch e
 |cons h t ih=>cases i with
  |zero=>exact λ e=>⟨_,rfl,by cases e;exact h⟩
  |succ i=>exact λ e=>ih (i:=i) (by simpa using e)
theorem Vals.set {x:V}{u:Value}(r:RelV x u):∀{xs:List V}{us:List Value}(i:Nat),Vals xs us->Vals (xs.set i x) (us.set i u)
 |_,_,_,.nil=>.nil
 |_,_,0,.cons _ t=>.cons r t
 |_,_,i+1,.cons q t=>.cons q (Vals.set r i t)
theorem Vals.append {xs ys:List V}{us ws:List Value}(h:Vals xs us) (s:Vals ys ws):Vals (xs++ys) (us++ws):=by
 induction h with
 |nil=>exact s
 |cons r t ih=>exact .cons r ih
theorem Vals.take:∀{xs:List V}{us:List Value}(n:Nat),Vals xs us->Vals (xs.take n) (us.take n)
 |_,_,0,_=>.nil
 |_,_,_+1,.nil=>.nil
 |_,_,n+1,.cons r t=>.cons r (Vals.take n t)
theorem Vals.drop:∀{xs:List V}{us:List Value}(n:Nat),Vals xs us->Vals (xs.drop n) (us.drop n)
 |_,_,0,r=>r
 |_,_,_+1,.nil=>.nil
 |_,_,n+1,.cons _ t=>Vals.drop n t
def RelO:Option V->Option Value->Prop
 |some v,some u=>RelV v u
 |none,none=>True
 |_,_=>False
def KV {κ:Type}:List (κ × V)->List (κ × Value)->Prop:=Paired λ(p:κ × V) (q:κ × Value)=>p.1=q.1/\RelV p.2 q.2
noncomputable def kV:Key->V
 |.inl i=>.int i
 |.inr x=>.str x
inductive HO where
 |lst (xs:List V)
 |tup (xs:List V)
 |dK (kvs:List (Key × V))|dT (kvs:List (List Key × V))
 |set (S:Int->Bool) (n:Nat)
 |ins (C dx:Addr) (fs:List (Str × V))
 |own (x:Addr)
 |xd (fs:List (Str × V))
 |met (f x:Addr)
 |rng (lo hi:Int)
 |frz (o:Obj) (u:HO)
 |tbl (ps:Array Value)
 |ext (φ:Heap->Prop)
abbrev Hp:=Addr->Option HO
noncomputable def upd (H:Hp) (a:Addr) (o:HO):Hp:=λ b=>if b=a then some o else H b
theorem zAB {H:Hp}{a:Addr}{o:HO}:upd H a o a=some o:=by unfold upd;rw[if_pos rfl]
theorem zAK {H:Hp}{a b:Addr}{o:HO}(h:b≠a):upd H a o b=H b:=by unfold upd;rw[if_neg h]
theorem zMb {H:Hp}{a:Addr}{o u:HO}:upd (upd H a o) a u=upd H a u:=by
 funext b;unfold upd;split<;>rfl
theorem ne_of {H:Hp}{a b:Addr}{o u:HO}(h:H a=some o) (h':H b=some u) (d:o≠u):a≠b:=by
 intro e;subst e;rw[h] at h';exact d (mF h')
theorem zAJ {H:Hp}{a b:Addr}{o:HO}(h:H a=some o) (h':H b=none):a≠b:=by
 intro e;subst e;rw[h] at h';cases h'
section
variable (P:Program) (w:World)
def ObjOk (H:Hp) (h:Heap) (a:Addr):HO->Prop
 |.lst xs=>xs.length<=sizeLine/\∃(its:List Value) (n:Nat),Vals xs its/\h.get? a=some { cls:=.type "list", data:=.seq its.toArray n }
 |.tup xs=>xs.length<=sizeLine/\∃its:List Value,Vals xs its/\IsTup h a its.toArray
 |.dK kvs=>kvs.length<=sizeLine/\(a == sysModules)=false/\∃vs,KV kvs vs/\h.DictOf (zAd P w) a vs
 |.dT kvs=>kvs.length<=sizeLine/\(a == sysModules)=false/\∃xs:List (List Key × Addr × Value),
   Paired (λ(p:List Key × V) (q:List Key × Addr × Value)=>p.1=q.1/\H q.2.1=some (.tup (p.1.map kV))/\RelV p.2 q.2.2) kvs xs /\
   ∃o es ep,h.get? a=some o/\o.ExactDict/\o.data = .dict es ep/\es.toList=xs.map (entryOfKey (tupleKind (zAd P w)))/\(xs.map (·.1)).Nodup
 |.set S n=>h.SetOf (intKind P w) a S n
 |.ins C dx fs=>H dx=some (.own a)/\fs.length<=1000/\dx≠a/\h.get? a=some (W.instObj C dx) /\
   ∃mA,h.Ns1 dx mA/\(∀f,RelO (fs.lookup f) (mA f))/\PySem.Within mA (fs.map (·.1))
 |.own _=>∃o,h.get? a=some o
 |.xd fs=>∃mA,h.Ns1 a mA/\∀f,RelO (fs.lookup f) (mA f)
 |.rng lo hi=>∃t u v,h.get? a=some { cls:=.type "range", data:=.fields #[.int lo t,.int hi u,.int 1 v] }
 |.frz o u=>h.get? a=some o/\ObjOk H h a u
 |.tbl ps=>h.get? a=some { cls:=.none,data:=.fields ps }
 |.met f x=>h.get? a=some (W.methodObj (.ref f) (.ref x))
 |.ext φ=>φ h/\(∃o,h.get? a=some o)/\∀h1 h2:Heap,φ h1->(∀o,h1.get? a=some o->h2.get? a=some o)->φ h2
def HOk (H:Hp) (h:Heap):Prop:=∀a o,H a=some o->ObjOk P w H h a o
end
section
variable {P:Program}{w:World}{H H':Hp}{h h':Heap}{a:Addr}{o:HO}
theorem ObjOk.lt (x:ObjOk P w H h a o):a<h.objs.size:=by
 cases o with
 |lst xs=>obtain⟨_,_,_,_,e⟩:=x;exact lH e
 |tup xs=>obtain⟨_,_,_,p⟩:=x;exact p.lt
 |dK kvs=>obtain⟨_,_,_,_,o,_,_,e,_⟩:=x;exact lH e
 |dT kvs=>obtain⟨_,_,_,_,o,_,_,e,_⟩:=x;exact lH e
 |set S n=>obtain⟨o,_,_,_,e,_⟩:=x;exact lH e
 |ins C dx fs=>obtain⟨_,_,_,e,_⟩:=x;exact lH e
 |own y=>obtain⟨_,e⟩:=x;exact lH e
 |xd fs=>obtain⟨_,⟨_,_,_,e,_⟩,_⟩:=x;exact lH e
 |rng lo hi=>obtain⟨_,_,_,e⟩:=x;exact lH e
 |frz ob u=>obtain⟨e,_⟩:=x;exact lH e
 |tbl ps=>exact lH (show h.get? a=some _ from x)
 |met f y=>exact lH (show h.get? a=some _ from x)
 |ext φ=>obtain⟨_,⟨_,e⟩,_⟩:=x;exact lH e
theorem Paired.mapP {α β:Type}{F G:α->β->Prop}{l₁:List α}{l₂:List β}(h:Paired F l₁ l₂) (f:∀a b,F a b->G a b):Paired G l₁ l₂:=by
 induction h with
 |nil=>exact .nil
 |cons r t ih=>exact .cons (f _ _ r) ih
theorem ObjOk.stay (x:ObjOk P w H h a o) (k:∀b u,(b=a\/H b=some (.own a))->h.get? b=some u->h'.get? b=some u)
  (ho:∀b,H b=some (.own a)->H' b=some (.own a)) (ht:∀b xs,H b=some (.tup xs)->H' b=some (.tup xs)):ObjOk P w H' h' a o:=by
 induction o with
 |lst xs=>obtain⟨z,its,n,r,e⟩:=x;exact⟨z,its,n,r,k _ _ (.inl rfl) e⟩
 |tup xs=>obtain⟨z,its,r,ob,e,c⟩:=x;exact⟨z,its,r,ob,k _ _ (.inl rfl) e,c⟩
 |dK kvs=>obtain⟨z,y,vs,r,ob,es,ep,e,c⟩:=x;exact⟨z,y,vs,r,ob,es,ep,k _ _ (.inl rfl) e,c⟩
 |dT kvs =>
  obtain⟨z,y,xs,r,ob,es,ep,e,c⟩:=x;exact⟨z,y,xs,Paired.mapP r λ p q z=>⟨z.1,ht _ _ z.2.1,z.2.2⟩,ob,es,ep,k _ _ (.inl rfl) e,c⟩
 |set S n=>obtain⟨ob,es,ep,t,e,c⟩:=x;exact⟨ob,es,ep,t,k _ _ (.inl rfl) e,c⟩
 |ins C dx fs =>
  obtain⟨d,z,ne,e,mA,⟨od,es,ep,e2,c⟩,r⟩:=x;exact⟨ho _ d,z,ne,k _ _ (.inl rfl) e,mA,⟨od,es,ep,k _ _ (.inr d) e2,c⟩,r⟩
 |own y=>obtain⟨ob,e⟩:=x;exact⟨ob,k _ _ (.inl rfl) e⟩
 |xd fs=>obtain⟨mA,⟨od,es,ep,e,c⟩,r⟩:=x;exact⟨mA,⟨od,es,ep,k _ _ (.inl rfl) e,c⟩,r⟩
 |rng lo hi=>obtain⟨t,u,v,e⟩:=x;exact⟨t,u,v,k _ _ (.inl rfl) e⟩
 |frz ob u ih=>obtain⟨e,q⟩:=x;exact⟨k _ _ (.inl rfl) e,ih q⟩
 |tbl ps =>
  have e:h.get? a=some { cls:=.none,data:=.fields ps }:=x;show h'.get? a=some { cls:=.none,data:=.fields ps };exact k a _ (.inl rfl) e
 |met f y =>
  have e:h.get? a=some (W.methodObj (.ref f) (.ref y)):=x;show h'.get? a=some (W.methodObj (.ref f) (.ref y));exact k a _ (.inl rfl) e
 |ext φ=>obtain⟨p,⟨o,e⟩,st⟩:=x;exact⟨st _ _ p λ o q=>k _ _ (.inl rfl) q,⟨o,k _ _ (.inl rfl) e⟩,st⟩
theorem HOk.lt (x:HOk P w H h) (e:H a=some o):a<h.objs.size:=(x a o e).lt
theorem HOk.fresh (x:HOk P w H h) (e:h.objs.size<=a):H a=none:=by
 cases q:H a with
 |none=>rfl
 |some u=>exact absurd (mB (x.lt q) e) (Nat.lt_irrefl _)
theorem HOk.kept (x:HOk P w H h) (k:∀b u,h.get? b=some u->h'.get? b=some u):HOk P w H h':=λ a o e =>
 (x a o e).stay (λ b u Ω q=>k b u q) (λ Ω q=>q) λ Ω Ω q=>q
theorem HOk.laid (x:HOk P w H h) (k:∀b u,h.get? b=some u->h'.get? b=some u) (hp:h.objs.size<=a) (new:ObjOk P w (upd H a o) h' a o):HOk P w (upd H a o) h':=λ b u e=>by
 have hn:=x.fresh hp
 by_cases hb:b=a
 ·subst hb;rw[zAB] at e;cases e;exact new
 ·rw[zAK hb] at e
  exact(x b u e).stay (λ c v Ω q=>k c v q) (λ c q=>by rw[zAK (zAJ q hn)];exact q) λ c xs q=>by rw[zAK (zAJ q hn)];exact q
end
def Rd (H:Hp) (a:Addr) (u:HO):Prop:=H a=some u\/∃o,H a=some (.frz o u)
theorem Rd.ok {P:Program}{w:World}{H:Hp}{h:Heap}{a:Addr}{u:HO}(r:Rd H a u) (x:HOk P w H h):ObjOk P w H h a u:=by
 rcases r with r|⟨o,r⟩
 ·exact x a u r
 ·obtain⟨_,q⟩:=x a _ r
  exact q
def Mut:Option HO->Prop
 |some (.lst _)=>True
 |some (.dK _)=>True
 |some (.dT _)=>True
 |some (.set _ _)=>True
 |some (.ins _ _ _)=>True
 |some (.ext _)=>True
 |_=>False
section
variable {P:Program}{w:World}{H:Hp}{h h':Heap}{x e:Addr}{o':HO}
theorem HOk.write (ok:HOk P w H h) (mu:Mut (H x)) (he:e=x\/H e=some (.own x)) (k:∀b u,b≠e->h.get? b=some u->h'.get? b=some u) (heo:∃u,h'.get? e=some u)
  (new:ObjOk P w (upd H x o') h' x o'):HOk P w (upd H x o') h':=λ b u q=>by
 have nown:∀c y,H c=some (.own y)->c≠x:=λ c y r z=>by subst z;rw[r] at mu;exact mu
 have ntup:∀c xs,H c=some (.tup xs)->c≠x:=λ c xs r z=>by subst z;rw[r] at mu;exact mu
 by_cases hb:b=x
 ·subst hb;rw[zAB] at q;cases q;exact new
 ·rw[zAK hb] at q
  by_cases hbe:b=e
  ·have q':H b=some (.own x):=by
    rcases he with z|z
    ·exact absurd (hbe.trans z) hb
    ·rw[hbe];exact z
   rw[q] at q';cases q';obtain⟨v,hv⟩:=heo;exact⟨v,by rw[hbe];exact hv⟩
  ·refine(ok b u q).stay (λ c v hc r=>k c v ?_ r) (λ c r=>by rw[zAK (nown c b r)];exact r) λ c xs r=>by rw[zAK (ntup c xs r)];exact r
   rcases hc with rfl|hc
   ·exact hbe
   ·rintro rfl
    rcases he with z|z
    ·exact nown c b hc z
    ·rw[hc] at z;cases z;exact hb rfl
end
structure Un (fs ex:List Addr) (H H':Hp) (h h':Heap):Prop where
 keep:∀b o,h.get? b=some o->H b=none->b∉fs->b∉ex->h'.get? b=some o
 slot:∀b o,h.get? b=some o->H b=none->b∈fs->b∉ex->∃sl,h'.get? b=some { o with slots:=sl }
 free:∀b o,h.get? b=some o->H b=none->b∉ex->H' b=none
 there:∀b o,h.get? b=some o->b∉ex->∃o',h'.get? b=some o'
 tups:∀b xs,H b=some (.tup xs)->H' b=some (.tup xs)
 frzs:∀b o u,H b=some (.frz o u)->H' b=some (.frz o u)
 tbls:∀b ps,H b=some (.tbl ps)->∃more,H' b=some (.tbl (ps++more))
section
variable {fs fs' ex ex':List Addr}{H H1 H2:Hp}{h h1 h2 h':Heap}{a x e:Addr}{o:HO}
theorem Un.any (u:Un fs ex H H1 h h1) {b:Addr}{ob:Obj}(q:h.get? b=some ob) (n:H b=none) (hx:b∉ex):∃sl,h1.get? b=some { ob with slots:=sl }:=by
 by_cases hb:b∈fs
 ·exact u.slot b ob q n hb hx
 ·exact⟨ob.slots,u.keep b ob q n hb hx⟩
theorem Un.kept (k:∀b u,h.get? b=some u->h'.get? b=some u):Un fs ex H H h h' :=
 ⟨λ b ob q Ω Ω Ω=>k b ob q,λ b ob q Ω Ω Ω=>⟨ob.slots,k b ob q⟩,λ Ω Ω Ω n Ω=>n,λ b ob q Ω=>⟨ob,k b ob q⟩,λ Ω Ω q=>q,λ Ω Ω Ω q=>q,λ Ω ps q=>⟨#[],by rw[q];simp⟩⟩
theorem Un.refl:Un fs ex H H h h:=Un.kept λ Ω Ω q=>q
theorem Un.laid (k:∀b u,h.get? b=some u->h'.get? b=some u) (hp:h.objs.size<=a) (hn:H a=none):Un fs ex H (upd H a o) h h' where
 keep:=λ b u q Ω Ω Ω=>k b u q
 slot:=λ b u q Ω Ω Ω=>⟨u.slots,k b u q⟩
 free:=λ b u q n Ω=>by rw[zAK (Nat.ne_of_lt (Nat.lt_of_lt_of_le (Heap.lt_size q) hp))];exact n
 there:=λ b u q Ω=>⟨u,k b u q⟩
 tups:=λ b xs q=>by rw[zAK (zAJ q hn)];exact q
 frzs:=λ b u xs q=>by rw[zAK (zAJ q hn)];exact q
 tbls:=λ b ps q=>⟨#[],by rw[zAK (zAJ q hn),q];simp⟩
theorem Un.write (mu:Mut (H x)) (he:e=x\/H e=some (.own x)) (k:∀b u,b≠e->h.get? b=some u->h'.get? b=some u) (heo:∃u,h'.get? e=some u):Un fs ex H (upd H x o) h h':=by
 have hx:∀b,H b=none->b≠x:=λ b n z=>by subst z;rw[n] at mu;exact mu
 have hb:∀b,H b=none->b≠e:=λ b n z=>by
  subst z;rcases he with r|r
  ·exact hx b n r
  ·rw[n] at r;cases r
 have hm:∀b u,H b=some u->¬Mut (some u)->b≠x:=λ b u q nm z=>by subst z;rw[q] at mu;exact nm mu
 refine⟨λ b u q n Ω Ω=>k b u (hb b n) q,λ b u q n Ω Ω=>⟨u.slots,k b u (hb b n) q⟩,λ b u q n Ω=>by rw[zAK (hx b n)];exact n,λ b u q Ω=>?_,
  λ b xs q=>by rw[zAK (hm b _ q λ z=>z)];exact q,λ b u xs q=>by rw[zAK (hm b _ q λ z=>z)];exact q,λ b ps q=>⟨#[],by rw[zAK (hm b _ q λ z=>z),q];simp⟩⟩
 by_cases hbe:b=e
 ·subst hbe;exact heo
 ·exact⟨u,k b u hbe q⟩
end
noncomputable def trk (h:Heap) (H:Hp):List Addr:=(List.range h.objs.size).filter λ a=>(H a).isSome
noncomputable def hidT (h:Heap) (H:Hp):Heap:=W.hideAll h (trk h H)
theorem zKQ (h:Heap) (H:Hp):(hidT h H).objs.size=h.objs.size:=W.hideAll_size _ _
theorem zLr {h:Heap}{H:Hp}{b:Addr}{o:Obj}(e:h.get? b=some o) (n:H b=none):(hidT h H).get? b=some o :=
 W.hideAll_get _ e λ hm=>by
  have q:(H b).isSome=true:=(List.mem_filter.mp hm).2;rw[n] at q;simp at q
theorem zMz {h:Heap}{H:Hp}{b:Addr}{o:Obj}(e:(hidT h H).get? b=some o):h.get? b=some o/\H b=none:=by
 have e':h.get? b=some o:=W.of_hideAll (trk h H) e;refine⟨e',?_⟩;cases q:H b with
 |none=>rfl
 |some x =>
  have hm:b∈trk h H:=List.mem_filter.mpr ⟨List.mem_range.mpr (lH e'),by simp[q]⟩;have z:(hidT h H).get? b=none:=W.hideAll_none (trk h H) hm;rw[z] at e;cases e
noncomputable def zNQ (g h:Heap) (L:Addr):List (Addr × Obj):=(List.range h.objs.size).filterMap λ a=>if a=L\/(g.get? a).isSome=true then none else (h.get? a).map λ o=>(a,o)
noncomputable def rest (g h:Heap) (L d:Addr):List (Addr × Obj):=(zNQ g h L).filter λ p=>decide (p.1≠d)
structure Mod (K:W.Frag) (mg:Str->Option Value) (base:Heap):Prop where
 kin:K.In base
 glob:base.Ns mainGlobals mg
 blt:∃mb,base.Ns builtinsNs mb/\∀x:Str,x ≠ "__name__" -> mb x=bootBuiltins x
 nolimit:base.NoLimit
structure Cx where
 prog:Program
 w:World
 K:W.Frag
 mg:Str->Option Value
 base:Heap
 A:Around
 N:List Str
 s₀:Shared
 H₀:Hp
 env:Env
 outer:List Env
 stack:List Env
 ex:List Addr
 fn:Str->Bool
 calm:Bool
 pn:List (Addr × Obj)
 xe:Value->Shared->Prop
def frs (l:List Env):List Addr:=l.filterMap (·.frame)
abbrev Cx.fs (X:Cx):List Addr:=frs X.outer
def Vis (sc:Scope) (x:Str):Prop:=sc.names.lookup x=some .local\/sc.names.lookup x=some .cell\/sc.names.lookup x=some .free
def Loc (sc:Scope) (x:Str):Prop:=sc.names.lookup x=some .local\/sc.names.lookup x=some .cell
def Look (env:Env) (h:Heap) (m:Str->Option Value) (x:Str) (u:Value):Prop :=
 (env.kindOf x=some .local/\m x=some u)\/((env.kindOf x=some .cell\/env.kindOf x=some .free)/\∃c,env.cells.lookup x=some c/\h.IsCell c (some u))
structure Cx.Ok (X:Cx):Prop where
 mod:Mod X.K X.mg X.base
 kind:X.env.scope.kind = .function
 glob:X.env.globals=mainGlobals
 blt:X.env.builtins=builtinsNs
 above:X.s₀.heap.objs.size<=X.env.locals
 inj:∀x y c,X.env.cells.lookup x=some c->X.env.cells.lookup y=some c->x=y
 has:∀x,(X.env.kindOf x=some .cell\/X.env.kindOf x=some .free)->∃c,X.env.cells.lookup x=some c
 cab:∀x c,X.fn x=true->X.env.cells.lookup x=some c->X.s₀.heap.objs.size<=c
 hd:X.calm=true->X.A.handled=none
 frames:X.A.frames=some X.stack
 stk:X.stack=X.outer\/(X.stack=X.env::X.outer/\X.env.frame=some X.env.locals)
 exf:∀b∈X.ex,b≠X.env.locals/\∀x c,X.env.cells.lookup x=some c->c≠b
 bs:∀b o,X.base.get? b=some o->X.s₀.heap.get? b=some o/\X.H₀ b=none
 bsz:X.base.objs.size<=X.s₀.heap.objs.size
 noex:∀b o,X.base.get? b=some o->b∉X.ex
 exfs:∀b∈X.ex,b∉X.fs
 funs:X.s₀.heap.FunFrames X.base X.outer
 frf:∀b∈X.fs,X.H₀ b=none
structure Inv (X:Cx) (jP:List (Addr × Obj)) (σ:List (Option V)) (H:Hp) (s:Shared):Prop where
 ok:X.Ok
 os:s.os=X.s₀.os
 bare:AllBare s.gens
 base:Un X.fs X.ex X.H₀ H X.s₀.heap s.heap
 loc:∃m,s.heap.Ns X.env.locals m/\∀(i:Nat) (x:Str) (v:V),X.N[i]?=some x->σ[i]?=some (some v)->Vis X.env.scope x->∃u,RelV v u/\Look X.env s.heap m x u
 cell:∀x c,X.env.cells.lookup x=some c->∃v,s.heap.IsCell c v
 free:H X.env.locals=none
 freeC:∀x c,X.env.cells.lookup x=some c->H c=none
 pin:∀p∈X.pn++jP,s.heap.get? p.1=some p.2/\H p.1=none/\p.1≠X.env.locals/\p.1∉X.fs/\∀v,p.2.data ≠ .cell v
 hok:HOk X.prog X.w H s.heap
 len:σ.length=X.N.length
section
variable {X:Cx}{jP:List (Addr × Obj)}{σ:List (Option V)}{H H':Hp}{s:Shared}{h':Heap}
theorem Cx.Ok.nofr (ok:X.Ok) {b:Addr}{o:Obj}(e:X.base.get? b=some o):b∉X.fs:=λ hb=>by
 have:=(ok.funs.mem hb).1;rw[e] at this;cases this
theorem Inv.bs (I:Inv X jP σ H s):∀b o,X.base.get? b=some o->s.heap.get? b=some o/\H b=none:=λ b o e =>
 ⟨I.base.keep b o (I.ok.bs b o e).1 (I.ok.bs b o e).2 (I.ok.nofr e) (I.ok.noex b o e),I.base.free b o (I.ok.bs b o e).1 (I.ok.bs b o e).2 (I.ok.noex b o e)⟩
theorem Inv.bk (I:Inv X jP σ H s):∀b o,X.base.get? b=some o->s.heap.get? b=some o:=λ b o e=>(I.bs b o e).1
theorem Inv.mod (I:Inv X jP σ H s):Mod X.K X.mg X.base:=I.ok.mod
theorem Inv.kIn (I:Inv X jP σ H s):X.K.In s.heap:=I.ok.mod.kin.keeps I.bk
theorem Inv.lt (I:Inv X jP σ H s):X.env.locals<s.heap.objs.size:=let ⟨_,hn,_⟩:=I.loc;hn.lt
theorem Inv.sz (I:Inv X jP σ H s):X.s₀.heap.objs.size<=s.heap.objs.size:=mH I.ok.above (Nat.le_of_lt I.lt)
theorem Inv.nofs (I:Inv X jP σ H s) {a:Addr}(h:s.heap.objs.size<=a):a∉X.fs:=λ hb=>by
 obtain⟨_,o,ho,_⟩:=I.ok.funs.mem hb;exact absurd (mB (lH ho) (mH I.sz h)) (Nat.lt_irrefl _)
theorem Inv.cne (I:Inv X jP σ H s):∀x c,X.env.cells.lookup x=some c->c≠X.env.locals:=λ x c e z=>by
 obtain⟨v,o,ho,hd⟩:=I.cell x c e;obtain⟨m,⟨o',es,ep,ho',hd',_⟩,_⟩:=I.loc;rw[z,ho'] at ho;cases ho;rw[hd'] at hd;cases hd
theorem Inv.funs (I:Inv X jP σ H s):s.heap.FunFrames X.base X.outer:=by
 have all:∀(l:List Env),(∀b∈frs l,b∈X.fs)->X.s₀.heap.FunFrames X.base l->s.heap.FunFrames X.base l:=by
  intro l
  induction l with
  |nil=>intro _ _;trivial
  |cons env r ih =>
   intro hs hl;obtain⟨hk,⟨L,o,hf,hn,ho,hd⟩,hr⟩:=hl;have hL:L∈X.fs:=hs L (by unfold frs;rw[List.filterMap_cons,hf];exact lO);obtain⟨sl,e⟩:=I.base.slot L o ho (I.ok.frf L hL) hL λ z=>I.ok.exfs L z hL;exact⟨hk,⟨L,_,hf,hn,e,hd⟩,ih (λ b hb=>hs b (by unfold frs;rw[List.filterMap_cons,hf];exact lP _ hb)) hr⟩
 exact all X.outer (λ Ω hb=>hb) I.ok.funs
theorem Inv.stack (I:Inv X jP σ H s):s.heap.FunFrames X.base X.stack:=by
 rcases I.ok.stk with e|⟨e,hf⟩
 ·rw[e];exact I.funs
 ·rw[e]
  obtain⟨m,hn,_⟩:=I.loc;refine .cons (by rw[I.ok.kind];decide) hf hn ?_ I.funs;exact Heap.get?_none_of_le (mH I.ok.bsz I.ok.above)
theorem Inv.stkSub (I:Inv X jP σ H s):∀b∈frs X.stack,b∈X.env.locals::X.fs:=λ b hb=>by
 rcases I.ok.stk with e|⟨e,hf⟩
 ·rw[e] at hb;exact lP _ hb
 ·rw[e] at hb
  unfold frs at hb;rw[List.filterMap_cons,hf] at hb;exact hb
theorem Inv.stkFree (I:Inv X jP σ H s):∀b∈frs X.stack,H b=none:=λ b hb=>by
 rcases lN.mp (I.stkSub b hb) with e|hb
 ·rw[e];exact I.free
 ·obtain⟨_,o,ho,_⟩:=I.ok.funs.mem hb
  exact I.base.free b o ho (I.ok.frf b hb) λ z=>I.ok.exfs b z hb
theorem Inv.step {g':Array GenState}{t':Nat}{d':Drawn}{ch:List Addr}(I:Inv X jP σ H s)
  (hch:∀b∈ch,(b∈X.ex\/X.s₀.heap.objs.size<=b)/\b≠X.env.locals/\(∀x c,X.env.cells.lookup x=some c->c≠b)/\∀p∈X.pn++jP,p.1≠b)
  (keep:∀b o,b≠X.env.locals->b∉X.fs->b∉ch->s.heap.get? b=some o->H b=none->h'.get? b=some o)
  (slot:∀b o,b≠X.env.locals->b∈X.fs->b∉ch->s.heap.get? b=some o->H b=none->∃sl,h'.get? b=some { o with slots:=sl }) (free:∀b o,b∉ch->s.heap.get? b=some o->H b=none->H' b=none)
  (there:∀b o,b∉ch->s.heap.get? b=some o->∃o',h'.get? b=some o')
  (tups:∀b xs,H b=some (.tup xs)->H' b=some (.tup xs)) (frzs:∀b o u,H b=some (.frz o u)->H' b=some (.frz o u)) (tbls:∀b ps,H b=some (.tbl ps)->∃more,H' b=some (.tbl (ps++more)))
  (ns:∀m,s.heap.Ns X.env.locals m->h'.Ns X.env.locals m) (hok:HOk X.prog X.w H' h') (hg:AllBare g') :
  Inv X jP σ H' { s with heap:=h',gens:=g',drawn:=d',toks:=t' }:=by
 have neL:∀b o,X.s₀.heap.get? b=some o->b≠X.env.locals:=λ b o e=>lR (mB (lH e) I.ok.above)
 have neC:∀b o,X.s₀.heap.get? b=some o->b∉X.ex->b∉ch:=λ b o e hx hb=>by
  rcases (hch b hb).1 with z|z
  ·exact hx z
  ·exact absurd (mB (lH e) z) (Nat.lt_irrefl _)
 have cellK:∀x c,X.env.cells.lookup x=some c->∀v,s.heap.IsCell c v->h'.IsCell c v:=λ x c e v ⟨o,ho,hd⟩=>by
  have nch:c∉ch:=λ z=>(hch c z).2.2.1 x c e rfl
  by_cases hc:c∈X.fs
  ·obtain⟨sl,q⟩:=slot c o (I.cne x c e) hc nch ho (I.freeC x c e)
   exact⟨_,q,hd⟩
  ·exact⟨o,keep c o (I.cne x c e) hc nch ho (I.freeC x c e),hd⟩
 refine⟨I.ok,I.os,hg,⟨λ b o e n hb hx=>?_,λ b o e n hb hx=>?_,λ b o e n hx=>?_,λ b o e hx=>?_,λ b xs e=>tups b xs (I.base.tups b xs e),λ b o xs e=>frzs b o xs (I.base.frzs b o xs e),λ b ps e=>?_⟩,?_,λ x c e=>?_,?_,λ x c e=>?_,λ p hp=>?_,hok,I.len⟩
 ·exact keep b o (neL b o e) hb (neC b o e hx) (I.base.keep b o e n hb hx) (I.base.free b o e n hx)
 ·obtain⟨sl,e1⟩:=I.base.slot b o e n hb hx
  obtain⟨sl',e2⟩:=slot b _ (neL b o e) hb (neC b o e hx) e1 (I.base.free b o e n hx);exact⟨sl',e2⟩
 ·obtain⟨o',e1⟩:=I.base.there b o e hx
  exact free b o' (neC b o e hx) e1 (I.base.free b o e n hx)
 ·obtain⟨o',e1⟩:=I.base.there b o e hx
  exact there b o' (neC b o e hx) e1
 ·obtain⟨m1,e1⟩:=I.base.tbls b ps e
  obtain⟨m2,e2⟩:=tbls b _ e1;exact⟨m1++m2,by rw[e2,Array.append_assoc]⟩
 ·obtain⟨m,hn,hl⟩:=I.loc
  refine⟨m,ns m hn,λ i x v e1 e2 e3=>?_⟩;obtain⟨u,r,l⟩:=hl i x v e1 e2 e3;refine⟨u,r,?_⟩;rcases l with l|⟨k,c,e,z⟩
  ·exact .inl l
  ·exact .inr ⟨k,c,e,cellK x c e _ z⟩
 ·obtain⟨v,z⟩:=I.cell x c e
  exact⟨v,cellK x c e v z⟩
 ·obtain⟨m,⟨o,_,_,ho,_⟩,_⟩:=I.loc
  exact free _ o (λ z=>(hch _ z).2.1 rfl) ho I.free
 ·obtain⟨v,o,ho,hd⟩:=I.cell x c e
  exact free c o (λ z=>(hch c z).2.2.1 x c e rfl) ho (I.freeC x c e)
 ·obtain⟨e,n,ne,nf,d⟩:=I.pin p hp
  have nch:p.1∉ch:=λ z=>(hch p.1 z).2.2.2 p hp rfl;exact⟨keep p.1 p.2 ne nf nch e n,free p.1 p.2 nch e n,ne,nf,d⟩
theorem Inv.un {t':Nat}(I:Inv X jP σ H s) (u:Un X.fs [] H H' s.heap h') (hok:HOk X.prog X.w H' h'):Inv X jP σ H' { s with heap:=h',toks:=t' }:=by
 obtain⟨m,⟨o,es,ep,ho,r⟩,_⟩:=id I.loc;obtain⟨sl,hL⟩:=u.any ho I.free (by simp)
 exact I.step (g':=s.gens) (d':=s.drawn) (ch:=[]) (λ Ω z=>nomatch z) (λ b o Ω hb Ω e n=>u.keep b o e n hb (by simp)) (λ b o Ω hb Ω e n=>u.slot b o e n hb (by simp)) (λ b o Ω e n=>u.free b o e n (by simp)) (λ b o Ω e=>u.there b o e (by simp)) u.tups u.frzs u.tbls (λ m' hm=>by
  obtain⟨o',es',ep',ho',r'⟩:=hm;rw[ho] at ho';cases ho';exact⟨_,es',ep',hL,r'⟩) hok I.bare
theorem Inv.call {g':Array GenState}{t':Nat}{d':Drawn}{ch:List Addr}(I:Inv X jP σ H s) (u:Un (frs X.stack) ch H H' s.heap h') (hok:HOk X.prog X.w H' h') (hg:AllBare g')
  (hch:∀b∈ch,(b∈X.ex\/X.s₀.heap.objs.size<=b)/\b≠X.env.locals/\(∀x c,X.env.cells.lookup x=some c->c≠b)/\∀p∈X.pn++jP,p.1≠b) :
  Inv X jP σ H' { s with heap:=h',gens:=g',drawn:=d',toks:=t' }:=by
 obtain⟨m,⟨o,es,ep,ho,r⟩,_⟩:=id I.loc;obtain⟨sl,hL⟩:=u.any ho I.free λ z=>(hch _ z).2.1 rfl
 exact I.step (ch:=ch) hch (λ b o hL hb hc e n=>u.keep b o e n (λ z=>(lN.mp (I.stkSub b z)).elim hL hb) hc) (λ b o Ω Ω hc e n=>u.any e n hc) (λ b o hc e n=>u.free b o e n hc) (λ b o hc e=>u.there b o e hc) u.tups u.frzs u.tbls (λ m' hm=>by
  obtain⟨o',es',ep',ho',r'⟩:=hm;rw[ho] at ho';cases ho';exact⟨_,es',ep',hL,r'⟩) hok hg
theorem Inv.turned {t':Nat}{it:Addr}(I:Inv X jP σ H s) (k:∀b o,b≠it->s.heap.get? b=some o->h'.get? b=some o) (hn:H it=none) (hL:it≠X.env.locals)
  (h1:it∈X.ex\/X.s₀.heap.objs.size<=it) (h2:∀x c,X.env.cells.lookup x=some c->c≠it) (h3:∀p∈X.pn++jP,p.1≠it):Inv X jP σ H { s with heap:=h',toks:=t' }:=by
 have nit:∀b u,H b=some u->b≠it:=λ b u e z=>by rw[z,hn] at e;cases e
 refine I.step (g':=s.gens) (d':=s.drawn) (ch:=[it]) (λ b hb=>?_) (λ b o Ω Ω hc e Ω=>k b o (λ z=>hc (by simp[z])) e) (λ b o Ω Ω hc e Ω=>⟨o.slots,k b o (λ z=>hc (by simp[z])) e⟩) (λ Ω Ω Ω Ω n=>n)
  (λ b o hc e=>⟨o,k b o (λ z=>hc (by simp[z])) e⟩) (λ Ω Ω e=>e) (λ Ω Ω Ω e=>e) (λ b ps e=>⟨#[],by rw[e];simp⟩) (λ m hm=>?_) (λ b u e=>?_) I.bare
 ·have e:b=it:=by simpa using hb
  subst e;exact⟨h1,hL,h2,h3⟩
 ·obtain⟨o,es,ep,ho,r⟩:=hm
  exact⟨o,es,ep,k _ o (Ne.symm hL) ho,r⟩
 ·refine(I.hok b u e).stay (λ c v hc q=>k c v ?_ q) (λ Ω q=>q) λ Ω Ω q=>q
  rcases hc with z|z
  ·rw[z];exact nit b u e
  ·exact nit c _ z
theorem Inv.tok (I:Inv X jP σ H s) (t:Nat):Inv X jP σ H { s with toks:=t }:=I.un (h':=s.heap) (t':=t) Un.refl I.hok
theorem Inv.kept {t':Nat}(I:Inv X jP σ H s) (k:∀b u,s.heap.get? b=some u->h'.get? b=some u):Inv X jP σ H { s with heap:=h',toks:=t' }:=I.un (Un.kept k) (I.hok.kept k)
theorem Inv.laid {a:Addr}{o:HO}{t':Nat}(I:Inv X jP σ H s) (k:∀b u,s.heap.get? b=some u->h'.get? b=some u) (hp:s.heap.objs.size<=a) (new:ObjOk X.prog X.w (upd H a o) h' a o) :
  Inv X jP σ (upd H a o) { s with heap:=h',toks:=t' }:=I.un (Un.laid k hp (I.hok.fresh hp)) (I.hok.laid k hp new)
theorem Inv.write {x e:Addr}{o:HO}{t':Nat}(I:Inv X jP σ H s) (mu:Mut (H x)) (he:e=x\/H e=some (.own x)) (k:∀b u,b≠e->s.heap.get? b=some u->h'.get? b=some u) (heo:∃u,h'.get? e=some u)
  (new:ObjOk X.prog X.w (upd H x o) h' x o):Inv X jP σ (upd H x o) { s with heap:=h',toks:=t' }:=I.un (Un.write mu he k heo) (I.hok.write mu he k heo new)
theorem Inv.weak {σ':List (Option V)}(I:Inv X jP σ H s) (hl:σ'.length=σ.length) (w:∀(i:Nat) v,σ'[i]?=some (some v)->σ[i]?=some (some v)):Inv X jP σ' H s :=
 ⟨I.ok,I.os,I.bare,I.base,let ⟨m,hn,hl'⟩:=I.loc;⟨m,hn,λ i x v e1 e2 e3=>hl' i x v e1 (w i v e2) e3⟩,I.cell,I.free,I.freeC,I.pin,I.hok,hl.trans I.len⟩
theorem Inv.pins_of {pins':List (Addr × Obj)}(I:Inv X jP σ H s) (h:∀p∈pins',s.heap.get? p.1=some p.2/\H p.1=none/\p.1≠X.env.locals/\p.1∉X.fs/\∀v,p.2.data ≠ .cell v):Inv X pins' σ H s :=
 ⟨I.ok,I.os,I.bare,I.base,I.loc,I.cell,I.free,I.freeC,λ p hp=>(lK.mp hp).elim (λ z=>I.pin p (mG _ z)) (h p),I.hok,I.len⟩
theorem zIG {N:List Str}(hN:N.Nodup) {i j:Nat}{x:Str}(a:N[i]?=some x) (b:N[j]?=some x):i=j:=by
 obtain⟨h1,e1⟩:=lJ.mp a;obtain⟨h2,e2⟩:=lJ.mp b;exact(List.getElem_inj hN).mp (e1.trans e2.symm)
theorem zGP {M:Model}{A:Around}{E:XQ}{i:Nat}{x:Str}{v:V}{u:Value}{Q:Unit->Shared->Prop}(I:Inv X jP σ H s) (hN:X.N.Nodup) (hi:X.N[i]?=some x) (hx:Loc X.env.scope x) (r:RelV v u)
  (h:∀s',Inv X jP (σ.set i (some v)) H s'->(∃a,Heap.SameBut a s.heap s'.heap/\(a=X.env.locals\/X.env.cells.lookup x=some a))->Q () s') (hf:X.fn x=true\/X.env.scope.names.lookup x=some .local:=by first|exact .inl rfl|exact .inr rfl|assumption):wpAny M A (storeName X.env x u) Q E s:=by
 obtain⟨m,hn,hl⟩:=id I.loc;have hcls:(X.env.scope.kind == .class || (X.env.scope.kind == .module && X.env.locals != X.env.globals))=false:=by rw[I.ok.kind];rfl
 have hiσ:i<σ.length:=by rw[I.len];exact(lJ.mp hi).1
 have cne:=I.cne
 have tracked:∀{a:Addr}{h':Heap},(∃o,s.heap.get? a=some o/\H a=none)->Heap.SameBut a s.heap h'->HOk X.prog X.w H h':=λ{a h'} ha hs b ob e=>by
  obtain⟨_,_,hfree⟩:=ha;refine(I.hok b ob e).stay (λ c w' hc q=>(hs.2 c ?_).trans q) (λ Ω q=>q) λ Ω Ω q=>q;rintro rfl;rcases hc with rfl|hc
  ·rw[hfree] at e;cases e
  ·rw[hfree] at hc;cases hc
 rcases hx with hk|hk
 ·refine wpAny_storeName_local hk hn (λ h' hn' hs=>?_) hcls
  obtain⟨oL,_,_,hoL,_⟩:=id hn;refine h _ ⟨I.ok,I.os,I.bare,⟨λ b o e n hb hx=>?_,λ b o e n hb hx=>?_,I.base.free,λ b o e hx=>?_,I.base.tups,I.base.frzs,I.base.tbls⟩,⟨_,hn',λ j y v' e1 e2 e3=>?_⟩,λ y c e=>?_,I.free,I.freeC,λ p hp=>?_,tracked ⟨oL,hoL,I.free⟩ hs,by simpa using I.len⟩ ⟨_,hs,.inl rfl⟩
  ·exact(hs.2 b (lR (mB (lH e) I.ok.above))).trans (I.base.keep b o e n hb hx)
  ·obtain⟨sl,e1⟩:=I.base.slot b o e n hb hx
   exact⟨sl,(hs.2 b (lR (mB (lH e) I.ok.above))).trans e1⟩
  ·obtain⟨o',e1⟩:=I.base.there b o e hx
   exact⟨o',(hs.2 b (lR (mB (lH e) I.ok.above))).trans e1⟩
  ·by_cases hj:j=i
   ·subst hj
    rw[hi] at e1;cases e1;rw[rH hiσ] at e2;cases e2;exact⟨u,r,.inl ⟨hk,by simp⟩⟩
   ·rw[List.getElem?_set_ne (Ne.symm hj)] at e2
    obtain⟨u',r',q⟩:=hl j y v' e1 e2 e3;refine⟨u',r',?_⟩;rcases q with ⟨k,e⟩|⟨k,c,e,z⟩
    ·refine .inl ⟨k,?_⟩
     have:y≠x:=λ e=>hj (zIG hN e1 (e▸hi));simp[this,e]
    ·exact .inr ⟨k,c,e,z.sameBut hs (cne y c e)⟩
  ·obtain⟨w',z⟩:=I.cell y c e
   exact⟨w',z.sameBut hs (cne y c e)⟩
  ·obtain⟨e,n,ne,nf,d⟩:=I.pin p hp
   exact⟨(hs.2 p.1 ne).trans e,n,ne,nf,d⟩
 ·have hfn:X.fn x=true:=by
   rcases hf with z|z
   ·exact z
   ·rw[z] at hk;cases hk
  obtain⟨c,hc⟩:=I.ok.has x (.inl hk);obtain⟨w',z⟩:=I.cell x c hc;refine wpAny_storeName_cell I.ok.kind hk hc z (λ h' hc' hs=>?_);obtain⟨oc,hoc,hocd⟩:=id z;refine h { s with heap:=h' } ⟨I.ok,I.os,I.bare,⟨λ b o e n hb hx=>?_,λ b o e n hb hx=>?_,I.base.free,λ b o e hx=>?_,I.base.tups,I.base.frzs,I.base.tbls⟩,⟨m,hn.sameBut hs (Ne.symm (cne x c hc)),λ j y v' e1 e2 e3=>?_⟩,λ y c' e=>?_,I.free,I.freeC,λ p hp=>?_,tracked ⟨oc,hoc,I.freeC x c hc⟩ hs,by simpa using I.len⟩ ⟨c,hs,.inr hc⟩
  ·exact(hs.2 b (lR (mB (lH e) (I.ok.cab x c hfn hc)))).trans (I.base.keep b o e n hb hx)
  ·obtain⟨sl,e1⟩:=I.base.slot b o e n hb hx
   exact⟨sl,(hs.2 b (lR (mB (lH e) (I.ok.cab x c hfn hc)))).trans e1⟩
  ·obtain⟨o',e1⟩:=I.base.there b o e hx
   exact⟨o',(hs.2 b (lR (mB (lH e) (I.ok.cab x c hfn hc)))).trans e1⟩
  ·by_cases hj:j=i
   ·subst hj
    rw[hi] at e1;cases e1;rw[rH hiσ] at e2;cases e2;exact⟨u,r,.inr ⟨.inl hk,c,hc,hc'⟩⟩
   ·rw[List.getElem?_set_ne (Ne.symm hj)] at e2
    obtain⟨u',r',q⟩:=hl j y v' e1 e2 e3;refine⟨u',r',?_⟩;rcases q with q|⟨k,c',e,z'⟩
    ·exact .inl q
    ·refine .inr ⟨k,c',e,z'.sameBut hs ?_⟩
     rintro rfl;exact hj (zIG hN e1 (I.ok.inj _ _ _ e hc▸hi))
  ·by_cases hcc:c'=c
   ·subst hcc;exact⟨_,hc'⟩
   ·obtain⟨w2,z2⟩:=I.cell y c' e
    exact⟨w2,z2.sameBut hs hcc⟩
  ·obtain⟨e,n,ne,nf,d⟩:=I.pin p hp
   refine⟨(hs.2 p.1 ?_).trans e,n,ne,nf,d⟩;intro q;rw[q,hoc] at e;have q':oc=p.2:=mF e;exact d w' (by rw[←q'];exact hocd)
theorem zFi {M:Model}{A:Around}{E:XQ}{i:Nat}{x:Str}{v:V}{u:Value}{Q:Unit->Shared->Prop}(I:Inv X jP σ H s) (hN:X.N.Nodup) (hi:X.N[i]?=some x) (hx:Loc X.env.scope x) (r:RelV v u)
  (h:∀s',Inv X jP (σ.set i (some v)) H s'->Q () s') (hf:X.fn x=true\/X.env.scope.names.lookup x=some .local:=by first|exact .inl rfl|exact .inr rfl|assumption):wpAny M A (storeName X.env x u) Q E s :=
 zGP I hN hi hx r (λ s' I' Ω=>h s' I') hf
theorem Inv.call' {s':Shared}{ch:List Addr}(I:Inv X jP σ H s) (ho:s'.os=s.os) (u:Un (frs X.stack) ch H H' s.heap s'.heap) (hok:HOk X.prog X.w H' s'.heap) (hg:AllBare s'.gens)
  (hch:∀b∈ch,(b∈X.ex\/X.s₀.heap.objs.size<=b)/\b≠X.env.locals/\(∀x c,X.env.cells.lookup x=some c->c≠b)/\∀p∈X.pn++jP,p.1≠b):Inv X jP σ H' s':=by
 obtain⟨h',g',d',t',o'⟩:=s';have e:o'=s.os:=ho;subst e;exact I.call (g':=g') (t':=t') (d':=d') u hok hg hch
end
abbrev XK:=Value->Option Addr->Hp->Prop
abbrev St:=List (Option V)
abbrev VK:=V->Hp->Prop
abbrev TE:=St->Hp->VK->Prop
abbrev TT:=St->Hp->(Bool->Hp->Prop)->Prop
abbrev TA:=St->Hp->(List V->Hp->Prop)->Prop
structure Ends where
 nx:St->Hp->Prop
 rt:VK
 bk:St->Hp->Prop:=λ Ω Ω=>False
 ct:St->Hp->Prop:=λ Ω Ω=>False
abbrev TS:=Ends->St->Hp->Prop
def EP (X:Cx) (jP:List (Addr × Obj)) (σ:St) (Q:VK) (u:Value) (s':Shared):Prop:=∃v H',Inv X jP σ H' s'/\RelV v u/\Q v H'
def TP (X:Cx) (jP:List (Addr × Obj)) (σ:St) (Q:Bool->Hp->Prop) (b:Bool) (s':Shared):Prop:=∃H',Inv X jP σ H' s'/\Q b H'
def AP (X:Cx) (jP:List (Addr × Obj)) (σ:St) (Q:List V->Hp->Prop) (us:List Value) (s':Shared):Prop:=∃vs H',Inv X jP σ H' s'/\Vals vs us/\Q vs H'
def SP (X:Cx) (jP:List (Addr × Obj)) (D:Ends) (f:Flow) (s':Shared):Prop :=
 match f with
 |.next=>∃σ' H',Inv X jP σ' H' s'/\D.nx σ' H'
 |.brk=>∃σ' H',Inv X jP σ' H' s'/\D.bk σ' H'
 |.cont=>∃σ' H',Inv X jP σ' H' s'/\D.ct σ' H'
 |.ret u=>∃v σ' H',Inv X jP σ' H' s'/\RelV v u/\D.rt v H'
def PE (X:Cx) (e:Expr) (t:TE):Prop :=
 ∀(jP:List (Addr × Obj)) (s:Shared) (σ:St) (H:Hp) (Q:VK),Inv X jP σ H s->t σ H Q->wpAny (model X.prog X.w) X.A (eval e X.env) (EP X jP σ Q) X.xe s
def PT (X:Cx) (e:Expr) (t:TT):Prop :=
 ∀(jP:List (Addr × Obj)) (s:Shared) (σ:St) (H:Hp) (Q:Bool->Hp->Prop),Inv X jP σ H s->t σ H Q->wpAny (model X.prog X.w) X.A (isTrue e X.env (eval e X.env)) (TP X jP σ Q) X.xe s
def PW (X:Cx) (e:Expr) (t:TT):Prop :=
 ∀(whole:Sem Value) (jP:List (Addr × Obj)) (s:Shared) (σ:St) (H:Hp) (Q:Bool->Hp->Prop),Inv X jP σ H s->t σ H Q->wpAny (model X.prog X.w) X.A (isTrue e X.env whole) (TP X jP σ Q) X.xe s
theorem PW.pt {X:Cx}{e:Expr}{t:TT}(h:PW X e t):PT X e t:=h _
def PA (X:Cx) (es:List Expr) (t:TA):Prop :=
 ∀(pos:Pos) (jP:List (Addr × Obj)) (s:Shared) (σ:St) (H:Hp) (Q:List V->Hp->Prop),Inv X jP σ H s->t σ H Q->wpAny (model X.prog X.w) X.A (spliced (backTo pos (starEach es X.env))) (AP X jP σ Q) X.xe s
def PS (X:Cx) (st:Stmt) (t:TS):Prop :=
 ∀(jP:List (Addr × Obj)) (s:Shared) (σ:St) (H:Hp) (D:Ends),Inv X jP σ H s->t D σ H->wpAny (model X.prog X.w) X.A (exec st X.env) (SP X jP D) X.xe s
def PSs (X:Cx) (st:List Stmt) (t:TS):Prop :=
 ∀(jP:List (Addr × Obj)) (s:Shared) (σ:St) (H:Hp) (D:Ends),Inv X jP σ H s->t D σ H->wpAny (model X.prog X.w) X.A (execs st X.env) (SP X jP D) X.xe s
theorem thn {α:Type}{t:Sem α}{Q Q':α->Shared->Prop}{M:Model}{A:Around}{E:XQ}{s:Shared}(h:wpAny M A t Q E s) (hQ:∀a s,Q a s->Q' a s):wpAny M A t Q' E s:=wpAny_mono h hQ λ Ω Ω x=>x
section
variable {X:Cx}
inductive tVar (i:Nat) (σ:St) (H:Hp) (Q:VK):Prop
 |mk (v:V) (h:σ[i]?=some (some v)) (q:Q v H)
inductive IsB (Q:Bool->Hp->Prop) (x:V) (H:Hp):Prop
 |mk (c:Bool) (h:x = .bl c) (q:Q c H)
def tC (v:V):TE:=λ Ω H Q=>Q v H
theorem zNo {i:Nat}{x:Str}{pos:Pos}(hN:X.N[i]?=some x) (hv:Vis X.env.scope x) (hd:(x == ("__debug__" : Str))=false:=by decide) (hcd:(x == ("__classdict__" : Str))=false:=by decide):PE X (.Name x pos) (tVar i):=by
 intro jP s σ H Q I h;obtain⟨v,e,h⟩:=h;obtain⟨m,hn,hl⟩:=I.loc;obtain⟨u,r,l⟩:=hl i x v hN e hv;have fin:EP X jP σ Q u s:=⟨v,H,I,r,h⟩;rcases l with ⟨hk,hm⟩|⟨hk,c,hc,hcell⟩
 ·exact wpAny_Name (wpAny_loadName_local I.ok.kind hk hn hm fin) hd
 ·rcases hk with hk|hk
  ·exact wpAny_Name (wpAny_loadName_cell I.ok.kind hk hc hcell fin) hd
  ·exact wpAny_Name (wpAny_loadName_free I.ok.kind hk hc hcell fin hcd) hd
theorem zAF {i j pos}:PE X (.Constant (.int i) j pos) (tC (.int i)):=λ Ω Ω Ω H Ω I h=>wpAny_Constant_int ⟨.int i,H,I.tok _,⟨_,rfl⟩,h⟩
theorem pe_bl {b j pos}:PE X (.Constant (.bool b) j pos) (tC (.bl b)):=λ Ω Ω Ω H Ω I h=>Constant_bool ⟨.bl b,H,I,rfl,h⟩
theorem zAT {x j pos}:PE X (.Constant (.str x) j pos) (tC (.str x)):=λ Ω Ω Ω H Ω I h=>Calls.Constant_str ⟨.str x,H,I.tok _,⟨_,rfl⟩,h⟩
def Gl (X:Cx) (x:Str):Prop:=X.env.kindOf x=some .globalImplicit
theorem zHZ {E:XQ}{jP:List (Addr × Obj)}{s:Shared}{σ:St}{H:Hp}{x:Str}{u:Value}{pos:Pos}{Q:XQ}(I:Inv X jP σ H s) (hg:Gl X x) (hm:X.mg x=some u) (h:Q u s)
  (hd:(x == ("__debug__" : Str))=false:=by decide):wpAny (model X.prog X.w) X.A (eval (.Name x pos) X.env) Q E s :=
 Calls.Name_function_global I.ok.kind hg (Calls.loadGlobal_global (by rw[I.ok.glob];exact I.mod.glob.keeps I.bk) hm h) hd
theorem zCr {E:XQ}{jP:List (Addr × Obj)}{s:Shared}{σ:St}{H:Hp}{x:Str}{u:Value}{pos:Pos}{Q:XQ}(I:Inv X jP σ H s) (hg:Gl X x) (hm:X.mg x=none) (hv:bootBuiltins x=some u) (h:Q u s)
  (hn:x ≠ "__name__" := by decide) (hd:(x == ("__debug__" : Str))=false:=by decide):wpAny (model X.prog X.w) X.A (eval (.Name x pos) X.env) Q E s:=by
 obtain⟨mb,h1,h2⟩:=I.mod.blt;exact Calls.Name_function_global I.ok.kind hg (Calls.loadGlobal_builtin (by rw[I.ok.glob];exact I.mod.glob.keeps I.bk) hm (by rw[I.ok.blt];exact h1.keeps I.bk) ((h2 x hn).trans hv) h) hd
theorem zFu {x:Str}{v:V}{u:Value}{pos:Pos}(hg:Gl X x) (hm:X.mg x=some u) (r:RelV v u) (hd:(x == ("__debug__" : Str))=false:=by decide):PE X (.Name x pos) (tC v) :=
 λ Ω Ω Ω H Ω I h=>zHZ I hg hm ⟨v,H,I,r,h⟩ hd
theorem zMq {x:Str}{v:V}{u:Value}{pos:Pos}(hg:Gl X x) (hm:X.mg x=none) (hv:bootBuiltins x=some u) (r:RelV v u) (hn:x ≠ "__name__" := by decide) (hd:(x == ("__debug__" : Str))=false:=by decide):PE X (.Name x pos) (tC v) :=
 λ Ω Ω Ω H Ω I h=>zCr I hg hm hv ⟨v,H,I,r,h⟩ hn hd
variable {a b:Expr}{ta tb:TE}{pos:Pos}
def tB (t:TE):TT:=λ σ H Q=>t σ H (IsB Q)
theorem zCj {e:Expr}{t:TE}(h:PE X e t) (he:∀whole,isTrue e X.env whole=(do let v ← whole;standAt e.pos;holding [v] (truthy v)):=by intro _;rfl):PT X e (tB t):=by
  intro jP s σ H Q I hw;refine isTrue_plain (thn (h jP s σ H _ I hw) λ v s1 ⟨x,H1,I1,r1,q1⟩=>?_) (he _);obtain⟨d,rfl,q⟩:=q1;cases r1;exact wpAny_truthy_bool ⟨H1,I1,q⟩
variable {tA tB':TT}{rest:List Expr}
def tAnd (t u:TT):TT:=λ σ H Q=>t σ H λ c H1=>if c=true then u σ H1 Q else Q false H1
def tOr (t u:TT):TT:=λ σ H Q=>t σ H λ c H1=>if c=true then Q true H1 else u σ H1 Q
def tNot (t:TT):TT:=λ σ H Q=>t σ H λ c H1=>Q (!c) H1
theorem zDy (ha:PT X a tA):PW X (.BoolOp .And [a] pos) tA:=by
 intro wh jP s σ H Q I h;refine isTrue_and (thn (ha jP s σ H Q I h) λ c s1 e=>?_);cases c with
 |true=>exact isTrue_and_nil e
 |false=>exact e
theorem zET (ha:PT X a tA):PW X (.BoolOp .Or [a] pos) tA:=by
 intro wh jP s σ H Q I h;refine isTrue_or (thn (ha jP s σ H Q I h) λ c s1 e=>?_);cases c with
 |false=>exact isTrue_or_nil e
 |true=>exact e
theorem zFJ (ha:PT X a tA) (hb:PW X (.BoolOp .And (b::rest) pos) tB'):PW X (.BoolOp .And (a::b::rest) pos) (tAnd tA tB'):=by
 intro wh jP s σ H Q I h;refine isTrue_and (thn (ha jP s σ H _ I h) λ c s1 ⟨H1,I1,q1⟩=>?_);cases c with
 |true=>exact hb wh jP s1 σ H1 Q I1 q1
 |false=>exact⟨H1,I1,q1⟩
theorem pw_or (ha:PT X a tA) (hb:PW X (.BoolOp .Or (b::rest) pos) tB'):PW X (.BoolOp .Or (a::b::rest) pos) (tOr tA tB'):=by
 intro wh jP s σ H Q I h;refine isTrue_or (thn (ha jP s σ H _ I h) λ c s1 ⟨H1,I1,q1⟩=>?_);cases c with
 |true=>exact⟨H1,I1,q1⟩
 |false=>exact hb wh jP s1 σ H1 Q I1 q1
theorem zDT (ha:PT X a tA):PT X (.UnaryOp .Not a pos) (tNot tA):=by
 intro jP s σ H Q I h;exact isTrue_not (ha jP s σ H (λ c H1=>Q (!c) H1) I h)
def tAndV (ta tb:TE):TE:=λ σ H Q=>ta σ H (IsB λ c H1=>if c=true then tb σ H1 Q else Q (.bl false) H1)
def tNotV (ta:TE):TE:=λ σ H Q=>ta σ H (IsB λ c H1=>Q (.bl (!c)) H1)
theorem zJn {op} {t:TE}(h:PE X a t):PE X (.BoolOp op [a] pos) t:=λ jP s σ H Q I hw=>BoolOp_one (h jP s σ H Q I hw)
theorem zIA (ha:PE X a ta) (hb:PE X (.BoolOp .And (b::rest) pos) tb):PE X (.BoolOp .And (a::b::rest) pos) (tAndV ta tb):=by
 intro jP s σ H Q I h;refine BoolOp_and (thn (ha jP s σ H _ I h) λ v s1 ⟨x,H1,I1,r1,q1⟩=>?_);obtain⟨c,rfl,q1⟩:=q1;cases r1;refine wpAny_truthy_bool ?_;cases c with
 |true=>exact hb jP s1 σ H1 Q I1 q1
 |false=>exact⟨.bl false,H1,I1,rfl,q1⟩
theorem zMI (ha:PE X a ta):PE X (.UnaryOp .Not a pos) (tNotV ta):=by
 intro jP s σ H Q I h;refine UnaryOp_ (thn (ha jP s σ H _ I h) λ v s1 ⟨x,H1,I1,r1,q1⟩=>?_);obtain⟨c,rfl,q1⟩:=q1;cases r1;exact not_of (wpAny_truthy_bool ⟨.bl (!c),H1,I1,rfl,q1⟩)
end
def SqL (K:W.Frag) (H:Hp) (a:Addr) (xs:List V):Prop :=
 Rd H a (.lst xs) \/
  ∃(o:Obj) (its:Array Value) (n:Nat),K.lookup a=some o/\o.cls = .type "list" /\ o.dict=none/\o.data = .seq its n/\its.size<=sizeLine/\Vals xs its.toList
def SqT (K:W.Frag) (H:Hp) (a:Addr) (xs:List V):Prop :=
 Rd H a (.tup xs) \/
  ∃(o:Obj) (its:Array Value) (n:Nat),K.lookup a=some o/\o.cls = .type "tuple" /\ o.data = .seq its n/\its.size<=sizeLine/\Vals xs its.toList
noncomputable def absV:Value->Option V
 |.none=>some .non
 |.bool b=>some (.bl b)
 |.int i _=>some (.int i)
 |.str x _=>some (.str x)
 |.bytes b _=>some (.byt b)
 |.float b _=>some (.flt b)
 |.ref a=>some (.ref a)
 |.type n=>some (.ty n)
 |_=>none
theorem RelV.abs {x:V}{u:Value}(r:RelV x u):absV u=some x:=by
 cases x with
 |non=>cases r;rfl
 |bl _=>cases r;rfl
 |int _=>obtain⟨t,rfl⟩:=r;rfl
 |str _=>obtain⟨t,rfl⟩:=r;rfl
 |byt _=>obtain⟨t,rfl⟩:=r;rfl
 |flt _=>obtain⟨t,rfl⟩:=r;rfl
 |ref _=>cases r;rfl
 |ty _=>cases r;rfl
theorem RelV.inj {x y:V}{u:Value}(r:RelV x u) (q:RelV y u):x=y:=mF (r.abs.symm.trans q.abs)
theorem Vals.inj {xs ys:List V}{us:List Value}(h:Vals xs us):Vals ys us->xs=ys:=by
 induction h generalizing ys with
 |nil=>intro z;cases z;rfl
 |cons r t ih=>intro z;cases z with|cons r' t'=>rw[r.inj r',ih t']
section
variable {X:Cx}{jP:List (Addr × Obj)}{σ:St}{H:Hp}{s:Shared}{a:Addr}{xs ys:List V}
theorem SqL.of {K:W.Frag}(h:H a=some (.lst xs)):SqL K H a xs:=.inl (.inl h)
theorem SqT.of {K:W.Frag}(h:H a=some (.tup xs)):SqT K H a xs:=.inl (.inl h)
theorem Inv.list (I:Inv X jP σ H s) (h:SqL X.K H a xs):∃its:List Value,Vals xs its/\PlainL s.heap a its.toArray/\xs.length<=sizeLine:=by
 rcases h with h|⟨o,its,n,hk,hc,hd,hs,hz,r⟩
 ·obtain⟨z,its,n,r,e⟩:=h.ok I.hok
  exact⟨its,r,⟨_,n,e,rfl,rfl,rfl⟩,z⟩
 ·refine⟨its.toList,r,⟨o,n,I.kIn a o hk,hc,hd,by simpa using hs⟩,?_⟩
  have e:=r.length;simp only[Array.length_toList] at e;omega
theorem Inv.tuple (I:Inv X jP σ H s) (h:SqT X.K H a xs):∃its:List Value,Vals xs its/\IsTup s.heap a its.toArray/\xs.length<=sizeLine:=by
 rcases h with h|⟨o,its,n,hk,hc,hs,hz,r⟩
 ·obtain⟨z,its,r,p⟩:=h.ok I.hok
  exact⟨its,r,p,z⟩
 ·refine⟨its.toList,r,⟨o,I.kIn a o hk,hc,n,by simpa using hs⟩,?_⟩
  have e:=r.length;simp only[Array.length_toList] at e;omega
theorem Inv.list_inj (I:Inv X jP σ H s) (h:SqL X.K H a xs) (h':SqL X.K H a ys):xs=ys:=by
 obtain⟨its,r,⟨o,n,e,_,_,d⟩,_⟩:=I.list h;obtain⟨its',r',⟨o',n',e',_,_,d'⟩,_⟩:=I.list h';rw[e] at e';cases e';rw[d] at d';injection d' with d1 _
 have:its=its':=by simpa using congrArg Array.toList d1
 subst this;exact r.inj r'
theorem Inv.tuple_inj (I:Inv X jP σ H s) (h:SqT X.K H a xs) (h':SqT X.K H a ys):xs=ys:=by
 obtain⟨its,r,⟨o,e,_,n,d⟩,_⟩:=I.tuple h;obtain⟨its',r',⟨o',e',_,n',d'⟩,_⟩:=I.tuple h';rw[e] at e';cases e';rw[d] at d';injection d' with d1 _
 have:its=its':=by simpa using congrArg Array.toList d1
 subst this;exact r.inj r'
end
abbrev Cx.wish (X:Cx) (E:XQ):Cx:={ X with xe:=E }
abbrev Cx.nox (X:Cx):Cx:=X.wish λ Ω Ω=>False
theorem Cx.Ok.wish {X:Cx}(ok:X.Ok) (E:XQ):(X.wish E).Ok :=
 ⟨ok.mod,ok.kind,ok.glob,ok.blt,ok.above,ok.inj,ok.has,ok.cab,ok.hd,ok.frames,ok.stk,ok.exf,ok.bs,ok.bsz,ok.noex,ok.exfs,ok.funs,ok.frf⟩
theorem Cx.Ok.unwish {X:Cx}{E:XQ}(ok:(X.wish E).Ok):X.Ok :=
 ⟨ok.mod,ok.kind,ok.glob,ok.blt,ok.above,ok.inj,ok.has,ok.cab,ok.hd,ok.frames,ok.stk,ok.exf,ok.bs,ok.bsz,ok.noex,ok.exfs,ok.funs,ok.frf⟩
section
variable {X:Cx}{jP:List (Addr × Obj)}{σ:St}{H:Hp}{s:Shared}{E:XQ}
theorem Inv.wish (I:Inv X jP σ H s) (E:XQ):Inv (X.wish E) jP σ H s:=⟨I.ok.wish E,I.os,I.bare,I.base,I.loc,I.cell,I.free,I.freeC,I.pin,I.hok,I.len⟩
theorem Inv.unwish (I:Inv (X.wish E) jP σ H s):Inv X jP σ H s:=⟨I.ok.unwish,I.os,I.bare,I.base,I.loc,I.cell,I.free,I.freeC,I.pin,I.hok,I.len⟩
theorem SP.unwish {D:Ends}{f:Flow}{s':Shared}(h:SP (X.wish E) jP D f s'):SP X jP D f s':=by
 cases f with
 |next=>obtain⟨σ',H',I,q⟩:=h;exact⟨σ',H',I.unwish,q⟩
 |brk=>obtain⟨σ',H',I,q⟩:=h;exact⟨σ',H',I.unwish,q⟩
 |cont=>obtain⟨σ',H',I,q⟩:=h;exact⟨σ',H',I.unwish,q⟩
 |ret u=>obtain⟨v,σ',H',I,r,q⟩:=h;exact⟨v,σ',H',I.unwish,r,q⟩
theorem PSs.nox {st:List Stmt}{t:TS}(h:PSs X.nox st t):PSs X st t:=λ jP s σ H D I hw =>
 wpAny_mono (h jP s σ H D (I.wish _) hw) (λ Ω Ω q=>q.unwish) λ Ω Ω z=>False.elim z
end
section
variable {X:Cx}{st:Stmt}{rest:List Stmt}{t u:TS}{e:Expr}{te:TE}{pos:Pos}
def tNext:TS:=λ D σ H=>D.nx σ H
def tSeq (t u:TS):TS:=λ D σ H=>t { D with nx:=u D } σ H
theorem zAU:PSs X [] tNext:=λ _ _ σ H _ I h=>wpAny_execs_nil ⟨σ,H,I,h⟩
theorem zAE (h1:PS X st t) (h2:PSs X rest u):PSs X (st::rest) (tSeq t u):=by
 intro jP s σ H D I h;refine wpAny_execs_cons (thn (h1 jP s σ H { D with nx:=u D } I h) λ f s1 q=>?_);cases f with
 |next =>
  obtain⟨σ',H',I',q⟩:=q;exact h2 jP s1 σ' H' D I' q
 |ret v=>exact q
 |brk=>exact q
 |cont=>exact q
theorem zAG (h1:PS X st t):PSs X [st] t:=by
 intro jP s σ H D I h;refine wpAny_execs_cons (thn (h1 jP s σ H D I h) λ f s1 q=>?_);cases f with
 |next=>exact wpAny_execs_nil q
 |ret v=>exact q
 |brk=>exact q
 |cont=>exact q
theorem Inv.quiet {jP:List (Addr × Obj)}{σ:St}{H:Hp}{s:Shared}(I:Inv X jP σ H s):interactive X.env=false:=by simp[interactive,I.ok.kind]
def tDrop (te:TE):TS:=λ D σ H=>te σ H λ Ω H1=>D.nx σ H1
theorem zCk (he:PE X e te) (hs:swapsWith e none pos.line X.env=pure false:=by rfl):PS X (.Expr e pos) (tDrop te):=by
 intro jP s σ H D I h;exact wpAny_Expr_any (thn (he jP s σ H _ I h) λ v s1 ⟨x,H1,I1,r1,q1⟩=>⟨σ,H1,I1,q1⟩) I.quiet hs
def tRet (te:TE):TS:=λ D σ H=>te σ H D.rt
theorem zAX (he:PE X e te):PS X (.Return (some e) pos) (tRet te):=by
 intro jP s σ H D I h;exact wpAny_Return_some (thn (he jP s σ H _ I h) λ v s1 ⟨x,H1,I1,r1,q1⟩=>⟨x,σ,H1,I1,r1,q1⟩)
def tIfS (c:TT) (t u:TS):TS:=λ D σ H=>c σ H λ b H1=>if b=true then t D σ H1 else u D σ H1
theorem ps_if {c:Expr}{a b:List Stmt}{tc:TT}(hc:PT X c tc) (ha:PSs X a t) (hb:PSs X b u):PS X (.If c a b pos) (tIfS tc t u):=by
 intro jP s σ H D I h;refine wpAny_If (thn (hc jP s σ H _ I h) λ d s1 ⟨H1,I1,q1⟩=>?_);cases d with
 |true=>exact ha jP s1 σ H1 D I1 q1
 |false=>exact hb jP s1 σ H1 D I1 q1
end
abbrev TG:=V->St->Hp->(St->Hp->Prop)->Prop
abbrev TGs:=List V->St->Hp->(St->Hp->Prop)->Prop
def PG (X:Cx) (target:Expr) (t:TG):Prop :=
 ∀(jP:List (Addr × Obj)) (s:Shared) (σ:St) (H:Hp) (v:V) (u:Value) (Q:St->Hp->Prop),Inv X jP σ H s->RelV v u->t v σ H Q ->
  wpAny (model X.prog X.w) X.A (assign target X.env u) (λ Ω s'=>∃σ' H',Inv X jP σ' H' s'/\Q σ' H') X.xe s
def PGs (X:Cx) (ts:List Expr) (t:TGs):Prop :=
 ∀(jP:List (Addr × Obj)) (s:Shared) (σ:St) (H:Hp) (vs:List V) (us:List Value) (Q:St->Hp->Prop),Inv X jP σ H s->Vals vs us->t vs σ H Q ->
  wpAny (model X.prog X.w) X.A (assignInOrder ((assignEach ts X.env).map (·.2)) us) (λ Ω s'=>∃σ' H',Inv X jP σ' H' s'/\Q σ' H') X.xe s
abbrev TSet:=V->V->V->Hp->(Hp->Prop)->Prop
def PSet (X:Cx) (t:TSet):Prop :=
 ∀(jP:List (Addr × Obj)) (s:Shared) (σ:St) (H:Hp) (o i v:V) (ov iv u:Value) (Q:Hp->Prop),Inv X jP σ H s->RelV o ov->RelV i iv->RelV v u->t o i v H Q ->
  wpAny (model X.prog X.w) X.A (setItem ov iv u) (λ Ω s'=>∃H',Inv X jP σ H' s'/\Q H') X.xe s
abbrev TIp:=V->V->Hp->VK->Prop
def PIp (X:Cx) (op:Operator) (t:TIp):Prop :=
 ∀(jP:List (Addr × Obj)) (s:Shared) (σ:St) (H:Hp) (x y:V) (v u:Value) (Q:VK),Inv X jP σ H s->RelV x v->RelV y u->t x y H Q ->
  wpAny (model X.prog X.w) X.A (inplaceOp op v u) (EP X jP σ Q) X.xe s
section
variable {X:Cx}{pos:Pos}
def gName (i:Nat):TG:=λ v σ H Q=>Q (σ.set i (some v)) H
theorem zA5 {i:Nat}{x:Str}(hN:X.N.Nodup) (hi:X.N[i]?=some x) (hx:Loc X.env.scope x) (hf:X.fn x=true\/X.env.scope.names.lookup x=some .local:=by first|exact .inl rfl|exact .inr rfl|assumption):PG X (.Name x pos) (gName i):=by
 intro jP s σ H v u Q I r h;exact wpAny_assign_Name (zFi I hN hi hx r (λ s' I'=>⟨_,H,I',h⟩) hf)
theorem pGn {i:Nat}{x:Str}(hN:X.N.Nodup)(hi:X.N[i]?=some x:=by rfl)(hx:Loc X.env.scope x:=by exact Or.inl rfl)(hf:X.fn x=true\/X.env.scope.names.lookup x=some .local:=by first|exact .inl rfl|exact .inr rfl|assumption):PG X (.Name x pos) (gName i):=zA5 hN hi hx hf
def gNil:TGs:=λ vs σ H Q=>vs=[]/\Q σ H
inductive gCons (t:TG) (u:TGs) (vs:List V) (σ:St) (H:Hp) (Q:St->Hp->Prop):Prop
 |mk (v:V) (r:List V) (h:vs=v::r) (q:t v σ H λ σ' H'=>u r σ' H' Q)
theorem zBe:PGs X [] gNil:=by
 intro jP s σ H vs us Q I r h;obtain⟨e,h⟩:=h;subst e;cases r;exact assignInOrder_nil ⟨σ,H,I,h⟩
theorem zAc {e:Expr}{es:List Expr}{t:TG}{u:TGs}(h1:PG X e t) (h2:PGs X es u)
  (hs:(assignEach (e::es) X.env).map (·.2)=assign e X.env::(assignEach es X.env).map (·.2):=by rfl):PGs X (e::es) (gCons t u):=by
 intro jP s σ H vs us Q I r h;obtain⟨v,vr,e1,h⟩:=h;subst e1;cases r with
 |cons r rr =>
  rw[hs];refine assignInOrder_cons (thn (h1 jP s σ H _ _ _ I r h) λ _ s1 ⟨σ1,H1,I1,q1⟩=>?_);exact h2 jP s1 σ1 H1 _ _ Q I1 rr q1
def gTup (K:W.Frag) (n:Nat) (t:TGs):TG:=λ v σ H Q=>∃a xs,v = .ref a/\SqT K H a xs/\xs.length=n/\t xs σ H Q
theorem zCl {es:List Expr}{k:Nat}{t:TGs}{n:Nat}(hc:X.calm=true) (h:PGs X es t)
  (hn:(assignEach es X.env).length=n:=by rfl) (hst:(assignEach es X.env).findIdx? (·.1)=none:=by rfl):PG X (.Tuple es k pos) (gTup X.K n t):=by
 intro jP s σ H v u Q I r hw;obtain⟨a,xs,e1,hq,hl,hw⟩:=hw;subst e1;cases r;obtain⟨its,rv,ht,hz⟩:=I.tuple hq;refine assign_Tuple_tuple (I.ok.hd hc) ht (by simp[hn,←hl,rv.length]) hst λ h' hx=>?_;have I1:Inv X jP σ H { s with heap:=h' }:=I.kept (t':=s.toks) λ b o e=>hx b o (lR (lH e)) e;exact h jP _ σ H xs _ Q I1 (by simpa using rv) hw
def gSub (to ti:TE) (t:TSet):TG:=λ v σ H Q=>to σ H λ o H1=>ti σ H1 λ i H2=>t o i v H2 λ H3=>Q σ H3
theorem zMH {o i:Expr}{to ti:TE}{t:TSet}(ho:PE X o to) (hi:PE X i ti) (hs:PSet X t)
  (ha:∀v,assign (.Subscript o i pos) X.env v=(do
   let ov ← holding [v] (eval o X.env)
   let iv ← holding [v,ov] (eval i X.env)
   standAt pos
   holding [v,ov,iv] (setItem ov iv v)
   release [v,ov,iv] []):=by intro _;rfl):PG X (.Subscript o i pos) (gSub to ti t):=by
 intro jP s σ H v u Q I r h;rw[ha];refine lA (lD (thn (ho jP s σ H _ I h) λ ov s1 ⟨x,H1,I1,r1,q1⟩=>?_));refine lA (lD (thn (hi jP s1 σ H1 _ I1 q1) λ iv s2 ⟨y,H2,I2,r2,q2⟩=>?_));refine lA (wpAny_standAt (lA (lD (thn (hs jP s2 σ H2 x y v ov iv u _ I2 r1 r2 r q2) λ _ s3 ⟨H3,I3,q3⟩=>?_))));exact wpAny_release ⟨σ,H3,I3,q3⟩
def tAsg (te:TE) (g:TG):TS:=λ D σ H=>te σ H λ x H1=>g x σ H1 D.nx
theorem zJe {tg e:Expr}{te:TE}{g:TG}(he:PE X e te) (hg:PG X tg g) (hs:swapsWithSole [tg] e pos.line X.env=pure false:=by rfl) (hw:swappedStores [tg] e X.env=pure none:=by rfl)
  (h1:(assignEach [tg] X.env).map (·.2)=[assign tg X.env]:=by rfl):PS X (.Assign [tg] e pos) (tAsg te g):=by
 intro jP s σ H D I h;refine wpAny_Assign_stores (thn (he jP s σ H _ I h) λ v s1 ⟨x,H1,I1,r1,q1⟩=>?_) hs hw;rw[h1];exact thn (hg jP s1 σ H1 x v _ I1 r1 q1) λ Ω s2 q=>q
theorem zH3 {i:Nat}{x:Str}{e:Expr}{te:TE}{pos':Pos}(hN:X.N.Nodup) (hi:X.N[i]?=some x) (hx:Loc X.env.scope x) (he:PE X e te) (hs:swapsWith e (some (.Name x pos')) pos.line X.env=pure false:=by rfl) (hf:X.fn x=true\/X.env.scope.names.lookup x=some .local:=by first|exact .inl rfl|exact .inr rfl|assumption) :
  PS X (.Assign [.Name x pos'] e pos) (tAsg te (gName i)):=by
 intro jP s σ H D I h;refine wpAny_Assign_Name (thn (he jP s σ H _ I h) λ v s1 ⟨y,H1,I1,r1,q1⟩=>?_) hs;exact zFi I1 hN hi hx r1 (λ s2 I2=>⟨_,H1,I2,q1⟩) hf
theorem pS {i:Nat}{x:Str}{e:Expr}{te:TE}{pos':Pos}(hN:X.N.Nodup)(he:PE X e te)(hi:X.N[i]?=some x:=by rfl)(hx:Loc X.env.scope x:=by exact Or.inl rfl)(hs:swapsWith e (some (.Name x pos')) pos.line X.env=pure false:=by rfl)(hf:X.fn x=true\/X.env.scope.names.lookup x=some .local:=by first|exact .inl rfl|exact .inr rfl|assumption):PS X (.Assign [.Name x pos'] e pos) (tAsg te (gName i)):=zH3 hN hi hx he hs hf
def tAug (i:Nat) (te:TE) (ti:TIp):TS:=λ D σ H=>∃x,σ[i]?=some (some x)/\te σ H λ y H1=>ti x y H1 λ z H2=>D.nx (σ.set i (some z)) H2
theorem zNj {i:Nat}{x:Str}{e:Expr}{te:TE}{op:Operator}{ti:TIp}{pos':Pos}(hN:X.N.Nodup) (hi:X.N[i]?=some x) (hx:Loc X.env.scope x) (he:PE X e te) (ho:PIp X op ti) (hf:X.fn x=true\/X.env.scope.names.lookup x=some .local:=by first|exact .inl rfl|exact .inr rfl|assumption) :
  PS X (.AugAssign (.Name x pos') op e pos) (tAug i te ti):=by
 intro jP s σ H D I h;obtain⟨v,e1,h⟩:=h;obtain⟨m,hn,hl⟩:=I.loc;have vis:Vis X.env.scope x:=by rcases hx with k|k;exact .inl k;exact .inr (.inl k)
 obtain⟨u,r,l⟩:=hl i x v hi e1 vis;refine wpAny_AugAssign_Name ?_
 have go:wpAny (model X.prog X.w) X.A (eval e X.env) (λ w s₂=>wpAny (model X.prog X.w) X.A (inplaceOp op u w) (λ r s₃=>wpAny (model X.prog X.w) X.A (storeName X.env x r) (λ Ω=>SP X jP D .next) X.xe s₃) X.xe s₂) X.xe s:=by
  refine thn (he jP s σ H _ I h) λ w s1 ⟨y,H1,I1,r1,q1⟩=>?_;refine thn (ho jP s1 σ H1 v y u w _ I1 r r1 q1) λ z s2 ⟨zv,H2,I2,r2,q2⟩=>?_;exact zFi I2 hN hi hx r2 (λ s3 I3=>⟨_,H2,I3,q2⟩) hf
 rcases l with ⟨hk,hm⟩|⟨hk,c,hc,hcell⟩
 ·exact wpAny_loadName_local I.ok.kind hk hn hm go
 ·rcases hk with hk|hk
  ·exact wpAny_loadName_cell I.ok.kind hk hc hcell go
  ·rcases hx with k|k
   ·have:X.env.scope.names.lookup x=some .free:=hk
    rw[k] at this;cases this
   ·have:X.env.scope.names.lookup x=some .free:=hk
    rw[k] at this;cases this
def ipI (f:Int->Int->Int):TIp:=λ x y H Q=>∃i j,x = .int i/\y = .int j/\Q (.int (f i j)) H
theorem zN3:PIp X .Add (ipI λ i j=>i+j):=by
 intro jP s σ H x y v u Q I r1 r2 h;obtain⟨i,j,e1,e2,q⟩:=h;subst e1;subst e2;obtain⟨t,rfl⟩:=r1;obtain⟨t',rfl⟩:=r2;exact iadd_int ⟨.int _,H,I.tok _,⟨_,rfl⟩,q⟩
end
section
variable {X:Cx}{pos:Pos}
def zNW (c:TT) (tb:TS):TS:=λ D σ H=>∃W:Nat->St->Hp->Prop,(∃m,W m σ H)/\∀m σ H,W m σ H ->
 c σ H λ b H1=>if b=true then ∃N:St->Hp->Prop,(∀σ' H',N σ' H'->∃m',m'<m/\W m' σ' H')/\tb { D with nx:=N,ct:=N,bk:=D.nx } σ H1 else D.nx σ H1
theorem zC2 {c:Expr}{body:List Stmt}{tc:TT}{tb:TS}(hp:PassesOwn (model X.prog X.w) X.A X.env X.xe) (hc:PT X c tc) (hb:PSs X body tb):PS X (.While c body [] pos) (zNW tc tb):=by
 intro jP s σ H D I h;obtain⟨W,⟨m0,w0⟩,turn⟩:=h;refine wpAny_While (codeAny_whileLoop (λ n s'=>∃σ' H',Inv X jP σ' H' s'/\W n σ' H') ?_ m0 ⟨σ,H,I,w0⟩);rintro n s1 ⟨σ1,H1,I1,w1⟩;refine wpAny_passesOwn hp (thn (hc jP s1 σ1 H1 _ I1 (turn n σ1 H1 w1)) λ b s2 ⟨H2,I2,q2⟩=>?_);cases b with
 |true =>
  obtain⟨N,hN,q2⟩:=q2;rw[if_pos rfl];refine wpAny_passesOwn hp (thn (hb jP s2 σ1 H2 _ I2 q2) λ f s3 q3=>?_);cases f with
  |next =>
   obtain⟨σ3,H3,I3,n3⟩:=q3;obtain⟨m',hm,w3⟩:=hN σ3 H3 n3;exact⟨m',hm,σ3,H3,I3,w3⟩
  |cont =>
   obtain⟨σ3,H3,I3,n3⟩:=q3;obtain⟨m',hm,w3⟩:=hN σ3 H3 n3;exact⟨m',hm,σ3,H3,I3,w3⟩
  |brk=>exact q3
  |ret v=>exact q3
 |false =>
  rw[if_neg Bool.false_ne_true];exact wpAny_execs_nil ⟨σ1,H2,I2,q2⟩
end
structure It where
 go:Nat->Hp->Prop
 yld:Nat->Hp->V->Hp->Prop
 stop:Nat->Hp->Prop
def FpOk (X:Cx) (jP:List (Addr × Obj)) (H:Hp) (b:Addr):Prop :=
 H b=none/\b≠X.env.locals/\b∉X.fs/\(b∈X.ex\/X.s₀.heap.objs.size<=b)/\(∀x c,X.env.cells.lookup x=some c->c≠b)/\∀p∈X.pn++jP,p.1≠b
theorem Inv.fpOk {X:Cx}{jP:List (Addr × Obj)}{σ:St}{H H':Hp}{s:Shared}{b:Addr}(I:Inv X jP σ H s) (hb:s.heap.objs.size<=b) (hn:H' b=none):FpOk X jP H' b:=by
 refine⟨hn,Nat.ne_of_gt (mB I.lt hb),I.nofs hb,.inr (mH I.sz hb),λ x c e z=>?_,λ p hp z=>?_⟩
 ·obtain⟨v,q⟩:=I.cell x c e
  exact absurd (mB q.lt (by rw[z];exact hb)) (Nat.lt_irrefl _)
 ·exact absurd (mB (lH (I.pin p hp).1) (by rw[z];exact hb)) (Nat.lt_irrefl _)
structure Turn (P:Program) (w:World) (K:W.Frag) (tg:Expr) (J:It) (fp:List Addr) (it:Addr) (tn:Nat->Heap->Prop):Prop where
 mem:it∈fp
 obj:∀i h,tn i h->∀b∈fp,∃o,h.get? b=some o/\∀v,o.data ≠ .cell v
 keep:∀i h h',tn i h->(∀b∈fp,∀o,h.get? b=some o->h'.get? b=some o)->tn i h'
 item:∀(X:Cx),X.prog=P->X.w=w->X.K=K->X.calm=true->∀(i:Nat) (jP:List (Addr × Obj)) (s:Shared) (σ:St) (H:Hp) (E:XQ),Inv X jP σ H s->(∀b∈fp,FpOk X jP H b)->tn i s.heap->J.go i H ->
  wpAny (model P w) X.A (pyNext (.ref it)) (λ r s1=>∃u,r=some u /\
   wpAny (model P w) X.A (letOwnedTupleGo tg (.ref it) u) (λ Ω s2=>∃x H',Inv X jP σ H' s2/\RelV x u/\J.yld i H x H'/\tn (i+1) s2.heap/\∀b∈fp,H' b=none) E s1) E s
 done:∀(X:Cx),X.prog=P->X.w=w->X.K=K->X.calm=true->∀(i:Nat) (jP:List (Addr × Obj)) (s:Shared) (σ:St) (H:Hp) (E:XQ),Inv X jP σ H s->(∀b∈fp,FpOk X jP H b)->tn i s.heap->J.stop i H ->
  wpAny (model P w) X.A (pyNext (.ref it)) (λ r s1=>r=none/\Inv X jP σ H s1) E s
 self:∀(A:Around) (i:Nat) (s:Shared) (Q:XQ) (E:XQ),tn i s.heap->Q (.ref it) s->wpAny (model P w) A (pyIter (.ref it)) Q E s
abbrev TI:=St->Hp->(It->Hp->Prop)->Prop
def PIE (X:Cx) (jP:List (Addr × Obj)) (σ:St) (tg:Expr) (R:It->Hp->Prop) (itv:Value) (s2:Shared):Prop :=
 ∃(it:Addr) (fp:List Addr) (tn:Nat->Heap->Prop) (J:It) (H':Hp),itv = .ref it/\Inv X jP σ H' s2/\Turn X.prog X.w X.K tg J fp it tn/\tn 0 s2.heap/\(∀b∈fp,FpOk X jP H' b)/\R J H'
def PI (X:Cx) (tg iter:Expr) (wi:TI):Prop :=
 ∀(jP:List (Addr × Obj)) (s:Shared) (σ:St) (H:Hp) (R:It->Hp->Prop),Inv X jP σ H s->wi σ H R ->
  wpAny (model X.prog X.w) X.A (eval iter X.env) (λ v s1=>wpAny (model X.prog X.w) X.A (pyIter v) (PIE X jP σ tg R) X.xe s1) X.xe s
theorem go_of {M:Model}{A:Around}{E:XQ}{s:Shared}{tg:Expr}{it:Addr}{u:Value}{o:Obj}{n:String}{vs:Array Value}{Q:Unit->Shared->Prop}(ho:s.heap.get? it=some o) (hc:o.cls = .type n) (hd:o.data = .fields vs)
    (hn:["enumerate", "zip", "dict_itemiterator", "dict_reverseitemiterator", "odict_iterator", "itertools.zip_longest", "itertools.pairwise"].contains n=false) (hQ:Q () s):wpAny M A (letOwnedTupleGo tg (.ref it) u) Q E s:=by
  unfold letOwnedTupleGo
  cases tg<;>first
    |exact lB hQ
    | (cases u<;>first
        |exact lB hQ
        | (refine lA (wpAny_load ho ?_)
           rw[hc,hd];show wpAny M A (if (["enumerate", "zip", "dict_itemiterator", "dict_reverseitemiterator", "odict_iterator", "itertools.zip_longest", "itertools.pairwise"].contains n && vs[0]? == some (rawInt _))=true then _ else _) Q E s;rw[if_neg (by intro h;rw[hn,Bool.false_and] at h;cases h)];exact lB hQ))
noncomputable def Itl (K:W.Frag) (a:Addr):It :=
 ⟨λ i H=>∃xs x,SqL K H a xs/\xs[i]?=some x,λ i H x H'=>H'=H/\∀xs,SqL K H a xs->xs[i]?=some x,λ i H=>∃xs,SqL K H a xs/\xs.length<=i⟩
noncomputable def Itt (K:W.Frag) (a:Addr):It :=
 ⟨λ i H=>∃xs x,SqT K H a xs/\xs[i]?=some x,λ i H x H'=>H'=H/\∀xs,SqT K H a xs->xs[i]?=some x,λ i H=>∃xs,SqT K H a xs/\xs.length<=i⟩
noncomputable def Itr (lo:Int) (n:Nat):It:=⟨λ i Ω=>i<n,λ i H x H'=>H'=H/\x = .int (lo+i),λ i Ω=>n<=i⟩
theorem zJL {P:Program}{w:World}{K:W.Frag}{tg:Expr}(a it:Addr):Turn P w K tg (Itl K a) [it] it (λ i h=>h.IsListIter it a i) where
 mem:=by simp
 obj:=λ i h st b hb=>by
  have e:b=it:=by simpa using hb
  subst e;obtain⟨o,e,c,d⟩:=st;exact⟨o,e,λ v z=>by rw[d] at z;cases z⟩
 keep:=λ i h h' st k=>st.at λ o e=>k it (by simp) o e
 item:=by
  intro X hP hw hK hc i jP s σ H E I hf st hg;subst hP hw hK;obtain⟨xs,x,hq,hx⟩:=hg;obtain⟨its,rv,p,hz⟩:=I.list hq;obtain⟨u,hu,ru⟩:=rv.get hx;obtain⟨f0,f1,f2,f3,f4,f5⟩:=hf it (by simp);refine wpAny_pyNext_list_item st p.isList (x:=u) (by simpa using hu) λ h' st' sb=>?_;have I1:Inv X jP σ H { s with heap:=h' }:=I.turned (t':=s.toks) (λ b o hb e=>(sb.2 b hb).trans e) f0 f1 f3 f4 f5;obtain⟨o,e,c,d⟩:=id st';exact⟨u,rfl,go_of (s:={ s with heap:=h' }) e c d (by decide) ⟨x,H,I1,ru,⟨rfl,λ ys hy=>by rw[I.list_inj hy hq];exact hx⟩,st',λ b hb=>(hf b hb).1⟩⟩
 done:=by
  intro X hP hw hK hc i jP s σ H E I hf st hg;subst hP hw hK;obtain⟨xs,hq,hx⟩:=hg;obtain⟨its,rv,p,hz⟩:=I.list hq;obtain⟨f0,f1,f2,f3,f4,f5⟩:=hf it (by simp);have hl:=rv.length;exact wpAny_pyNext_list_end (I.ok.hd hc) st p.isList (by simp;omega) λ h' eb=>⟨rfl,I.turned (t':=s.toks) (λ b o hb e=>eb b o hb e) f0 f1 f3 f4 f5⟩
 self:=λ Ω Ω Ω Ω Ω st h=>wpAny_pyIter_listiter st h
theorem zIh {P:Program}{w:World}{K:W.Frag}{tg:Expr}(a it:Addr):Turn P w K tg (Itt K a) [it] it (λ i h=>h.IsTupleIter it a i) where
 mem:=by simp
 obj:=λ i h st b hb=>by
  have e:b=it:=by simpa using hb
  subst e;obtain⟨o,e,c,d⟩:=st;exact⟨o,e,λ v z=>by rw[d] at z;cases z⟩
 keep:=λ i h h' st k=>st.at λ o e=>k it (by simp) o e
 item:=by
  intro X hP hw hK hc i jP s σ H E I hf st hg;subst hP hw hK;obtain⟨xs,x,hq,hx⟩:=hg;obtain⟨its,rv,p,hz⟩:=I.tuple hq;obtain⟨u,hu,ru⟩:=rv.get hx;obtain⟨f0,f1,f2,f3,f4,f5⟩:=hf it (by simp);refine wpAny_pyNext_tuple_item st (show s.heap.IsTuple a its.toArray from p) (x:=u) (by simpa using hu) λ h' st' sb=>?_;have I1:Inv X jP σ H { s with heap:=h' }:=I.turned (t':=s.toks) (λ b o hb e=>(sb.2 b hb).trans e) f0 f1 f3 f4 f5;obtain⟨o,e,c,d⟩:=id st';exact⟨u,rfl,go_of (s:={ s with heap:=h' }) e c d (by decide) ⟨x,H,I1,ru,⟨rfl,λ ys hy=>by rw[I.tuple_inj hy hq];exact hx⟩,st',λ b hb=>(hf b hb).1⟩⟩
 done:=by
  intro X hP hw hK hc i jP s σ H E I hf st hg;subst hP hw hK;obtain⟨xs,hq,hx⟩:=hg;obtain⟨its,rv,p,hz⟩:=I.tuple hq;obtain⟨f0,f1,f2,f3,f4,f5⟩:=hf it (by simp);have hl:=rv.length;exact wpAny_pyNext_tuple_end (I.ok.hd hc) st (show s.heap.IsTuple a its.toArray from p) (by simp;omega) λ h' eb=>⟨rfl,I.turned (t':=s.toks) (λ b o hb e=>eb b o hb e) f0 f1 f3 f4 f5⟩
 self:=λ Ω Ω Ω Ω Ω st h=>wpAny_pyIter_tupleiter st h
theorem zIi {P:Program}{w:World}{K:W.Frag}{tg:Expr}(it:Addr) (lo:Int) (n:Nat):Turn P w K tg (Itr lo n) [it] it (λ i h=>IsRangeIter h it (lo+(i:Nat) * 1) ((n:Int) - (i:Nat)) 1) where
 mem:=by simp
 obj:=λ i h st b hb=>by
  have e:b=it:=by simpa using hb
  subst e
  exact⟨_,st,λ v z=>by
   have z':Data.fields _=Data.cell v:=z;cases z'⟩
 keep:=λ i h h' st k=>k it (by simp) _ st
 item:=by
  intro X hP hw hK hc i jP s σ H E I hf st hg;subst hP hw hK;obtain⟨f0,f1,f2,f3,f4,f5⟩:=hf it (by simp);have W:=Walks.range (prog:=X.prog) (w:=X.w) (I.ok.hd hc) it lo 1 n;refine W.item i s _ _ hg st λ v h' tk hv st' kk=>?_;obtain⟨t,rfl⟩:=hv;have I1:Inv X jP σ H { s with heap:=h',toks:=tk }:=I.turned (λ b o hb e=>kk b o (by simpa using hb) e) f0 f1 f3 f4 f5;refine⟨_,rfl,go_of (s:={ s with heap:=h',toks:=tk }) (n := "range_iterator") st' rfl rfl (by decide) ⟨.int (lo+i),H,I1,⟨t,?_⟩,⟨rfl,rfl⟩,st',λ b hb=>(hf b hb).1⟩⟩;rw[Int.mul_one]
 done:=by
  intro X hP hw hK hc i jP s σ H E I hf st hg;subst hP hw hK;obtain⟨f0,f1,f2,f3,f4,f5⟩:=hf it (by simp);exact wpAny_pyNext_range_end (I.ok.hd hc) st (by have:n<=i:=hg;omega) λ h' eb=>⟨rfl,I.turned (t':=s.toks) (λ b o hb e=>eb b o hb e) f0 f1 f3 f4 f5⟩
 self:=λ Ω Ω Ω Ω Ω st h=>wpAny_pyIter_rangeiter st h
section
variable {X:Cx}{tg:Expr}
def iList (K:W.Frag) (tl:TE):TI:=λ σ H R=>tl σ H λ x H1=>∃a,x = .ref a/\(∃xs,SqL K H1 a xs)/\R (Itl K a) H1
def iTup (K:W.Frag) (tl:TE):TI:=λ σ H R=>tl σ H λ x H1=>∃a,x = .ref a/\(∃xs,SqT K H1 a xs)/\R (Itt K a) H1
theorem zAz {l:Expr}{tl:TE}(hl:PE X l tl):PI X tg l (iList X.K tl):=by
 intro jP s σ H R I h;refine thn (hl jP s σ H _ I h) λ v s1 ⟨x,H1,I1,r1,q1⟩=>?_;obtain⟨a,e,⟨xs,hq⟩,q⟩:=q1;subst e;cases r1;obtain⟨its,rv,p,hz⟩:=I1.list hq;refine wpAny_pyIter_list p.isList ?_;refine⟨s1.heap.objs.size,[s1.heap.objs.size],_,_,H1,rfl,I1.kept (t':=s1.toks) λ b o e=>lE _ e,zJL a _,⟨_,lG _ rfl,rfl,rfl⟩,λ b hb=>?_,q⟩;have e:b=s1.heap.objs.size:=by simpa using hb
 subst e;exact I1.fpOk (lQ _) (I1.hok.fresh (lQ _))
theorem zDV {l:Expr}{tl:TE}(hl:PE X l tl):PI X tg l (iTup X.K tl):=by
 intro jP s σ H R I h;refine thn (hl jP s σ H _ I h) λ v s1 ⟨x,H1,I1,r1,q1⟩=>?_;obtain⟨a,e,⟨xs,hq⟩,q⟩:=q1;subst e;cases r1;obtain⟨its,rv,p,hz⟩:=I1.tuple hq;refine wpAny_pyIter_tuple (show s1.heap.IsTuple a its.toArray from p) ?_;refine⟨s1.heap.objs.size,[s1.heap.objs.size],_,_,H1,rfl,I1.kept (t':=s1.toks) λ b o e=>lE _ e,zIh a _,⟨_,lG _ rfl,rfl,rfl⟩,λ b hb=>?_,q⟩;have e:b=s1.heap.objs.size:=by simpa using hb
 subst e;exact I1.fpOk (lQ _) (I1.hok.fresh (lQ _))
theorem zLG {jP:List (Addr × Obj)}{σ:St}{H:Hp}{s:Shared}{R:It->Hp->Prop}{E:XQ}{lo hi:Int}{t u v:Tok}{tk:Nat}(I:Inv X jP σ H s) (h1:-(2 ^ 62)<=lo) (h2:lo<2 ^ 62) (h3:-(2 ^ 62)<=hi) (h4:hi<2 ^ 62)
  (q:R (Itr lo (hi - lo).toNat) H):wpAny (model X.prog X.w) X.A (pyIter (.ref s.heap.objs.size)) (PIE X jP σ tg R) E { s with heap:=s.heap.push { cls:=.type "range", data:=.fields #[.int lo t,.int hi u,.int 1 v] },toks:=tk }:=by
 refine wpAny_pyIter_range (IsRange.new ..) (small_one h1 h2 h3 h4) ?_;have I1:Inv X jP σ H { s with heap:=s.heap.push { cls:=.type "range", data:=.fields #[.int lo t,.int hi u,.int 1 v] },toks:=tk }:=I.kept λ b o e=>lE _ e
 refine⟨(s.heap.push { cls:=.type "range", data:=.fields #[.int lo t,.int hi u,.int 1 v] }).objs.size,[(s.heap.push { cls:=.type "range", data:=.fields #[.int lo t,.int hi u,.int 1 v] }).objs.size],_,_,H,rfl,
  I1.kept (t':=tk) λ b o e=>lE _ e,zIi _ lo (hi - lo).toNat,?_,λ b hb=>?_,q⟩
 ·have e1:lo+((0:Nat):Int) * 1=lo:=by simp
  have e2:(((hi - lo).toNat:Nat):Int) - ((0:Nat):Int)=Builtin.Range.rangeSize lo hi 1:=by rw[rangeSize_one];split<;>omega
  show IsRangeIter _ _ (lo+((0:Nat):Int) * 1) ((((hi - lo).toNat:Nat):Int) - ((0:Nat):Int)) 1;rw[e1,e2];exact lG _ rfl
 ·have e:b=(s.heap.push { cls:=.type "range", data:=.fields #[.int lo t,.int hi u,.int 1 v] }).objs.size:=by simpa using hb
  subst e;exact I1.fpOk (lQ _) (I1.hok.fresh (lQ _))
def iRng1 (ta:TA):TI:=λ σ H R=>ta σ H λ vs H1=>∃j:Int,vs=[.int j] /\ -(2 ^ 62)<=j/\j<2 ^ 62/\R (Itr 0 j.toNat) H1
theorem zDW {a:Expr}{ta:TA}{p pos:Pos}(hg:Gl X "range") (hm:X.mg "range" = none) (ha:PA X [a] ta) (hs:starEach [a] X.env=[(false,eval a X.env)]:=by rfl):PI X tg (.Call (.Name "range" p) [a] [] pos) (iRng1 ta):=by
 intro jP s σ H R I h;refine Call_ (zCr I hg hm boot_range (PyProof.Rows.callWith_type1 (thn (ha pos jP s σ H _ I h) λ us s1 ⟨vs,H1,I1,r1,q1⟩=>?_) hs rfl));obtain⟨j,e,q1,q2,q⟩:=q1;subst e;cases r1 with
 |cons r rr =>
  cases rr;obtain⟨t,rfl⟩:=r;exact call_range_1 (zLG I1 (by omega) (by omega) q1 q2 (by simpa using q))
def tFor (wi:TI) (g:TG) (tb:TS):TS:=λ D σ H=>wi σ H λ J H1=>∃W:Nat->Nat->St->Hp->Prop,(∃m,W 0 m σ H1)/\∀i m σ H,W i m σ H ->
 (J.stop i H/\D.nx σ H)\/(J.go i H/\∃N:St->Hp->Prop,(∀σ' H',N σ' H'->∃m',m'<m/\W (i+1) m' σ' H')/\∀x H',J.yld i H x H'->g x σ H' λ σ2 H2=>tb { D with nx:=N,ct:=N,bk:=D.nx } σ2 H2)
noncomputable def zFK (fp:List Addr) (h:Heap):List (Addr × Obj):=fp.filterMap λ b=>(h.get? b).map λ o=>(b,o)
theorem zBo {fp:List Addr}{h:Heap}{b:Addr}{o:Obj}(hb:b∈fp) (e:h.get? b=some o):(b,o)∈zFK fp h:=List.mem_filterMap.mpr ⟨b,hb,by rw[e];rfl⟩
theorem zJ2 {fp:List Addr}{h:Heap}{p:Addr × Obj}(hp:p∈zFK fp h):p.1∈fp/\h.get? p.1=some p.2:=by
 obtain⟨b,hb,e⟩:=List.mem_filterMap.mp hp;cases q:h.get? b with
 |none=>rw[q] at e;cases e
 |some o =>
  rw[q] at e;have e':(b,o)=p:=mF e;subst e';exact⟨hb,q⟩
theorem Inv.pinned {jP:List (Addr × Obj)}{σ:St}{H:Hp}{s:Shared}{fp:List Addr}(I:Inv X jP σ H s) (hf:∀b∈fp,FpOk X jP H b) (ho:∀b∈fp,∃o,s.heap.get? b=some o/\∀v,o.data ≠ .cell v):Inv X (jP++zFK fp s.heap) σ H s :=
 I.pins_of λ p hp=>(lK.mp hp).elim (λ z=>I.pin p (mC _ z)) λ z=>by
  obtain⟨hb,e⟩:=zJ2 z;obtain⟨f0,f1,f2,_⟩:=hf p.1 hb;obtain⟨o,e',d⟩:=ho p.1 hb;rw[e] at e';cases e';exact⟨e,f0,f1,f2,d⟩
theorem Inv.unpinned {jP pl:List (Addr × Obj)}{σ:St}{H:Hp}{s:Shared}(I:Inv X (jP++pl) σ H s):Inv X jP σ H s:=I.pins_of λ p hp=>I.pin p (mC _ (mG _ hp))
theorem zAt {iter:Expr}{body:List Stmt}{wi:TI}{g:TG}{tb:TS}{pos:Pos}(hp:PassesOwn (model X.prog X.w) X.A X.env X.xe) (hc:X.calm=true) (hi:PI X tg iter wi) (hg:PG X tg g) (hb:PSs X body tb)
  (hs:∀x,foldedSetIterable iter X.env x=pure x:=by intro _;rfl):PS X (.For tg iter body [] pos) (tFor wi g tb):=by
 intro jP s σ H D I h;refine wpAny_For (thn (hi jP s σ H _ I h) λ v s1 h1=>thn h1 λ itv s2 h2=>?_) hs;obtain⟨it,fp,tn,J,H2,e,I2,T,st2,f2,W,⟨m0,w0⟩,turn⟩:=h2;subst e;have stat:∀{H':Hp},(∀b∈fp,H' b=none)->∀b∈fp,FpOk X jP H' b:=λ hn b hb=>⟨hn b hb,(f2 b hb).2⟩;refine codeAny_forLoop_any (λ n s'=>∃i σ' H',Inv X jP σ' H' s'/\tn i s'.heap/\(∀b∈fp,H' b=none)/\W i n σ' H') ?_ m0 ⟨0,σ,H2,I2,st2,λ b hb=>(f2 b hb).1,w0⟩;rintro n s3 ⟨i,σ3,H3,I3,st3,fr3,w3⟩;rcases turn i n σ3 H3 w3 with ⟨stop,qn⟩|⟨go,N,hN,step⟩
 ·refine wpAny_passesOwn hp (thn (T.done X rfl rfl rfl hc i jP s3 σ3 H3 X.xe I3 (stat fr3) st3 stop) λ r s4 ⟨hr,I4⟩=>?_)
  subst hr;exact wpAny_execs_nil ⟨σ3,H3,I4,qn⟩
 ·refine wpAny_passesOwn hp (thn (T.item X rfl rfl rfl hc i jP s3 σ3 H3 X.xe I3 (stat fr3) st3 go) λ r s4 ⟨u,hr,h4⟩=>?_)
  subst hr;refine wpAny_passesOwn hp (thn h4 λ _ s5 ⟨x,H5,I5,r5,y5,st5,fr5⟩=>?_);have I5':=I5.pinned (stat fr5) (T.obj _ _ st5);refine wpAny_passesOwn hp (thn (hg _ s5 σ3 H5 x u _ I5' r5 (step x H5 y5)) λ _ s6 ⟨σ6,H6,I6,q6⟩=>?_);refine wpAny_passesOwn hp (thn (hb _ s6 σ6 H6 _ I6 q6) λ f s7 q7=>?_)
  have again:∀{σ7:St}{H7:Hp},Inv X (jP++zFK fp s5.heap) σ7 H7 s7->N σ7 H7->∃m,m<n/\∃i σ' H',Inv X jP σ' H' s7/\tn i s7.heap/\(∀b∈fp,H' b=none)/\W i m σ' H':=λ{σ7 H7} I7 n7=>by
   obtain⟨m',hm,w7⟩:=hN σ7 H7 n7;refine⟨m',hm,i+1,σ7,H7,I7.unpinned,T.keep _ _ _ st5 λ b hb o e=>(I7.pin (b,o) (mC _ (mC _ (zBo hb e)))).1,λ b hb=>?_,w7⟩;obtain⟨o,e,d⟩:=T.obj _ _ st5 b hb;exact(I7.pin (b,o) (mC _ (mC _ (zBo hb e)))).2.1
  cases f with
  |next=>obtain⟨σ7,H7,I7,n7⟩:=q7;exact again I7 n7
  |cont=>obtain⟨σ7,H7,I7,n7⟩:=q7;exact again I7 n7
  |brk=>obtain⟨σ7,H7,I7,q7⟩:=q7;exact⟨σ7,H7,I7.unpinned,q7⟩
  |ret v=>obtain⟨x7,σ7,H7,I7,r7,q7⟩:=q7;exact⟨x7,σ7,H7,I7.unpinned,r7,q7⟩
end
theorem zA8 {K:W.Frag}{a:Addr}{xs:List V}{g:TG}{tb:TS}{D:Ends}{σ:St}{H:Hp}(Pv:Nat->St->Hp->Prop) (h0:Pv 0 σ H) (hl:∀i σ H,i<=xs.length->Pv i σ H->SqL K H a xs)
  (hs:∀i x σ H,xs[i]?=some x->Pv i σ H->g x σ H λ σ2 H2=>tb { D with nx:=Pv (i+1),ct:=Pv (i+1),bk:=D.nx } σ2 H2) (hd:∀σ H,Pv xs.length σ H->D.nx σ H) :
  ∃W:Nat->Nat->St->Hp->Prop,(∃m,W 0 m σ H)/\∀i m σ H,W i m σ H ->
   ((Itl K a).stop i H/\D.nx σ H)\/((Itl K a).go i H/\∃N:St->Hp->Prop,(∀σ' H',N σ' H'->∃m',m'<m/\W (i+1) m' σ' H')/\∀x H',(Itl K a).yld i H x H'->g x σ H' λ σ2 H2=>tb { D with nx:=N,ct:=N,bk:=D.nx } σ2 H2):=by
 refine⟨λ i m σ H=>m=xs.length - i/\i<=xs.length/\Pv i σ H,⟨xs.length,by simp,lZ _,h0⟩,?_⟩;rintro i m σ H ⟨rfl,hi,p⟩;have q:=hl i σ H hi p
 by_cases hlt:i<xs.length
 ·refine .inr ⟨⟨xs,xs[i],q,by simp[hlt]⟩,Pv (i+1),λ σ' H' p'=>⟨xs.length - (i+1),by omega,rfl,hlt,p'⟩,λ x H' y=>?_⟩
  obtain⟨e,y⟩:=y;subst e;exact hs i x σ _ (y xs q) p
 ·have e:i=xs.length:=by omega
  subst e;exact .inl ⟨⟨xs,q,lQ _⟩,hd σ H p⟩
theorem zF4 {K:W.Frag}{a:Addr}{xs:List V}{g:TG}{tb:TS}{D:Ends}{σ:St}{H:Hp}(Pv:Nat->St->Hp->Prop) (h0:Pv 0 σ H) (hl:∀i σ H,i<=xs.length->Pv i σ H->SqT K H a xs)
  (hs:∀i x σ H,xs[i]?=some x->Pv i σ H->g x σ H λ σ2 H2=>tb { D with nx:=Pv (i+1),ct:=Pv (i+1),bk:=D.nx } σ2 H2) (hd:∀σ H,Pv xs.length σ H->D.nx σ H) :
  ∃W:Nat->Nat->St->Hp->Prop,(∃m,W 0 m σ H)/\∀i m σ H,W i m σ H ->
   ((Itt K a).stop i H/\D.nx σ H)\/((Itt K a).go i H/\∃N:St->Hp->Prop,(∀σ' H',N σ' H'->∃m',m'<m/\W (i+1) m' σ' H')/\∀x H',(Itt K a).yld i H x H'->g x σ H' λ σ2 H2=>tb { D with nx:=N,ct:=N,bk:=D.nx } σ2 H2):=by
 refine⟨λ i m σ H=>m=xs.length - i/\i<=xs.length/\Pv i σ H,⟨xs.length,by simp,lZ _,h0⟩,?_⟩;rintro i m σ H ⟨rfl,hi,p⟩;have q:=hl i σ H hi p
 by_cases hlt:i<xs.length
 ·refine .inr ⟨⟨xs,xs[i],q,by simp[hlt]⟩,Pv (i+1),λ σ' H' p'=>⟨xs.length - (i+1),by omega,rfl,hlt,p'⟩,λ x H' y=>?_⟩
  obtain⟨e,y⟩:=y;subst e;exact hs i x σ _ (y xs q) p
 ·have e:i=xs.length:=by omega
  subst e;exact .inl ⟨⟨xs,q,lQ _⟩,hd σ H p⟩
theorem zDe {lo:Int}{n:Nat}{g:TG}{tb:TS}{D:Ends}{σ:St}{H:Hp}(Pv:Nat->St->Hp->Prop) (h0:Pv 0 σ H)
  (hs:∀i σ H,i<n->Pv i σ H->g (.int (lo+i)) σ H λ σ2 H2=>tb { D with nx:=Pv (i+1),ct:=Pv (i+1),bk:=D.nx } σ2 H2) (hd:∀σ H,Pv n σ H->D.nx σ H) :
  ∃W:Nat->Nat->St->Hp->Prop,(∃m,W 0 m σ H)/\∀i m σ H,W i m σ H ->
   ((Itr lo n).stop i H/\D.nx σ H)\/((Itr lo n).go i H/\∃N:St->Hp->Prop,(∀σ' H',N σ' H'->∃m',m'<m/\W (i+1) m' σ' H')/\∀x H',(Itr lo n).yld i H x H'->g x σ H' λ σ2 H2=>tb { D with nx:=N,ct:=N,bk:=D.nx } σ2 H2):=by
 refine⟨λ i m σ H=>m=n - i/\i<=n/\Pv i σ H,⟨n,by simp,lZ _,h0⟩,?_⟩;rintro i m σ H ⟨rfl,hi,p⟩
 by_cases hlt:i<n
 ·refine .inr ⟨hlt,Pv (i+1),λ σ' H' p'=>⟨n - (i+1),by omega,rfl,hlt,p'⟩,λ x H' y=>?_⟩
  obtain⟨e,y⟩:=y;subst e y;exact hs i σ _ hlt p
 ·have e:i=n:=by omega
  subst e;exact .inl ⟨lQ _,hd σ H p⟩
abbrev R2:=V->V->Hp->VK->Prop
def OpR (X:Cx) (f:Value->Value->Sem Value) (r:R2):Prop :=
 ∀(jP:List (Addr × Obj)) (s:Shared) (σ:St) (H:Hp) (x y:V) (v u:Value) (Q:VK),Inv X jP σ H s->RelV x v->RelV y u->r x y H Q ->
  wpAny (model X.prog X.w) X.A (f v u) (EP X jP σ Q) X.xe s
def UnR (X:Cx) (f:Value->Sem Value) (r:V->Hp->VK->Prop):Prop :=
 ∀(jP:List (Addr × Obj)) (s:Shared) (σ:St) (H:Hp) (x:V) (v:Value) (Q:VK),Inv X jP σ H s->RelV x v->r x H Q ->
  wpAny (model X.prog X.w) X.A (f v) (EP X jP σ Q) X.xe s
def CallR (X:Cx) (f:Value) (r:List V->Hp->VK->Prop):Prop :=
 ∀(jP:List (Addr × Obj)) (s:Shared) (σ:St) (H:Hp) (xs:List V) (us:List Value) (Q:VK),Inv X jP σ H s->Vals xs us->r xs H Q ->
  wpAny (model X.prog X.w) X.A (call f us) (EP X jP σ Q) X.xe s
def TruR (X:Cx) (r:V->Hp->(Bool->Hp->Prop)->Prop):Prop :=
 ∀(jP:List (Addr × Obj)) (s:Shared) (σ:St) (H:Hp) (x:V) (v:Value) (Q:Bool->Hp->Prop),Inv X jP σ H s->RelV x v->r x H Q ->
  wpAny (model X.prog X.w) X.A (truthy v) (TP X jP σ Q) X.xe s
def tOp (r:R2) (ta tb:TE):TE:=λ σ H Q=>ta σ H λ x H1=>tb σ H1 λ y H2=>r x y H2 Q
def tUn (r:V->Hp->VK->Prop) (ta:TE):TE:=λ σ H Q=>ta σ H λ x H1=>r x H1 Q
inductive rI (C:Int->Int->Prop) (g:Int->Int->V) (x y:V) (H:Hp) (Q:VK):Prop
 |mk (i j:Int) (hx:x = .int i) (hy:y = .int j) (c:C i j) (q:Q (g i j) H)
inductive rI0 (g:Int->Int->V) (x y:V) (H:Hp) (Q:VK):Prop
 |mk (i j:Int) (hx:x = .int i) (hy:y = .int j) (q:Q (g i j) H)
inductive rU (g:Int->V) (x:V) (H:Hp) (Q:VK):Prop
 |mk (i:Int) (hx:x = .int i) (q:Q (g i) H)
section
variable {X:Cx}{a b c:Expr}{ta tb tc:TE}{pos:Pos}
theorem binT (ha:PE X a ta) (hb:PE X b tb) {jP:List (Addr × Obj)}{s:Shared}{σ:St}{H:Hp}{R:V->V->Hp->Prop}(I:Inv X jP σ H s)
  (h:ta σ H λ x H1=>tb σ H1 λ y H2=>R x y H2) {Q:XQ}{f:Value->Value->Sem Value}
  (hf:∀v u s2 x y H2,Inv X jP σ H2 s2->RelV x v->RelV y u->R x y H2->wpAny (model X.prog X.w) X.A (f v u) Q X.xe s2) :
  wpAny (model X.prog X.w) X.A (eval a X.env) (λ v s₁=>wpAny (model X.prog X.w) X.A (eval b X.env) (λ u s₂=>wpAny (model X.prog X.w) X.A (f v u) Q X.xe s₂) X.xe s₁) X.xe s:=by
 refine thn (ha jP s σ H _ I h) λ v s1 ⟨x,H1,I1,r1,q1⟩=>?_;refine thn (hb jP s1 σ H1 _ I1 q1) λ u s2 ⟨y,H2,I2,r2,q2⟩=>?_;exact hf v u s2 x y H2 I2 r1 r2 q2
theorem pe_op {op:Operator}{r:R2}(ho:OpR X (binaryOp op) r) (ha:PE X a ta) (hb:PE X b tb):PE X (.BinOp a op b pos) (tOp r ta tb):=by
 intro jP s σ H Q I h;exact wpAny_BinOp (binT ha hb I h λ v u s2 x y H2 I2 rx ry q=>ho jP s2 σ H2 x y v u Q I2 rx ry q)
theorem pe_un {op:UnaryOp}{r:V->Hp->VK->Prop}(ho:UnR X (unaryOp op) r) (ha:PE X a ta):PE X (.UnaryOp op a pos) (tUn r ta):=by
 intro jP s σ H Q I h;exact UnaryOp_ (thn (ha jP s σ H _ I h) λ v s1 ⟨x,H1,I1,r1,q1⟩=>ho jP s1 σ H1 x v Q I1 r1 q1)
theorem opI {f:Value->Value->Sem Value}{C:Int->Int->Prop}{g:Int->Int->Int}
  (rule:∀(i j:Int) (t u:Tok) (s:Shared) (Q:XQ) (E:XQ),C i j->Q (.int (g i j) s.toks) { s with toks:=s.toks+1 }->wpAny (model X.prog X.w) X.A (f (.int i t) (.int j u)) Q E s) :
  OpR X f (rI C λ i j=>.int (g i j)):=by
 intro jP s σ H x y v u Q I rx ry h;obtain⟨i,j,rfl,rfl,hc,q⟩:=h;obtain⟨t,rfl⟩:=rx;obtain⟨t',rfl⟩:=ry;exact rule i j t t' s _ _ hc ⟨.int (g i j),H,I.tok _,⟨_,rfl⟩,q⟩
theorem opI0 {f:Value->Value->Sem Value}{g:Int->Int->Int}
  (rule:∀(i j:Int) (t u:Tok) (s:Shared) (Q:XQ) (E:XQ),Q (.int (g i j) s.toks) { s with toks:=s.toks+1 }->wpAny (model X.prog X.w) X.A (f (.int i t) (.int j u)) Q E s) :
  OpR X f (rI0 λ i j=>.int (g i j)):=by
 intro jP s σ H x y v u Q I rx ry h;obtain⟨i,j,rfl,rfl,q⟩:=h;obtain⟨t,rfl⟩:=rx;obtain⟨t',rfl⟩:=ry;exact rule i j t t' s _ _ ⟨.int (g i j),H,I.tok _,⟨_,rfl⟩,q⟩
theorem opB0 {f:Value->Value->Sem Value}{g:Int->Int->Bool}
  (rule:∀(i j:Int) (t u:Tok) (s:Shared) (Q:XQ) (E:XQ),Q (.bool (g i j)) s->wpAny (model X.prog X.w) X.A (f (.int i t) (.int j u)) Q E s) :
  OpR X f (rI0 λ i j=>.bl (g i j)):=by
 intro jP s σ H x y v u Q I rx ry h;obtain⟨i,j,rfl,rfl,q⟩:=h;obtain⟨t,rfl⟩:=rx;obtain⟨t',rfl⟩:=ry;exact rule i j t t' s _ _ ⟨.bl (g i j),H,I,rfl,q⟩
def CDiv (i j:Int):Prop:=0<j/\j<1073741824
def CPow (i j:Int):Prop:=0<=j/\j<=1000000/\i.natAbs<2 ^ 64
def CMul (i j:Int):Prop:=(-(2 ^ 64)<i/\i<2 ^ 64)\/(-(2 ^ 64)<j/\j<2 ^ 64)
theorem CMul.ok {i j:Int}(h:CMul i j):IntMulOk i j:=by
 rcases h with ⟨h1,h2⟩|⟨h1,h2⟩
 ·exact .of_left (intBits_le_64 h1 h2)
 ·exact .of_right (intBits_le_64 h1 h2)
theorem zBz:OpR X (binaryOp .Add) (rI0 λ i j=>.int (i+j)):=opI0 λ Ω Ω Ω Ω Ω Ω Ω q=>add_int q
theorem zIC:OpR X (binaryOp .Sub) (rI0 λ i j=>.int (i - j)):=opI0 λ Ω Ω Ω Ω Ω Ω Ω q=>sub_int q
theorem zNr:OpR X (binaryOp .Mult) (rI CMul λ i j=>.int (i * j)):=opI λ Ω Ω Ω Ω Ω Ω Ω hc q=>mul_int q hc.ok
theorem zAl:OpR X (binaryOp .FloorDiv) (rI CDiv λ i j=>.int (i / j)):=opI λ i j Ω Ω Ω Ω Ω hc q=>by
 have h1:(0:Int)<j:=hc.1;have h2:j<1073741824:=hc.2;exact floordiv_int (by omega) (by rw[Int.fdiv_eq_ediv_of_nonneg i (by omega)];exact q) (.inl (PyProof.noPylong_small (by omega)))
theorem zAi:OpR X (binaryOp .Mod) (rI (λ Ω j=>0<j) λ i j=>.int (i % j)):=opI λ i j Ω Ω Ω Ω Ω hc q=>by
 have h1:(0:Int)<j:=hc;exact mod_int' (by omega) (by rw[Int.fmod_eq_emod_of_nonneg i (by omega)];exact q)
theorem zEb:OpR X (binaryOp .Pow) (rI CPow λ i j=>.int (i ^ j.toNat)):=opI λ Ω Ω Ω Ω Ω Ω Ω hc q=>pow_int_small hc.1 hc.2.1 hc.2.2 q
theorem unI {f:Value->Sem Value}{g:Int->Int}
  (rule:∀(i:Int) (t:Tok) (s:Shared) (Q:XQ) (E:XQ),Q (.int (g i) s.toks) { s with toks:=s.toks+1 }->wpAny (model X.prog X.w) X.A (f (.int i t)) Q E s) :
  UnR X f (rU λ i=>.int (g i)):=by
 intro jP s σ H x v Q I rx h;obtain⟨i,rfl,q⟩:=h;obtain⟨t,rfl⟩:=rx;exact rule i t s _ _ ⟨.int (g i),H,I.tok _,⟨_,rfl⟩,q⟩
theorem zMA:UnR X (unaryOp .USub) (rU λ i=>.int (-i)):=unI λ Ω Ω Ω Ω Ω q=>neg_int q
end
noncomputable def scal:V->V->Bool
 |.non,.non=>true|.non,.int _=>true|.int _,.non=>true|.non,.bl _=>true|.bl _,.non=>true|.non,.str _=>true|.str _,.non=>true
 |.int _,.int _=>true|.bl _,.bl _=>true|.str _,.str _=>true|.byt _,.byt _=>true
 |.int _,.str _=>true|.str _,.int _=>true|.bl _,.str _=>true|.str _,.bl _=>true
 |_,_=>false
def rEq:R2:=λ x y H Q=>scal x y=true/\Q (.bl (decide (x=y))) H
def rNe:R2:=λ x y H Q=>scal x y=true/\Q (.bl (!decide (x=y))) H
theorem zKe {i j:Int}:decide (V.int i=V.int j)=(i == j):=by
 rw[Bool.eq_iff_iff];simp
theorem zMX {i j:Bool}:decide (V.bl i=V.bl j)=(i == j):=by
 rw[Bool.eq_iff_iff];simp
theorem zKd {i j:Str}:decide (V.str i=V.str j)=(i == j):=by
 rw[Bool.eq_iff_iff];simp
theorem zKf {i j:Array UInt8}:decide (V.byt i=V.byt j)=(i.toList == j.toList):=by
 rw[Bool.eq_iff_iff];cases i;cases j;simp
section
variable {X:Cx}{a b c:Expr}{ta tb tc:TE}{pos:Pos}
theorem zAs {jP:List (Addr × Obj)}{σ:St}{H:Hp}{s:Shared}{Q:VK}{k k':Bool}(I:Inv X jP σ H s) (q:Q (.bl k) H) (e:k=k'):EP X jP σ Q (.bool k') s:=by
 subst e;exact⟨.bl k,H,I,rfl,q⟩
theorem op_eq:OpR X (compareOp .Eq) rEq:=by
 intro jP s σ H x y v u Q I rx ry h;obtain⟨hs,q⟩:=h;cases x with
 |non =>
  cases rx;cases y with
  |non=>cases ry;exact PySem.EqNone.eq_none_none (zAs I q (by simp))
  |bl j=>cases ry;exact PySem.EqNone.eq_none_bool (zAs I q (by simp))
  |int j=>obtain⟨t',rfl⟩:=ry;exact PySem.EqNone.eq_none_int (zAs I q (by simp))
  |str j=>obtain⟨t',rfl⟩:=ry;exact PySem.EqNone.eq_none_str (zAs I q (by simp))
  |_=>exact absurd (show false=true from hs) lY
 |bl i =>
  cases rx;cases y with
  |non=>cases ry;exact PySem.EqNone.eq_bool_none (zAs I q (by simp))
  |bl j=>cases ry;exact eq_bool (zAs I q zMX)
  |str j=>obtain⟨t',rfl⟩:=ry;exact PySem.EqMixed.eq_bool_str (zAs I q (by simp))
  |_=>exact absurd (show false=true from hs) lY
 |int i =>
  obtain⟨t,rfl⟩:=rx;cases y with
  |non=>cases ry;exact PySem.EqNone.eq_int_none (zAs I q (by simp))
  |int j=>obtain⟨t',rfl⟩:=ry;exact eq_int (zAs I q zKe)
  |str j=>obtain⟨t',rfl⟩:=ry;exact PySem.EqMixed.eq_int_str (zAs I q (by simp))
  |_=>exact absurd (show false=true from hs) lY
 |str i =>
  obtain⟨t,rfl⟩:=rx;cases y with
  |non=>cases ry;exact PySem.EqNone.eq_str_none (zAs I q (by simp))
  |bl j=>cases ry;exact PySem.EqMixed.eq_str_bool (zAs I q (by simp))
  |int j=>obtain⟨t',rfl⟩:=ry;exact PySem.EqMixed.eq_str_int (zAs I q (by simp))
  |str j=>obtain⟨t',rfl⟩:=ry;exact eq_str (zAs I q zKd)
  |_=>exact absurd (show false=true from hs) lY
 |byt i =>
  obtain⟨t,rfl⟩:=rx;cases y with
  |byt j=>obtain⟨t',rfl⟩:=ry;exact W.eq_bytes (zAs I q zKf)
  |_=>exact absurd (show false=true from hs) lY
 |_=>cases y<;>exact absurd (show false=true from hs) lY
theorem op_ne:OpR X (compareOp .NotEq) rNe:=by
 intro jP s σ H x y v u Q I rx ry h;obtain⟨hs,q⟩:=h;cases x with
 |non =>
  cases rx;cases y with
  |non=>cases ry;exact PySem.EqNone.ne_none_none (zAs I q (by simp))
  |bl j=>cases ry;exact PySem.EqNone.ne_none_bool (zAs I q (by simp))
  |int j=>obtain⟨t',rfl⟩:=ry;exact PySem.EqNone.ne_none_int (zAs I q (by simp))
  |str j=>obtain⟨t',rfl⟩:=ry;exact PySem.EqNone.ne_none_str (zAs I q (by simp))
  |_=>exact absurd (show false=true from hs) lY
 |bl i =>
  cases rx;cases y with
  |non=>cases ry;exact PySem.EqNone.ne_bool_none (zAs I q (by simp))
  |bl j=>cases ry;exact ne_bool (zAs I q (congrArg not zMX))
  |str j=>obtain⟨t',rfl⟩:=ry;exact PySem.EqMixed.ne_bool_str (zAs I q (by simp))
  |_=>exact absurd (show false=true from hs) lY
 |int i =>
  obtain⟨t,rfl⟩:=rx;cases y with
  |non=>cases ry;exact PySem.EqNone.ne_int_none (zAs I q (by simp))
  |int j=>obtain⟨t',rfl⟩:=ry;exact ne_int (zAs I q (congrArg not zKe))
  |str j=>obtain⟨t',rfl⟩:=ry;exact PySem.EqMixed.ne_int_str (zAs I q (by simp))
  |_=>exact absurd (show false=true from hs) lY
 |str i =>
  obtain⟨t,rfl⟩:=rx;cases y with
  |non=>cases ry;exact PySem.EqNone.ne_str_none (zAs I q (by simp))
  |bl j=>cases ry;exact PySem.EqMixed.ne_str_bool (zAs I q (by simp))
  |int j=>obtain⟨t',rfl⟩:=ry;exact PySem.EqMixed.ne_str_int (zAs I q (by simp))
  |str j=>obtain⟨t',rfl⟩:=ry;exact ne_str (zAs I q (congrArg not zKd))
  |_=>exact absurd (show false=true from hs) lY
 |byt i =>
  obtain⟨t,rfl⟩:=rx;cases y with
  |byt j=>obtain⟨t',rfl⟩:=ry;exact W.ne_bytes (zAs I q (congrArg not zKf))
  |_=>exact absurd (show false=true from hs) lY
 |_=>cases y<;>exact absurd (show false=true from hs) lY
theorem op_lt:OpR X (compareOp .Lt) (rI0 λ i j=>.bl (decide (i<j))):=opB0 λ Ω Ω Ω Ω Ω Ω Ω q=>lt_int q
theorem op_le:OpR X (compareOp .LtE) (rI0 λ i j=>.bl (decide (i<=j))):=opB0 λ Ω Ω Ω Ω Ω Ω Ω q=>le_int q
theorem op_gt:OpR X (compareOp .Gt) (rI0 λ i j=>.bl (decide (j<i))):=opB0 λ Ω Ω Ω Ω Ω Ω Ω q=>gt_int q
theorem zGe:OpR X (compareOp .NotIn) (λ x y H Q=>∃i j,x = .str i/\y = .str j/\Q (.bl (!(!(Builtin.Str.occurrences j i 0 j.length 1).isEmpty))) H):=by
 intro jP s σ H x y v u Q I rx ry h;obtain⟨i,j,rfl,rfl,q⟩:=h;obtain⟨t,rfl⟩:=rx;obtain⟨t',rfl⟩:=ry;exact notIn_str (zAs I q rfl)
theorem zAZ (b:Expr) {op:CmpOp}(h:op ≠ .In:=by decide) (h2:op ≠ .NotIn:=by decide):behindInMarks op b=false:=by
 have e1:(op == CmpOp.In)=false:=by cases op<;>first|rfl|exact absurd rfl h
 have e2:(op == CmpOp.NotIn)=false:=by cases op<;>first|rfl|exact absurd rfl h2
 cases b<;>simp[behindInMarks,e1,e2]
theorem zCm {op:CmpOp}{r:R2}(ho:OpR X (compareOp op) r) (ha:PE X a ta) (hb:PE X b tb) (hm:behindInMarks op b=false):PE X (.Compare a [op] [b] pos) (tOp r ta tb):=by
 intro jP s σ H Q I h;exact wpAny_Compare1 (binT ha hb I h λ v u s2 x y H2 I2 rx ry q=>ho jP s2 σ H2 x y v u Q I2 rx ry q) hm
def tTest (t:TE):TT:=λ σ H Q=>t σ H (IsB Q)
theorem zAP {op:CmpOp}{r:R2}(ho:OpR X (compareOp op) r) (ha:PE X a ta) (hb:PE X b tb) (hm:behindInMarks op b=false):PT X (.Compare a [op] [b] pos) (tTest (tOp r ta tb)):=by
 intro jP s σ H Q I h
 refine wpAny_isTrue_Compare1 (thn (ha jP s σ H _ I h) λ v s1 ⟨x,H1,I1,r1,q1⟩=>thn (hb jP s1 σ H1 _ I1 q1) λ u s2 ⟨y,H2,I2,r2,q2⟩ =>
  thn (ho jP s2 σ H2 x y v u _ I2 r1 r2 q2) λ c s3 ⟨z,H3,I3,r3,k,e,q3⟩=>?_) hm
 subst e;cases r3;exact wpAny_truthy_bool ⟨H3,I3,q3⟩
def zNb (r r':R2) (ta tb tc:TE):TE:=λ σ H Q=>ta σ H λ x H1=>tb σ H1 λ y H2=>r x y H2 λ z H3=>∃k,z = .bl k /\
 (if k=true then tc σ H3 λ w' H4=>r' y w' H4 Q else Q (.bl false) H3)
theorem zLI {op op':CmpOp}{r r':R2}(ho:OpR X (compareOp op) r) (ho':OpR X (compareOp op') r') (ha:PE X a ta) (hb:PE X b tb) (hc:PE X c tc)
  (hm:lastMarks [op,op'] [b,c]=false:=by with_unfolding_all rfl):PT X (.Compare a [op,op'] [b,c] pos) (tTest (zNb r r' ta tb tc)):=by
 intro jP s σ H Q I h
 refine isTrue_chain (thn (ha jP s σ H _ I h) λ v s1 ⟨x,H1,I1,r1,q1⟩=>test_link (thn (hb jP s1 σ H1 _ I1 q1) λ u s2 ⟨y,H2,I2,r2,q2⟩ =>
  thn (ho jP s2 σ H2 x y v u _ I2 r1 r2 q2) λ d s3 ⟨z,H3,I3,r3,k,e,q3⟩=>?_)) hm
 subst e;cases r3;refine wpAny_truthy_bool ?_;cases k with
 |false =>
  obtain⟨k',e',q'⟩:=q3;cases e';exact ite_ff ⟨H3,I3,q'⟩
 |true =>
  refine ite_tt (test_last (thn (hc jP s3 σ H3 _ I3 q3) λ w' s4 ⟨z',H4,I4,r4,q4⟩=>thn (ho' jP s4 σ H4 y z' u w' _ I4 r2 r4 q4) λ d' s5 ⟨z2,H5,I5,r5,k2,e2,q5⟩=>?_));subst e2;cases r5;exact wpAny_truthy_bool ⟨H5,I5,q5⟩
def TruV (K:W.Frag) (x:V) (H:Hp) (k:Bool):Prop :=
 match x with
 |.non=>k=false
 |.bl b=>k=b
 |.int i=>k=(i != 0)
 |.str y=>y.length<=sizeLine/\k=((y.length:Int) != 0)
 |.byt y=>y.size<=sizeLine/\k=((y.size:Int) != 0)
 |.ref p=>(∃xs,SqL K H p xs/\k=!xs.isEmpty)\/(∃xs,SqT K H p xs/\k=!xs.isEmpty)\/∃kvs,H p=some (.dK kvs)/\k=!kvs.isEmpty
 |_=>False
theorem zI8 {κ:Type}{kvs:List (κ × V)}{vs:List (κ × Value)}(r:KV kvs vs):(!vs.isEmpty)=!kvs.isEmpty:=by
 cases r<;>rfl
theorem zFS {xs:List V}{its:List Value}(r:Vals xs its):(!its.toArray.isEmpty)=!xs.isEmpty:=by
 cases r<;>simp
theorem zEf:(sizeLine:Nat)<2 ^ 63:=by rw[sizeLine_eq];decide
theorem zNV:TruR X (λ x H Q=>∃k,TruV X.K x H k/\Q k H):=by
 intro jP s σ H x v Q I rx h;obtain⟨k,e,q⟩:=h;have hl:=zEf;have hs:sizeLine=16777216:=sizeLine_eq;cases x with
 |non =>
  cases rx;have e':k=false:=e;subst e';exact truthy_none ⟨H,I,q⟩
 |bl b =>
  cases rx;have e':k=b:=e;subst e';exact wpAny_truthy_bool ⟨H,I,q⟩
 |int i =>
  obtain⟨t,rfl⟩:=rx;have e':k=(i != 0):=e;subst e';exact PySem.P.truthy_int ⟨H,I,q⟩
 |str y =>
  obtain⟨t,rfl⟩:=rx;obtain⟨hy,e'⟩:y.length<=sizeLine/\k=((y.length:Int) != 0):=e;subst e';exact PySem.P.truthy_str (by omega) ⟨H,I.tok _,q⟩
 |byt y =>
  obtain⟨t,rfl⟩:=rx;obtain⟨hy,e'⟩:y.size<=sizeLine/\k=((y.size:Int) != 0):=e;subst e';exact W.truthy_bytes (by omega) ⟨H,I.tok _,q⟩
 |ref p =>
  cases rx;have e':(∃xs,SqL X.K H p xs/\k=!xs.isEmpty)\/(∃xs,SqT X.K H p xs/\k=!xs.isEmpty)\/∃kvs,H p=some (.dK kvs)/\k=!kvs.isEmpty:=e;rcases e' with ⟨xs,hx,e'⟩|⟨xs,hx,e'⟩|⟨kvs,hx,e'⟩
  ·subst e'
   obtain⟨its,r,pl,hz⟩:=I.list hx;have hlen:=r.length;exact wpAny_truthy_list pl.isList (by simp only[mE];omega) ⟨H,I.tok _,by rw[zFS r];exact q⟩
  ·subst e'
   obtain⟨its,r,pl,hz⟩:=I.tuple hx;have hlen:=r.length;exact truthy_tuple pl (by simp only[mE];omega) ⟨H,I.tok _,by rw[zFS r];exact q⟩
  ·subst e'
   obtain⟨hz,hS,vs,r,m⟩:kvs.length<=sizeLine/\(p == sysModules)=false/\∃vs,KV kvs vs/\s.heap.DictOf (zAd X.prog X.w) p vs:=I.hok p _ hx;have hlen:kvs.length=vs.length:=Paired.length r;exact wpAny_truthy_dict hS m (by omega) ⟨H,I.tok _,by rw[zI8 r];exact q⟩
 |_=>exact(show False from e).elim
theorem zC0 (ha:PE X a ta) (he:∀whole,isTrue a X.env whole=(do let v ← whole;standAt a.pos;holding [v] (truthy v))) :
    PT X a (λ σ H Q=>ta σ H λ x H'=>∃k,TruV X.K x H' k/\Q k H'):=by
  intro jP s σ H Q I h;exact isTrue_plain (thn (ha jP s σ H _ I h) λ v s1 ⟨x,H1,I1,r1,q1⟩=>zNV jP s1 σ H1 x v Q I1 r1 q1) (he _)
theorem zIs:OpR X (binaryOp .Add) (λ x y H Q=>∃i j,x = .str i/\y = .str j/\i.length+j.length<=sizeLine/\Q (.str (i++j)) H):=by
 intro jP s σ H x y v u Q I rx ry h;obtain⟨i,j,rfl,rfl,hz,q⟩:=h;obtain⟨t,rfl⟩:=rx;obtain⟨t',rfl⟩:=ry;exact add_str (λ t' tk=>⟨.str (i++j),H,I.tok _,⟨_,rfl⟩,q⟩) hz
theorem vals1 {x:V}{us:List Value}(r:Vals [x] us):∃u,us=[u]/\RelV x u:=by
 cases r with
 |cons r1 r2=>cases r2;exact⟨_,rfl,r1⟩
theorem vals2 {x y:V}{us:List Value}(r:Vals [x,y] us):∃u w',us=[u,w']/\RelV x u/\RelV y w':=by
 cases r with
 |cons r1 r2 =>
  cases r2 with
  |cons r3 r4=>cases r4;exact⟨_,_,rfl,r1,r3⟩
theorem zKp:CallR X (.type "int") (λ xs H Q=>(∃i,xs=[.int i]/\Q (.int i) H)\/∃k,xs=[.bl k]/\Q (.int (if k then 1 else 0)) H):=by
 intro jP s σ H xs us Q I r h;rcases h with ⟨i,rfl,q⟩|⟨k,rfl,q⟩
 ·obtain⟨u,rfl,t,rfl⟩:=vals1 r
  exact call_int_int ⟨.int i,H,I,⟨_,rfl⟩,q⟩
 ·obtain⟨u,rfl,r1⟩:=vals1 r
  cases r1;exact call_int_bool ⟨.int (if k then 1 else 0),H,I.tok _,⟨_,rfl⟩,q⟩
end
structure ObjM (h:Heap) (x dx C:Addr) (mA:Str->Option Value):Prop where
 obj:h.get? x=some (W.instObj C dx)
 ns:h.Ns1 dx mA
 ne:dx≠x
set_option tactic.hygienic true in
theorem zJ8 {h:Heap}{dx:Addr}{mA:Str->Option Value}(n:h.Ns1 dx mA):∃od,h.get? dx=some od/\∀name,W.lookIn name od=some (mA name):=by
 obtain⟨o,es,ep,ho,hd,hk,_,hm⟩:=n;refine⟨o,ho,λ name=>?_⟩;have e:=hm name;unfold nsFind findBy at e;rw[←Array.find?_toList] at e;unfold W.lookIn;rw[hd];dsimp only;split
 ·rename_i y q
  rw[q] at e;exact congrArg some e
 ·rename_i q
  rw[q] at e
  have a:es.toList.any (·.refKey)=false:=by
   rw[List.any_eq_false];intro y hy;obtain⟨z,t,hkey⟩:=hk y (Array.mem_toList_iff.mp hy);simp[DictEntry.refKey,hkey]
  have a':¬es.toList.any (·.refKey)=true:=by rw[a];exact lY
  rw[if_neg a'];exact congrArg some e
theorem ObjM.look {h:Heap}{x dx C:Addr}{mA:Str->Option Value}(I:ObjM h x dx C mA):∃od,W.InstAt h x (W.instObj C dx) C (some od)/\∀name,W.lookIn name od=some (mA name) :=
 let ⟨od,ho,hl⟩:=zJ8 I.ns
 ⟨od,⟨I.obj,rfl,rfl,ho⟩,hl⟩
theorem RelO.some_of {v:V}{o:Option Value}(r:RelO (some v) o):∃u,o=some u/\RelV v u:=by
 cases o with
 |none=>exact(show False from r).elim
 |some u=>exact⟨u,rfl,r⟩
section
variable {P:Program}{w:World}{H H':Hp}{h h':Heap}{a C dx:Addr}{fs fs':List (Str × V)}
theorem zNC (hok:HOk P w H h) (e:H a=some (.ins C dx fs)):∃mA,ObjM h a dx C mA/\(∀f,RelO (fs.lookup f) (mA f))/\PySem.Within mA (fs.map (·.1))/\fs.length<=1000/\H dx=some (.own a):=by
 obtain⟨d,z,ne,ob,mA,n,r,q⟩:=(show ObjOk P w H h a (.ins C dx fs) from hok a _ e);exact⟨mA,⟨ob,n,ne⟩,r,q,z,d⟩
end
structure Cls (K:W.Frag) (C:Addr):Prop where
 pg:W.plainGet K C Str.empty=true
 hd:W.hasDictIn K C=true
 po:W.plainOver K C=true
 sa:W.findIn K (.ref C) "__setattr__" = some (some (.builtin "object.__setattr__"))
theorem Cls.get {K:W.Frag}{C:Addr}(c:Cls K C) (f:Str):W.plainGet K C f=true:=c.pg
section
variable {X:Cx}{jP:List (Addr × Obj)}{σ:St}{H:Hp}{s:Shared}{A:Around}{E:XQ}{Q:XQ}{c:Value}{b:Bool}
inductive TyOf (K:W.Frag) (H:Hp):V->Value->Prop where
 |non:TyOf K H .non (.type "NoneType")
 |bl (x:Bool):TyOf K H (.bl x) (.type "bool")
 |int (i:Int):TyOf K H (.int i) (.type "int")
 |str (x:Str):TyOf K H (.str x) (.type "str")
 |flt (x:UInt64):TyOf K H (.flt x) (.type "float")
 |lst {a:Addr}{xs:List V}(e:H a=some (.lst xs)):TyOf K H (.ref a) (.type "list")
 |frz {a:Addr}{o:Obj}{xs:List V}(e:H a=some (.frz o (.lst xs))):TyOf K H (.ref a) (.type "list")
 |tup {a:Addr}{xs:List V}(e:H a=some (.tup xs)):TyOf K H (.ref a) (.type "tuple")
 |dK {a:Addr}{kvs:List (Key × V)}(e:H a=some (.dK kvs)):TyOf K H (.ref a) (.type "dict")
 |dT {a:Addr}{kvs:List (List Key × V)}(e:H a=some (.dT kvs)):TyOf K H (.ref a) (.type "dict")
 |ins {a C dx:Addr}{fs:List (Str × V)}(e:H a=some (.ins C dx fs)) (cl:Cls K C) (ha:W.findIn K (.ref C) "__class__" = some (some (.builtin "object.__class__")))
   (hn:W.specialIn K (.builtin "object.__class__") "__get__" = some (some (.builtin "getset_descriptor.__get__"))) (htk:W.takesIn K (.builtin "object.__class__")=some true)
   (hm:W.mroIn K C (.type "object")=some true):TyOf K H (.ref a) (.ref C)
theorem zKN {x:V}{u t:Value}(I:Inv X jP σ H s) (rx:RelV x u) (ty:TyOf X.K H x t) (e:W.kitOne X.K t c=some b) (h:∀tk,Q (.bool b) { s with toks:=tk }) :
  wpAny (model X.prog X.w) A (call (.builtin "isinstance") [u,c]) Q E s:=by
 cases ty with
 |non=>cases (show u=Value.none from rx);exact W.kia_one W.kitx_none I.kIn True.intro e (λ z=>nomatch z) h
 |bl y=>cases (show u=Value.bool y from rx);exact W.kia_one W.kitx_bool I.kIn True.intro e (λ z=>nomatch z) h
 |int i=>obtain⟨t,q⟩:=(show ∃t,u=Value.int i t from rx);cases q;exact W.kia_one W.kitx_int I.kIn True.intro e (λ z=>nomatch z) h
 |str y=>obtain⟨t,q⟩:=(show ∃t,u=Value.str y t from rx);cases q;exact W.kia_one W.kitx_str I.kIn True.intro e (λ z=>nomatch z) h
 |flt y=>obtain⟨t,q⟩:=(show ∃t,u=Value.float y t from rx);cases q;exact W.kia_one W.kitx_float I.kIn True.intro e (λ z=>nomatch z) h
 | @lst a xs ea =>
  cases (show u=Value.ref a from rx);obtain⟨_,_,n,_,h1⟩:=(show ObjOk X.prog X.w H s.heap a (.lst xs) from I.hok a _ ea);exact W.kia_one W.kitx_list I.kIn ⟨_,h1,rfl⟩ e (λ z=>nomatch z) h
 | @frz a ob xs ea =>
  cases (show u=Value.ref a from rx);obtain⟨_,_,_,n,_,h1⟩:=(show ObjOk X.prog X.w H s.heap a (.frz ob (.lst xs)) from I.hok a _ ea);exact W.kia_one W.kitx_list I.kIn ⟨_,h1,rfl⟩ e (λ z=>nomatch z) h
 | @tup a xs ea =>
  cases (show u=Value.ref a from rx);obtain⟨_,_,_,p⟩:=(show ObjOk X.prog X.w H s.heap a (.tup xs) from I.hok a _ ea);obtain⟨o,h1,h2,_⟩:=p;exact W.kia_one W.kitx_tuple I.kIn ⟨o,h1,h2⟩ e (λ z=>nomatch z) h
 | @dK a kvs ea =>
  cases (show u=Value.ref a from rx);obtain⟨_,_,vs,_,p⟩:=(show ObjOk X.prog X.w H s.heap a (.dK kvs) from I.hok a _ ea);obtain⟨o,es,ep,h1,h2,_⟩:=p;exact W.kia_one W.kitx_dict I.kIn ⟨o,h1,h2.1⟩ e (λ z=>nomatch z) h
 | @dT a kvs ea =>
  cases (show u=Value.ref a from rx);obtain⟨_,_,xs,_,o,es,ep,h1,h2,_⟩:=(show ObjOk X.prog X.w H s.heap a (.dT kvs) from I.hok a _ ea);exact W.kia_one W.kitx_dict I.kIn ⟨o,h1,h2.1⟩ e (λ z=>nomatch z) h
 | @ins a C dx fs ea cl ha hn htk hm =>
  cases (show u=Value.ref a from rx);obtain⟨mA,O,_⟩:=zNC I.hok ea;obtain⟨od,J,_⟩:=O.look;exact W.kia_one (W.kitx_own (cl.get _) cl.hd ha hn htk hm) I.kIn J e (λ z=>nomatch z) h
end
structure Room (k:Nat) (A:Around):Prop where
 hd:A.handled=none
 dp:A.depth+3 * k+5<recursionLimit
 un:A.units+16 * k+200<cLine
theorem Room.mono {j k:Nat}{A:Around}(r:Room k A) (h:j<=k):Room j A:=⟨r.hd,by have:=r.dp;omega,by have:=r.un;omega⟩
theorem Room.deeper {k:Nat}{A:Around}(r:Room (k+1) A) (env:Env):Room k (A.deeper env) :=
 ⟨r.hd,by have:=r.dp;show A.depth+1+3 * k+5<_;omega,by have:=r.un;show A.units+3+16 * k+200<_;omega⟩
theorem Room.depth {k:Nat}{A:Around}(r:Room k A):A.depth<recursionLimit:=by have:=r.dp;omega
theorem Room.units {k:Nat}{A:Around}(r:Room k A):A.units+64<cLine:=by have:=r.un;omega
def tNil:TA:=λ Ω H Q=>Q [] H
def tCons (ta:TE) (tr:TA):TA:=λ σ H Q=>ta σ H λ x H1=>tr σ H1 λ xs H2=>Q (x::xs) H2
section
variable {X:Cx}{e:Expr}{es:List Expr}{te:TE}{t:TA}{pos:Pos}
theorem zAD:PA X [] tNil:=λ Ω Ω Ω Ω H Q I h=>Calls.spliced_nil ⟨[],H,I,.nil,h⟩
theorem zAA (ha:PE X e te) (hr:PA X es t) (hs:starEach (e::es) X.env=(false,eval e X.env)::starEach es X.env:=by rfl):PA X (e::es) (tCons te t):=by
 intro pos jP s σ H Q I h;rw[hs];show wpAny _ _ (spliced ((false,eval e X.env)::backTo pos (starEach es X.env))) _ _ s;refine Calls.spliced_cons (thn (ha jP s σ H _ I h) λ u s1 ⟨x,H1,I1,r1,q1⟩=>?_);exact thn (hr pos jP s1 σ H1 _ I1 q1) λ us s2 ⟨xs,H2,I2,r2,q2⟩=>⟨x::xs,H2,I2,.cons r1 r2,q2⟩
def tTup (t:TA):TE:=λ σ H Q=>t σ H λ xs H1=>xs.length<=sizeLine/\∀p,H1 p=none->Q (.ref p) (upd H1 p (.tup xs))
def tLst (t:TA):TE:=λ σ H Q=>t σ H λ xs H1=>xs.length<=sizeLine/\∀p,H1 p=none->Q (.ref p) (upd H1 p (.lst xs))
theorem zAh {x1} (h:PA X es t):PE X (.Tuple es x1 pos) (tTup t):=by
 intro jP s σ H Q I hq;refine wpAny_Tuple_spliced (thn (h pos jP s σ H _ I hq) λ us s1 ⟨xs,H1,I1,r,z,q⟩=>⟨by rw[←r.length];exact z,?_⟩);have hf:H1 s1.heap.objs.size=none:=I1.hok.fresh (lQ _);refine⟨.ref s1.heap.objs.size,upd H1 s1.heap.objs.size (.tup xs),I1.laid (t':=s1.toks) (λ b u e=>lE _ e) (lQ _) ?_,rfl,q _ hf⟩;exact⟨z,us,r,⟨_,lG _ rfl,rfl,_,rfl⟩⟩
theorem zAv (h:PA X es t):PE X (.List es pos) (tLst t):=by
 intro jP s σ H Q I hq;refine wpAny_List_spliced (thn (h pos jP s σ H _ I hq) λ us s1 ⟨xs,H1,I1,r,z,q⟩=>⟨by rw[←r.length];exact z,?_⟩);have hf:H1 s1.heap.objs.size=none:=I1.hok.fresh (lQ _);refine⟨.ref s1.heap.objs.size,upd H1 s1.heap.objs.size (.lst xs),I1.laid (t':=s1.toks) (λ b u e=>lE _ e) (lQ _) ?_,rfl,q _ hf⟩;exact⟨z,us,0,r,lG _ rfl⟩
end
abbrev Sp:=List V->Hp->VK->XK->Prop
abbrev CXT:=List Env->Hp->Shared->XK->Value->Shared->Prop
structure Env0 (P:Program) (w:World) (K:W.Frag) (mg:Str->Option Value) (base:Heap) (A:Around) (outer:List Env) (s:Shared) (H:Hp):Prop where
 frames:A.frames=some outer
 mod:Mod K mg base
 bs:∀b o,base.get? b=some o->s.heap.get? b=some o/\H b=none
 bsz:base.objs.size<=s.heap.objs.size
 funs:s.heap.FunFrames base outer
 frf:∀b∈frs outer,H b=none
 hok:HOk P w H s.heap
 bare:AllBare s.gens
def CE (outer:List Env) (P:Program) (w:World) (H:Hp) (s:Shared) (Q:VK) (u:Value) (s':Shared):Prop :=
 ∃v H',s'.os=s.os/\AllBare s'.gens/\Un (frs outer) [] H H' s.heap s'.heap/\HOk P w H' s'.heap/\RelV v u/\Q v H'
def CR (CX:CXT) (outer:List Env) (P:Program) (w:World) (H:Hp) (s:Shared) (Q:VK) (E:XK) (r:Result) (s':Shared):Prop :=
 match r with
 |.ok (.ret u)=>CE outer P w H s Q u s'
 |.ok _=>False
 |.error e=>CX outer H s E e s'
structure FnOk (P:Program) (w:World) (K:W.Frag) (mg:Str->Option Value) (base:Heap) (CX:CXT) (k:Nat) (f:Addr) (fd:FuncData) (ps:List Str) (sp:Sp):Prop where
 len:∀vs H Q E,sp vs H Q E->vs.length=ps.length
 run:∀(A:Around) (outer:List Env) (s:Shared) (H:Hp) (args:Args) (us:List Value) (vs:List V) (Q:VK) (E:XK),Room k A->Env0 P w K mg base A outer s H->BindsTo s fd args (ps.zip us)->Vals vs us->sp vs H Q E ->
  codeAny (model P w) A (.call (.ref f) args) (CR CX outer P w H s Q E) s
theorem FnOk.mono {P:Program}{w:World}{K:W.Frag}{mg:Str->Option Value}{base:Heap}{CX:CXT}{j k:Nat}{f:Addr}{fd:FuncData}{ps:List Str}{sp:Sp}(F:FnOk P w K mg base CX j f fd ps sp) (h:j<=k) :
  FnOk P w K mg base CX k f fd ps sp:=⟨F.len,λ A outer s H args us vs Q E hr=>F.run A outer s H args us vs Q E (hr.mono h)⟩
section
variable {X:Cx}{jP:List (Addr × Obj)}{σ:St}{H:Hp}{s s':Shared}
theorem Inv.env0 (I:Inv X jP σ H s):Env0 X.prog X.w X.K X.mg X.base X.A X.stack s H :=
 ⟨I.ok.frames,I.ok.mod,I.bs,mH I.ok.bsz I.sz,I.stack,I.stkFree,I.hok,I.bare⟩
theorem Inv.after {Q:VK}{u:Value}(I:Inv X jP σ H s) (h:CE X.stack X.prog X.w H s Q u s'):EP X jP σ Q u s':=by
 obtain⟨v,H',os,bare,un,hok,r,q⟩:=h;obtain⟨hh,g,d,t,os'⟩:=s';obtain rfl:os'=s.os:=os;exact⟨v,H',I.call (h':=hh) (g':=g) (d':=d) (t':=t) (ch:=[]) un hok bare (λ b z=>absurd z (by simp)),r,q⟩
end
def tCall (sp:Sp) (dvs:List V) (E:XK) (t:TA):TE:=λ σ H Q=>t σ H λ vs H1=>sp (vs++dvs) H1 Q E
def Binds (K:W.Frag) (fd:FuncData) (ps:List Str) (ds:List Value):Prop :=
 ∀(s:Shared) (us:List Value),K.In s.heap->(us++ds).length=ps.length->BindsTo s fd ⟨us,[]⟩ (ps.zip (us++ds))
theorem Binds.all {K:W.Frag}{fd:FuncData}{ps:List Str}(h:∀us:List Value,us.length=ps.length->bindArgs fd ⟨us,[]⟩=pure (ps.zip us)):Binds K fd ps []:=λ s us Ω hl=>by
 rw[nR] at hl ⊢;exact .of_eq (h us hl)
def zFd (CX:CXT) (X:Cx) (E:XK):Prop:=∀(jP:List (Addr × Obj)) (σ:St) (H:Hp) (s:Shared) (e:Value) (s':Shared),Inv X jP σ H s->CX X.stack H s E e s'->X.xe e s'
section
variable {X:Cx}{CX:CXT}{k:Nat}{f C:Addr}{fd:FuncData}{ps:List Str}{sp:Sp}{dvs:List V}{ds:List Value}{E:XK}{x m:Str}{p pos apos:Pos}{e o:Expr}{es:List Expr}{ta:TE}{t:TA}
theorem zNf {jP:List (Addr × Obj)}{σ:St}{H:Hp}{s:Shared}{Q:VK}{us:List Value}{vs:List V}(F:FnOk X.prog X.w X.K X.mg X.base CX k f fd ps sp) (hr:Room k X.A) (hb:Binds X.K fd ps ds) (hd:Vals dvs ds) (hx:zFd CX X E)
  (I:Inv X jP σ H s) (r:Vals vs us) (h:sp (vs++dvs) H Q E):wpAny (model X.prog X.w) X.A (call (.ref f) us) (EP X jP σ Q) X.xe s:=by
 have r2:Vals (vs++dvs) (us++ds):=r.append hd;have hl:(us++ds).length=ps.length:=by rw[←r2.length];exact F.len _ _ _ _ h
 refine wpAny_call (codeAny_mono (F.run X.A X.stack s H ⟨us,[]⟩ (us++ds) (vs++dvs) Q E hr I.env0 (hb s us I.kIn hl) r2 h) λ r s' hq=>?_);cases r with
 |error e=>exact hx jP σ H s e s' I hq
 |ok fl =>
  cases fl with
  |ret u=>exact I.after hq
  |next=>exact False.elim hq
  |brk=>exact False.elim hq
  |cont=>exact False.elim hq
theorem zCn (F:FnOk X.prog X.w X.K X.mg X.base CX k f fd ps sp) (hr:Room k X.A) (hg:Gl X x) (hm:X.mg x=some (.ref f)) (hk:W.keepIn X.K (.ref f)=true) (hb:Binds X.K fd ps ds) (hd:Vals dvs ds) (hx:zFd CX X E)
  (ha:PA X (e::es) t) (hdb:(x == ("__debug__" : Str))=false:=by decide) (he:starEach (e::es) X.env=(false,eval e X.env)::starEach es X.env:=by rfl) (hpl:(backTo pos (starEach es X.env)).any (·.1)=false:=by rfl) :
  PE X (.Call (.Name x p) (e::es) [] pos) (tCall sp dvs E t):=by
 intro jP s σ H Q I h;refine wpAny_Call_Name_kw (zHZ I hg hm ?_ hdb);refine W.callWith_K (h₀:=X.base) I.ok.mod.kin hk (thn (ha pos jP s σ H _ I h) λ us s1 ⟨vs,H1,I1,r,q⟩=>⟨I1.kIn,?_⟩) he hpl;exact zNf F hr hb hd hx I1 r q
end
structure zAV (N P:List Str) (sc:Scope):Prop where
 kind:sc.kind = .function
 co:sc.isCoroutine=false
 gen:sc.isGenerator=false
 nd:N.Nodup
 pre:N.take P.length=P
 par:∀x∈P,sc.names.lookup x=some .local\/sc.names.lookup x=some .cell
 nofree:∀y∈sc.names,y.2 ≠ .free
theorem scI {N P:List Str}{sc:Scope}(a:sc.kind=.function:=by rfl)(b:sc.isCoroutine=false:=by rfl)(c:sc.isGenerator=false:=by rfl)(d:N.Nodup:=by left)(e:N.take P.length=P:=by rfl)(f:∀x∈P,sc.names.lookup x=some .local\/sc.names.lookup x=some .cell:=by left)(g:∀y∈sc.names,y.2≠.free:=by left):zAV N P sc:=⟨a,b,c,d,e,f,g⟩
theorem zGw {kindOf:Str->Option NameKind}{x:Str}:∀{binds:List (Str × Value)}{m:Str->Option Value},(∀v,(x,v)∉binds)->bindL kindOf binds m x=m x
 |[],_,_=>rfl
 | (n,v)::r,m,h=>by
  unfold bindL;rw[zGw λ w hw=>h w (List.mem_cons_of_mem _ hw)];split
  ·have:x≠n:=by rintro rfl;exact h v lO
   simp[this]
  ·rfl
theorem zGy {kindOf:Str->Option NameKind}{x:Str}:∀{binds:List (Str × Value)}{m:Str->Option Value},(∀v,(x,v)∉binds)->bindC kindOf binds m x=m x
 |[],_,_=>rfl
 | (n,v)::r,m,h=>by
  unfold bindC;rw[zGy λ w hw=>h w (List.mem_cons_of_mem _ hw)];split
  ·rfl
  ·have:x≠n:=by rintro rfl;exact h v lO
   simp[this]
theorem zGx {kindOf:Str->Option NameKind}{x:Str}{v:Value}:∀{P:List Str}{vs:List Value}{i:Nat}{m:Str->Option Value},P.Nodup->P[i]?=some x->vs[i]?=some v->kindOf x=some .local ->
  bindL kindOf (P.zip vs) m x=some v
 |[],_,_,_,_,h,_,_=>by simp at h
 |_::_,[],_,_,_,_,h,_=>by simp at h
 |p::P,w::vs,0,m,nd,h1,h2,hk=>by
  simp at h1 h2;subst h1;subst h2;show bindL kindOf ((p,w)::P.zip vs) m p=_;unfold bindL;rw[zGw λ v hv=>(rD.mp nd).1 (List.of_mem_zip hv).1,if_pos hk];simp
 |p::P,w::vs,i+1,m,nd,h1,h2,hk=>by
  show bindL kindOf ((p,w)::P.zip vs) m x=_;unfold bindL;exact zGx (i:=i) (rD.mp nd).2 (by simpa using h1) (by simpa using h2) hk
theorem zGz {kindOf:Str->Option NameKind}{x:Str}{v:Value}:∀{P:List Str}{vs:List Value}{i:Nat}{m:Str->Option Value},P.Nodup->P[i]?=some x->vs[i]?=some v->kindOf x≠some .local ->
  bindC kindOf (P.zip vs) m x=some v
 |[],_,_,_,_,h,_,_=>by simp at h
 |_::_,[],_,_,_,_,h,_=>by simp at h
 |p::P,w::vs,0,m,nd,h1,h2,hk=>by
  simp at h1 h2;subst h1;subst h2;show bindC kindOf ((p,w)::P.zip vs) m p=_;unfold bindC;rw[zGy λ v hv=>(rD.mp nd).1 (List.of_mem_zip hv).1,if_neg hk];simp
 |p::P,w::vs,i+1,m,nd,h1,h2,hk=>by
  show bindC kindOf ((p,w)::P.zip vs) m x=_;unfold bindC;exact zGz (i:=i) (rD.mp nd).2 (by simpa using h1) (by simpa using h2) hk
noncomputable def start (N:List Str) (vs:List V):St:=vs.map some++List.replicate (N.length - vs.length) none
noncomputable def cxOf (CX:CXT) (P:Program) (w:World) (K:W.Frag) (mg:Str->Option Value) (base:Heap) (N:List Str) (qual:Str) (scope:Scope) (f:Addr) (cd:Value) (A:Around) (outer:List Env) (s:Shared) (H:Hp) (E:XK):Cx where
 prog:=P
 w:=w
 K:=K
 mg:=mg
 base:=base
 A:=A.deeper (envOfC qual scope s.heap.objs.size f cd)
 N:=N
 s₀:=s
 H₀:=H
 env:=envOfC qual scope s.heap.objs.size f cd
 outer:=outer
 stack:=envOfC qual scope s.heap.objs.size f cd::outer
 ex:=[]
 calm:=true
 fn:=λ Ω=>true
 pn:=[]
 xe:=λ e s'=>wpAny (model P w) (A.deeper (envOfC qual scope s.heap.objs.size f cd)) (leaving (envOfC qual scope s.heap.objs.size f cd) e) (λ Ω s''=>CX outer H s E e s'') (λ e' s''=>CX outer H s E e' s'') s'
theorem zIb {sc:Scope}{n:Nat}{x:Str}(h:sc.names.lookup x=some .cell):∃c,(cellsFrom n sc.names []).lookup x=some c:=by
 have q:=W.cellsFrom_some sc.names n [] (.inl h);exact Option.isSome_iff_exists.mp q
theorem zKO {CX:CXT}{P:Program}{w:World}{K:W.Frag}{mg:Str->Option Value}{base:Heap}{N ps:List Str}{qual:Str}{scope:Scope}{f:Addr}{cd:Value}{A:Around}{outer:List Env}{s s1:Shared}{H:Hp}{E:XK}{us:List Value}{vs:List V}
  (S:zAV N ps scope) (hd:A.handled=none) (e0:Env0 P w K mg base A outer s H) (hl:vs.length=ps.length) (r:Vals vs us)
  (x:InCallC s s.heap.objs.size (bindL (envOfC qual scope s.heap.objs.size f cd).kindOf (ps.zip us) λ Ω=>none) (cellsFrom (s.heap.objs.size+1) scope.names []) (bindC (envOfC qual scope s.heap.objs.size f cd).kindOf (ps.zip us) λ Ω=>none) s1) :
  Inv (cxOf CX P w K mg base N qual scope f cd A outer s H E) [] (start N vs) H s1:=by
 have hpl:ps.length<=N.length:=by have:=congrArg List.length S.pre;rw[mO] at this;omega
 obtain⟨h1,tk,rfl,hk⟩:=x.done;have noA:∀b:Addr,b∉(cxOf CX P w K mg base N qual scope f cd A outer s H E).ex:=λ b z=>absurd (show b∈([]:List Addr) from z) (by simp)
 refine⟨⟨e0.mod,S.kind,rfl,rfl,lQ _,λ y z c h1 h2=>?_,λ y hy=>?_,λ y c Ω h=>?_,λ Ω=>hd,Around.frames_deeper e0.frames,.inr ⟨rfl,rfl⟩,λ b z=>absurd z (noA b),e0.bs,e0.bsz,λ b Ω Ω=>noA b,λ b z=>absurd z (noA b),e0.funs,e0.frf⟩,
  rfl,e0.bare,Un.kept hk,⟨_,x.toInCall.ns,λ i y v h1 h2 h3=>?_⟩,λ y c h=>⟨_,x.cell y c h⟩,e0.hok.fresh (lQ _),λ y c h=>?_,λ p hp=>absurd (show p∈([]:List (Addr × Obj)) from hp) (by simp),e0.hok.kept hk,?_⟩
 ·exact name_of_addr x.apart (PySem.mem_of_lookup h1) (PySem.mem_of_lookup h2)
 ·have hy:scope.names.lookup y=some .cell\/scope.names.lookup y=some .free:=hy
  rcases hy with hy|hy
  ·exact zIb hy
  ·exact absurd rfl (S.nofree _ (PySem.mem_of_lookup hy))
 ·exact Nat.le_of_lt (x.above y c (PySem.mem_of_lookup h))
 ·have hi:i<vs.length:=by
   unfold start at h2
   by_cases hi:i<vs.length
   ·exact hi
   ·rw[List.getElem?_append_right (by simpa using hi)] at h2
    rw[List.getElem?_replicate] at h2;split at h2<;>cases h2
  have ha:vs[i]?=some v:=by
   unfold start at h2;rw[List.getElem?_append_left (by simpa using hi),mI] at h2;cases e:vs[i]? with
   |none=>rw[e] at h2;cases h2
   |some a=>rw[e] at h2;cases h2;rfl
  obtain⟨u,hu,rv⟩:=r.get ha
  have hp:ps[i]?=some y:=by
   rw[←S.pre,List.getElem?_take_of_lt (by omega)];exact h1
  have ndP:ps.Nodup:=by rw[←S.pre];exact S.nd.sublist (List.take_sublist _ _)
  refine⟨u,rv,?_⟩;rcases S.par y (lM hp) with k|k
  ·exact .inl ⟨k,zGx ndP hp hu k⟩
  ·obtain⟨c,e⟩:=zIb (n:=s.heap.objs.size+1) k
   refine .inr ⟨.inl k,c,e,?_⟩;have q:=x.cell y c e;rw[zGz ndP hp hu (by show scope.names.lookup y≠_;rw[k];decide)] at q;exact q
 ·exact e0.hok.fresh (Nat.le_of_lt (x.above y c (PySem.mem_of_lookup h)))
 ·unfold start
  show _=N.length;rw[mK,lC,List.length_replicate];omega
theorem fn_of {CX:CXT}{P:Program}{w:World}{K:W.Frag}{mg:Str->Option Value}{base:Heap}{k:Nat}{f:Addr}{name qual:Str}{params:Arguments}{body:List Stmt}{scope:Scope}{dV kV doc pm cdv ct oc:Value}{an od:Option Addr}
  {osl:Array (Option Value)}{N ps:List Str}{sp:Sp}(lk:K.lookup f=some ⟨oc,od,.func (W.fnOf name qual params body scope dV kV doc pm an cdv ct),osl⟩) (hcd:W.codeIn K cdv qual=true) (S:zAV N ps scope)
  (len:∀vs H Q E,sp vs H Q E->vs.length=ps.length)
  (hbody:∀(A:Around) (outer:List Env) (s:Shared) (H:Hp) (vs:List V) (Q:VK) (E:XK),Room k (A.deeper (envOfC qual scope s.heap.objs.size f cdv))->sp vs H Q E ->
   ∃t,PSs (cxOf CX P w K mg base N qual scope f cdv A outer s H E) body t/\t { nx:=λ Ω H'=>Q .non H',rt:=Q } (start N vs) H) :
  FnOk P w K mg base CX (k+1) f (W.fnOf name qual params body scope dV kV doc pm an cdv ct) ps sp:=by
 refine⟨len,λ A outer s H args us vs Q E hr e0 hb r hsp=>?_⟩;have hl:=len _ _ _ _ hsp;have KX:K.In s.heap:=e0.mod.kin.keeps λ b o e=>(e0.bs b o e).1;have lim:s.heap.NoLimit:=e0.mod.nolimit.keeps λ b o e=>(e0.bs b o e).1
 have hkind:∀y∈ps.zip us,scope.names.lookup y.1=some .local\/(scope.names.lookup y.1=some .cell/\((cellsFrom (s.heap.objs.size+1) scope.names []).lookup y.1).isSome=true):=λ⟨n,v⟩ hy=>by
  rcases S.par n (List.of_mem_zip hy).1 with q|q
  ·exact .inl q
  ·exact .inr ⟨q,W.cellsFrom_some _ _ _ (.inl q)⟩
 refine codeAny_call_function hr.depth (KX _ _ lk) rfl S.co S.gen rfl (W.codeRec_of KX hcd) (hb _ _ _ _ ?_);refine wpAny_newFunctionEnv_cells S.kind hkind λ env he s1 x=>?_;subst he;refine⟨lim.keeps x.toInCall.keep,codeAny_func ?_⟩;obtain⟨t,ht,hq⟩:=hbody A outer s H vs Q E (hr.deeper _) hsp;have I:Inv (cxOf CX P w K mg base N qual scope f cdv A outer s H E) [] (start N vs) H s1:=zKO S hr.hd e0 hl r x;refine wpAny_mono (ht [] s1 (start N vs) H _ I hq) (λ fl s' hs=>?_) λ e s' hs=>hs
 have fin:∀{σ':St}{H':Hp}{v:V}{u:Value},Inv (cxOf CX P w K mg base N qual scope f cdv A outer s H E) [] σ' H' s'->RelV v u->Q v H'->CE outer P w H s Q u s' :=
  λ{σ' H' v u} J rv q=>⟨v,H',J.os,J.bare,J.base,J.hok,rv,q⟩
 cases fl with
 |ret u =>
  obtain⟨v,σ',H',J,rv,q⟩:=hs;exact fin J rv q
 |next =>
  obtain⟨σ',H',J,q⟩:=hs;exact fin (v:=V.non) (u:=Value.none) J rfl q
 |brk =>
  obtain⟨_,_,_,q⟩:=hs;exact False.elim q
 |cont =>
  obtain⟨_,_,_,q⟩:=hs;exact False.elim q
section
variable {X:Cx}{x:Str}{p pos:Pos}{e:Expr}{es:List Expr}{t:TA}{id T:String}{r:List V->Hp->VK->Prop}
def tCB (r:List V->Hp->VK->Prop) (t:TA):TE:=λ σ H Q=>t σ H λ vs H1=>r vs H1 Q
theorem zBb (hc:CallR X (.builtin id) r) (hg:Gl X x) (hm:X.mg x=none) (hv:bootBuiltins x=some (.builtin id)) (ha:PA X (e::es) t) (hn:x ≠ "__name__" := by decide) (hdb:(x == ("__debug__" : Str))=false:=by decide)
  (he:starEach (e::es) X.env=(false,eval e X.env)::starEach es X.env:=by rfl) (hpl:(backTo pos (starEach es X.env)).any (·.1)=false:=by rfl):PE X (.Call (.Name x p) (e::es) [] pos) (tCB r t):=by
 intro jP s σ H Q I h;refine wpAny_Call_Name_kw (zCr I hg hm hv ?_ hn hdb);exact PyProof.Rows.callWith_builtin1 (thn (ha pos jP s σ H _ I h) λ us s1 ⟨vs,H1,I1,r1,q1⟩=>hc jP s1 σ H1 vs us Q I1 r1 q1) he hpl
theorem zBT (hc:CallR X (.type T) r) (hg:Gl X x) (hm:X.mg x=none) (hv:bootBuiltins x=some (.type T)) (ha:PA X (e::es) t) (hn:x ≠ "__name__" := by decide) (hdb:(x == ("__debug__" : Str))=false:=by decide)
  (he:starEach (e::es) X.env=(false,eval e X.env)::starEach es X.env:=by rfl) (hpl:(backTo pos (starEach es X.env)).any (·.1)=false:=by rfl):PE X (.Call (.Name x p) (e::es) [] pos) (tCB r t):=by
 intro jP s σ H Q I h;refine wpAny_Call_Name_kw (zCr I hg hm hv ?_ hn hdb);exact PyProof.Rows.callWith_type1 (thn (ha pos jP s σ H _ I h) λ us s1 ⟨vs,H1,I1,r1,q1⟩=>hc jP s1 σ H1 vs us Q I1 r1 q1) he hpl
end
end L2
namespace HT
open PySem PyProof.Rows
section
variable {prog:Program}{w:World}{A:Around}{E:XQ}{s:Shared}
theorem cat_tup {t b:Addr}{vs ws:List Value}{Q:XQ}(ht:IsTup s.heap t vs.toArray) (hb:IsTup s.heap b ws.toArray) (hv:vs≠[])
  (h1:ws=[]->Q (.ref t) s) (h2:ws≠[]->Q (.ref s.heap.objs.size) { s with heap:=s.heap.push { cls:=.type "tuple", data:=.seq (vs++ws).toArray } })
  (hsz:vs.length+ws.length<=sizeLine):wpAny (model prog w) A (binaryOp .Add (.ref t) (.ref b)) Q E s:=by
 obtain⟨⟨cls,dd,data,sl⟩,ho,hc,n,hd⟩:=id ht;obtain⟨⟨cls2,dd2,data2,sl2⟩,ho2,hc2,n2,hd2⟩:=id hb;simp only at hc hd hc2 hd2;subst hc hd hc2 hd2;have e:vs.toArray++ws.toArray=(vs++ws).toArray:=by simp
 by_cases hw:ws=[]
 ·exact concat_meets ⟨_,ho,rfl⟩ ⟨_,ho2,rfl⟩ noFill_tuple_add seq_tuple_add PySem.F.slot_tuple_add PySem.F.entry_tuple_add (PySem.F.args_tuple_add_2 _ _)
   (tuple_addW1 t b vs.toArray ws.toArray n n2 dd dd2 sl sl2 (by simpa using hv) (by simp[hw])) ⟨ho,ho2,h1 hw⟩
 ·refine concat_meets ⟨_,ho,rfl⟩ ⟨_,ho2,rfl⟩ noFill_tuple_add seq_tuple_add PySem.F.slot_tuple_add PySem.F.entry_tuple_add (PySem.F.args_tuple_add_2 _ _)
   (tuple_addW2 t b vs.toArray ws.toArray n n2 dd dd2 sl sl2 (by simpa using hv) (by simpa using hw) (by rw[mE,mE];exact hsz)) ⟨ho,ho2,?_⟩
  rw[e];exact h2 hw
noncomputable def sIx (n d:Nat):Option Int->Nat
 |none=>d
 |some v=>if v<0 then (v+(n:Int)).toNat else min v.toNat n
theorem sIx_none (n d:Nat):sIx n d none=d:=rfl
theorem sIx_nat (n d k:Nat):sIx n d (some (k:Int))=min k n:=by
 show (if (k:Int)<0 then ((k:Int)+(n:Int)).toNat else min (k:Int).toNat n)=min k n;rw[if_neg (by omega),Int.toNat_natCast]
theorem zNe (n d:Nat) (hd:d<=n) (o:Option Int):sIx n d o<=n:=by
 cases o with
 |none=>exact hd
 |some v =>
  show (if v<0 then (v+(n:Int)).toNat else min v.toNat n)<=n
  by_cases hv:v<0
  ·rw[if_pos hv];omega
  ·rw[if_neg hv];exact Nat.min_le_right _ _
theorem zKn (v:Int) (n d:Nat):(if v<0 then max (v+(n:Int)) 0 else min v (n:Int))=((sIx n d (some v):Nat):Int):=by
 show (if v<0 then max (v+(n:Int)) 0 else min v (n:Int))=(((if v<0 then (v+(n:Int)).toNat else min v.toNat n):Nat):Int)
 by_cases hv:v<0
 ·simp only[if_pos hv];omega
 ·simp only[if_neg hv];omega
theorem zJE (lo hi:Option Int) (n:Nat):Builtin.Slice.sliceAdjust lo hi 1 (n:Int)=(((sIx n 0 lo:Nat):Int),((sIx n n hi:Nat):Int)):=by
 have h1:¬((1:Int)<0):=by omega
 unfold Builtin.Slice.sliceAdjust;simp only[h1,if_false];refine Prod.ext ?_ ?_
 ·cases lo with
  |none=>rfl
  |some v=>exact zKn v n 0
 ·cases hi with
  |none=>rfl
  |some v=>exact zKn v n n
theorem zIo (i j:Nat):Builtin.Slice.slicePlaces (i:Int) (j:Int) 1=j - i:=by
 unfold Builtin.Slice.slicePlaces;have h1:(1:Int) > 0:=by omega
 simp only[h1,if_true,Int.ediv_one];split<;>omega
theorem zFH {v:Value}{o:Option Int}{Q:Option Int->Shared->Prop}(p:IsPart v o) (h:Q o s):wpAny (model prog w) A (Builtin.Slice.slicePartIndex v) Q E s:=by
 cases p with
 |none=>exact slicePart_none h
 |int i t=>exact slicePart_int h
theorem sliceApplied_gen {sl:Addr}{vl vu:Value}{lo hi:Option Int}{n:Nat}{Q:Int × Int × Nat->Shared->Prop}(hs:s.heap.IsSliceOf sl vl vu .none) (pl:IsPart vl lo) (pu:IsPart vu hi)
  (h:Q (((sIx n 0 lo:Nat):Int),1,sIx n n hi - sIx n 0 lo) s):wpAny (model prog w) A (Builtin.Slice.sliceApplied (.ref sl) (pure (n:Int))) Q E s:=by
 obtain⟨os,hos,hcs,hds⟩:=id hs;unfold Builtin.Slice.sliceApplied Builtin.Slice.sliceFields;refine lA (lA (wpAny_field hos hds (x:=vl) rfl (lA (wpAny_field hos hds (x:=vu) rfl (lA (wpAny_field hos hds (x:=.none) rfl (lB ?_)))))));refine lA (slicePart_none ?_);show wpAny _ _ (if ((1:Int) == 0)=true then _ else _) _ _ s;rw[if_neg (by decide)];refine lA (zFH pl (lA (zFH pu (lA (lB ?_)))));show wpAny _ _ (match Builtin.Slice.sliceAdjust lo hi 1 (n:Int) with|(lo,hi)=>pure (lo,(1:Int),Builtin.Slice.slicePlaces lo hi 1)) _ _ s;rw[zJE lo hi n];show wpAny _ _ (pure (((sIx n 0 lo:Nat):Int),(1:Int),Builtin.Slice.slicePlaces ((sIx n 0 lo:Nat):Int) ((sIx n n hi:Nat):Int) 1)) _ _ s;rw[zIo];exact lB h
theorem zLN (xs:Array Value) (i k:Nat):((List.range k).filterMap λ(m:Nat)=>xs[((i:Int)+(m:Int) * 1).toNat]?).toArray=((xs.toList.drop i).take k).toArray:=by
 have e:(λ(m:Nat)=>xs[((i:Int)+(m:Int) * 1).toNat]?)=λ m=>xs[i+m]?:=by
  funext m;have:((i:Int)+(m:Int) * 1).toNat=i+m:=by omega
  rw[this]
 rw[e];have:=pick_run xs i k;rw[List.filterMap_map] at this;have e2:((λ x=>xs[x]?) ∘ λ x=>i+x)=λ m=>xs[i+m]?:=rfl;rw[e2] at this;rw[this]
theorem getItem_tuple_cut {t sl:Addr}{items:Array Value}{vl vu:Value}{lo hi:Option Int}{Q:XQ}(ht:IsTup s.heap t items) (hs:s.heap.IsSliceOf sl vl vu .none) (pl:IsPart vl lo) (pu:IsPart vu hi)
  (hw:¬(sIx items.size 0 lo=0/\sIx items.size items.size hi=items.size))
  (h:Q (.ref s.heap.objs.size) { s with heap:=s.heap.push { cls:=.type "tuple", data:=.seq ((items.toList.drop (sIx items.size 0 lo)).take (sIx items.size items.size hi - sIx items.size 0 lo)).toArray } })
  (hsz:items.size<=sizeLine):wpAny (model prog w) A (getItem (.ref t) (.ref sl)) Q E s:=by
 have htake:sizeOk (.seq ((items.toList.drop (sIx items.size 0 lo)).take (sIx items.size items.size hi - sIx items.size 0 lo)).toArray):=by
  show ((items.toList.drop (sIx items.size 0 lo)).take (sIx items.size items.size hi - sIx items.size 0 lo)).toArray.size<=sizeLine;rw[mE,mO,mW,Array.length_toList];omega
 have hj:sIx items.size items.size hi<=items.size:=zNe _ _ (lQ _) hi;obtain⟨os,hos,hcs,hds⟩:=id hs;have hTs:s.TypeIs (.ref sl) "slice" := ⟨os,hos,hcs⟩;unfold getItem
 try with_reducible refine lD ?_
 first|refine lA (lB ?_)|skip
 refine lA (wpAny_sequenceKey ht.typeIs (by decide) ?_)
 refine lA (wpAny_callSpecial?_slot (name:=Str.ofString "__getitem__") ht.typeIs PyProof.Rows.slot_tuple_getitem
  (wpAny_call_entry PyProof.Rows.slot_tuple_getitem ht.typeIs entry_tuple_getitem ?_ (args_tuple_getitem _ _)))
 show wpAny _ _ (Builtin.Tuple.tupleItemsOf (.ref t) >>= _) _ _ s;refine lA (tupleItemsOf_ ht ?_);refine lA (wpAny_typeOf hTs ?_);rw[if_pos (by decide)];refine lA (sliceApplied_gen hs pl pu ?_)
 have hno:¬((((sIx items.size 0 lo:Nat):Int) == 0 && (1:Int) == 1 && (sIx items.size items.size hi - sIx items.size 0 lo) == items.size)=true):=by
  intro q;rw[Bool.and_eq_true,Bool.and_eq_true] at q;have q1:((sIx items.size 0 lo:Nat):Int)=0:=eq_of_beq q.1.1;have q2:sIx items.size items.size hi - sIx items.size 0 lo=items.size:=eq_of_beq q.2;exact hw ⟨by omega,by omega⟩
 show wpAny _ _ (if (((sIx items.size 0 lo:Nat):Int) == 0 && (1:Int) == 1 && (sIx items.size items.size hi - sIx items.size 0 lo) == items.size)=true then _ else _) _ _ s;rw[if_neg hno,zLN]
 first
  |exact lA (m:=Builtin.Tuple.tupleExact _) (wpAny_newObj_type (lB ⟨_,rfl,lB h⟩) htake)
  |exact lA (m:=Builtin.Tuple.tupleExact _) (wpAny_newObj_type (lA (lB (lB ⟨_,rfl,lB h⟩))) htake)
  |exact lA (lA (m:=Builtin.Tuple.tupleExact _) (wpAny_newObj_type (lB (lB ⟨_,rfl,lB h⟩)) htake))
  |exact lA (lA (m:=Builtin.Tuple.tupleExact _) (wpAny_newObj_type (lB ⟨_,rfl,lB h⟩) htake))
end
end HT
namespace L2
open PySem PySem.Spec PyProof.Rows
abbrev TO:=St->Hp->(Option Int->Hp->Prop)->Prop
def PO (X:Cx) (e:Option Expr) (t:TO):Prop :=
 ∀(jP:List (Addr × Obj)) (s:Shared) (σ:St) (H:Hp) (Q:Option Int->Hp->Prop),Inv X jP σ H s->t σ H Q ->
  wpAny (model X.prog X.w) X.A (evalPart e X.env) (λ u s'=>∃o H',Inv X jP σ H' s'/\IsPart u o/\Q o H') X.xe s
def zMd:TO:=λ Ω H Q=>Q none H
inductive IsI (Q:Option Int->Hp->Prop) (x:V) (H:Hp):Prop
 |mk (i:Int) (h:x = .int i) (q:Q (some i) H)
def tPart (t:TE):TO:=λ σ H Q=>t σ H (IsI Q)
section
variable {X:Cx}{e:Expr}{te:TE}{lo hi:Option Expr}{tl th:TO}{pos p2:Pos}
theorem zA4:PO X none zMd:=by
 intro jP s σ H Q I h;rw[evalPart_none];exact lB ⟨none,H,I,.none,h⟩
theorem zAk (h:PE X e te):PO X (some e) (tPart te):=by
 intro jP s σ H Q I hw;rw[evalPart_some];refine thn (h jP s σ H _ I hw) λ u s1 ⟨x,H1,I1,r1,q1⟩=>?_;obtain⟨i,rfl,q⟩:=q1;obtain⟨t,rfl⟩:=r1;exact⟨some i,H1,I1,.int i t,q⟩
def SlR (X:Cx) (r:V->Option Int->Option Int->Hp->VK->Prop):Prop :=
 ∀(jP:List (Addr × Obj)) (s:Shared) (σ:St) (H:Hp) (x:V) (v vl vu:Value) (lo hi:Option Int) (sl:Addr) (Q:VK),Inv X jP σ H s->RelV x v->s.heap.IsSliceOf sl vl vu .none->IsPart vl lo->IsPart vu hi->r x lo hi H Q ->
  ∃T id,typeLookup (.type T) "__getitem__" = pure (some (.builtin id))/\s.TypeIs v T/\wpAny (model X.prog X.w) X.A (getItem v (.ref sl)) (EP X jP σ Q) X.xe s
def tSl (r:V->Option Int->Option Int->Hp->VK->Prop) (te:TE) (tl th:TO):TE:=λ σ H Q=>te σ H λ x H1=>tl σ H1 λ l H2=>th σ H2 λ u H3=>r x l u H3 Q
theorem zAo {r:V->Option Int->Option Int->Hp->VK->Prop}(hr:SlR X r) (he:PE X e te) (hl:PO X lo tl) (hu:PO X hi th):PE X (.Subscript e (.Slice lo hi none p2) pos) (tSl r te tl th):=by
 intro jP s σ H Q I h;refine Subscript_ (thn (he jP s σ H _ I h) λ v s1 ⟨x,H1,I1,r1,q1⟩=>?_);refine wpAny_Slice (thn (hl jP s1 σ H1 _ I1 q1) λ vl s2 ⟨l,H2,I2,pl,q2⟩=>thn (hu jP s2 σ H2 _ I2 q2) λ vu s3 ⟨u,H3,I3,pu,q3⟩=>?_);rw[evalPart_none];refine lB ?_;have I4:Inv X jP σ H3 { s3 with heap:=s3.heap.push { cls:=.type "slice", data:=.fields #[vl,vu,.none] } }:=I3.kept (t':=s3.toks) λ b ob q=>lE _ q;obtain⟨T,id,hT,ht,hg⟩:=hr jP { s3 with heap:=s3.heap.push { cls:=.type "slice", data:=.fields #[vl,vu,.none] } } σ H3 x v vl vu l u s3.heap.objs.size Q I4 r1 (Heap.IsSliceOf.new ..) pl pu q3;show wpAny (model X.prog X.w) X.A (subscriptTail e (.Slice lo hi none p2) v (.ref s3.heap.objs.size)) (EP X jP σ Q) X.xe { s3 with heap:=s3.heap.push { cls:=.type "slice", data:=.fields #[vl,vu,.none] } };exact tail_any (ops:=[.ref s3.heap.objs.size,v]) ht hT hg (by with_unfolding_all rfl)
noncomputable def cutV (xs:List V) (lo hi:Option Int):List V:=(xs.drop (HT.sIx xs.length 0 lo)).take (HT.sIx xs.length xs.length hi - HT.sIx xs.length 0 lo)
theorem zEy (xs:List V) (lo hi:Option Int):(cutV xs lo hi).length<=xs.length:=by
 unfold cutV;rw[mO,mW];omega
def rSlT (K:W.Frag):V->Option Int->Option Int->Hp->VK->Prop:=λ x lo hi H Q=>∃a xs,x = .ref a/\SqT K H a xs /\
 ¬(HT.sIx xs.length 0 lo=0/\HT.sIx xs.length xs.length hi=xs.length)/\∀p,H p=none->Q (.ref p) (upd H p (.tup (cutV xs lo hi)))
theorem zME:SlR X (rSlT X.K):=by
 intro jP s σ H x v vl vu lo hi sl Q I rx hs pl pu h;obtain⟨a,xs,rfl,hx,hw,q⟩:=h;cases rx;obtain⟨its,r,ht,hz⟩:=I.tuple hx;have hlen:its.toArray.size=xs.length:=by rw[mE];exact r.length.symm
 refine⟨"tuple", _,PyProof.Rows.slot_tuple_getitem.lookup,ht.typeIs,?_⟩;refine HT.getItem_tuple_cut ht hs pl pu (by rw[hlen];exact hw) ?_ (by rw[hlen];exact hz);rw[hlen];refine⟨.ref s.heap.objs.size,_,I.laid (t':=s.toks) (o:=.tup (cutV xs lo hi)) (λ b ob q=>lE _ q) (lQ _) ?_,rfl,q _ (I.hok.fresh (lQ _))⟩;exact⟨mH (zEy xs lo hi) hz,_,(r.drop (HT.sIx xs.length 0 lo)).take (HT.sIx xs.length xs.length hi - HT.sIx xs.length 0 lo),IsTup.new _ _⟩
def rCatT (K:W.Frag):R2:=λ x y H Q=>∃a b xs ys,x = .ref a/\y = .ref b/\SqT K H a xs/\SqT K H b ys/\xs≠[]/\xs.length+ys.length<=sizeLine /\
 (ys=[]->Q (.ref a) H)/\(ys≠[]->∀p,H p=none->Q (.ref p) (upd H p (.tup (xs++ys))))
theorem Vals.nil_iff {xs:List V}{us:List Value}(r:Vals xs us):us=[]↔xs=[]:=by
 cases r with
 |nil=>simp
 |cons _ _=>simp
theorem zMs:OpR X (binaryOp .Add) (rCatT X.K):=by
 intro jP s σ H x y v u Q I rx ry h;obtain⟨a,b,xs,ys,rfl,rfl,ha,hb,hx,hz,q1,q2⟩:=h;cases rx;cases ry;obtain⟨its,r1,p1,_⟩:=I.tuple ha;obtain⟨its2,r2,p2,_⟩:=I.tuple hb;refine HT.cat_tup p1 p2 (λ z=>hx (r1.nil_iff.mp z)) (λ z=>⟨.ref a,H,I,rfl,q1 (r2.nil_iff.mp z)⟩) (λ z=>?_) (by rw[←r1.length,←r2.length];exact hz);refine⟨.ref s.heap.objs.size,_,I.laid (t':=s.toks) (o:=.tup (xs++ys)) (λ b ob q=>lE _ q) (lQ _) ?_,rfl,q2 (λ w=>z (r2.nil_iff.mpr w)) _ (I.hok.fresh (lQ _))⟩;exact⟨by rw[mK];exact hz,_,r1.append r2,IsTup.new _ _⟩
end
noncomputable def ixN (n:Nat) (i:Int):Option Nat:=if 0<=i then (if i<n then some i.toNat else none) else if -(n:Int)<=i then some (i+n).toNat else none
noncomputable def atI {α:Type}(xs:List α) (i:Int):Option α:=(ixN xs.length i).bind λ j=>xs[j]?
theorem zKM {n:Nat}{i:Int}{j:Nat}(h:ixN n i=some j):seqIndex? i n=some j/\j<n /\ -(n:Int)<=i/\i<n:=by
 unfold ixN at h
 by_cases h0:0<=i
 ·rw[if_pos h0] at h
  by_cases h1:i<n
  ·rw[if_pos h1] at h
   have e:i.toNat=j:=mF h;exact⟨by rw[seqIndex_of h0 h1,e],by omega,by omega,h1⟩
  ·rw[if_neg h1] at h;cases h
 ·rw[if_neg h0] at h
  by_cases h1 : -(n:Int)<=i
  ·rw[if_pos h1] at h
   have e:(i+n).toNat=j:=mF h;exact⟨by rw[seqIndex_neg (by omega) h1,e],by omega,h1,by omega⟩
  ·rw[if_neg h1] at h;cases h
theorem zHe {α:Type}{xs:List α}{i:Int}{v:α}(h:atI xs i=some v):∃j,seqIndex? i xs.length=some j/\xs[j]?=some v/\j<xs.length /\ -(xs.length:Int)<=i/\i<xs.length:=by
 unfold atI at h;cases e:ixN xs.length i with
 |none=>rw[e] at h;cases h
 |some j =>
  rw[e] at h;obtain⟨h1,h2,h3,h4⟩:=zKM e;exact⟨j,h1,h,h2,h3,h4⟩
theorem zAY {α:Type}{xs:List α}{j:Nat}{v:α}(h:xs[j]?=some v):atI xs (j:Int)=some v:=by
 have hj:j<xs.length:=(lJ.mp h).1
 have e:ixN xs.length (j:Int)=some j:=by
  unfold ixN;rw[if_pos (by omega),if_pos (by omega)];simp
 unfold atI;rw[e];exact h
theorem zIe {α:Type}(xs:List α) (v:α):atI (xs++[v]) (-1)=some v:=by
 have hl:(xs++[v]).length=xs.length+1:=by simp
 have e:ixN (xs++[v]).length (-1)=some xs.length:=by
  unfold ixN;rw[hl,if_neg (by decide),if_pos (by omega)];congr 1;omega
 unfold atI;rw[e];show (xs++[v])[xs.length]?=some v;simp
def zKv (b:Expr):Prop:=∀o i,subscripted b false o i=operate [o,i] (getItem o i)
def IxR (X:Cx) (r:R2):Prop :=
 ∀(value slice:Expr) (jP:List (Addr × Obj)) (s:Shared) (σ:St) (H:Hp) (x y:V) (v u:Value) (Q:VK),Inv X jP σ H s->RelV x v->RelV y u->r x y H Q ->
  subscripted slice false v u=operate [v,u] (getItem v u)->wpAny (model X.prog X.w) X.A (subscriptTail value slice v u) (EP X jP σ Q) X.xe s
def MtR (X:Cx) (id:String) (r:V->List V->Hp->VK->Prop):Prop :=
 ∀(jP:List (Addr × Obj)) (s:Shared) (σ:St) (H:Hp) (x:V) (xs:List V) (v:Value) (us:List Value) (Q:VK),Inv X jP σ H s->RelV x v->Vals xs us->r x xs H Q ->
  wpAny (model X.prog X.w) X.A (call (.builtin id) (v::us)) (EP X jP σ Q) X.xe s
section
variable {X:Cx}{a b:Expr}{ta tb:TE}{pos:Pos}
theorem pe_ix {r:R2}(hr:IxR X r) (ha:PE X a ta) (hb:PE X b tb) (hs:zKv b):PE X (.Subscript a b pos) (tOp r ta tb):=by
 intro jP s σ H Q I h;exact Subscript_ (binT ha hb I h λ v u s2 x y H2 I2 rx ry q=>hr a b jP s2 σ H2 x y v u Q I2 rx ry q (hs _ _))
inductive rIxL (K:W.Frag) (x y:V) (H:Hp) (Q:VK):Prop
 |mk (p:Addr) (xs:List V) (i:Int) (v:V) (hx:x = .ref p) (hy:y = .int i) (s:SqL K H p xs) (a:atI xs i=some v) (q:Q v H)
inductive rIxT (K:W.Frag) (x y:V) (H:Hp) (Q:VK):Prop
 |mk (p:Addr) (xs:List V) (i:Int) (v:V) (hx:x = .ref p) (hy:y = .int i) (s:SqT K H p xs) (a:atI xs i=some v) (q:Q v H)
def rIxS:R2:=λ x y H Q=>∃z i c,x = .str z/\y = .int i/\z.length<=sizeLine/\atI z.cps.toList i=some c/\Q (.str ⟨#[c]⟩) H
theorem zAg:IxR X (rIxL X.K):=by
 intro value slice jP s σ H x y v u Q I rx ry h hs;obtain⟨p,xs,i,z,rfl,rfl,hq,he,q⟩:=h;cases rx;obtain⟨t,rfl⟩:=ry;obtain⟨its,r,pl,hz⟩:=I.list hq;obtain⟨j,h1,h2,h3,h4,h5⟩:=zHe he;obtain⟨w,ew,rw'⟩:=r.get h2;have hl:=r.length;have hn:=zEf;have fin:EP X jP σ Q w s:=⟨z,H,I,rw',q⟩
 by_cases h0:0<=i
 ·have hj:i.toNat=j:=by
   rw[seqIndex_of h0 h5] at h1;exact mF h1
  exact item_listR pl.isList h0 (by omega) (by rw[hj];simpa using ew) fin hs
 ·have hj:(i+(its.toArray.size:Int)).toNat=j:=by
   rw[seqIndex_neg (by omega) h4] at h1;rw[mE,←hl];exact mF h1
  exact subscriptTail_builtinR (x:=w) pl.isList.typeIs slot_list_getitem.lookup
   (wpAny_getItem_list_neg (Q:=λ r s'=>r=w/\EP X jP σ Q r s') pl.isList (by omega) (by rw[mE]<;>omega) (by omega) (by rw[hj];simpa using ew) ⟨rfl,fin⟩) hs
theorem zAS:IxR X (rIxT X.K):=by
 intro value slice jP s σ H x y v u Q I rx ry h hs;obtain⟨p,xs,i,z,rfl,rfl,hq,he,q⟩:=h;cases rx;obtain⟨t,rfl⟩:=ry;obtain⟨its,r,pl,hz⟩:=I.tuple hq;obtain⟨j,h1,h2,h3,h4,h5⟩:=zHe he;obtain⟨w,ew,rw'⟩:=r.get h2;have hl:=r.length;have hn:=zEf;have fin:EP X jP σ Q w s:=⟨z,H,I,rw',q⟩
 exact subscriptTail_builtinR (x:=w) pl.typeIs slot_tuple_getitem.lookup
  (getItem_tuple (j:=j) (Q:=λ r s'=>r=w/\EP X jP σ Q r s') pl (by omega) (by omega) (by rw[mE,←hl];exact h1) (by simpa using ew) ⟨rfl,fin⟩) hs
theorem zKL:IxR X rIxS:=by
 intro value slice jP s σ H x y v u Q I rx ry h hs;obtain⟨z,i,c,rfl,rfl,hz,he,q⟩:=h;obtain⟨t,rfl⟩:=rx;obtain⟨t',rfl⟩:=ry;obtain⟨j,h1,h2,h3,h4,h5⟩:=zHe he;have hl:z.cps.toList.length=z.length:=by simp[Str.length]
 rw[hl] at h1 h4 h5;have hn:=zEf
 exact tail_any (typeIs_str s z t) slot_str_getitem.lookup (getItem_str (c:=c) (by
  have e1:decide (i < -(2 ^ 63:Int))=false:=decide_eq_false (by omega);have e2:decide (i ≥ 2 ^ 63)=false:=decide_eq_false (by omega);rw[e1,e2,Bool.or_false]) (by rw[h1];simpa using h2) ⟨.str ⟨#[c]⟩,H,I.tok _,⟨_,rfl⟩,q⟩) hs
theorem zI6 (its:List Value) (n j:Nat) (u:Value):Obj.mapSeq (·.setIfInBounds j u) { cls:=.type "list", data:=.seq its.toArray n }={ cls:=.type "list", data:=.seq (its.set j u).toArray n }:=by
 simp[Obj.mapSeq]
theorem Inv.lst {jP:List (Addr × Obj)}{σ:St}{H:Hp}{s:Shared}{p:Addr}{xs:List V}(I:Inv X jP σ H s) (h:H p=some (.lst xs)) :
  ∃(its:List Value) (n:Nat),Vals xs its/\s.heap.get? p=some { cls:=.type "list", data:=.seq its.toArray n }/\xs.length<=sizeLine:=by
 obtain⟨z,its,n,r,e⟩:=I.hok p _ h;exact⟨its,n,r,e,z⟩
theorem Inv.lstUpd {jP:List (Addr × Obj)}{σ:St}{H:Hp}{s:Shared}{p:Addr}{xs ys:List V}{its its':List Value}{n n':Nat}{f:Obj->Obj}(I:Inv X jP σ H s) (h:H p=some (.lst xs))
  (ho:s.heap.get? p=some { cls:=.type "list", data:=.seq its.toArray n }) (hf:f { cls:=.type "list", data:=.seq its.toArray n }={ cls:=.type "list", data:=.seq its'.toArray n' }) (r:Vals ys its') (hz:ys.length<=sizeLine) (t:Nat) :
  Inv X jP σ (upd H p (.lst ys)) { s with heap:=s.heap.update p f,toks:=t }:=by
 have e:(s.heap.update p f).get? p=some { cls:=.type "list", data:=.seq its'.toArray n' }:=by
  rw[Heap.get?_update_self f ho (by rw[hf]<;>rfl),hf]
 refine I.write (x:=p) (e:=p) (by rw[h];trivial) (.inl rfl) (λ b u hb q=>(Heap.get?_update_other _ _ (Ne.symm hb)).trans q) ⟨_,e⟩ ?_;exact⟨hz,its',n',r,e⟩
def rSetL:V->V->V->Hp->(Hp->Prop)->Prop:=λ o i v H Q=>∃p xs k j,o = .ref p/\i = .int k/\H p=some (.lst xs)/\ixN xs.length k=some j/\Q (upd H p (.lst (xs.set j v)))
theorem zH2:PSet X rSetL:=by
 intro jP s σ H o i v ov iv u Q I ro ri rv h;obtain⟨p,xs,k,j,rfl,rfl,hp,hj,q⟩:=h;cases ro;obtain⟨t,rfl⟩:=ri;obtain⟨its,n,r,ho,hz⟩:=I.lst hp;obtain⟨h1,h2,h3,h4⟩:=zKM hj;have hl:=r.length;have hn:=zEf
 have I':Inv X jP σ (upd H p (.lst (xs.set j v))) { s with heap:=s.heap.update p (Obj.mapSeq (·.setIfInBounds j u)) } :=
  I.lstUpd hp ho (zI6 its n j u) (r.set rv j) (by rw[List.length_set];exact hz) s.toks
 by_cases h0:0<=k
 ·have hk:k.toNat=j:=by
   rw[seqIndex_of h0 h4] at h1;exact mF h1
  exact W.ki_setAt ho h0 (by omega) (by rw[mE,←hl];exact h4) (by rw[hk];exact⟨_,I',q⟩)
 ·have hk:(k+(its.toArray.size:Int)).toNat=j:=by
   rw[seqIndex_neg (by omega) h3] at h1;rw[mE,←hl];exact mF h1
  exact W.ki_setBack ho (by omega) (by rw[mE,←hl];exact h3) (by omega) (by rw[hk];exact⟨_,I',q⟩)
theorem zGU (lo hi:Option Int) (n:Nat):(sliceBounds lo hi none n).1=((HT.sIx n 0 lo:Nat):Int)/\(sliceBounds lo hi none n).2.1=((HT.sIx n n hi:Nat):Int)/\(sliceBounds lo hi none n).2.2=1:=by
 refine⟨?_,?_,rfl⟩
 ·cases lo with
  |none=>simp[sliceBounds,HT.sIx]
  |some i =>
   simp only[sliceBounds,HT.sIx,Option.getD_none,show (1:Int) > 0 by decide,if_true]
   by_cases h:i<0
   ·simp only[h,if_true]<;>omega
   ·simp only[h,if_false]<;>omega
 ·cases hi with
  |none=>simp[sliceBounds,HT.sIx]
  |some i =>
   simp only[sliceBounds,HT.sIx,Option.getD_none,show (1:Int) > 0 by decide,if_true]
   by_cases h:i<0
   ·simp only[h,if_true]<;>omega
   ·simp only[h,if_false]<;>omega
theorem zFl (its:List Value) (lo hi:Option Int):slicePick its.toArray lo hi none=((its.drop (HT.sIx its.length 0 lo)).take (HT.sIx its.length its.length hi - HT.sIx its.length 0 lo)).toArray:=by
 obtain⟨h1,h2,h3⟩:=zGU lo hi its.toArray.size;unfold slicePick;rw[h1,h2,h3];simp only[sliceRange_one,pick_run,mE]<;>rfl
inductive rSlL (K:W.Frag) (x:V) (lo hi:Option Int) (H:Hp) (Q:VK):Prop
 |mk (a:Addr) (xs:List V) (hx:x = .ref a) (s:SqL K H a xs) (q:∀p,H p=none->Q (.ref p) (upd H p (.lst (cutV xs lo hi))))
theorem zA3:SlR X (rSlL X.K):=by
 intro jP s σ H x v vl vu lo hi sl Q I rx hs pl pu h;obtain⟨a,xs,rfl,hx,q⟩:=h;cases rx;obtain⟨its,r,ht,hz⟩:=I.list hx;have hlen:=r.length;refine⟨"list", _,slot_list_getitem.lookup,ht.isList.typeIs,?_⟩;refine wpAny_getItem_list_slice ht.isList hs pl pu .none (by simp) ?_ (by rw[mE]<;>omega);rw[zFl,←hlen];refine⟨.ref s.heap.objs.size,_,I.laid (t':=s.toks) (o:=.lst (cutV xs lo hi)) (λ b ob q=>lE _ q) (lQ _) ?_,rfl,q _ (I.hok.fresh (lQ _))⟩;exact⟨mH (zEy xs lo hi) hz,_,0,(r.drop (HT.sIx xs.length 0 lo)).take (HT.sIx xs.length xs.length hi - HT.sIx xs.length 0 lo),lG _ rfl⟩
noncomputable def flatV:V->Bool
 |.non=>true
 |.bl _=>true
 |.int _=>true
 |.str _=>true
 |_=>false
noncomputable def eqV:V->V->Bool
 |.non,.non=>true
 |.bl a,.bl b=>a == b
 |.bl a,.int b=>(if a then 1 else 0) == b
 |.int a,.bl b=>a == (if b then 1 else 0)
 |.int a,.int b=>a == b
 |.str a,.str b=>a == b
 |_,_=>false
theorem zN6 {A:Around}{s:Shared}{y x:V}{u v:Value}(ry:RelV y u) (rx:RelV x v) (fy:flatV y=true) (fx:flatV x=true):SeqAt.EqAt A s u v (eqV y x):=by
 cases y with
 |non =>
  cases ry;cases x with
  |non=>cases rx;exact SeqAt.EqAt.same _
  |bl b=>cases rx;exact SeqAt.EqAt.none_bool b
  |int b=>obtain⟨t,rfl⟩:=rx;exact SeqAt.EqAt.none_int b t
  |str b=>obtain⟨t,rfl⟩:=rx;exact SeqAt.EqAt.none_str b t
  |_=>exact absurd (show false=true from fx) lY
 |bl a =>
  cases ry;cases x with
  |non=>cases rx;exact SeqAt.EqAt.bool_none a
  |bl b=>cases rx;exact SeqAt.EqAt.bool_bool a b
  |int b=>obtain⟨t,rfl⟩:=rx;exact SeqAt.EqAt.bool_int a b t
  |str b=>obtain⟨t,rfl⟩:=rx;exact SeqAt.EqAt.bool_str a b t
  |_=>exact absurd (show false=true from fx) lY
 |int a =>
  obtain⟨t',rfl⟩:=ry;cases x with
  |non=>cases rx;exact SeqAt.EqAt.int_none a t'
  |bl b=>cases rx;exact SeqAt.EqAt.int_bool a t' b
  |int b=>obtain⟨t,rfl⟩:=rx;exact SeqAt.EqAt.int_int a t' b t
  |str b=>obtain⟨t,rfl⟩:=rx;exact SeqAt.EqAt.int_str a t' b t
  |_=>exact absurd (show false=true from fx) lY
 |str a =>
  obtain⟨t',rfl⟩:=ry;cases x with
  |non=>cases rx;exact SeqAt.EqAt.str_none a t'
  |bl b=>cases rx;exact SeqAt.EqAt.str_bool a t' b
  |int b=>obtain⟨t,rfl⟩:=rx;exact SeqAt.EqAt.str_int a t' b t
  |str b=>obtain⟨t,rfl⟩:=rx;exact SeqAt.EqAt.str_str a t' b t
  |_=>exact absurd (show false=true from fx) lY
 |_=>exact absurd (show false=true from fy) lY
noncomputable def eqU (x:V) (u:Value):Bool:=match u with
 |.none=>eqV .non x
 |.bool b=>eqV (.bl b) x
 |.int i _=>eqV (.int i) x
 |.str z _=>eqV (.str z) x
 |_=>false
theorem zMW {x y:V}{u:Value}(r:RelV y u) (f:flatV y=true):eqU x u=eqV y x:=by
 cases y with
 |non=>cases r;rfl
 |bl b=>cases r;rfl
 |int i=>obtain⟨t,rfl⟩:=r;rfl
 |str z=>obtain⟨t,rfl⟩:=r;rfl
 |_=>exact absurd (show false=true from f) lY
theorem zE1 {x:V}{xs:List V}{us:List Value}(h:Vals xs us):xs.all flatV=true->us.any (eqU x)=xs.any λ y=>eqV y x:=by
 induction h with
 |nil=>exact λ U=>rfl
 |cons r t ih=>intro f;rw[List.all_cons,Bool.and_eq_true] at f;rw[List.any_cons,List.any_cons,zMW r f.1,ih f.2]
theorem zDb {A:Around}{s:Shared}{x:V}{v:Value}(rx:RelV x v) (fx:flatV x=true){xs:List V}{us:List Value}(z:Vals xs us):xs.all flatV=true->∀u∈us,SeqAt.EqAt A s u v (eqU x u):=by
 induction z with
 |nil=>exact λ U u hu=>nomatch hu
 |cons r t ih =>
  intro f u' hu;rw[List.all_cons,Bool.and_eq_true] at f;rcases nN.mp hu with rfl|hu
  ·rw[zMW r f.1];exact zN6 r rx f.1 fx
  ·exact ih f.2 u' hu
noncomputable def inV (x:V) (xs:List V):Bool:=xs.any λ y=>eqV y x
inductive rIn (K:W.Frag) (neg:Bool) (x y:V) (H:Hp) (Q:VK):Prop
 |mk (p:Addr) (xs:List V) (hy:y = .ref p) (s:SqL K H p xs\/SqT K H p xs) (f:flatV x=true) (g:xs.all flatV=true) (q:Q (.bl (if neg then !inV x xs else inV x xs)) H)
theorem zCp:OpR X (compareOp .In) (rIn X.K false):=by
 intro jP s σ H x y v u Q I rx ry h;obtain⟨p,xs,rfl,hq,fx,fs,q⟩:=h;cases ry;rcases hq with hq|hq
 ·obtain⟨its,r,pl,hz⟩:=I.list hq
  refine SeqAt.in_listAt (eqU x) pl.isList (λ w hw=>zDb rx fx r fs w (by simpa using hw)) ⟨.bl _,H,I,rfl,?_⟩;rw[show its.toArray.any (eqU x)=its.any (eqU x) by simp,zE1 r fs];exact q
 ·obtain⟨its,r,pl,hz⟩:=I.tuple hq
  refine SeqAt.in_tupleAt (eqU x) pl (λ w hw=>zDb rx fx r fs w (by simpa using hw)) ⟨.bl _,H,I,rfl,?_⟩;rw[show its.toArray.any (eqU x)=its.any (eqU x) by simp,zE1 r fs];exact q
theorem zB2:OpR X (compareOp .NotIn) (rIn X.K true):=by
 intro jP s σ H x y v u Q I rx ry h;obtain⟨p,xs,rfl,hq,fx,fs,q⟩:=h;cases ry;rcases hq with hq|hq
 ·obtain⟨its,r,pl,hz⟩:=I.list hq
  refine SeqAt.notIn_listAt (eqU x) pl.isList (λ w hw=>zDb rx fx r fs w (by simpa using hw)) ⟨.bl _,H,I,rfl,?_⟩;rw[show its.toArray.any (eqU x)=its.any (eqU x) by simp,zE1 r fs];exact q
 ·obtain⟨its,r,pl,hz⟩:=I.tuple hq
  refine SeqAt.notIn_tupleAt (eqU x) pl (λ w hw=>zDb rx fx r fs w (by simpa using hw)) ⟨.bl _,H,I,rfl,?_⟩;rw[show its.toArray.any (eqU x)=its.any (eqU x) by simp,zE1 r fs];exact q
inductive rLen1 (K:W.Frag) (xs:List V) (H:Hp) (Q:VK):Prop
 |mk (p:Addr) (ys:List V) (hx:xs=[.ref p]) (s:SqL K H p ys\/SqT K H p ys) (q:Q (.int ys.length) H)
theorem zGu:CallR X (.builtin "len") (rLen1 X.K):=by
 intro jP s σ H xs us Q I r h;obtain⟨p,ys,rfl,hq,q⟩:=h;obtain⟨u,rfl,rx⟩:=vals1 r;cases rx;have hn:=zEf;rcases hq with hq|hq
 ·obtain⟨its,r',pl,hz⟩:=I.list hq
  have hlen:=r'.length;exact Calls.call_len_list pl.isList (by simp only[mE]<;>omega) ⟨.int ys.length,H,I.tok _,⟨s.toks+1,by rw[mE,hlen]⟩,q⟩
 ·obtain⟨its,r',pl,hz⟩:=I.tuple hq
  have hlen:=r'.length;exact len_tuple pl (by simp only[mE]<;>omega) ⟨.int ys.length,H,I.tok _,⟨s.toks+1,by rw[mE,hlen]⟩,q⟩
theorem cL {X:Cx}{e:Expr}{es:List Expr}{t:TA}{p pos:Pos}(hm:X.mg "len"=none)(ha:PA X (e::es) t)(hg:Gl X "len":=by rfl)(he:starEach (e::es) X.env=(false,eval e X.env)::starEach es X.env:=by rfl)(hpl:(backTo pos (starEach es X.env)).any (·.1)=false:=by rfl):PE X (.Call (.Name "len" p) (e::es) [] pos) (tCB (rLen1 X.K) t):=zBb zGu hg hm rQ ha (by decide) (by decide) he hpl
theorem zEB:CallR X (.builtin "len") (λ xs H Q=>∃z,xs=[.str z]/\z.length<=sizeLine/\Q (.int z.length) H):=by
 intro jP s σ H xs us Q I r h;obtain⟨z,rfl,hz,q⟩:=h;obtain⟨u,rfl,t,rfl⟩:=vals1 r;have hn:=zEf;exact len_str (by omega) ⟨.int z.length,H,I.tok _,⟨_,rfl⟩,q⟩
theorem zGs:CallR X (.type "list") (λ xs H Q=>∃p ys,xs=[.ref p]/\(SqL X.K H p ys\/SqT X.K H p ys)/\∀l,H l=none->Q (.ref l) (upd H l (.lst ys))):=by
 intro jP s σ H xs us Q I r h;obtain⟨p,ys,rfl,hq,q⟩:=h;obtain⟨u,rfl,rx⟩:=vals1 r;cases rx
 have fin:∀(its:List Value),Vals ys its->ys.length<=sizeLine->∀(h':Heap) (c':Nat),(∀b o',s.heap.get? b=some o'->h'.get? b=some o') ->
   h'.get? s.heap.objs.size=some { cls:=.type "list", dict:=none,data:=.seq its.toArray c',slots:=#[] }->EP X jP σ Q (.ref s.heap.objs.size) { s with heap:=h' }:=λ its r' hz h' c' kp e =>
  ⟨.ref s.heap.objs.size,_,I.laid (t':=s.toks) kp (lQ _) (show ObjOk X.prog X.w _ h' _ (.lst ys) from⟨hz,its,c',r',e⟩),rfl,q _ (I.hok.fresh (lQ _))⟩
 rcases hq with hq|hq
 ·obtain⟨its,r',pl,hz⟩:=I.list hq
  have hlen:=r'.length;obtain⟨o,ho,hc,n,hd⟩:=pl.isList;exact call_list_seq p (.inl rfl) ho hc hd (λ h' c' kp e=>fin its r' hz h' c' kp e) (by simp only[mE]<;>omega)
 ·obtain⟨its,r',pl,hz⟩:=I.tuple hq
  have hlen:=r'.length;obtain⟨o,ho,hc,n,hd⟩:=pl;exact call_list_seq p (.inr rfl) ho hc hd (λ h' c' kp e=>fin its r' hz h' c' kp e) (by simp only[mE]<;>omega)
theorem zA9:CallR X (.type "tuple") (λ xs H Q=>∃p ys,xs=[.ref p]/\((SqL X.K H p ys/\∀l,H l=none->Q (.ref l) (upd H l (.tup ys)))\/(SqT X.K H p ys/\Q (.ref p) H))):=by
 intro jP s σ H xs us Q I r h;obtain⟨p,ys,rfl,h⟩:=h;obtain⟨u,rfl,rx⟩:=vals1 r;cases rx;rcases h with ⟨hq,q⟩|⟨hq,q⟩
 ·obtain⟨its,r',pl,hz⟩:=I.list hq
  have hlen:=r'.length;refine call_tuple_list pl.isList (λ h' kp=>?_) (by simp only[mE]<;>omega);have I1:Inv X jP σ H { s with heap:=h' }:=I.kept (t':=s.toks) kp
  have I2:Inv X jP σ (upd H h'.objs.size (.tup ys)) { s with heap:=h'.push { cls:=.type "tuple", data:=.seq its.toArray } } :=
   I1.laid (t':=s.toks) (λ b o e=>lE _ e) (lQ _) (show ObjOk X.prog X.w _ _ _ (.tup ys) from⟨hz,its,r',IsTup.new _ _⟩)
  exact⟨.ref h'.objs.size,_,I2,rfl,q _ (I1.hok.fresh (lQ _))⟩
 ·obtain⟨its,r',pl,hz⟩:=I.tuple hq
  exact call_tuple_same pl ⟨.ref p,H,I,rfl,q⟩
def tyV (K:W.Frag) (T:String) (x:V) (H:Hp):Prop:=match x with
 |.str _=>T = "str"
 |.int _=>T = "int"
 |.ref p=>(T = "list" /\ ∃xs,SqL K H p xs)\/(T = "tuple" /\ ∃o,K.lookup p=some o/\o.cls = .type "tuple" /\ o.dict=none) \/
   (T = "dict" /\ ((∃kvs,H p=some (.dK kvs))\/∃kvs,H p=some (.dT kvs)))\/(T = "set" /\ ∃S n,H p=some (.set S n))
 |_=>False
theorem zMB {jP:List (Addr × Obj)}{σ:St}{H:Hp}{s:Shared}{T:String}{x:V}{v:Value}(I:Inv X jP σ H s) (r:RelV x v) (ty:tyV X.K T x H) :
  s.TypeIs v T/\∀a,v = .ref a->∃ob,s.heap.get? a=some ob/\ob.dict=none:=by
 cases x with
 |str z =>
  obtain⟨t,rfl⟩:=r;cases (show T = "str" from ty);exact⟨typeIs_str s z t,λ Ω e=>nomatch e⟩
 |int i =>
  obtain⟨t,rfl⟩:=r;cases (show T = "int" from ty);exact⟨typeIs_int s i t,λ Ω e=>nomatch e⟩
 |ref p =>
  cases r;rcases ty with ⟨rfl,xs,hq⟩|⟨rfl,o,hk,hc,hd⟩|⟨rfl,hk⟩|⟨rfl,S,n,hk⟩
  ·obtain⟨its,_,pl,_⟩:=I.list hq
   refine⟨pl.isList.typeIs,λ a e=>?_⟩;cases e;obtain⟨o,n,e,c,hd,_⟩:=pl;exact⟨o,e,hd⟩
  ·refine⟨⟨o,I.kIn p o hk,hc⟩,λ a e=>?_⟩
   cases e;exact⟨o,I.kIn _ o hk,hd⟩
  ·have z:∃o,s.heap.get? p=some o/\o.ExactDict:=by
    rcases hk with ⟨kvs,hk⟩|⟨kvs,hk⟩
    ·obtain⟨_,_,_,_,o,_,_,e,ex,_⟩:=I.hok p _ hk
     exact⟨o,e,ex⟩
    ·obtain⟨_,_,_,_,o,_,_,e,ex,_⟩:=I.hok p _ hk
     exact⟨o,e,ex⟩
   obtain⟨o,e,ex⟩:=z;refine⟨⟨o,e,ex.1⟩,λ a e2=>?_⟩;cases e2;exact⟨o,e,ex.2.1⟩
  ·obtain⟨o,_,_,_,e,ex,_⟩:=I.hok p _ hk
   refine⟨⟨o,e,ex.1⟩,λ a e2=>?_⟩;cases e2;exact⟨o,e,ex.2.1⟩
 |_=>exact False.elim ty
def tBM0 (K:W.Frag) (T:String) (r:V->List V->Hp->VK->Prop) (to:TE):TE:=λ σ H Q=>to σ H λ x H1=>tyV K T x H1/\r x [] H1 Q
def tBM (K:W.Frag) (T:String) (r:V->List V->Hp->VK->Prop) (to:TE) (t:TA):TE:=λ σ H Q=>to σ H λ x H1=>tyV K T x H1/\t σ H1 λ xs H2=>r x xs H2 Q
variable {o e:Expr}{es:List Expr}{to:TE}{t:TA}{name:Str}{apos cpos:Pos}{T id:String}{r:V->List V->Hp->VK->Prop}
theorem zMJ (pa:PlainAttrs T) (slot:Slot T name id) (hty:typeOf (.builtin id)=pure (.type "method_descriptor")) (hm:MtR X id r) (ho:PE X o to)
  (hbase:attributeBase o name X.env (eval o X.env)=eval o X.env:=by rfl) (hline:(apos.endLine == cpos.line)=true:=by rfl):PE X (.Call (.Attribute o name apos) [] [] cpos) (tBM0 X.K T r to):=by
 intro jP s σ H Q I h;refine wpAny_Call_method0_late hbase hline (thn (ho jP s σ H _ I h) λ v s1 ⟨x,H1,I1,r1,ty,q1⟩=>?_);obtain⟨h1,h2⟩:=zMB I1 r1 ty;exact⟨T,id,pa,slot,hty,h1,h2,Calls.callWith_builtin rfl (PySem.evalArgs_none (hm jP s1 σ H1 x [] v [] Q I1 r1 .nil q1))⟩
theorem pe_bm (pa:PlainAttrs T) (slot:Slot T name id) (hty:typeOf (.builtin id)=pure (.type "method_descriptor")) (hm:MtR X id r) (ho:PE X o to) (ha:PA X (e::es) t)
  (hbase:attributeBase o name X.env (eval o X.env)=eval o X.env:=by rfl)
  (hfew:((backTo cpos (starEach (e::es) X.env)).all (λ x=>!x.1) && (backToKw cpos (keywordEach [] X.env)).all (λ x=>x.1.isSome)
   && decide ((e::es).length+([]:List Keyword).length+(if ([]:List Keyword).isEmpty then 0 else 1)<30))=true:=by rfl)
  (hline:(apos.endLine == cpos.line)=true:=by rfl) (hs:starEach (e::es) X.env=(false,eval e X.env)::starEach es X.env:=by rfl) (hplain:(backTo cpos (starEach es X.env)).any (·.1)=false:=by rfl) :
  PE X (.Call (.Attribute o name apos) (e::es) [] cpos) (tBM X.K T r to t):=by
 intro jP s σ H Q I h;refine wpAny_Call_method_late hbase hfew hline rfl (thn (ho jP s σ H _ I h) λ v s1 ⟨x,H1,I1,r1,ty,q1⟩=>?_);obtain⟨h1,h2⟩:=zMB I1 r1 ty;refine⟨T,id,pa,slot,hty,h1,h2,?_⟩;have hA:=ha cpos jP s1 σ H1 _ I1 q1;rw[hs] at hA ⊢;refine Calls.callWith_builtin (by show (false || (backTo cpos (starEach es X.env)).any (·.1))=false;rw[hplain]<;>rfl) (Calls.evalArgs_plain ?_);exact thn hA λ us s2 ⟨vs,H2,I2,r2,q2⟩=>hm jP s2 σ H2 x vs v us Q I2 r1 r2 q2
end
def MtM (X:Cx) (id:String) (r:V->List V->Hp->VK->Prop):Prop :=
 ∀(jP:List (Addr × Obj)) (s:Shared) (σ:St) (H:Hp) (x:V) (xs:List V) (v:Value) (us:List Value) (Q:VK),Inv X jP σ H s->RelV x v->Vals xs us->r x xs H Q ->
  wpAny (model X.prog X.w) X.A (call (.builtin id) (v::us)) (EP X jP σ Q) X.xe s
theorem Vals.one {x:V}{us:List Value}(h:Vals [x] us):∃u,us=[u]/\RelV x u:=by
 cases h with|cons r t=>cases t;exact⟨_,rfl,r⟩
theorem Vals.zero:∀{us:List Value},Vals [] us->us=[]
 |_,.nil=>rfl
theorem Vals.dropLast {xs:List V}{us:List Value}(h:Vals xs us):Vals xs.dropLast us.dropLast:=by
 induction h with
 |nil=>exact .nil
 |cons r t ih =>
  cases t with
  |nil=>exact .nil
  |cons q t'=>exact .cons r ih
theorem zI9 {α:Type}(l:List α):l.eraseIdx (l.length - 1)=l.dropLast:=by
 induction l with
 |nil=>rfl
 |cons a r ih =>
  cases r with
  |nil=>rfl
  |cons b r =>
   have e:(a::b::r).length - 1=((b::r).length - 1)+1:=by
    have h1:(a::b::r).length=r.length+2:=rfl;have h2:(b::r).length=r.length+1:=rfl;omega
   rw[e,List.eraseIdx_cons_succ,ih]
   all_goals rfl
section
variable {X:Cx}{jP:List (Addr × Obj)}{σ:St}{H:Hp}{s:Shared}{l b:Addr}{xs ys zs:List V}
theorem Inv.lset {its its':List Value}{n:Nat}{f:Array Value->Array Value}{t':Nat}(I:Inv X jP σ H s) (hH:H l=some (.lst xs))
  (e:s.heap.get? l=some { cls:=.type "list", data:=.seq its.toArray n }) (hf:f its.toArray=its'.toArray) (hv:Vals ys its') (hz:ys.length<=sizeLine) :
  Inv X jP σ (upd H l (.lst ys)) { s with heap:=s.heap.update l (Obj.mapSeq f),toks:=t' }:=by
 have q:=PySem.IsL.update e f;rw[hf] at q;refine I.write (x:=l) (e:=l) (by rw[hH];exact trivial) (.inl rfl) (λ b' u hb hu=>(Heap.get?_update_other s.heap (Obj.mapSeq f) (Ne.symm hb)).trans hu) ⟨_,q⟩ ?_;exact⟨hz,its',_,hv,q⟩
theorem Inv.lnew {its:List Value}{t':Nat}(I:Inv X jP σ H s) (hv:Vals ys its) (hz:ys.length<=sizeLine) :
  Inv X jP σ (upd H s.heap.objs.size (.lst ys)) { s with heap:=s.heap.push { cls:=.type "list", data:=.seq its.toArray },toks:=t' } :=
 I.laid (λ Ω Ω q=>lE _ q) (lQ _) ⟨hz,its,0,hv,lG _ rfl⟩
theorem Inv.fresh (I:Inv X jP σ H s):H s.heap.objs.size=none:=I.hok.fresh (lQ _)
theorem Inv.lstM (I:Inv X jP σ H s) (hH:H l=some (.lst xs)):xs.length<=sizeLine/\∃(its:List Value) (n:Nat),Vals xs its/\xs.length=its.length/\s.heap.get? l=some { cls:=.type "list", data:=.seq its.toArray n }:=by
 obtain⟨z,its,n,r,e⟩:=I.hok l _ hH;exact⟨z,its,n,r,r.length,e⟩
theorem zIE {n:Nat}(h:n<=sizeLine):Builtin.List.listTooLong n=false:=by
 unfold Builtin.List.listTooLong;exact decide_eq_false (by omega)
end
section
variable {X:Cx}
inductive zJb (x:V) (vs:List V) (H:Hp) (Q:VK):Prop
 |mk (l:Addr) (xs:List V) (y:V) (hx:x = .ref l) (hv:vs=[y]) (e:H l=some (.lst xs)) (z:xs.length<sizeLine) (q:Q .non (upd H l (.lst (xs++[y]))))
theorem zEd:MtM X "list.append" zJb:=by
 intro jP s σ H x vs v us Q I rx rv h;obtain⟨l,xs,y,rfl,rfl,hH,hz,q⟩:=h;cases rx;obtain⟨u,rfl,ru⟩:=rv.one;obtain⟨z,its,n,r,hl,e⟩:=I.lstM hH;refine call_meets F.slot_list_append ⟨_,e,rfl⟩ F.entry_list_append (F.args_list_append_2 _ _) (PySem.list_append l its.toArray n u (by rw[mE];omega)) ⟨e,?_⟩;refine⟨.non,_,I.lset (its':=its++[u]) hH e (by simp) (r.append (.cons ru .nil)) ?_,rfl,q⟩;rw[mK,List.length_singleton];omega
theorem pAp {X:Cx}{o e:Expr}{to te:TE}{apos cpos pos:Pos}(ho:PE X o to)(he:PE X e te)(h1:attributeBase o "append" X.env (eval o X.env)=eval o X.env:=by rfl)(h2:((backTo cpos (starEach [e] X.env)).all (λ x=>!x.1)&&(backToKw cpos (keywordEach [] X.env)).all (λ x=>x.1.isSome)&&decide ([e].length+([]:List Keyword).length+(if ([]:List Keyword).isEmpty then 0 else 1)<30))=true:=by rfl)(h3:(apos.endLine==cpos.line)=true:=by rfl)(h4:starEach [e] X.env=(false,eval e X.env)::starEach [] X.env:=by rfl)(h5:(backTo cpos (starEach [] X.env)).any (·.1)=false:=by rfl)(h6:swapsWith (.Call (.Attribute o "append" apos) [e] [] cpos) none pos.line X.env=pure false:=by rfl):PS X (.Expr (.Call (.Attribute o "append" apos) [e] [] cpos) pos) (tDrop (tBM X.K "list" zJb to (tCons te tNil))):=zCk (pe_bm rR PySem.F.slot_list_append PySem.F.type_list_append zEd ho (zAA he zAD h4) h1 h2 h3 h4 h5) h6
def zMk:V->List V->Hp->VK->Prop:=λ x vs H Q=>∃l b xs zs,x = .ref l/\vs=[.ref b]/\H l=some (.lst xs)/\H b=some (.lst zs)/\xs.length+zs.length<=sizeLine/\Q .non (upd H l (.lst (xs++zs)))
theorem zDa:MtM X "list.extend" zMk:=by
 intro jP s σ H x vs v us Q I rx rv h;obtain⟨l,b,xs,zs,rfl,rfl,hH,hB,hz,q⟩:=h;cases rx;obtain⟨u,rfl,ru⟩:=rv.one;cases ru;obtain⟨z,its,n,r,hl,e⟩:=I.lstM hH;obtain⟨z2,its2,n2,r2,hl2,e2⟩:=I.lstM hB;have hsz:its.toArray.size+its2.toArray.size<=sizeLine:=by rw[mE,mE];omega
 have hlong:¬(!its.toArray.isEmpty && Builtin.List.listTooLong (its.toArray.size+its2.toArray.size))=true:=by
  rw[zIE hsz,Bool.and_false];exact lY
 refine call_meets F.slot_list_extend ⟨_,e,rfl⟩ F.entry_list_extend (F.args_list_extend_2 _ _)
  (AutoSeq1.list_extend_list_list_0 l its.toArray n b its2.toArray n2 hlong (by rw[mE];omega) (by omega)) ⟨e,e2,?_⟩
 refine⟨.non,_,I.lset (its':=its++its2) hH e (by simp) (r.append r2) ?_,rfl,q⟩;rw[mK];omega
def rPop:V->List V->Hp->VK->Prop:=λ x vs H Q=>∃l xs y,x = .ref l/\vs=[]/\H l=some (.lst xs)/\xs[xs.length - 1]?=some y/\Q y (upd H l (.lst xs.dropLast))
theorem zNw:MtM X "list.pop" rPop:=by
 intro jP s σ H x vs v us Q I rx rv h;obtain⟨l,xs,y,rfl,rfl,hH,hy,q⟩:=h;cases rx;have hus:=rv.zero;subst hus;obtain⟨z,its,n,r,hl,e⟩:=I.lstM hH;obtain⟨u,hu,ru⟩:=r.get hy
 have hy':its.toArray[its.toArray.size - 1]?=some u:=by
  show its.toArray[its.length - 1]?=some u;rw[←nI,←hl];exact hu
 refine call_meets F.slot_list_pop ⟨_,e,rfl⟩ F.entry_list_pop (F.args_list_pop_1 _) (MeetsSeq.list_pop_last l its.toArray n u hy' (by rw[mE];omega)) ⟨e,?_⟩;refine⟨y,_,I.lset (its':=its.dropLast) hH e ?_ r.dropLast ?_,ru,q⟩
 ·show its.toArray.eraseIdxIfInBounds (its.toArray.size - 1)=its.dropLast.toArray
  rw[mE,List.eraseIdxIfInBounds_toArray,zI9]
 ·rw[List.length_dropLast]
  omega
inductive rCat (x y:V) (H:Hp) (Q:VK):Prop
 |mk (l b:Addr) (xs zs:List V) (hx:x = .ref l) (hy:y = .ref b) (e:H l=some (.lst xs)) (e2:H b=some (.lst zs)) (z:xs.length+zs.length<=sizeLine) (q:∀p,H p=none->Q (.ref p) (upd H p (.lst (xs++zs))))
theorem zID:OpR X (binaryOp .Add) rCat:=by
 intro jP s σ H x y v u Q I rx ry h;obtain⟨l,b,xs,zs,rfl,rfl,hH,hB,hz,q⟩:=h;cases rx;cases ry;obtain⟨z,its,n,r,hl,e⟩:=I.lstM hH;obtain⟨z2,its2,n2,r2,hl2,e2⟩:=I.lstM hB;refine PySem.P.add_list e e2 ?_ (by rw[mE,mE];omega);have ea:its.toArray++its2.toArray=(its++its2).toArray:=by simp
 rw[ea];exact⟨.ref _,_,I.lnew (t':=s.toks) (r.append r2) (by rw[mK];omega),rfl,q _ I.fresh⟩
end
section
variable {κ:Type} [DecidableEq κ]
noncomputable def valV (kvs:List (κ × V)) (k:κ):Option V:=(kvs.find? λ kv=>decide (kv.1=k)).map (·.2)
noncomputable def putK (kvs:List (κ × V)) (k:κ) (v:V):List (κ × V) :=
 if (kvs.any λ kv=>decide (kv.1=k))=true then kvs.map (λ kv=>if kv.1=k then (kv.1,v) else kv) else kvs++[(k,v)]
theorem zBH {p:κ × V}{r:List (κ × V)}{k:κ}(e:p.1=k):valV (p::r) k=some p.2:=by simp[valV,List.find?_cons,e]
theorem zBI {p:κ × V}{r:List (κ × V)}{k:κ}(e:¬p.1=k):valV (p::r) k=valV r k:=by simp[valV,List.find?_cons,e]
theorem zED (k:κ):∀kvs:List (κ × V),(kvs.any λ kv=>decide (kv.1=k))=(valV kvs k).isSome
 |[]=>rfl
 |p::r=>by
  rw[List.any_cons]
  by_cases e:p.1=k
  ·simp only[zBH e,decide_eq_true e,Bool.true_or,Option.isSome_some]
  ·rw[zBI e,decide_eq_false e,Bool.false_or];exact zED k r
theorem zHm (k j:κ) (y:V):∀kvs:List (κ × V),valV (kvs.map λ kv=>if kv.1=k then (kv.1,y) else kv) j=(valV kvs j).map λ x=>if j=k then y else x
 |[]=>rfl
 |p::r=>by
  have ih:=zHm k j y r;rw[mL]
  by_cases h:p.1=k
  ·rw[if_pos h]
   by_cases e:p.1=j
   ·rw[zBH (p:=(p.1,y)) e,zBH e,Option.map_some,if_pos (e.symm.trans h)]
   ·rw[zBI (p:=(p.1,y)) e,zBI e,ih]
  ·rw[if_neg h]
   by_cases e:p.1=j
   ·rw[zBH (p:=p) e,zBH e,Option.map_some,if_neg (λ z=>h (e.trans z))]
   ·rw[zBI (p:=p) e,zBI e,ih]
theorem zGL (k j:κ) (y:V):∀kvs:List (κ × V),valV kvs k=none->valV (kvs++[(k,y)]) j=if j=k then some y else valV kvs j
 |[],_=>by
  by_cases e:k=j
  ·rw[if_pos e.symm];exact zBH (p:=(k,y)) e
  ·rw[if_neg (λ z=>e z.symm)];exact zBI (p:=(k,y)) e
 |p::r,hn=>by
  rw[List.cons_append];have hk:¬p.1=k:=λ z=>by rw[zBH z] at hn;cases hn
  rw[zBI hk] at hn;have ih:=zGL k j y r hn
  by_cases e:p.1=j
  ·rw[zBH e,zBH e,if_neg (λ z=>hk (e.trans z))]
  ·rw[zBI e,zBI e,ih]
theorem zDO (kvs:List (κ × V)) (k j:κ) (y:V):valV (putK kvs k y) j=if j=k then some y else valV kvs j:=by
 unfold putK
 by_cases a:(kvs.any λ kv=>decide (kv.1=k))=true
 ·rw[if_pos a,zHm]
  rw[zED] at a
  by_cases e:j=k
  ·obtain⟨x,hx⟩:=Option.isSome_iff_exists.mp a
   rw[if_pos e,e,hx,Option.map_some,if_pos rfl]
  ·rw[if_neg e]
   cases valV kvs j with
   |none=>rfl
   |some x=>rw[Option.map_some,if_neg e]
 ·rw[if_neg a]
  refine zGL k j y kvs ?_;rw[zED] at a;cases q:valV kvs k with
  |none=>rfl
  |some x=>rw[q] at a;exact(a rfl).elim
theorem zAu (kvs:List (κ × V)) (k:κ) (v:V):(putK kvs k v).length<=kvs.length+1:=by
 unfold putK;split
 ·rw[lC];omega
 ·rw[mK,mM,List.length_nil];omega
theorem RelO.isSome_eq {o:Option V}{u:Option Value}(r:RelO o u):o.isSome=u.isSome:=by
 cases o with
 |none=>cases u with
  |none=>rfl
  |some _=>exact(show False from r).elim
 |some _=>cases u with
  |none=>exact(show False from r).elim
  |some _=>rfl
theorem RelO.getD {o:Option V}{u:Option Value}{d:V}{d':Value}(r:RelO o u) (rd:RelV d d'):RelV (o.getD d) (u.getD d'):=by
 cases o with
 |none=>cases u with
  |none=>exact rd
  |some _=>exact(show False from r).elim
 |some _=>cases u with
  |none=>exact(show False from r).elim
  |some _=>exact r
theorem KV.val {kvs:List (κ × V)}{vs:List (κ × Value)}(r:KV kvs vs) (k:κ):RelO (valV kvs k) (valueAt vs k):=by
 unfold KV at r
 induction r with
 |nil=>exact True.intro
 | @cons p q ps qs h t ih =>
  obtain⟨h1,h2⟩:=h
  by_cases e:p.1=k
  ·have e':q.1=k:=h1.symm.trans e
   have b:valueAt (q::qs) k=some q.2:=by simp[valueAt,List.find?_cons,e']
   rw[zBH e,b];exact h2
  ·have e':¬q.1=k:=λ z=>e (h1.trans z)
   have b:valueAt (q::qs) k=valueAt qs k:=by simp[valueAt,List.find?_cons,e']
   rw[zBI e,b];exact ih
theorem KV.any {kvs:List (κ × V)}{vs:List (κ × Value)}(r:KV kvs vs) (k:κ):(kvs.any λ kv=>decide (kv.1=k))=vs.any λ kv=>decide (kv.1=k):=by
 unfold KV at r
 induction r with
 |nil=>rfl
 |cons h t ih=>rw[List.any_cons,List.any_cons,ih,h.1]
theorem KV.repl {kvs:List (κ × V)}{vs:List (κ × Value)}(r:KV kvs vs) (k:κ) {y:V}{u:Value}(ry:RelV y u) :
  KV (kvs.map λ kv=>if kv.1=k then (kv.1,y) else kv) (vs.map λ kv=>if kv.1=k then (kv.1,u) else kv):=by
 unfold KV at r ⊢
 induction r with
 |nil=>exact .nil
 | @cons p q ps qs h t ih =>
  rw[mL,mL];refine .cons ?_ ih;obtain⟨h1,h2⟩:=h
  by_cases e:p.1=k
  ·rw[if_pos e,if_pos (h1.symm.trans e)];exact⟨h1,ry⟩
  ·rw[if_neg e,if_neg (λ z=>e (h1.trans z))];exact⟨h1,h2⟩
theorem KV.put {kvs:List (κ × V)}{vs:List (κ × Value)}(r:KV kvs vs) (k:κ) {y:V}{u:Value}(ry:RelV y u):KV (putK kvs k y) (stored vs k u):=by
 unfold putK stored;rw[r.any k]
 by_cases e:(vs.any λ kv=>decide (kv.1=k))=true
 ·rw[if_pos e,if_pos e];exact r.repl k ry
 ·rw[if_neg e,if_neg e];exact Paired.snoc r ⟨rfl,ry⟩
theorem KV.length {kvs:List (κ × V)}{vs:List (κ × Value)}(r:KV kvs vs):kvs.length=vs.length:=Paired.length r
end
theorem kV_is {P:Program}{w:World}{k:Key}{u:Value}(r:RelV (kV k) u):(zAd P w).is k u=true:=by
 cases k with
 |inl i=>obtain⟨t,e⟩:=(show ∃t,u=Value.int i t from r);subst e;exact zHV P w i t
 |inr x=>obtain⟨t,e⟩:=(show ∃t,u=Value.str x t from r);subst e;exact zHU P w x t
theorem zGi {P:Program}{w:World}:∀{ks:List Key}{us:List Value},Vals (ks.map kV) us->ItemsAre (zAd P w) ks us
 |[],_,r=>by rw[List.map_nil] at r;cases r;exact .nil
 |k::ks,_,r=>by
  rw[mL] at r;cases r with
  |cons h t=>exact .cons (kV_is h) (zGi t)
abbrev KT (H:Hp):List (List Key × V)->List (List Key × Addr × Value)->Prop:=Paired λ p q=>p.1=q.1/\H q.2.1=some (.tup (p.1.map kV))/\RelV p.2 q.2.2
theorem KT.val {H:Hp}{kvs:List (List Key × V)}{xs:List (List Key × Addr × Value)}(r:KT H kvs xs) (k:List Key):RelO (valV kvs k) ((atKey xs k).map (·.2)):=by
 induction r with
 |nil=>exact True.intro
 | @cons p q ps qs h t ih =>
  obtain⟨h1,_,h2⟩:=h
  by_cases e:p.1=k
  ·have e':q.1=k:=h1.symm.trans e
   have b:atKey (q::qs) k=some q.2:=by simp[atKey,List.find?_cons,e']
   rw[zBH e,b];exact h2
  ·have e':¬q.1=k:=λ z=>e (h1.trans z)
   have b:atKey (q::qs) k=atKey qs k:=by simp[atKey,List.find?_cons,e']
   rw[zBI e,b];exact ih
theorem KT.repl {H:Hp}{kvs:List (List Key × V)}{xs:List (List Key × Addr × Value)}(r:KT H kvs xs) (k:List Key) {y:V}{u:Value}(ry:RelV y u) :
  KT H (kvs.map λ kv=>if kv.1=k then (kv.1,y) else kv) (xs.map (putAt k u)):=by
 induction r with
 |nil=>exact .nil
 | @cons p q ps qs h t ih =>
  rw[mL,mL];refine .cons ?_ ih;obtain⟨h1,h2,h3⟩:=h;unfold putAt
  by_cases e:p.1=k
  ·rw[if_pos e,if_pos (h1.symm.trans e)];exact⟨h1,h2,ry⟩
  ·rw[if_neg e,if_neg (λ z=>e (h1.trans z))];exact⟨h1,h2,h3⟩
theorem KT.put {H:Hp}{kvs:List (List Key × V)}{xs:List (List Key × Addr × Value)}(r:KT H kvs xs) (k:List Key) {b:Addr}{y:V}{u:Value}(hb:H b=some (.tup (k.map kV))) (ry:RelV y u) :
  KT H (putK kvs k y) (storedH xs k b u):=by
 have e:(kvs.any λ kv=>decide (kv.1=k))=(atKey xs k).isSome:=by
  rw[zED,(r.val k).isSome_eq,Option.isSome_map]
 unfold putK storedH;rw[e]
 by_cases q:(atKey xs k).isSome=true
 ·rw[if_pos q,if_pos q];exact r.repl k ry
 ·rw[if_neg q,if_neg q];exact Paired.snoc r ⟨rfl,hb,ry⟩
theorem KT.keeps {H H':Hp}{kvs:List (List Key × V)}{xs:List (List Key × Addr × Value)}(r:KT H kvs xs) (ht:∀b ys,H b=some (.tup ys)->H' b=some (.tup ys)):KT H' kvs xs :=
 Paired.mapP r λ Ω Ω z=>⟨z.1,ht _ _ z.2.1,z.2.2⟩
section
variable {P:Program}{w:World}{H:Hp}{h:Heap}{a:Addr}
theorem rd_of {u:HO}(ok:HOk P w H h) (e:Rd H a u):ObjOk P w H h a u:=e.ok ok
theorem dk_rd {kvs:List (Key × V)}(ok:HOk P w H h) (e:Rd H a (.dK kvs)):kvs.length<=sizeLine/\(a == sysModules)=false/\∃vs,KV kvs vs/\h.DictOf (zAd P w) a vs :=
 show ObjOk P w H h a (.dK kvs) from rd_of ok e
theorem dk_of {kvs:List (Key × V)}(ok:HOk P w H h) (e:H a=some (.dK kvs)):kvs.length<=sizeLine/\(a == sysModules)=false/\∃vs,KV kvs vs/\h.DictOf (zAd P w) a vs:=dk_rd ok (.inl e)
theorem zEl {ks:List Key}(ok:HOk P w H h) (e:H a=some (.tup (ks.map kV))):(tupleKind (zAd P w)).is h ks a:=by
 obtain⟨_,its,r,o,h1,h2,n,h3⟩:=(show ObjOk P w H h a (.tup (ks.map kV)) from ok a _ e);exact⟨o,its.toArray,n,h1,h2,h3,by simpa using zGi r⟩
theorem dt_rd {kvs:List (List Key × V)}(ok:HOk P w H h) (e:Rd H a (.dT kvs)):kvs.length<=sizeLine/\(a == sysModules)=false /\
  ∃xs,KT H kvs xs/\h.DictOfH (tupleKind (zAd P w)) a xs:=by
 obtain⟨z,y,xs,r,o,es,ep,h1,h2,h3,h4,h5⟩:=(show ObjOk P w H h a (.dT kvs) from rd_of ok e);refine⟨z,y,xs,r,o,es,ep,h1,h2,h3,h4,λ x hx=>?_,h5⟩
 have all:∀{l:List (List Key × V)}{m:List (List Key × Addr × Value)},KT H l m->∀x∈m,(tupleKind (zAd P w)).is h x.1 x.2.1:=by
  intro l m q
  induction q with
  |nil=>intro x hx;exact nomatch hx
  | @cons p q ps qs hq t ih =>
   intro x hx;rcases lN.mp hx with e|hx
   ·subst e
    exact zEl ok (by rw[←hq.1];exact hq.2.1)
   ·exact ih x hx
 exact all r x hx
theorem dt_of {kvs:List (List Key × V)}(ok:HOk P w H h) (e:H a=some (.dT kvs)):kvs.length<=sizeLine/\(a == sysModules)=false /\
  ∃xs,KT H kvs xs/\h.DictOfH (tupleKind (zAd P w)) a xs:=dt_rd ok (.inl e)
end
def DGet (H:Hp) (a:Addr) (y:V) (r:Option V):Prop :=
 (∃kvs k,Rd H a (.dK kvs)/\y=kV k/\r=valV kvs k)\/∃kvs k b,Rd H a (.dT kvs)/\y = .ref b/\H b=some (.tup (k.map kV))/\r=valV kvs k
def DPut (H:Hp) (a:Addr) (y v:V) (H':Hp):Prop :=
 (∃kvs k,H a=some (.dK kvs)/\y=kV k/\kvs.length<sizeLine/\H'=upd H a (.dK (putK kvs k v))) \/
 ∃kvs k b,H a=some (.dT kvs)/\y = .ref b/\H b=some (.tup (k.map kV))/\kvs.length<sizeLine/\H'=upd H a (.dT (putK kvs k v))
theorem DGet.k {H:Hp}{a:Addr}{kvs:List (Key × V)}{k:Key}(e:H a=some (.dK kvs)):DGet H a (kV k) (valV kvs k):=.inl ⟨kvs,k,.inl e,rfl,rfl⟩
theorem DPut.k {H:Hp}{a:Addr}{kvs:List (Key × V)}{k:Key}{v:V}(e:H a=some (.dK kvs)) (hl:kvs.length<sizeLine):DPut H a (kV k) v (upd H a (.dK (putK kvs k v))):=.inl ⟨kvs,k,e,rfl,hl,rfl⟩
section
variable {X:Cx}{jP:List (Addr × Obj)}{σ:St}{H:Hp}{s:Shared}{a:Addr}{y v:V}{u r:Value}{o:Option V}{A:Around}{E:XQ}
theorem Inv.big (I:Inv X jP σ H s):sysModules<s.heap.objs.size:=by
 have h:mainGlobals<s.heap.objs.size:=(I.mod.glob.keeps I.bk).lt;exact Nat.lt_trans (by decide) h
theorem zKh {Q:XQ}(hu:A.units+1<cLine) (I:Inv X jP σ H s) (g:DGet H a y (some v)) (ry:RelV y u) (h:∀w' s',Inv X jP σ H s'->RelV v w'->Q w' s') :
  wpAny (model X.prog X.w) A (getItem (.ref a) u) Q E s:=by
 rcases g with ⟨kvs,k,e,ey,l⟩|⟨kvs,k,b,e,ey,eb,l⟩
 ·subst ey
  obtain⟨z,hd,vs,rel,dd⟩:=dk_rd I.hok e;obtain⟨w',hw,rw'⟩:=RelO.some_of (v:=v) (o:=valueAt vs k) (by rw[l];exact rel.val k);exact wpAny_getItem_of (kV_is ry) dd.mapOf hw (h w' _ (I.tok _) rw')
 ·subst ey
  cases (show u=Value.ref b from ry);obtain⟨z,hd,xs,rel,dd⟩:=dt_rd I.hok e;obtain⟨w',hw,rw'⟩:=RelO.some_of (v:=v) (o:=(atKey xs k).map (·.2)) (by rw[l];exact rel.val k);obtain⟨p,hp,hp2⟩:=lV.mp hw;refine wpAny_getItem_heap (tupleKind_room_in1 hu) (zEl I.hok eb) dd hp ?_;rw[hp2];exact h w' _ (I.tok _) rw'
theorem d_in {Q:XQ}(hu:A.units+1<cLine) (I:Inv X jP σ H s) (g:DGet H a y o) (ry:RelV y u) (h:∀s',Inv X jP σ H s'->Q (.bool o.isSome) s') :
  wpAny (model X.prog X.w) A (compareOp .In u (.ref a)) Q E s:=by
 rcases g with ⟨kvs,k,e,ey,l⟩|⟨kvs,k,b,e,ey,eb,l⟩
 ·subst ey
  obtain⟨z,hd,vs,rel,dd⟩:=dk_rd I.hok e;refine wpAny_in_of (kV_is ry) hd dd.mapOf ?_;rw[←(rel.val k).isSome_eq,←l];exact h _ (I.tok _)
 ·subst ey
  cases (show u=Value.ref b from ry);obtain⟨z,hd,xs,rel,dd⟩:=dt_rd I.hok e;refine wpAny_in_heap (tupleKind_room_in1 hu) (zEl I.hok eb) hd dd ?_;have q:=(rel.val k).isSome_eq;rw[Option.isSome_map] at q;rw[←q,←l];exact h _ (I.tok _)
theorem zNL {Q:XQ}(hu:A.units+1<cLine) (I:Inv X jP σ H s) (g:DGet H a y o) (ry:RelV y u) (h:∀s',Inv X jP σ H s'->Q (.bool (!o.isSome)) s') :
  wpAny (model X.prog X.w) A (compareOp .NotIn u (.ref a)) Q E s:=by
 rcases g with ⟨kvs,k,e,ey,l⟩|⟨kvs,k,b,e,ey,eb,l⟩
 ·subst ey
  obtain⟨z,hd,vs,rel,dd⟩:=dk_rd I.hok e;refine wpAny_notIn_of (kV_is ry) hd dd.mapOf ?_;rw[←(rel.val k).isSome_eq,←l];exact h _ (I.tok _)
 ·subst ey
  cases (show u=Value.ref b from ry);obtain⟨z,hd,xs,rel,dd⟩:=dt_rd I.hok e;refine wpAny_notIn_heap (tupleKind_room_in1 hu) (zEl I.hok eb) hd dd ?_;have q:=(rel.val k).isSome_eq;rw[Option.isSome_map] at q;rw[←q,←l];exact h _ (I.tok _)
theorem zEx {h':Heap}{t':Nat}{ob:HO}(I:Inv X jP σ H s) (mu:Mut (H a)) (hs:Heap.SameBut a s.heap h') (he:∃q,h'.get? a=some q) (new:ObjOk X.prog X.w (upd H a ob) h' a ob) :
  Inv X jP σ (upd H a ob) { s with heap:=h',toks:=t' } :=
 I.write (x:=a) (e:=a) mu (.inl rfl) (λ b q hb z=>(hs.2 b hb).trans z) he new
theorem zFU {P:Program}{w:World}{H':Hp}{h':Heap}{kvs:List (Key × V)}{vs:List (Key × Value)}(z:kvs.length<=sizeLine) (hd:(a == sysModules)=false) (rel:KV kvs vs) (dd:h'.DictOf (zAd P w) a vs) :
  ObjOk P w H' h' a (.dK kvs):=⟨z,hd,vs,rel,dd⟩
theorem zKg {H':Hp}{Q:Unit->Shared->Prop}(hu:A.units+1<cLine) (I:Inv X jP σ H s) (g:DPut H a y v H') (ry:RelV y u) (rv:RelV v r) (h:∀s',Inv X jP σ H' s'->Q () s') :
  wpAny (model X.prog X.w) A (setItem (.ref a) u r) Q E s:=by
 rcases g with ⟨kvs,k,e,ey,l,eH⟩|⟨kvs,k,b,e,ey,eb,l,eH⟩
 ·subst ey eH
  obtain⟨z,hd,vs,rel,dd⟩:=dk_of I.hok e;have hz:vs.length<=sizeLine:=by rw[←rel.length];exact z
  have hl:(putK kvs k v).length<=sizeLine:=by have:=zAu kvs k v;omega
  refine wpAny_setItem_pairs (hsz:=hz) (kV_is ry) dd λ h' dd' hs=>h _ ?_;have he:∃q,h'.get? a=some q:=let ⟨q,_,_,hq,_⟩:=dd';⟨q,hq⟩;exact zEx I (by rw[e];exact True.intro) hs he (zFU hl hd (rel.put k rv) dd')
 ·subst ey eH
  cases (show u=Value.ref b from ry);obtain⟨z,hd,xs,rel,dd⟩:=dt_of I.hok e;have hz:xs.length<=sizeLine:=by rw[←Paired.length rel];exact z
  have hl:(putK kvs k v).length<=sizeLine:=by have:=zAu kvs k v;omega
  refine wpAny_setItem_heap (hsz:=hz) (tupleKind_room_in1 hu) (zEl I.hok eb) dd λ h' dd' hs=>h _ ?_;obtain⟨q,es,ep,hq,h2,h3,h4,_,h5⟩:=dd';refine zEx I (by rw[e];exact True.intro) hs ⟨q,hq⟩ ⟨hl,hd,_,(rel.put k eb rv).keeps λ c ys ec=>?_,q,es,ep,hq,h2,h3,h4,h5⟩;rw[zAK (ne_of ec e (λ z=>nomatch z))]
  exact ec
end
section
variable {X:Cx}{jP:List (Addr × Obj)}{σ:St}{H:Hp}{s:Shared}{a:Addr}{kvs:List (Key × V)}{k:Key}{u:Value}{A:Around}{E:XQ}
theorem d_len {Q:XQ}(I:Inv X jP σ H s) (e:Rd H a (.dK kvs)) (h:∀t s',Inv X jP σ H s'->Q (.int kvs.length t) s'):wpAny (model X.prog X.w) A (call (.builtin "len") [.ref a]) Q E s:=by
 obtain⟨z,hd,vs,rel,dd⟩:=dk_rd I.hok e;refine call_len_dict hd dd (by rw[←rel.length];rw[sizeLine_eq] at z;omega) ?_;rw[←rel.length];exact h _ _ (I.tok _)
end
def NoSl (i:Expr):Prop:=∀ov iv,subscripted i false ov iv=operate [ov,iv] (getItem ov iv)
theorem zMf {prog:Program}{w:World}{A:Around}{E:XQ}{s:Shared}{env:Env}{value slice:Expr}{pos:Pos}{T id:String}{Q:XQ}
  (hl:typeLookup (.type T) "__getitem__" = pure (some (.builtin id))) (hs:NoSl slice)
  (h:wpAny (model prog w) A (eval value env) (λ o s₁=>wpAny (model prog w) A (eval slice env) (λ i s₂=>s₂.TypeIs o T/\wpAny (model prog w) A (getItem o i) Q E s₂) E s₁) E s) :
  wpAny (model prog w) A (eval (.Subscript value slice pos) env) Q E s:=by
 refine Subscript_ (wpAny_mono h (λ o s₁ h₁=>wpAny_mono h₁ (λ i s₂ h₂=>?_) λ Ω Ω x=>x) λ Ω Ω x=>x);obtain⟨hT,h₂⟩:=h₂;unfold subscriptTail;refine lA ?_;rw[getitemInPython_of_ne hT.not_modules];refine lA (wpAny_specialOf hT hl ?_)
 have fin:wpAny (model prog w) A (subscripted slice false o i) (λ r s₃=>wpAny (model prog w) A (letTemporaryGo value o r >>= λ Ω=>pure r) Q E s₃) E s₂:=by
  rw[hs o i];exact wpAny_operating (wpAny_mono h₂ (λ r s₃ h₃=>lA (wpAny_letTemporaryGo (lB h₃))) λ Ω Ω x=>x)
 first
  |exact lB (lA fin)
  |exact lA (lB (lA fin))
  |exact lA fin
theorem zHc {X:Cx}{jP:List (Addr × Obj)}{σ:St}{H:Hp}{s:Shared}{a:Addr}{y:V}{o:Option V}(I:Inv X jP σ H s) (g:DGet H a y o):s.TypeIs (.ref a) "dict" := by
 rcases g with ⟨kvs,k,e,_,_⟩|⟨kvs,k,b,e,_,_,_⟩
 ·obtain⟨_,_,vs,_,dd⟩:=dk_rd I.hok e
  exact dd.typeIs
 ·obtain⟨_,_,xs,_,dd⟩:=dt_rd I.hok e
  exact dd.typeIs
inductive IsG (Q:VK) (x y:V) (H:Hp):Prop
 |mk (a:Addr) (v:V) (h:x = .ref a) (g:DGet H a y (some v)) (q:Q v H)
def tDGet (td ty:TE):TE:=λ σ H Q=>td σ H λ x H1=>ty σ H1 (IsG Q x)
inductive IsP (N:Hp->Prop) (v x y:V) (H:Hp):Prop
 |mk (a:Addr) (H4:Hp) (h:x = .ref a) (p:DPut H a y v H4) (q:N H4)
def sDPut (td ty tv:TE):TS:=λ D σ H=>tv σ H λ v H1=>td σ H1 λ x H2=>ty σ H2 (IsP (D.nx σ) v x)
section
variable {X:Cx}{o i e value:Expr}{pos pos' tpos:Pos}{td ty tv:TE}
theorem zDJ (hu:X.A.units+1<cLine) (ho:PE X o td) (hi:PE X i ty) (hs:NoSl i):PE X (.Subscript o i pos) (tDGet td ty):=by
 intro jP s σ H Q I h;refine zMf PySem.F.slot_dict_getitem.lookup hs (thn (ho jP s σ H _ I h) λ u s1 ⟨x,H1,I1,rx,q1⟩=>thn (hi jP s1 σ H1 _ I1 q1) λ iv s2 ⟨y,H2,I2,ry,a,v,ex,g,q2⟩=>?_);subst ex;obtain rfl:u=Value.ref a:=rx;exact⟨zHc I2 g,zKh hu I2 g ry λ w' s3 I3 rw'=>⟨v,H2,I3,rw',q2⟩⟩
theorem zBd (hu:X.A.units+1<cLine) (ho:PE X o td) (hi:PE X i ty) (hv:PE X value tv) (hs:swapsWith value (some (.Subscript o i pos')) pos.line X.env=pure false) :
  PS X (.Assign [.Subscript o i pos'] value pos) (sDPut td ty tv):=by
 intro jP s σ H D I h;refine wpAny_Assign_Subscript (thn (hv jP s σ H _ I h) λ r s1 ⟨v,H1,I1,rv,q1⟩=>thn (ho jP s1 σ H1 _ I1 q1) λ u s2 ⟨x,H2,I2,rx,q2⟩=>thn (hi jP s2 σ H2 _ I2 q2) λ iv s3 ⟨y,H3,I3,ry,a,H4,ex,g,q3⟩=>?_) hs;subst ex;obtain rfl:u=Value.ref a:=rx;exact zKg hu I3 g ry rv λ s4 I4=>⟨σ,H4,I4,q3⟩
end
theorem zIY {P:Program}{w:World}{H:Hp}(h:Heap) (hb:sysModules<h.objs.size):ObjOk P w H (h.push { cls:=.type "dict", data:=.dict #[] }) h.objs.size (.dK []) :=
 ⟨lZ _,beq_eq_false_iff_ne.mpr (Ne.symm (lR hb)),[],.nil,Heap.DictOf.new h⟩
def zNY:TE:=λ Ω H Q=>∀p,H p=none->Q (.ref p) (upd H p (.dK []))
section
variable {X:Cx}{pos:Pos}
theorem zBi:PE X (.Dict [] [] pos) zNY:=λ jP s σ H Q I h =>
 wpAny_Dict_empty ⟨.ref s.heap.objs.size,_,I.laid (a:=s.heap.objs.size) (o:=.dK []) (t':=s.toks) (λ Ω Ω q=>lE _ q) (lQ _) (zIY s.heap I.big),rfl,h _ (I.hok.fresh (lQ _))⟩
end
def zJO:List (TE × TE)->St->Hp->(List (V × V)->Hp->Prop)->Prop
 |[],_,H,Q=>Q [] H
 | (tk,tv)::r,σ,H,Q=>tk σ H λ x H1=>tv σ H1 λ y H2=>zJO r σ H2 λ ps H3=>Q ((x,y)::ps) H3
abbrev VV:List (V × V)->List (Value × Value)->Prop:=Paired λ p q=>RelV p.1 q.1/\RelV p.2 q.2
def PPs (X:Cx) (pos:Pos) (keys:List (Option Expr)) (values:List Expr) (trs:List (TE × TE)):Prop :=
 ∀(jP:List (Addr × Obj)) (s:Shared) (σ:St) (H:Hp) (Q:List (V × V)->Hp->Prop),Inv X jP σ H s->zJO trs σ H Q ->
  wpAny (model X.prog X.w) X.A (evalPairs (pairTrees keys values X.env pos)) (λ vs s'=>∃ps H',Inv X jP σ H' s'/\VV ps vs/\Q ps H') X.xe s
theorem zJf {X:Cx}{pos:Pos}:PPs X pos [] [] []:=λ jP s σ H Q I h=>pairTrees_nil_walk ⟨[],H,I,.nil,h⟩
theorem zH7 {X:Cx}{pos:Pos}{k v:Expr}{ks:List (Option Expr)}{vs:List Expr}{tk tv:TE}{trs:List (TE × TE)}(hk:PE X k tk) (hv:PE X v tv) (hr:PPs X pos ks vs trs) :
  PPs X pos (some k::ks) (v::vs) ((tk,tv)::trs):=λ jP s σ H Q I h =>
 pairTrees_cons_walk (thn (hk jP s σ H _ I h) λ u s1 ⟨x,H1,I1,rx,q1⟩=>thn (hv jP s1 σ H1 _ I1 q1) λ w2 s2 ⟨y,H2,I2,ry,q2⟩ =>
  thn (hr jP s2 σ H2 _ I2 q2) λ ws s3 ⟨ps,H3,I3,rel,q3⟩=>⟨(x,y)::ps,H3,I3,.cons ⟨rx,ry⟩ rel,q3⟩)
noncomputable def zAw (kvs more:List (Key × V)):List (Key × V):=more.foldl (λ acc kv=>putK acc kv.1 kv.2) kvs
theorem KV.merge:∀{more:List (Key × V)}{rs:List (Key × Value)}{kvs:List (Key × V)}{vs:List (Key × Value)},KV more rs->KV kvs vs->KV (zAw kvs more) (merged vs rs):=by
 intro more rs kvs vs r;unfold KV at r
 induction r generalizing kvs vs with
 |nil=>intro q;exact q
 | @cons p q ps qs h t ih =>
  intro r0
  have e:KV (putK kvs p.1 p.2) (stored vs q.1 q.2):=by
   have:=r0.put p.1 h.2;rw[←h.1];exact this
  exact ih e
theorem zBU:∀(more kvs:List (Key × V)),(zAw kvs more).length<=kvs.length+more.length
 |[],kvs=>by show kvs.length<=kvs.length+0;omega
 |p::r,kvs=>by
  have h1:=zBU r (putK kvs p.1 p.2);have h2:=zAu kvs p.1 p.2;show (zAw (putK kvs p.1 p.2) r).length<=_;rw[mM];omega
theorem zFY {P:Program}{w:World}:∀{kvs:List (Key × V)}{ws:List (Value × Value)},VV (kvs.map λ kv=>(kV kv.1,kv.2)) ws->∃rs,Carries (zAd P w) ws rs/\KV kvs rs
 |[],_,r=>by rw[List.map_nil] at r;cases r;exact⟨[],True.intro,.nil⟩
 |p::kvs,_,r=>by
  rw[mL] at r;cases r with
  | @cons a b as bs h t =>
   obtain⟨rs,c,q⟩:=zFY (P:=P) (w:=w) t;obtain⟨b1,b2⟩:=b;exact⟨(p.1,b2)::rs,⟨kV_is h.1,rfl,c⟩,.cons ⟨rfl,h.2⟩ q⟩
def tDisp (trs:List (TE × TE)):TE:=λ σ H Q=>∀p,H p=none->zJO trs σ (upd H p (.dK [])) λ ps H2=>H2 p=some (.dK [])/\∃kvs:List (Key × V),ps=kvs.map (λ kv=>(kV kv.1,kv.2))/\kvs.length<=15/\Q (.ref p) (upd H2 p (.dK (zAw [] kvs)))
theorem zJp {X:Cx}{pos:Pos}{keys:List (Option Expr)}{values:List Expr}{trs:List (TE × TE)}(h:PPs X pos keys values trs) (hall:keys.all (·.isSome)=true) (hl:keys.length=values.length) (h0:keys≠[])
  (h15:keys.length<=15):PE X (.Dict keys values pos) (tDisp trs):=by
 intro jP s σ H Q I q;have hn:=I.hok.fresh (lQ s.heap.objs.size);have I1:=I.laid (a:=s.heap.objs.size) (o:=.dK []) (h':=s.heap.push { cls:=.type "dict", data:=.dict #[] }) (t':=s.toks) (λ Ω Ω q=>lE _ q) (lQ _) (zIY s.heap I.big);refine wpAny_Dict_walk (knd:=zAd X.prog X.w) hall hl h0 h15 (thn (h jP _ σ _ _ I1 (q _ hn)) λ ws s2 ⟨ps,H2,I2,rel,e,kvs,ep,lk,q2⟩=>?_);subst ep;obtain⟨rs,c,rk⟩:=zFY (P:=X.prog) (w:=X.w) rel;obtain⟨z,hd,vs0,r0,dd⟩:=dk_of I2.hok e;cases r0;refine⟨rs,c,dd,λ h' dd' hs=>⟨.ref s.heap.objs.size,_,?_,rfl,q2⟩⟩
 have hz:(zAw [] kvs).length<=sizeLine:=by
  have h1:=zBU kvs [];rw[List.length_nil] at h1;rw[sizeLine_eq];omega
 have he:∃q,h'.get? s.heap.objs.size=some q:=let ⟨q,_,_,hq,_⟩:=dd';⟨q,hq⟩;exact zEx I2 (by rw[e];exact True.intro) hs he (zFU hz hd (rk.merge .nil) dd')
structure M1 (X:Cx) (o:Expr) (m:Str) (apos:Pos) (e:Expr) (cpos:Pos):Prop where
 base:attributeBase o m X.env (eval o X.env)=eval o X.env
 few:((backTo cpos (starEach [e] X.env)).all (λ x=>!x.1) && (backToKw cpos (keywordEach [] X.env)).all (λ x=>x.1.isSome)
  && decide (([e]:List Expr).length+([]:List Keyword).length+(if ([]:List Keyword).isEmpty then 0 else 1)<30))=true
 line:(apos.endLine == cpos.line)=true
 trees:backTo cpos (starEach [e] X.env)=[(false,eval e X.env)]
structure M2 (X:Cx) (o:Expr) (m:Str) (apos:Pos) (e f:Expr) (cpos:Pos):Prop where
 base:attributeBase o m X.env (eval o X.env)=eval o X.env
 few:((backTo cpos (starEach [e,f] X.env)).all (λ x=>!x.1) && (backToKw cpos (keywordEach [] X.env)).all (λ x=>x.1.isSome)
  && decide (([e,f]:List Expr).length+([]:List Keyword).length+(if ([]:List Keyword).isEmpty then 0 else 1)<30))=true
 line:(apos.endLine == cpos.line)=true
 trees:backTo cpos (starEach [e,f] X.env)=[(false,eval e X.env),(false,eval f X.env)]
def IsD (H:Hp) (a:Addr):Prop:=(∃kvs,Rd H a (.dK kvs))\/∃kvs,Rd H a (.dT kvs)
theorem zMR {X:Cx}{jP:List (Addr × Obj)}{σ:St}{H:Hp}{s:Shared}{a:Addr}(I:Inv X jP σ H s) (d:IsD H a) :
  s.TypeIs (.ref a) "dict" /\ (∀b,Value.ref a = .ref b->∃ob,s.heap.get? b=some ob/\ob.dict=none)/\(a == sysModules)=false:=by
 rcases d with ⟨kvs,e⟩|⟨kvs,e⟩
 ·obtain⟨_,hd,vs,_,dd⟩:=dk_rd I.hok e
  refine⟨dd.typeIs,λ b q=>?_,hd⟩;cases q;obtain⟨ob,_,_,h1,h2,_⟩:=dd;exact⟨ob,h1,h2.2.1⟩
 ·obtain⟨_,hd,xs,_,dd⟩:=dt_rd I.hok e
  refine⟨dd.typeIs,λ b q=>?_,hd⟩;cases q;obtain⟨ob,_,_,h1,h2,_⟩:=dd;exact⟨ob,h1,h2.2.1⟩
section
variable {X:Cx}{jP:List (Addr × Obj)}{σ:St}{H:Hp}{s:Shared}{a:Addr}{y d:V}{u r:Value}{o:Option V}{A:Around}{E:XQ}
theorem zOB {Q:XQ}(hu:A.units+1<cLine) (I:Inv X jP σ H s) (g:DGet H a y o) (ry:RelV y u) (h:∀w' s',Inv X jP σ H s'->RelV (o.getD .non) w'->Q w' s') :
  wpAny (model X.prog X.w) A (call (.builtin "dict.get") [.ref a,u]) Q E s:=by
 rcases g with ⟨kvs,k,e,ey,l⟩|⟨kvs,k,b,e,ey,eb,l⟩
 ·subst ey
  obtain⟨z,hd,vs,rel,dd⟩:=dk_rd I.hok e;refine call_meetsIn PySem.F.slot_dict_get dd.typeIs PySem.F.entry_dict_get (PySem.F.args_dict_get_2 _ _) (meets_dict_get (zAd X.prog X.w) a (kV_is ry) hd) ⟨_,dd.mapOf,h _ _ (I.tok _) ?_⟩;rw[l];exact(rel.val k).getD rfl
 ·subst ey
  cases (show u=Value.ref b from ry);obtain⟨z,hd,xs,rel,dd⟩:=dt_rd I.hok e;refine call_meetsIn PySem.F.slot_dict_get dd.typeIs PySem.F.entry_dict_get (PySem.F.args_dict_get_2 _ _) (meetsH_dict_get (tupleKind (zAd X.prog X.w)) a b hd) ⟨tupleKind_room_in1 hu,k,xs,zEl I.hok eb,dd,h _ _ (I.tok _) ?_⟩;rw[l];exact(rel.val k).getD rfl
theorem zOA {Q:XQ}(hu:A.units+1<cLine) (I:Inv X jP σ H s) (g:DGet H a y o) (ry:RelV y u) (rd:RelV d r) (h:∀w' s',Inv X jP σ H s'->RelV (o.getD d) w'->Q w' s') :
  wpAny (model X.prog X.w) A (call (.builtin "dict.get") [.ref a,u,r]) Q E s:=by
 rcases g with ⟨kvs,k,e,ey,l⟩|⟨kvs,k,b,e,ey,eb,l⟩
 ·subst ey
  obtain⟨z,hd,vs,rel,dd⟩:=dk_rd I.hok e;refine call_meetsIn PySem.F.slot_dict_get dd.typeIs PySem.F.entry_dict_get (PySem.F.args_dict_get_3 _ _ _) (meets_dict_get_default (zAd X.prog X.w) a (kV_is ry) hd r) ⟨_,dd.mapOf,h _ _ (I.tok _) ?_⟩;rw[l];exact(rel.val k).getD rd
 ·subst ey
  cases (show u=Value.ref b from ry);obtain⟨z,hd,xs,rel,dd⟩:=dt_rd I.hok e;refine call_meetsIn PySem.F.slot_dict_get dd.typeIs PySem.F.entry_dict_get (PySem.F.args_dict_get_3 _ _ _) (meetsH_dict_get_default (tupleKind (zAd X.prog X.w)) a b hd r) ⟨tupleKind_room_in1 hu,k,xs,zEl I.hok eb,dd,h _ _ (I.tok _) ?_⟩;rw[l];exact(rel.val k).getD rd
end
def zNa (td ty:TE):TE:=λ σ H Q=>td σ H λ x H1=>∃a,x = .ref a/\IsD H1 a/\ty σ H1 λ y H2=>∃o,DGet H2 a y o/\Q (o.getD .non) H2
def zNZ (td ty tx:TE):TE:=λ σ H Q=>td σ H λ x H1=>∃a,x = .ref a/\IsD H1 a/\ty σ H1 λ y H2=>tx σ H2 λ z H3=>∃o,DGet H3 a y o/\Q (o.getD z) H3
section
variable {X:Cx}{o e f:Expr}{apos cpos:Pos}{td ty tx:TE}
theorem zLP (hu:X.A.units+1<cLine) (ho:PE X o td) (he:PE X e ty) (m:M1 X o "get" apos e cpos):PE X (.Call (.Attribute o "get" apos) [e] [] cpos) (zNa td ty):=by
 intro jP s σ H Q I h;refine wpAny_Call_method m.base m.few m.line rS PySem.F.slot_dict_get PySem.F.type_dict_get (thn (ho jP s σ H _ I h) λ u s1 ⟨x,H1,I1,rx,a,ex,d,q1⟩=>?_);subst ex;obtain rfl:u=Value.ref a:=rx;obtain⟨t1,t2,_⟩:=zMR I1 d;refine⟨t1,t2,?_⟩;rw[m.trees];refine Calls.callWith_builtin rfl (Calls.evalArgs_plain (Calls.spliced_cons (thn (he jP s1 σ H1 _ I1 q1) λ iv s2 ⟨y,H2,I2,ry,ov,g,q2⟩=>Calls.spliced_nil ?_)));exact zOB hu I2 g ry λ w' s3 I3 rw'=>⟨_,H2,I3,rw',q2⟩
theorem zH9 (hu:X.A.units+1<cLine) (ho:PE X o td) (he:PE X e ty) (hf:PE X f tx) (m:M2 X o "get" apos e f cpos):PE X (.Call (.Attribute o "get" apos) [e,f] [] cpos) (zNZ td ty tx):=by
 intro jP s σ H Q I h;refine wpAny_Call_method m.base m.few m.line rS PySem.F.slot_dict_get PySem.F.type_dict_get (thn (ho jP s σ H _ I h) λ u s1 ⟨x,H1,I1,rx,a,ex,d,q1⟩=>?_);subst ex;obtain rfl:u=Value.ref a:=rx;obtain⟨t1,t2,_⟩:=zMR I1 d;refine⟨t1,t2,?_⟩;rw[m.trees]
 refine Calls.callWith_builtin rfl (Calls.evalArgs_plain (Calls.spliced_cons (thn (he jP s1 σ H1 _ I1 q1) λ iv s2 ⟨y,H2,I2,ry,q2⟩ =>
  Calls.spliced_cons (thn (hf jP s2 σ H2 _ I2 q2) λ fv s3 ⟨z,H3,I3,rz,ov,g,q3⟩=>Calls.spliced_nil ?_))))
 exact zOA hu I3 g ry rz λ w' s4 I4 rw'=>⟨_,H3,I4,rw',q3⟩
end
section
variable {X:Cx}{jP:List (Addr × Obj)}{σ:St}{H:Hp}{s:Shared}{a:Addr}{kvs:List (Key × V)}{A:Around}{E:XQ}
theorem zL3 {Q:XQ}(I:Inv X jP σ H s) (e:Rd H a (.dK kvs)) (h:∀p s',H p=none->Inv X jP σ (upd H p (.dK kvs)) s'->Q (.ref p) s'):wpAny (model X.prog X.w) A (call (.type "dict") [.ref a]) Q E s:=by
 obtain⟨z,hd,vs,rel,dd⟩:=dk_rd I.hok e;refine kt_call_dict hd dd (by rw[←rel.length];exact z) λ h' dd' hs=>?_;refine h _ _ (I.hok.fresh (lQ _)) (I.laid (a:=s.heap.objs.size) (o:=.dK kvs) (t':=s.toks) (λ b q hq=>?_) (lQ _) (zFU z (beq_eq_false_iff_ne.mpr (Ne.symm (lR I.big))) rel dd'));exact(hs.2 b (lR (lH hq))).trans (lE _ hq)
end
end L2
namespace Att
open PySem PySem.W PySem.Calls PyProof.Rows
theorem zEs {P:Params}{h:Heap}:∀(ns:List Int) (vs:List Value),WellAll P h vs (ns.map WData.int)->IntsAre vs ns:=by
 intro ns
 induction ns with
 |nil =>
  intro vs w;rw[List.map_nil] at w;cases w;exact .nil
 |cons n ns ih =>
  intro vs w;rw[mL] at w;cases w with
  |cons a b =>
   cases a;exact .cons _ _ (ih _ b)
theorem zJY {l:OpenLaw}{n:Nat}(hn:l.most=some n) {P:Params}{h:Heap}{args:List WData}{vals:List Value}
    (hpre:l.row.toRowW.claim.pre args=true) (hwl:WellAll P h vals args) :
    ∃a vs ns,vals=[Value.ref a]/\args=[WData.list (ns.map WData.int)]/\h.get? a=some { cls:=.type "list", data:=.seq vs.toArray }/\IntsAre vs ns/\ns.length<=n:=by
  have hsh:WShape.hasAll [] args [.list .int]=true:=(pre_splitW hpre).1;have hc:l.pre.holds [] { args:=args }=true:=(pre_splitW hpre).2;obtain⟨d,r,rfl,h1,h2⟩:=hasAllW_cons hsh;obtain rfl:=hasAllW_nil h2;obtain⟨xs,rfl,h3⟩:=hasW_list h1;obtain⟨ns,rfl⟩:=items_int h3
  have hlen:ns.length<=n:=by
    unfold OpenLaw.pre at hc
    have h4:(WTm.not (.lt (.lit (.int (n:Int))) (.len (.arg 0)))).holds [] { args:=[.list (ns.map .int)] }=true:=by
      have h4:=(holds_andW hc).1;rw[hn] at h4;exact h4
    have h5:=condW_of h4 (w_not (w_lt w_lit (w_len_list (w_arg rfl))));rw[lC] at h5;refine Nat.le_of_not_lt λ q=>?_;have q':(n:Int)<((ns.length:Nat):Int):=by omega
    first
      | (rw[decide_eq_true q'] at h5;exact absurd h5 (by decide))
      | (simp at h5;omega)
  cases hwl with
  |cons w1 w2 =>
    cases w2;cases w1 with
    |list ho hall=>exact⟨_,_,ns,rfl,rfl,ho,zEs ns _ hall,hlen⟩
theorem zJg (l:OpenLaw) (args:List WData):l.row.toRowW.claim.post args (.bool true) args=true :=
  postW_of (r:=l.row.toRowW) (X:=(true == true))
    (show WShape.has [] (.bool true) .bool=true by first|rfl|decide|simp[WShape.has,WShape.arms,WShape.armsAll])
    (show (WTm.eq .res (.lit (.bool true))).value [] { args:=args,res:=some (.bool true),after:=args }=some (.bool (true == true)) from w_eq_bool (w_res rfl) w_lit) rfl
theorem attach_call {l:OpenLaw}{n:Nat}{q:Program}{loose:List Str}{XP:(Str->Option Value)->Heap->Prop}{YP:World->Heap->Prop}{d:DefRec}
  (hn:l.most=some n) (hdf:d.params.defaults=[])
  (call:∀(w:World) (s₀ s₁:Shared) (mg mb:Str->Option Value) (fa:Addr) (o:Obj) (pm cd doc:Value) (a:Addr) (vs:List Value) (ns:List Int),
   Ground q loose [] XP w s₀ mg mb s₁.heap->YP w s₁.heap ->
   s₁.heap.get? fa=some o->o.data = .func (docDef d.name d.params d.body d.scope pm cd doc)->s₁.heap.CodeRec cd d.name->mg d.name=some (.ref fa) ->
   s₁.heap.get? a=some { cls:=.type "list", data:=.seq vs.toArray }->IntsAre vs ns->ns.length<=n->s₁.gens=#[] ->
   codeAny (model l.prog w) callerA (.call (.ref fa) ⟨[.ref a],[]⟩) (λ r s'=>r = .ok (.ret (.bool true))/\OldK s₁.heap s'.heap/\s'.os=s₁.os/\AllBare s'.gens) s₁) :
  WalkO q loose XP YP l.row.toRowW d [] (λ f vs=>PySem.call f vs):=by
 intro w s₀ s₁ mg mb G Y fa o pm cd doc dV kV ho hd hcd hD hmg hg args vals as hpre hlay hrd hwl hlo;obtain rfl:dV = .none:=Dflts.none hD hdf;obtain rfl:kV = .none:=Dflts.noKw hD;obtain⟨a,vs,ns,rfl,rfl,hobj,hints,hlen⟩:=zJY hn hpre hwl;refine enter_call (codeAny_mono (call w s₀ s₁ mg mb fa o pm cd doc a vs ns G Y ho (fd_plain hd) hcd hmg hobj hints hlen hg) λ r s' hq=>?_);obtain⟨rfl,h2,h3,h4⟩:=hq;exact⟨.inl ⟨.bool true,.bool true,[],rfl,λ Ω=>rfl,.bool true,zJg l _,λ Ω=>⟨List.Pairwise.nil,λ Ω hm=>(nomatch hm)⟩⟩,h2,h3,h4⟩
end Att
namespace L2
open PySem PySem.Spec PyProof.Rows
theorem zGK {vs:List Value}{ns:List Int}(h:IntsAre vs ns):Vals (ns.map V.int) vs:=by
 induction h with
 |nil=>exact .nil
 |cons n t h ih=>exact .cons ⟨t,rfl⟩ ih
def Only (H:Hp):Prop:=∀b,H b=none\/∃o xs,H b=some (.frz o (.lst xs))
theorem zLl {P:Program}{w:World}{K:W.Frag}{mg mb:Str->Option Value}{CX:CXT}{k:Nat}{fa a:Addr}{fd:FuncData}{x:Str}{sp:Sp}{s₁:Shared}{vs:List Value}{ns:List Int}
  (KX:K.In s₁.heap) (hns:s₁.heap.Ns mainGlobals mg) (hb:s₁.heap.Ns builtinsNs mb) (hbb:∀x:Str,x ≠ "__name__" -> mb x=bootBuiltins x) (hlim:s₁.heap.NoLimit) (hg:s₁.gens=#[])
  (ha:s₁.heap.get? a=some { cls:=.type "list", data:=.seq vs.toArray }) (hi:IntsAre vs ns) (hl:ns.length<=sizeLine) (hr:Room k callerA)
  (F:∀base:Heap,K.In base->base.Ns mainGlobals mg->FnOk P w K mg base CX k fa fd [x] sp) (hbind:∀(s:Shared) (u:Value),BindsTo s fd ⟨[u],[]⟩ [(x,u)])
  (hsp:∀H:Hp,Only H->SqL K H a (ns.map V.int)->sp [.ref a] H (λ v Ω=>v = .bl true) λ Ω Ω Ω=>False)
  (hCX:∀H e s',CX [] H s₁ (λ Ω Ω Ω=>False) e s'->False) :
  codeAny (model P w) callerA (.call (.ref fa) ⟨[.ref a],[]⟩) (λ r s'=>r = .ok (.ret (.bool true))/\OldK s₁.heap s'.heap/\s'.os=s₁.os/\AllBare s'.gens) s₁:=by
 have rv:=zGK hi;have lenV:=hi.length
 have core:∀H:Hp,Only H->SqL K H a (ns.map V.int)->HOk P w H s₁.heap->(∀b,H b≠none->b=a)->(H a≠none->K.lookup a=none) ->
   codeAny (model P w) callerA (.call (.ref fa) ⟨[.ref a],[]⟩) (λ r s'=>r = .ok (.ret (.bool true))/\OldK s₁.heap s'.heap/\s'.os=s₁.os/\AllBare s'.gens) s₁:=by
  intro H hO hS hok hA hK;have base_of:∀{b:Addr}{o:Obj},s₁.heap.get? b=some o->H b=none->(hidT s₁.heap H).get? b=some o:=λ e n=>zLr e n
  have noA:∀{b:Addr}{o:Obj}{es:Array DictEntry}{ep:Nat},s₁.heap.get? b=some o->o.data = .dict es ep->H b=none:=λ{b o es ep} e d=>by
   cases q:H b with
   |none=>rfl
   |some u =>
    have e':b=a:=hA b (by rw[q];simp);subst e';rw[ha] at e;cases e;have d':Data.seq vs.toArray _=Data.dict es ep:=d;cases d'
  have nsK:∀{b:Addr}{m:Str->Option Value},s₁.heap.Ns b m->(hidT s₁.heap H).Ns b m:=λ{b m} ⟨o,es,ep,e,d,r⟩=>⟨o,es,ep,base_of e (noA e d),d,r⟩
  have hKb:K.In (hidT s₁.heap H):=λ b o e=>base_of (KX b o e) (by
   cases q:H b with
   |none=>rfl
   |some u =>
    have e':b=a:=hA b (by rw[q];simp);subst e';rw[hK (by rw[q];simp)] at e;cases e)
  have hM:Mod K mg (hidT s₁.heap H):=⟨hKb,nsK hns,⟨mb,nsK hb,hbb⟩,let ⟨mc,h1,h2⟩:=hlim;⟨mc,nsK h1,h2⟩⟩;have e0:Env0 P w K mg (hidT s₁.heap H) callerA [] s₁ H:=⟨rfl,hM,λ b o e=>zMz e,Nat.le_of_eq (zKQ _ _),trivial,λ b hb=>absurd (show b∈([]:List Addr) from hb) (by simp),hok,.of_eq hg⟩;refine codeAny_mono ((F _ hKb (nsK hns)).run callerA [] s₁ H ⟨[.ref a],[]⟩ [.ref a] [.ref a] _ _ hr e0 (hbind s₁ (.ref a)) (.cons rfl .nil) (hsp H hO hS)) λ r s' h=>?_;cases r with
  |error e=>exact(hCX H e s' h).elim
  |ok fl =>
   cases fl with
   |next=>exact False.elim h
   |brk=>exact False.elim h
   |cont=>exact False.elim h
   |ret u =>
    obtain⟨v,H',os,bare,un,hok',r',q⟩:=h;have q':v = .bl true:=q;subst q';obtain rfl:u=Value.bool true:=r';refine⟨rfl,OldK.of_keep λ b o e=>?_,os,bare⟩;cases q:H b with
    |none=>exact un.keep b o e q (by intro z;exact absurd (show b∈([]:List Addr) from z) (by simp)) (by simp)
    |some u =>
     rcases hO b with z|⟨ob,xs,z⟩
     ·rw[q] at z;cases z
     ·have z2:=un.frzs b ob _ z
      obtain⟨e1,_⟩:=hok b _ z;obtain⟨e2,_⟩:=hok' b _ z2;rw[e] at e1;cases e1;exact e2
 cases hk:K.lookup a with
 |some o =>
  have e:=KX a o hk;rw[ha] at e;cases e;refine core (λ Ω=>none) (λ Ω=>.inl rfl) (.inr ⟨_,vs.toArray,_,hk,rfl,rfl,rfl,by rw[mE,lenV];exact hl,by simpa using rv⟩) (λ b u z=>by have z':(none:Option HO)=some u:=z;cases z') (λ b z=>absurd rfl z) λ z=>absurd rfl z
 |none =>
  refine core (λ b=>if b=a then some (.frz { cls:=.type "list", data:=.seq vs.toArray } (.lst (ns.map V.int))) else none) (λ b=>?_) (.inl (.inr ⟨{ cls:=.type "list", data:=.seq vs.toArray },if_pos rfl⟩)) (λ b u z=>?_) (λ b z=>?_) λ Ω=>hk
  ·by_cases hb:b=a
   ·exact .inr ⟨_,_,if_pos hb⟩
   ·exact .inl (if_neg hb)
  ·by_cases hb:b=a
   ·have z':=(if_pos hb).symm.trans z
    cases z';subst hb;exact⟨ha,by rw[lC];exact hl,vs,_,rv,ha⟩
   ·have z':=(if_neg hb).symm.trans z
    cases z'
  ·by_cases hb:b=a
   ·exact hb
   ·exact absurd (if_neg hb) z
theorem walk_of {l:W.OpenLaw}{n k:Nat}{q:Program}{loose:List Str}{XP:(Str->Option Value)->Heap->Prop}{YP:World->Heap->Prop}{d:DefRec}{K:Params->W.Frag}{CX:World->CXT}{sp:World->Sp}{x:Str}
  (hn:l.most=some n) (hn2:n<=sizeLine) (hdf:d.params.defaults=[]) (hr:Room k callerA)
  (hY:∀(w:World) (h:Heap),YP w h->(K w.params).In h)
  (F:∀(w:World) (mg:Str->Option Value) (fa:Addr) (h:Heap),(K w.params).In h->h.Ns mainGlobals mg->mg d.name=some (.ref fa) ->
   ∃fd:FuncData,(∀(s:Shared) (u:Value),BindsTo s fd ⟨[u],[]⟩ [(x,u)]) /\
    ∀base:Heap,(K w.params).In base->base.Ns mainGlobals mg->FnOk l.prog w (K w.params) mg base (CX w) k fa fd [x] (sp w))
  (hsp:∀(w:World) (H:Hp) (a:Addr) (ns:List Int),ns.length<=n->Only H->SqL (K w.params) H a (ns.map V.int)->sp w [.ref a] H (λ v Ω=>v = .bl true) λ Ω Ω Ω=>False)
  (hCX:∀(w:World) (H:Hp) (s:Shared) (e:Value) (s':Shared),CX w [] H s (λ Ω Ω Ω=>False) e s'->False) :
  W.WalkO q loose XP YP l.row.toRowW d [] (λ f vs=>PySem.call f vs):=by
 refine Att.attach_call hn hdf λ w s₀ s₁ mg mb fa o pm cd doc a vs ns G Y ho hd hcd hmg hobj hints hlen hg=>?_;have KX:=hY w _ Y;obtain⟨fd,hb,hF⟩:=F w mg fa _ KX G.T.g hmg;exact zLl KX G.T.g G.T.b G.T.builtins G.T.nolimit hg hobj hints (mH hlen hn2) hr hF hb (λ H hO hS=>hsp w H a ns hlen hO hS) λ H e s'=>hCX w H s₁ e s'
noncomputable def zDL (s:Stmt):Arguments:=match s with
 |.FunctionDef _ a _ _ _ _ _ _ _ _=>a
 |_=>{ posonlyargs:=[],args:=[],vararg:=none,kwonlyargs:=[],kw_defaults:=[],kwarg:=none,defaults:=[] }
noncomputable def zCY (s:Stmt):List Stmt:=match s with
 |.FunctionDef _ _ b _ _ _ _ _ _ _=>b
 |_=>[]
noncomputable def zAN (s:Stmt):Scope:=match s with
 |.FunctionDef _ _ _ _ _ _ sc _ _ _=>sc
 |_=>{ kind:=.function,names:=[],isGenerator:=false,isCoroutine:=false }
abbrev CX0:CXT:=λ Ω Ω Ω Ω Ω Ω=>False
abbrev E0:XK:=λ Ω Ω Ω=>False
theorem pass0 {X:Cx}:zFd CX0 X E0:=λ Ω Ω Ω Ω Ω Ω Ω h=>h.elim
structure Fun (K:W.Frag) (x qual:Str) (st:Stmt) (f:Addr) (fd:FuncData):Prop where
 ex:∃(oc:Value) (od:Option Addr) (kV doc pm:Value) (an:Option Addr) (cdv ct:Value) (osl:Array (Option Value)),
  fd=W.fnOf x qual (zDL st) (zCY st) (zAN st) .none kV doc pm an cdv ct/\K.lookup f=some ⟨oc,od,.func fd,osl⟩/\W.codeIn K cdv qual=true
 kp:W.keepIn K (.ref f)=true
section
variable {P:Program}{w:World}{K:W.Frag}{mg:Str->Option Value}{base:Heap}
theorem Fun.ok {x qual:Str}{st:Stmt}{f:Addr}{fd:FuncData}{N ps:List Str}{k:Nat}{sp:Sp}(F:Fun K x qual st f fd) (S:zAV N ps (zAN st)) (len:∀vs H Q E,sp vs H Q E->vs.length=ps.length)
  (hbody:∀(cdv:Value) (A:Around) (outer:List Env) (s:Shared) (H:Hp) (vs:List V) (Q:VK) (E:XK),Room k (A.deeper (envOfC qual (zAN st) s.heap.objs.size f cdv))->sp vs H Q E ->
   ∃t,PSs (cxOf CX0 P w K mg base N qual (zAN st) f cdv A outer s H E).nox (zCY st) t/\t { nx:=λ Ω H'=>Q .non H',rt:=Q } (start N vs) H):FnOk P w K mg base CX0 (k+1) f fd ps sp:=by
 obtain⟨oc,od,kV,doc,pm,an,cdv,ct,osl,rfl,lk,hcd⟩:=F.ex;refine fn_of lk hcd S len λ A outer s H vs Q E hr hsp=>?_;obtain⟨t,h,q⟩:=hbody cdv A outer s H vs Q E hr hsp;exact⟨t,h.nox,q⟩
theorem Fun.binds {x qual:Str}{st:Stmt}{f:Addr}{fd:FuncData}{ps:List Str}(F:Fun K x qual st f fd)
  (h:∀(kV doc pm:Value) (an:Option Addr) (cdv ct:Value) (us:List Value),us.length=ps.length->bindArgs (W.fnOf x qual (zDL st) (zCY st) (zAN st) .none kV doc pm an cdv ct) ⟨us,[]⟩=pure (ps.zip us)):Binds K fd ps []:=by
 obtain⟨oc,od,kV,doc,pm,an,cdv,ct,osl,rfl,lk,hcd⟩:=F.ex;exact .all (h kV doc pm an cdv ct)
theorem zMU {x qual:Str}{st:Stmt}{f:Addr}{oc:Value}{od an:Option Addr}{osl:Array (Option Value)}{kV doc pm cdv ct:Value}(l:K.lookup f=some ⟨oc,od,.func (W.fnOf x qual (zDL st) (zCY st) (zAN st) .none kV doc pm an cdv ct),osl⟩)
  (c:W.codeIn K cdv qual=true) (k:W.keepIn K (.ref f)=true):Fun K x qual st f (W.fnOf x qual (zDL st) (zCY st) (zAN st) .none kV doc pm an cdv ct):=⟨⟨oc,od,kV,doc,pm,an,cdv,ct,osl,rfl,l,c⟩,k⟩
end
theorem hu_of {A:Around}{k:Nat}(hr:Room k A):A.units+1<cLine:=Nat.lt_of_le_of_lt (Nat.add_le_add_left (by decide:1<=64) _) hr.units
theorem zAM {n:Nat}(h:n<=1000):n<sizeLine:=Nat.lt_of_le_of_lt h (by decide)
section
variable {X:Cx}
theorem pv (i:Nat) {x:Str}{pos:Pos}(hN:X.N[i]?=some x:=by rfl) (hv:Vis X.env.scope x:=by first|exact Or.inl rfl|exact Or.inr (Or.inl rfl)|exact Or.inr (Or.inr rfl)) (hd:(x == ("__debug__" : Str))=false:=by decide)
  (hcd:(x == ("__classdict__" : Str))=false:=by decide):PE X (.Name x pos) (tVar i):=zNo hN hv hd hcd
end
theorem iteF {A B:Prop}(h:B):if false=true then A else B:=by
 rw[if_neg Bool.false_ne_true];exact h
theorem iteT {A B:Prop}(h:A):if true=true then A else B:=by
 rw[if_pos rfl];exact h
theorem ite2 {c A B:Prop} [Decidable c] (h1:c->A) (h2:¬c->B):if c then A else B:=by
 by_cases h:c
 ·rw[if_pos h]
  exact h1 h
 ·rw[if_neg h]
  exact h2 h
def Same (H H':Hp):Prop:=∀b o,H b=some o->H' b=some o
theorem Same.refl (H:Hp):Same H H:=λ Ω Ω h=>h
theorem Same.trans {H H1 H2:Hp}(a:Same H H1) (b:Same H1 H2):Same H H2:=λ c o h=>b c o (a c o h)
theorem Same.free {H H':Hp}(e:Same H H') {l:Addr}(h:H' l=Option.none):H l=Option.none:=by
 cases q:H l with
 |none=>rfl
 |some o =>
  rw[e l o q] at h;cases h
theorem Same.seq {K:W.Frag}{H H':Hp}{a:Addr}{xs:List V}(e:Same H H') (h:SqL K H a xs):SqL K H' a xs:=by
 rcases h with (h|⟨o,h⟩)|h
 ·exact .inl (.inl (e _ _ h))
 ·exact .inl (.inr ⟨o,e _ _ h⟩)
 ·exact .inr h
abbrev NoX:Value->Shared->Prop:=λ Ω Ω=>False
theorem noX {al:Type}{t:Sem al}{Q:al->Shared->Prop}{M:Model}{A:Around}{E:XQ}{s:Shared}(h:wpAny M A t Q NoX s):wpAny M A t Q E s :=
 wpAny_mono h (λ Ω Ω q=>q) λ Ω Ω z=>z.elim
noncomputable def capSt (cap:List (Option Nat)) (σ:St):St:=cap.map λ o=>match o with
 |none=>none
 |some j=>(σ[j]?).join
inductive Ext:St->St->Prop
 |nil:Ext [] []
 |skip {a b:St}{x:Option V}:Ext a b->Ext (none::a) (x::b)
 |keep {a b:St}{x:Option V}:Ext a b->Ext (x::a) (x::b)
theorem Ext.len {a b:St}(h:Ext a b):a.length=b.length:=by
 induction h with
 |nil=>rfl
 |skip _ ih=>simp[ih]
 |keep _ ih=>simp[ih]
theorem Ext.get {a b:St}(h:Ext a b):∀(i:Nat) v,a[i]?=some (some v)->b[i]?=some (some v):=by
 induction h with
 |nil=>intro i v e;simp at e
 |skip _ ih =>
  intro i v e;cases i with
  |zero=>simp at e
  |succ i=>simpa using ih i v (by simpa using e)
 |keep _ ih =>
  intro i v e;cases i with
  |zero=>simpa using e
  |succ i=>simpa using ih i v (by simpa using e)
noncomputable def Cx.block (X:Cx) (sc:Scope) (cl:List (Str × Addr)) (N:List Str) (s:Shared) (H:Hp) (C:Addr) (ex:List Addr):Cx where
 prog:=X.prog
 w:=X.w
 K:=X.K
 mg:=X.mg
 base:=X.base
 A:=X.A
 N:=N
 s₀:=s
 H₀:=H
 env:=compEnvC sc cl C X.env
 outer:=X.stack
 stack:=X.stack
 ex:=ex
 fn:=λ Ω=>false
 calm:=X.calm
 pn:=[]
 xe:=NoX
theorem zD5 {env:Env}:∀(names:List (Str × NameKind)) (cs:List (Str × Addr)),(∀n,(n,NameKind.free)∈names->∃c,env.cells.lookup n=some c) ->
  (∀x c,cs.lookup x=some c->env.cells.lookup x=some c) ->
  ∃cl:List (Str × Addr),(forIn names cs λ(x:Str × NameKind) (r:List (Str × Addr))=>(if (x.2 == NameKind.free)=true then do let c ← cellOf env x.1;pure (ForInStep.yield ((x.1,c)::r)) else pure (ForInStep.yield r)):Sem (List (Str × Addr)))=pure cl /\
   (∀x c,cl.lookup x=some c->env.cells.lookup x=some c)/\(∀n,(n,NameKind.free)∈names->∃c,cl.lookup n=some c)/\(∀n c,cs.lookup n=some c->∃c,cl.lookup n=some c)
 |[],cs,_,hc=>⟨cs,rfl,hc,λ Ω h=>(nomatch h),λ n c e=>⟨c,e⟩⟩
 | (n,k)::r,cs,h,hc=>by
  by_cases hk:k = .free
  ·subst hk
   obtain⟨c,ec⟩:=h n lO
   have hc':∀x c',((n,c)::cs).lookup x=some c'->env.cells.lookup x=some c':=λ x c' e=>by
    rw[List.lookup_cons] at e;cases hx:x == n with
    |true=>rw[hx] at e;cases e;rw[eq_of_beq hx];exact ec
    |false=>rw[hx] at e;exact hc x c' e
   obtain⟨cl,e1,e2,e3,e4⟩:=zD5 r ((n,c)::cs) (λ m hm=>h m (lP _ hm)) hc';refine⟨cl,?_,e2,λ m hm=>?_,λ m c' e=>?_⟩
   ·rw[List.forIn_cons,←e1]
    simp only[beq_self_eq_true,if_true,cellOf,ec];rfl
   ·rcases lN.mp hm with z|z
    ·cases z
     exact e4 n c (by simp)
    ·exact e3 m z
   ·by_cases hm:m=n
    ·subst hm;exact e4 m c (by simp)
    ·exact e4 m c' (by rw[List.lookup_cons,beq_eq_false_iff_ne.mpr hm];exact e)
  ·have hb:(k == NameKind.free)=false:=by simpa using hk
   obtain⟨cl,e1,e2,e3,e4⟩:=zD5 r cs (λ m hm=>h m (lP _ hm)) hc;refine⟨cl,?_,e2,λ m hm=>?_,e4⟩
   ·rw[List.forIn_cons,←e1]
    simp only[hb,Bool.false_eq_true,if_false];rfl
   ·rcases lN.mp hm with z|z
    ·cases z;exact absurd rfl hk
    ·exact e3 m z
theorem zFW {sc:Scope}{env:Env}(h:∀n,(n,NameKind.free)∈sc.names->∃c,env.cells.lookup n=some c) :
  ∃cl:List (Str × Addr),closureFor sc env=pure cl/\(∀x c,cl.lookup x=some c->env.cells.lookup x=some c)/\(∀n,(n,NameKind.free)∈sc.names->∃c,cl.lookup n=some c):=by
 obtain⟨cl,e1,e2,e3,_⟩:=zD5 (env:=env) sc.names [] h (λ x c e=>by simp at e);refine⟨cl,?_,e2,e3⟩;unfold closureFor;rw[←bind_pure (pure cl),←e1]
theorem zD1 {names:List (Str × NameKind)}{x:Str}{k:NameKind}(h:names.lookup x=some k):(x,k)∈names:=by
 induction names with
 |nil=>simp at h
 |cons p r ih =>
  obtain⟨n,j⟩:=p;rw[List.lookup_cons] at h;cases hx:x == n with
  |true=>rw[hx] at h;cases h;rw[eq_of_beq hx];exact lO
  |false=>rw[hx] at h;exact lP _ (ih h)
set_option tactic.hygienic true in
theorem zD9 {sc:Scope}{env:Env}{x:Str}{k:NameKind}(hk:k = .cell\/k = .free) (nc:∀y∈sc.names,y.2 ≠ .cell) (h:(relabel sc env).names.lookup x=some k):(x,NameKind.free)∈sc.names:=by
 have m:=zD1 h;obtain⟨⟨n,j⟩,hm,e⟩:=mD.mp m;have q:(if (j == NameKind.free && env.scope.kind == .function && env.kindOf n == some .cell)=true then (n,NameKind.cell) else (n,j))=(x,k):=e;split at q
 ·rename_i c
  rw[Bool.and_eq_true,Bool.and_eq_true] at c;have j':j = .free:=by simpa using c.1.1
  cases q;rw[j'] at hm;exact hm
 ·cases q
  rcases hk with z|z
  ·exact absurd z (nc _ hm)
  ·rw[z] at hm;exact hm
theorem zBL {sc:Scope}{env:Env}{x:Str}:∀{names:List (Str × NameKind)},names.lookup x=some .free ->
  (names.map λ(n,k)=>if (k == NameKind.free && env.scope.kind == .function && env.kindOf n == some .cell) then (n,NameKind.cell) else (n,k)).lookup x=some .cell \/
  (names.map λ(n,k)=>if (k == NameKind.free && env.scope.kind == .function && env.kindOf n == some .cell) then (n,NameKind.cell) else (n,k)).lookup x=some .free
 |[],h=>by simp at h
 | (n,k)::r,h=>by
  have ih:=@zBL sc env x r;rw[List.lookup_cons] at h
  by_cases c:(k == NameKind.free && env.scope.kind == .function && env.kindOf n == some .cell)=true
  ·rw[mL]
   simp only[c,if_true,List.lookup_cons];cases hx:x == n with
   |true=>exact .inl rfl
   |false=>rw[hx] at h;exact ih h
  ·rw[mL]
   have c':=Bool.eq_false_iff.mpr c;simp only[c',Bool.false_eq_true,if_false,List.lookup_cons];cases hx:x == n with
   |true=>rw[hx] at h;cases h;exact .inr rfl
   |false=>rw[hx] at h;exact ih h
theorem zGo {P:Program}{w:World}{A:Around}{R:Result->Shared->Prop}{s:Shared}{elt tg iter:Expr}{ifs:List Expr}{sc:Scope}{pos:Pos}{it acc:Value}{env:Env}(J:Nat->Shared->Prop)
  (turn:∀n s,J n s->wpAny (model P w) A (pyNext it) (λ r s1=>match r with
   |none=>R (.ok .next) s1
   |some v=>wpAny (model P w) A (letOwnedTupleGo tg it v) (λ Ω s2=>wpAny (model P w) A (assign tg env v) (λ Ω s3 =>
     wpAny (model P w) A (forIn ifs true λ c r=>if r=true then do let ok ← isTrue c env (eval c env);pure (ForInStep.yield ok) else pure (ForInStep.yield r)) (λ ok s4 =>
      if ok=true then wpAny (model P w) A (eval elt env) (λ x s5=>wpAny (model P w) A (call (.builtin "list.append") [acc,x]) (λ Ω s6=>∃m,m<n/\J m s6) NoX s5) NoX s4
      else ∃m,m<n/\J m s4) NoX s3) NoX s2) NoX s1) NoX s) (n:Nat) (h:J n s) :
  codeAny (model P w) A (.compLoop (.ListComp elt [⟨tg,iter,ifs,0⟩] sc pos) 0 it acc env) R s:=by
 refine codeAny_loop rfl J (λ n s hJ=>?_) n h;refine wpAny_noted ?_;rw[compTurn_list];refine lA (wpAny_standAt (lA (noX (thn (turn n s hJ) λ r s1 h1=>?_))));cases r with
 |none=>exact lB h1
 |some v =>
  refine lA (noX (thn h1 λ Ω s2 h2=>?_));refine lA (noX (thn h2 λ Ω s3 h3=>?_));refine lA (noX (thn h3 λ ok s4 h4=>?_));cases ok with
  |false=>exact lB ⟨rfl,h4⟩
  |true=>exact lA (lA (noX (thn h4 λ x s5 h5=>lA (noX (thn h5 λ Ω s6 h6=>lB (lB ⟨rfl,h6⟩))))))
def PTs (X:Cx) (ifs:List Expr) (t:TT):Prop :=
 ∀(jP:List (Addr × Obj)) (s:Shared) (σ:St) (H:Hp) (Q:Bool->Hp->Prop),Inv X jP σ H s->t σ H Q ->
  wpAny (model X.prog X.w) X.A (forIn ifs true λ c r=>if r=true then do let ok ← isTrue c X.env (eval c X.env);pure (ForInStep.yield ok) else pure (ForInStep.yield r)) (TP X jP σ Q) X.xe s
def tYes:TT:=λ Ω H Q=>Q true H
theorem zCi {X:Cx}:PTs X [] tYes:=λ Ω Ω Ω H Ω I h=>wpAny_tests_nil ⟨H,I,h⟩
theorem zEV {X:Cx}{c:Expr}{t:TT}(h:PT X c t):PTs X [c] t:=λ jP s σ H Q I hq=>wpAny_tests_one (h jP s σ H Q I hq)
def tComp (cap:List (Option Nat)) (wi:TI) (g:TG) (tt:TT) (te:TE):TE:=λ σ H Q=>wi σ H λ J H1=>∀acc,H1 acc=none ->
 ∃W:Nat->Nat->Hp->Prop,(∃m,W 0 m (upd H1 acc (.lst [])))/\∀i m H2,W i m H2 ->
  (J.stop i H2/\Q (.ref acc) H2)\/(J.go i H2/\∃N:Hp->Prop,(∀H',N H'->∃m',m'<m/\W (i+1) m' H')/\∀x H3,J.yld i H2 x H3->g x (capSt cap σ) H3 λ σ2 H4=>Ext (capSt cap σ) σ2/\tt σ2 H4 λ b H5 =>
   if b=true then te σ2 H5 λ y H6=>∃zs,H6 acc=some (.lst zs)/\zs.length<sizeLine/\N (upd H6 acc (.lst (zs++[y])))
   else N H5)
theorem HOk.but {P:Program}{w:World}{H:Hp}{h h':Heap}{C:Addr}(x:HOk P w H h) (n:H C=none) (sb:Heap.SameBut C h h'):HOk P w H h':=λ a o e =>
 (x a o e).stay (λ b u hb q=>(sb.2 b (λ z=>by
  subst z;rcases hb with z|z
  ·subst z;rw[n] at e;cases e
  ·rw[n] at z;cases z)).trans q) (λ Ω q=>q) λ Ω Ω q=>q
theorem Un.but {fs ex:List Addr}{H H':Hp}{h h1 h2:Heap}{C:Addr}(u:Un fs ex H H' h h1) (lt:h.objs.size<=C) (sb:Heap.SameBut C h1 h2):Un fs ex H H' h h2:=by
 have ne:∀b o,h.get? b=some o->b≠C:=λ b o e=>lR (mB (lH e) lt);refine⟨λ b o e n hb hx=>(sb.2 b (ne b o e)).trans (u.keep b o e n hb hx),λ b o e n hb hx=>?_,u.free,λ b o e hx=>?_,u.tups,u.frzs,u.tbls⟩
 ·obtain⟨sl,q⟩:=u.slot b o e n hb hx
  exact⟨sl,(sb.2 b (ne b o e)).trans q⟩
 ·obtain⟨o',q⟩:=u.there b o e hx
  exact⟨o',(sb.2 b (ne b o e)).trans q⟩
section
variable {X:Cx}
theorem zIc {jP:List (Addr × Obj)}{σ:St}{H:Hp}{s:Shared}{sc:Scope}{cl:List (Str × Addr)}{N:List Str}{C:Addr}{fp:List Addr}(I:Inv X jP σ H s) (hk:sc.kind = .function) (nc:∀y∈sc.names,y.2 ≠ .cell)
  (hC:s.heap.objs.size<=C) (hf:∀b∈fp,FpOk X jP H b) (hfo:∀b∈fp,∃o,s.heap.get? b=some o) (c1:∀x c,cl.lookup x=some c->X.env.cells.lookup x=some c) (c2:∀n,(n,NameKind.free)∈sc.names->∃c,cl.lookup n=some c) :
  (X.block sc cl N s H C fp).Ok where
 mod:=I.ok.mod
 kind:=hk
 glob:=I.ok.glob
 blt:=I.ok.blt
 above:=hC
 inj:=λ x y c e e'=>I.ok.inj x y c (c1 x c e) (c1 y c e')
 has:=λ x h=>c2 x (h.elim (zD9 (.inl rfl) nc) (zD9 (.inr rfl) nc))
 cab:=λ x c e=>(nomatch e)
 hd:=I.ok.hd
 frames:=I.ok.frames
 stk:=.inl rfl
 exf:=λ b hb=>⟨λ z=>by
  obtain⟨o,e⟩:=hfo b hb;have lt:=lH e;rw[z] at lt;exact absurd (mB lt hC) (Nat.lt_irrefl _),λ x c e=>(hf b hb).2.2.2.2.1 x c (c1 x c e)⟩
 bs:=I.bs
 bsz:=mH I.ok.bsz I.sz
 noex:=λ b o e hb=>by
  rcases (hf b hb).2.2.2.1 with z|z
  ·exact I.ok.noex b o e z
  ·exact absurd (mB (lH (I.ok.bs b o e).1) z) (Nat.lt_irrefl _)
 exfs:=λ b hb hs=>by
  rcases lN.mp (I.stkSub b hs) with z|z
  ·exact(hf b hb).2.1 z
  ·exact(hf b hb).2.2.1 z
 funs:=I.stack
 frf:=I.stkFree
theorem zMp {elt tg iter:Expr}{ifs:List Expr}{sc:Scope}{pos:Pos}{wi:TI}{g:TG}{tt:TT}{te:TE}(N:List Str) (cap:List (Option Nat)) (hc:X.calm=true) (hi:PI X tg iter wi)
  (hg:∀cl s H C ex,PG (X.block sc cl N s H C ex) tg g) (ht:∀cl s H C ex,PTs (X.block sc cl N s H C ex) ifs tt) (he:∀cl s H C ex,PE (X.block sc cl N s H C ex) elt te)
  (hk:sc.kind = .function) (nc:∀y∈sc.names,y.2 ≠ .cell) (hnames:∀y∈sc.names,y.2 = .local->sc.names.lookup y.1=some .local)
  (hfree:∀n,(n,NameKind.free)∈sc.names->X.env.kindOf n=some .cell)
  (hcap:∀(i j:Nat),cap[i]?=some (some j)->∃x,N[i]?=some x/\X.N[j]?=some x/\sc.names.lookup x=some .free) (hlen:cap.length=N.length)
  (hs:∀x,foldedSetIterable iter X.env x=pure x:=by intro _;rfl):PE X (.ListComp elt [⟨tg,iter,ifs,0⟩] sc pos) (tComp cap wi g tt te):=by
 intro jP s σ H Q I h;obtain⟨cl,hclos,c1,c2⟩:=zFW (sc:=sc) (env:=X.env) λ n hn=>I.ok.has n (.inl (hfree n hn));rw[eval_ListComp];refine wpAny_comprehension_free (use:=none) rfl hs hclos hk hnames ?_;refine thn (hi jP s σ H _ I h) λ v s1 h1=>thn h1 λ itv s2 h2=>?_;obtain⟨it,fp,tn,J,H2,e,I2,T,st2,f2,q2⟩:=h2;subst e;have hfr:H2 s2.heap.objs.size=none:=I2.fresh;obtain⟨W,⟨m0,w0⟩,turn⟩:=q2 s2.heap.objs.size hfr;have I3:=I2.lnew (ys:=[]) (its:=[]) (t':=s2.toks) .nil (lZ _);have hacc:H2 s2.heap.objs.size=none:=hfr;refine wpAny_newObj_type (wpAny_newFunctionEnv nc (by intro y hy;simp at hy) (λ h4 hns hsb=>?_) hk);generalize hs3:({ s2 with heap:=s2.heap.push { cls:=.type "list", data:=.seq ([]:List Value).toArray } }:Shared)=s3 at hns hsb I3 ⊢;have hheap:s3.heap=s2.heap.push { cls:=.type "list", data:=.seq ([]:List Value).toArray }:=by rw[←hs3]
 generalize hH3:upd H2 s2.heap.objs.size (.lst [])=H3 at I3 w0;have up2:∀b o,s2.heap.get? b=some o->s3.heap.get? b=some o:=λ b o q=>by rw[hheap];exact lE _ q
 have neA:∀b∈fp,b≠s2.heap.objs.size:=λ b hb=>by
  obtain⟨o,q,_⟩:=T.obj _ _ st2 b hb;exact lR (lH q)
 have f3:∀b∈fp,FpOk X jP H3 b:=λ b hb=>⟨by rw[←hH3,zAK (neA b hb)];exact(f2 b hb).1,(f2 b hb).2⟩
 have o3:∀b∈fp,∃o,s3.heap.get? b=some o:=λ b hb=>by
  obtain⟨o,q,_⟩:=T.obj _ _ st2 b hb;exact⟨o,up2 b o q⟩
 have ok':=zIc (N:=N) (C:=s3.heap.objs.size) I3 hk nc (lQ _) f3 o3 c1 c2;generalize hC:s3.heap.objs.size=C at hns hsb ok' ⊢;have ltC:∀b o,s3.heap.get? b=some o->b≠C:=λ b o q=>by rw[←hC];exact lR (lH q)
 have up4:∀b o,s3.heap.get? b=some o->h4.get? b=some o:=λ b o q=>hsb.extBut b o (ltC b o q) (lE _ q);have st4:tn 0 h4:=T.keep _ _ _ st2 λ b hb o q=>up4 b o (up2 b o q)
 have I4:Inv (X.block sc cl N s3 H3 C fp) [] (capSt cap σ) H3 { s3 with heap:=h4,toks:=s3.toks+([]:List (Str × Value)).length }:=by
  refine⟨ok',rfl,I3.bare,Un.kept up4,⟨_,hns,λ i x v e1 e2 e3=>?_⟩,λ x c q=>?_,?_,λ x c q=>I3.freeC x c (c1 x c q),λ p hp=>(nomatch hp),I3.hok.kept up4,?_⟩
  ·have ee:∃j,cap[i]?=some (some j)/\σ[j]?=some (some v):=by
    unfold capSt at e2;rw[mI] at e2;cases q:cap[i]? with
    |none=>rw[q] at e2;cases e2
    |some o =>
     rw[q] at e2;cases o with
     |none=>cases e2
     |some j =>
      refine⟨j,rfl,?_⟩;have e2':some ((σ[j]?).join)=some (some v):=e2;cases z:σ[j]? with
      |none=>rw[z] at e2';cases e2'
      |some o' =>
       rw[z] at e2';have e2'':o'=some v:=mF e2';rw[e2'']
   obtain⟨j,ej,es⟩:=ee;obtain⟨x',n1,n2,n3⟩:=hcap i j ej;have e1':N[i]?=some x:=e1;rw[n1] at e1';cases e1';have hfr':(x,NameKind.free)∈sc.names:=zD1 n3;have kc:=hfree x hfr';obtain⟨m,_,hl⟩:=I3.loc;obtain⟨u,r,l⟩:=hl j x v n2 es (.inr (.inl kc));refine⟨u,r,?_⟩;rcases l with ⟨l,_⟩|⟨_,c,ec,z⟩
   ·rw[kc] at l;cases l
   ·obtain⟨c',ec'⟩:=c2 x hfr'
    have:=c1 x c' ec';rw[ec] at this;cases this;obtain⟨oc,q1,q2⟩:=z;exact .inr ⟨zBL (sc:=sc) n3,c,ec',oc,up4 _ _ q1,q2⟩
  ·obtain⟨v,oc,q1,q2⟩:=I3.cell x c (c1 x c q)
   exact⟨v,oc,up4 _ _ q1,q2⟩
  ·exact I3.hok.fresh (by rw[hC];exact lQ _)
  ·show (capSt cap σ).length=N.length
   unfold capSt;rw[lC,hlen]
 have loop:codeAny (model X.prog X.w) X.A (.compLoop (.ListComp elt [⟨tg,iter,ifs,0⟩] sc pos) 0 (.ref it) (.ref s2.heap.objs.size) (compEnvC sc cl C X.env)) (compPost (model X.prog X.w) X.A X.xe none (EP X jP σ Q) (.ref s2.heap.objs.size) C)
   { s3 with heap:=h4,toks:=s3.toks+([]:List (Str × Value)).length }:=by
  have stat:∀{H':Hp},(∀b∈fp,H' b=none)->∀b∈fp,FpOk (X.block sc cl N s3 H3 C fp) [] H' b:=λ hn b hb =>
   ⟨hn b hb,(ok'.exf b hb).1,ok'.exfs b hb,.inl hb,(ok'.exf b hb).2,λ p hp=>(nomatch hp)⟩
  refine zGo (λ n s'=>∃i H',Inv (X.block sc cl N s3 H3 C fp) [] (capSt cap σ) H' s'/\tn i s'.heap/\(∀b∈fp,H' b=none)/\W i n H') ?_ m0 ⟨0,H3,I4,st4,λ b hb=>(f3 b hb).1,w0⟩;rintro n s5 ⟨i,H5,I5,st5,fr5,w5⟩;rcases turn i n H5 w5 with ⟨stop,qn⟩|⟨go,N',hN',step⟩
  ·refine thn (T.done (X.block sc cl N s3 H3 C fp) rfl rfl rfl hc i [] s5 _ H5 NoX I5 (stat fr5) st5 stop) λ r s6 ⟨hr,I6⟩=>?_
   subst hr;obtain⟨m,hm,_⟩:=I6.loc;refine⟨m,hm,λ h' sb=>⟨.ref s2.heap.objs.size,H5,?_,rfl,qn⟩⟩;refine I3.call' (s':={ s6 with heap:=h' }) (ch:=fp) I6.os (I6.base.but (by rw[←hC];exact lQ _) sb) (I6.hok.but I6.free sb) I6.bare λ b hb=>?_;obtain⟨g0,g1,g2,g3,g4,g5⟩:=f3 b hb;exact⟨g3,g1,g4,g5⟩
  ·refine thn (T.item (X.block sc cl N s3 H3 C fp) rfl rfl rfl hc i [] s5 _ H5 NoX I5 (stat fr5) st5 go) λ r s6 ⟨u,hr,h6⟩=>?_
   subst hr;refine thn h6 λ _ s7 ⟨x,H7,I7,r7,y7,st7,fr7⟩=>?_;have I7':=I7.pinned (stat fr7) (T.obj _ _ st7)
   have again:∀{σ8:St}{H8:Hp}{s8:Shared},Inv (X.block sc cl N s3 H3 C fp) ([]++zFK fp s7.heap) σ8 H8 s8->Ext (capSt cap σ) σ8->N' H8 ->
     ∃m,m<n/\∃i H',Inv (X.block sc cl N s3 H3 C fp) [] (capSt cap σ) H' s8/\tn i s8.heap/\(∀b∈fp,H' b=none)/\W i m H':=λ{σ8 H8 s8} I8 ex n8=>by
    obtain⟨m',hm,w8⟩:=hN' H8 n8;have I8':=I8.unpinned.weak ex.len ex.get;refine⟨m',hm,i+1,H8,I8',T.keep _ _ _ st7 λ b hb o q=>(I8.pin (b,o) (mC _ (mC _ (zBo hb q)))).1,λ b hb=>?_,w8⟩;obtain⟨o,q,d⟩:=T.obj _ _ st7 b hb;exact(I8.pin (b,o) (mC _ (mC _ (zBo hb q)))).2.1
   refine thn (hg cl s3 H3 C fp _ s7 _ H7 x u _ I7' r7 (step x H7 y7)) λ _ s8 ⟨σ8,H8,I8,ex8,q8⟩=>?_;refine thn (ht cl s3 H3 C fp _ s8 σ8 H8 _ I8 q8) λ b s9 ⟨H9,I9,q9⟩=>?_;cases b with
   |false=>exact again I9 ex8 q9
   |true =>
    rw[if_pos rfl] at q9 ⊢;refine thn (he cl s3 H3 C fp _ s9 σ8 H9 _ I9 q9) λ yv s10 ⟨y,H10,I10,r10,zs,e10,l10,q10⟩=>?_;refine thn (zEd (X:=X.block sc cl N s3 H3 C fp) _ s10 σ8 H10 (.ref s2.heap.objs.size) [y] (.ref s2.heap.objs.size) [yv] (λ Ω H'=>N' H') I10 rfl (.cons r10 .nil) ⟨_,zs,y,rfl,rfl,e10,l10,q10⟩) λ _ s11 ⟨_,H11,I11,_,q11⟩=>?_;exact again I11 ex8 q11
 exact codeAny_compStart_list loop (T.self X.A 0 _ _ _ st4 loop)
end
theorem zL5 {K:W.Frag}{a acc:Addr}{xs:List V}{g:TG}{tt:TT}{te:TE}{σ:St}{H:Hp}{Q:VK}(Pv:Nat->Hp->Prop) (h0:Pv 0 (upd H acc (.lst []))) (hl:∀i H,i<=xs.length->Pv i H->SqT K H a xs)
  (hs:∀i x H,xs[i]?=some x->Pv i H->g x σ H λ σ2 H4=>Ext σ σ2/\tt σ2 H4 λ b H5 =>
   if b=true then te σ2 H5 λ y H6=>∃zs,H6 acc=some (.lst zs)/\zs.length<sizeLine/\Pv (i+1) (upd H6 acc (.lst (zs++[y]))) else Pv (i+1) H5) (hd:∀H,Pv xs.length H->Q (.ref acc) H) :
  ∃W:Nat->Nat->Hp->Prop,(∃m,W 0 m (upd H acc (.lst [])))/\∀i m H2,W i m H2 ->
   ((Itt K a).stop i H2/\Q (.ref acc) H2)\/((Itt K a).go i H2/\∃N:Hp->Prop,(∀H',N H'->∃m',m'<m/\W (i+1) m' H')/\∀x H3,(Itt K a).yld i H2 x H3->g x σ H3 λ σ2 H4=>Ext σ σ2/\tt σ2 H4 λ b H5 =>
    if b=true then te σ2 H5 λ y H6=>∃zs,H6 acc=some (.lst zs)/\zs.length<sizeLine/\N (upd H6 acc (.lst (zs++[y])))
    else N H5):=by
 refine⟨λ i m H=>m=xs.length - i/\i<=xs.length/\Pv i H,⟨xs.length,by simp,lZ _,h0⟩,?_⟩;rintro i m H2 ⟨rfl,hi,p⟩;have q:=hl i H2 hi p
 by_cases hlt:i<xs.length
 ·refine .inr ⟨⟨xs,xs[i],q,by simp[hlt]⟩,Pv (i+1),λ H' p'=>⟨xs.length - (i+1),by omega,rfl,hlt,p'⟩,λ x H' y=>?_⟩
  obtain⟨e,y⟩:=y;subst e;exact hs i x _ (y xs q) p
 ·have e:i=xs.length:=by omega
  subst e;exact .inl ⟨⟨xs,q,lQ _⟩,hd H2 p⟩
noncomputable def zIa (sc:Scope) (env:Env) (XN N:List Str) (cap:List (Option Nat)):Bool :=
 (sc.kind == .function) && (sc.names.all λ y=>y.2 != .cell) && (sc.names.all λ y=>y.2 != .local || sc.names.lookup y.1 == some .local) &&
 (sc.names.all λ y=>y.2 != .free || env.kindOf y.1 == some .cell) &&
 ((List.range cap.length).all λ i=>match cap[i]? with
  |some (some j)=>(match N[i]? with|some x=>XN[j]? == some x && sc.names.lookup x == some .free|none=>false)
  |_=>true) && (cap.length == N.length)
theorem zBS {X:Cx}{elt tg iter:Expr}{ifs:List Expr}{sc:Scope}{pos:Pos}{wi:TI}{g:TG}{tt:TT}{te:TE}(N:List Str) (cap:List (Option Nat)) (hc:X.calm=true) (hi:PI X tg iter wi)
  (hg:∀cl s H C ex,PG (X.block sc cl N s H C ex) tg g) (ht:∀cl s H C ex,PTs (X.block sc cl N s H C ex) ifs tt) (he:∀cl s H C ex,PE (X.block sc cl N s H C ex) elt te)
  (ck:zIa sc X.env X.N N cap=true) (hs:∀x,foldedSetIterable iter X.env x=pure x:=by intro _;rfl):PE X (.ListComp elt [⟨tg,iter,ifs,0⟩] sc pos) (tComp cap wi g tt te):=by
 unfold zIa at ck;simp only[Bool.and_eq_true] at ck;obtain⟨⟨⟨⟨⟨k1,k2⟩,k3⟩,k4⟩,k5⟩,k6⟩:=ck;refine zMp N cap hc hi hg ht he (by simpa using k1) (λ y hy=>?_) (λ y hy z=>?_) (λ n hn=>?_) (λ i j e=>?_) (by simpa using k6) hs
 ·have:=List.all_eq_true.mp k2 y hy
  simpa using this
 ·have:=List.all_eq_true.mp k3 y hy
  rw[z] at this;simpa using this
 ·have:=List.all_eq_true.mp k4 _ hn
  simpa using this
 ·have hi:i<cap.length:=(lJ.mp e).1
  have:=List.all_eq_true.mp k5 i (List.mem_range.mpr hi);rw[e] at this;dsimp only at this;cases q:N[i]? with
  |none=>rw[q] at this;cases this
  |some x =>
   rw[q] at this;dsimp only at this;rw[Bool.and_eq_true] at this;exact⟨x,rfl,by simpa using this.1,by simpa using this.2⟩
section
variable {prog:Program}{w:World}{A:Around}{E:XQ}{s:Shared}
theorem zBj {it t:Addr}{i:Nat}{items:Array Value}{x:Value}{Q:XQ}(hit:s.heap.IsTupleIter it t i) (ht:s.heap.IsTuple t items) (hx:items[i]?=some x)
  (hQ:∀h',h'.IsTupleIter it t (i+1)->Heap.SameBut it s.heap h'->Q x { s with heap:=h' }):wpAny (model prog w) A (Builtin.SmallTypes.nextOf (.ref it)) Q E s:=by
 obtain⟨o,ho,hc,hd⟩:=id hit;obtain⟨ol,hol,_,nl,hdl⟩:=ht;unfold Builtin.SmallTypes.nextOf;refine lA (wpAny_callSpecial?_slot (name:=Str.ofString "__next__") hit.typeIs F.slot_tuple_iterator_next (wpAny_call_entry F.slot_tuple_iterator_next hit.typeIs F.entry_tuple_iterator_next ?_ (F.args_tuple_iterator_next_1 _)));show wpAny _ _ (field (.ref it) 0 >>= _) _ _ s;refine lA (wpAny_field ho hd (x:=.ref t) rfl ?_);show wpAny _ _ (if (Value.ref t == Value.none)=true then _ else _) _ _ s;rw[if_neg (show ¬((Value.ref t == Value.none)=true) from Bool.false_ne_true)];show wpAny _ _ (field (.ref it) 1 >>= _) _ _ s;refine lA (wpAny_field ho hd (x:=.int i 0) rfl ?_);show wpAny _ _ (seqItems? (.ref t) >>= _) _ _ s;refine lA (wpAny_seqItems hol hdl ?_);simp only[Int.toNat_natCast,hx];refine lA (wpAny_setField ho hd (by simp) (lB ⟨x,rfl,lB (hQ _ ?_ (Heap.SameBut.update ..))⟩));exact⟨_,mJ _ ho (Obj.isFreed_of_fields (Obj.data_mapFields hd _)),(Obj.cls_mapFields ..).trans hc,by rw[Obj.data_mapFields hd];simp[rawInt]⟩
theorem zB3 {it t:Addr}{i:Nat}{items:Array Value}{Q:XQ}(hh:A.handled=none) (hit:s.heap.IsTupleIter it t i) (ht:s.heap.IsTuple t items) (hx:items[i]?=none)
  (hE:∀h' e,Heap.ExtBut it s.heap h'->(∃o,h'.get? e=some o/\o.cls = .type "StopIteration")->E (.ref e) { s with heap:=h' }):wpAny (model prog w) A (Builtin.SmallTypes.nextOf (.ref it)) Q E s:=by
 obtain⟨o,ho,hc,hd⟩:=id hit;obtain⟨ol,hol,_,nl,hdl⟩:=ht;unfold Builtin.SmallTypes.nextOf;refine lA (wpAny_callSpecial?_slot (name:=Str.ofString "__next__") hit.typeIs F.slot_tuple_iterator_next (wpAny_call_entry F.slot_tuple_iterator_next hit.typeIs F.entry_tuple_iterator_next ?_ (F.args_tuple_iterator_next_1 _)));show wpAny _ _ (field (.ref it) 0 >>= _) _ _ s;refine lA (wpAny_field ho hd (x:=.ref t) rfl ?_);show wpAny _ _ (if (Value.ref t == Value.none)=true then _ else _) _ _ s;rw[if_neg (show ¬((Value.ref t == Value.none)=true) from Bool.false_ne_true)];show wpAny _ _ (field (.ref it) 1 >>= _) _ _ s;refine lA (wpAny_field ho hd (x:=.int i 0) rfl ?_);show wpAny _ _ (seqItems? (.ref t) >>= _) _ _ s;refine lA (wpAny_seqItems hol hdl ?_);simp only[Int.toNat_natCast,hx];refine lA (wpAny_rule (lA (wpAny_setField ho hd (by simp) ?_)));show wpAny _ _ (newExc (.type "StopIteration") [] >>= _) _ _ _;refine lA ?_;simp only[newExc,newTuple];refine lA (wpAny_newObj_type ?_ (by size_fits));refine lA (m:=firstArgMember _ _) (wpAny_of_eq (a:=Value.none) (by first|rfl|(simp only[firstArgMember];rfl)) ?_);refine wpAny_newObj_type ?_ (by size_fits);simp only[raiseNew];refine lA (wpAny_handled ?_);first|rw[show A.in1.handled=none from hh]|rw[hh]
 refine lA (lB (wpAny_throw ?_));exact hE _ _ (((Heap.SameBut.update ..).extBut.push _).push _) ⟨_,lG _ rfl,rfl⟩
theorem zEw {prog:Program}{w:World}{A:Around}(hh:A.handled=none) (it t:Addr) (hne:t≠it) (items:Array Value) :
  Draws prog w A it [it,t] items.size (λ i v=>items[i]?=some v) (λ i h=>h.IsTupleIter it t i/\h.IsTuple t items) where
 live:=λ Ω Ω st=>let ⟨o,ho,_⟩:=st.1;⟨o,ho⟩
 frame:=λ Ω Ω Ω st hk=>⟨let ⟨o,ho,r⟩:=st.1;⟨o,hk it (by simp) o ho,r⟩,let ⟨o,ho,r⟩:=st.2;⟨o,hk t (by simp) o ho,r⟩⟩
 item:=λ i s Q E hi st hQ=>zBj st.1 st.2 (x:=items[i]) (by simp[hi]) λ h' hit' hs'=>hQ _ h' s.toks (by simp[hi]) ⟨hit',let ⟨o,ho,r⟩:=st.2;⟨o,hs'.extBut t o hne ho,r⟩⟩ hs'
 done:=λ s Q E st hE=>zB3 hh st.1 st.2 (by simp) hE
set_option tactic.hygienic true in
theorem zE9 (l:Addr) (items:Array Value) (n:Nat) (dct:Option Addr) (sl:Array (Option Value)) :
  Meets (Builtin.«enumerate.__new__» ⟨[.type "enumerate", .ref l],[]⟩) (λ Ω R s=>s.heap.get? l=some { cls:=.type "tuple", dict:=dct,data:=.seq items n,slots:=sl } /\
   R (.ok (.ret (.ref (s.heap.push { cls:=.type "tuple_iterator", data:=.fields #[.ref l,.int 0 0] }).objs.size)))
    { s with heap:=(s.heap.push { cls:=.type "tuple_iterator", data:=.fields #[.ref l,.int 0 0] }).push { cls:=.type "enumerate", data:=.fields #[.none,.bool false,.ref s.heap.objs.size,rawInt 0,.none,.none] } }) :=
 .of_wp λ prog w A R s h=>by
  obtain⟨hp,g,d,tk,os⟩:=s;obtain⟨hl,h⟩:=h;have hsub:=sub_enumerate;have hL:Heap.IsTuple (Shared.heap ⟨hp,g,d,tk,os⟩) l items:=⟨_,hl,rfl,n,rfl⟩
  wp_walk using AutoSeq1.wpAny_loadPart' hl
  refine wpAny_stack_any λ st=>lB ?_;split
  ·rename_i c _ _ _ _ _;cases (c == Value.type "enumerate")
   ·wp_walk using AutoSeq1.wpAny_loadPart' hl,wpAny_pyIter_tuple hL;exact⟨_,rfl,h⟩
   ·wp_walk using AutoSeq1.wpAny_loadPart' hl,wpAny_pyIter_tuple hL;exact⟨_,rfl,h⟩
  ·wp_walk using AutoSeq1.wpAny_loadPart' hl,wpAny_pyIter_tuple hL;exact⟨_,rfl,h⟩
theorem zGC {l:Addr}{items:Array Value}{Q:XQ}(hL:s.heap.IsTuple l items)
  (h:∀h',IsEnum h' (s.heap.objs.size+1) s.heap.objs.size 0 .none->h'.IsTupleIter s.heap.objs.size l 0->h'.objs.size=s.heap.objs.size+2 ->
   (∀b o,s.heap.get? b=some o->h'.get? b=some o)->Q (.ref (s.heap.objs.size+1)) { s with heap:=h' }):wpAny (model prog w) A (call (.type "enumerate") [.ref l]) Q E s:=by
 obtain⟨⟨c,dct,dt,sl⟩,hl,hc,n,hd⟩:=hL;replace hc:c = .type "tuple" := hc;replace hd:dt = .seq items n:=hd;subst hc hd;refine callType_new F.called_enumerate (by decide) (F.typeCall_enumerate_1 _) (F.newCall_enumerate_1 _) (λ obj=>F.args_object_init_2 obj _) F.entry_enumerate_new (zE9 l items n dct sl) ⟨hl,?_⟩;have hz:(s.heap.push { cls:=.type "tuple_iterator", data:=.fields #[.ref l,.int 0 0] }).objs.size=s.heap.objs.size+1:=Heap.size_push ..;show _/\_;rw[hz]
 have he:IsEnum ((s.heap.push { cls:=.type "tuple_iterator", data:=.fields #[.ref l,.int 0 0] }).push { cls:=.type "enumerate", data:=.fields #[.none,.bool false,.ref s.heap.objs.size,rawInt 0,.none,.none] }) (s.heap.objs.size+1) s.heap.objs.size 0 .none:=by
  have:=lG (s.heap.push { cls:=.type "tuple_iterator", data:=.fields #[.ref l,.int 0 0] }) (o:={ cls:=.type "enumerate", data:=.fields #[.none,.bool false,.ref s.heap.objs.size,rawInt 0,.none,.none] }) rfl;rw[hz] at this;exact this
 exact⟨⟨_,he,rfl⟩,h _ he ⟨_,lE _ (lG _ rfl),rfl,rfl⟩ (by rw[Heap.size_push,hz]) λ b o x=>lE _ (lE _ x)⟩
end
section
variable {X:Cx}{jP:List (Addr × Obj)}{σ:St}{H:Hp}{s:Shared}{h':Heap}
theorem Inv.turnedN {t':Nat}{ch:List Addr}(I:Inv X jP σ H s) (k:∀b o,b∉ch->s.heap.get? b=some o->h'.get? b=some o) (hf:∀b∈ch,FpOk X jP H b):Inv X jP σ H { s with heap:=h',toks:=t' }:=by
 refine I.step (g':=s.gens) (d':=s.drawn) (ch:=ch) (λ b hb=>?_) (λ b o Ω Ω hc e Ω=>k b o hc e) (λ b o Ω Ω hc e Ω=>⟨o.slots,k b o hc e⟩) (λ Ω Ω Ω Ω n=>n)
  (λ b o hc e=>⟨o,k b o hc e⟩) (λ Ω Ω e=>e) (λ Ω Ω Ω e=>e) (λ b ps e=>⟨#[],by rw[e];simp⟩) (λ m hm=>?_) (λ b u e=>?_) I.bare
 ·obtain⟨f0,f1,f2,f3,f4,f5⟩:=hf b hb
  exact⟨f3,f1,f4,f5⟩
 ·obtain⟨o,es,ep,ho,r⟩:=hm
  exact⟨o,es,ep,k _ o (λ z=>(hf _ z).2.1 rfl) ho,r⟩
 ·refine(I.hok b u e).stay (λ c v hc q=>k c v (λ z=>?_) q) (λ Ω q=>q) λ Ω Ω q=>q
  have n:=(hf c z).1;rcases hc with y|y
  ·rw[y,e] at n;cases n
  ·rw[y] at n;cases n
theorem Inv.turnedL {t':Nat}{ch:List Addr}{a:Addr}{o:HO}(I:Inv X jP σ H s) (k:∀b o,b∉ch->s.heap.get? b=some o->h'.get? b=some o) (hf:∀b∈ch,FpOk X jP H b) (hp:s.heap.objs.size<=a)
  (new:ObjOk X.prog X.w (upd H a o) h' a o):Inv X jP σ (upd H a o) { s with heap:=h',toks:=t' }:=by
 have hn:H a=none:=I.hok.fresh hp;have ne:∀b u,s.heap.get? b=some u->b≠a:=λ b u e=>lR (mB (lH e) hp)
 refine I.step (g':=s.gens) (d':=s.drawn) (ch:=ch) (λ b hb=>?_) (λ b o Ω Ω hc e Ω=>k b o hc e) (λ b o Ω Ω hc e Ω=>⟨o.slots,k b o hc e⟩) (λ b u Ω e n=>by rw[zAK (ne b u e)];exact n)
  (λ b o hc e=>⟨o,k b o hc e⟩) (λ b xs q=>by rw[zAK (zAJ q hn)];exact q) (λ b u xs q=>by rw[zAK (zAJ q hn)];exact q) (λ b ps q=>⟨#[],by rw[zAK (zAJ q hn),q];simp⟩) (λ m hm=>?_) (λ b u e=>?_) I.bare
 ·obtain⟨f0,f1,f2,f3,f4,f5⟩:=hf b hb
  exact⟨f3,f1,f4,f5⟩
 ·obtain⟨o,es,ep,ho,r⟩:=hm
  exact⟨o,es,ep,k _ o (λ z=>(hf _ z).2.1 rfl) ho,r⟩
 ·by_cases hb:b=a
  ·subst hb
   rw[zAB] at e;cases e;exact new
  ·rw[zAK hb] at e
   refine(I.hok b u e).stay (λ c v hc q=>k c v (λ z=>?_) q) (λ c q=>by rw[zAK (zAJ q hn)];exact q) λ c xs q=>by rw[zAK (zAJ q hn)];exact q
   have n:=(hf c z).1;rcases hc with y|y
   ·rw[y,e] at n;cases n
   ·rw[y] at n;cases n
end
noncomputable def Ite (K:W.Frag) (a:Addr):It :=
 ⟨λ i H=>∃xs x,SqT K H a xs/\xs[i]?=some x,λ i H x H'=>∃T y,H T=none/\x = .ref T/\H'=upd H T (.tup [.int i,y])/\∀xs,SqT K H a xs->xs[i]?=some y,λ i H=>∃xs,SqT K H a xs/\xs.length<=i⟩
theorem zJM {P:Program}{w:World}{K:W.Frag}{es:List Expr}{k:Nat}{pos:Pos}(a e it:Addr) (hei:e≠it) :
  Turn P w K (.Tuple es k pos) (Ite K a) [e,it] e (λ i h=>(∃old,IsEnum h e it i old)/\h.IsTupleIter it a i) where
 mem:=by simp
 obj:=λ i h st b hb=>by
  obtain⟨⟨old,z⟩,o,e',c,d⟩:=st;rcases lN.mp hb with y|y
  ·subst y;exact⟨_,z,λ v q=>by have q':Data.fields _=Data.cell v:=q;cases q'⟩
  ·cases mR.mp y
   exact⟨o,e',λ v q=>by rw[d] at q;cases q⟩
 keep:=λ i h h' st k=>by
  obtain⟨⟨old,z⟩,o,e',r⟩:=st;exact⟨⟨old,k e (by simp) _ z⟩,o,k it (by simp) o e',r⟩
 item:=by
  intro X hP hw hK hc i jP s σ H E I hf st hg;subst hP hw hK;obtain⟨xs,x,hq,hx⟩:=hg;obtain⟨its,rv,p,hz⟩:=I.tuple hq;obtain⟨u,hu,ru⟩:=rv.get hx;obtain⟨⟨old,he⟩,hit⟩:=st;have p':s.heap.IsTuple a its.toArray:=p
  have hai:a≠it:=λ z=>by
   obtain⟨o1,q1,c1,_⟩:=p';obtain⟨o2,q2,c2,_⟩:=hit;rw[z,q2] at q1;cases q1;rw[c2] at c1;injection c1 with c3;exact absurd c3 (by decide)
  have hae:a≠e:=λ z=>by
   obtain⟨o1,q1,c1,_⟩:=p';rw[z] at q1;have he':s.heap.get? e=some _:=he;rw[he'] at q1;cases q1;injection c1 with c3;exact absurd c3 (by decide)
  have hilt:i<its.toArray.size:=by
   have:=(lJ.mp hu).1;simpa using this
  refine wpAny_pyNext_enum_itemD (zEw (A:=X.A.in1) (I.ok.hd hc) it a hai its.toArray) he ⟨hit,p'⟩ hilt hei (by simp[hei,Ne.symm hae]) λ y h1 tk hy ho hst hT hsz hk=>?_
  have hyu:y=u:=by
   have:(its.toArray)[i]?=some u:=by simpa using hu
   rw[hy] at this;exact mF this
  subst hyu;refine⟨_,rfl,?_⟩;have hn:H s.heap.objs.size=none:=I.fresh
  have I1:Inv X jP σ (upd H s.heap.objs.size (.tup [.int i,x])) { s with heap:=h1,toks:=tk+1 }:=I.turnedL (ch:=[e,it]) (λ b o hb q=>hk b o (λ z=>hb (by simp[z])) (λ z=>hb (by simp[z])) q) hf (lQ _)
   ⟨Nat.le_of_lt (zAM (show 2<=1000 by decide)),[.int i tk,y],.cons ⟨_,rfl⟩ (.cons ru .nil),_,hT,rfl,_,rfl⟩
  have neT:∀b∈[e,it],b≠s.heap.objs.size:=λ b hb=>by
   rcases lN.mp hb with z|z
   ·subst z;exact lR (lH (show s.heap.get? b=some _ from he))
   ·cases mR.mp z
    obtain⟨o2,q2,_⟩:=hit;exact lR (lH q2)
  refine wpAny_letOwnedTupleGo_enum (s:={ s with heap:=h1,toks:=tk+1 }) ho λ h2 he2 hs2=>⟨.ref s.heap.objs.size,_,?_,rfl,⟨_,x,hn,rfl,rfl,λ ys hy'=>by rw[I.tuple_inj hy' hq];exact hx⟩,⟨⟨_,he2⟩,?_⟩,λ b hb=>?_⟩
  ·refine I1.turnedN (t':=tk+1) (ch:=[e]) (λ b o hb q=>(hs2.2 b (λ z=>hb (by simp[z]))).trans q) λ b hb=>?_
   have eb:=mR.mp hb;subst eb;obtain⟨f0,f⟩:=hf b (by simp);exact⟨by rw[zAK (neT b (by simp))];exact f0,f⟩
  ·obtain⟨o2,q2,r2⟩:=hst.1
   exact⟨o2,(hs2.2 it hei.symm).trans q2,r2⟩
  ·rw[zAK (neT b hb)];exact(hf b hb).1
 done:=by
  intro X hP hw hK hc i jP s σ H E I hf st hg;subst hP hw hK;obtain⟨xs,hq,hx⟩:=hg;obtain⟨its,rv,p,hz⟩:=I.tuple hq;obtain⟨⟨old,he⟩,hit⟩:=st;have p':s.heap.IsTuple a its.toArray:=p
  have hai:a≠it:=λ z=>by
   obtain⟨o1,q1,c1,_⟩:=p';obtain⟨o2,q2,c2,_⟩:=hit;rw[z,q2] at q1;cases q1;rw[c2] at c1;injection c1 with c3;exact absurd c3 (by decide)
  have hl:=rv.length;have hT:s.TypeIs (.ref e) "enumerate" := ⟨_,he,rfl⟩;unfold pyNext;refine lA (wpAny_attempt (wpAny_callSpecial?_slot (name:=Str.ofString "__next__") hT F.slot_enumerate_next (wpAny_call_entry F.slot_enumerate_next hT F.entry_enumerate_next ?_ (F.args_enumerate_next_1 _))));show wpAny _ _ (field (.ref e) 2 >>= _) _ _ _;refine lA (wpAny_field he rfl (x:=.ref it) rfl ?_);refine lA (zB3 (I.ok.hd hc) hit p' (by simp;omega) λ h1 x hx1 ⟨o,ho,hc'⟩=>?_);refine lA (wpAny_isInstance (T := "StopIteration") (b:=true) ⟨o,ho,hc'⟩ isSubtype_stop ?_);exact lB ⟨rfl,I.turnedN (t':=s.toks) (ch:=[it]) (λ b o hb q=>hx1 b o (λ z=>hb (by simp[z])) q) λ b hb=>hf b (by simp at hb ⊢;exact .inr hb)⟩
 self:=λ Ω Ω Ω Ω Ω st h=>let ⟨⟨_,he⟩,_⟩:=st;wpAny_pyIter_enum he h
def iEnum (K:W.Frag) (ta:TA):TI:=λ σ H R=>ta σ H λ vs H1=>∃a,vs=[.ref a]/\(∃xs,SqT K H1 a xs)/\R (Ite K a) H1
theorem zJk {X:Cx}{es:List Expr}{k:Nat}{tpos:Pos}{a:Expr}{ta:TA}{p pos:Pos}(hg:Gl X "enumerate") (hm:X.mg "enumerate" = none) (ha:PA X [a] ta) (hs:starEach [a] X.env=[(false,eval a X.env)]:=by rfl) :
  PI X (.Tuple es k tpos) (.Call (.Name "enumerate" p) [a] [] pos) (iEnum X.K ta):=by
 intro jP s σ H R I h;refine Call_ (zCr I hg hm boot_enumerate (PyProof.Rows.callWith_type1 (thn (ha pos jP s σ H _ I h) λ us s1 ⟨vs,H1,I1,r1,q1⟩=>?_) hs rfl));obtain⟨b,e,⟨xs,hq⟩,q⟩:=q1;subst e;obtain⟨u,rfl,ru⟩:=vals1 r1;cases ru;obtain⟨its,rv,tp,hz⟩:=I1.tuple hq;refine zGC (show s1.heap.IsTuple b its.toArray from tp) λ h' he hit hsz hk=>?_;refine wpAny_pyIter_enum he ⟨_,[s1.heap.objs.size+1,s1.heap.objs.size],_,_,H1,rfl,I1.kept (t':=s1.toks) hk,zJM b _ _ (Nat.succ_ne_self _),⟨⟨_,he⟩,hit⟩,λ c hc=>?_,q⟩
 have ge:s1.heap.objs.size<=c:=by
  rcases lN.mp hc with z|z
  ·rw[z];exact Nat.le_succ _
  ·rw[mR.mp z];exact lQ _
 exact I1.fpOk ge (I1.hok.fresh ge)
theorem zIV {K:W.Frag}{a:Addr}{xs:List V}{g:TG}{tb:TS}{D:Ends}{σ:St}{H:Hp}(Pv:Nat->St->Hp->Prop) (h0:Pv 0 σ H) (hl:∀i σ H,i<=xs.length->Pv i σ H->SqT K H a xs)
  (hs:∀i x T σ H,xs[i]?=some x->Pv i σ H->H T=none->g (.ref T) σ (upd H T (.tup [.int i,x])) λ σ2 H2=>tb { D with nx:=Pv (i+1),ct:=Pv (i+1),bk:=D.nx } σ2 H2) (hd:∀σ H,Pv xs.length σ H->D.nx σ H) :
  ∃W:Nat->Nat->St->Hp->Prop,(∃m,W 0 m σ H)/\∀i m σ H,W i m σ H ->
   ((Ite K a).stop i H/\D.nx σ H)\/((Ite K a).go i H/\∃N:St->Hp->Prop,(∀σ' H',N σ' H'->∃m',m'<m/\W (i+1) m' σ' H')/\∀x H',(Ite K a).yld i H x H'->g x σ H' λ σ2 H2=>tb { D with nx:=N,ct:=N,bk:=D.nx } σ2 H2):=by
 refine⟨λ i m σ H=>m=xs.length - i/\i<=xs.length/\Pv i σ H,⟨xs.length,by simp,lZ _,h0⟩,?_⟩;rintro i m σ H ⟨rfl,hi,p⟩;have q:=hl i σ H hi p
 by_cases hlt:i<xs.length
 ·refine .inr ⟨⟨xs,xs[i],q,by simp[hlt]⟩,Pv (i+1),λ σ' H' p'=>⟨xs.length - (i+1),by omega,rfl,hlt,p'⟩,λ x H' y=>?_⟩
  obtain⟨T,z,hT,ex,eH,y⟩:=y;subst ex eH;exact hs i z T σ H (y xs q) p hT
 ·have e:i=xs.length:=by omega
  subst e;exact .inl ⟨⟨xs,q,lQ _⟩,hd σ H p⟩
section
variable {X:Cx}
theorem zAC {H:Hp}{p:Addr}{o:HO}(h:H p=none):Same H (upd H p o):=λ b u q=>by rw[zAK (zAJ q h)];exact q
def rIsi (K:W.Frag):List V->Hp->VK->Prop:=λ xs H Q=>∃x T t b,xs=[x,.ty T]/\TyOf K H x t/\W.kitOne K t (.type T)=some b/\Q (.bl b) H
theorem zL7:CallR X (.builtin "isinstance") (rIsi X.K):=by
 intro jP s σ H xs us Q I r h;obtain⟨x,T,t,b,rfl,ty,e,q⟩:=h;obtain⟨u,w',rfl,ru,rw'⟩:=vals2 r;cases rw';exact zKN I ru ty e λ tk=>⟨.bl b,H,I.tok tk,rfl,q⟩
theorem cI {X:Cx}{e:Expr}{te:TE}{T:Str}{u:String}{p p2 pos:Pos}(hm:X.mg "isinstance"=none)(hT:X.mg T=none)(hv:bootBuiltins T=some (.type u))(ha:PE X e te)(hg:Gl X "isinstance":=by rfl)(hG:Gl X T:=by rfl)(h1:starEach [e,.Name T p2] X.env=(false,eval e X.env)::starEach [.Name T p2] X.env:=by rfl)(h2:starEach [.Name T p2] X.env=(false,eval (.Name T p2) X.env)::starEach [] X.env:=by rfl)(h3:(backTo pos (starEach [.Name T p2] X.env)).any (·.1)=false:=by rfl)(hn:T≠"__name__":=by decide)(hd:(T==("__debug__":Str))=false:=by decide):PE X (.Call (.Name "isinstance" p) [e,.Name T p2] [] pos) (tCB (rIsi X.K) (tCons te (tCons (tC (.ty u)) tNil))):=zBb zL7 hg hm PyProof.Rows.boot_isinstance (zAA ha (zAA (zMq hG hT hv rfl hn hd) zAD h2) h1) (by decide) (by decide) h1 h3
theorem zKY (a b:Str):eqV (.str a) (.str b)=true↔a=b:=by
 constructor
 ·intro h;simpa[eqV] using h
 ·intro h;subst h;simp[eqV]
theorem zKU (xs:List Str):(xs.map V.str).all flatV=true:=by
 rw[List.all_eq_true];intro x hx;obtain⟨y,_,rfl⟩:=mD.mp hx;rfl
def zNi:List V->Hp->VK->Prop:=λ xs H Q=>∃(d:Addr) (kvs:List (Key × V)) (ks:List Str),xs=[.ref d]/\H d=some (.dK kvs)/\kvs.map (·.1)=ks.map Sum.inr/\ks.length<64 /\
 ∀(l:Addr) (ss:List Str),H l=none->ss.Perm ks->ss.Pairwise (λ a b=>ltCps b.cps.toList a.cps.toList=false)->Q (.ref l) (upd H l (.lst (ss.map V.str)))
theorem zJR {P:Program}{w:World}:∀{vs:List (Key × Value)}{ks:List Str}{us:List Value},vs.map (·.1)=ks.map Sum.inr->us.length=vs.length ->
  (∀(j:Nat) (v:Value),us[j]?=some v->∃k x,vs[j]?=some (k,x)/\(zAd P w).is k v=true)->StrsAre us ks
 |[],[],[],_,_,_=>.nil
 | (k,x)::vs,y::ks,u::us,e,hl,h=>by
  have e1:k=Sum.inr y:=(List.cons.inj e).1;have e2:vs.map (·.1)=ks.map Sum.inr:=(List.cons.inj e).2;obtain⟨k',x',q,m⟩:=h 0 u rfl;have q':(k,x)=(k',x'):=mF q;cases q';subst e1;rcases zAr (show keyIs (Sum.inr y) u=true from m) with ⟨i,t,z,_⟩|⟨z,t,z1,z2⟩
  ·cases z
  ·cases z1
   subst z2;exact .cons _ t (zJR e2 (by simpa using hl) λ j v hv=>h (j+1) v (by simpa using hv))
 |[],_::_,_,e,_,_=>nomatch e
 |_::_,[],_,e,_,_=>nomatch e
 |[],[],_::_,_,e,_=>nomatch e
 |_::_,_::_,[],_,e,_=>nomatch e
theorem zGH {us:List Value}{ks:List Str}(h:StrsAre us ks):Vals (ks.map V.str) us:=by
 induction h with
 |nil=>exact .nil
 |cons y t r ih=>exact .cons ⟨t,rfl⟩ ih
theorem zKl {a b c:Str}(h1:ltCps b.cps.toList a.cps.toList=false) (h2:ltCps c.cps.toList b.cps.toList=false):ltCps c.cps.toList a.cps.toList=false:=by
 rw[ltCps_eq,decide_eq_false_iff_not] at *;exact List.le_trans (l₁:=a.cps.toList) (l₂:=b.cps.toList) (l₃:=c.cps.toList) h1 h2
theorem zFI:∀(p:Str) (l:List Str),risingS p l=true->(p::l).Pairwise (λ a b=>ltCps b.cps.toList a.cps.toList=false)
 |p,[],_=>by simp
 |p,x::r,h=>by
  have h':(!ltCps x.cps.toList p.cps.toList && risingS x r)=true:=h;rw[Bool.and_eq_true] at h';have h1:ltCps x.cps.toList p.cps.toList=false:=by simpa using h'.1
  have ih:=zFI x r h'.2;refine List.pairwise_cons.mpr ⟨λ y hy=>?_,ih⟩;rcases lN.mp hy with z|z
  ·subst z;exact h1
  ·exact zKl h1 ((List.pairwise_cons.mp ih).1 y z)
theorem zEZ:∀{l:List Str},sortedS l=true->l.Pairwise (λ a b=>ltCps b.cps.toList a.cps.toList=false)
 |[],_=>.nil
 |x::r,h=>zFI x r h
theorem zNA {kvs:List (Key × V)}{vs:List (Key × Value)}(h:KV kvs vs):kvs.map (·.1)=vs.map (·.1):=by
 unfold KV at h
 induction h with
 |nil=>rfl
 |cons r _ ih=>simp[r.1,ih]
theorem zGr (hc:X.calm=true):CallR X (.builtin "sorted") zNi:=by
 intro jP s σ H xs us Q I r h;obtain⟨d,kvs,ks,rfl,hd,hk,h64,q⟩:=h;obtain⟨u,rfl,ru⟩:=vals1 r;cases ru;obtain⟨hz,hsm,vs,kv,hdo⟩:=(show ObjOk X.prog X.w H s.heap d (.dK kvs) from I.hok d _ hd);obtain⟨ep,hat⟩:=hdo.dictAt;have hks:vs.map (·.1)=ks.map Sum.inr:=by rw[←zNA kv];exact hk
 have hn:vs.length=ks.length:=by have:=congrArg List.length hks;simpa using this
 have line:vs.length<=sizeLine:=Nat.le_of_lt (zAM (by omega));refine Calls.call_function_entry kind_sorted plain_sorted entry_sorted (args_sorted1 _) ?_;unfold Builtin.«sorted»;refine lA (m:=checkCount "sorted" 1 1 _) (lB ?_);refine lA (W.kdu_collect (A:=X.A.in1) (W.kdl_dict (knd:=zAd X.prog X.w) (kvs:=vs) (ep:=ep) hsm) (I.ok.hd hc) hat line λ h1 tk acc hk1 hacc=>?_);have la:acc.toList.length=vs.length:=by rw[Array.length_toList];exact hacc.1
 have hS:StrsAre acc.toList ks:=zJR (P:=X.prog) (w:=X.w) hks la λ j v hv=>hacc.2 j v (by rw[←nI];exact hv);have I1:Inv X jP σ H { s with heap:=h1,toks:=tk }:=I.kept hk1;refine lA (wpAny_newList ?_ (by rw[la];exact line));have hoL:(h1.push { cls:=.type "list", data:=.seq acc.toList.toArray }).get? h1.objs.size=some (seqObj "list" acc.toList.toArray 0):=lG _ rfl;refine lA (lD (wpAny_call_entry slot_list_sort ⟨_,hoL,rfl⟩ entry_list_sort (list_sort_treeK strKind_oneLt hoL hS.keysOf (λ a b rest e=>keyKind_strs (ss:=ks) (by rw[←e];exact hS)) (by rw[la,hn];exact h64) λ st' a1 a2=>⟨_,rfl,?_⟩) (args_list_sort _)));obtain⟨ss,b1,b2,b3⟩:=sorted_out_str hS a1 a2;obtain⟨e,he⟩:∃e,(sortedHeap (h1.push { cls:=.type "list", data:=.seq acc.toList.toArray }) h1.objs.size acc.toList ((arrOf st').map (·.2))).get? h1.objs.size=some (seqObj "list" ((arrOf st').map (·.2)) e):=sortedHeap_at hoL;refine lB ⟨_,rfl,⟨.ref h1.objs.size,upd H h1.objs.size (.lst (ss.map V.str)),I1.laid (t':=tk) (a:=h1.objs.size) (o:=.lst (ss.map V.str)) (λ b o hb=>?_) (lQ _) ⟨?_,_,e,zGH b1,?_⟩,rfl,q _ ss (I1.hok.fresh (lQ _)) b2 (zEZ b3)⟩⟩
 ·rw[sortedHeap_old (Nat.ne_of_lt (Heap.lt_size hb)) (by rw[Heap.size_push];exact Nat.lt_succ_of_lt (lH hb))]
  exact lE _ hb
 ·rw[lC,b2.length_eq]
  exact Nat.le_of_lt (zAM (by omega))
 ·rw[he]
end
structure FnB (P:Program) (w:World) (K:W.Frag) (mg:Str->Option Value) (base:Heap) (k:Nat) (x:Str) (f:Addr) (fd:FuncData) (ps:List Str) (sp:Sp):Prop where
 ok:FnOk P w K mg base CX0 k f fd ps sp
 bd:Binds K fd ps []
 kp:W.keepIn K (.ref f)=true
 gl:mg x=some (.ref f)
theorem pe_cl {X:Cx}{k:Nat}{x:Str}{f:Addr}{fd:FuncData}{ps:List Str}{sp:Sp}{e:Expr}{es:List Expr}{t:TA}{p pos:Pos}(G:FnB X.prog X.w X.K X.mg X.base k x f fd ps sp) (hr:Room k X.A) (ha:PA X (e::es) t) (hg:Gl X x:=by rfl) (hdb:(x==("__debug__":Str))=false:=by decide) (he:starEach (e::es) X.env=(false,eval e X.env)::starEach es X.env:=by rfl) (hpl:(backTo pos (starEach es X.env)).any (·.1)=false:=by rfl):PE X (.Call (.Name x p) (e::es) [] pos) (tCall sp [] E0 t):=zCn G.ok hr hg G.gl G.kp G.bd .nil pass0 ha hdb he hpl
theorem iC {X:Cx}{r:R2}{a:Expr}{ta:TE}{i j p2 pos} (hr:IxR X r) (ha:PE X a ta):PE X (.Subscript a (.Constant (.int i) j p2) pos) (tOp r ta (tC (.int i))):=pe_ix hr ha zAF (λ Ω Ω=>rfl)
theorem FnB.up {P:Program}{w:World}{K:W.Frag}{mg:Str->Option Value}{base:Heap}{j k:Nat}{x:Str}{f:Addr}{fd:FuncData}{ps:List Str}{sp:Sp}(F:FnB P w K mg base j x f fd ps sp) (h:j<=k):FnB P w K mg base k x f fd ps sp :=
 ⟨F.ok.mono h,F.bd,F.kp,F.gl⟩
def Tk (H H':Hp):Prop:=∀b xs,H b=some (.tup xs)->H' b=some (.tup xs)
theorem Tk.refl (H:Hp):Tk H H:=λ Ω Ω h=>h
theorem Tk.trans {H H1 H2:Hp}(a:Tk H H1) (b:Tk H1 H2):Tk H H2:=λ c xs h=>b c xs (a c xs h)
theorem Same.tk {H H':Hp}(h:Same H H'):Tk H H':=λ b xs e=>h b _ e
theorem Tk.lst {H:Hp}{p:Addr}{xs:List V}{o:HO}(h:H p=some (.lst xs)):Tk H (upd H p o):=λ b ys e=>by
 rw[zAK (λ z=>by subst z;rw[h] at e;cases e)];exact e
theorem Tk.dk {H:Hp}{p:Addr}{kvs:List (Key × V)}{o:HO}(h:H p=some (.dK kvs)):Tk H (upd H p o):=λ b ys e=>by
 rw[zAK (λ z=>by subst z;rw[h] at e;cases e)];exact e
section
variable {X:Cx}
def rCatV:R2:=λ x y H Q=>∃a b xs ys,x = .ref a/\y = .ref b/\H a=some (.tup xs)/\H b=some (.tup ys)/\xs.length+ys.length<=sizeLine /\
 ∀p H',Same H H'->H' p=some (.tup (xs++ys))->Q (.ref p) H'
theorem zHN:OpR X (binaryOp .Add) rCatV:=by
 intro jP s σ H x y v u Q I rx ry h;obtain⟨a,b,xs,ys,rfl,rfl,ha,hb,hz,q⟩:=h
 by_cases hx:xs=[]
 ·subst hx
  cases rx;cases ry;obtain⟨its,r1,p1,_⟩:=I.tuple (SqT.of ha);obtain⟨its2,r2,p2,_⟩:=I.tuple (SqT.of hb);have e0:its=[]:=r1.nil_iff.mpr rfl;subst e0;obtain⟨⟨cls,dd,data,sl⟩,ho,hc,n,hd⟩:=id p1;obtain⟨⟨cls2,dd2,data2,sl2⟩,ho2,hc2,n2,hd2⟩:=id p2;simp only at hc hd hc2 hd2;subst hc hd hc2 hd2;exact concat_meets ⟨_,ho,rfl⟩ ⟨_,ho2,rfl⟩ noFill_tuple_add seq_tuple_add PySem.F.slot_tuple_add PySem.F.entry_tuple_add (PySem.F.args_tuple_add_2 _ _) (tuple_addW0 a b _ _ n n2 dd dd2 sl sl2 rfl) ⟨ho,ho2,⟨.ref b,H,I,rfl,q b H (.refl H) hb⟩⟩
 ·refine zMs jP s σ H (.ref a) (.ref b) v u Q I rx ry ⟨a,b,xs,ys,rfl,rfl,SqT.of ha,SqT.of hb,hx,hz,λ e=>?_,λ e p hp=>?_⟩
  ·subst e
   exact q a H (.refl H) (by rw[nR];exact ha)
  ·exact q p _ (zAC hp) zAB
def rSlV:V->Option Int->Option Int->Hp->VK->Prop:=λ x lo hi H Q=>∃a xs,x = .ref a/\H a=some (.tup xs) /\
 ¬(HT.sIx xs.length 0 lo=0/\HT.sIx xs.length xs.length hi=xs.length)/\∀p H',Same H H'->H' p=some (.tup (cutV xs lo hi))->Q (.ref p) H'
theorem zHC:SlR X rSlV:=by
 intro jP s σ H x v vl vu lo hi sl Q I rx hs pl pu h;obtain⟨a,xs,rfl,ha,hw,q⟩:=h;exact zME jP s σ H (.ref a) v vl vu lo hi sl Q I rx hs pl pu ⟨a,xs,rfl,SqT.of ha,hw,λ p hp=>q p _ (zAC hp) zAB⟩
end
inductive Atom where
 |name (x:Str)|num (n:Int)|gap (g:Str)
inductive Bin where
 |add|sub|mul|thn
noncomputable def Bin.s:Bin->Str
 |.add => "add" |.sub => "sub" |.mul => "mul" |.thn => "then"
inductive Tr where
 |num (n:Int)|name (x:Str)|ask (x:Str)|stop (x:Str)|gap (g:Str) (as:List Atom)
 |say (a:Tr)|bin (o:Bin) (a b:Tr)|ite (a b c:Tr)|lett (x:Str) (a b:Tr)
def AtRep (H:Hp):Atom->V->Prop
 |.name x,v=>∃a,v = .ref a/\H a=some (.tup [.str "name", .str x])
 |.num n,v=>∃a,v = .ref a/\H a=some (.tup [.str "num", .int n])
 |.gap g,v=>∃a b,v = .ref a/\H a=some (.tup [.str "gap", .str g,.ref b])/\H b=some (.tup [])
def Rep (H:Hp):Tr->V->Prop
 |.num n,v=>∃a,v = .ref a/\H a=some (.tup [.str "num", .int n])
 |.name x,v=>∃a,v = .ref a/\H a=some (.tup [.str "name", .str x])
 |.ask x,v=>∃a,v = .ref a/\H a=some (.tup [.str "ask", .str x])
 |.stop x,v=>∃a,v = .ref a/\H a=some (.tup [.str "stop", .str x])
 |.gap g as,v=>∃a b us,v = .ref a/\H a=some (.tup [.str "gap", .str g,.ref b])/\H b=some (.tup us)/\us.length<=1000/\Paired (AtRep H) as us
 |.say t,v=>∃a u,v = .ref a/\H a=some (.tup [.str "say", u])/\Rep H t u
 |.bin o s t,v=>∃a u w,v = .ref a/\H a=some (.tup [.str o.s,u,w])/\Rep H s u/\Rep H t w
 |.ite r s t,v=>∃a u w z,v = .ref a/\H a=some (.tup [.str "if", u,w,z])/\Rep H r u/\Rep H s w/\Rep H t z
 |.lett x s t,v=>∃a u w,v = .ref a/\H a=some (.tup [.str "let", .str x,u,w])/\Rep H s u/\Rep H t w
theorem AtRep.mono {H H':Hp}(k:Tk H H'):∀{t:Atom}{v:V},AtRep H t v->AtRep H' t v
 |.name _,_,⟨a,e,h⟩=>⟨a,e,k _ _ h⟩
 |.num _,_,⟨a,e,h⟩=>⟨a,e,k _ _ h⟩
 |.gap _,_,⟨a,b,e,h,h'⟩=>⟨a,b,e,k _ _ h,k _ _ h'⟩
theorem Rep.mono {H H':Hp}(k:Tk H H'):∀{t:Tr}{v:V},Rep H t v->Rep H' t v
 |.num _,_,⟨a,e,h⟩=>⟨a,e,k _ _ h⟩
 |.name _,_,⟨a,e,h⟩=>⟨a,e,k _ _ h⟩
 |.ask _,_,⟨a,e,h⟩=>⟨a,e,k _ _ h⟩
 |.stop _,_,⟨a,e,h⟩=>⟨a,e,k _ _ h⟩
 |.gap _ _,_,⟨a,b,us,e,h,h',n,p⟩=>⟨a,b,us,e,k _ _ h,k _ _ h',n,Paired.mapP p λ Ω Ω z=>z.mono k⟩
 |.say _,_,⟨a,u,e,h,r⟩=>⟨a,u,e,k _ _ h,r.mono k⟩
 |.bin _ _ _,_,⟨a,u,w,e,h,r,s⟩=>⟨a,u,w,e,k _ _ h,r.mono k,s.mono k⟩
 |.ite _ _ _,_,⟨a,u,w,z,e,h,r,s,t⟩=>⟨a,u,w,z,e,k _ _ h,r.mono k,s.mono k,t.mono k⟩
 |.lett _ _ _,_,⟨a,u,w,e,h,r,s⟩=>⟨a,u,w,e,k _ _ h,r.mono k,s.mono k⟩
inductive Kd where
 |num|name|ask|stop|gap|say|add|sub|mul|thn|ite|lett
 deriving DecidableEq
noncomputable def Kd.s:Kd->Str
 |.num => "num" |.name => "name" |.ask => "ask" |.stop => "stop" |.gap => "gap"
 |.say => "say" |.add => "add" |.sub => "sub" |.mul => "mul" |.thn => "then" |.ite => "if" |.lett => "let"
noncomputable def Kd.leaf:Kd->Bool
 |.num=>true|.name=>true|.ask=>true|.stop=>true|.gap=>true
 |_=>false
theorem Kd.inj {a b:Kd}(h:a.s=b.s):a=b:=by
 revert h;cases a<;>cases b<;>first|(intro _;rfl)|(intro h;exact absurd h (by left))
theorem Kd.eq_iff {a b:Kd}:(V.str a.s=V.str b.s)↔a=b:=⟨λ h=>Kd.inj (V.str.inj h),λ h=>by rw[h]⟩
noncomputable def Bin.kd:Bin->Kd
 |.add=>.add|.sub=>.sub|.mul=>.mul|.thn=>.thn
noncomputable def Tr.kd:Tr->Kd
 |.num _=>.num|.name _=>.name|.ask _=>.ask|.stop _=>.stop|.gap _ _=>.gap
 |.say _=>.say|.bin o _ _=>o.kd|.ite _ _ _=>.ite|.lett _ _ _=>.lett
noncomputable def Tr.sign (t:Tr):Str:=t.kd.s
theorem Bin.kd_s (o:Bin):o.kd.s=o.s:=by cases o<;>rfl
noncomputable def Tr.parts:Tr->List Tr
 |.say a=>[a]|.bin _ a b=>[a,b]|.ite a b c=>[a,b,c]|.lett _ a b=>[a,b]
 |_=>[]
noncomputable def Tr.head:Tr->Nat
 |.gap _ _=>3|.say _=>1|.bin _ _ _=>1|.ite _ _ _=>1
 |_=>2
theorem Rep.all {H:Hp}:∀{t:Tr}{v:V},Rep H t v->∃a hs us,v = .ref a/\H a=some (.tup (.str t.sign::hs++us))/\hs.length+1=t.head/\Paired (Rep H) t.parts us
 |.num n,_,⟨a,e,h⟩=>⟨a,[.int n],[],e,h,rfl,.nil⟩
 |.name x,_,⟨a,e,h⟩=>⟨a,[.str x],[],e,h,rfl,.nil⟩
 |.ask x,_,⟨a,e,h⟩=>⟨a,[.str x],[],e,h,rfl,.nil⟩
 |.stop x,_,⟨a,e,h⟩=>⟨a,[.str x],[],e,h,rfl,.nil⟩
 |.gap g _,_,⟨a,b,us,e,h,h',_,p⟩=>⟨a,[.str g,.ref b],[],e,h,rfl,.nil⟩
 |.say _,_,⟨a,u,e,h,r⟩=>⟨a,[],[u],e,h,rfl,.cons r .nil⟩
 |.bin o _ _,_,⟨a,u,w,e,h,r,s⟩=>⟨a,[],[u,w],e,(by show _=some (HO.tup [V.str o.kd.s,u,w]);rw[Bin.kd_s];exact h),rfl,.cons r (.cons s .nil)⟩
 |.ite _ _ _,_,⟨a,u,w,z,e,h,r,s,t⟩=>⟨a,[],[u,w,z],e,h,rfl,.cons r (.cons s (.cons t .nil))⟩
 |.lett x _ _,_,⟨a,u,w,e,h,r,s⟩=>⟨a,[.str x],[u,w],e,h,rfl,.cons r (.cons s .nil)⟩
noncomputable def Tr.size:Tr->Nat
 |.say a=>a.size+1|.bin _ a b=>a.size+b.size+1|.ite a b c=>a.size+b.size+c.size+1|.lett _ a b=>a.size+b.size+1
 |_=>1
theorem zAW {α:Type}{F:α->V->Prop}{as:List α}{us:List V}{i:Nat}{u:V}(h:Paired F as us):us[i]?=some u->∃a,as[i]?=some a/\F a u:=by
 induction h generalizing i with
 |nil=>exact λ e=>nomatch e
 |cons h t ih=>cases i with
  |zero=>exact λ e=>⟨_,rfl,by cases e;exact h⟩
  |succ i=>exact λ e=>ih (i:=i) (by simpa using e)
theorem zAQ {H H':Hp}{p:Addr}{o:HO}(g:Same H H') (h:H p=none):Same H (upd H' p o):=λ b u q=>by rw[zAK (zAJ q h)];exact g b u q
theorem zAR {α:Type}{as:List α}{i:Nat}{a:α}(h:as[i]?=some a):as.take (i+1)=as.take i++[a]:=by
 rw[List.take_add_one,h];rfl
noncomputable def Atom.names:Atom->List Str
 |.name x=>[x]
 |_=>[]
noncomputable def Tr.names:Tr->List Str
 |.name x=>[x]
 |.gap _ as=>as.flatMap Atom.names
 |_=>[]
theorem iteY {c:Prop} [Decidable c] {A B:Prop}(hc:c) (h:A):if decide c=true then A else B:=by rw[if_pos (decide_eq_true hc)];exact h
theorem iteN {c:Prop} [Decidable c] {A B:Prop}(hc:¬c) (h:B):if decide c=true then A else B:=by rw[if_neg (by rw[decide_eq_false hc];exact lY)];exact h
theorem zAm {n:Nat}(h:n<=1000):n<=sizeLine:=Nat.le_of_lt (zAM h)
noncomputable def zDM:List Expr->Option (List V)
 |[]=>some []
 |.Constant (.str x) _ _::r=>(zDM r).map λ l=>V.str x::l
 |.Constant (.int i) _ _::r=>(zDM r).map λ l=>V.int i::l
 |_=>none
def tRow (vs:List V):TA:=λ Ω H Q=>Q vs H
theorem zMK {X:Cx}{es:List Expr}:∀(vs:List V),zDM es=some vs->PA X es (tRow vs):=by
 induction es with
 |nil=>intro vs h;cases h;exact zAD
 |cons e r ih =>
  intro vs h;cases e with
  |Constant c j p =>
   cases c with
   |str x =>
    obtain⟨l,hl,e⟩:=lV.mp (show (zDM r).map (λ l=>V.str x::l)=some vs from h);subst e;exact zAA zAT (ih l hl)
   |int x =>
    obtain⟨l,hl,e⟩:=lV.mp (show (zDM r).map (λ l=>V.int x::l)=some vs from h);subst e;exact zAA zAF (ih l hl)
   |_=>cases h
  |_=>cases h
noncomputable def rowT:Expr->Option (List V)
 |.Tuple es _ _=>zDM es
 |_=>none
noncomputable def rowL:Expr->Option (List V)
 |.List es _=>zDM es
 |_=>none
theorem zHL {X:Cx}{e:Expr}(vs:List V) (h:rowT e=some vs):PE X e (tTup (tRow vs)):=by
 unfold rowT at h;split at h
 ·exact zAh (zMK vs h)
 ·cases h
theorem zJo {X:Cx}{e:Expr}(vs:List V) (h:rowL e=some vs):PE X e (tLst (tRow vs)):=by
 unfold rowL at h;split at h
 ·exact zAv (zMK vs h)
 ·cases h
abbrev DRow:=Str × (Str ⊕ Int)
abbrev En:=Str->Int
abbrev Res:=List DRow × (Int ⊕ Str)
noncomputable def askR (x:Str):DRow:=("ask", .inl x)
noncomputable def sayR (n:Int):DRow:=("say", .inr n)
noncomputable def Bin.op:Bin->Int->Int->Int
 |.add,m,n=>(m+n) % 10 ^ 30
 |.sub,m,n=>(m - n) % 10 ^ 30
 |.mul,m,n=>(m * n) % 10 ^ 30
 |.thn,_,n=>n
noncomputable def En.set (e:En) (x:Str) (n:Int):En:=λ y=>if y=x then n else e y
noncomputable def pre (D:List DRow) (o:Option Res):Option Res:=o.map λ q=>(D++q.1,q.2)
noncomputable def seqR (r:Option Res) (k:Int->Option Res):Option Res:=r.bind λ r=>match r.2 with
 |.inr w=>some (r.1,.inr w)
 |.inl n=>pre r.1 (k n)
noncomputable def ev (a:En):Tr->En->Option Res
 |.num n,_=>some ([],.inl n)
 |.name x,e=>some ([],.inl (e x))
 |.ask x,_=>some ([askR x],.inl (a x))
 |.stop x,_=>some ([],.inr x)
 |.gap _ _,_=>none
 |.say t,e=>seqR (ev a t e) λ n=>some ([sayR n],.inl n)
 |.bin o s t,e=>seqR (ev a s e) λ m=>seqR (ev a t e) λ n=>some ([],.inl (o.op m n))
 |.ite c s t,e=>seqR (ev a c e) λ n=>if n=0 then ev a t e else ev a s e
 |.lett x s t,e=>seqR (ev a s e) λ n=>ev a t (e.set x n)
noncomputable def aft (a:En) (t:Tr) (e:En) (E:List Int):Option (Option Res × List Int) :=
 match t with
 |.say _=>match E with
  |n::E=>some (some ([sayR n],.inl n),E)
  |_=>none
 |.bin .thn _ t=>match E with
  |_::E=>some (ev a t e,E)
  |_=>none
 |.bin o _ _=>match E with
  |n::m::E=>some (some ([],.inl (o.op m n)),E)
  |_=>none
 |.ite _ s t=>match E with
  |n::E=>some (if n=0 then ev a t e else ev a s e,E)
  |_=>none
 |.lett x _ t=>match E with
  |n::E=>some (ev a t (e.set x n),E)
  |_=>none
 |_=>none
abbrev Item:=Tr × En × Bool
noncomputable def cont (a:En):List Item->List Int->Option Res
 |[],[]=>none
 |[],n::_=>some ([],.inl n)
 | (t,e,false)::W,E=>seqR (ev a t e) λ n=>cont a W (n::E)
 | (t,e,true)::W,E=>(aft a t e E).bind λ p=>seqR p.1 λ n=>cont a W (n::p.2)
theorem zC8 {X:Cx}:CallR X (.type "dict") (λ xs H Q=>∃a kvs,xs=[V.ref a]/\H a=some (.dK kvs)/\∀p,H p=none->Q (.ref p) (upd H p (.dK kvs))):=by
 intro jP s σ H xs us Q I r h;obtain⟨a,kvs,rfl,ha,q⟩:=h;obtain⟨u,rfl,ru⟩:=vals1 r;cases ru;exact zL3 I (.inl ha) λ p s' hp I'=>⟨.ref p,_,I',rfl,q p hp⟩
theorem zAO {α:Type}{F:α->V->Prop}{as bs:List α}{us vs:List V}(h:Paired F as us) (k:Paired F bs vs):Paired F (as++bs) (us++vs):=by
 induction h with
 |nil=>exact k
 |cons r t ih=>exact .cons r ih
theorem zAH {α:Type}{F:α->V->Prop}{as:List α}{us:List V}(h:Paired F as us):us.length=as.length:=h.length.symm
inductive A3(a b c:Prop):Prop
 |mk:a->b->c->A3 a b c
inductive A4(a b c d:Prop):Prop
 |mk:a->b->c->d->A4 a b c d
inductive A5(a b c d e:Prop):Prop
 |mk:a->b->c->d->e->A5 a b c d e
inductive A6(a b c d e f:Prop):Prop
 |mk:a->b->c->d->e->f->A6 a b c d e f
inductive A7(a b c d e f g:Prop):Prop
 |mk:a->b->c->d->e->f->g->A7 a b c d e f g
inductive A8(a b c d e f g h:Prop):Prop
 |mk:a->b->c->d->e->f->g->h->A8 a b c d e f g h
inductive A9(a b c d e f g h i:Prop):Prop
 |mk:a->b->c->d->e->f->g->h->i->A9 a b c d e f g h i
inductive A10(a b c d e f g h i j:Prop):Prop
 |mk:a->b->c->d->e->f->g->h->i->j->A10 a b c d e f g h i j
inductive A11(a b c d e f g h i j k:Prop):Prop
 |mk:a->b->c->d->e->f->g->h->i->j->k->A11 a b c d e f g h i j k
inductive A12(a b c d e f g h i j k l:Prop):Prop
 |mk:a->b->c->d->e->f->g->h->i->j->k->l->A12 a b c d e f g h i j k l
inductive A13(a b c d e f g h i j k l m:Prop):Prop
 |mk:a->b->c->d->e->f->g->h->i->j->k->l->m->A13 a b c d e f g h i j k l m
inductive A14(a b c d e f g h i j k l m n:Prop):Prop
 |mk:a->b->c->d->e->f->g->h->i->j->k->l->m->n->A14 a b c d e f g h i j k l m n
inductive E2{a b:Type}(p:a->b->Prop):Prop
 |mk:∀A B,p A B->E2 p
inductive E3{a b c:Type}(p:a->b->c->Prop):Prop
 |mk:∀A B C,p A B C->E3 p
inductive E4{a b c d:Type}(p:a->b->c->d->Prop):Prop
 |mk:∀A B C D,p A B C D->E4 p
inductive E5{a b c d e:Type}(p:a->b->c->d->e->Prop):Prop
 |mk:∀A B C D E,p A B C D E->E5 p
inductive E6{a b c d e f:Type}(p:a->b->c->d->e->f->Prop):Prop
 |mk:∀A B C D E F,p A B C D E F->E6 p
inductive E7{a b c d e f g:Type}(p:a->b->c->d->e->f->g->Prop):Prop
 |mk:∀A B C D E F G,p A B C D E F G->E7 p
inductive E8{a b c d e f g h:Type}(p:a->b->c->d->e->f->g->h->Prop):Prop
 |mk:∀A B C D E F G H,p A B C D E F G H->E8 p
inductive E10{a b c d e f g h i j:Type}(p:a->b->c->d->e->f->g->h->i->j->Prop):Prop
 |mk:∀A B C D E F G H I J,p A B C D E F G H I J->E10 p
inductive E11{a b c d e f g h i j k:Type}(p:a->b->c->d->e->f->g->h->i->j->k->Prop):Prop
 |mk:∀A B C D E F G H I J K,p A B C D E F G H I J K->E11 p
inductive E12{a b c d e f g h i j k l:Type}(p:a->b->c->d->e->f->g->h->i->j->k->l->Prop):Prop
 |mk:∀A B C D E F G H I J K L,p A B C D E F G H I J K L->E12 p
theorem zGO:∀{ys:List Str}{us:List Value},Vals (ys.map V.str) us->StrsAre us ys
 |[],_,h=>by cases h;exact .nil
 |y::ys,_,h=>by
  cases h with
  |cons r t =>
   obtain⟨tk,rfl⟩:=r;exact .cons y tk (zGO t)
def rJoin:V->List V->Hp->VK->Prop:=λ x xs H Q=>∃(z:Str) (l:Addr) (ys:List Str),x = .str z/\xs=[.ref l]/\H l=some (.lst (ys.map V.str))/\z.length<=16/\(ys.map (·.length)).sum+ys.length<=1048576/\Q (.str (Txt.join z ys)) H
theorem zM3 {X:Cx}:MtR X "str.join" rJoin:=by
 intro jP s σ H x xs v us Q I rx rs h;obtain⟨z,l,ys,rfl,rfl,hl,hz,hw,q⟩:=h;obtain⟨t,rfl⟩:=rx;obtain⟨u,rfl,ru⟩:=Vals.one rs;cases ru;obtain⟨_,its,n,r,le,e⟩:=I.lstM hl;have L1:s.heap.IsList l its.toArray:=⟨_,e,rfl,_,rfl⟩;exact join_listW L1 (zGO r) hz hw λ t' k=>⟨.str _,H,I.tok k,⟨t',rfl⟩,q⟩
noncomputable def Itw (K:W.Frag) (a:Addr) (n:Nat):It :=
 ⟨λ i H=>i<n/\∃xs x,SqL K H a xs/\xs.length=n/\xs[n - 1 - i]?=some x,λ i H x H'=>H'=H/\∀xs,SqL K H a xs->xs[n - 1 - i]?=some x,λ i Ω=>i=n⟩
theorem zK6 {P:Program}{w:World}{K:W.Frag}{tg:Expr}(a it:Addr) (n:Nat):Turn P w K tg (Itw K a n) [it] it (λ i h=>h.IsRevIter it a ((n:Int) - 1 - (i:Nat))) where
 mem:=by simp
 obj:=λ i h st b hb=>by
  have e:b=it:=by simpa using hb
  subst e;obtain⟨o,e,c,d⟩:=st;exact⟨o,e,λ v z=>by rw[d] at z;cases z⟩
 keep:=λ i h h' st k=>st.at λ o e=>k it (by simp) o e
 item:=by
  intro X hP hw hK hc i jP s σ H E I hf st hg;subst hP hw hK;obtain⟨hin,xs,x,hq,hl,hx⟩:=hg;obtain⟨its,rv,p,hz⟩:=I.list hq;obtain⟨u,hu,ru⟩:=rv.get hx;obtain⟨f0,f1,f2,f3,f4,f5⟩:=hf it (by simp);have e:(n:Int) - 1 - (i:Nat)=((n - 1 - i:Nat):Int):=by omega
  rw[e] at st;refine wpAny_pyNext_rev_item st p.isList (x:=u) (by simpa using hu) λ h' st' sb=>?_;have I1:Inv X jP σ H { s with heap:=h' }:=I.turned (t':=s.toks) (λ b o hb e=>(sb.2 b hb).trans e) f0 f1 f3 f4 f5;obtain⟨o,eo,c,d⟩:=id st';refine⟨u,rfl,go_of (s:={ s with heap:=h' }) eo c d (by decide) ⟨x,H,I1,ru,⟨rfl,λ ys hy=>by rw[I.list_inj hy hq];exact hx⟩,?_,λ b hb=>(hf b hb).1⟩⟩;have e2:(n:Int) - 1 - ((i+1:Nat):Int)=((n - 1 - i:Nat):Int) - 1:=by omega
  show h'.IsRevIter it a ((n:Int) - 1 - ((i+1:Nat):Int));rw[e2];exact st'
 done:=by
  intro X hP hw hK hc i jP s σ H E I hf st hg;subst hP hw hK;obtain⟨f0,f1,f2,f3,f4,f5⟩:=hf it (by simp);have hg':i=n:=hg;subst hg';have e:(i:Int) - 1 - (i:Nat) = -1:=by omega
  rw[e] at st;exact wpAny_pyNext_rev_end (I.ok.hd hc) st λ h' eb=>⟨rfl,I.turned (t':=s.toks) (λ b o hb e=>eb b o hb e) f0 f1 f3 f4 f5⟩
 self:=λ Ω Ω Ω Ω Ω st h=>wpAny_pyIter_revIter st h
def iRevL (K:W.Frag) (ta:TA):TI:=λ σ H R=>ta σ H λ vs H1=>∃a,vs=[.ref a]/\∃xs,SqL K H1 a xs/\R (Itw K a xs.length) H1
theorem zJj {X:Cx}{tg a:Expr}{ta:TA}{p pos:Pos}(hg:Gl X "reversed") (hm:X.mg "reversed" = none) (ha:PA X [a] ta) (hs:starEach [a] X.env=[(false,eval a X.env)]:=by rfl):PI X tg (.Call (.Name "reversed" p) [a] [] pos) (iRevL X.K ta):=by
 intro jP s σ H R I h;refine Call_ (zCr I hg hm boot_reversed (PyProof.Rows.callWith_type1 (thn (ha pos jP s σ H _ I h) λ us s1 ⟨vs,H1,I1,r1,q1⟩=>?_) hs rfl));obtain⟨b,e,xs,hq,q⟩:=q1;subst e;obtain⟨u,rfl,ru⟩:=vals1 r1;cases ru;obtain⟨its,rv,tp,hz⟩:=I1.list hq;have hl:=rv.length;refine call_reversed_list tp.isList ?_;have hnew:Heap.IsRevIter (s1.heap.push (revObj b ((its.toArray.size:Int) - 1))) s1.heap.objs.size b ((its.toArray.size:Int) - 1):=⟨_,lG _ rfl,rfl,rfl⟩;refine wpAny_pyIter_revIter hnew ⟨_,[s1.heap.objs.size],_,_,H1,rfl,I1.kept (t':=s1.toks) (λ c o e=>lE _ e),zK6 b _ xs.length,?_,λ c hc=>?_,q⟩
 ·have e:(xs.length:Int) - 1 - ((0:Nat):Int)=(its.toArray.size:Int) - 1:=by rw[mE];omega
  show Heap.IsRevIter _ _ _ ((xs.length:Int) - 1 - ((0:Nat):Int));rw[e];exact hnew
 ·have e:=mR.mp hc
  subst e;exact I1.fpOk (lQ _) (I1.hok.fresh (lQ _))
theorem zIU {K:W.Frag}{a:Addr}{xs:List V}{g:TG}{tb:TS}{D:Ends}{σ:L2.St}{H:Hp}(Pv:Nat->St->Hp->Prop) (h0:Pv 0 σ H) (hl:∀i σ H,i<=xs.length->Pv i σ H->SqL K H a xs)
  (hs:∀i x σ H,i<xs.length->xs[xs.length - 1 - i]?=some x->Pv i σ H->g x σ H λ σ2 H2=>tb { D with nx:=Pv (i+1),ct:=Pv (i+1),bk:=D.nx } σ2 H2) (hd:∀σ H,Pv xs.length σ H->D.nx σ H) :
  ∃W:Nat->Nat->St->Hp->Prop,(∃m,W 0 m σ H)/\∀i m σ H,W i m σ H ->
   ((Itw K a xs.length).stop i H/\D.nx σ H)\/((Itw K a xs.length).go i H/\∃N:St->Hp->Prop,(∀σ' H',N σ' H'->∃m',m'<m/\W (i+1) m' σ' H')/\∀x H',(Itw K a xs.length).yld i H x H'->g x σ H' λ σ2 H2=>tb { D with nx:=N,ct:=N,bk:=D.nx } σ2 H2):=by
 refine⟨λ i m σ H=>m=xs.length - i/\i<=xs.length/\Pv i σ H,⟨xs.length,by simp,lZ _,h0⟩,?_⟩;rintro i m σ H ⟨rfl,hi,p⟩;have q:=hl i σ H hi p
 by_cases hlt:i<xs.length
 ·have hk:xs.length - 1 - i<xs.length:=by omega
  refine .inr ⟨⟨hlt,xs,xs[xs.length - 1 - i],q,rfl,by simp[hk]⟩,Pv (i+1),λ σ' H' p'=>⟨xs.length - (i+1),by omega,rfl,hlt,p'⟩,λ x H' y=>?_⟩;obtain⟨eH,y⟩:=y;subst eH;exact hs i x σ _ hlt (y xs q) p
 ·have e:i=xs.length:=by omega
  subst e;exact .inl ⟨rfl,hd σ H p⟩
theorem zBp {K:W.Frag}{a:Addr}{xs:List V}{acc:Addr}{g:TG}{tt:TT}{te:TE}{σ:L2.St}{H:Hp}{R:Hp->Prop}(Pv:Nat->Hp->Prop) (h0:Pv 0 (upd H acc (.lst []))) (hl:∀i H,i<=xs.length->Pv i H->SqL K H a xs)
  (hs:∀i x H,xs[i]?=some x->Pv i H->g x σ H λ σ2 H4=>Ext σ σ2/\tt σ2 H4 λ b H5 =>
   if b=true then te σ2 H5 λ y H6=>∃zs,H6 acc=some (.lst zs)/\zs.length<sizeLine/\Pv (i+1) (upd H6 acc (.lst (zs++[y]))) else Pv (i+1) H5) (hd:∀H,Pv xs.length H->R H) :
  ∃W:Nat->Nat->Hp->Prop,(∃m,W 0 m (upd H acc (.lst [])))/\∀i m H2,W i m H2 ->
   ((Itl K a).stop i H2/\R H2)\/((Itl K a).go i H2/\∃N:Hp->Prop,(∀H',N H'->∃m',m'<m/\W (i+1) m' H')/\∀x H3,(Itl K a).yld i H2 x H3->g x σ H3 λ σ2 H4=>Ext σ σ2/\tt σ2 H4 λ b H5 =>
    if b=true then te σ2 H5 λ y H6=>∃zs,H6 acc=some (.lst zs)/\zs.length<sizeLine/\N (upd H6 acc (.lst (zs++[y])))
    else N H5):=by
 refine⟨λ i m H=>m=xs.length - i/\i<=xs.length/\Pv i H,⟨xs.length,by simp,lZ _,h0⟩,?_⟩;rintro i m H2 ⟨rfl,hi,p⟩;have q:=hl i H2 hi p
 by_cases hlt:i<xs.length
 ·refine .inr ⟨⟨xs,xs[i],q,by simp[hlt]⟩,Pv (i+1),λ H' p'=>⟨xs.length - (i+1),by omega,rfl,hlt,p'⟩,λ x H' y=>?_⟩
  obtain⟨e,y⟩:=y;subst e;exact hs i x _ (y xs q) p
 ·have e:i=xs.length:=by omega
  subst e;exact .inl ⟨⟨xs,q,lQ _⟩,hd H2 p⟩
section
variable {X:Cx}
theorem zMm {elt tg iter:Expr}{y:Str}{py spos:Pos}{jj:Nat}{ifs:List Expr}{sc:Scope}{pos:Pos}{wi:TI}{g:TG}{tt:TT}{te:TE}(N:List Str) (cap:List (Option Nat)) (hc:X.calm=true) (hi:PI X tg iter wi)
    (hg:∀cl s H C ex,PG (X.block sc cl N s H C ex) tg g) (ht:∀cl s H C ex,PTs (X.block sc cl N s H C ex) ifs tt) (he:∀cl s H C ex,PE (X.block sc cl N s H C ex) elt te)
    (hk:sc.kind = .function) (nc:∀y∈sc.names,y.2 ≠ .cell) (hnames:∀y∈sc.names,y.2 = .local->sc.names.lookup y.1=some .local)
    (hfree:∀n,(n,NameKind.free)∈sc.names->X.env.kindOf n=some .cell)
    (hcap:∀(i j:Nat),cap[i]?=some (some j)->∃x,N[i]?=some x/\X.N[j]?=some x/\sc.names.lookup x=some .free) (hlen:cap.length=N.length)
    (hN:X.N.Nodup) (hjj:X.N[jj]?=some y) (hxx:Loc X.env.scope y) (hf:X.fn y=true\/X.env.scope.names.lookup y=some .local)
    (hsw:swapsWith (.ListComp elt [⟨tg,iter,ifs,0⟩] sc pos) (some (.Name y py)) spos.line X.env=pure true)
    (hs:∀x,foldedSetIterable iter X.env x=pure x:=by intro _;rfl):PS X (.Assign [.Name y py] (.ListComp elt [⟨tg,iter,ifs,0⟩] sc pos) spos) (tAsg (tComp cap wi g tt te) (gName jj)):=by
  intro jP s σ H D I h;obtain⟨cl,hclos,c1,c2⟩:=zFW (sc:=sc) (env:=X.env) λ n hn=>I.ok.has n (.inl (hfree n hn));rw[exec_Assign_Name_used _ _ _ _ hsw];refine lA (wpAny_standAt (lA ?_));show wpAny _ X.A (do let _ ← comprehension (.ListComp elt [⟨tg,iter,ifs,0⟩] sc pos) sc X.env _ (newList []) false (eval iter X.env) (some (assign (.Name y py) X.env))) _ _ s;refine lA (wpAny_mono (wpAny_comprehension_free (use:=some (assign (.Name y py) X.env)) (Q:=λ Ω s'=>SP X jP D .next s') rfl hs hclos hk hnames ?_) (λ Ω s' hq=>lB (lB hq)) λ Ω Ω e=>e);refine thn (hi jP s σ H _ I h) λ v s1 h1=>thn h1 λ itv s2 h2=>?_;obtain⟨it,fp,tn,J,H2,e,I2,T,st2,f2,q2⟩:=h2;subst e;have hfr:H2 s2.heap.objs.size=none:=I2.fresh;obtain⟨W,⟨m0,w0⟩,turn⟩:=q2 s2.heap.objs.size hfr;have I3:=I2.lnew (ys:=[]) (its:=[]) (t':=s2.toks) .nil (lZ _);have hacc:H2 s2.heap.objs.size=none:=hfr;refine wpAny_newObj_type (wpAny_newFunctionEnv nc (by intro y hy;simp at hy) (λ h4 hns hsb=>?_) hk);generalize hs3:({ s2 with heap:=s2.heap.push { cls:=.type "list", data:=.seq ([]:List Value).toArray } }:Shared)=s3 at hns hsb I3 ⊢;have hheap:s3.heap=s2.heap.push { cls:=.type "list", data:=.seq ([]:List Value).toArray }:=by rw[←hs3]
  generalize hH3:upd H2 s2.heap.objs.size (.lst [])=H3 at I3 w0;have up2:∀b o,s2.heap.get? b=some o->s3.heap.get? b=some o:=λ b o q=>by rw[hheap];exact lE _ q
  have neA:∀b∈fp,b≠s2.heap.objs.size:=λ b hb=>by
    obtain⟨o,q,_⟩:=T.obj _ _ st2 b hb;exact lR (lH q)
  have f3:∀b∈fp,FpOk X jP H3 b:=λ b hb=>⟨by rw[←hH3,zAK (neA b hb)];exact(f2 b hb).1,(f2 b hb).2⟩
  have o3:∀b∈fp,∃o,s3.heap.get? b=some o:=λ b hb=>by
    obtain⟨o,q,_⟩:=T.obj _ _ st2 b hb;exact⟨o,up2 b o q⟩
  have ok':=zIc (N:=N) (C:=s3.heap.objs.size) I3 hk nc (lQ _) f3 o3 c1 c2;generalize hC:s3.heap.objs.size=C at hns hsb ok' ⊢;have ltC:∀b o,s3.heap.get? b=some o->b≠C:=λ b o q=>by rw[←hC];exact lR (lH q)
  have up4:∀b o,s3.heap.get? b=some o->h4.get? b=some o:=λ b o q=>hsb.extBut b o (ltC b o q) (lE _ q);have st4:tn 0 h4:=T.keep _ _ _ st2 λ b hb o q=>up4 b o (up2 b o q)
  have I4:Inv (X.block sc cl N s3 H3 C fp) [] (capSt cap σ) H3 { s3 with heap:=h4,toks:=s3.toks+([]:List (Str × Value)).length }:=by
    refine⟨ok',rfl,I3.bare,Un.kept up4,⟨_,hns,λ i x v e1 e2 e3=>?_⟩,λ x c q=>?_,?_,λ x c q=>I3.freeC x c (c1 x c q),λ p hp=>(nomatch hp),I3.hok.kept up4,?_⟩
    · have ee:∃j,cap[i]?=some (some j)/\σ[j]?=some (some v):=by
        unfold capSt at e2;rw[mI] at e2;cases q:cap[i]? with
        |none=>rw[q] at e2;cases e2
        |some o =>
          rw[q] at e2;cases o with
          |none=>cases e2
          |some j =>
            refine⟨j,rfl,?_⟩;have e2':some ((σ[j]?).join)=some (some v):=e2;cases z:σ[j]? with
            |none=>rw[z] at e2';cases e2'
            |some o' =>
              rw[z] at e2';have e2'':o'=some v:=mF e2';rw[e2'']
      obtain⟨j,ej,es⟩:=ee;obtain⟨x',n1,n2,n3⟩:=hcap i j ej;have e1':N[i]?=some x:=e1;rw[n1] at e1';cases e1';have hfr':(x,NameKind.free)∈sc.names:=zD1 n3;have kc:=hfree x hfr';obtain⟨m,_,hl⟩:=I3.loc;obtain⟨u,r,l⟩:=hl j x v n2 es (.inr (.inl kc));refine⟨u,r,?_⟩;rcases l with ⟨l,_⟩|⟨_,c,ec,z⟩
      · rw[kc] at l;cases l
      · obtain⟨c',ec'⟩:=c2 x hfr'
        have:=c1 x c' ec';rw[ec] at this;cases this;obtain⟨oc,q1,q2⟩:=z;exact .inr ⟨zBL (sc:=sc) n3,c,ec',oc,up4 _ _ q1,q2⟩
    · obtain⟨v,oc,q1,q2⟩:=I3.cell x c (c1 x c q)
      exact⟨v,oc,up4 _ _ q1,q2⟩
    · exact I3.hok.fresh (by rw[hC];exact lQ _)
    · show (capSt cap σ).length=N.length
      unfold capSt;rw[lC,hlen]
  have loop:codeAny (model X.prog X.w) X.A (.compLoop (.ListComp elt [⟨tg,iter,ifs,0⟩] sc pos) 0 (.ref it) (.ref s2.heap.objs.size) (compEnvC sc cl C X.env)) (compPost (model X.prog X.w) X.A X.xe (some (assign (.Name y py) X.env)) (λ Ω s'=>SP X jP D .next s') (.ref s2.heap.objs.size) C)
      { s3 with heap:=h4,toks:=s3.toks+([]:List (Str × Value)).length }:=by
    have stat:∀{H':Hp},(∀b∈fp,H' b=none)->∀b∈fp,FpOk (X.block sc cl N s3 H3 C fp) [] H' b:=λ hn b hb =>
      ⟨hn b hb,(ok'.exf b hb).1,ok'.exfs b hb,.inl hb,(ok'.exf b hb).2,λ p hp=>(nomatch hp)⟩
    refine zGo (λ n s'=>∃i H',Inv (X.block sc cl N s3 H3 C fp) [] (capSt cap σ) H' s'/\tn i s'.heap/\(∀b∈fp,H' b=none)/\W i n H') ?_ m0 ⟨0,H3,I4,st4,λ b hb=>(f3 b hb).1,w0⟩;rintro n s5 ⟨i,H5,I5,st5,fr5,w5⟩;rcases turn i n H5 w5 with ⟨stop,qn⟩|⟨go,N',hN',step⟩
    · refine thn (T.done (X.block sc cl N s3 H3 C fp) rfl rfl rfl hc i [] s5 _ H5 NoX I5 (stat fr5) st5 stop) λ r s6 ⟨hr,I6⟩=>?_
      subst hr;obtain⟨m,hm,_⟩:=I6.loc
      have I7:Inv X jP σ H5 s6:=by
        refine I3.call' (s':=s6) (ch:=fp) I6.os I6.base I6.hok I6.bare λ b hb=>?_;obtain⟨g0,g1,g2,g3,g4,g5⟩:=f3 b hb;exact⟨g3,g1,g4,g5⟩
      have hCl:X.env.locals≠C:=by
        obtain⟨_,hn3,_⟩:=I3.loc;rw[←hC];exact lR hn3.lt
      have hCc:∀x c,X.env.cells.lookup x=some c->c≠C:=λ x c q=>by
        obtain⟨v,oc,q1,q2⟩:=I3.cell x c q;exact ltC _ _ q1
      refine wpAny_assign_Name (zGP I7 hN hjj hxx (v:=.ref s2.heap.objs.size) rfl (λ s9 I9 ⟨a9,sb9,ha9⟩=>?_) hf)
      have hCa:a9≠C:=by
        rcases ha9 with rfl|z
        · exact hCl
        · exact hCc _ _ z
      refine⟨m,hm.sameBut sb9 (Ne.symm hCa),λ h' sb=>⟨_,H5,?_,qn⟩⟩;refine I9.call' (s':={ s9 with heap:=h' }) (ch:=[C]) rfl ?_ (I9.hok.but I6.free sb) I9.bare λ b hb=>?_
      · have st:∀b o,s9.heap.get? b=some o->b∉[C]->h'.get? b=some o:=λ b o q hx=>(sb.2 b (λ z=>hx (by rw[z];exact mR.mpr rfl))).trans q
        exact⟨λ b o q Ω Ω hx=>st b o q hx,λ b o q Ω Ω hx=>⟨o.slots,st b o q hx⟩,λ b o q n Ω=>n,λ b o q hx=>⟨o,st b o q hx⟩,λ Ω Ω q=>q,λ Ω Ω Ω q=>q,λ b ps q=>⟨#[],by simpa using q⟩⟩
      · rw[mR.mp hb]
        exact⟨.inr (by rw[←hC];exact I3.sz),Ne.symm hCl,hCc,λ p hp=>ltC _ _ (I3.pin p hp).1⟩
    · refine thn (T.item (X.block sc cl N s3 H3 C fp) rfl rfl rfl hc i [] s5 _ H5 NoX I5 (stat fr5) st5 go) λ r s6 ⟨u,hr,h6⟩=>?_
      subst hr;refine thn h6 λ _ s7 ⟨x,H7,I7,r7,y7,st7,fr7⟩=>?_;have I7':=I7.pinned (stat fr7) (T.obj _ _ st7)
      have again:∀{σ8:St}{H8:Hp}{s8:Shared},Inv (X.block sc cl N s3 H3 C fp) ([]++zFK fp s7.heap) σ8 H8 s8->Ext (capSt cap σ) σ8->N' H8 ->
          ∃m,m<n/\∃i H',Inv (X.block sc cl N s3 H3 C fp) [] (capSt cap σ) H' s8/\tn i s8.heap/\(∀b∈fp,H' b=none)/\W i m H':=λ{σ8 H8 s8} I8 ex n8=>by
        obtain⟨m',hm,w8⟩:=hN' H8 n8;have I8':=I8.unpinned.weak ex.len ex.get;refine⟨m',hm,i+1,H8,I8',T.keep _ _ _ st7 λ b hb o q=>(I8.pin (b,o) (mC _ (mC _ (zBo hb q)))).1,λ b hb=>?_,w8⟩;obtain⟨o,q,d⟩:=T.obj _ _ st7 b hb;exact(I8.pin (b,o) (mC _ (mC _ (zBo hb q)))).2.1
      refine thn (hg cl s3 H3 C fp _ s7 _ H7 x u _ I7' r7 (step x H7 y7)) λ _ s8 ⟨σ8,H8,I8,ex8,q8⟩=>?_;refine thn (ht cl s3 H3 C fp _ s8 σ8 H8 _ I8 q8) λ b s9 ⟨H9,I9,q9⟩=>?_;cases b with
      |false=>exact again I9 ex8 q9
      |true =>
        rw[if_pos rfl] at q9 ⊢;refine thn (he cl s3 H3 C fp _ s9 σ8 H9 _ I9 q9) λ yv s10 ⟨y,H10,I10,r10,zs,e10,l10,q10⟩=>?_;refine thn (zEd (X:=X.block sc cl N s3 H3 C fp) _ s10 σ8 H10 (.ref s2.heap.objs.size) [y] (.ref s2.heap.objs.size) [yv] (λ Ω H'=>N' H') I10 rfl (.cons r10 .nil) ⟨_,zs,y,rfl,rfl,e10,l10,q10⟩) λ _ s11 ⟨_,H11,I11,_,q11⟩=>?_;exact again I11 ex8 q11
  exact codeAny_compStart_list loop (T.self X.A 0 _ _ _ st4 loop)
theorem zH5 {elt tg iter:Expr}{y:Str}{py spos:Pos}{jj:Nat}{ifs:List Expr}{sc:Scope}{pos:Pos}{wi:TI}{g:TG}{tt:TT}{te:TE}(N:List Str) (cap:List (Option Nat)) (hc:X.calm=true) (hi:PI X tg iter wi)
  (hg:∀cl s H C ex,PG (X.block sc cl N s H C ex) tg g) (ht:∀cl s H C ex,PTs (X.block sc cl N s H C ex) ifs tt) (he:∀cl s H C ex,PE (X.block sc cl N s H C ex) elt te)
  (ck:zIa sc X.env X.N N cap=true) (hN:X.N.Nodup) (hjj:X.N[jj]?=some y) (hxx:Loc X.env.scope y) (hf:X.fn y=true\/X.env.scope.names.lookup y=some .local)
  (hsw:swapsWith (.ListComp elt [⟨tg,iter,ifs,0⟩] sc pos) (some (.Name y py)) spos.line X.env=pure true:=by rfl) (hs:∀x,foldedSetIterable iter X.env x=pure x:=by intro _;rfl):PS X (.Assign [.Name y py] (.ListComp elt [⟨tg,iter,ifs,0⟩] sc pos) spos) (tAsg (tComp cap wi g tt te) (gName jj)):=by
 unfold zIa at ck;simp only[Bool.and_eq_true] at ck;obtain⟨⟨⟨⟨⟨k1,k2⟩,k3⟩,k4⟩,k5⟩,k6⟩:=ck;refine zMm N cap hc hi hg ht he (by simpa using k1) (λ y hy=>?_) (λ y hy z=>?_) (λ n hn=>?_) (λ i j e=>?_) (by simpa using k6) hN hjj hxx hf hsw hs
 ·have:=List.all_eq_true.mp k2 y hy
  simpa using this
 ·have:=List.all_eq_true.mp k3 y hy
  rw[z] at this;simpa using this
 ·have:=List.all_eq_true.mp k4 _ hn
  simpa using this
 ·have hi:i<cap.length:=(lJ.mp e).1
  have:=List.all_eq_true.mp k5 i (List.mem_range.mpr hi);rw[e] at this;dsimp only at this;cases q:N[i]? with
  |none=>rw[q] at this;cases this
  |some x =>
   rw[q] at this;dsimp only at this;rw[Bool.and_eq_true] at this;exact⟨x,rfl,by simpa using this.1,by simpa using this.2⟩
end
inductive Dt where
 |int (i:Int)|str (x:Str)|tup (ds:List Dt)
mutual
def Dt.beq:Dt->Dt->Bool
 |.int i,.int j=>decide (i=j)
 |.str x,.str y=>decide (x=y)
 |.tup ds,.tup es=>Dt.beqs ds es
 |_,_=>false
def Dt.beqs:List Dt->List Dt->Bool
 |[],[]=>true
 |d::ds,e::es=>Dt.beq d e && Dt.beqs ds es
 |_,_=>false
end
mutual
theorem Dt.beq_iff:∀{d e:Dt},Dt.beq d e=true↔d=e
 |.int i,.int j=>by simp[Dt.beq]
 |.str x,.str y=>by simp[Dt.beq]
 |.tup ds,.tup es=>by
  have:=Dt.beqs_iff (ds:=ds) (es:=es);simp[Dt.beq,this]
 |.int _,.str _=>by simp[Dt.beq]
 |.int _,.tup _=>by simp[Dt.beq]
 |.str _,.int _=>by simp[Dt.beq]
 |.str _,.tup _=>by simp[Dt.beq]
 |.tup _,.int _=>by simp[Dt.beq]
 |.tup _,.str _=>by simp[Dt.beq]
theorem Dt.beqs_iff:∀{ds es:List Dt},Dt.beqs ds es=true↔ds=es
 |[],[]=>by simp[Dt.beqs]
 |[],_::_=>by simp[Dt.beqs]
 |_::_,[]=>by simp[Dt.beqs]
 |d::ds,e::es=>by
  have h1:=Dt.beq_iff (d:=d) (e:=e);have h2:=Dt.beqs_iff (ds:=ds) (es:=es);simp[Dt.beqs,h1,h2]
end
mutual
noncomputable def Dt.deep:Dt->Nat
 |.tup ds=>Dt.deeps ds+1
 |_=>0
noncomputable def Dt.deeps:List Dt->Nat
 |[]=>0
 |d::ds=>max (Dt.deep d) (Dt.deeps ds)
end
mutual
inductive DR (H:Hp):Dt->V->Prop
 |int (i:Int):DR H (.int i) (.int i)
 |str (x:Str):DR H (.str x) (.str x)
 |tup {a:Addr}{xs:List V}{ds:List Dt}:H a=some (.tup xs)->DRs H ds xs->DR H (.tup ds) (.ref a)
inductive DRs (H:Hp):List Dt->List V->Prop
 |nil:DRs H [] []
 |cons {d:Dt}{v:V}{ds:List Dt}{vs:List V}:DR H d v->DRs H ds vs->DRs H (d::ds) (v::vs)
end
mutual
theorem DR.mono {H H':Hp}(k:Tk H H'):∀{d:Dt}{v:V},DR H d v->DR H' d v
 |_,_,.int i=>.int i
 |_,_,.str x=>.str x
 |_,_,.tup h r=>.tup (k _ _ h) (DRs.mono k r)
theorem DRs.mono {H H':Hp}(k:Tk H H'):∀{ds:List Dt}{vs:List V},DRs H ds vs->DRs H' ds vs
 |_,_,.nil=>.nil
 |_,_,.cons r t=>.cons (DR.mono k r) (DRs.mono k t)
end
theorem DRs.length {H:Hp}:∀{ds:List Dt}{vs:List V},DRs H ds vs->ds.length=vs.length
 |_,_,.nil=>rfl
 |_,_,.cons _ t=>congrArg (· + 1) t.length
mutual
theorem DR.inj {H:Hp}:∀{d e:Dt}{v:V},DR H d v->DR H e v->d=e
 |_,_,_,.int _,.int _=>rfl
 |_,_,_,.str _,.str _=>rfl
 |_,_,_,.tup h r,.tup h' r'=>by
  rw[h] at h';cases h';rw[DRs.inj r r']
theorem DRs.inj {H:Hp}:∀{ds es:List Dt}{vs:List V},DRs H ds vs->DRs H es vs->ds=es
 |_,_,_,.nil,.nil=>rfl
 |_,_,_,.cons r t,.cons r' t'=>by rw[DR.inj r r',DRs.inj t t']
end
theorem DRs.get {H:Hp}:∀{ds:List Dt}{vs:List V}{j:Nat}{v:V},DRs H ds vs->vs[j]?=some v->∃d,ds[j]?=some d/\DR H d v
 |_,_,_,_,.nil,e=>by simp at e
 |_,_,0,_,.cons r _,e=>by simp at e;subst e;exact⟨_,rfl,r⟩
 |_,_,j+1,v,.cons _ t,e=>by
  obtain⟨d,h1,h2⟩:=DRs.get (j:=j) (v:=v) t (by simpa using e);exact⟨d,by simpa using h1,h2⟩
theorem zGA:∀{ds:List Dt}{j:Nat}{d:Dt},ds[j]?=some d->d.deep<=Dt.deeps ds
 |[],_,_,h=>by simp at h
 |e::ds,0,d,h=>by simp at h;subst h;simp[Dt.deeps];omega
 |e::ds,j+1,d,h=>by
  have:=zGA (ds:=ds) (j:=j) (d:=d) (by simpa using h);simp[Dt.deeps];omega
theorem zId:∀(ds es:List Dt),Dt.beqs ds es=((List.range (min ds.length es.length)).all (λ j=>match ds[j]?,es[j]? with|some d,some e=>Dt.beq d e|_,_=>false) && ds.length == es.length):=by
 intro ds es;rw[Bool.eq_iff_iff,Dt.beqs_iff,Bool.and_eq_true,List.all_eq_true];constructor
 ·rintro rfl
  refine⟨λ j hj=>?_,by simp⟩;have hj':j<ds.length:=by simpa using List.mem_range.mp hj
  simp[nO hj',Dt.beq_iff]
 ·rintro⟨h,hl⟩
  have hl':ds.length=es.length:=by simpa using hl
  refine List.ext_getElem hl' λ j h1 h2=>?_;have:=h j (List.mem_range.mpr (by omega));simpa[nO h1,nO h2,Dt.beq_iff] using this
section
variable {X:Cx}{jP:List (Addr × Obj)}{σ:St}{H:Hp}{s:Shared}
theorem zNI (I:Inv X jP σ H s):∀(n:Nat) (A:Around) {d e:Dt}{v z:V}{u y:Value},d.deep<=n->DR H d v->DR H e z->RelV v u->RelV z y->A.units+n<cLine->SeqAt.EqAt A s u y (Dt.beq d e):=by
 intro n
 induction n with
 |zero =>
  intro A d e v z u y hn rd re ru ry hu;cases rd with
  |int i =>
   obtain⟨t,rfl⟩:=ru;cases re with
   |int j=>obtain⟨t',rfl⟩:=ry;rw[show Dt.beq (.int i) (.int j)=(i == j) by simp[Dt.beq,Bool.beq_eq_decide_eq]];exact SeqAt.EqAt.int_int i t j t'
   |str x=>obtain⟨t',rfl⟩:=ry;exact SeqAt.EqAt.int_str i t x t'
   |tup h r =>
    cases ry;obtain⟨its,rv,p,_⟩:=I.tuple (SqT.of h);exact SeqAt.EqAt.int_tuple i t (show s.heap.IsTuple _ its.toArray from p) (by omega)
  |str x =>
   obtain⟨t,rfl⟩:=ru;cases re with
   |int j=>obtain⟨t',rfl⟩:=ry;exact SeqAt.EqAt.str_int x t j t'
   |str w'=>obtain⟨t',rfl⟩:=ry;rw[show Dt.beq (.str x) (.str w')=(x == w') by simp[Dt.beq,Bool.beq_eq_decide_eq]];exact SeqAt.EqAt.str_str x t w' t'
   |tup h r =>
    cases ry;obtain⟨its,rv,p,_⟩:=I.tuple (SqT.of h);exact SeqAt.EqAt.str_tuple x t (show s.heap.IsTuple _ its.toArray from p) (by omega)
  |tup h r=>simp[Dt.deep] at hn
 |succ n ih =>
  intro A d e v z u y hn rd re ru ry hu;cases rd with
  |int i =>
   obtain⟨t,rfl⟩:=ru;cases re with
   |int j=>obtain⟨t',rfl⟩:=ry;rw[show Dt.beq (.int i) (.int j)=(i == j) by simp[Dt.beq,Bool.beq_eq_decide_eq]];exact SeqAt.EqAt.int_int i t j t'
   |str x=>obtain⟨t',rfl⟩:=ry;exact SeqAt.EqAt.int_str i t x t'
   |tup h r =>
    cases ry;obtain⟨its,rv,p,_⟩:=I.tuple (SqT.of h);exact SeqAt.EqAt.int_tuple i t (show s.heap.IsTuple _ its.toArray from p) (by omega)
  |str x =>
   obtain⟨t,rfl⟩:=ru;cases re with
   |int j=>obtain⟨t',rfl⟩:=ry;exact SeqAt.EqAt.str_int x t j t'
   |str w'=>obtain⟨t',rfl⟩:=ry;rw[show Dt.beq (.str x) (.str w')=(x == w') by simp[Dt.beq,Bool.beq_eq_decide_eq]];exact SeqAt.EqAt.str_str x t w' t'
   |tup h r =>
    cases ry;obtain⟨its,rv,p,_⟩:=I.tuple (SqT.of h);exact SeqAt.EqAt.str_tuple x t (show s.heap.IsTuple _ its.toArray from p) (by omega)
  | @tup a xs ds ha rs =>
   cases ru;obtain⟨its,rv,p,_⟩:=I.tuple (SqT.of ha);have hn':Dt.deeps ds<=n:=by simpa[Dt.deep] using hn
   cases re with
   |int j=>obtain⟨t',rfl⟩:=ry;exact SeqAt.EqAt.tuple_int j t' (show s.heap.IsTuple _ its.toArray from p) (by omega)
   |str w'=>obtain⟨t',rfl⟩:=ry;exact SeqAt.EqAt.tuple_str w' t' (show s.heap.IsTuple _ its.toArray from p) (by omega)
   | @tup b ys es hb rs' =>
    cases ry
    by_cases hab:a=b
    ·subst hab
     rw[ha] at hb;cases hb;have:ds=es:=DRs.inj rs rs';subst this;rw[show Dt.beq (.tup ds) (.tup ds)=true from Dt.beq_iff.mpr rfl];exact SeqAt.EqAt.same _
    ·obtain⟨its2,rv2,p2,_⟩:=I.tuple (SqT.of hb)
     refine SeqAt.EqAt.of_refs hab ?_;have l1:=rv.length;have l2:=rv2.length;have m1:=rs.length;have m2:=rs'.length
     have key:=SeqAt.RcAt.tuples (A:=A) (s:=s) (e:=λ j=>match ds[j]?,es[j]? with|some d,some e=>Dt.beq d e|_,_=>false) (show s.heap.IsTuple _ its.toArray from p) (show s.heap.IsTuple _ its2.toArray from p2) (by omega) λ j h1 h2=>by
      have g1:j<xs.length:=by rw[l1];simpa using h1
      have g2:j<ys.length:=by rw[l2];simpa using h2
      obtain⟨u1,eu,r1⟩:=rv.get (lX g1);obtain⟨u2,ev,r2⟩:=rv2.get (lX g2);obtain⟨d1,ed,rd1⟩:=rs.get (lX g1);obtain⟨d2,ed2,rd2⟩:=rs'.get (lX g2);have e1:its.toArray[j]=u1:=by obtain⟨_,q⟩:=lJ.mp eu;simpa using q
      have e2:its2.toArray[j]=u2:=by obtain⟨_,q⟩:=lJ.mp ev;simpa using q
      simp only[ed,ed2,e1,e2];exact ih A.in1 (mH (zGA ed) hn') rd1 rd2 r1 r2 (by rw[show A.in1.units=A.units+1 from rfl];omega)
     have ez:Dt.beq (.tup ds) (.tup es)=((List.range (min its.toArray.size its2.toArray.size)).all (λ j=>match ds[j]?,es[j]? with|some d,some e=>Dt.beq d e|_,_=>false) && its.toArray.size == its2.toArray.size):=by
      rw[show Dt.beq (.tup ds) (.tup es)=Dt.beqs ds es by simp[Dt.beq],zId];have a1:its.toArray.size=ds.length:=by simp;omega
      have a2:its2.toArray.size=es.length:=by simp;omega
      rw[a1,a2]
     rw[ez];exact key
def rEqD (neg:Bool):R2:=λ x y H Q=>∃(ds es:List Dt),DR H (.tup ds) x/\DR H (.tup es) y/\(Dt.tup ds).deep<=150/\Q (.bl (if neg then !Dt.beqs ds es else Dt.beqs ds es)) H
theorem zKZ (I:Inv X jP σ H s) {a b:Addr}{ds es:List Dt}(hd:DR H (.tup ds) (.ref a)) (he:DR H (.tup es) (.ref b)) (hdeep:(Dt.tup ds).deep<=150) (hu:X.A.units+150<cLine) :
  ∃its its2:List Value,s.heap.IsTuple a its.toArray/\s.heap.IsTuple b its2.toArray/\its.toArray.size=ds.length/\its2.toArray.size=es.length /\
   ∀j (h1:j<its.toArray.size) (h2:j<its2.toArray.size),SeqAt.EqAt X.A.in1 s its.toArray[j] its2.toArray[j] ((λ j=>match ds[j]?,es[j]? with|some d,some e=>Dt.beq d e|_,_=>false) j):=by
 cases hd with
 | @tup _ xs _ ha rs =>
  cases he with
  | @tup _ ys _ hb rs' =>
   obtain⟨its,rv,p,_⟩:=I.tuple (SqT.of ha);obtain⟨its2,rv2,p2,_⟩:=I.tuple (SqT.of hb);have l1:=rv.length;have l2:=rv2.length;have m1:=rs.length;have m2:=rs'.length;refine⟨its,its2,p,p2,by simp;omega,by simp;omega,λ j h1 h2=>?_⟩;have g1:j<xs.length:=by rw[l1];simpa using h1
   have g2:j<ys.length:=by rw[l2];simpa using h2
   obtain⟨u1,eu,r1⟩:=rv.get (lX g1);obtain⟨u2,ev,r2⟩:=rv2.get (lX g2);obtain⟨d1,ed,rd1⟩:=rs.get (lX g1);obtain⟨d2,ed2,rd2⟩:=rs'.get (lX g2);have e1:its.toArray[j]=u1:=by obtain⟨_,q⟩:=lJ.mp eu;simpa using q
   have e2:its2.toArray[j]=u2:=by obtain⟨_,q⟩:=lJ.mp ev;simpa using q
   simp only[ed,ed2,e1,e2];have dd:Dt.deeps ds+1<=150:=by simpa[Dt.deep] using hdeep
   exact zNI I 149 X.A.in1 (mH (zGA ed) (by omega)) rd1 rd2 r1 r2 (by rw[show X.A.in1.units=X.A.units+1 from rfl];omega)
theorem zML (hu:X.A.units+150<cLine):OpR X (compareOp .Eq) (rEqD false):=by
 intro jP s σ H x y v u Q I rx ry h;obtain⟨ds,es,hd,he,hdeep,q⟩:=h;obtain⟨a,rfl⟩:∃a,x = .ref a:=by cases hd;exact⟨_,rfl⟩
 obtain⟨b,rfl⟩:∃b,y = .ref b:=by cases he;exact⟨_,rfl⟩
 cases rx;cases ry;obtain⟨its,its2,p,p2,z1,z2,hall⟩:=zKZ I hd he hdeep hu;refine SeqAt.eq_tupleAt p p2 (by omega) hall ?_;rw[z1,z2,←zId];exact⟨.bl (Dt.beqs ds es),H,I,rfl,by simpa using q⟩
theorem hu150 {k:Nat}{A:Around}(hr:Room k A):A.units+150<cLine:=by have:=hr.un;omega
end
theorem itB {h h':Heap}{a b t:Addr}{i:Nat}(x:h.IsTupleIter a t i) (e:Heap.SameBut b h h') (n:a≠b):h'.IsTupleIter a t i:=x.extBut e.extBut n
theorem tpB {h h':Heap}{a b:Addr}{xs:Array Value}(x:h.IsTuple a xs) (e:Heap.SameBut b h h') (n:a≠b):h'.IsTuple a xs:=let ⟨o,ho,r⟩:=x;⟨o,e.extBut a o n ho,r⟩
section
variable {prog:Program}{w:World}{A:Around}{E:XQ}{s:Shared}
theorem zJF {z TI TO i1 i2 l1 l2:Addr}{k:Nat}{xs ys:Array Value}{x y a b:Value}{Q:Option Value->Shared->Prop}(D:ZipApart z TI TO i1 i2 l1 l2)
  (hz:IsZip s.heap z TI TO .none) (hTI:IsPair s.heap TI (.ref i1) (.ref i2)) (hTO:IsPair s.heap TO a b) (h1:s.heap.IsTupleIter i1 l1 k) (h2:s.heap.IsTupleIter i2 l2 k)
  (hl1:s.heap.IsTuple l1 xs) (hl2:s.heap.IsTuple l2 ys) (hx:xs[k]?=some x) (hy:ys[k]?=some y)
  (hQ:∀h',IsZip h' z TI TO (rawInt s.heap.objs.size)->IsPair h' TO x y->h'.IsTupleIter i1 l1 (k+1)->h'.IsTupleIter i2 l2 (k+1)->IsPair h' s.heap.objs.size x y ->
   (∀c o,c≠z->c≠TO->c≠i1->c≠i2->s.heap.get? c=some o->h'.get? c=some o)->Q (some (.ref s.heap.objs.size)) { s with heap:=h' }):wpAny (model prog w) A (pyNext (.ref z)) Q E s:=by
 have hT:s.TypeIs (.ref z) "zip" := ⟨_,hz,rfl⟩;unfold pyNext;refine lA (wpAny_attempt (wpAny_callSpecial?_slot (name:=Str.ofString "__next__") hT F.slot_zip_next (wpAny_call_entry F.slot_zip_next hT F.entry_zip_next ?_ (F.args_zip_next_1 _))));show wpAny _ _ (field (.ref z) 2 >>= _) _ _ _;refine lA (wpAny_field hz rfl (x:=.bool false) rfl ?_);show wpAny _ _ (field (.ref z) 3 >>= _) _ _ _;refine lA (wpAny_field hz rfl (x:=.ref TI) rfl ?_);refine lA (wpAny_seqItems hTI rfl ?_);show wpAny _ _ (Builtin.SmallTypes.ownedTupleIsFree (.ref z) >>= _) _ _ _;refine lA ?_;unfold Builtin.SmallTypes.ownedTupleIsFree;refine lA (wpAny_field hz rfl (x:=.none) rfl (lB ?_));simp only[if_true];refine lA (wpAny_rule ?_);refine lA (wpAny_field hz rfl (x:=.ref TO) rfl ?_);refine lA (wpAny_setField_rec hz (by simp) λ q1 hz1 hs1=>?_);replace hz1:IsZip q1 z TI TO .ellipsis:=hz1;refine lA ?_;simp only[List.zipIdx_cons,List.zipIdx_nil,List.forIn_cons,List.forIn_nil];refine lA (lA (wpAny_onRaise ?_));show wpAny _ _ (Builtin.SmallTypes.nextOf (.ref i1) >>= _) _ _ _;refine lA (zBj (itB h1 hs1 D.i1z) (tpB hl1 hs1 D.l1z) hx λ q2 j1 hs2=>lB ?_);have hTO2:IsPair q2 TO a b:=hs2.extBut _ _ D.TOi1 (hs1.extBut _ _ D.TOz hTO);refine lA (wpAny_seqItems hTO2 rfl ?_);refine lA (wpAny_updateSeq_pair hTO2 λ q3 hTO3 hs3=>?_);replace hTO3:IsPair q3 TO x b:=hTO3;refine lA (wpAny_letGo (lB ?_));refine lA (lA (wpAny_onRaise ?_));show wpAny _ _ (Builtin.SmallTypes.nextOf (.ref i2) >>= _) _ _ _;refine lA (zBj (itB (itB (itB h2 hs1 D.i2z) hs2 D.i12.symm) hs3 D.TOi2.symm) (tpB (tpB (tpB hl2 hs1 D.l2z) hs2 D.l2i1) hs3 D.l2TO) hy λ q4 j2 hs4=>lB ?_);have hTO4:IsPair q4 TO x b:=hs4.extBut _ _ D.TOi2 hTO3;refine lA (wpAny_seqItems hTO4 rfl ?_);refine lA (wpAny_updateSeq_pair hTO4 λ q5 hTO5 hs5=>?_);replace hTO5:IsPair q5 TO x y:=hTO5;refine lA (wpAny_letGo (lB (lB ?_)));refine lA (wpAny_seqItems hTO5 rfl ?_);refine lA (wpAny_newTuple ?_);have hsz:q5.objs.size=s.heap.objs.size:=by rw[hs5.1,hs4.1,hs3.1,hs2.1,hs1.1]
 have hz5:IsZip q5 z TI TO .ellipsis:=hs5.extBut _ _ D.TOz.symm (hs4.extBut _ _ D.i2z.symm (hs3.extBut _ _ D.TOz.symm (hs2.extBut _ _ D.i1z.symm hz1)));have hk5:∀c o,c≠z->c≠TO->c≠i1->c≠i2->s.heap.get? c=some o->q5.get? c=some o:=λ c o c1 c2 c3 c4 e=>hs5.extBut _ _ c2 (hs4.extBut _ _ c4 (hs3.extBut _ _ c2 (hs2.extBut _ _ c3 (hs1.extBut _ _ c1 e))));have j15:q5.IsTupleIter i1 l1 (k+1):=itB (itB (itB j1 hs3 D.TOi1.symm) hs4 D.i12) hs5 D.TOi1.symm;have j25:q5.IsTupleIter i2 l2 (k+1):=itB j2 hs5 D.TOi2.symm;have hzlt:z<q5.objs.size:=lH hz5;show wpAny _ _ (Builtin.SmallTypes.ownedTupleHandOut (.ref z) (.ref q5.objs.size) >>= _) _ _ _;refine lA ?_;unfold Builtin.SmallTypes.ownedTupleHandOut;have hz6:IsZip (q5.push { cls:=.type "tuple", data:=.seq #[x,y] }) z TI TO .ellipsis:=lE _ hz5;refine lA (wpAny_setField_rec hz6 (by simp) λ q7 hz7 hs7=>?_);replace hz7:IsZip q7 z TI TO (rawInt q5.objs.size):=hz7;refine wpAny_setField_rec hz7 (by simp) λ q8 hz8 hs8=>?_;replace hz8:IsZip q8 z TI TO (rawInt q5.objs.size):=hz8;have up:∀c o,c≠z->q5.get? c=some o->q8.get? c=some o:=λ c o c1 e=>hs8.extBut _ _ c1 (hs7.extBut _ _ c1 (lE _ e));have hT8:IsPair q8 q5.objs.size x y:=hs8.extBut _ _ (Nat.ne_of_gt hzlt) (hs7.extBut _ _ (Nat.ne_of_gt hzlt) (lG _ rfl));rw[hsz] at hz8 hT8;refine lB ⟨_,rfl,lB ?_⟩;show Q (some (.ref q5.objs.size)) _;rw[hsz];exact hQ q8 hz8 (up _ _ D.TOz hTO5) (let ⟨o,e,r⟩:=j15;⟨o,up _ o D.i1z e,r⟩) (let ⟨o,e,r⟩:=j25;⟨o,up _ o D.i2z e,r⟩) hT8 λ c o c1 c2 c3 c4 e=>up c o c1 (hk5 c o c1 c2 c3 c4 e)
theorem zKy {z TI TO i1 i2 l1 l2:Addr}{k:Nat}{xs ys:Array Value}{a b:Value}{Q:Option Value->Shared->Prop}(hh:A.handled=none) (D:ZipApart z TI TO i1 i2 l1 l2)
    (hz:IsZip s.heap z TI TO .none) (hTI:IsPair s.heap TI (.ref i1) (.ref i2)) (hTO:IsPair s.heap TO a b) (h1:s.heap.IsTupleIter i1 l1 k) (h2:s.heap.IsTupleIter i2 l2 k)
    (hl1:s.heap.IsTuple l1 xs) (hl2:s.heap.IsTuple l2 ys) (hend:xs[k]?=none\/ys[k]?=none)
    (hQ:∀h',(∀c o,c≠z->c≠TO->c≠i1->c≠i2->s.heap.get? c=some o->h'.get? c=some o)->Q none { s with heap:=h' }):wpAny (model prog w) A (pyNext (.ref z)) Q E s:=by
  have hT:s.TypeIs (.ref z) "zip" := ⟨_,hz,rfl⟩;unfold pyNext
  have fin:∀(h':Heap) (e:Addr),(∀c o,c≠z->c≠TO->c≠i1->c≠i2->s.heap.get? c=some o->h'.get? c=some o)->(∃o,h'.get? e=some o/\o.cls = .type "StopIteration") ->
      wpAny (model prog w) A (do if ← isInstance (.ref e) (.type "StopIteration") then pure none else throw (.ref e)) Q E { s with heap:=h' }:=λ h' e hk ⟨o,ho,hc⟩ =>
    lA (wpAny_isInstance (T := "StopIteration") (b:=true) ⟨o,ho,hc⟩ isSubtype_stop (lB (hQ _ hk)))
  refine lA (wpAny_attempt (wpAny_callSpecial?_slot (name:=Str.ofString "__next__") hT F.slot_zip_next (wpAny_call_entry F.slot_zip_next hT F.entry_zip_next ?_ (F.args_zip_next_1 _))));show wpAny _ _ (field (.ref z) 2 >>= _) _ _ _;refine lA (wpAny_field hz rfl (x:=.bool false) rfl ?_);show wpAny _ _ (field (.ref z) 3 >>= _) _ _ _;refine lA (wpAny_field hz rfl (x:=.ref TI) rfl ?_);refine lA (wpAny_seqItems hTI rfl ?_);show wpAny _ _ (Builtin.SmallTypes.ownedTupleIsFree (.ref z) >>= _) _ _ _;refine lA ?_;unfold Builtin.SmallTypes.ownedTupleIsFree;refine lA (wpAny_field hz rfl (x:=.none) rfl (lB ?_));simp only[if_true];refine lA (wpAny_rule ?_);refine lA (wpAny_field hz rfl (x:=.ref TO) rfl ?_);refine lA (wpAny_setField_rec hz (by simp) λ q1 hz1 hs1=>?_);replace hz1:IsZip q1 z TI TO .ellipsis:=hz1;refine lA ?_;simp only[List.zipIdx_cons,List.zipIdx_nil,List.forIn_cons,List.forIn_nil];refine lA (lA (wpAny_onRaise ?_));show wpAny _ _ (Builtin.SmallTypes.nextOf (.ref i1) >>= _) _ _ _;cases hx:xs[k]? with
  |none =>
    refine lA (zB3 hh (itB h1 hs1 D.i1z) (tpB hl1 hs1 D.l1z) hx λ q2 e hs2 he=>?_);obtain⟨oe,hoe,hce⟩:=he;have hz2:IsZip q2 z TI TO .ellipsis:=hs2 _ _ D.i1z.symm hz1;have hez:e≠z:=λ x=>by subst x;rw[hz2] at hoe;cases hoe;simp at hce
    exact wpAny_setField_rec hz2 (by simp) λ q3 Ω hs3=>fin q3 e (λ c o c1 Ω c3 Ω x=>hs3.extBut _ _ c1 (hs2 _ _ c3 (hs1.extBut _ _ c1 x))) ⟨oe,hs3.extBut _ _ hez hoe,hce⟩
  |some x =>
    have hy:ys[k]?=none:=by rcases hend with h|h;rw[hx] at h;cases h;exact h
    refine lA (zBj (itB h1 hs1 D.i1z) (tpB hl1 hs1 D.l1z) hx λ q2 j1 hs2=>lB ?_);have hTO2:IsPair q2 TO a b:=hs2.extBut _ _ D.TOi1 (hs1.extBut _ _ D.TOz hTO);refine lA (wpAny_seqItems hTO2 rfl ?_);refine lA (wpAny_updateSeq_pair hTO2 λ q3 hTO3 hs3=>?_);refine lA (wpAny_letGo (lB ?_));refine lA (lA (wpAny_onRaise ?_));show wpAny _ _ (Builtin.SmallTypes.nextOf (.ref i2) >>= _) _ _ _;refine lA (zB3 hh (itB (itB (itB h2 hs1 D.i2z) hs2 D.i12.symm) hs3 D.TOi2.symm) (tpB (tpB (tpB hl2 hs1 D.l2z) hs2 D.l2i1) hs3 D.l2TO) hy λ q4 e hs4 he=>?_);obtain⟨oe,hoe,hce⟩:=he;have hz4:IsZip q4 z TI TO .ellipsis:=hs4 _ _ D.i2z.symm (hs3.extBut _ _ D.TOz.symm (hs2.extBut _ _ D.i1z.symm hz1));have hez:e≠z:=λ x=>by subst x;rw[hz4] at hoe;cases hoe;simp at hce
    exact wpAny_setField_rec hz4 (by simp) λ q5 Ω hs5=>fin q5 e (λ c o c1 c2 c3 c4 x=>hs5.extBut _ _ c1 (hs4 _ _ c4 (hs3.extBut _ _ c2 (hs2.extBut _ _ c3 (hs1.extBut _ _ c1 x))))) ⟨oe,hs5.extBut _ _ hez hoe,hce⟩
end
theorem zI4 (l1 l2:Addr) (xs ys:Array Value) :
    Meets (Builtin.«zip.__new__» ⟨[.type "zip", .ref l1,.ref l2],[]⟩) (λ Ω R s=>s.heap.IsTuple l1 xs/\s.heap.IsTuple l2 ys /\
      ∀(h':Heap) (z TI TO i1 i2:Addr),(∀c o,s.heap.get? c=some o->h'.get? c=some o)->s.heap.objs.size<=z->s.heap.objs.size<=TI->s.heap.objs.size<=TO->s.heap.objs.size<=i1->s.heap.objs.size<=i2 ->
        (TI≠z/\TO≠z/\i1≠z/\i2≠z/\TI≠TO/\TI≠i1/\TI≠i2/\TO≠i1/\TO≠i2/\i1≠i2)->IsZip h' z TI TO .none->IsPair h' TI (.ref i1) (.ref i2)->IsPair h' TO .none .none->h'.IsTupleIter i1 l1 0->h'.IsTupleIter i2 l2 0 ->
        R (.ok (.ret (.ref z))) { s with heap:=h' }) :=
  .of_wp λ prog w A R s h=>by
    obtain⟨hp,g,d,tk,os⟩:=s;obtain⟨hl1,hl2,h⟩:=h;have hsub:=sub_zip;have hL1:Heap.IsTuple (Shared.heap ⟨hp,g,d,tk,os⟩) l1 xs:=hl1;have hL2:Heap.IsTuple (Shared.heap ⟨hp.push { cls:=.type "tuple_iterator", data:=.fields #[.ref l1,.int 0 0] },g,d,tk,os⟩) l2 ys:=let ⟨o,ho,r⟩:=hl2;⟨o,lE _ ho,r⟩
    wp_walk using wpAny_pyIter_tuple hL1,wpAny_pyIter_tuple hL2
    refine⟨_,rfl,h _ _ _ _ _ _ (λ c o e=>lE _ (lE _ (lE _ (lE _ (lE _ e))))) ?_ ?_ ?_ ?_ ?_ ?_ (lG _ rfl) (lE _ (lE _ (lG _ rfl))) (lE _ (lG _ rfl))
      ⟨_,lE _ (lE _ (lE _ (lE _ (lG _ rfl)))),rfl,rfl⟩ ⟨_,lE _ (lE _ (lE _ (lG _ rfl))),rfl,rfl⟩⟩
    all_goals simp only[Heap.size_push]
    all_goals first
      |omega
      | (refine⟨?_,?_,?_,?_,?_,?_,?_,?_,?_,?_⟩<;>(intro e;have e' : @Eq Nat _ _:=e;omega))
section
variable {prog:Program}{w:World}{A:Around}{E:XQ}{s:Shared}
theorem zKo {l1 l2:Addr}{xs ys:Array Value}{Q:XQ}(hl1:s.heap.IsTuple l1 xs) (hl2:s.heap.IsTuple l2 ys)
  (h:∀(h':Heap) (z TI TO i1 i2:Addr),(∀c o,s.heap.get? c=some o->h'.get? c=some o)->s.heap.objs.size<=z->s.heap.objs.size<=TI->s.heap.objs.size<=TO->s.heap.objs.size<=i1->s.heap.objs.size<=i2 ->
    (TI≠z/\TO≠z/\i1≠z/\i2≠z/\TI≠TO/\TI≠i1/\TI≠i2/\TO≠i1/\TO≠i2/\i1≠i2)->IsZip h' z TI TO .none->IsPair h' TI (.ref i1) (.ref i2)->IsPair h' TO .none .none->h'.IsTupleIter i1 l1 0->h'.IsTupleIter i2 l2 0->Q (.ref z) { s with heap:=h' }) :
  wpAny (model prog w) A (call (.type "zip") [.ref l1,.ref l2]) Q E s:=by
 refine callType_new F.called_zip (by decide) (F.typeCall_zip_2 _ _) (F.newCall_zip_2 _ _) (λ obj=>F.args_object_init_3 obj _ _) F.entry_zip_new (zI4 l1 l2 xs ys) ⟨hl1,hl2,λ h' z TI TO i1 i2 a0 a1 a2 a3 a4 a5 a6 a7 a8 a9 b1 b2=>?_⟩;exact⟨⟨_,a7,rfl⟩,h h' z TI TO i1 i2 a0 a1 a2 a3 a4 a5 a6 a7 a8 a9 b1 b2⟩
end
noncomputable def Itz (a b:Addr):It :=
 ⟨λ i H=>∃xs ys x y,H a=some (.tup xs)/\H b=some (.tup ys)/\xs[i]?=some x/\ys[i]?=some y,
 λ i H v H'=>∃T x y,H T=none/\v = .ref T/\H'=upd H T (.tup [x,y])/\(∀xs,H a=some (.tup xs)->xs[i]?=some x)/\∀ys,H b=some (.tup ys)->ys[i]?=some y,
 λ i H=>∃xs ys,H a=some (.tup xs)/\H b=some (.tup ys)/\(xs.length<=i\/ys.length<=i)⟩
theorem zK5 {P:Program}{w:World}{K:W.Frag}{es:List Expr}{kk:Nat}{pos:Pos}(a b z TI TO i1 i2:Addr)
  (ap:TI≠z/\TO≠z/\i1≠z/\i2≠z/\TI≠TO/\TI≠i1/\TI≠i2/\TO≠i1/\TO≠i2/\i1≠i2) :
  Turn P w K (.Tuple es kk pos) (Itz a b) [z,TI,TO,i1,i2] z (λ i h=>IsZip h z TI TO .none/\IsPair h TI (.ref i1) (.ref i2)/\(∃p q,IsPair h TO p q)/\h.IsTupleIter i1 a i/\h.IsTupleIter i2 b i) where
 mem:=by simp
 obj:=λ i h st c hc=>by
  obtain⟨hz,hTI,⟨p,q,hTO⟩,⟨o1,e1,c1,d1⟩,o2,e2,c2,d2⟩:=st;simp only[nN,nB,or_false] at hc;rcases hc with rfl|rfl|rfl|rfl|rfl
  ·exact⟨_,hz,λ v z=>by have z':Data.fields _=Data.cell v:=z;cases z'⟩
  ·exact⟨_,hTI,λ v z=>by have z':Data.seq _ _=Data.cell v:=z;cases z'⟩
  ·exact⟨_,hTO,λ v z=>by have z':Data.seq _ _=Data.cell v:=z;cases z'⟩
  ·exact⟨o1,e1,λ v z=>by rw[d1] at z;cases z⟩
  ·exact⟨o2,e2,λ v z=>by rw[d2] at z;cases z⟩
 keep:=λ i h h' st k=>by
  obtain⟨hz,hTI,⟨p,q,hTO⟩,⟨o1,e1,r1⟩,o2,e2,r2⟩:=st;exact⟨k z (by simp) _ hz,k TI (by simp) _ hTI,⟨p,q,k TO (by simp) _ hTO⟩,⟨o1,k i1 (by simp) _ e1,r1⟩,o2,k i2 (by simp) _ e2,r2⟩
 item:=by
  intro X hP hw hK hc i jP s σ H E I hf st hg;subst hP hw hK;obtain⟨xs,ys,x,y,ha,hb,hx,hy⟩:=hg;obtain⟨hz,hTI,⟨p,q,hTO⟩,h1,h2⟩:=st;obtain⟨its,rv,t1,_⟩:=I.tuple (SqT.of ha);obtain⟨its2,rv2,t2,_⟩:=I.tuple (SqT.of hb);obtain⟨u,hu,ru⟩:=rv.get hx;obtain⟨u2,hu2,ru2⟩:=rv2.get hy;obtain⟨n1,n2,n3,n4,n5,n6,n7,n8,n9,n10⟩:=ap;have ne:∀{c d:Addr}{o:HO},H c=some o->d∈[z,TI,TO,i1,i2]->c≠d:=λ e hd=>zAJ e (hf _ hd).1;have D:ZipApart z TI TO i1 i2 a b:=⟨n1,n2,n3,n4,n5,n6,n7,n8,n9,n10,ne ha (by simp),ne ha (by simp),ne ha (by simp),ne ha (by simp),ne hb (by simp),ne hb (by simp),ne hb (by simp),ne hb (by simp)⟩;refine zJF D hz hTI hTO h1 h2 (show s.heap.IsTuple a its.toArray from t1) (show s.heap.IsTuple b its2.toArray from t2) (by simpa using hu) (by simpa using hu2) λ q1 hz1 hTO1 j1 j2 hT hk=>⟨_,rfl,?_⟩;have hn:H s.heap.objs.size=none:=I.fresh;have hT1:IsPair q1 TI (.ref i1) (.ref i2):=hk _ _ n1 n5 n6 n7 hTI
  have neT:∀c∈[z,TI,TO,i1,i2],c≠s.heap.objs.size:=λ c hc=>by
   simp only[nN,nB,or_false] at hc;rcases hc with rfl|rfl|rfl|rfl|rfl
   ·exact lR (lH (show s.heap.get? _=some _ from hz))
   ·exact lR (lH (show s.heap.get? _=some _ from hTI))
   ·exact lR (lH (show s.heap.get? _=some _ from hTO))
   ·obtain⟨_,e,_⟩:=h1;exact lR (lH e)
   ·obtain⟨_,e,_⟩:=h2;exact lR (lH e)
  have I1:Inv X jP σ (upd H s.heap.objs.size (.tup [x,y])) { s with heap:=q1,toks:=s.toks }:=I.turnedL (ch:=[z,TO,i1,i2]) (λ c o hc e=>hk c o (λ q=>hc (by simp[q])) (λ q=>hc (by simp[q])) (λ q=>hc (by simp[q])) (λ q=>hc (by simp[q])) e)
   (λ c hc=>hf c (by simp at hc ⊢;rcases hc with r|r|r|r<;>simp[r])) (lQ _) ⟨Nat.le_of_lt (zAM (show 2<=1000 by decide)),[u,u2],.cons ru (.cons ru2 .nil),_,hT,rfl,_,rfl⟩
  refine wpAny_letOwnedTupleGo_zip (s:={ s with heap:=q1 }) hz1 λ q2 hz2 hs2=>⟨.ref s.heap.objs.size,_,?_,rfl,⟨_,x,y,hn,rfl,rfl,λ ws e=>by rw[ha] at e;cases e;exact hx,λ ws e=>by rw[hb] at e;cases e;exact hy⟩,⟨hz2,hs2.extBut _ _ n1 hT1,⟨_,_,hs2.extBut _ _ n2 hTO1⟩,itB j1 hs2 n3,itB j2 hs2 n4⟩,λ c hc=>?_⟩
  ·refine I1.turnedN (t':=s.toks) (ch:=[z]) (λ c o hc e=>(hs2.2 c (λ q=>hc (by simp[q]))).trans e) λ c hc=>?_
   have ec:=mR.mp hc;subst ec;obtain⟨f0,f⟩:=hf c (by simp);exact⟨by rw[zAK (neT c (by simp))];exact f0,f⟩
  ·rw[zAK (neT c hc)];exact(hf c hc).1
 done:=by
  intro X hP hw hK hc i jP s σ H E I hf st hg;subst hP hw hK;obtain⟨xs,ys,ha,hb,hend⟩:=hg;obtain⟨hz,hTI,⟨p,q,hTO⟩,h1,h2⟩:=st;obtain⟨its,rv,t1,_⟩:=I.tuple (SqT.of ha);obtain⟨its2,rv2,t2,_⟩:=I.tuple (SqT.of hb);have l1:=rv.length;have l2:=rv2.length;obtain⟨n1,n2,n3,n4,n5,n6,n7,n8,n9,n10⟩:=ap;have ne:∀{c d:Addr}{o:HO},H c=some o->d∈[z,TI,TO,i1,i2]->c≠d:=λ e hd=>zAJ e (hf _ hd).1;have D:ZipApart z TI TO i1 i2 a b:=⟨n1,n2,n3,n4,n5,n6,n7,n8,n9,n10,ne ha (by simp),ne ha (by simp),ne ha (by simp),ne ha (by simp),ne hb (by simp),ne hb (by simp),ne hb (by simp),ne hb (by simp)⟩;refine zKy (I.ok.hd hc) D hz hTI hTO h1 h2 (show s.heap.IsTuple a its.toArray from t1) (show s.heap.IsTuple b its2.toArray from t2) ?_ λ q1 hk=>⟨rfl,?_⟩
  ·rcases hend with h|h
   ·exact .inl (by simp;omega)
   ·exact .inr (by simp;omega)
  ·exact I.turnedN (t':=s.toks) (ch:=[z,TO,i1,i2]) (λ c o hc e=>hk c o (λ q=>hc (by simp[q])) (λ q=>hc (by simp[q])) (λ q=>hc (by simp[q])) (λ q=>hc (by simp[q])) e) (λ c hc=>hf c (by simp at hc ⊢;rcases hc with r|r|r|r<;>simp[r]))
 self:=λ Ω Ω Ω Ω Ω st h=>wpAny_pyIter_zip st.1 h
theorem zEz:bootBuiltins "zip" = some (.type "zip"):=by left
def iZip (ta:TA):TI:=λ σ H R=>ta σ H λ vs H1=>∃a b xs ys,vs=[.ref a,.ref b]/\H1 a=some (.tup xs)/\H1 b=some (.tup ys)/\R (Itz a b) H1
theorem zNm {X:Cx}{es:List Expr}{k:Nat}{tpos:Pos}{a b:Expr}{ta:TA}{p pos:Pos}(hg:Gl X "zip") (hm:X.mg "zip" = none) (ha:PA X [a,b] ta) (hs:starEach [a,b] X.env=[(false,eval a X.env),(false,eval b X.env)]:=by rfl) (hs2:starEach [b] X.env=[(false,eval b X.env)]:=by rfl) :
  PI X (.Tuple es k tpos) (.Call (.Name "zip" p) [a,b] [] pos) (iZip ta):=by
 intro jP s σ H R I h;refine Call_ (zCr I hg hm zEz (PyProof.Rows.callWith_type1 (thn (ha pos jP s σ H _ I h) λ us s1 ⟨vs,H1,I1,r1,q1⟩=>?_) (by rw[hs,hs2]) (by rw[hs2];rfl)));obtain⟨l1,l2,xs,ys,e,h1,h2,q⟩:=q1;subst e;obtain⟨u,w',rfl,ru,rw'⟩:=vals2 r1;cases ru;cases rw';obtain⟨its,rv,t1,_⟩:=I1.tuple (SqT.of h1);obtain⟨its2,rv2,t2,_⟩:=I1.tuple (SqT.of h2);refine zKo (show s1.heap.IsTuple l1 its.toArray from t1) (show s1.heap.IsTuple l2 its2.toArray from t2) λ h' z TI TO i1 i2 a0 a1 a2 a3 a4 a5 a6 a7 a8 a9 b1 b2=>?_;refine wpAny_pyIter_zip a7 ⟨_,[z,TI,TO,i1,i2],_,_,H1,rfl,I1.kept (t':=s1.toks) a0,zK5 l1 l2 z TI TO i1 i2 a6,⟨a7,a8,⟨_,_,a9⟩,b1,b2⟩,λ c hc=>?_,q⟩
 have ge:s1.heap.objs.size<=c:=by
  simp only[nN,nB,or_false] at hc;rcases hc with rfl|rfl|rfl|rfl|rfl<;>assumption
 exact I1.fpOk ge (I1.hok.fresh ge)
theorem zNE {a b:Addr}{xs ys:List V}{g:TG}{tb:TS}{D:Ends}{σ:St}{H:Hp}(Pv:Nat->St->Hp->Prop) (h0:Pv 0 σ H) (hl:∀i σ H,i<=min xs.length ys.length->Pv i σ H->H a=some (.tup xs)/\H b=some (.tup ys))
  (hs:∀i x y T σ H,xs[i]?=some x->ys[i]?=some y->Pv i σ H->H T=none->g (.ref T) σ (upd H T (.tup [x,y])) λ σ2 H2=>tb { D with nx:=Pv (i+1),ct:=Pv (i+1),bk:=D.nx } σ2 H2) (hd:∀σ H,Pv (min xs.length ys.length) σ H->D.nx σ H) :
  ∃W:Nat->Nat->St->Hp->Prop,(∃m,W 0 m σ H)/\∀i m σ H,W i m σ H ->
   ((Itz a b).stop i H/\D.nx σ H)\/((Itz a b).go i H/\∃N:St->Hp->Prop,(∀σ' H',N σ' H'->∃m',m'<m/\W (i+1) m' σ' H')/\∀x H',(Itz a b).yld i H x H'->g x σ H' λ σ2 H2=>tb { D with nx:=N,ct:=N,bk:=D.nx } σ2 H2):=by
 refine⟨λ i m σ H=>m=min xs.length ys.length - i/\i<=min xs.length ys.length/\Pv i σ H,⟨min xs.length ys.length,by simp,lZ _,h0⟩,?_⟩;rintro i m σ H ⟨rfl,hi,p⟩;obtain⟨ha,hb⟩:=hl i σ H hi p
 by_cases hlt:i<min xs.length ys.length
 ·have hx:i<xs.length:=by omega
  have hy:i<ys.length:=by omega
  refine .inr ⟨⟨xs,ys,xs[i],ys[i],ha,hb,by simp[hx],by simp[hy]⟩,Pv (i+1),λ σ' H' p'=>⟨min xs.length ys.length - (i+1),by omega,rfl,hlt,p'⟩,λ x H' y=>?_⟩;obtain⟨T,u,v,hT,ex,eH,e1,e2⟩:=y;subst ex eH;exact hs i u v T σ H (e1 xs ha) (e2 ys hb) p hT
 ·have e:i=min xs.length ys.length:=by omega
  subst e;exact .inl ⟨⟨xs,ys,ha,hb,by omega⟩,hd σ H p⟩
theorem zNg {k:Key}{u:Value}(h:keyIs k u=true):RelV (kV k) u:=by
 rcases zAr h with ⟨i,t,rfl,rfl⟩|⟨x,t,rfl,rfl⟩
 ·exact⟨t,rfl⟩
 ·exact⟨t,rfl⟩
theorem zMN {kvs:List (Key × V)}{vs:List (Key × Value)}{i:Nat}{p:Key × V}(h:KV kvs vs):kvs[i]?=some p->∃v,vs[i]?=some (p.1,v):=by
 induction h generalizing i with
 |nil=>exact λ e=>nomatch e
 | @cons a b _ _ r t ih=>cases i with
  |zero=>intro e;have e':a=p:=by simpa using e
         subst e';exact⟨b.2,by rw[r.1];rfl⟩
  |succ i=>exact λ e=>ih (i:=i) (by simpa using e)
noncomputable def Itd (o:Obj) (a:Addr) (kvs:List (Key × V)):It :=
 ⟨λ i H=>H a=some (.frz o (.dK kvs))/\i<kvs.length,λ i H x H'=>H'=H/\∃p,kvs[i]?=some p/\x=kV p.1,λ i H=>H a=some (.frz o (.dK kvs))/\kvs.length<=i⟩
theorem zIT {X:Cx}{jP:List (Addr × Obj)}{σ:L2.St}{H:Hp}{s:Shared}{a:Addr}{o:Obj}{kvs:List (Key × V)}{es:Array DictEntry}{ep:Nat}(I:Inv X jP σ H s) (ha:H a=some (.frz o (.dK kvs))) (hd:o.data = .dict es ep) :
  ∃vs,KV kvs vs/\kvs.length=vs.length/\s.heap.DictAt (zAd X.prog X.w) a vs ep:=by
 obtain⟨e,z,sy,vs,r,o',es',ep',h1,c1,d1,rest⟩:=(show ObjOk X.prog X.w H s.heap a (.frz o (.dK kvs)) from I.hok a _ ha);rw[e] at h1;cases h1;rw[hd] at d1;cases d1;exact⟨vs,r,Paired.length r,o,es,e,c1,hd,rest⟩
theorem zGM {P:Program}{w:World}{K:W.Frag}{tg:Expr}(a it:Addr) (o:Obj) (kvs:List (Key × V)):Turn P w K tg (Itd o a kvs) [it] it (λ i h=>∃es ep,o.data = .dict es ep/\h.IsKeyIter it a i kvs.length ep) where
 mem:=by simp
 obj:=λ i h st b hb=>by
  have e:b=it:=by simpa using hb
  subst e;obtain⟨_,_,_,ob,e,c,d⟩:=st;exact⟨ob,e,λ v z=>by rw[d] at z;cases z⟩
 keep:=λ i h h' st k=>by
  obtain⟨es,ep,hd,ob,e,r⟩:=st;exact⟨es,ep,hd,ob,k it (by simp) ob e,r⟩
 item:=by
  intro X hP hw hK hc i jP s σ H E I hf st hg;subst hP hw hK;obtain⟨ha,hi⟩:=hg;obtain⟨es,ep,hd,hit⟩:=st;obtain⟨vs,r,hl,hm⟩:=zIT I ha hd;obtain⟨v,hv⟩:=zMN r (lX hi);obtain⟨f0,f1,f2,f3,f4,f5⟩:=hf it (by simp);rw[hl] at hit;refine wpAny_pyNext_dict_item hit hm hv λ key h' hk hit' sb=>?_;have I1:Inv X jP σ H { s with heap:=h' }:=I.turned (t':=s.toks) (λ b o hb e=>(sb.2 b hb).trans e) f0 f1 f3 f4 f5;obtain⟨ob,e,c,d⟩:=id hit';rw[←hl] at hit';exact⟨key,rfl,go_of (s:={ s with heap:=h' }) e c d (by decide) ⟨_,H,I1,zNg hk,⟨rfl,_,lX hi,rfl⟩,⟨es,ep,hd,hit'⟩,λ b hb=>(hf b hb).1⟩⟩
 done:=by
  intro X hP hw hK hc i jP s σ H E I hf st hg;subst hP hw hK;obtain⟨ha,hi⟩:=hg;obtain⟨es,ep,hd,hit⟩:=st;obtain⟨vs,r,hl,hm⟩:=zIT I ha hd;obtain⟨f0,f1,f2,f3,f4,f5⟩:=hf it (by simp);rw[hl] at hit;exact wpAny_pyNext_dict_end (I.ok.hd hc) hit hm (List.getElem?_eq_none (by omega)) λ h' eb=>⟨rfl,I.turned (t':=s.toks) (λ b o hb e=>eb b o hb e) f0 f1 f3 f4 f5⟩
 self:=λ A i s Q E st h=>by
  obtain⟨es,ep,hd,hit⟩:=st;refine wpAny_pyIter_slot hit.typeIs F.slot_dict_keyiterator_iter (wpAny_call_entry F.slot_dict_keyiterator_iter hit.typeIs F.entry_dict_keyiterator_iter ?_ (F.args_dict_keyiterator_iter_1 _));show wpAny _ _ (ret (.ref it)) _ _ s;exact lB ⟨_,rfl, "dict_keyiterator", _,hit.typeIs,F.slot_dict_keyiterator_next.lookup,h⟩
def iDict (tl:TE):TI:=λ σ H R=>tl σ H λ x H1=>∃a kvs,x = .ref a/\((∃o,H1 a=some (.frz o (.dK kvs))/\R (Itd o a kvs) H1)\/(H1 a=some (.dK kvs)/\∀o,R (Itd o a kvs) (upd H1 a (.frz o (.dK kvs)))))
theorem zFt {X:Cx}{tg l:Expr}{tl:TE}(hl:PE X l tl):PI X tg l (iDict tl):=by
 intro jP s σ H R I h;refine thn (hl jP s σ H _ I h) λ v s1 ⟨x,H1,I1,r1,q1⟩=>?_;obtain⟨a,kvs,e,q⟩:=q1;subst e;cases r1;rcases q with ⟨o,ha,q⟩|⟨ha,q⟩
 ·obtain⟨e,z,sy,vs,r,o',es',ep',h1,c1,d1,rest⟩:=(show ObjOk X.prog X.w H1 s1.heap a (.frz o (.dK kvs)) from I1.hok a _ ha)
  rw[e] at h1;cases h1;refine wpAny_pyIter_dict (knd:=zAd X.prog X.w) (kvs:=vs) (ep:=ep') sy ⟨o,es',e,c1,d1,rest⟩ ?_;refine⟨s1.heap.objs.size,[s1.heap.objs.size],_,_,H1,rfl,I1.kept (t':=s1.toks) λ b o e=>lE _ e,zGM a _ o kvs,⟨es',ep',d1,_,lG _ rfl,rfl,by rw[Paired.length r];rfl⟩,λ b hb=>?_,q⟩;have e:b=s1.heap.objs.size:=by simpa using hb
  subst e;exact I1.fpOk (lQ _) (I1.hok.fresh (lQ _))
 ·obtain⟨z,sy,vs,r,o,es',ep',e,c1,d1,rest⟩:=(show ObjOk X.prog X.w H1 s1.heap a (.dK kvs) from I1.hok a _ ha)
  refine wpAny_pyIter_dict (knd:=zAd X.prog X.w) (kvs:=vs) (ep:=ep') sy ⟨o,es',e,c1,d1,rest⟩ ?_;have lt:=lH e;refine⟨s1.heap.objs.size,[s1.heap.objs.size],_,_,upd H1 a (.frz o (.dK kvs)),rfl,I1.write (t':=s1.toks) (x:=a) (e:=a) (by rw[ha];exact True.intro) (.inl rfl) (λ b o Ω e=>lE _ e) ⟨o,lE _ e⟩ ?_,zGM a _ o kvs,⟨es',ep',d1,_,lG _ rfl,rfl,by rw[Paired.length r];rfl⟩,λ b hb=>?_,q o⟩
  ·exact⟨lE _ e,z,sy,vs,r,o,es',ep',lE _ e,c1,d1,rest⟩
  ·have e:b=s1.heap.objs.size:=by simpa using hb
   subst e;exact I1.fpOk (lQ _) (by rw[zAK (Nat.ne_of_gt lt)];exact I1.hok.fresh (lQ _))
theorem zIW {o:Obj}{a:Addr}{kvs:List (Key × V)}{g:TG}{tb:TS}{D:Ends}{σ:L2.St}{H:Hp}(Pv:Nat->L2.St->Hp->Prop) (h0:Pv 0 σ H) (hl:∀i σ H,i<=kvs.length->Pv i σ H->H a=some (.frz o (.dK kvs)))
  (hs:∀i p σ H,kvs[i]?=some p->Pv i σ H->g (kV p.1) σ H λ σ2 H2=>tb { D with nx:=Pv (i+1),ct:=Pv (i+1),bk:=D.nx } σ2 H2) (hd:∀σ H,Pv kvs.length σ H->D.nx σ H) :
  ∃W:Nat->Nat->L2.St->Hp->Prop,(∃m,W 0 m σ H)/\∀i m σ H,W i m σ H ->
   ((Itd o a kvs).stop i H/\D.nx σ H)\/((Itd o a kvs).go i H/\∃N:L2.St->Hp->Prop,(∀σ' H',N σ' H'->∃m',m'<m/\W (i+1) m' σ' H')/\∀x H',(Itd o a kvs).yld i H x H'->g x σ H' λ σ2 H2=>tb { D with nx:=N,ct:=N,bk:=D.nx } σ2 H2):=by
 refine⟨λ i m σ H=>m=kvs.length - i/\i<=kvs.length/\Pv i σ H,⟨kvs.length,by simp,lZ _,h0⟩,?_⟩;rintro i m σ H ⟨rfl,hi,p⟩;have q:=hl i σ H hi p
 by_cases hlt:i<kvs.length
 ·refine .inr ⟨⟨q,hlt⟩,Pv (i+1),λ σ' H' p'=>⟨kvs.length - (i+1),by omega,rfl,hlt,p'⟩,λ x H' y=>?_⟩
  obtain⟨e,p',hp',ex⟩:=y;subst e ex;exact hs i p' σ _ hp' p
 ·have e:i=kvs.length:=by omega
  subst e;exact .inl ⟨⟨q,lQ _⟩,hd σ H p⟩
theorem zDh {K:W.Frag}{a:Addr}{xs:List V}{acc:Addr}{g:TG}{tt:TT}{te:TE}{σ:L2.St}{H:Hp}{R:Hp->Prop}(Pv:Nat->Hp->Prop) (h0:Pv 0 (upd H acc (.lst []))) (hl:∀i H,i<=xs.length->Pv i H->SqT K H a xs)
  (hs:∀i x H,xs[i]?=some x->Pv i H->g x σ H λ σ2 H4=>Ext σ σ2/\tt σ2 H4 λ b H5 =>
   if b=true then te σ2 H5 λ y H6=>∃zs,H6 acc=some (.lst zs)/\zs.length<sizeLine/\Pv (i+1) (upd H6 acc (.lst (zs++[y]))) else Pv (i+1) H5) (hd:∀H,Pv xs.length H->R H) :
  ∃W:Nat->Nat->Hp->Prop,(∃m,W 0 m (upd H acc (.lst [])))/\∀i m H2,W i m H2 ->
   ((Itt K a).stop i H2/\R H2)\/((Itt K a).go i H2/\∃N:Hp->Prop,(∀H',N H'->∃m',m'<m/\W (i+1) m' H')/\∀x H3,(Itt K a).yld i H2 x H3->g x σ H3 λ σ2 H4=>Ext σ σ2/\tt σ2 H4 λ b H5 =>
    if b=true then te σ2 H5 λ y H6=>∃zs,H6 acc=some (.lst zs)/\zs.length<sizeLine/\N (upd H6 acc (.lst (zs++[y])))
    else N H5):=by
 refine⟨λ i m H=>m=xs.length - i/\i<=xs.length/\Pv i H,⟨xs.length,by simp,lZ _,h0⟩,?_⟩;rintro i m H2 ⟨rfl,hi,p⟩;have q:=hl i H2 hi p
 by_cases hlt:i<xs.length
 ·refine .inr ⟨⟨xs,xs[i],q,by simp[hlt]⟩,Pv (i+1),λ H' p'=>⟨xs.length - (i+1),by omega,rfl,hlt,p'⟩,λ x H' y=>?_⟩
  obtain⟨e,y⟩:=y;subst e;exact hs i x _ (y xs q) p
 ·have e:i=xs.length:=by omega
  subst e;exact .inl ⟨⟨xs,q,lQ _⟩,hd H2 p⟩
theorem zJl {X:Cx}{K:W.Frag}{es:List Expr}{k:Nat}{t:TGs}{n:Nat}{pos:Pos}(hK:X.K=K) (hc:X.calm=true) (h:PGs X es t)
  (hn:(assignEach es X.env).length=n:=by rfl) (hst:(assignEach es X.env).findIdx? (·.1)=none:=by rfl):PG X (.Tuple es k pos) (gTup K n t):=hK▸zCl hc h hn hst
section
variable {X:Cx}
theorem zFa:∀{bs:List Bool}{us:List Value},Vals (bs.map V.bl) us->LSm.BoolsAre us bs
 |[],_,h=>by cases h;exact .nil
 |b::bs,_,h=>by
  cases h with
  |cons r t =>
   cases r;exact .cons b (zFa t)
theorem zNs (hu:X.A.units+1<cLine):OpR X (compareOp .In) (λ x y H Q=>∃(a:Addr) (o:Option V),y = .ref a/\DGet H a x o/\Q (.bl o.isSome) H):=by
 intro jP s σ H x y v u Q I rx ry h;obtain⟨a,o,rfl,g,q⟩:=h;cases ry;exact d_in hu I g rx λ s' I'=>⟨.bl o.isSome,H,I',rfl,q⟩
theorem zGk {A:Around}{s:Shared}{kb:List (Key × V)}{vb:List (Key × Value)}(rb:KV kb vb):∀{ka:List (Key × V)}{va:List (Key × Value)},KV ka va->(∀p∈ka,valV kb p.1=some p.2)->(∀p∈ka,∃b,p.2=V.ref b)->W.KeqHits A s vb va true
 |[],_,r,_,_=>by
  cases r;exact .nil
 | (k,x)::ka,_,r,f,fr=>by
  cases r with
  | @cons _ q _ qs h t =>
   obtain⟨k',v⟩:=q;obtain⟨hk,hv⟩:=h;dsimp only at hk hv;subst hk;have ih:=zGk (A:=A) (s:=s) rb t (λ p hp=>f p (lP _ hp)) λ p hp=>fr p (lP _ hp);have ro:=rb.val k;rw[f _ List.mem_cons_self] at ro;obtain⟨b,eb⟩:=fr _ lO;dsimp only at eb;subst eb;cases e3:valueAt vb k with
   |none=>rw[e3] at ro;exact(show False from ro).elim
   |some z =>
    rw[e3] at ro;cases hv;have ez:z = .ref b:=ro;subst ez;exact .hit (e:=true) e3 (SeqAt.EqAt.same _) ih
theorem zMr (hu:X.A.units<cLine):OpR X (compareOp .NotEq) (λ x y H Q=>∃(a b:Addr) (ka:List (Key × V)),x = .ref a/\y = .ref b/\Rd H a (.dK ka)/\Rd H b (.dK ka)/\(∀p∈ka,valV ka p.1=some p.2)/\(∀p∈ka,∃b,p.2=V.ref b)/\Q (.bl false) H):=by
 intro jP s σ H x y v u Q I rx ry h;obtain⟨a,b,ka,rfl,rfl,ha,hb,f,fr,q⟩:=h;cases rx;cases ry;obtain⟨z1,sa,va,ra,da⟩:=dk_rd I.hok ha;obtain⟨z2,sb,vb,rb,db⟩:=dk_rd I.hok hb;refine W.keq_ne sa sb da db hu (λ Ω=>zGk rb ra f fr) ?_;have e:(va.length == vb.length)=true:=by rw[←Paired.length ra,←Paired.length rb];exact beq_self_eq_true _
 rw[e];exact⟨.bl false,H,I,rfl,q⟩
theorem zDK {prog:Program}{w:World}{A:Around}{E:XQ}{s:Shared}{t sl:Addr}{items:Array Value}{vl vu:Value}{lo hi:Option Int}{Q:XQ}(ht:IsTup s.heap t items) (hs:s.heap.IsSliceOf sl vl vu .none) (pl:IsPart vl lo) (pu:IsPart vu hi)
  (hw:HT.sIx items.size 0 lo=0/\HT.sIx items.size items.size hi=items.size) (h:Q (.ref t) s):wpAny (model prog w) A (getItem (.ref t) (.ref sl)) Q E s:=by
 obtain⟨os,hos,hcs,hds⟩:=id hs;have hTs:s.TypeIs (.ref sl) "slice" := ⟨os,hos,hcs⟩;unfold getItem
 try with_reducible refine lD ?_
 first|refine lA (lB ?_)|skip
 refine lA (wpAny_sequenceKey ht.typeIs (by decide) ?_)
 refine lA (wpAny_callSpecial?_slot (name:=Str.ofString "__getitem__") ht.typeIs PyProof.Rows.slot_tuple_getitem
  (wpAny_call_entry PyProof.Rows.slot_tuple_getitem ht.typeIs entry_tuple_getitem ?_ (args_tuple_getitem _ _)))
 show wpAny _ _ (Builtin.Tuple.tupleItemsOf (.ref t) >>= _) _ _ s;refine lA (tupleItemsOf_ ht ?_);refine lA (wpAny_typeOf hTs ?_);rw[if_pos (by decide)];refine lA (HT.sliceApplied_gen hs pl pu ?_)
 have hyes:(((HT.sIx items.size 0 lo:Nat):Int) == 0 && (1:Int) == 1 && (HT.sIx items.size items.size hi - HT.sIx items.size 0 lo) == items.size)=true:=by
  rw[hw.1,hw.2];simp
 show wpAny _ _ (if (((HT.sIx items.size 0 lo:Nat):Int) == 0 && (1:Int) == 1 && (HT.sIx items.size items.size hi - HT.sIx items.size 0 lo) == items.size)=true then _ else _) _ _ s;rw[if_pos hyes];refine lA ?_;unfold Builtin.Tuple.tupleIsExact;refine lA (wpAny_typeOf ht.typeIs (lB ?_));rw[if_pos (by decide)]
 first
  |exact lA (wpAny_rule (lA (lB (lB ⟨_,rfl,lB h⟩))))
  |exact lA (wpAny_rule (lB ⟨_,rfl,lB h⟩))
  |exact lA (wpAny_rule (lA (lB ⟨_,rfl,lB h⟩)))
def rSlW:V->Option Int->Option Int->Hp->VK->Prop:=λ x lo hi H Q=>∃a xs,x = .ref a/\H a=some (.tup xs)/\∀p H',Same H H'->H' p=some (.tup (cutV xs lo hi))->Q (.ref p) H'
theorem zMg:SlR X rSlW:=by
 intro jP s σ H x v vl vu lo hi sl Q I rx hs pl pu h;obtain⟨a,xs,rfl,ha,q⟩:=h
 by_cases hw:HT.sIx xs.length 0 lo=0/\HT.sIx xs.length xs.length hi=xs.length
 ·cases rx
  obtain⟨its,r,ht,hz⟩:=I.tuple (SqT.of ha);have hlen:its.toArray.size=xs.length:=by rw[mE];exact r.length.symm
  refine⟨"tuple", _,PyProof.Rows.slot_tuple_getitem.lookup,ht.typeIs,?_⟩;refine zDK ht hs pl pu (by rw[hlen];exact hw) ⟨.ref a,H,I,rfl,q a H (.refl H) ?_⟩;rw[ha];unfold cutV;rw[hw.1,hw.2];simp
 ·exact zME jP s σ H (.ref a) v vl vu lo hi sl Q I rx hs pl pu ⟨a,xs,rfl,SqT.of ha,hw,λ p hp=>q p _ (zAC hp) zAB⟩
end
structure Sd (p:Prop):Prop where
 un:p
section
variable {X:Cx}{st:Stmt}{rest:List Stmt}{t u:TS}{e a b:Expr}{es:List Expr}{te ta tb:TE}{tA:TA}{pos:Pos}
theorem zAI (h1:Sd (PS X st t)) (h2:Sd (PSs X rest u)):Sd (PSs X (st::rest) (tSeq t u)):=⟨zAE h1.un h2.un⟩
theorem zAa (h1:Sd (PS X st t)):Sd (PSs X [st] t):=⟨zAG h1.un⟩
theorem zBN {c:Expr}{x y:List Stmt}{tc:TT}(hc:Sd (PT X c tc)) (ha:Sd (PSs X x t)) (hb:Sd (PSs X y u)):Sd (PS X (.If c x y pos) (tIfS tc t u)):=⟨ps_if hc.un ha.un hb.un⟩
theorem zAq (he:Sd (PE X e te)):Sd (PS X (.Return (some e) pos) (tRet te)):=⟨zAX he.un⟩
theorem zMl {i:Nat}{x:Str}{pos':Pos}(hN:X.N.Nodup) (hi:X.N[i]?=some x) (hx:Loc X.env.scope x) (he:Sd (PE X e te)) (hs:swapsWith e (some (.Name x pos')) pos.line X.env=pure false:=by rfl) (hf:X.fn x=true\/X.env.scope.names.lookup x=some .local:=by first|exact .inl rfl|exact .inr rfl|assumption) :
  Sd (PS X (.Assign [.Name x pos'] e pos) (tAsg te (gName i))):=⟨zH3 hN hi hx he.un hs hf⟩
theorem pSS {i:Nat}{x:Str}{pos':Pos}(hN:X.N.Nodup)(he:Sd (PE X e te))(hi:X.N[i]?=some x:=by rfl)(hx:Loc X.env.scope x:=by exact Or.inl rfl)(hs:swapsWith e (some (.Name x pos')) pos.line X.env=pure false:=by rfl)(hf:X.fn x=true\/X.env.scope.names.lookup x=some .local:=by first|exact .inl rfl|exact .inr rfl|assumption):Sd (PS X (.Assign [.Name x pos'] e pos) (tAsg te (gName i))):=zMl hN hi hx he hs hf
theorem zBA {k:Nat}(h:Sd (PA X es tA)):Sd (PE X (.Tuple es k pos) (tTup tA)):=⟨zAh h.un⟩
theorem zDI (h:Sd (PA X es tA)):Sd (PE X (.List es pos) (tLst tA)):=⟨zAv h.un⟩
theorem zAL (ha:Sd (PE X e te)) (hr:Sd (PA X es tA)) (hs:starEach (e::es) X.env=(false,eval e X.env)::starEach es X.env:=by rfl):Sd (PA X (e::es) (tCons te tA)):=⟨zAA ha.un hr.un hs⟩
theorem zCG {r:R2}(hr:IxR X r) (ha:Sd (PE X a ta)) (hb:Sd (PE X b tb)) (hs:zKv b):Sd (PE X (.Subscript a b pos) (tOp r ta tb)):=⟨pe_ix hr ha.un hb.un hs⟩
end
section
variable {prog:Program}{w:World}{A:Around}{E:XQ}{s:Shared}
abbrev ZipF (h:Heap) (z TI TO:Addr) (f0:Value) (f1:Bool):Prop:=h.get? z=some { cls:=.type "zip", data:=.fields #[f0,.bool f1,.bool false,.ref TI,.ref TO] }
def ZipS (h:Heap) (z TI TO:Addr):Prop:=∃f0 f1,ZipF h z TI TO f0 f1/\(f0 = .none\/∃n:Nat,f0=rawInt n)
theorem zG6 {M:Model}{a:Addr}{Q:Option Obj->Shared->Prop}(h:Q (s.heap.get? a) s):wpAny M A (loadIfAlive a) Q E s:=by
 intro Γ p hΓ;show Sem.wp M Γ (Sem.loadIfAlive a pure) _ _ p s;rw[Sem.wp_loadIfAlive];exact h
theorem zHh {z TI TO:Addr}{f0:Value}{f1:Bool}{Q:Bool->Shared->Prop}(hz:ZipF s.heap z TI TO f0 f1) (hf:f0 = .none\/∃n:Nat,f0=rawInt n) (h1:Q true s)
  (h2:∀h',ZipF h' z TI TO f0 true->Heap.SameBut z s.heap h'->Q false { s with heap:=h' }):wpAny (model prog w) A (Builtin.SmallTypes.ownedTupleIsFree (.ref z)) Q E s:=by
 unfold Builtin.SmallTypes.ownedTupleIsFree;refine lA (wpAny_field hz rfl (x:=f0) rfl ?_);rcases hf with rfl|⟨n,rfl⟩
 ·exact lB h1
 ·show wpAny _ _ (loadIfAlive ((n:Int)).toNat >>= _) _ _ _
  refine lA (zG6 ?_);cases hg:s.heap.get? ((n:Int)).toNat with
  |none=>exact lB h1
  |some o =>
   show wpAny _ _ (field (.ref z) 1 >>= _) _ _ _;refine lA (wpAny_field hz rfl (x:=.bool f1) rfl ?_);cases f1 with
   |true=>exact lB (h2 s.heap hz ⟨rfl,λ Ω Ω=>rfl⟩)
   |false =>
    show wpAny _ _ (setField (.ref z) 1 (.bool true) >>= _) _ _ _;exact lA (wpAny_setField_rec hz (by simp) λ q hz1 hs1=>lB (h2 q hz1 hs1))
end
section
variable {X:Cx}
theorem zIn (bs:List Bool):((List.range bs.length).any λ i=>(bs[i]?).getD false)=bs.any id:=by
 rw[Bool.eq_iff_iff,List.any_eq_true,List.any_eq_true];constructor
 ·rintro⟨i,hi,h⟩
  have hl:=List.mem_range.mp hi;rw[nO hl] at h;exact⟨bs[i],List.getElem_mem hl,h⟩
 ·rintro⟨b,hb,h⟩
  obtain⟨i,hl,e⟩:=List.getElem_of_mem hb;exact⟨i,List.mem_range.mpr hl,by rw[nO hl,e];exact h⟩
theorem zGv (hc:X.calm=true):CallR X (.builtin "any") (λ xs H Q=>∃(l:Addr) (bs:List Bool),xs=[.ref l]/\H l=some (.lst (bs.map V.bl))/\Q (.bl (bs.any id)) H):=by
 intro jP s σ H xs us Q I r h;obtain⟨l,bs,rfl,hl,q⟩:=h;obtain⟨u,rfl,ru⟩:=vals1 r;cases ru;obtain⟨_,its,n,rv,le,e⟩:=I.lstM hl;have L1:s.heap.IsList l its.toArray:=⟨_,e,rfl,_,rfl⟩;have hb:=zFa rv;have hlt:l<s.heap.objs.size:=lH e;refine call_any_walk (wpAny_pyIter_list L1 ?_)
 refine⟨s.heap.objs.size,[s.heap.objs.size,l],[s.heap.objs.size],its.toArray.size,_,_,λ i=>(bs[i]?).getD false,rfl,Walks.list (A:=X.A.in1) (I.ok.hd hc) _ l (lR hlt) its.toArray,
  ⟨⟨_,lG _ rfl,rfl,rfl⟩,L1.push _⟩,λ i v s' Q' E' hP hQ=>?_,λ h' tk hk=>?_⟩
 ·obtain⟨b,e,rfl⟩:=hb.get i v (by simpa using hP)
  simp only[e,Option.getD_some] at hQ;exact wpAny_truthy_bool hQ
 ·have e:((List.range its.toArray.size).any λ i=>(bs[i]?).getD false)=bs.any id:=by
   rw[mE,hb.length];exact zIn bs
  rw[e];exact⟨.bl (bs.any id),H,I.kept (LSm.kept_iter hk),rfl,q⟩
end
section
variable {X:Cx}
open Classical in
noncomputable def eqW (H:Hp) (dx:Dt) (w:Value):Bool:=decide (∃x d,RelV x w/\DR H d x/\Dt.beq d dx=true)
end
end L2
namespace PySem
open Sem (wp)
namespace F
theorem dul_entry:entryFor table "dict.update.loop" = some Builtin.«dict.update.loop»:=entryFor_of_tree (by kernel_rfl)
theorem dul_plain:plainId "dict.update.loop" = true:=by left
end F
end PySem
namespace L2
open PySem PySem.Spec PyProof.Rows
section
variable {X:Cx}
def rDUpd:V->List V->Hp->VK->Prop:=λ x vs H Q=>∃(a b:Addr) (ka kb:List (Key × V)),x = .ref a/\vs=[.ref b]/\a≠b/\H a=some (.dK ka)/\H b=some (.dK kb)/\ka.length+kb.length<=sizeLine/\Q .non (upd H a (.dK (zAw ka kb)))
theorem zI3:MtM X "dict.update" rDUpd:=by
 intro jP s σ H x vs v us Q I rx rv h;obtain⟨a,b,ka,kb,rfl,rfl,hne,ha,hb,hz,q⟩:=h;cases rx;obtain⟨u,rfl,ru⟩:=rv.one;cases ru;obtain⟨z1,sa,va,ra,da⟩:=dk_of I.hok ha;obtain⟨z2,sb,vb,rb,db⟩:=dk_of I.hok hb;have hl:va.length+vb.length<=sizeLine:=by rw[←ra.length,←rb.length];exact hz
 refine call_meetsIn PySem.F.slot_dict_update da.typeIs PySem.F.entry_dict_update (PySem.F.args_dict_update_2 _ _) (meets_dict_update (zAd X.prog X.w) a b hne sb) ⟨va,vb,da,db,hl,λ h' d1 d2 hs=>?_⟩;have he:∃q,h'.get? a=some q:=let ⟨q,_,_,hq,_⟩:=d1;⟨q,hq⟩;have hm:(zAw ka kb).length<=sizeLine:=by have:=zBU kb ka;omega
 exact⟨.non,_,zEx (t':=s.toks) I (by rw[ha];exact True.intro) hs he (zFU hm sa (rb.merge ra) d1),rfl,q⟩
end
theorem zFV {o:Obj}{a:Addr}{kvs:List (Key × V)}{acc:Addr}{g:TG}{tt:TT}{te:TE}{σ:L2.St}{H:Hp}{R:Hp->Prop}(Pv:Nat->Hp->Prop) (h0:Pv 0 (upd H acc (.lst []))) (hl:∀i H,i<=kvs.length->Pv i H->H a=some (.frz o (.dK kvs)))
  (hs:∀i p H,kvs[i]?=some p->Pv i H->g (kV p.1) σ H λ σ2 H4=>Ext σ σ2/\tt σ2 H4 λ b H5 =>
   if b=true then te σ2 H5 λ y H6=>∃zs,H6 acc=some (.lst zs)/\zs.length<sizeLine/\Pv (i+1) (upd H6 acc (.lst (zs++[y]))) else Pv (i+1) H5) (hd:∀H,Pv kvs.length H->R H) :
  ∃W:Nat->Nat->Hp->Prop,(∃m,W 0 m (upd H acc (.lst [])))/\∀i m H2,W i m H2 ->
   ((Itd o a kvs).stop i H2/\R H2)\/((Itd o a kvs).go i H2/\∃N:Hp->Prop,(∀H',N H'->∃m',m'<m/\W (i+1) m' H')/\∀x H3,(Itd o a kvs).yld i H2 x H3->g x σ H3 λ σ2 H4=>Ext σ σ2/\tt σ2 H4 λ b H5 =>
    if b=true then te σ2 H5 λ y H6=>∃zs,H6 acc=some (.lst zs)/\zs.length<sizeLine/\N (upd H6 acc (.lst (zs++[y])))
    else N H5):=by
 refine⟨λ i m H=>m=kvs.length - i/\i<=kvs.length/\Pv i H,⟨kvs.length,by simp,lZ _,h0⟩,?_⟩;rintro i m H2 ⟨rfl,hi,p⟩;have q:=hl i H2 hi p
 by_cases hlt:i<kvs.length
 ·refine .inr ⟨⟨q,hlt⟩,Pv (i+1),λ H' p'=>⟨kvs.length - (i+1),by omega,rfl,hlt,p'⟩,λ x H' y=>?_⟩
  obtain⟨e,p',hp',ex⟩:=y;subst e ex;exact hs i p' _ hp' p
 ·have e:i=kvs.length:=by omega
  subst e;exact .inl ⟨⟨q,lQ _⟩,hd H2 p⟩
open PySem.W
def Ev (r:Nat->Nat->Bool) (n:Nat) {α:Type}:KasT α->(α->Prop)->Prop
 |.ret a,Q=>Q a
 |.ask i j k,Q=>i<n/\j<n/\i≠j/\Ev r n (k (r i j)) Q
theorem Ev.bind {r:Nat->Nat->Bool}{n:Nat}{α β:Type}{f:α->KasT β}{Q:β->Prop}:∀{t:KasT α},Ev r n t (λ a=>Ev r n (f a) Q)->Ev r n (t.bind f) Q
 |.ret _,h=>h
 |.ask i j k,h=>⟨h.1,h.2.1,h.2.2.1,Ev.bind (t:=k (r i j)) h.2.2.2⟩
theorem Ev.mono {r:Nat->Nat->Bool}{n:Nat}{α:Type}{Q R:α->Prop}(hq:∀a,Q a->R a):∀{t:KasT α},Ev r n t Q->Ev r n t R
 |.ret a,h=>hq a h
 |.ask i j k,h=>⟨h.1,h.2.1,h.2.2.1,Ev.mono hq (t:=k (r i j)) h.2.2.2⟩
theorem Ev.wp {r:Nat->Nat->Bool}{n:Nat}{cmp:Nat->Nat->(Bool->Shared->Prop)->Shared->Prop}{St:Shared->Prop}(hc:∀i j C s,i<n->j<n->i≠j->St s->(∀s',St s'->C (r i j) s')->cmp i j C s) {α:Type}{Q:α->Prop}{G:α->Shared->Prop}(hG:∀a s,Q a->St s->G a s) :
  ∀{t:KasT α}{s:Shared},Ev r n t Q->St s->t.kasWp cmp G s
 |.ret a,s,h,hs=>hG a s h hs
 |.ask i j k,s,h,hs=>hc i j _ s h.1 h.2.1 h.2.2.1 hs λ s' hs'=>Ev.wp hc hG (t:=k (r i j)) h.2.2.2 hs'
structure Ord (n:Nat) (r:Nat->Nat->Bool):Prop where
 tot:∀i j,i<n->j<n->i≠j->r i j=false->r j i=true
 asym:∀i j,i<n->j<n->r i j=true->r j i=false
 trans:∀i j k,i<n->j<n->k<n->r i j=true->r j k=true->r i k=true
section
variable {n:Nat}{r:Nat->Nat->Bool}
abbrev lt (r:Nat->Nat->Bool) (p:Array Nat) (i j:Nat):Bool:=r (p.getD i 0) (p.getD j 0)
def PermN (n:Nat) (p:Array Nat):Prop:=p.toList.Perm (List.range n)
theorem PermN.size {p:Array Nat}(h:PermN n p):p.size=n:=by have:=h.length_eq;simpa using this
theorem PermN.lt {p:Array Nat}(h:PermN n p) {i:Nat}(hi:i<n):p.getD i 0<n:=by
 have hs:=h.size;have e:p.getD i 0=p[i]'(by omega):=by simp[Array.getD,hs,hi]
 rw[e];have:p[i]'(by omega)∈p.toList:=by simp
 exact List.mem_range.mp (h.mem_iff.mp this)
theorem PermN.ne {p:Array Nat}(h:PermN n p) {i j:Nat}(hi:i<n) (hj:j<n) (ne:i≠j):p.getD i 0≠p.getD j 0:=by
 have hs:=h.size;have e1:p.getD i 0=p.toList[i]'(by simp;omega):=by simp[Array.getD,hs,hi]
 have e2:p.getD j 0=p.toList[j]'(by simp;omega):=by simp[Array.getD,hs,hj]
 have nd:p.toList.Nodup:=h.nodup_iff.mpr List.nodup_range;rw[e1,e2];intro z;exact ne ((List.getElem_inj nd).mp z)
def Asc (r:Nat->Nat->Bool) (p:Array Nat) (k:Nat):Prop:=∀i j,i<j->j<k->lt r p i j=true
def Dsc (r:Nat->Nat->Bool) (p:Array Nat) (k:Nat):Prop:=∀i j,i<j->j<k->lt r p j i=true
theorem Asc.more (o:Ord n r) {p:Array Nat}(hp:PermN n p) {k:Nat}(h1:1<=k) (hk:k<n) (h:Asc r p k) (hl:lt r p (k - 1) k=true):Asc r p (k+1):=λ i j hij hj=>by
 by_cases e:j=k
 ·subst e
  by_cases e2:i=j - 1
  ·rw[e2];exact hl
  ·exact o.trans _ _ _ (hp.lt (by omega)) (hp.lt (by omega)) (hp.lt hk) (h i (j - 1) (by omega) (by omega)) hl
 ·exact h i j hij (by omega)
theorem Dsc.more (o:Ord n r) {p:Array Nat}(hp:PermN n p) {k:Nat}(h1:1<=k) (hk:k<n) (h:Dsc r p k) (hl:lt r p k (k - 1)=true):Dsc r p (k+1):=λ i j hij hj=>by
 by_cases e:j=k
 ·subst e
  by_cases e2:i=j - 1
  ·rw[e2];exact hl
  ·exact o.trans _ _ _ (hp.lt hk) (hp.lt (by omega)) (hp.lt (by omega)) hl (h i (j - 1) (by omega) (by omega))
 ·exact h i j hij (by omega)
theorem zKX (o:Ord n r) {p:Array Nat}(hp:PermN n p):∀(f k:Nat),1<=k->k+f<=n->Asc r p k->Ev r n (kas_asc p f k) (λ m=>k<=m/\m<=k+f/\Asc r p m/\(m<k+f->lt r p m (m - 1)=true))
 |0,k,h1,hk,h=>⟨lQ _,lQ _,h,λ z=>by omega⟩
 |f+1,k,h1,hk,h=>by
  refine⟨hp.lt (by omega),hp.lt (by omega),hp.ne (by omega) (by omega) (by omega),?_⟩;cases e:r (p.getD k 0) (p.getD (k - 1) 0) with
  |true=>exact⟨lQ _,by omega,h,λ Ω=>e⟩
  |false =>
   have hl:=o.tot _ _ (hp.lt (i:=k) (by omega)) (hp.lt (i:=k - 1) (by omega)) (hp.ne (by omega) (by omega) (by omega)) e;exact Ev.mono (λ m hm=>⟨by omega,by omega,hm.2.2.1,λ z=>hm.2.2.2 (by omega)⟩) (zKX o hp f (k+1) (by omega) (by omega) (h.more o hp h1 (by omega) hl))
theorem zKW (o:Ord n r) {p:Array Nat}(hp:PermN n p):∀(f k:Nat),1<=k->k+f<=n->Dsc r p k->Ev r n (kas_desc f p k 0) (λ z=>z.1=p/\k<=z.2.1/\z.2.1<=k+f/\z.2.2=0/\Dsc r p z.2.1)
 |0,k,h1,hk,h=>⟨rfl,lQ _,lQ _,rfl,h⟩
 |f+1,k,h1,hk,h=>by
  refine⟨hp.lt (by omega),hp.lt (by omega),hp.ne (by omega) (by omega) (by omega),?_⟩;cases e:r (p.getD k 0) (p.getD (k - 1) 0) with
  |true =>
   exact Ev.mono (λ z hz=>⟨hz.1,by omega,by omega,hz.2.2.2.1,hz.2.2.2.2⟩) (zKW o hp f (k+1) (by omega) (by omega) (h.more o hp h1 (by omega) e))
  |false =>
   have hl:=o.tot _ _ (hp.lt (i:=k) (by omega)) (hp.lt (i:=k - 1) (by omega)) (hp.ne (by omega) (by omega) (by omega)) e;refine⟨hp.lt (by omega),hp.lt (by omega),hp.ne (by omega) (by omega) (by omega),?_⟩;rw[hl];exact⟨rfl,lQ _,(by show k<=k+(f+1);omega),rfl,h⟩
theorem zF3 {p q:Array Nat}{i j:Nat}(h:p[i]?=q[j]?):p.getD i 0=q.getD j 0:=by
 rw[Array.getD_eq_getD_getElem?,Array.getD_eq_getD_getElem?,h]
theorem PermN.of {p q:Array Nat}(h:q.Perm p) (hp:PermN n p):PermN n q:=(Array.perm_iff_toList_perm.mp h).trans hp
theorem zMh {p:Array Nat}(hp:PermN n p) {k:Nat}(hk:k<=n) (h:Dsc r p k):PermN n (kas_rev p 0 k)/\Asc r (kas_rev p 0 k) k:=by
 refine⟨hp.of (mirror_perm _ _ _ _),λ i j hij hj=>?_⟩
 have e:∀i,i<k->(kas_rev p 0 k).getD i 0=p.getD (k - 1 - i) 0:=λ i hi=>by
  refine zF3 ?_;have:=getElem?_mirror_all (xs:=p) (i:=0) (j:=k) (by rw[hp.size];exact hk) i;unfold kas_rev;rw[this,if_pos ⟨Nat.zero_le _,hi⟩,Nat.zero_add]
 unfold lt;rw[e i (by omega),e j hj];exact h (k - 1 - j) (k - 1 - i) (by omega) (by omega)
theorem zLy (o:Ord n r) {p:Array Nat}(hp:PermN n p) {k:Nat}(h1:1<=k) (hk:k<=n) (h:Dsc r p k):Ev r n (kas_tail3 k n p) (λ z=>PermN n z.2/\1<=z.1/\z.1<=n/\Asc r z.2 z.1):=by
 obtain⟨q1,q2⟩:=zMh hp hk h;exact Ev.bind (Ev.mono (λ m hm=>⟨q1,by omega,by omega,hm.2.2.1⟩) (zKX o q1 (n - k) k h1 (by omega) q2))
theorem zHb (o:Ord n r) {p:Array Nat}(hp:PermN n p) (h2:2<=n) (h:lt r p 1 0=true):Ev r n (kas_descPart 1 n p) (λ z=>PermN n z.2/\1<=z.1/\z.1<=n/\Asc r z.2 z.1):=by
 have d2:Dsc r p 2:=λ i j hij hj=>by
  have:i=0:=by omega
  have:j=1:=by omega
  subst i j;exact h
 refine Ev.bind (Ev.mono (λ z hz=>?_) (zKW o hp (n - 2) 2 (by omega) (by omega) d2));obtain⟨p',m,q⟩:=z;obtain⟨e1,e2,e3,e4,e5⟩:=hz;dsimp only at e1 e2 e3 e4 e5;subst e1 e4;have e3':m<=2+(n - 2):=e3;have e2':2<=m:=e2;exact zLy o hp (k:=m) (by omega) (by omega) e5
theorem zLz (o:Ord n r) {p:Array Nat}(hp:PermN n p) (h2:2<=n):Ev r n (kas_count n p) (λ z=>PermN n z.2/\1<=z.1/\z.1<=n/\Asc r z.2 z.1):=by
 refine Ev.bind (Ev.mono (λ m hm=>?_) (zKX o hp (n - 1) 1 (lQ _) (by omega) (λ i j hij hj=>by omega)));obtain⟨h1,hmn,ha,hl⟩:=hm
 by_cases e:m=n
 ·subst e
  rw[if_pos (by simp)];exact⟨hp,h1,lQ _,ha⟩
 ·rw[if_neg (by simpa using e)]
  by_cases e1:m > 1
  ·rw[if_pos e1]
   refine⟨hp.lt (by omega),hp.lt (by omega),hp.ne (by omega) (by omega) (by omega),?_⟩;have:r (p.getD 0 0) (p.getD (m - 1) 0)=true:=ha 0 (m - 1) (by omega) (by omega);rw[this];exact⟨hp,h1,by dsimp only;omega,ha⟩
  ·rw[if_neg e1]
   have:m=1:=by omega
   subst this;exact zHb o hp h2 (hl (by omega))
theorem zF8 (o:Ord n r) {p:Array Nat}(hp:PermN n p) {k:Nat}(hk:k<n) (ha:Asc r p k):∀(f l u:Nat),l<=u->u<=k->u - l<=f->(∀i,i<l->lt r p i k=true)->(∀i,u<=i->i<k->lt r p k i=true) ->
  Ev r n (kas_place p k f l u) (λ m=>m<=k/\(∀i,i<m->lt r p i k=true)/\(∀i,m<=i->i<k->lt r p k i=true))
 |0,l,u,hl,hu,hf,h1,h2=>⟨by omega,h1,λ i hi hik=>h2 i (by omega) hik⟩
 |f+1,l,u,hl,hu,hf,h1,h2=>by
  unfold kas_place
  by_cases e:l ≥ u
  ·rw[if_pos e]
   exact⟨by omega,h1,λ i hi hik=>h2 i (by omega) hik⟩
  ·rw[if_neg e]
   refine⟨hp.lt hk,hp.lt (by omega),hp.ne (by omega) (by omega) (by omega),?_⟩;cases c:r (p.getD k 0) (p.getD ((l+u) / 2) 0) with
   |true =>
    refine zF8 o hp hk ha f l ((l+u) / 2) (by omega) (by omega) (by omega) h1 λ i hi hik=>?_
    by_cases z:i=(l+u) / 2
    ·rw[z];exact c
    ·exact o.trans _ _ _ (hp.lt hk) (hp.lt (by omega)) (hp.lt (by omega)) c (ha _ i (by omega) hik)
   |false =>
    have hl':=o.tot _ _ (hp.lt hk) (hp.lt (i:=(l+u) / 2) (by omega)) (hp.ne hk (by omega) (by omega)) c;refine zF8 o hp hk ha f ((l+u) / 2+1) u (by omega) hu (by omega) (λ i hi=>?_) h2
    by_cases z:i=(l+u) / 2
    ·rw[z];exact hl'
    ·exact o.trans _ _ _ (hp.lt (by omega)) (hp.lt (by omega)) (hp.lt hk) (ha i _ (by omega) (by omega)) hl'
theorem zJC {p:Array Nat}(hp:PermN n p) {k m:Nat}(hk:k<n) (hm:m<=k) (ha:Asc r p k) (h1:∀i,i<m->lt r p i k=true) (h2:∀i,m<=i->i<k->lt r p k i=true):PermN n (bubble p k (k - m))/\Asc r (bubble p k (k - m)) (k+1):=by
 refine⟨hp.of (bubble_perm _ _ _),λ i j hij hj=>?_⟩
 have e:∀i,(bubble p k (k - m)).getD i 0=if i=m then p.getD k 0 else if m<i/\i<=k then p.getD (i - 1) 0 else p.getD i 0:=λ i=>by
  have:=getElem?_bubble (xs:=p) (src:=k) (by rw[hp.size];exact hk) (k - m) (by omega) i;rw[show k - (k - m)=m by omega] at this
  by_cases c1:i=m
  ·rw[if_pos c1] at this ⊢;exact zF3 this
  ·rw[if_neg c1] at this ⊢
   by_cases c2:m<i/\i<=k
   ·rw[if_pos c2] at this ⊢;exact zF3 this
   ·rw[if_neg c2] at this ⊢;exact zF3 this
 unfold lt;rw[e i,e j]
 by_cases i1:i=m
 ·rw[if_pos i1,if_neg (by omega),if_pos ⟨by omega,by omega⟩]
  exact h2 (j - 1) (by omega) (by omega)
 ·rw[if_neg i1]
  by_cases j1:j=m
  ·rw[if_pos j1,if_neg (by omega)]
   exact h1 i (by omega)
  ·rw[if_neg j1]
   by_cases i2:m<i/\i<=k
   ·rw[if_pos i2,if_pos ⟨by omega,by omega⟩]
    exact ha (i - 1) (j - 1) (by omega) (by omega)
   ·rw[if_neg i2]
    by_cases j2:m<j/\j<=k
    ·rw[if_pos j2]
     exact ha i (j - 1) (by omega) (by omega)
    ·rw[if_neg j2]
     exact ha i j hij (by omega)
theorem zMV (o:Ord n r):∀(f:Nat) {p:Array Nat}(k:Nat),PermN n p->k+f=n->Asc r p k->Ev r n (kas_bin f p k) (λ q=>PermN n q/\Asc r q n)
 |0,p,k,hp,hk,ha=>⟨hp,by have:k=n:=hk;rw[←this];exact ha⟩
 |f+1,p,k,hp,hk,ha=>by
  refine Ev.bind (Ev.mono (λ m hm=>?_) (zF8 o hp (by omega) ha k 0 k (lZ _) (lQ _) (by omega) (λ i hi=>by omega) (λ i hi hik=>by omega)));obtain⟨q1,q2⟩:=zJC hp (by omega) hm.1 ha hm.2.1 hm.2.2;exact zMV o f (k+1) q1 (by omega) q2
theorem zNH (o:Ord n r) (h2:2<=n):Ev r n (kas_sort n) (λ q=>PermN n q/\Asc r q n):=by
 have hp:PermN n (List.toArray (List.range n)):=by unfold PermN;simp
 refine Ev.bind (Ev.mono (λ z hz=>?_) (zLz o hp h2));obtain⟨m,q⟩:=z;obtain⟨q1,q2,q3,q4⟩:=hz;dsimp only at q1 q2 q3 q4 ⊢
 by_cases e:m<n
 ·rw[if_pos e,show max m 1=m by omega]
  exact zMV o (n - m) m q1 (by omega) q4
 ·rw[if_neg e]
  have:m=n:=by omega
  rw[this] at q4;exact⟨q1,q4⟩
end
noncomputable def lexB:List Int->List Int->Bool
 |_,[]=>false
 |[],_::_=>true
 |a::as,b::bs=>if a=b then lexB as bs else decide (a<b)
theorem zCq:∀as:List Int,lexB as as=false
 |[]=>rfl
 |a::as=>by rw[lexB,if_pos rfl];exact zCq as
theorem zIM:∀{as bs:List Int},as≠bs->lexB as bs=false->lexB bs as=true
 |[],[],h,_=>absurd rfl h
 |[],_::_,_,h=>by cases h
 |_::_,[],_,_=>rfl
 |a::as,b::bs,h,k=>by
  rw[lexB] at k ⊢
  by_cases e:a=b
  ·subst e
   rw[if_pos rfl] at k ⊢;exact zIM (λ z=>h (by rw[z])) k
  ·rw[if_neg e] at k
   rw[if_neg (Ne.symm e)];have:=of_decide_eq_false k;exact lU (by omega)
theorem zEg:∀{as bs:List Int},lexB as bs=true->lexB bs as=false
 |[],[],h=>by cases h
 |[],_::_,_=>rfl
 |_::_,[],h=>by cases h
 |a::as,b::bs,k=>by
  rw[lexB] at k ⊢
  by_cases e:a=b
  ·subst e
   rw[if_pos rfl] at k ⊢;exact zEg k
  ·rw[if_neg e] at k
   rw[if_neg (Ne.symm e)];have:=lS k;exact decide_eq_false (by omega)
theorem zFQ:∀{as bs cs:List Int},lexB as bs=true->lexB bs cs=true->lexB as cs=true
 |_,_,[],_,h=>by cases ‹List Int›<;>cases h
 |[],_,_::_,_,_=>rfl
 |_::_,[],_::_,h,_=>by cases h
 |a::as,b::bs,c::cs,h,k=>by
  rw[lexB] at h k ⊢
  by_cases e1:a=b
  ·subst e1
   rw[if_pos rfl] at h
   by_cases e2:a=c
   ·subst e2
    rw[if_pos rfl] at k ⊢;exact zFQ h k
   ·rw[if_neg e2] at k ⊢
    exact k
  ·rw[if_neg e1] at h
   have h':=lS h
   by_cases e2:b=c
   ·subst e2
    rw[if_neg e1];exact h
   ·rw[if_neg e2] at k
    have k':=lS k;rw[if_neg (by omega)];exact lU (by omega)
end L2
namespace PySem
open PySem.Calls PyProof.Rows PySem.W L2
open AutoSeq1 (wpAny_loadPart')
theorem zF1 {vs:List Value}{ns:List Int}(h:IntsAre vs ns):vs.length=ns.length:=by
 induction h with
 |nil=>rfl
 |cons n t _ ih=>simp[ih]
theorem zLi {ns ms:List Int}{i:Nat}(h:i=min ns.length ms.length):lexB (ns.drop i) (ms.drop i)=decide (ns.length<ms.length):=by
 by_cases c:ns.length<ms.length
 ·have e1:ns.drop i=[]:=List.drop_of_length_le (by omega)
  have e2:i<ms.length:=by omega
  rw[e1,List.drop_eq_getElem_cons e2,decide_eq_true c];rfl
 ·have e1:ms.drop i=[]:=List.drop_of_length_le (by omega)
  rw[e1,decide_eq_false c];cases ns.drop i<;>rfl
theorem zIj (l b:Addr) (items items2:Array Value) (n n2:Nat) (dd dd2:Option Addr) (sl sl2:Array (Option Value)) (ns ms:List Int) (hi1:IntsAre items.toList ns) (hi2:IntsAre items2.toList ms) :
  Meets (Builtin.«tuple.__lt__» ⟨[.ref l,.ref b],[]⟩)
   (λ A R s=>s.heap.get? l=some { cls:=.type "tuple", dict:=dd,data:=.seq items n,slots:=sl }/\s.heap.get? b=some { cls:=.type "tuple", dict:=dd2,data:=.seq items2 n2,slots:=sl2 } /\
    R (.ok (.ret (.bool (lexB ns ms)))) s) :=
 .of_wp λ prog w A R s h=>by
  obtain⟨hp,g,d,tk,os⟩:=s;obtain⟨hl,hb,h⟩:=h;have f2:=AutoSeq1.sub_tuple_tuple;have l1:items.size=ns.length:=by have:=zF1 hi1;simpa using this
  have l2:items2.size=ms.length:=by have:=zF1 hi2;simpa using this
  have hZ:(items.toList.zip items2.toList).length=min items.size items2.size:=by simp
  wp_walk using wpAny_loadPart' hl,wpAny_loadPart' hb,wpAny_forIn_list _ (λ rest b s'=>b.1=none/\s'=⟨hp,g,d,tk,os⟩/\∃i,rest=(items.toList.zip items2.toList).drop i/\i<=min items.size items2.size /\
   R (.ok (.ret (.bool (lexB (ns.drop i) (ms.drop i))))) ⟨hp,g,d,tk,os⟩) _
  case turn =>
   rintro⟨y,x⟩ rest b s' ⟨hb',rfl,i,hz,him,hR⟩
   have hlt:i<(items.toList.zip items2.toList).length:=by
    rcases Nat.lt_or_ge i (items.toList.zip items2.toList).length with h'|h'
    ·exact h'
    ·rw[List.drop_of_length_le h'] at hz;cases hz
   have hm:i<min items.size items2.size:=hZ▸hlt;have h1:i<items.size:=mB hm (Nat.min_le_left _ _);have h2:i<items2.size:=mB hm (Nat.min_le_right _ _);rw[List.drop_eq_getElem_cons hlt] at hz;injection hz with hyx hrest
   have hy:y=items[i]:=by have:=congrArg Prod.fst hyx;simpa using this
   have hx:x=items2[i]:=by have:=congrArg Prod.snd hyx;simpa using this
   subst hy hx;obtain⟨t1,e1⟩:=hi1.int_at i items[i] (by simp[h1]);obtain⟨t2,e2⟩:=hi2.int_at i items2[i] (by simp[h2]);rw[e1,e2]
   have d1:ns.drop i=ns.getD i 0::ns.drop (i+1):=by
    rw[List.drop_eq_getElem_cons (by omega)];congr 1;simp[show i<ns.length by omega]
   have d2:ms.drop i=ms.getD i 0::ms.drop (i+1):=by
    rw[List.drop_eq_getElem_cons (by omega)];congr 1;simp[show i<ms.length by omega]
   rw[d1,d2,lexB] at hR;refine lA (SeqAt.EqAt.int_int _ t1 _ t2 prog w _ _ ?_);cases hy:(ns.getD i 0 == ms.getD i 0) with
   |true =>
    rw[if_pos (by simpa using hy)] at hR
    wp_walk
    exact⟨rfl,rfl,i+1,hrest,by omega,hR⟩
   |false =>
    rw[if_neg (by simpa using hy)] at hR;rw[if_pos (by rfl)];refine lA (wpAny_rule (lA (PyProof.Rows.lt_int ?_)))
    wp_walk
    exact⟨_,rfl,hR⟩
  case fin =>
   rintro⟨b1,b2⟩ s' ⟨hb',rfl,i,hz,him,hR⟩;simp only at hb';subst hb'
   have hge:min items.size items2.size<=i:=by
    rcases Nat.lt_or_ge i (items.toList.zip items2.toList).length with h'|h'
    ·rw[List.drop_eq_getElem_cons h'] at hz;cases hz
    ·exact hZ▸h'
   rw[zLi (by omega)] at hR
   wp_walk
   exact⟨_,rfl,by simpa[Builtin.Tuple.tupleCompareSizes,l1,l2] using hR⟩
  case h =>
   exact⟨rfl,rfl,0,rfl,lZ _,by simpa using h⟩
section
variable {prog:Program}{w:World}{A:Around}{E:XQ}{s:Shared}
theorem zLM {l b:Addr}{items items2:Array Value}{ns ms:List Int}{Q:XQ}(hl:s.heap.IsTuple l items) (hb:s.heap.IsTuple b items2) (h1:IntsAre items.toList ns) (h2:IntsAre items2.toList ms) (hu:A.units<cLine)
  (h:Q (.bool (lexB ns ms)) s):wpAny (model prog w) A (compareOp .Lt (.ref l) (.ref b)) Q E s:=by
 obtain⟨⟨cls,dd,data,sl⟩,ho,hc,n,hd⟩:=id hl;obtain⟨⟨cls2,dd2,data2,sl2⟩,ho2,hc2,n2,hd2⟩:=id hb;simp only at hc hd hc2 hd2;subst hc hd hc2 hd2
 exact richCompare_meets_room (op:=.Lt) ⟨_,ho,rfl⟩ ⟨_,ho2,rfl⟩ F.slot_tuple_lt F.entry_tuple_lt (F.args_tuple_lt_2 _ _) (zIj l b items items2 n n2 dd dd2 sl sl2 ns ms h1 h2)
  ⟨ho,ho2,show Value.bool (lexB ns ms)≠Value.notImplemented/\Q (.bool (lexB ns ms)) s from⟨(λ x=>nomatch x),h⟩⟩ hu
theorem zL8:∀{ns ms:List Int},((List.range (min ns.length ms.length)).all (λ j=>ns.getD j 0 == ms.getD j 0) && ns.length == ms.length)=true->ns=ms:=by
 intro ns ms h;rw[Bool.and_eq_true,List.all_eq_true] at h;have hl:ns.length=ms.length:=by simpa using h.2
 refine List.ext_getElem hl λ i h1 h2=>?_;have:=h.1 i (List.mem_range.mpr (by omega));simpa[h1,h2] using this
theorem zLL {l b:Addr}{items items2:Array Value}{ns ms:List Int}(hl:s.heap.IsTuple l items) (hb:s.heap.IsTuple b items2) (h1:IntsAre items.toList ns) (h2:IntsAre items2.toList ms) (hu:A.units<cLine) (hne:ns≠ms):SeqAt.EqAt A s (.ref l) (.ref b) false:=by
 have e1:items.size=ns.length:=by have:=zF1 h1;simpa using this
 have e2:items2.size=ms.length:=by have:=zF1 h2;simpa using this
 have hne':l≠b:=λ z=>by
  subst z;obtain⟨o,ho,hc,n,hd⟩:=hl;obtain⟨o',ho',hc',n',hd'⟩:=hb;rw[ho] at ho';cases ho';rw[hd] at hd';cases hd';refine hne ?_;have:=h1.nums;rw[h2.nums] at this;exact this.symm
 have key:=SeqAt.RcAt.tuples (A:=A) (e:=λ j=>ns.getD j 0 == ms.getD j 0) hl hb hu λ j j1 j2=>by
  obtain⟨t1,q1⟩:=h1.int_at j items[j] (by simp[j1]);obtain⟨t2,q2⟩:=h2.int_at j items2[j] (by simp[j2]);rw[q1,q2];exact SeqAt.EqAt.int_int _ _ _ _
 rw[e1,e2] at key
 have:((List.range (min ns.length ms.length)).all (λ j=>ns.getD j 0 == ms.getD j 0) && ns.length == ms.length)=false:=by
  cases h:((List.range (min ns.length ms.length)).all (λ j=>ns.getD j 0 == ms.getD j 0) && ns.length == ms.length) with
  |false=>rfl
  |true=>exact absurd (zL8 h) hne
 rw[this] at key;exact SeqAt.EqAt.of_refs hne' key
def PlcAt (h:Heap) (v:Value) (ns:List Int):Prop:=∃(a c:Addr) (u:Value) (its:Array Value),v = .ref a/\h.IsTuple a #[.ref c,u]/\h.IsTuple c its/\IntsAre its.toList ns
theorem PlcAt.kept {h h':Heap}{v:Value}{ns:List Int}(k:∀b o,o.cls = .type "tuple" -> h.get? b=some o->h'.get? b=some o):PlcAt h v ns->PlcAt h' v ns
 |⟨a,c,u,its,e,⟨o,ho,hc,r⟩,⟨o',ho',hc',r'⟩,i⟩=>⟨a,c,u,its,e,⟨o,k _ _ hc ho,hc,r⟩,⟨o',k _ _ hc' ho',hc',r'⟩,i⟩
theorem zEX {h h':Heap}(k:∀b o,o.cls = .type "tuple" -> h.get? b=some o->h'.get? b=some o){vs:List Value}{ps:List (List Int)}(z:Paired (PlcAt h) vs ps):Paired (PlcAt h') vs ps:=by
 induction z with
 |nil=>exact .nil
 |cons r q ih=>exact .cons (r.kept k) ih
theorem zJi {h:Heap}{vs:List Value}{ps:List (List Int)}(z:Paired (PlcAt h) vs ps):∀{i:Nat},i<vs.length->PlcAt h (vs.getD i Value.none) (ps.getD i []):=by
 induction z with
 |nil=>exact λ h=>absurd h (Nat.not_lt_zero _)
 |cons r q ih =>
  intro i hi;cases i with
  |zero=>exact r
  |succ i=>have:=ih (i:=i) (by simpa using hi);simpa using this
theorem zNl {x y:Value}{ns ms:List Int}{Q:Bool->Shared->Prop}(hx:PlcAt s.heap x ns) (hy:PlcAt s.heap y ms) (hne:ns≠ms) (hu:A.units<cLine) (h:Q (lexB ns ms) s):wpAny (model prog w) A (keyLt' (tuples' false) x y) Q E s:=by
 obtain⟨a,c,u,its,rfl,⟨o,ho,hc,n,hd⟩,hp,hi⟩:=hx;obtain⟨a',c',u',its',rfl,⟨o',ho',hc',n',hd'⟩,hp',hi'⟩:=hy;refine kat_lt ho hd ho' hd' ?_;show KatLex prog w A false _ Q [(.ref c,.ref c'),(u,u')] 0 s;refine kat_cons (zLL hp hp' hi hi' hu hne prog w _ _ (kat_no ?_));refine kat_one _ _ (zLM hp hp' hi hi' hu ?_);exact h
theorem zH8:∀{vs:List Value}{ps:List (List Int)}{h:Heap},Paired (PlcAt h) vs ps->∃fs,KatTups h vs fs/\fs.length=vs.length/\∀v∈fs,Looks (model prog w) h (typeOf v) (.type "tuple")
 |_,_,_,.nil=>⟨[],trivial,rfl,λ v hv=>nomatch hv⟩
 |_,_,h,.cons r q=>by
  obtain⟨fs,h1,h2,h3⟩:=zH8 q;obtain⟨a,c,u,its,rfl,⟨o,ho,hc,n,hd⟩,⟨o',ho',hc',r'⟩,hi⟩:=r;refine⟨.ref c::fs,KatTups.cons ho hc hd rfl h1,by simp[h2],λ v hv=>?_⟩;rcases lN.mp hv with rfl|hv
  ·have:=(show Looks (model prog w) h (typeOf (.ref c)) o'.cls from(Looks.ld ho').andThen .now)
   rw[hc'] at this;exact this
  ·exact h3 v hv
theorem zK9:∀{vs:List Value},vs.length<2->(vs.toArray.zip vs.toArray).map (·.2)=List.toArray ((List.toArray (List.range vs.length)).toList.map λ i=>vs.getD i Value.none)
 |[],_=>by simp
 |[x],_=>by simp[List.range_succ]
 |_::_::_,h=>by simp at h;omega
theorem zFy {a:Addr}{vs:List Value}{ps:List (List Int)}{n:Nat}{P:PySem.Fin->Shared->Prop}(ho:s.heap.get? a=some (seqObj "list" vs.toArray n)) (hp:Paired (PlcAt s.heap) vs ps) (nd:ps.Nodup) (h64:vs.length<64) (hu:A.units<cLine)
  (h:∀p:Array Nat,PermN vs.length p->Asc (λ i j=>lexB (ps.getD i []) (ps.getD j [])) p vs.length->P (.done (.ret .none)) { s with heap:=sortedHeap s.heap a vs (List.toArray (p.toList.map λ i=>vs.getD i Value.none)) }) :
  wpAny (model prog w) A (Builtin.«list.sort» ⟨[.ref a],[]⟩) P E s:=by
 rw[list_sort_plain];have hlp:vs.length=ps.length:=hp.length;have ha:a<s.heap.objs.size:=lH ho;refine lA (listItems_at ho rfl ?_);refine lA (listUpdate_at ho rfl ?_ (by rw[mE,sizeLine_eq];omega) (lZ _));obtain⟨e1,ho1⟩:∃e1,(s.heap.update a (Obj.mapSeq λ Ω=>#[])).get? a=some (seqObj "list" #[] e1):=⟨_,get?_update_seq ho (λ Ω=>#[])⟩;refine lA (seqEpoch_at ho1 rfl ?_);refine lA (wpAny_newTuple ?_ (by show vs.length<=_;rw[sizeLine_eq];omega));refine lA (wpAny_newList ?_ (lZ _));refine lD ?_
 have ho6:(((s.heap.update a (Obj.mapSeq λ Ω=>#[])).push (seqObj "tuple" vs.toArray 0)).push (seqObj "list" #[] 0)).get? a=some (seqObj "list" #[] e1):=by
  rw[Heap.get?_push_ne _ _ _ (by rw[size_push',Heap.size_update];exact lR (Nat.lt_succ_of_lt ha)),Heap.get?_push_ne _ _ _ (by rw[Heap.size_update];exact lR ha)];exact ho1
 have keep:∀b o,o.cls = .type "tuple" -> s.heap.get? b=some o->(((s.heap.update a (Obj.mapSeq λ Ω=>#[])).push (seqObj "tuple" vs.toArray 0)).push (seqObj "list" #[] 0)).get? b=some o:=λ b o hc hb=>by
  have hne:b≠a:=λ z=>by
   rw[z,ho] at hb;cases hb;injection hc with hh
   exact absurd hh (by decide)
  exact lE _ (lE _ (by rw[Heap.get?_update_ne _ _ _ _ hne];exact hb))
 have hp6:=zEX keep hp;show wpAny (model prog w) A _ P E { s with heap:=((s.heap.update a (Obj.mapSeq λ Ω=>#[])).push (seqObj "tuple" vs.toArray 0)).push (seqObj "list" #[] 0) };dsimp only
 by_cases h2:vs.toArray.size<2
 ·rw[if_pos h2,if_pos h2]
  refine lA (lB ?_);rw[StateT.run_pure];refine lA (lB ?_);dsimp only;have h2':vs.length<2:=by simpa using h2
  have hid:(arrOf (SortSt.mk' general' (vs.toArray.zip vs.toArray) #[] 7 none)).map (·.2)=List.toArray ((List.toArray (List.range vs.length)).toList.map λ i=>vs.getD i Value.none):=by
   show (vs.toArray.zip vs.toArray).map (·.2)=_;exact zK9 h2'
  refine lA (seqEpoch_at ho6 rfl ?_);refine lA (listUpdate_at ho6 rfl ?_ (lZ _) (by rw[Array.size_map];show (vs.toArray.zip vs.toArray).size<=_;rw[sizeLine_eq];simp;omega));simp only[bne_self_eq_false,Bool.false_eq_true,if_false];refine lB ?_;have fin:=h (List.toArray (List.range vs.length)) (by unfold PermN;simp) (λ i j hij hj=>by omega);rw[←hid] at fin;exact fin
 ·rw[if_neg h2,if_neg h2]
  have h2':2<=vs.length:=by simpa using h2
  obtain⟨fs,t1,t2,t3⟩:=zH8 (prog:=prog) (w:=w) hp6;refine lA (kat_kind (T:=.type "tuple") t1 (by omega) t3 (by decide) ?_);show wpAny (model prog w) A ((sortRuns').run (SortSt.mk' (tuples' false) (vs.toArray.zip vs.toArray) #[] 7 none) >>= _) P E _
  have o:Ord vs.length (λ i j=>lexB (ps.getD i []) (ps.getD j [])):=by
   have inj:∀i j,i<vs.length->j<vs.length->i≠j->ps.getD i []≠ps.getD j []:=λ i j hi hj ne e=>by
    have e1:ps.getD i []=ps[i]'(by omega):=by simp[show i<ps.length by omega]
    have e2:ps.getD j []=ps[j]'(by omega):=by simp[show j<ps.length by omega]
    rw[e1,e2] at e;exact ne ((List.getElem_inj nd).mp e)
   exact⟨λ i j hi hj ne k=>zIM (inj i j hi hj ne) k,λ i j Ω Ω k=>zEg k,λ i j k Ω Ω Ω a b=>zFQ a b⟩
  refine lA (wpAny_mono (kat_run (Q:=λ st' s'=>∃p:Array Nat,PermN vs.length p/\Asc (λ i j=>lexB (ps.getD i []) (ps.getD j [])) p vs.length/\s'={ s with heap:=((s.heap.update a (Obj.mapSeq λ Ω=>#[])).push (seqObj "tuple" vs.toArray 0)).push (seqObj "list" #[] 0) }/\arrOf st'=p.map (kas_item (vs.toArray.zip vs.toArray))/\failedOf st'=none)
   (G:=λ p s'=>(PermN vs.length p/\Asc (λ i j=>lexB (ps.getD i []) (ps.getD j [])) p vs.length)/\s'={ s with heap:=((s.heap.update a (Obj.mapSeq λ Ω=>#[])).push (seqObj "tuple" vs.toArray 0)).push (seqObj "list" #[] 0) })
   rfl h2' h64 (λ p' st' s' a1 a2 a3 a4=>⟨p',a4.1.1,a4.1.2,a4.2,a2,a3⟩) ?_) ?_ λ Ω Ω e=>e)
  ·refine Ev.wp (St:=λ s'=>s'={ s with heap:=((s.heap.update a (Obj.mapSeq λ Ω=>#[])).push (seqObj "tuple" vs.toArray 0)).push (seqObj "list" #[] 0) }) (λ i j C s' hi hj hij hs hC=>?_) (λ p s' q hs=>⟨q,hs⟩) (zNH o h2') rfl
   subst hs;unfold kas_ask;refine zNl (zJi hp6 hi) (zJi hp6 hj) ?_ hu (hC _ rfl);intro e;have:=o.tot i j hi hj hij (by rw[e];exact zCq _);rw[e,zCq] at this;cases this
  ·rintro⟨⟨⟩,st'⟩ s' ⟨p,pm,asc,rfl,har,hf⟩
   dsimp only;have hout:=kat_snds rfl har;rw[hout];have hsz:(List.toArray (p.toList.map λ i=>vs.getD i Value.none)).size=vs.length:=by rw[mE,lC,Array.length_toList,pm.size]
   refine lA (seqEpoch_at ho6 rfl ?_);refine lA (listUpdate_at ho6 rfl ?_ (lZ _) (mH (Nat.le_of_eq hsz) (by rw[sizeLine_eq];omega)));rw[hf];simp only[bne_self_eq_false,Bool.false_eq_true,if_false];exact lB (h p pm asc)
end
end PySem
namespace L2
open PySem PySem.Spec PyProof.Rows PySem.W
def PlV (H:Hp) (p:List Int × V) (v:V):Prop:=∃(b c:Addr),v = .ref b/\H b=some (.tup [.ref c,p.2])/\H c=some (.tup (p.1.map V.int))
theorem PlV.mono {H H':Hp}(k:Tk H H') {p:List Int × V}{v:V}:PlV H p v->PlV H' p v
 |⟨b,c,e,h1,h2⟩=>⟨b,c,e,k _ _ h1,k _ _ h2⟩
theorem zKP:∀{ns:List Int}{us:List Value},Vals (ns.map V.int) us->IntsAre us ns
 |[],_,h=>by
  cases h;exact .nil
 |n::ns,_,h=>by
  rw[mL] at h;cases h with
  |cons r q =>
   obtain⟨t,rfl⟩:=r;exact .cons n t (zKP q)
theorem zNk {P:Program}{w:World}{H:Hp}{h:Heap}(ok:HOk P w H h) {p:List Int × V}{v:V}{u:Value}(hp:PlV H p v) (r:RelV v u):PlcAt h u p.1:=by
 obtain⟨b,c,rfl,h1,h2⟩:=hp;cases r;obtain⟨_,its,rv,tp⟩:=(show ObjOk P w H h b (.tup [.ref c,p.2]) from ok b _ h1);obtain⟨_,its2,rv2,tp2⟩:=(show ObjOk P w H h c (.tup (p.1.map V.int)) from ok c _ h2);cases rv with
 |cons q1 rv=>cases rv with
  |cons q2 rv =>
   cases rv;cases q1;exact⟨b,c,_,its2.toArray,rfl,tp,tp2,by simpa using zKP rv2⟩
theorem zJh {P:Program}{w:World}{H:Hp}{h:Heap}(ok:HOk P w H h){ps:List (List Int × V)}{vs:List V}{us:List Value}(z:Paired (PlV H) ps vs):Vals vs us->Paired (PlcAt h) us (ps.map (·.1)):=by
 induction z generalizing us with
 |nil=>intro r;cases r;exact .nil
 |cons hp q ih =>
  intro r;cases r with
  |cons r1 r2=>exact .cons (zNk ok hp r1) (ih r2)
theorem zGJ {vs:List V}{us:List Value}(r:Vals vs us):∀(ix:List Nat),(∀i∈ix,i<vs.length)->Vals (ix.map λ i=>vs.getD i .non) (ix.map λ i=>us.getD i Value.none)
 |[],_=>.nil
 |i::ix,h=>by
  refine .cons ?_ (zGJ r ix λ j hj=>h j (lP _ hj));have hi:=h i lO
  have key:∀{vs:List V}{us:List Value},Vals vs us->∀{i:Nat},i<vs.length->RelV (vs.getD i .non) (us.getD i Value.none):=by
   intro vs us r
   induction r with
   |nil=>intro i hi;simp at hi
   |cons q _ ih =>
    intro i hi;cases i with
    |zero=>exact q
    |succ i=>exact ih (by simpa using hi)
  exact key r hi
theorem zEa {ps:List (List Int × V)}{vs:List V}{H:Hp}(h:Paired (PlV H) ps vs):∀(ix:List Nat),(∀i∈ix,i<vs.length)->Paired (PlV H) (ix.map λ i=>ps.getD i ([],.non)) (ix.map λ i=>vs.getD i .non)
 |[],_=>.nil
 |i::ix,hx=>by
  refine .cons ?_ (zEa h ix λ j hj=>hx j (lP _ hj));have hi:=hx i lO;obtain⟨p,hp,q⟩:=zAW h (lX hi);have e1:ps.getD i ([],.non)=p:=by rw[List.getD_eq_getElem?_getD,hp];rfl
  have e2:vs.getD i .non=vs[i]:=by simp[hi]
  dsimp only;rw[e1,e2];exact q
theorem zJm {α:Type}(d:α) (ps:List α) {ix:List Nat}(h:ix.Perm (List.range ps.length)):(ix.map λ i=>ps.getD i d).Perm ps:=by
 refine(h.map _).trans ?_
 have:(List.range ps.length).map (λ i=>ps.getD i d)=ps:=by
  apply List.ext_getElem
  ·simp
  ·intro i h1 h2
   simp[h2]
 rw[this]
section
variable {X:Cx}
def zNh:List V->Hp->VK->Prop:=λ xs H Q=>∃(l:Addr) (vs:List V) (ps:List (List Int × V)),xs=[.ref l]/\H l=some (.lst vs)/\Paired (PlV H) ps vs/\(ps.map (·.1)).Nodup/\ps.length<64 /\
 ∀(l':Addr) (ws:List V) (qs:List (List Int × V)),H l'=none->Paired (PlV H) qs ws->qs.Perm ps->qs.Pairwise (λ a b=>lexB a.1 b.1=true)->Q (.ref l') (upd H l' (.lst ws))
theorem zGq (hu:X.A.units+150<cLine):CallR X (.builtin "sorted") zNh:=by
 intro jP s σ H xs us Q I r h;obtain⟨l,vs,ps,rfl,hl,hp,nd,h64,q⟩:=h;obtain⟨u,rfl,ru⟩:=vals1 r;cases ru;obtain⟨_,its,n0,rv,hlen,el⟩:=I.lstM hl;have hlv:its.length=vs.length:=rv.length.symm;have hlp:ps.length=vs.length:=Paired.length hp;have line:its.length<=sizeLine:=Nat.le_of_lt (zAM (by omega));refine Calls.call_function_entry kind_sorted plain_sorted entry_sorted (args_sorted1 _) ?_;unfold Builtin.«sorted»;refine lA (m:=checkCount "sorted" 1 1 _) (lB ?_);have hL:s.heap.IsList l its.toArray:=⟨_,el,rfl,_,rfl⟩;refine lA (collect_list hL ?_ (by simpa using line));refine lA (wpAny_newList ?_ (by simpa using line))
 have keep1:∀b o,s.heap.get? b=some o->((s.heap.push (seqObj "list" #[] 0)).update s.heap.objs.size (Obj.mapSeq (·++its.toArray))).get? b=some o:=λ b o q=>by
  have hlt:b<s.heap.objs.size:=lH q;rw[Heap.get?_update_ne _ _ _ _ (Nat.ne_of_lt hlt)];exact lE _ q
 show wpAny _ _ _ _ _ { s with heap:=((s.heap.push (seqObj "list" #[] 0)).update s.heap.objs.size (Obj.mapSeq (·++its.toArray))).push { cls:=.type "list", data:=.seq its.toArray } };generalize (s.heap.push (seqObj "list" #[] 0)).update s.heap.objs.size (Obj.mapSeq (·++its.toArray))=h1 at keep1 ⊢;have I1:Inv X jP σ H { s with heap:=h1 }:=I.kept (t':=s.toks) keep1;have hoL:(h1.push { cls:=.type "list", data:=.seq its.toArray }).get? h1.objs.size=some (seqObj "list" its.toArray 0):=lG _ rfl;have hplc:Paired (PlcAt (h1.push { cls:=.type "list", data:=.seq its.toArray })) its (ps.map (·.1)):=zEX (λ b o Ω e=>lE _ e) (zJh I1.hok hp rv);refine lA (lD (wpAny_call_entry slot_list_sort ⟨_,hoL,rfl⟩ entry_list_sort (zFy hoL hplc nd (by omega) (by show X.A.units+1+1<cLine;omega) λ p pm asc=>⟨_,rfl,?_⟩) (args_list_sort _)));have pm':p.toList.Perm (List.range ps.length):=by have:=pm;unfold PermN at this;rw[hlv,←hlp] at this;exact this
 have hix:∀i∈p.toList,i<vs.length:=λ i hi=>by
  have:=List.mem_range.mp (pm'.mem_iff.mp hi);omega
 obtain⟨e,he⟩:∃e,(sortedHeap (h1.push { cls:=.type "list", data:=.seq its.toArray }) h1.objs.size its (List.toArray (p.toList.map λ i=>its.getD i Value.none))).get? h1.objs.size=some (seqObj "list" (List.toArray (p.toList.map λ i=>its.getD i Value.none)) e):=sortedHeap_at hoL;have hn1:=I1.hok.fresh (lQ h1.objs.size);refine lB ⟨_,rfl,⟨.ref h1.objs.size,upd H h1.objs.size (.lst (p.toList.map λ i=>vs.getD i .non)),I1.laid (t':=s.toks) (a:=h1.objs.size) (o:=.lst (p.toList.map λ i=>vs.getD i .non)) (λ b o hb=>?_) (lQ _) ⟨?_,_,e,zGJ rv p.toList hix,?_⟩,rfl,q _ _ (p.toList.map λ i=>ps.getD i ([],.non)) hn1 (zEa hp p.toList hix) (zJm _ ps pm') ?_⟩⟩
 ·rw[sortedHeap_old (Nat.ne_of_lt (Heap.lt_size hb)) (by rw[Heap.size_push];exact Nat.lt_succ_of_lt (lH hb))]
  exact lE _ hb
 ·rw[lC,pm'.length_eq,List.length_range]
  exact Nat.le_of_lt (zAM (by omega))
 ·rw[he]
 ·rw[List.pairwise_map]
  rw[List.pairwise_iff_getElem];intro i j hi hj hij;have hs:p.toList.length=ps.length:=by rw[pm'.length_eq,List.length_range]
  have ea:=asc i j hij (by omega)
  have g:∀k,(hk:k<p.toList.length)->p.getD k 0=p.toList[k]:=λ k hk=>by
   have:k<p.size:=by simpa using hk
   simp[Array.getD,this]
  have m:∀k,k<ps.length->(ps.map (·.1)).getD k []=(ps.getD k ([],.non)).1:=λ k hk=>by simp[hk]
  unfold lt at ea;rw[g i hi,g j hj] at ea;have hi':p.toList[i]<ps.length:=by have:=hix _ (List.getElem_mem hi);omega
  have hj':p.toList[j]<ps.length:=by have:=hix _ (List.getElem_mem hj);omega
  have ea':lexB ((ps.map (·.1)).getD p.toList[i] []) ((ps.map (·.1)).getD p.toList[j] [])=true:=ea;rw[m _ hi',m _ hj'] at ea';exact ea'
end
end L2
namespace PySem
open AutoSeq1
set_option maxRecDepth 8000 in
theorem zF6 (l:Addr) (items:Array Value) (n:Nat) (b:Addr) (items2:Array Value) (n2:Nat) (dd:Option Addr) (sl:Array (Option Value)) (hs0:¬(!items.isEmpty && Builtin.List.listTooLong (items.size+items2.size))=true) (hs1:items.size<=sizeLine) (hs2:items.size+items2.size<=sizeLine+1) :
  Meets (Builtin.«list.extend» ⟨[.ref l,.ref b],[]⟩) (λ Ω R s=>s.heap.get? l=some { cls:=.type "list", dict:=none,data:=.seq items n,slots:=#[] }/\s.heap.get? b=some { cls:=.type "tuple", dict:=dd,data:=.seq items2 n2,slots:=sl }/\R (.ok (.ret Value.none)) { s with heap:=s.heap.update l (Obj.mapSeq λ x=>x++items2),toks:=s.toks }) :=
 .of_wp λ prog w A R s h=>by
  obtain⟨hp,g,d,tk,os⟩:=s;obtain⟨hl,hb,h⟩:=h;have f1:=idx_int;have f2:=sub_tuple_tuple;have f3:=sub_list_list;have f4:=sub_tuple_list;have f5:=sub_list_tuple;have hz':(items++items2).size<=sizeLine+1:=by rw[Array.size_append];exact hs2
  wp_walk using (wpAny_updateSeq hl rfl (hz:=hs1) (_hz':=hz')),wpAny_loadPart' hl,wpAny_loadPart' hb
  exact⟨_,rfl,h⟩
end PySem
namespace L2
open PySem PySem.Spec PyProof.Rows
section
variable {X:Cx}
def zLH (K:W.Frag):V->List V->Hp->VK->Prop:=λ x vs H Q=>∃l b xs zs,x = .ref l/\vs=[.ref b]/\H l=some (.lst xs)/\SqT K H b zs/\xs.length+zs.length<=sizeLine/\Q .non (upd H l (.lst (xs++zs)))
theorem zI2:MtM X "list.extend" (zLH X.K):=by
 intro jP s σ H x vs v us Q I rx rv h;obtain⟨l,b,xs,zs,rfl,rfl,hH,hB,hz,q⟩:=h;cases rx;obtain⟨u,rfl,ru⟩:=rv.one;cases ru;obtain⟨z,its,n,r,hl,e⟩:=I.lstM hH;obtain⟨its2,r2,p2,z2⟩:=I.tuple hB;obtain⟨⟨cls,dd,data,sl⟩,e2,hc,n2,hd⟩:=id p2;simp only at hc hd;subst hc hd;have hl2:=r2.length;have hsz:its.toArray.size+its2.toArray.size<=sizeLine:=by rw[mE,mE];omega
 have hlong:¬(!its.toArray.isEmpty && Builtin.List.listTooLong (its.toArray.size+its2.toArray.size))=true:=by
  rw[zIE hsz,Bool.and_false];exact lY
 refine call_meets F.slot_list_extend ⟨_,e,rfl⟩ F.entry_list_extend (F.args_list_extend_2 _ _)
  (zF6 l its.toArray n b its2.toArray n2 dd sl hlong (by rw[mE];omega) (by omega)) ⟨e,e2,?_⟩
 refine⟨.non,_,I.lset (its':=its++its2) hH e (by simp) (r.append r2) ?_,rfl,q⟩;rw[mK];omega
def zMj:V->List V->Hp->VK->Prop:=λ x vs H Q=>∃(a:Addr) (kvs:List (Key × V)) (k:Key) (y:V),x = .ref a/\vs=[kV k,y]/\H a=some (.dK kvs)/\kvs.length<1000/\(∀z,valV kvs k=some z->Q z H)/\(valV kvs k=none->Q y (upd H a (.dK (putK kvs k y))))
theorem zFx:MtM X "dict.setdefault" zMj:=by
 intro jP s σ H x vs v us Q I rx rv h;obtain⟨a,kvs,k,y,rfl,rfl,ha,hl,q1,q2⟩:=h;cases rx;obtain⟨u1,u2,rfl,r1,r2⟩:=vals2 rv;obtain⟨z,hs,vs,rel,dd⟩:=dk_of I.hok ha;have hz:vs.length<=sizeLine:=by rw[←rel.length];exact z
 have hm:(putK kvs k y).length<=sizeLine:=by have:=zAu kvs k y;exact zAm (by omega)
 refine call_meetsIn PySem.F.slot_dict_setdefault dd.typeIs PySem.F.entry_dict_setdefault (PySem.F.args_dict_setdefault_3 _ _ _) (kt_meets_setdefault (zAd X.prog X.w) a (kV_is r1) hs u2) ⟨vs,dd,hz,λ w' e=>?_,λ e h' d1 hs1=>?_⟩
 ·have ro:=rel.val k
  rw[e] at ro;cases e2:valV kvs k with
  |none=>rw[e2] at ro;exact(show False from ro).elim
  |some y' =>
   rw[e2] at ro;exact⟨y',H,I.tok _,ro,q1 y' e2⟩
 ·have ro:=rel.val k
  rw[e] at ro
  have e2:valV kvs k=none:=by
   cases e2:valV kvs k with
   |none=>rfl
   |some y'=>rw[e2] at ro;exact(show False from ro).elim
  have he:∃q,h'.get? a=some q:=let ⟨q,_,_,hq,_⟩:=d1;⟨q,hq⟩;exact⟨y,_,zEx (t':=s.toks+1) I (by rw[ha];exact True.intro) hs1 he (zFU hm hs (rel.put k r2) d1),r2,q2 e2⟩
theorem zFZ:CallR X (.builtin "len") (λ xs H Q=>∃a kvs,xs=[V.ref a]/\Rd H a (.dK kvs)/\Q (.int kvs.length) H):=by
 intro jP s σ H xs us Q I r h;obtain⟨a,kvs,rfl,ha,q⟩:=h;obtain⟨u,rfl,ru⟩:=vals1 r;cases ru;exact d_len I ha λ t s' I'=>⟨.int kvs.length,H,I',⟨t,rfl⟩,q⟩
theorem zJr (hu:X.A.units+1<cLine):OpR X (compareOp .NotIn) (λ x y H Q=>∃(a:Addr) (o:Option V),y = .ref a/\DGet H a x o/\Q (.bl (!o.isSome)) H):=by
 intro jP s σ H x y v u Q I rx ry h;obtain⟨a,o,rfl,g,q⟩:=h;cases ry;exact zNL hu I g rx λ s' I'=>⟨.bl (!o.isSome),H,I',rfl,q⟩
end
noncomputable def zH0:List V:=[.str "num", .str "name", .str "ask", .str "stop", .str "gap"]
def zG3 (K:W.Frag) (lv:Addr):Prop:=∃(o:Obj) (its:Array Value) (n:Nat),K.lookup lv=some o/\o.cls = .type "tuple" /\ o.data = .seq its n/\its.size<=sizeLine/\Vals zH0 its.toList
theorem zLq (k:Kd):inV (.str k.s) zH0=k.leaf:=by cases k<;>left
theorem zLs (t:Tr):1<=t.head:=by cases t<;>simp[Tr.head]
theorem zIH:∀{ts:List Tr}{t:Tr},t∈ts->t.size<=(ts.map Tr.size).sum
 |a::ts,t,h=>by
  rw[mL,List.sum_cons];rcases lN.mp h with rfl|h
  ·omega
  ·have:=zIH h
   omega
theorem zFM (t:Tr):(t.parts.map Tr.size).sum+1=t.size:=by
 cases t<;>simp[Tr.parts,Tr.size]<;>omega
theorem zCo {t p:Tr}(h:p∈t.parts):p.size+1<=t.size:=by
 have:=zIH h;have:=zFM t;omega
theorem zIl (t:Tr):1<=t.size:=by cases t<;>simp[Tr.size]
noncomputable def szT (ts:List Tr):Nat:=(ts.map Tr.size).sum
theorem zJQ (a b:List Tr):szT (a++b)=szT a+szT b:=by simp[szT]
theorem zFh (a:Tr) (b:List Tr):szT (a::b)=a.size+szT b:=by simp[szT]
theorem zG8:∀ts:List Tr,ts.length<=szT ts
 |[]=>lQ _
 |t::ts=>by
  rw[zFh,mM];have:=zG8 ts;have:=zIl t;omega
theorem zHq (L:List Tr) (i:Nat):szT (L.take i)<=szT L:=by
 have e:szT L=szT (L.take i)+szT (L.drop i):=by rw[←zJQ,List.take_append_drop]
 omega
theorem zJP (t:Tr):szT t.parts+1=t.size:=zFM t
noncomputable def Tr.subs:Tr->List Tr
 |.say a=>.say a::a.subs
 |.bin o a b=>.bin o a b::(a.subs++b.subs)
 |.ite a b c=>.ite a b c::(a.subs++(b.subs++c.subs))
 |.lett x a b=>.lett x a b::(a.subs++b.subs)
 |t=>[t]
theorem zG9 (t:Tr):t.subs=t::t.parts.flatMap Tr.subs:=by
 cases t<;>simp[Tr.subs,Tr.parts]
theorem zDP:∀L:List Tr,szT (L.flatMap Tr.parts)+L.length=szT L
 |[]=>rfl
 |t::L=>by
  have ih:=zDP L;have:=zJP t;rw[rG,zJQ,zFh,mM];omega
theorem zFL:∀L:List Tr,(L.flatMap Tr.subs).Perm (L++(L.flatMap Tr.parts).flatMap Tr.subs)
 |[]=>.refl _
 |t::L=>by
  rw[rG,zG9 t,List.cons_append,List.cons_append,rG,nK];refine .cons _ ?_;refine((zFL L).append_left _).trans ?_;rw[←mY,←mY];exact List.perm_append_comm.append_right _
abbrev PlT:=List Int × Tr
noncomputable def kidsP (x:PlT):List PlT:=x.2.parts.zipIdx.map λ q=>(x.1++[(q.2:Int)],q.1)
noncomputable def psub:List Int->Tr->List PlT
 |pl,.say a=>(pl,.say a)::psub (pl++[0]) a
 |pl,.bin o a b=>(pl,.bin o a b)::(psub (pl++[0]) a++psub (pl++[1]) b)
 |pl,.ite a b c=>(pl,.ite a b c)::(psub (pl++[0]) a++(psub (pl++[1]) b++psub (pl++[2]) c))
 |pl,.lett x a b=>(pl,.lett x a b)::(psub (pl++[0]) a++psub (pl++[1]) b)
 |pl,.num n=>[(pl,.num n)]
 |pl,.name n=>[(pl,.name n)]
 |pl,.ask n=>[(pl,.ask n)]
 |pl,.stop n=>[(pl,.stop n)]
 |pl,.gap n as=>[(pl,.gap n as)]
theorem zFr (pl:List Int) (t:Tr):psub pl t=(pl,t)::(kidsP (pl,t)).flatMap λ x=>psub x.1 x.2:=by
 cases t<;>simp[psub,kidsP,Tr.parts,List.zipIdx]
theorem zBa:∀(t:Tr) (pl:List Int),(psub pl t).map (·.2)=t.subs
 |.say a,pl=>by simp[psub,Tr.subs,zBa a]
 |.bin o a b,pl=>by simp[psub,Tr.subs,zBa a,zBa b]
 |.ite a b c,pl=>by simp[psub,Tr.subs,zBa a,zBa b,zBa c]
 |.lett x a b,pl=>by simp[psub,Tr.subs,zBa a,zBa b]
 |.num _,_=>rfl
 |.name _,_=>rfl
 |.ask _,_=>rfl
 |.stop _,_=>rfl
 |.gap _ _,_=>rfl
theorem zA7:∀(t:Tr) (pl:List Int),(psub pl t).length=t.size
 |.say a,pl=>by simp[psub,Tr.size,zA7 a]
 |.bin o a b,pl=>by simp[psub,Tr.size,zA7 a,zA7 b]
 |.ite a b c,pl=>by simp[psub,Tr.size,zA7 a,zA7 b,zA7 c];omega
 |.lett x a b,pl=>by simp[psub,Tr.size,zA7 a,zA7 b]
 |.num _,_=>rfl
 |.name _,_=>rfl
 |.ask _,_=>rfl
 |.stop _,_=>rfl
 |.gap _ _,_=>rfl
theorem zC1:∀(t:Tr) (pl:List Int),∀p∈(psub pl t).map (·.1),∃r,p=pl++r:=by
 have one:∀{pl p:List Int}{i:Int},(∃r,p=pl++[i]++r)->∃r,p=pl++r:=λ{pl p i} h=>by
  obtain⟨r,e⟩:=h;exact⟨[i]++r,by rw[e,mY]⟩
 intro t
 induction t with
 |say a ih =>
  intro pl p hp;simp only[psub,mL] at hp;rcases lN.mp hp with rfl|hp
  ·exact⟨[],by simp⟩
  ·exact one (ih _ p hp)
 |bin o a b iha ihb =>
  intro pl p hp;simp only[psub,mL,mQ] at hp;rcases lN.mp hp with rfl|hp
  ·exact⟨[],by simp⟩
  ·rcases lK.mp hp with hp|hp
   ·exact one (iha _ p hp)
   ·exact one (ihb _ p hp)
 |ite a b c iha ihb ihc =>
  intro pl p hp;simp only[psub,mL,mQ] at hp;rcases lN.mp hp with rfl|hp
  ·exact⟨[],by simp⟩
  ·rcases lK.mp hp with hp|hp
   ·exact one (iha _ p hp)
   ·rcases lK.mp hp with hp|hp
    ·exact one (ihb _ p hp)
    ·exact one (ihc _ p hp)
 |lett x a b iha ihb =>
  intro pl p hp;simp only[psub,mL,mQ] at hp;rcases lN.mp hp with rfl|hp
  ·exact⟨[],by simp⟩
  ·rcases lK.mp hp with hp|hp
   ·exact one (iha _ p hp)
   ·exact one (ihb _ p hp)
 |_ =>
  intro pl p hp;simp[psub] at hp;exact⟨[],by simp[hp]⟩
theorem zDU {t u:Tr}{pl:List Int}{i j:Int}(ne:i≠j):∀p∈(psub (pl++[i]) t).map (·.1),∀q∈(psub (pl++[j]) u).map (·.1),p≠q:=λ p hp q hq e=>by
 obtain⟨r,rfl⟩:=zC1 t _ p hp;obtain⟨r',e'⟩:=zC1 u _ q hq;rw[e'] at e;rw[mY,mY] at e;have:=List.append_cancel_left e;simp at this;exact ne this.1
theorem zB1 {t:Tr}{pl:List Int}{i:Int}:pl∉(psub (pl++[i]) t).map (·.1):=λ h=>by
 obtain⟨r,e⟩:=zC1 t _ _ h;have:=congrArg List.length e;simp at this
theorem zCU:∀(t:Tr) (pl:List Int),((psub pl t).map (·.1)).Nodup
 |.say a,pl=>by
  simp only[psub,mL,rD];exact⟨zB1,zCU a _⟩
 |.bin o a b,pl=>by
  simp only[psub,mL,rD,mQ,List.nodup_append,nM,not_or];exact⟨⟨zB1,zB1⟩,zCU a _,zCU b _,zDU (by decide)⟩
 |.lett x a b,pl=>by
  simp only[psub,mL,rD,mQ,List.nodup_append,nM,not_or];exact⟨⟨zB1,zB1⟩,zCU a _,zCU b _,zDU (by decide)⟩
 |.ite a b c,pl=>by
  simp only[psub,mL,rD,mQ,List.nodup_append,nM,not_or];refine⟨⟨zB1,zB1,zB1⟩,zCU a _,⟨zCU b _,zCU c _,zDU (by decide)⟩,λ p hp q hq=>?_⟩;rcases hq with hq|hq
  ·exact zDU (by decide) p hp q hq
  ·exact zDU (by decide) p hp q hq
 |.num _,_=>by simp[psub]
 |.name _,_=>by simp[psub]
 |.ask _,_=>by simp[psub]
 |.stop _,_=>by simp[psub]
 |.gap _ _,_=>by simp[psub]
noncomputable def allP (L:List PlT):List PlT:=L.flatMap λ x=>psub x.1 x.2
theorem zFc:∀L:List PlT,(allP L).Perm (L++allP (L.flatMap kidsP))
 |[]=>.nil
 |x::L=>by
  have ih:=zFc L;unfold allP at ih ⊢;rw[rG,zFr,rG,nK,List.cons_append,List.cons_append];refine List.Perm.cons _ ?_;refine(ih.append_left _).trans ?_;rw[←mY,←mY];exact List.Perm.append_right _ List.perm_append_comm
theorem zKE {pl:List Int}{t:Tr}{j:Nat}{c:Tr}(h:t.parts[j]?=some c):(kidsP (pl,t))[j]?=some (pl++[(j:Int)],c):=by
 unfold kidsP;rw[mI,List.getElem?_zipIdx];simp[h]
theorem zKD (pl:List Int) (t:Tr):(kidsP (pl,t)).length=t.parts.length:=by simp[kidsP]
noncomputable def szP (L:List PlT):Nat:=szT (L.map (·.2))
theorem zKC (x:PlT):(kidsP x).map (·.2)=x.2.parts:=by
 unfold kidsP;rw[nT];have:((λ x:PlT=>x.2) ∘ λ q:Tr × Nat=>(x.1++[(q.2:Int)],q.1))=Prod.fst:=rfl;rw[this,List.zipIdx_map_fst]
theorem zGN (L:List PlT):szP (L.flatMap kidsP)+L.length=szP L:=by
 have:=zDP (L.map (·.2));unfold szP;rw[List.map_flatMap]
 have e:(L.flatMap λ x=>(kidsP x).map (·.2))=(L.map (·.2)).flatMap Tr.parts:=by
  rw[List.flatMap_map];congr 1;funext x;exact zKC x
 rw[e];rw[lC] at this;exact this
theorem zMe (L:List PlT):L.length<=szP L:=by have:=zG8 (L.map (·.2));rw[lC] at this;exact this
theorem zGc (t:Tr):t.parts.length<=3:=by cases t<;>simp[Tr.parts]
theorem zL9 (L:List PlT):(allP L).length=szP L:=by
 induction L with
 |nil=>rfl
 |cons x L ih =>
  unfold allP at ih ⊢;unfold szP at ih ⊢;rw[rG,mK,ih,mL,zFh,zA7]
theorem zIN:∀(pl:List Int) (i:Int) (r:List Int),lexB pl (pl++i::r)=true
 |[],_,_=>rfl
 |a::pl,i,r=>by rw[List.cons_append,lexB,if_pos rfl];exact zIN pl i r
theorem zGf:∀(pl:List Int) {i j:Int}(r r':List Int),i<j->lexB (pl++i::r) (pl++j::r')=true
 |[],i,j,r,r',h=>by
  rw[nV,nV,lexB,if_neg (by omega)];exact lU h
 |a::pl,i,j,r,r',h=>by rw[List.cons_append,List.cons_append,lexB,if_pos rfl];exact zGf pl r r' h
theorem zCt {t:Tr}{pl:List Int}{i:Int}:∀p∈(psub (pl++[i]) t).map (·.1),lexB pl p=true:=λ p hp=>by
 obtain⟨r,rfl⟩:=zC1 t _ p hp;rw[mY];exact zIN pl i r
theorem zE0 {t u:Tr}{pl:List Int}{i j:Int}(h:i<j):∀p∈(psub (pl++[i]) t).map (·.1),∀q∈(psub (pl++[j]) u).map (·.1),lexB p q=true:=λ p hp q hq=>by
 obtain⟨r,rfl⟩:=zC1 t _ p hp;obtain⟨r',rfl⟩:=zC1 u _ q hq;rw[mY,mY];exact zGf pl r r' h
theorem zBR:∀(t:Tr) (pl:List Int),((psub pl t).map (·.1)).Pairwise λ a b=>lexB a b=true
 |.say a,pl=>by
  simp only[psub,mL,List.pairwise_cons];exact⟨zCt,zBR a _⟩
 |.bin o a b,pl=>by
  simp only[psub,mL,List.pairwise_cons,mQ,List.pairwise_append];exact⟨λ p hp=>(lK.mp hp).elim (zCt p) (zCt p),zBR a _,zBR b _,zE0 (by decide)⟩
 |.lett x a b,pl=>by
  simp only[psub,mL,List.pairwise_cons,mQ,List.pairwise_append];exact⟨λ p hp=>(lK.mp hp).elim (zCt p) (zCt p),zBR a _,zBR b _,zE0 (by decide)⟩
 |.ite a b c,pl=>by
  simp only[psub,mL,List.pairwise_cons,mQ,List.pairwise_append];refine⟨λ p hp=>(lK.mp hp).elim (zCt p) λ hp=>(lK.mp hp).elim (zCt p) (zCt p),zBR a _,⟨zBR b _,zBR c _,zE0 (by decide)⟩,λ p hp q hq=>?_⟩;exact(lK.mp hq).elim (zE0 (by decide) p hp q) (zE0 (by decide) p hp q)
 |.num _,_=>by simp[psub]
 |.name _,_=>by simp[psub]
 |.ask _,_=>by simp[psub]
 |.stop _,_=>by simp[psub]
 |.gap _ _,_=>by simp[psub]
end L2
namespace PySem.W
open PySem PySem.Spec PySem.Calls PyProof.Rows
end PySem.W
namespace L2
open PySem PySem.Spec PyProof.Rows
section
variable {P:Program}{w:World}{H H':Hp}{h h' g:Heap}{a:Addr}{o:HO}
theorem ObjOk.there (x:ObjOk P w H h a o):∃ob,h.get? a=some ob:=by
 cases o with
 |lst xs=>obtain⟨_,_,_,_,e⟩:=x;exact⟨_,e⟩
 |tup xs=>obtain⟨_,_,_,ob,e,_⟩:=x;exact⟨_,e⟩
 |dK kvs=>obtain⟨_,_,_,_,o,_,_,e,_⟩:=x;exact⟨_,e⟩
 |dT kvs=>obtain⟨_,_,_,_,o,_,_,e,_⟩:=x;exact⟨_,e⟩
 |set S n=>obtain⟨o,_,_,_,e,_⟩:=x;exact⟨_,e⟩
 |ins C dx fs=>obtain⟨_,_,_,e,_⟩:=x;exact⟨_,e⟩
 |own y=>exact x
 |xd fs=>obtain⟨_,⟨_,_,_,e,_⟩,_⟩:=x;exact⟨_,e⟩
 |rng lo hi=>obtain⟨_,_,_,e⟩:=x;exact⟨_,e⟩
 |frz ob u=>obtain⟨e,_⟩:=x;exact⟨_,e⟩
 |tbl ps=>exact⟨_,(show h.get? a=some _ from x)⟩
 |met f y=>exact⟨_,(show h.get? a=some _ from x)⟩
 |ext φ=>obtain⟨_,e,_⟩:=x;exact e
def Cov (fs:List Addr) (H':Hp) (h g B:Heap):Prop:=∀b o,g.get? b=some o->b∉fs->((∃o0,h.get? b=some o0)\/H' b≠none)->B.get? b=some o
theorem moved {fs:List Addr}{B:Heap}(un:Un fs [] H H' h g) (hok:HOk P w H' g) (cov:Cov fs H' h g B) (hfd:∀b∈fs,H' b=none/\∃o,g.get? b=some o/\∀vs,o.data ≠ .fields vs)
  (st:B.StaysIn h') (sm:g.UpToSlots h'):Un fs [] H H' h h'/\HOk P w H' h'/\Cov fs H' h h' B:=by
 refine⟨⟨λ b o q n nb Ω=>?_,λ b o q n hb Ω=>?_,un.free,λ b o q Ω=>?_,un.tups,un.frzs,un.tbls⟩,λ b u e=>?_,λ b o e nb hz=>?_⟩
 ·exact st b o (cov b o (un.keep b o q n nb (by simp)) nb (.inl ⟨o,q⟩))
 ·obtain⟨sl,e⟩:=un.slot b o q n hb (by simp)
  obtain⟨_,o',e',d⟩:=hfd b hb;rw[e] at e';cases e';obtain⟨sl',e2⟩:=sm b _ e d;exact⟨sl',e2⟩
 ·by_cases hb:b∈fs
  ·obtain⟨_,o',e',d⟩:=hfd b hb
   obtain⟨sl',e2⟩:=sm b _ e' d;exact⟨_,e2⟩
  ·obtain⟨o',e⟩:=un.there b o q (by simp)
   exact⟨o',st b o' (cov b o' e hb (.inl ⟨o,q⟩))⟩
 ·refine(hok b u e).stay (λ c v hc q=>?_) (λ Ω q=>q) λ Ω Ω q=>q
  have hn:H' c≠none:=by
   rcases hc with z|z
   ·rw[z,e];intro y;cases y
   ·rw[z];intro y;cases y
  exact st c v (cov c v q (λ z=>hn (hfd c z).1) (.inr hn))
 ·have:∃o',g.get? b=some o':=by
   rcases hz with ⟨o0,z⟩|z
   ·exact un.there b o0 z (by simp)
   ·cases q:H' b with
    |none=>exact absurd q z
    |some u=>exact(hok b u q).there
  obtain⟨o',e'⟩:=this;have c:=cov b o' e' nb hz;have:=st b o' c;rw[e] at this;cases this;exact c
end
structure Flew (P:Program) (w:World) (stk:List Env) (H:Hp) (s:Shared) (H':Hp) (ea C:Addr) (s':Shared):Prop where
 os:s'.os=s.os
 bare:AllBare s'.gens
 un:Un (frs stk) [] H H' s.heap s'.heap
 hok:HOk P w H' s'.heap
 new:s.heap.get? ea=none
 hn:H' ea=none
 fly:∃(B:Heap) (a0:Value),Heap.FlyingW B stk ea (.ref C) a0 s'.heap/\Cov (frs stk) H' s.heap s'.heap B
noncomputable def CXF (P:Program) (w:World):CXT:=λ outer H s E e s'=>∃ea C H',e = .ref ea/\Flew P w outer H s H' ea C s'/\E (.ref C) none H'
section
variable {X:Cx}{jP:List (Addr × Obj)}{σ:St}{H H':Hp}{s s':Shared}{ea C:Addr}
theorem Flew.frd (F:Flew X.prog X.w X.stack H s H' ea C s') (I:Inv X jP σ H s) {B:Heap}{a0:Value}(hfl:Heap.FlyingW B X.stack ea (.ref C) a0 s'.heap):∀b∈frs X.stack,H' b=none/\∃o,s'.heap.get? b=some o/\∀vs,o.data ≠ .fields vs:=λ b hb=>by
 obtain⟨_,o,e,d⟩:=I.stack.mem hb;exact⟨F.un.free b o e (I.stkFree b hb) (by simp),(hfl.2.2.1.mem hb).2⟩
end
section
variable {P:Program}{w:World}{K:W.Frag}{mg:Str->Option Value}{base:Heap}{N:List Str}{qual:Str}{scope:Scope}{f:Addr}{cd:Value}{A:Around}{outer:List Env}{s:Shared}{H:Hp}{E:XK}
theorem zGl {jP:List (Addr × Obj)}{σ:St}{H1 H':Hp}{s1:Shared}{h' B:Heap}(I:Inv (cxOf (CXF P w) P w K mg base N qual scope f cd A outer s H E) jP σ H1 s1)
  (U:Un (frs (cxOf (CXF P w) P w K mg base N qual scope f cd A outer s H E).stack) [] H1 H' s1.heap h') (c:Cov (frs (cxOf (CXF P w) P w K mg base N qual scope f cd A outer s H E).stack) H' s1.heap h' B):Un (frs outer) [] H H' s.heap h'/\Cov (frs outer) H' s.heap h' B:=by
 have ba:Un (frs outer) [] H H1 s.heap s1.heap:=I.base;have ab:s.heap.objs.size<=(cxOf (CXF P w) P w K mg base N qual scope f cd A outer s H E).env.locals:=I.ok.above;have lt:∀b o,s.heap.get? b=some o->b≠(cxOf (CXF P w) P w K mg base N qual scope f cd A outer s H E).env.locals:=λ b o e=>lR (mB (lH e) ab)
 have no:∀b,b≠(cxOf (CXF P w) P w K mg base N qual scope f cd A outer s H E).env.locals->b∉frs outer->b∉frs (cxOf (CXF P w) P w K mg base N qual scope f cd A outer s H E).stack:=λ b n1 n2 z=>by
  rcases lN.mp (I.stkSub b z) with q|q
  ·exact n1 q
  ·exact n2 q
 have hL:H' (cxOf (CXF P w) P w K mg base N qual scope f cd A outer s H E).env.locals=none:=by
  obtain⟨m,⟨o,_,_,e,_⟩,_⟩:=I.loc;exact U.free _ o e I.free (by simp)
 refine⟨⟨λ b o q n nb hx=>U.keep b o (ba.keep b o q n nb hx) (ba.free b o q n hx) (no b (lt b o q) nb) hx,λ b o q n hb hx=>?_,λ b o q n hx=>?_,λ b o q hx=>?_,λ b xs q=>U.tups b xs (ba.tups b xs q),λ b o u q=>U.frzs b o u (ba.frzs b o u q),λ b ps q=>?_⟩,λ b o e nb hz=>?_⟩
 ·obtain⟨sl,e⟩:=ba.slot b o q n hb hx
  obtain⟨sl',e'⟩:=U.any e (ba.free b o q n hx) hx;exact⟨sl',e'⟩
 ·obtain⟨o',e⟩:=ba.there b o q hx
  exact U.free b o' e (ba.free b o q n hx) hx
 ·obtain⟨o',e⟩:=ba.there b o q hx
  exact U.there b o' e hx
 ·obtain⟨m1,e1⟩:=ba.tbls b ps q
  obtain⟨m2,e2⟩:=U.tbls b _ e1;exact⟨m1++m2,by rw[e2,Array.append_assoc]⟩
 ·rcases hz with ⟨o0,z⟩|z
  ·obtain⟨o1,z1⟩:=ba.there b o0 z (by simp)
   exact c b o e (no b (lt b o0 z) nb) (.inl ⟨o1,z1⟩)
  ·exact c b o e (no b (λ y=>z (by rw[y];exact hL)) nb) (.inr z)
theorem zC6:zFd (CXF P w) (cxOf (CXF P w) P w K mg base N qual scope f cd A outer s H E) E:=by
 rintro jP σ H1 s1 e s' I ⟨ea,C,H',rfl,F,q⟩;obtain⟨B,a0,hfl,cov⟩:=F.fly;refine wpAny_leaves_onW I.ok.frames rfl hfl λ h' x1 x2=>?_;obtain⟨u,k,c⟩:=moved F.un F.hok cov (Flew.frd (X:=cxOf (CXF P w) P w K mg base N qual scope f cd A outer s H E) F I hfl) x1.1 x2;obtain⟨u2,c2⟩:=zGl I u c;refine⟨ea,C,H',rfl,⟨F.os.trans I.os,F.bare,u2,k,?_,F.hn,B,a0,x1,c2⟩,q⟩;cases z:s.heap.get? ea with
 |none=>rfl
 |some o =>
  obtain⟨o',z'⟩:=(show Un (frs outer) [] H H1 s.heap s1.heap from I.base).there ea o z (by simp);rw[F.new] at z';cases z'
theorem zKi {jP:List (Addr × Obj)}{σ:St}{H1:Hp}{s1:Shared}{h1:Heap}{ea C:Addr}{vs:List Value}(I:Inv (cxOf (CXF P w) P w K mg base N qual scope f cd A outer s H E) jP σ H1 s1) (hx:Heap.MadeExcOf s1.heap h1 ea (.ref C) vs) (q:E (.ref C) none H1) :
  (cxOf (CXF P w) P w K mg base N qual scope f cd A outer s H E).xe (.ref ea) { s1 with heap:=h1 }:=by
 refine wpAny_leaves_madeW (base:=W.hideAll s1.heap (frs (cxOf (CXF P w) P w K mg base N qual scope f cd A outer s H E).stack)) I.ok.frames rfl (λ b o e=>W.of_hideAll _ e) (W.funFrames_hide I.stack λ env he b hb=>List.mem_filterMap.mpr ⟨env,he,hb⟩) hx λ h' t x1 x2 x3 x4=>?_
 have cov:Cov (frs (cxOf (CXF P w) P w K mg base N qual scope f cd A outer s H E).stack) H1 s1.heap h1 (W.hideAll s1.heap (frs (cxOf (CXF P w) P w K mg base N qual scope f cd A outer s H E).stack)):=λ b o e nb hz=>by
  have:∃o0,s1.heap.get? b=some o0:=by
   rcases hz with z|z
   ·exact z
   ·cases y:H1 b with
    |none=>exact absurd y z
    |some u=>exact(I.hok b u y).there
  obtain⟨o0,z⟩:=this;have:=hx.keeps b o0 z;rw[e] at this;cases this;exact W.hideAll_get _ z nb
 obtain⟨u,k,c⟩:=moved (Un.kept (fs:=frs (cxOf (CXF P w) P w K mg base N qual scope f cd A outer s H E).stack) (ex:=[]) (H:=H1) hx.keeps) (I.hok.kept hx.keeps) cov (λ b hb=>by
  obtain⟨_,o,e,d⟩:=I.stack.mem hb;exact⟨I.stkFree b hb,o,hx.keeps b o e,d⟩) x1.1 x4
 obtain⟨u2,c2⟩:=zGl I u c;refine⟨ea,C,H1,rfl,⟨I.os,I.bare,u2,k,?_,?_,_,_,x1,c2⟩,q⟩
 ·cases z:s.heap.get? ea with
  |none=>rfl
  |some o =>
   obtain⟨o',z'⟩:=(show Un (frs outer) [] H H1 s.heap s1.heap from I.base).there ea o z (by simp);rw[hx.new] at z';cases z'
 ·cases y:H1 ea with
  |none=>rfl
  |some u =>
   obtain⟨o,z⟩:=(I.hok ea u y).there;rw[hx.new] at z;cases z
end
end L2
namespace PySem.W
open PySem PySem.Spec PySem.Calls PyProof.Rows
set_option tactic.hygienic true in
theorem exc_obj {K:Frag}{h:Heap}{C:Addr}{bB:List Value}{nid:String}(Z:K.In h) (e:excIn K C bB nid=true):∃tl NN n1 n2 b1 b2 b3 b4 b5 b6 b7 z0 z1 z2 z3 z5 mm,
  h.get? C=some (excClassObj n1 n2 C NN b1 tl b2 b3 b4 b5 b6 b7 z0 z1 z2 z3 z5 nid)/\h.Ns NN mm/\mm "__init__" = none/\OwnTail h bB tl:=by
 unfold excIn at e;split at e
 next b7 cc ss hK =>
  split at e
  next C2 tl z0 z1 z2 z3 nn z5 hmro hsl =>
   simp only[Bool.and_eq_true,beq_iff_eq,Bool.not_eq_true'] at e;obtain⟨⟨⟨⟨⟨r1,r2⟩,hdl⟩,htl⟩,hnk⟩,hin⟩:=e;subst r1 r2;obtain⟨n1,b1,mro,NN,n2,b2,b3,b4,b5,b6,del⟩:=cc;dsimp only at hmro hdl hnk hin;subst hmro hdl
   have es:ss=#[z0,z1,z2,z3,some (.builtin nn),z5]:=by
    obtain⟨l⟩:=ss;simp only at hsl;rw[hsl]
   subst es;exact⟨tl,NN,n1,n2,b1,b2,b3,b4,b5,b6,b7,z0,z1,z2,z3,z5,_,Z _ _ hK,.of_isNs (isNs_of_in Z hnk),nsMap_none_of_in Z hnk hin,tail_of_in Z htl⟩
  next=>cases e
 next=>cases e
end PySem.W
namespace L2
open PySem PySem.Spec PyProof.Rows
abbrev bmVE:List Value:=[.type "ValueError", .type "Exception", .type "BaseException", .type "object"]
def zNX (C:Addr) (E:XK) (t:TA):TS:=λ _ σ H=>t σ H λ vs H1=>vs.length<=sizeLine/\E (.ref C) none H1
section
variable {P:Program}{w:World}{K:W.Frag}{mg:Str->Option Value}{base:Heap}{N:List Str}{qual:Str}{scope:Scope}{f:Addr}{cd:Value}{A:Around}{outer:List Env}{s:Shared}{H:Hp}{E:XK}
theorem zH4 {x:Str}{np cpos pos:Pos}{e0:Expr}{es:List Expr}{t:TA}{C:Addr}(hg:Gl (cxOf (CXF P w) P w K mg base N qual scope f cd A outer s H E) x) (hm:mg x=some (.ref C)) (hC:W.excIn K C bmVE "ValueError.__new__" = true)
  (ha:PA (cxOf (CXF P w) P w K mg base N qual scope f cd A outer s H E) (e0::es) t) (hdb:(x == ("__debug__" : Str))=false:=by decide)
  (he:starEach (e0::es) (cxOf (CXF P w) P w K mg base N qual scope f cd A outer s H E).env=(false,eval e0 (cxOf (CXF P w) P w K mg base N qual scope f cd A outer s H E).env)::starEach es (cxOf (CXF P w) P w K mg base N qual scope f cd A outer s H E).env:=by rfl)
  (hpl:(backTo cpos (starEach es (cxOf (CXF P w) P w K mg base N qual scope f cd A outer s H E).env)).any (·.1)=false:=by rfl) :
  PS (cxOf (CXF P w) P w K mg base N qual scope f cd A outer s H E) (.Raise (some (.Call (.Name x np) (e0::es) [] cpos)) none pos) (zNX C E t):=by
 intro jP s1 σ H1 D I h;obtain⟨tl,NN,n1,n2,b1,b2,b3,b4,b5,b6,b7,z0,z1,z2,z3,z5,mm,hobj,hns,hni,T⟩:=W.exc_obj I.ok.mod.kin hC;refine wpAny_Raise_call_subT (C:=C) (nm:=n1) (q:=n2) (N:=NN) (bs:=b1) (bm:=tl) (hdct:=b2) (sn:=b3) (sub:=b4) (ab:=b5) (col:=b6) (dd:=b7) (k0:=z0) (k1:=z1) (k2:=z2) (k3:=z3) (k5:=z5) PySem.F.excBase_ValueError (mN:=mm) (T.hasType PySem.F.excBase_ValueError.hasBase) (I.ok.hd rfl) ?_ hni (zHZ I hg hm ⟨rfl,?_⟩ hdb)
 ·rw[he]
  show (false || (backTo cpos (starEach es _)).any (·.1))=false;rw[hpl];rfl
 ·have z:=ha cpos jP s1 σ H1 _ I h
  rw[he] at z ⊢;refine Calls.evalArgs_plain (wpAny_mono z (λ us s2 ⟨vs,H2,I2,r,hl,q⟩=>⟨rfl,by rw[←r.length];exact hl,I2.bk _ _ hobj,hns.keeps I2.bk,T.keeps I2.bk,λ h' e hx=>zKi I2 hx q⟩) λ Ω Ω y=>y)
end
abbrev HR:=Ends->Addr->St->Hp->Prop
theorem Fun.okF {P:Program}{w:World}{K:W.Frag}{mg:Str->Option Value}{base:Heap}{x qual:Str}{st:Stmt}{f:Addr}{fd:FuncData}{N ps:List Str}{k:Nat}{sp:Sp}(F:Fun K x qual st f fd) (S:zAV N ps (zAN st)) (len:∀vs H Q E,sp vs H Q E->vs.length=ps.length)
  (hbody:∀(cdv:Value) (A:Around) (outer:List Env) (s:Shared) (H:Hp) (vs:List V) (Q:VK) (E:XK),Room k (A.deeper (envOfC qual (zAN st) s.heap.objs.size f cdv))->sp vs H Q E ->
   ∃t,PSs (cxOf (CXF P w) P w K mg base N qual (zAN st) f cdv A outer s H E) (zCY st) t/\t { nx:=λ Ω H'=>Q .non H',rt:=Q } (start N vs) H):FnOk P w K mg base (CXF P w) (k+1) f fd ps sp:=by
 obtain⟨oc,od,kV,doc,pm,an,cdv,ct,osl,rfl,lk,hcd⟩:=F.ex;exact fn_of lk hcd S len λ A outer s H vs Q E hr hsp=>hbody cdv A outer s H vs Q E hr hsp
section
variable {prog:Program}{w:World}{A:Around}{E:XQ}{s:Shared}
abbrev Drs (prog:Program) (w:World) (it l:Addr) (n:Nat) (P:Nat->Value->Prop) (S:Nat->Heap->Prop):Prop:=∀A:Around,A.handled=none->Draws prog w A it [it,l] n P S
theorem zIX (it l:Addr) (hne:l≠it) (items:Array Value):Drs prog w it l items.size (λ i v=>items[i]?=some v) (λ i h=>h.IsListIter it l i/\h.IsList l items):=λ A hh=>Draws.list hh it l hne items
theorem zKb (it l:Addr) (hne:l≠it) (items:Array Value):Drs prog w it l items.size (λ i v=>items[i]?=some v) (λ i h=>h.IsTupleIter it l i/\h.IsTuple l items):=λ A hh=>zEw hh it l hne items
theorem zGG {z TI TO i1 i2 l1 l2:Addr}{k n1 n2:Nat}{P1 P2:Nat->Value->Prop}{S1 S2:Nat->Heap->Prop}{a b:Value}{Q:Option Value->Shared->Prop}(hh:A.handled=none) (D:ZipApart z TI TO i1 i2 l1 l2) (W1:Drs prog w i1 l1 n1 P1 S1) (W2:Drs prog w i2 l2 n2 P2 S2)
  (hz:ZipS s.heap z TI TO) (hTI:IsPair s.heap TI (.ref i1) (.ref i2)) (hTO:IsPair s.heap TO a b) (h1:S1 k s.heap) (h2:S2 k s.heap) (hk1:k<n1) (hk2:k<n2)
  (hQ:∀h' tk x y,P1 k x->P2 k y->ZipS h' z TI TO->(∃p q,IsPair h' TO p q)->S1 (k+1) h'->S2 (k+1) h'->IsPair h' s.heap.objs.size x y ->
   (∀c o,c≠z->c≠TO->c≠i1->c≠i2->s.heap.get? c=some o->h'.get? c=some o)->Q (some (.ref s.heap.objs.size)) { s with heap:=h',toks:=tk }):wpAny (model prog w) A (pyNext (.ref z)) Q E s:=by
 obtain⟨f0,f1,hz,hf⟩:=hz;have hT:s.TypeIs (.ref z) "zip" := ⟨_,hz,rfl⟩;have fr1:∀{i:Nat}{h h':Heap},S1 i h->(∀b∈[i1,l1],∀o,h.get? b=some o->h'.get? b=some o)->S1 i h':=λ st k=>(W1 A hh).frame _ _ _ st k;have fr2:∀{i:Nat}{h h':Heap},S2 i h->(∀b∈[i2,l2],∀o,h.get? b=some o->h'.get? b=some o)->S2 i h':=λ st k=>(W2 A hh).frame _ _ _ st k
 have sb1:∀{i:Nat}{h h':Heap}{c:Addr},S1 i h->Heap.SameBut c h h'->i1≠c->l1≠c->S1 i h':=λ st e n1 n2=>fr1 st λ b hb o q=>by
  rcases lN.mp hb with r|hb
  ·exact e.extBut _ _ (r▸n1) q
  ·exact e.extBut _ _ (mR.mp hb▸n2) q
 have sb2:∀{i:Nat}{h h':Heap}{c:Addr},S2 i h->Heap.SameBut c h h'->i2≠c->l2≠c->S2 i h':=λ st e n1 n2=>fr2 st λ b hb o q=>by
  rcases lN.mp hb with r|hb
  ·exact e.extBut _ _ (r▸n1) q
  ·exact e.extBut _ _ (mR.mp hb▸n2) q
 unfold pyNext;refine lA (wpAny_attempt (wpAny_callSpecial?_slot (name:=Str.ofString "__next__") hT F.slot_zip_next (wpAny_call_entry F.slot_zip_next hT F.entry_zip_next ?_ (F.args_zip_next_1 _))));show wpAny _ _ (field (.ref z) 2 >>= _) _ _ _;refine lA (wpAny_field hz rfl (x:=.bool false) rfl ?_);show wpAny _ _ (field (.ref z) 3 >>= _) _ _ _;refine lA (wpAny_field hz rfl (x:=.ref TI) rfl ?_);refine lA (wpAny_seqItems hTI rfl ?_);show wpAny _ _ (Builtin.SmallTypes.ownedTupleIsFree (.ref z) >>= _) _ _ _;refine lA (zHh hz hf ?_ λ q1 hz1 hs1=>?_)
 ·simp only[if_true];refine lA (wpAny_rule ?_);refine lA (wpAny_field hz rfl (x:=.ref TO) rfl ?_)
  refine lA (wpAny_setField_rec hz (by simp) λ q1 hz1 hs1=>?_);replace hz1:ZipF q1 z TI TO .ellipsis f1:=hz1;refine lA ?_;simp only[List.zipIdx_cons,List.zipIdx_nil,List.forIn_cons,List.forIn_nil];refine lA (lA (wpAny_onRaise ?_));show wpAny _ _ (Builtin.SmallTypes.nextOf (.ref i1) >>= _) _ _ _;refine lA ((W1 A.in1 hh).item k _ _ _ hk1 (sb1 h1 hs1 D.i1z D.l1z) λ x q2 t2 p1 j1 hs2=>lB ?_);have hTO2:IsPair q2 TO a b:=hs2.extBut _ _ D.TOi1 (hs1.extBut _ _ D.TOz hTO);refine lA (wpAny_seqItems hTO2 rfl ?_);refine lA (wpAny_updateSeq_pair hTO2 λ q3 hTO3 hs3=>?_);replace hTO3:IsPair q3 TO x b:=hTO3;refine lA (wpAny_letGo (lB ?_));refine lA (lA (wpAny_onRaise ?_));show wpAny _ _ (Builtin.SmallTypes.nextOf (.ref i2) >>= _) _ _ _;refine lA ((W2 A.in1 hh).item k _ _ _ hk2 (sb2 (sb2 (sb2 h2 hs1 D.i2z D.l2z) hs2 D.i12.symm D.l2i1) hs3 D.TOi2.symm D.l2TO) λ y q4 t4 p2 j2 hs4=>lB ?_);have hTO4:IsPair q4 TO x b:=hs4.extBut _ _ D.TOi2 hTO3;refine lA (wpAny_seqItems hTO4 rfl ?_);refine lA (wpAny_updateSeq_pair hTO4 λ q5 hTO5 hs5=>?_);replace hTO5:IsPair q5 TO x y:=hTO5;refine lA (wpAny_letGo (lB (lB ?_)));refine lA (wpAny_seqItems hTO5 rfl ?_);refine lA (wpAny_newTuple ?_);have hsz:q5.objs.size=s.heap.objs.size:=by rw[hs5.1,hs4.1,hs3.1,hs2.1,hs1.1]
  have hz5:ZipF q5 z TI TO .ellipsis f1:=hs5.extBut _ _ D.TOz.symm (hs4.extBut _ _ D.i2z.symm (hs3.extBut _ _ D.TOz.symm (hs2.extBut _ _ D.i1z.symm hz1)));have hk5:∀c o,c≠z->c≠TO->c≠i1->c≠i2->s.heap.get? c=some o->q5.get? c=some o:=λ c o c1 c2 c3 c4 e=>hs5.extBut _ _ c2 (hs4.extBut _ _ c4 (hs3.extBut _ _ c2 (hs2.extBut _ _ c3 (hs1.extBut _ _ c1 e))));have j15:S1 (k+1) q5:=sb1 (sb1 (sb1 j1 hs3 D.TOi1.symm D.l1TO) hs4 D.i12 D.l1i2) hs5 D.TOi1.symm D.l1TO;have j25:S2 (k+1) q5:=sb2 j2 hs5 D.TOi2.symm D.l2TO;have hzlt:z<q5.objs.size:=lH hz5;show wpAny _ _ (Builtin.SmallTypes.ownedTupleHandOut (.ref z) (.ref q5.objs.size) >>= _) _ _ _;refine lA ?_;unfold Builtin.SmallTypes.ownedTupleHandOut;have hz6:ZipF (q5.push { cls:=.type "tuple", data:=.seq #[x,y] }) z TI TO .ellipsis f1:=lE _ hz5;refine lA (wpAny_setField_rec hz6 (by simp) λ q7 hz7 hs7=>?_);replace hz7:ZipF q7 z TI TO (rawInt q5.objs.size) f1:=hz7;refine wpAny_setField_rec hz7 (by simp) λ q8 hz8 hs8=>?_;replace hz8:ZipF q8 z TI TO (rawInt q5.objs.size) false:=hz8;have up:∀c o,c≠z->q5.get? c=some o->q8.get? c=some o:=λ c o c1 e=>hs8.extBut _ _ c1 (hs7.extBut _ _ c1 (lE _ e));have hT8:IsPair q8 q5.objs.size x y:=hs8.extBut _ _ (Nat.ne_of_gt hzlt) (hs7.extBut _ _ (Nat.ne_of_gt hzlt) (lG _ rfl));rw[hsz] at hz8 hT8;refine lB ⟨_,rfl,lB ?_⟩;show Q (some (.ref q5.objs.size)) _;rw[hsz];refine hQ q8 _ x y p1 p2 ⟨_,_,hz8,.inr ⟨_,rfl⟩⟩ ⟨_,_,up _ _ D.TOz hTO5⟩ (fr1 j15 λ b hb o e=>up b o ?_ e) (fr2 j25 λ b hb o e=>up b o ?_ e) hT8 λ c o c1 c2 c3 c4 e=>up c o c1 (hk5 c o c1 c2 c3 c4 e)
  ·rcases lN.mp hb with r|hb
   ·exact r▸D.i1z
   ·exact mR.mp hb▸D.l1z
  ·rcases lN.mp hb with r|hb
   ·exact r▸D.i2z
   ·exact mR.mp hb▸D.l2z
 ·rw[if_neg Bool.false_ne_true]
  refine lA ?_;rw[←Array.forIn_toList];simp only[List.forIn_cons,List.forIn_nil];refine lA (lA (lD ?_));show wpAny _ _ (Builtin.SmallTypes.nextOf (.ref i1) >>= _) _ _ _;refine lA ((W1 A.in1 hh).item k _ _ _ hk1 (sb1 h1 hs1 D.i1z D.l1z) λ x q2 t2 p1 j1 hs2=>lB (lB ?_));refine lA (lA (lD ?_));show wpAny _ _ (Builtin.SmallTypes.nextOf (.ref i2) >>= _) _ _ _;refine lA ((W2 A.in1 hh).item k _ _ _ hk2 (sb2 (sb2 h2 hs1 D.i2z D.l2z) hs2 D.i12.symm D.l2i1) λ y q4 t4 p2 j2 hs4=>lB (lB (lB ?_)));refine lA (wpAny_newTuple ?_ (by show 2<=sizeLine;decide));have hsz:q4.objs.size=s.heap.objs.size:=by rw[hs4.1,hs2.1,hs1.1]
  have hz4:ZipF q4 z TI TO f0 true:=hs4.extBut _ _ D.i2z.symm (hs2.extBut _ _ D.i1z.symm hz1);have up:∀c o,q4.get? c=some o->(q4.push { cls:=.type "tuple", data:=.seq #[x,y] }).get? c=some o:=λ c o e=>lE _ e;have hk4:∀c o,c≠z->c≠TO->c≠i1->c≠i2->s.heap.get? c=some o->q4.get? c=some o:=λ c o c1 c2 c3 c4 e=>hs4.extBut _ _ c4 (hs2.extBut _ _ c3 (hs1.extBut _ _ c1 e));have hT8:IsPair (q4.push { cls:=.type "tuple", data:=.seq #[x,y] }) q4.objs.size x y:=lG _ rfl;have hTO4:IsPair q4 TO a b:=hs4.extBut _ _ D.TOi2 (hs2.extBut _ _ D.TOi1 (hs1.extBut _ _ D.TOz hTO));refine lB ⟨_,rfl,lB ?_⟩;show Q (some (.ref q4.objs.size)) { s with heap:=q4.push { cls:=.type "tuple", data:=.seq #[x,y] },toks:=t4 };rw[hsz] at hT8 ⊢;exact hQ _ _ x y p1 p2 ⟨_,_,up _ _ hz4,hf⟩ ⟨_,_,up _ _ hTO4⟩ (fr1 (sb1 j1 hs4 D.i12 D.l1i2) λ b Ω o e=>up b o e) (fr2 j2 λ b Ω o e=>up b o e) hT8 λ c o c1 c2 c3 c4 e=>up c o (hk4 c o c1 c2 c3 c4 e)
theorem zHk {z TI TO i1 i2 l1 l2:Addr}{k n1 n2:Nat}{P1 P2:Nat->Value->Prop}{S1 S2:Nat->Heap->Prop}{a b:Value}{Q:Option Value->Shared->Prop}(hh:A.handled=none) (D:ZipApart z TI TO i1 i2 l1 l2) (W1:Drs prog w i1 l1 n1 P1 S1) (W2:Drs prog w i2 l2 n2 P2 S2)
    (hz:ZipS s.heap z TI TO) (hTI:IsPair s.heap TI (.ref i1) (.ref i2)) (hTO:IsPair s.heap TO a b) (h1:S1 k s.heap) (h2:S2 k s.heap) (hend:k=n1\/(k<n1/\k=n2))
    (hQ:∀h' tk,(∀c o,c≠z->c≠TO->c≠i1->c≠i2->s.heap.get? c=some o->h'.get? c=some o)->Q none { s with heap:=h',toks:=tk }):wpAny (model prog w) A (pyNext (.ref z)) Q E s:=by
  obtain⟨f0,f1,hz,hf⟩:=hz;have hT:s.TypeIs (.ref z) "zip" := ⟨_,hz,rfl⟩;have fr1:∀{i:Nat}{h h':Heap},S1 i h->(∀b∈[i1,l1],∀o,h.get? b=some o->h'.get? b=some o)->S1 i h':=λ st k=>(W1 A hh).frame _ _ _ st k;have fr2:∀{i:Nat}{h h':Heap},S2 i h->(∀b∈[i2,l2],∀o,h.get? b=some o->h'.get? b=some o)->S2 i h':=λ st k=>(W2 A hh).frame _ _ _ st k
  have sb1:∀{i:Nat}{h h':Heap}{c:Addr},S1 i h->Heap.SameBut c h h'->i1≠c->l1≠c->S1 i h':=λ st e n1 n2=>fr1 st λ b hb o q=>by
    rcases lN.mp hb with r|hb
    · exact e.extBut _ _ (r▸n1) q
    · exact e.extBut _ _ (mR.mp hb▸n2) q
  have sb2:∀{i:Nat}{h h':Heap}{c:Addr},S2 i h->Heap.SameBut c h h'->i2≠c->l2≠c->S2 i h':=λ st e n1 n2=>fr2 st λ b hb o q=>by
    rcases lN.mp hb with r|hb
    · exact e.extBut _ _ (r▸n1) q
    · exact e.extBut _ _ (mR.mp hb▸n2) q
  have fin:∀(h':Heap) (tk:Nat) (e:Addr),(∀c o,c≠z->c≠TO->c≠i1->c≠i2->s.heap.get? c=some o->h'.get? c=some o)->(∃o,h'.get? e=some o/\o.cls = .type "StopIteration") ->
      wpAny (model prog w) A (do if ← isInstance (.ref e) (.type "StopIteration") then pure none else throw (.ref e)) Q E { s with heap:=h',toks:=tk }:=λ h' tk e hk ⟨o,ho,hc⟩ =>
    lA (wpAny_isInstance (T := "StopIteration") (b:=true) ⟨o,ho,hc⟩ isSubtype_stop (lB (hQ _ _ hk)))
  unfold pyNext;refine lA (wpAny_attempt (wpAny_callSpecial?_slot (name:=Str.ofString "__next__") hT F.slot_zip_next (wpAny_call_entry F.slot_zip_next hT F.entry_zip_next ?_ (F.args_zip_next_1 _))));show wpAny _ _ (field (.ref z) 2 >>= _) _ _ _;refine lA (wpAny_field hz rfl (x:=.bool false) rfl ?_);show wpAny _ _ (field (.ref z) 3 >>= _) _ _ _;refine lA (wpAny_field hz rfl (x:=.ref TI) rfl ?_);refine lA (wpAny_seqItems hTI rfl ?_);show wpAny _ _ (Builtin.SmallTypes.ownedTupleIsFree (.ref z) >>= _) _ _ _;refine lA (zHh hz hf ?_ λ q1 hz1 hs1=>?_)
  · simp only[if_true];refine lA (wpAny_rule ?_);refine lA (wpAny_field hz rfl (x:=.ref TO) rfl ?_)
    refine lA (wpAny_setField_rec hz (by simp) λ q1 hz1 hs1=>?_);replace hz1:ZipF q1 z TI TO .ellipsis f1:=hz1;refine lA ?_;simp only[List.zipIdx_cons,List.zipIdx_nil,List.forIn_cons,List.forIn_nil];refine lA (lA (wpAny_onRaise ?_));show wpAny _ _ (Builtin.SmallTypes.nextOf (.ref i1) >>= _) _ _ _;rcases hend with he|⟨hk1,he⟩
    · subst he
      refine lA ((W1 A.in1 hh).done _ _ _ (sb1 h1 hs1 D.i1z D.l1z) λ q2 e hs2 hx=>?_);obtain⟨oe,hoe,hce⟩:=hx;have hz2:ZipF q2 z TI TO .ellipsis f1:=hs2 _ _ D.i1z.symm hz1;have hez:e≠z:=λ x=>by subst x;rw[hz2] at hoe;cases hoe;simp at hce
      exact wpAny_setField_rec hz2 (by simp) λ q3 Ω hs3=>fin q3 _ e (λ c o c1 Ω c3 Ω x=>hs3.extBut _ _ c1 (hs2 _ _ c3 (hs1.extBut _ _ c1 x))) ⟨oe,hs3.extBut _ _ hez hoe,hce⟩
    · subst he
      refine lA ((W1 A.in1 hh).item k _ _ _ hk1 (sb1 h1 hs1 D.i1z D.l1z) λ x q2 t2 p1 j1 hs2=>lB ?_);have hTO2:IsPair q2 TO a b:=hs2.extBut _ _ D.TOi1 (hs1.extBut _ _ D.TOz hTO);refine lA (wpAny_seqItems hTO2 rfl ?_);refine lA (wpAny_updateSeq_pair hTO2 λ q3 hTO3 hs3=>?_);refine lA (wpAny_letGo (lB ?_));refine lA (lA (wpAny_onRaise ?_));show wpAny _ _ (Builtin.SmallTypes.nextOf (.ref i2) >>= _) _ _ _;refine lA ((W2 A.in1 hh).done _ _ _ (sb2 (sb2 (sb2 h2 hs1 D.i2z D.l2z) hs2 D.i12.symm D.l2i1) hs3 D.TOi2.symm D.l2TO) λ q4 e hs4 hx=>?_);obtain⟨oe,hoe,hce⟩:=hx;have hz4:ZipF q4 z TI TO .ellipsis f1:=hs4 _ _ D.i2z.symm (hs3.extBut _ _ D.TOz.symm (hs2.extBut _ _ D.i1z.symm hz1));have hez:e≠z:=λ x=>by subst x;rw[hz4] at hoe;cases hoe;simp at hce
      exact wpAny_setField_rec hz4 (by simp) λ q5 Ω hs5=>fin q5 _ e (λ c o c1 c2 c3 c4 x=>hs5.extBut _ _ c1 (hs4 _ _ c4 (hs3.extBut _ _ c2 (hs2.extBut _ _ c3 (hs1.extBut _ _ c1 x))))) ⟨oe,hs5.extBut _ _ hez hoe,hce⟩
  · rw[if_neg Bool.false_ne_true]
    refine lA ?_;rw[←Array.forIn_toList];simp only[List.forIn_cons,List.forIn_nil];refine lA (lA (lD ?_));show wpAny _ _ (Builtin.SmallTypes.nextOf (.ref i1) >>= _) _ _ _;rcases hend with he|⟨hk1,he⟩
    · subst he
      refine lA ((W1 A.in1 hh).done _ _ _ (sb1 h1 hs1 D.i1z D.l1z) λ q2 e hs2 hx=>?_);exact fin q2 _ e (λ c o c1 Ω c3 Ω x=>hs2 _ _ c3 (hs1.extBut _ _ c1 x)) hx
    · subst he
      refine lA ((W1 A.in1 hh).item k _ _ _ hk1 (sb1 h1 hs1 D.i1z D.l1z) λ x q2 t2 p1 j1 hs2=>lB (lB ?_));refine lA (lA (lD ?_));show wpAny _ _ (Builtin.SmallTypes.nextOf (.ref i2) >>= _) _ _ _;refine lA ((W2 A.in1 hh).done _ _ _ (sb2 (sb2 h2 hs1 D.i2z D.l2z) hs2 D.i12.symm D.l2i1) λ q4 e hs4 hx=>?_);exact fin q4 _ e (λ c o c1 Ω c3 c4 x=>hs4 _ _ c4 (hs2.extBut _ _ c3 (hs1.extBut _ _ c1 x))) hx
end
def zD7 (P1 P2:Nat->Value->Prop) (b0:Nat) (h:Heap) (acc:Array Value):Prop:=∀(j:Nat) v,acc[j]?=some v->∃a x y,v = .ref a/\b0<=a/\IsPair h a x y/\P1 j x/\P2 j y
section
variable {prog:Program}{w:World}{A:Around}{E:XQ}{s:Shared}{R:Result->Shared->Prop}
set_option tactic.hygienic true in
theorem zKw {z TI TO i1 i2 l1 l2 S:Addr}{n1 n2:Nat}{P1 P2:Nat->Value->Prop}{S1 S2:Nat->Heap->Prop}(hh:A.handled=none) (D:ZipApart z TI TO i1 i2 l1 l2) (W1:Drs prog w i1 l1 n1 P1 S1) (W2:Drs prog w i2 l2 n2 P2 S2)
  (hS:S≠z/\S≠TI/\S≠TO/\S≠i1/\S≠i2/\S≠l1/\S≠l2) (res:Value) (hn:n1<=1000) (b0:Nat) :
  ∀(k i:Nat) (s:Shared) (acc:Array Value) (c:Nat),min n1 n2 - i=k->i<=min n1 n2->ZipS s.heap z TI TO->IsPair s.heap TI (.ref i1) (.ref i2)->(∃p q,IsPair s.heap TO p q)->S1 i s.heap->S2 i s.heap->b0<=s.heap.objs.size->(∀x∈[z,TI,TO,i1,i2,l1,l2,S],x<b0) ->
   s.heap.get? S=some { cls:=.type "list", dict:=none,data:=.seq acc c,slots:=#[] }->acc.size=i->zD7 P1 P2 b0 s.heap acc ->
   (∀h' tk acc' c',(∀b o,b≠z->b≠TO->b≠i1->b≠i2->b≠S->s.heap.get? b=some o->h'.get? b=some o)->h'.get? S=some { cls:=.type "list", dict:=none,data:=.seq acc' c',slots:=#[] }->acc'.size=min n1 n2->zD7 P1 P2 b0 h' acc'->R (.ok (.ret res)) { s with heap:=h',toks:=tk }) ->
   codeAny (model prog w) A (.builtin "list.extend.loop" ⟨[.ref S,.ref z,res],[]⟩) R s:=by
 obtain⟨s1,s2,s3,s4,s5,s6,s7⟩:=hS;intro k
 induction k with
 |zero =>
  intro i s acc c hk hi hz hTI hTO h1 h2 hb hlt hS hacc hP hR;obtain⟨p,q,hTO⟩:=hTO;refine codeAny_builtin F.entry_extend_loop ?_;rw[Around.under_plainId F.plain_extend_loop _];show wpAny _ A.in1 (pyNext (.ref z) >>= _) _ _ s;refine lA (zHk (k:=i) hh D W1 W2 hz hTI hTO h1 h2 (by omega) λ h' tk hkp=>?_);refine lB (hR h' tk acc c (λ b o n1 n2 n3 n4 Ω e=>hkp b o n1 n2 n3 n4 e) (hkp S _ s1 s3 s4 s5 hS) (by omega) λ j v e=>?_);obtain⟨a,x,y,ev,hba,hpr,r⟩:=hP j v e;have ne:∀c∈[z,TI,TO,i1,i2,l1,l2,S],a≠c:=λ c hc z=>absurd (hlt c hc) (by rw[←z];exact Nat.not_lt.mpr hba);exact⟨a,x,y,ev,hba,hkp a _ (ne z (by simp)) (ne TO (by simp)) (ne i1 (by simp)) (ne i2 (by simp)) hpr,r⟩
 |succ k ih =>
  intro i s acc c hk hi hz hTI hTO h1 h2 hb hlt hS hacc hP hR;obtain⟨p,q,hTO⟩:=hTO;refine codeAny_builtin F.entry_extend_loop ?_;rw[Around.under_plainId F.plain_extend_loop _];show wpAny _ A.in1 (pyNext (.ref z) >>= _) _ _ s;refine lA (zGG (k:=i) hh D W1 W2 hz hTI hTO h1 h2 (by omega) (by omega) λ h' tk x y p1 p2 hz' hTO' j1 j2 hpr hkp=>?_);have hS':=hkp S _ s1 s3 s4 s5 hS;show wpAny _ A.in1 (updateSeq S (·.push (.ref s.heap.objs.size)) >>= _) _ _ _;refine lA ?_;have fin:sizeLine=sizeLine:=rfl;have h1000:(1000:Nat)<=sizeLine:=by decide
  have oth:∀b o,b≠S->h'.get? b=some o->(h'.update S (Obj.mapSeq (·.push (.ref s.heap.objs.size)))).get? b=some o:=λ b o hb e=>(Heap.get?_update_other _ _ (Ne.symm hb)).trans e;have fr1:∀{i:Nat}{h h':Heap},S1 i h->(∀b∈[i1,l1],∀o,h.get? b=some o->h'.get? b=some o)->S1 i h':=λ st k=>(W1 A hh).frame _ _ _ st k;have fr2:∀{i:Nat}{h h':Heap},S2 i h->(∀b∈[i2,l2],∀o,h.get? b=some o->h'.get? b=some o)->S2 i h':=λ st k=>(W2 A hh).frame _ _ _ st k;obtain⟨f0,f1,hz',hf⟩:=hz';obtain⟨p',q',hTO'⟩:=hTO';have hTI':IsPair h' TI (.ref i1) (.ref i2):=hkp TI _ D.TIz D.TITO D.TIi1 D.TIi2 hTI;have hsz:s.heap.objs.size<h'.objs.size:=lH hpr;have nS:s.heap.objs.size≠S:=Nat.ne_of_gt (lH hS)
  refine wpAny_updateSeq hS' rfl (lB ⟨plainId_quiet F.plain_extend_loop _,ih (i+1) _ (acc.push (.ref s.heap.objs.size)) _ (by omega) (by omega) ⟨f0,f1,oth z _ s1.symm hz',hf⟩ (oth TI _ s2.symm hTI') ⟨p',q',oth TO _ s3.symm hTO'⟩
   (fr1 j1 λ b hb o e=>oth b o ?_ e) (fr2 j2 λ b hb o e=>oth b o ?_ e) (by show b0<=(h'.update S _).objs.size;rw[Heap.size_after_update];omega) hlt (mJ _ hS' rfl) (by rw[Array.size_push,hacc]) ?_ λ h'' tk'' acc'' c'' hk'' hS'' hz'' hp''=>?_⟩)
   (by rw[hacc];omega) (by show (acc.push _).size<=sizeLine+1;rw[Array.size_push,hacc];omega)
  ·rcases lN.mp hb with r|hb
   ·exact r▸s4.symm
   ·exact mR.mp hb▸s6.symm
  ·rcases lN.mp hb with r|hb
   ·exact r▸s5.symm
   ·exact mR.mp hb▸s7.symm
  ·intro j v e
   rw[Array.getElem?_push] at e;split at e
   ·rename_i ej
    cases e;refine⟨_,x,y,rfl,hb,oth _ _ nS hpr,?_,?_⟩
    ·rw[ej,hacc];exact p1
    ·rw[ej,hacc];exact p2
   ·obtain⟨a,x',y',ev,hba,hpr',r⟩:=hP j v e
    have ne:∀c∈[z,TI,TO,i1,i2,l1,l2,S],a≠c:=λ c hc z=>absurd (hlt c hc) (by rw[←z];exact Nat.not_lt.mpr hba);exact⟨a,x',y',ev,hba,oth _ _ (ne S (by simp)) (hkp a _ (ne z (by simp)) (ne TO (by simp)) (ne i1 (by simp)) (ne i2 (by simp)) hpr'),r⟩
  ·exact hR h'' tk'' acc'' c'' (λ b o n1 n2 n3 n4 n5 e=>hk'' b o n1 n2 n3 n4 n5 (oth b o n5 (hkp b o n1 n2 n3 n4 e))) hS'' hz'' hp''
end
theorem zIf:typeLookup (.type "zip") (Str.ofString "__len__")=pure none:=by rw[typeLookup_type,builtinLookup_eq_fast];kernel_rfl
theorem zG4:typeLookup (.type "zip") (Str.ofString "__length_hint__")=pure none:=by rw[typeLookup_type,builtinLookup_eq_fast];kernel_rfl
section
variable {prog:Program}{w:World}{A:Around}{E:XQ}{s:Shared}
theorem zHg {z TI TO:Addr}{Q:XQ}(hz:ZipS s.heap z TI TO) (h:Q (.ref z) s):wpAny (model prog w) A (pyIter (.ref z)) Q E s:=by
 obtain⟨f0,f1,hz,_⟩:=hz;have hT:s.TypeIs (.ref z) "zip" := ⟨_,hz,rfl⟩;refine wpAny_pyIter_slot hT F.slot_zip_iter (wpAny_call_entry F.slot_zip_iter hT F.entry_zip_iter ?_ (F.args_zip_iter_1 _));show wpAny _ _ (ret (.ref z)) _ _ s;exact lB ⟨_,rfl, "zip", _,hT,F.slot_zip_next.lookup,h⟩
theorem zKx {z:Addr}{Q:Bool->Shared->Prop}(hT:s.TypeIs (.ref z) "zip") (h:Q true s):wpAny (model prog w) A (Builtin.List.listLengthHint (.ref z)) Q E s:=by
 unfold Builtin.List.listLengthHint;refine lA (wpAny_specialOf hT zIf ?_);show wpAny _ _ (specialOf (Value.ref z) (Str.ofString "__length_hint__") >>= _) _ _ _;refine lA (wpAny_specialOf hT zG4 ?_);exact lB h
theorem zIg {z TI TO i1 i2 l1 l2 S:Addr}{n1 n2:Nat}{P1 P2:Nat->Value->Prop}{S1 S2:Nat->Heap->Prop}{R:Result->Shared->Prop}(hh:A.handled=none) (D:ZipApart z TI TO i1 i2 l1 l2) (W1:Drs prog w i1 l1 n1 P1 S1) (W2:Drs prog w i2 l2 n2 P2 S2)
  (hS:S≠z/\S≠TI/\S≠TO/\S≠i1/\S≠i2/\S≠l1/\S≠l2) (res:Value) (hn:n1<=1000) (c0:Nat) (hz:ZipS s.heap z TI TO) (hTI:IsPair s.heap TI (.ref i1) (.ref i2)) (hTO:∃p q,IsPair s.heap TO p q) (h1:S1 0 s.heap) (h2:S2 0 s.heap)
  (hlt:∀x∈[z,TI,TO,i1,i2,l1,l2,S],x<s.heap.objs.size) (hL:s.heap.get? S=some { cls:=.type "list", data:=.seq #[] c0 })
  (hR:∀h' tk acc' c',(∀b o,b≠z->b≠TO->b≠i1->b≠i2->b≠S->s.heap.get? b=some o->h'.get? b=some o)->h'.get? S=some { cls:=.type "list", dict:=none,data:=.seq acc' c',slots:=#[] }->acc'.size=min n1 n2->zD7 P1 P2 s.heap.objs.size h' acc'->R (.ok (.ret res)) { s with heap:=h',toks:=tk }) :
  wpAny (model prog w) A.in1 (Builtin.List.listExtendWith (.ref S) (.ref z) res)
   (λ fin s'=>match fin with|.done f=>R (.ok f) s'|.again c'=>c'.quiet=true/\codeAny (model prog w) A c' R s') (λ e s'=>R (.error e) s') s:=by
 obtain⟨f0,f1,hz0,hf⟩:=hz;have hT:s.TypeIs (.ref z) "zip" := ⟨_,hz0,rfl⟩;obtain⟨s1,s2,s3,s4,s5,s6,s7⟩:=id hS;unfold Builtin.List.listExtendWith;refine lA (wpAny_typeOf (T := "zip") hT ?_);have e1:Builtin.List.listSameRef (.ref S) (.ref z)=false:=by simp[Builtin.List.listSameRef,s1]
 have e2:(Value.type "zip" == Value.type "list")=false:=by decide
 have e3:(Value.type "zip" == Value.type "tuple")=false:=by decide
 simp only[e1,e2,e3,Bool.or_false,Bool.false_eq_true,if_false];refine lA (zHg ⟨f0,f1,hz0,hf⟩ ?_);refine lA (lD (zKx hT ?_));have fr1:∀{i:Nat}{h h':Heap},S1 i h->(∀b∈[i1,l1],∀o,h.get? b=some o->h'.get? b=some o)->S1 i h':=λ st k=>(W1 A hh).frame _ _ _ st k;have fr2:∀{i:Nat}{h h':Heap},S2 i h->(∀b∈[i2,l2],∀o,h.get? b=some o->h'.get? b=some o)->S2 i h':=λ st k=>(W2 A hh).frame _ _ _ st k
 have key:∀(h:Heap) (c1 tk:Nat),h.objs.size=s.heap.objs.size->(∀b o,b≠S->s.heap.get? b=some o->h.get? b=some o)->h.get? S=some { cls:=.type "list", data:=.seq #[] c1 } ->
   codeAny (model prog w) A (.builtin "list.extend.loop" ⟨[.ref S,.ref z,res],[]⟩) R { s with heap:=h,toks:=tk }:=by
  intro h c1 tk hsz hk hS1;obtain⟨p,q,hTO⟩:=hTO;refine zKw hh D W1 W2 hS res hn s.heap.objs.size (min n1 n2) 0 _ #[] c1 (by omega) (by omega) ⟨f0,f1,hk z _ s1.symm hz0,hf⟩ (hk TI _ s2.symm hTI) ⟨p,q,hk TO _ s3.symm hTO⟩ (fr1 h1 λ b hb o e=>hk b o ?_ e) (fr2 h2 λ b hb o e=>hk b o ?_ e) (by show _<=h.objs.size;omega) hlt hS1 rfl (λ j v e=>by simp at e) λ h' tk' acc' c' k' a b d=>?_
  ·rcases lN.mp hb with r|hb
   ·exact r▸s4.symm
   ·exact mR.mp hb▸s6.symm
  ·rcases lN.mp hb with r|hb
   ·exact r▸s5.symm
   ·exact mR.mp hb▸s7.symm
  ·exact hR h' tk' acc' c' (λ b o n1 n2 n3 n4 n5 e=>k' b o n1 n2 n3 n4 n5 (hk b o n5 e)) a b d
 refine wpAny_ite_split (λ Ω=>?_) (λ Ω=>lB ⟨plainId_quiet PySem.F.plain_extend_loop _,key _ c0 _ rfl (λ b o Ω e=>e) hL⟩);refine lA (wpAny_rule ?_);refine lA ?_;show wpAny _ _ (updateSeq S (·.push .none) >>= λ Ω=>updateSeq S (·.pop)) _ _ _;refine lA (wpAny_updateSeq hL rfl ?_);have hL2:=mJ (Obj.mapSeq (·.push Value.none)) hL rfl;refine wpAny_updateSeq (hz:=by seq_fits) hL2 rfl ?_;have hL3:=mJ (Obj.mapSeq (·.pop)) hL2 rfl;refine lB ⟨plainId_quiet PySem.F.plain_extend_loop _,key _ _ _ (by rw[Heap.size_after_update,Heap.size_after_update]) (λ b o hb e=>?_) hL3⟩;exact(Heap.get?_update_other _ _ (Ne.symm hb)).trans ((Heap.get?_update_other _ _ (Ne.symm hb)).trans e)
theorem zGt {z TI TO i1 i2 l1 l2:Addr}{n1 n2:Nat}{P1 P2:Nat->Value->Prop}{S1 S2:Nat->Heap->Prop}{Q:XQ}(hh:A.handled=none) (D:ZipApart z TI TO i1 i2 l1 l2) (W1:Drs prog w i1 l1 n1 P1 S1) (W2:Drs prog w i2 l2 n2 P2 S2) (hn:n1<=1000)
    (hz:ZipS s.heap z TI TO) (hTI:IsPair s.heap TI (.ref i1) (.ref i2)) (hTO:∃p q,IsPair s.heap TO p q) (h1:S1 0 s.heap) (h2:S2 0 s.heap) (hlt:∀x∈[z,TI,TO,i1,i2,l1,l2],x<s.heap.objs.size)
    (hQ:∀h' tk acc' c',(∀b o,b≠z->b≠TO->b≠i1->b≠i2->s.heap.get? b=some o->h'.get? b=some o)->h'.get? s.heap.objs.size=some { cls:=.type "list", dict:=none,data:=.seq acc' c',slots:=#[] }->acc'.size=min n1 n2->zD7 P1 P2 (s.heap.objs.size+1) h' acc'->Q (.ref s.heap.objs.size) { s with heap:=h',toks:=tk }) :
    wpAny (model prog w) A (call (.type "list") [.ref z]) Q E s:=by
  refine callType_codes (Q₁:=λ obj s₁=>obj = .ref s.heap.objs.size/\s₁={ s with heap:=s.heap.push { cls:=.type "list", data:=.seq #[] } }) PySem.F.called_list (PySem.F.typeCall_list_1 _) PySem.F.entry_list_init
    (code_list_new _ ⟨rfl,rfl⟩) λ obj s₁ h₁=>?_
  obtain⟨rfl,rfl⟩:=h₁;have hS:(s.heap.push { cls:=.type "list", data:=.seq #[] }).get? s.heap.objs.size=some { cls:=.type "list", data:=.seq #[] }:=lG _ rfl;have ne:∀x∈[z,TI,TO,i1,i2,l1,l2],s.heap.objs.size≠x:=λ x hx=>Nat.ne_of_gt (hlt x hx);refine⟨⟨_,hS,rfl⟩,PySem.F.args_list_init_2 _ _,?_⟩;show wpAny _ _ (do let old ← Builtin.List.listItems (.ref s.heap.objs.size);Builtin.List.listUpdate (.ref s.heap.objs.size) (λ Ω=>#[]);letGo old.toList.reverse;Builtin.List.listExtendWith (.ref s.heap.objs.size) (.ref z) .none) _ _ _;refine lA ?_;unfold Builtin.List.listItems;refine lA (wpAny_seqItems hS rfl (lB ?_));show wpAny _ _ (updateSeq s.heap.objs.size (λ Ω=>#[]) >>= λ Ω=>letGo (#[]:Array Value).toList.reverse >>= λ Ω=>Builtin.List.listExtendWith (.ref s.heap.objs.size) (.ref z) .none) _ _ _;refine lA (wpAny_updateSeq hS rfl ?_);have hS₂:=mJ (Obj.mapSeq (λ Ω=>(#[]:Array Value))) hS rfl
  have oth:∀b o,b≠s.heap.objs.size->s.heap.get? b=some o->((s.heap.push { cls:=.type "list", data:=.seq #[] }).update s.heap.objs.size (Obj.mapSeq (λ Ω=>(#[]:Array Value)))).get? b=some o :=
    λ b o hb e=>(Heap.get?_update_other _ _ (Ne.symm hb)).trans (lE _ e)
  have up:∀b o,s.heap.get? b=some o->((s.heap.push { cls:=.type "list", data:=.seq #[] }).update s.heap.objs.size (Obj.mapSeq (λ Ω=>(#[]:Array Value)))).get? b=some o:=λ b o e=>oth b o (lR (lH e)) e;refine lA (wpAny_letGo ?_);obtain⟨f0,f1,hz0,hf⟩:=hz;obtain⟨p,q,hTO⟩:=hTO;have fr1:∀{i:Nat}{h h':Heap},S1 i h->(∀b∈[i1,l1],∀o,h.get? b=some o->h'.get? b=some o)->S1 i h':=λ st k=>(W1 A hh).frame _ _ _ st k;have fr2:∀{i:Nat}{h h':Heap},S2 i h->(∀b∈[i2,l2],∀o,h.get? b=some o->h'.get? b=some o)->S2 i h':=λ st k=>(W2 A hh).frame _ _ _ st k;have hsz:((s.heap.push { cls:=.type "list", data:=.seq #[] }).update s.heap.objs.size (Obj.mapSeq (λ Ω=>(#[]:Array Value)))).objs.size=s.heap.objs.size+1:=by rw[Heap.size_after_update,Heap.size_push]
  refine zIg (A:=A.in1) hh D W1 W2 ⟨ne z (by simp),ne TI (by simp),ne TO (by simp),ne i1 (by simp),ne i2 (by simp),ne l1 (by simp),ne l2 (by simp)⟩ .none hn _ ⟨f0,f1,up _ _ hz0,hf⟩ (up _ _ hTI) ⟨p,q,up _ _ hTO⟩ (fr1 h1 λ b Ω o e=>up b o e) (fr2 h2 λ b Ω o e=>up b o e) (λ x hx=>?_) hS₂ λ h' tk acc' c' hk hS' ha hp=>?_
  · show x<_
    rw[hsz]
    by_cases hx':x∈[z,TI,TO,i1,i2,l1,l2]
    · exact Nat.lt_succ_of_lt (hlt x hx')
    · have:x=s.heap.objs.size:=by
        simp only[nN,nB,or_false] at hx hx';simp only[not_or] at hx';obtain⟨a1,a2,a3,a4,a5,a6,a7⟩:=hx';rcases hx with r|r|r|r|r|r|r|r
        · exact absurd r a1
        · exact absurd r a2
        · exact absurd r a3
        · exact absurd r a4
        · exact absurd r a5
        · exact absurd r a6
        · exact absurd r a7
        · exact r
      rw[this];exact Nat.lt_succ_self _
  · refine⟨rfl,hQ h' tk acc' c' (λ b o n1 n2 n3 n4 e=>hk b o n1 n2 n3 n4 (lR (lH e)) (up b o e)) hS' ha ?_⟩
    have hp':zD7 P1 P2 ((s.heap.push { cls:=.type "list", data:=.seq #[] }).update s.heap.objs.size (Obj.mapSeq (λ Ω=>(#[]:Array Value)))).objs.size h' acc':=hp;rw[hsz] at hp';exact hp'
end
theorem zHX (l1 l2:Addr) (xs ys:Array Value) :
    Meets (Builtin.«zip.__new__» ⟨[.type "zip", .ref l1,.ref l2],[]⟩) (λ Ω R s=>s.heap.IsList l1 xs/\s.heap.IsTuple l2 ys /\
      ∀(h':Heap) (z TI TO i1 i2:Addr),(∀c o,s.heap.get? c=some o->h'.get? c=some o)->s.heap.objs.size<=z->s.heap.objs.size<=TI->s.heap.objs.size<=TO->s.heap.objs.size<=i1->s.heap.objs.size<=i2 ->
        (TI≠z/\TO≠z/\i1≠z/\i2≠z/\TI≠TO/\TI≠i1/\TI≠i2/\TO≠i1/\TO≠i2/\i1≠i2)->IsZip h' z TI TO .none->IsPair h' TI (.ref i1) (.ref i2)->IsPair h' TO .none .none->h'.IsListIter i1 l1 0->h'.IsTupleIter i2 l2 0 ->
        R (.ok (.ret (.ref z))) { s with heap:=h' }) :=
  .of_wp λ prog w A R s h=>by
    obtain⟨hp,g,d,tk,os⟩:=s;obtain⟨hl1,hl2,h⟩:=h;have hsub:=sub_zip;have hL1:Heap.IsList (Shared.heap ⟨hp,g,d,tk,os⟩) l1 xs:=hl1;have hL2:Heap.IsTuple (Shared.heap ⟨hp.push { cls:=.type "list_iterator", data:=.fields #[.ref l1,.int 0 0] },g,d,tk,os⟩) l2 ys:=let ⟨o,ho,r⟩:=hl2;⟨o,lE _ ho,r⟩
    wp_walk using wpAny_pyIter_list hL1,wpAny_pyIter_tuple hL2
    refine⟨_,rfl,h _ _ _ _ _ _ (λ c o e=>lE _ (lE _ (lE _ (lE _ (lE _ e))))) ?_ ?_ ?_ ?_ ?_ ?_ (lG _ rfl) (lE _ (lE _ (lG _ rfl))) (lE _ (lG _ rfl))
      ⟨_,lE _ (lE _ (lE _ (lE _ (lG _ rfl)))),rfl,rfl⟩ ⟨_,lE _ (lE _ (lE _ (lG _ rfl))),rfl,rfl⟩⟩
    all_goals simp only[Heap.size_push]
    all_goals first
      |omega
      | (refine⟨?_,?_,?_,?_,?_,?_,?_,?_,?_,?_⟩<;>(intro e;have e' : @Eq Nat _ _:=e;omega))
section
variable {prog:Program}{w:World}{A:Around}{E:XQ}{s:Shared}
theorem zJB {l1 l2:Addr}{xs ys:Array Value}{Q:XQ}(hl1:s.heap.IsList l1 xs) (hl2:s.heap.IsTuple l2 ys)
  (h:∀(h':Heap) (z TI TO i1 i2:Addr),(∀c o,s.heap.get? c=some o->h'.get? c=some o)->s.heap.objs.size<=z->s.heap.objs.size<=TI->s.heap.objs.size<=TO->s.heap.objs.size<=i1->s.heap.objs.size<=i2 ->
    (TI≠z/\TO≠z/\i1≠z/\i2≠z/\TI≠TO/\TI≠i1/\TI≠i2/\TO≠i1/\TO≠i2/\i1≠i2)->IsZip h' z TI TO .none->IsPair h' TI (.ref i1) (.ref i2)->IsPair h' TO .none .none->h'.IsListIter i1 l1 0->h'.IsTupleIter i2 l2 0->Q (.ref z) { s with heap:=h' }) :
  wpAny (model prog w) A (call (.type "zip") [.ref l1,.ref l2]) Q E s:=by
 refine callType_new F.called_zip (by decide) (F.typeCall_zip_2 _ _) (F.newCall_zip_2 _ _) (λ obj=>F.args_object_init_3 obj _ _) F.entry_zip_new (zHX l1 l2 xs ys) ⟨hl1,hl2,λ h' z TI TO i1 i2 a0 a1 a2 a3 a4 a5 a6 a7 a8 a9 b1 b2=>?_⟩;exact⟨⟨_,a7,rfl⟩,h h' z TI TO i1 i2 a0 a1 a2 a3 a4 a5 a6 a7 a8 a9 b1 b2⟩
end
noncomputable def ov (H N:Hp):Hp:=λ a=>(N a).or (H a)
theorem zJq {H N:Hp}{a:Addr}{o:HO}(h:N a=some o):ov H N a=some o:=by unfold ov;rw[h];rfl
theorem zIB {H N:Hp}{a:Addr}(h:N a=none):ov H N a=H a:=by unfold ov;rw[h];rfl
theorem Inv.more {X:Cx}{jP:List (Addr × Obj)}{σ:St}{H N:Hp}{s:Shared}{h':Heap}{t':Nat}(I:Inv X jP σ H s) (k:∀b u,s.heap.get? b=some u->h'.get? b=some u) (hN:∀a o,N a=some o->s.heap.objs.size<=a)
  (new:∀a o,N a=some o->ObjOk X.prog X.w (ov H N) h' a o):Inv X jP σ (ov H N) { s with heap:=h',toks:=t' }:=by
 have old:∀b,b<s.heap.objs.size->N b=none:=λ b hb=>by
  cases e:N b with
  |none=>rfl
  |some o=>exact absurd (hN b o e) (Nat.not_le.mpr hb)
 have tr:∀b u,H b=some u->ov H N b=some u:=λ b u e=>by rw[zIB (old b (I.hok.lt e))];exact e
 refine I.un ⟨λ b o q Ω Ω Ω=>k b o q,λ b o q Ω Ω Ω=>⟨o.slots,k b o q⟩,λ b o q n Ω=>by rw[zIB (old b (Heap.lt_size q))];exact n,λ b o q Ω=>⟨o,k b o q⟩,λ b xs q=>tr b _ q,λ b o u q=>tr b _ q,λ b ps q=>⟨#[],by rw[tr b _ q];simp⟩⟩ λ b u e=>?_;cases en:N b with
 |some o =>
  rw[zJq en] at e;cases e;exact new b _ en
 |none =>
  rw[zIB en] at e;exact(I.hok b u e).stay (λ c v Ω q=>k c v q) (λ c q=>tr c _ q) λ c xs q=>tr c _ q
theorem zGI:∀ps:List Addr,Vals (ps.map V.ref) (ps.map Value.ref)
 |[]=>.nil
 |_::ps=>.cons rfl (zGI ps)
def zK7 (ta:TA):TE:=λ σ H Q=>ta σ H λ vs H1=>∃(a b:Addr) (xs ys:List V),vs=[.ref a,.ref b]/\H1 a=some (.lst xs)/\H1 b=some (.tup ys)/\xs.length<=1000 /\
 ∀(l:Addr) (ps:List Addr) (H':Hp),Same H1 H'->H1 l=none->ps.length=min xs.length ys.length->H' l=some (.lst (ps.map V.ref))->(∀(j:Nat) p,ps[j]?=some p->p≠l/\H1 p=none/\∃x y,xs[j]?=some x/\ys[j]?=some y/\H' p=some (.tup [x,y]))->Q (.ref l) H'
theorem zIq {X:Cx}{a b:Expr}{ta:TA}{p p2 pos pos2:Pos}(hc:X.calm=true) (hg:Gl X "list") (hm:X.mg "list" = none) (hg2:Gl X "zip") (hm2:X.mg "zip" = none) (ha:PA X [a,b] ta) (hs:starEach [a,b] X.env=[(false,eval a X.env),(false,eval b X.env)]:=by rfl) (hs2:starEach [b] X.env=[(false,eval b X.env)]:=by rfl)
  (hs3:starEach [Expr.Call (.Name "zip" p2) [a,b] [] pos2] X.env=[(false,eval (Expr.Call (.Name "zip" p2) [a,b] [] pos2) X.env)]:=by rfl) :
  PE X (.Call (.Name "list" p) [.Call (.Name "zip" p2) [a,b] [] pos2] [] pos) (zK7 ta):=by
 intro jP s σ H Q I h;refine Call_ (zCr I hg hm PyProof.Rows.boot_list (PyProof.Rows.callWith_type1 ?_ hs3 rfl));rw[hs3];show wpAny _ _ (spliced [(false,eval (Expr.Call (.Name "zip" p2) [a,b] [] pos2) X.env)]) _ _ s;refine Calls.spliced_cons ?_;refine Call_ (zCr I hg2 hm2 zEz (PyProof.Rows.callWith_type1 (thn (ha pos2 jP s σ H _ I h) λ us s1 ⟨vs,H1,I1,r1,q1⟩=>?_) (by rw[hs,hs2]) (by rw[hs2];rfl)));obtain⟨la,lb,xs,ys,e,h1,h2,hx,q⟩:=q1;subst e;obtain⟨u1,u2,rfl,ru1,ru2⟩:=vals2 r1;cases ru1;cases ru2;obtain⟨its,rv,t1,_⟩:=I1.list (SqL.of h1);obtain⟨its2,rv2,t2,_⟩:=I1.tuple (SqT.of h2);have e1:=rv.length;have e2:=rv2.length;refine zJB t1.isList (show s1.heap.IsTuple lb its2.toArray from t2) λ h' z TI TO i1 i2 a0 a1 a2 a3 a4 a5 a6 a7 a8 a9 b1 b2=>?_;refine Calls.spliced_nil ?_
 have zlt:∀x∈[z,TI,TO,i1,i2,la,lb],x<h'.objs.size:=λ x hx=>by
  simp only[nN,nB,or_false] at hx;rcases hx with rfl|rfl|rfl|rfl|rfl|rfl|rfl
  ·exact lH a7
  ·exact lH a8
  ·exact lH a9
  ·obtain⟨_,e,_⟩:=b1;exact lH e
  ·obtain⟨_,e,_⟩:=b2;exact lH e
  ·obtain⟨o,_,e,_⟩:=t1;exact lH (a0 _ _ e)
  ·obtain⟨o,e,_⟩:=t2;exact lH (a0 _ _ e)
 have lla:la<s1.heap.objs.size:=let ⟨o,_,e,_⟩:=t1;lH e;have llb:lb<s1.heap.objs.size:=let ⟨o,e,_⟩:=t2;lH e;obtain⟨n1,n2,n3,n4,n5,n6,n7,n8,n9,n10⟩:=a6
 have D:ZipApart z TI TO i1 i2 la lb:=⟨n1,n2,n3,n4,n5,n6,n7,n8,n9,n10,lR (mB lla a1),lR (mB lla a3),lR (mB lla a4),lR (mB lla a5),
  lR (mB llb a1),lR (mB llb a3),lR (mB llb a4),lR (mB llb a5)⟩
 have L1:h'.IsList la its.toArray:=let ⟨o,n,e,r⟩:=t1;PlainL.isList ⟨o,n,a0 _ _ e,r⟩;have L2:h'.IsTuple lb its2.toArray:=let ⟨o,e,r⟩:=t2;⟨o,a0 _ _ e,r⟩;refine zGt (s:={ s1 with heap:=h' }) (I1.ok.hd hc) D (zIX i1 la D.l1i1 its.toArray) (zKb i2 lb D.l2i2 its2.toArray) (by simp;omega) ⟨_,_,a7,.inl rfl⟩ a8 ⟨_,_,a9⟩ ⟨b1,L1⟩ ⟨b2,L2⟩ zlt λ h2 tk acc c' k2 hS hsz hp=>?_;have k1:∀b o,s1.heap.get? b=some o->h2.get? b=some o:=λ b o e=>k2 b o (lR (mB (lH e) a1)) (lR (mB (lH e) a3)) (lR (mB (lH e) a4)) (lR (mB (lH e) a5)) (a0 b o e);have hge:s1.heap.objs.size<=h'.objs.size:=mH a1 (Nat.le_of_lt (lH a7));generalize hSS:h'.objs.size=S at hS hp hge zlt ⊢
 have hS2:h2.get? S=some { cls:=.type "list", dict:=none,data:=.seq acc c',slots:=#[] }:=by
  have:=hS;exact this
 have hp2:zD7 (λ i v=>its.toArray[i]?=some v) (λ i v=>its2.toArray[i]?=some v) (S+1) h2 acc:=by
  have:=hp;simpa[hSS] using this
 obtain⟨ps,hps⟩:∃ps:List Addr,acc.toList=ps.map Value.ref:=by
  have:∀l:List Value,(∀v∈l,∃a,v=Value.ref a)->∃ps:List Addr,l=ps.map Value.ref:=by
   intro l
   induction l with
   |nil=>intro _;exact⟨[],rfl⟩
   |cons v l ih =>
    intro hv;obtain⟨a,rfl⟩:=hv v (by simp);obtain⟨ps,rfl⟩:=ih λ u hu=>hv u (by simp[hu]);exact⟨a::ps,rfl⟩
  refine this _ λ v hv=>?_;obtain⟨j,hj,e⟩:=List.mem_iff_getElem.mp hv;obtain⟨a,_,_,ev,_⟩:=hp2 j v (by rw[←nI,nO hj,e]);exact⟨a,ev⟩
 have at_:∀(j:Nat) p,ps[j]?=some p->∃x y u v,h2.get? p=some { cls:=.type "tuple", data:=.seq #[u,v] }/\xs[j]?=some x/\ys[j]?=some y/\RelV x u/\RelV y v/\S+1<=p:=λ j p e=>by
  obtain⟨a,u,v,ev,hb,hpr,p1,p2⟩:=hp2 j (.ref p) (by rw[←nI,hps,mI,e];rfl);cases ev;have g1:its[j]?=some u:=by simpa using p1
  have g2:its2[j]?=some v:=by simpa using p2
  have l1:j<xs.length:=by rw[e1];exact(lJ.mp g1).1
  have l2:j<ys.length:=by rw[e2];exact(lJ.mp g2).1
  obtain⟨u',hu',ru'⟩:=rv.get (lX l1);obtain⟨v',hv',rv'⟩:=rv2.get (lX l2);rw[g1] at hu';cases hu';rw[g2] at hv';cases hv';exact⟨_,_,u,v,hpr,lX l1,lX l2,ru',rv',hb⟩
 have hln:ps.length=min xs.length ys.length:=by
  have h0:=congrArg List.length hps;rw[Array.length_toList,lC] at h0;have:acc.size=min its.toArray.size its2.toArray.size:=hsz;simp at this;omega
 let N:Hp:=λ c=>if c=S then some (.lst (ps.map V.ref)) else if c∈ps then (h2.get? c).bind (λ o=>match o.data with|.seq a _=>some (.tup (a.toList.map λ u=>(absV u).getD .non))|_=>none) else none
 have nS:N S=some (.lst (ps.map V.ref)):=if_pos rfl
 have nP:∀(j:Nat) p,ps[j]?=some p->∃x y,p≠S/\xs[j]?=some x/\ys[j]?=some y/\N p=some (.tup [x,y]):=λ j p e=>by
  obtain⟨x,y,u,v,hg,hx1,hy1,rx,ry,hb⟩:=at_ j p e;have ne:p≠S:=λ z=>by rw[z] at hb;exact absurd hb (Nat.not_succ_le_self _)
  refine⟨x,y,ne,hx1,hy1,?_⟩;show (if p=S then _ else _)=_;rw[if_neg ne,if_pos (List.mem_of_getElem? e),hg];show some (HO.tup [(absV u).getD .non,(absV v).getD .non])=_;rw[rx.abs,ry.abs];rfl
 have nA:∀c o,N c=some o->c=S\/∃j,ps[j]?=some c:=λ c o e=>by
  by_cases hcS:c=S
  ·exact .inl hcS
  ·right
   have e':(if c=S then _ else if c∈ps then _ else none)=some o:=e;rw[if_neg hcS] at e'
   by_cases hcp:c∈ps
   ·obtain⟨j,hj,ej⟩:=List.mem_iff_getElem.mp hcp
    exact⟨j,by rw[nO hj,ej]⟩
   ·rw[if_neg hcp] at e';cases e'
 have hN:∀c o,N c=some o->s1.heap.objs.size<=c:=λ c o e=>by
  rcases nA c o e with rfl|⟨j,ej⟩
  ·exact hge
  ·obtain⟨_,_,_,_,_,_,_,_,_,hb⟩:=at_ j c ej
   omega
 have I2:=I1.more (N:=N) (h':=h2) (t':=tk) k1 hN λ c o e=>by
  rcases nA c o e with rfl|⟨j,ej⟩
  ·rw[nS] at e;cases e
   refine⟨by rw[lC,hln];exact zAm (by omega),ps.map Value.ref,c',?_,?_⟩
   ·exact zGI ps
   ·rw[hS2,←hps]
  ·obtain⟨x,y,ne,hx1,hy1,en⟩:=nP j c ej
   rw[en] at e;cases e;obtain⟨x',y',u,v,hg,hx2,hy2,rx,ry,hb⟩:=at_ j c ej;rw[hx1] at hx2;cases hx2;rw[hy1] at hy2;cases hy2;exact⟨by show 2<=sizeLine;decide,[u,v],.cons rx (.cons ry .nil),_,hg,rfl,_,rfl⟩
 refine⟨.ref S,ov H1 N,I2,rfl,q S ps (ov H1 N) (λ b u e=>?_) (I1.hok.fresh hge) hln (zJq nS) λ j p ej=>?_⟩
 ·rw[zIB]
  ·exact e
  ·cases en:N b with
   |none=>rfl
   |some o=>exact absurd (hN b o en) (Nat.not_le.mpr (I1.hok.lt e))
 ·obtain⟨x,y,ne,hx1,hy1,en⟩:=nP j p ej
  exact⟨ne,I1.hok.fresh (hN p _ en),x,y,hx1,hy1,zJq en⟩
structure FnF (P:Program) (w:World) (K:W.Frag) (mg:Str->Option Value) (base:Heap) (k:Nat) (x:Str) (f:Addr) (fd:FuncData) (ps:List Str) (sp:Sp):Prop where
 ok:FnOk P w K mg base (CXF P w) k f fd ps sp
 bd:Binds K fd ps []
 kp:W.keepIn K (.ref f)=true
 gl:mg x=some (.ref f)
theorem FnF.up {P:Program}{w:World}{K:W.Frag}{mg:Str->Option Value}{base:Heap}{j k:Nat}{x:Str}{f:Addr}{fd:FuncData}{ps:List Str}{sp:Sp}(F:FnF P w K mg base j x f fd ps sp) (h:j<=k):FnF P w K mg base k x f fd ps sp :=
 ⟨F.ok.mono h,F.bd,F.kp,F.gl⟩
theorem zGd {P:Program}{w:World}{K:W.Frag}{mg:Str->Option Value}{base:Heap}{N:List Str}{qual:Str}{scope:Scope}{f:Addr}{cd:Value}{A:Around}{outer:List Env}{s:Shared}{H:Hp}{E:XK}{CX:CXT} :
  PassesOwn (model (cxOf CX P w K mg base N qual scope f cd A outer s H E).prog (cxOf CX P w K mg base N qual scope f cd A outer s H E).w) (cxOf CX P w K mg base N qual scope f cd A outer s H E).A (cxOf CX P w K mg base N qual scope f cd A outer s H E).env (cxOf CX P w K mg base N qual scope f cd A outer s H E).xe:=PassesOwn.leaving
theorem Inv.thaw {X:Cx}{jP:List (Addr × Obj)}{σ:L2.St}{H:Hp}{s:Shared}{a:Addr}{o:Obj}{kvs:List (Key × V)}(I:Inv X jP σ H s) (ha:H a=some (.frz o (.dK kvs))) (h0:∀o u,X.H₀ a≠some (.frz o u)):Inv X jP σ (upd H a (.dK kvs)) s:=by
 refine⟨I.ok,I.os,I.bare,⟨I.base.keep,I.base.slot,λ b ob e n hx=>?_,I.base.there,λ b xs e=>?_,λ b ob u e=>?_,λ b ps e=>?_⟩,I.loc,I.cell,?_,λ x c e=>?_,λ p hp=>?_,λ b u e=>?_,I.len⟩
 ·have:=I.base.free b ob e n hx
  rw[zAK (λ z=>by subst z;rw[this] at ha;cases ha)];exact this
 ·have:=I.base.tups b xs e
  rw[zAK (λ z=>by subst z;rw[this] at ha;cases ha)];exact this
 ·have:=I.base.frzs b ob u e
  rw[zAK (λ z=>by subst z;exact h0 _ _ e)];exact this
 ·obtain⟨m,e1⟩:=I.base.tbls b ps e
  refine⟨m,?_⟩;rw[zAK (λ z=>by subst z;rw[e1] at ha;cases ha)];exact e1
 ·have:=I.free
  rw[zAK (λ z=>by rw[z,ha] at this;cases this)];exact this
 ·have:=I.freeC x c e
  rw[zAK (λ z=>by rw[z,ha] at this;cases this)];exact this
 ·obtain⟨p1,p2,p3⟩:=I.pin p hp
  refine⟨p1,?_,p3⟩;rw[zAK (λ z=>by rw[z,ha] at p2;cases p2)];exact p2
 ·by_cases hb:b=a
  ·subst hb
   rw[zAB] at e;cases e;obtain⟨_,q⟩:=(show ObjOk X.prog X.w H s.heap b (.frz o (.dK kvs)) from I.hok b _ ha);exact q
  ·rw[zAK hb] at e
   refine(I.hok b u e).stay (λ c v Ω r=>r) (λ c r=>?_) λ c xs r=>?_
   ·rw[zAK (λ z=>by subst z;rw[r] at ha;cases ha)];exact r
   ·rw[zAK (λ z=>by subst z;rw[r] at ha;cases ha)];exact r
def tThaw (H0:Hp) (te:TE):TE:=λ σ H Q=>te σ H λ v H1=>∃a o kvs,H1 a=some (.frz o (.dK kvs))/\(∀o u,H0 a≠some (.frz o u))/\Q v (upd H1 a (.dK kvs))
theorem zHM {X:Cx}{e:Expr}{te:TE}(he:PE X e te):PE X e (tThaw X.H₀ te):=by
 intro jP s σ H Q I h;refine thn (he jP s σ H _ I h) λ v s1 ⟨x,H1,I1,r1,q1⟩=>?_;obtain⟨a,o,kvs,ha,h0,q⟩:=q1;exact⟨x,_,I1.thaw ha h0,r1,q⟩
noncomputable def Its (x:Str):It:=⟨λ i Ω=>i<x.cps.size,λ i H v H'=>H'=H/\∃c,x.cps[i]?=some c/\v = .str ⟨#[c]⟩,λ i Ω=>x.cps.size<=i⟩
def TyS (ty:String):Prop:=ty = "str_ascii_iterator" \/ ty = "str_iterator"
theorem zHn {P:Program}{w:World}{K:W.Frag}{tg:Expr}(x:Str) (t:Tok) (it:Addr):Turn P w K tg (Its x) [it] it (λ i h=>∃ty,TyS ty/\h.IsStrIter it ty x t i) where
 mem:=by simp
 obj:=λ i h st b hb=>by
  have e:b=it:=by simpa using hb
  subst e;obtain⟨_,_,o,e,c,d⟩:=st;exact⟨o,e,λ v z=>by rw[d] at z;cases z⟩
 keep:=λ i h h' st k=>by
  obtain⟨ty,ht,o,e,r⟩:=st;exact⟨ty,ht,o,k it (by simp) o e,r⟩
 item:=by
  intro X hP hw hK hc i jP s σ H E I hf st hg;subst hP hw hK;obtain⟨ty,ht,st⟩:=st;have hi:i<x.cps.size:=hg;have hx:x.cps[i]?=some x.cps[i]:=by simp[hi]
  obtain⟨f0,f1,f2,f3,f4,f5⟩:=hf it (by simp)
  have fin:∀h',h'.IsStrIter it ty x t (i+1)->Heap.SameBut it s.heap h'->∃u,some (Value.str ⟨#[x.cps[i]]⟩ s.toks)=some u /\
   wpAny (model X.prog X.w) X.A (letOwnedTupleGo tg (.ref it) u) (λ Ω s2=>∃y H',Inv X jP σ H' s2/\RelV y u/\(Its x).yld i H y H'/\(∃ty,TyS ty/\s2.heap.IsStrIter it ty x t (i+1))/\∀b∈[it],H' b=none) E { s with heap:=h',toks:=s.toks+1 }:=by
   intro h' st' sb;have I1:Inv X jP σ H { s with heap:=h',toks:=s.toks+1 }:=I.turned (t':=s.toks+1) (λ b o hb e=>(sb.2 b hb).trans e) f0 f1 f3 f4 f5;obtain⟨o,e,c,d⟩:=id st';refine⟨_,rfl,go_of (s:={ s with heap:=h',toks:=s.toks+1 }) e c d (by rcases ht with z|z<;>subst z<;>decide) ⟨.str ⟨#[x.cps[i]]⟩,H,I1,⟨_,rfl⟩,⟨rfl,_,hx,rfl⟩,⟨ty,ht,st'⟩,λ b hb=>(hf b hb).1⟩⟩
  rcases id ht with z|z
  ·subst z
   exact wpAny_pyNext_ascii_item st hx fin
  ·subst z
   exact wpAny_pyNext_wide_item st hx fin
 done:=by
  intro X hP hw hK hc i jP s σ H E I hf st hg;subst hP hw hK;obtain⟨ty,ht,st⟩:=st;have hx:x.cps[i]?=none:=Array.getElem?_eq_none (show x.cps.size<=i from hg);obtain⟨f0,f1,f2,f3,f4,f5⟩:=hf it (by simp);rcases id ht with z|z
  ·subst z
   exact wpAny_pyNext_ascii_end (I.ok.hd hc) st hx λ h' eb=>⟨rfl,I.turned (t':=s.toks) (λ b o hb e=>eb b o hb e) f0 f1 f3 f4 f5⟩
  ·subst z
   exact wpAny_pyNext_wide_end (I.ok.hd hc) st hx λ h' eb=>⟨rfl,I.turned (t':=s.toks) (λ b o hb e=>eb b o hb e) f0 f1 f3 f4 f5⟩
 self:=λ Ω Ω Ω Ω Ω st h=>by
  obtain⟨ty,ht,st⟩:=st;rcases id ht with z|z
  ·subst z
   exact wpAny_pyIter_striter_ascii st h
  ·subst z
   exact wpAny_pyIter_striter_wide st h
def iStr (tl:TE):TI:=λ σ H R=>tl σ H λ v H1=>∃x,v = .str x/\R (Its x) H1
theorem zNn {X:Cx}{tg l:Expr}{tl:TE}(hl:PE X l tl):PI X tg l (iStr tl):=by
 intro jP s σ H R I h;refine thn (hl jP s σ H _ I h) λ v s1 ⟨y,H1,I1,r1,q1⟩=>?_;obtain⟨x,e,q⟩:=q1;subst e;obtain⟨t,rfl⟩:=r1
 have fp:∀b∈[s1.heap.objs.size],FpOk X jP H1 b:=λ b hb=>by
  have e:b=s1.heap.objs.size:=by simpa using hb
  subst e;exact I1.fpOk (lQ _) (I1.hok.fresh (lQ _))
 cases ha:x.cps.all (· < 128)
 ·refine wpAny_pyIter_wide ha ?_
  exact⟨s1.heap.objs.size,[s1.heap.objs.size],_,_,H1,rfl,I1.kept (t':=s1.toks) λ b o e=>lE _ e,zHn x t _,⟨_,.inr rfl,_,lG _ rfl,rfl,rfl⟩,fp,q⟩
 ·refine wpAny_pyIter_ascii ha ?_
  exact⟨s1.heap.objs.size,[s1.heap.objs.size],_,_,H1,rfl,I1.kept (t':=s1.toks) λ b o e=>lE _ e,zHn x t _,⟨_,.inl rfl,_,lG _ rfl,rfl,rfl⟩,fp,q⟩
noncomputable def viewO (p d:Addr):HO:=.ext λ h=>h.IsValuesView p d
theorem zJ6 {X:Cx}:MtR X "dict.values" (λ v vs H Q=>∃(d:Addr) (kvs:List (Key × V)),v = .ref d/\vs=[]/\H d=some (.dK kvs)/\∀p,H p=none->Q (.ref p) (upd H p (viewO p d))):=by
 intro jP s σ H x xs v us Q I rx r h;obtain⟨d,kvs,rfl,rfl,hd,q⟩:=h;cases rx;cases r;obtain⟨z,sy,vs,rv,D⟩:=dk_of I.hok hd;refine call_meetsIn PySem.F.slot_dict_values D.typeIs PySem.F.entry_dict_values (PySem.F.args_dict_values_1 _) (meets_dict_values (zAd X.prog X.w) d sy) ⟨⟨vs,D⟩,?_⟩;refine⟨.ref s.heap.objs.size,_,I.laid (t':=s.toks) (o:=viewO s.heap.objs.size d) (λ b u e=>lE _ e) (lQ _) ?_,rfl,q _ (I.hok.fresh (lQ _))⟩;refine⟨⟨_,lG _ rfl,rfl,rfl⟩,⟨_,lG _ rfl⟩,λ h1 h2 ⟨o,e,r⟩ k=>⟨o,k o e,r⟩⟩
theorem zKA:∀{kvs:List (Key × V)}{vs:List (Key × Value)}{i:Nat}{p:Key × V},KV kvs vs->kvs[i]?=some p->∃v,vs[i]?=some (p.1,v)/\RelV p.2 v
 |_,_,_,_,.nil,e=>by simp at e
 |_,_,0,p,@Paired.cons _ _ _ a b _ _ r _,e=>by
  have e':a=p:=by simpa using e
  subst e';exact⟨b.2,by rw[r.1];rfl,r.2⟩
 |_,_,i+1,p,.cons _ t,e=>by
  obtain⟨v,h,r⟩:=zKA (i:=i) (p:=p) t (by simpa using e);exact⟨v,by simpa using h,r⟩
noncomputable def Itva (o:Obj) (a:Addr) (kvs:List (Key × V)):It :=
 ⟨λ i H=>H a=some (.frz o (.dK kvs))/\i<kvs.length,λ i H x H'=>H'=H/\∃p,kvs[i]?=some p/\x=p.2,λ i H=>H a=some (.frz o (.dK kvs))/\kvs.length<=i⟩
theorem zJK {P:Program}{w:World}{K:W.Frag}{tg:Expr}(a it:Addr) (o:Obj) (kvs:List (Key × V)):Turn P w K tg (Itva o a kvs) [it] it (λ i h=>∃es ep,o.data = .dict es ep/\h.IsValIter it a i kvs.length ep) where
 mem:=by simp
 obj:=λ i h st b hb=>by
  have e:b=it:=by simpa using hb
  subst e;obtain⟨_,_,_,ob,e,c,d⟩:=st;exact⟨ob,e,λ v z=>by rw[d] at z;cases z⟩
 keep:=λ i h h' st k=>by
  obtain⟨es,ep,hd,ob,e,r⟩:=st;exact⟨es,ep,hd,ob,k it (by simp) ob e,r⟩
 item:=by
  intro X hP hw hK hc i jP s σ H E I hf st hg;subst hP hw hK;obtain⟨ha,hi⟩:=hg;obtain⟨es,ep,hd,hit⟩:=st;obtain⟨vs,r,hl,hm⟩:=zIT I ha hd;obtain⟨u,hv,ru⟩:=zKA r (lX hi);obtain⟨f0,f1,f2,f3,f4,f5⟩:=hf it (by simp);rw[hl] at hit;refine wpAny_pyNext_values_item hit hm hv λ h' hit' sb=>?_;have I1:Inv X jP σ H { s with heap:=h' }:=I.turned (t':=s.toks) (λ b o hb e=>(sb.2 b hb).trans e) f0 f1 f3 f4 f5;obtain⟨ob,e,c,d⟩:=id hit';rw[←hl] at hit';exact⟨_,rfl,go_of (s:={ s with heap:=h' }) e c d (by decide) ⟨_,H,I1,ru,⟨rfl,_,lX hi,rfl⟩,⟨es,ep,hd,hit'⟩,λ b hb=>(hf b hb).1⟩⟩
 done:=by
  intro X hP hw hK hc i jP s σ H E I hf st hg;subst hP hw hK;obtain⟨ha,hi⟩:=hg;obtain⟨es,ep,hd,hit⟩:=st;obtain⟨vs,r,hl,hm⟩:=zIT I ha hd;obtain⟨f0,f1,f2,f3,f4,f5⟩:=hf it (by simp);rw[hl] at hit;exact wpAny_pyNext_values_end (I.ok.hd hc) hit hm (List.getElem?_eq_none (by omega)) λ h' eb=>⟨rfl,I.turned (t':=s.toks) (λ b o hb e=>eb b o hb e) f0 f1 f3 f4 f5⟩
 self:=λ A i s Q E st h=>by
  obtain⟨es,ep,hd,hit⟩:=st;exact wpAny_pyIter_valiter hit h
def iVals (tl:TE):TI:=λ σ H R=>tl σ H λ x H1=>∃p a kvs,x = .ref p/\H1 p=some (viewO p a)/\H1 a=some (.dK kvs)/\∀o,R (Itva o a kvs) (upd H1 a (.frz o (.dK kvs)))
theorem zMn {X:Cx}{tg l:Expr}{tl:TE}(hl:PE X l tl):PI X tg l (iVals tl):=by
 intro jP s σ H R I h;refine thn (hl jP s σ H _ I h) λ v s1 ⟨x,H1,I1,r1,q1⟩=>?_;obtain⟨p,a,kvs,e,hp,ha,q⟩:=q1;subst e;cases r1;obtain⟨vw,_⟩:=(show ObjOk X.prog X.w H1 s1.heap p (viewO p a) from I1.hok p _ hp);obtain⟨z,sy,vs,r,o,es',ep',e,c1,d1,rest⟩:=(show ObjOk X.prog X.w H1 s1.heap a (.dK kvs) from I1.hok a _ ha);refine wpAny_pyIter_values (knd:=zAd X.prog X.w) (kvs:=vs) (ep:=ep') vw ⟨o,es',e,c1,d1,rest⟩ ?_;have lt:=lH e;refine⟨s1.heap.objs.size,[s1.heap.objs.size],_,_,upd H1 a (.frz o (.dK kvs)),rfl,I1.write (t':=s1.toks) (x:=a) (e:=a) (by rw[ha];exact True.intro) (.inl rfl) (λ b o Ω e=>lE _ e) ⟨o,lE _ e⟩ ?_,zJK a _ o kvs,⟨es',ep',d1,_,lG _ rfl,rfl,by rw[Paired.length r];rfl⟩,λ b hb=>?_,q o⟩
 ·exact⟨lE _ e,z,sy,vs,r,o,es',ep',lE _ e,c1,d1,rest⟩
 ·have e:b=s1.heap.objs.size:=by simpa using hb
  subst e;exact I1.fpOk (lQ _) (by rw[zAK (Nat.ne_of_gt lt)];exact I1.hok.fresh (lQ _))
theorem zLx {o:Obj}{a:Addr}{kvs:List (Key × V)}{g:TG}{tb:TS}{D:Ends}{σ:L2.St}{H:Hp}(Pv:Nat->L2.St->Hp->Prop) (h0:Pv 0 σ H) (hl:∀i σ H,i<=kvs.length->Pv i σ H->H a=some (.frz o (.dK kvs)))
  (hs:∀i p σ H,kvs[i]?=some p->Pv i σ H->g p.2 σ H λ σ2 H2=>tb { D with nx:=Pv (i+1),ct:=Pv (i+1),bk:=D.nx } σ2 H2) (hd:∀σ H,Pv kvs.length σ H->D.nx σ H) :
  ∃W:Nat->Nat->L2.St->Hp->Prop,(∃m,W 0 m σ H)/\∀i m σ H,W i m σ H ->
   ((Itva o a kvs).stop i H/\D.nx σ H)\/((Itva o a kvs).go i H/\∃N:L2.St->Hp->Prop,(∀σ' H',N σ' H'->∃m',m'<m/\W (i+1) m' σ' H')/\∀x H',(Itva o a kvs).yld i H x H'->g x σ H' λ σ2 H2=>tb { D with nx:=N,ct:=N,bk:=D.nx } σ2 H2):=by
 refine⟨λ i m σ H=>m=kvs.length - i/\i<=kvs.length/\Pv i σ H,⟨kvs.length,by simp,lZ _,h0⟩,?_⟩;rintro i m σ H ⟨rfl,hi,p⟩;have q:=hl i σ H hi p
 by_cases hlt:i<kvs.length
 ·refine .inr ⟨⟨q,hlt⟩,Pv (i+1),λ σ' H' p'=>⟨kvs.length - (i+1),by omega,rfl,hlt,p'⟩,λ x H' y=>?_⟩
  obtain⟨e,p',hp',ex⟩:=y;subst e ex;exact hs i p' σ _ hp' p
 ·have e:i=kvs.length:=by omega
  subst e;exact .inl ⟨⟨q,lQ _⟩,hd σ H p⟩
section
variable {X:Cx}{o e:Expr}{es:List Expr}{te to:TE}{t:TA}{name x:Str}{apos cpos pos p:Pos}{T id:String}
theorem zC3 {r:List V->Hp->VK->Prop}(hc:CallR X (.type T) r) (hg:Gl X x) (hm:X.mg x=none) (hv:bootBuiltins x=some (.type T)) (ha:Sd (PA X (e::es) t)) (hn:x ≠ "__name__" := by decide) (hdb:(x == ("__debug__" : Str))=false:=by decide)
  (he:starEach (e::es) X.env=(false,eval e X.env)::starEach es X.env:=by rfl) (hpl:(backTo pos (starEach es X.env)).any (·.1)=false:=by rfl):Sd (PE X (.Call (.Name x p) (e::es) [] pos) (tCB r t)):=⟨zBT hc hg hm hv ha.un hn hdb he hpl⟩
end
instance instDecDt:DecidableEq Dt:=λ a b=>decidable_of_iff (Dt.beq a b=true) Dt.beq_iff
noncomputable def lookB (x:Str):List Str->Option Nat
 |[]=>none
 |y::r=>if y=x then some 0 else (lookB x r).map (· + 1)
noncomputable def keyB (x:Str) (rs:List Str):Nat ⊕ Str:=match lookB x rs with
 |some k=>.inl k
 |none=>.inr x
noncomputable def keyD:Nat ⊕ Str->Dt
 |.inl k=>.tup [.str "bound", .int k]
 |.inr z=>.tup [.str "free", .str z]
noncomputable def bareN (x:Str) (bs:List Str):Dt:=keyD (keyB x bs.reverse)
noncomputable def sn (x y:Str):List (Str × Str)->Bool
 |[]=>decide (x=y)
 |p::r=>if p.1=x\/p.2=y then decide (p.1=x/\p.2=y) else sn x y r
inductive Lf where
 |name (x:Str)|num (n:Int)|gap (g:Str)|ask (x:Str)|stop (x:Str)
noncomputable def dtL:Lf->List Dt
 |.name x=>[.str "name", .str x]|.num n=>[.str "num", .int n]|.gap g=>[.str "gap", .str g,.tup []]|.ask x=>[.str "ask", .str x]|.stop x=>[.str "stop", .str x]
noncomputable def bareL (l:Lf) (bs:List Str):Dt:=match l with
 |.name x=>bareN x bs
 |l=>.tup (dtL l)
def LfRep (H:Hp):Lf->V->Prop
 |.name x,v=>∃a,v = .ref a/\H a=some (.tup [.str "name", .str x])
 |.num n,v=>∃a,v = .ref a/\H a=some (.tup [.str "num", .int n])
 |.gap g,v=>∃a b,v = .ref a/\H a=some (.tup [.str "gap", .str g,.ref b])/\H b=some (.tup [])
 |.ask x,v=>∃a,v = .ref a/\H a=some (.tup [.str "ask", .str x])
 |.stop x,v=>∃a,v = .ref a/\H a=some (.tup [.str "stop", .str x])
theorem LfRep.dr {H:Hp}:∀{l:Lf}{v:V},LfRep H l v->DR H (.tup (dtL l)) v
 |.name _,_,⟨_,rfl,h⟩=>.tup h (.cons (.str _) (.cons (.str _) .nil))
 |.num _,_,⟨_,rfl,h⟩=>.tup h (.cons (.str _) (.cons (.int _) .nil))
 |.gap _,_,⟨_,_,rfl,h,h'⟩=>.tup h (.cons (.str _) (.cons (.str _) (.cons (.tup h' .nil) .nil)))
 |.ask _,_,⟨_,rfl,h⟩=>.tup h (.cons (.str _) (.cons (.str _) .nil))
 |.stop _,_,⟨_,rfl,h⟩=>.tup h (.cons (.str _) (.cons (.str _) .nil))
noncomputable def Atom.lf:Atom->Lf
 |.name x=>.name x|.num n=>.num n|.gap g=>.gap g
theorem AtRep.lf {H:Hp}:∀{a:Atom}{v:V},AtRep H a v->LfRep H a.lf v
 |.name _,_,h=>h
 |.num _,_,h=>h
 |.gap _,_,h=>h
noncomputable def bareA (bs:List Str) (a:Atom):Dt:=bareL a.lf bs
noncomputable def bare:Tr->List Str->Dt
 |.num n,_=>.tup [.str "num", .int n]
 |.name x,bs=>bareN x bs
 |.ask x,_=>.tup [.str "ask", .str x]
 |.stop x,_=>.tup [.str "stop", .str x]
 |.gap g as,bs=>.tup [.str "gap", .str g,.tup (as.map (bareA bs))]
 |.say a,bs=>.tup [.str "say", bare a bs]
 |.bin o a b,bs=>.tup [.str o.s,bare a bs,bare b bs]
 |.ite a b c,bs=>.tup [.str "if", bare a bs,bare b bs,bare c bs]
 |.lett x a b,bs=>.tup [.str "let", bare a bs,bare b (bs++[x])]
noncomputable def Tr.fv:Tr->List Str->List Str
 |.say a,bs=>a.fv bs
 |.bin _ a b,bs=>a.fv bs++b.fv bs
 |.ite a b c,bs=>a.fv bs++(b.fv bs++c.fv bs)
 |.lett x a b,bs=>a.fv bs++b.fv (bs++[x])
 |t,bs=>t.names.filter λ x=>decide (x∉bs)
noncomputable def bIn (t:Tr) (i:Int) (bs:List Str):List Str:=match t with
 |.lett x _ _=>if i=1 then bs++[x] else bs
 |_=>bs
noncomputable def kids:Tr->List Str->List (Tr × List Str)
 |.say a,bs=>[(a,bs)]
 |.bin _ a b,bs=>[(a,bs),(b,bs)]
 |.ite a b c,bs=>[(a,bs),(b,bs),(c,bs)]
 |.lett x a b,bs=>[(a,bs),(b,bs++[x])]
 |_,_=>[]
theorem zLm (t:Tr) (bs:List Str):(kids t bs).length=t.parts.length:=by cases t<;>rfl
theorem zLn (t:Tr) (bs:List Str) (i:Nat) (c:Tr) (h:t.parts[i]?=some c):(kids t bs)[i]?=some (c,bIn t i bs):=by
 cases t with
 |say a=>match i,h with
  |0,h=>cases h;rfl
 |bin o a b=>match i,h with
  |0,h=>cases h;rfl
  |1,h=>cases h;rfl
 |ite a b c=>match i,h with
  |0,h=>cases h;rfl
  |1,h=>cases h;rfl
  |2,h=>cases h;rfl
 |lett x a b=>match i,h with
  |0,h=>cases h;rfl
  |1,h=>cases h;rfl
 |_=>simp[Tr.parts] at h
theorem zEj (t:Tr) (bs:List Str) (x:Str):x∈t.fv bs↔(x∈t.names/\x∉bs)\/∃q∈kids t bs,x∈q.1.fv q.2:=by
 cases t<;>simp[Tr.fv,kids,Tr.names,List.mem_filter]
noncomputable def total (l:List (Tr × List Str)):Nat:=(l.map λ q=>q.1.size).sum
theorem zCc (a b:List (Tr × List Str)):total (a++b)=total a+total b:=by simp[total]
theorem zDm (a:Tr × List Str) (b:List (Tr × List Str)):total (a::b)=a.1.size+total b:=by simp[total]
theorem zJN:total []=0:=rfl
theorem zCK (t:Tr):1<=t.size:=by cases t<;>simp[Tr.size]
theorem zEh:∀l:List (Tr × List Str),l.length<=total l
 |[]=>lQ _
 |a::r=>by rw[zDm,mM];have:=zEh r;have:=zCK a.1;omega
theorem zFR (t:Tr) (bs:List Str):total (kids t bs)+1=t.size:=by cases t<;>simp[kids,total,Tr.size]<;>omega
theorem zKB (t:Tr) (bs:List Str) (m:Nat) (h:bs.length+t.size<=m):∀q∈kids t bs,q.2.length+q.1.size<=m:=by
 cases t<;>simp[kids,Tr.size] at h ⊢<;>omega
noncomputable def kvOf (ks:List Str):List (Key × V):=ks.map λ x=>(Sum.inr x,V.bl true)
noncomputable def addK (ks:List Str) (x:Str):List Str:=if x∈ks then ks else ks++[x]
theorem zCT (ks:List Str) (x:Str):putK (kvOf ks) (Sum.inr x) (.bl true)=kvOf (addK ks x):=by
 unfold putK addK
 have e:((kvOf ks).any λ kv=>decide (kv.1=Sum.inr x))=decide (x∈ks):=by
  rw[Bool.eq_iff_iff,List.any_eq_true,decide_eq_true_iff];constructor
  ·rintro⟨p,hp,h⟩
   obtain⟨y,hy,rfl⟩:=mD.mp hp;have:(Sum.inr y:Key)=Sum.inr x:=lS h;cases this;exact hy
  ·intro h
   exact⟨_,mD.mpr ⟨x,h,rfl⟩,lU rfl⟩
 rw[e]
 by_cases h:x∈ks
 ·rw[if_pos (decide_eq_true h),if_pos h]
  unfold kvOf;rw[nT];refine List.map_congr_left λ y Ω=>?_;show (if (Sum.inr y:Key)=Sum.inr x then ((Sum.inr y:Key),V.bl true) else (Sum.inr y,V.bl true))=(Sum.inr y,V.bl true);split<;>rfl
 ·rw[if_neg (by simpa using h),if_neg h]
  simp[kvOf]
set_option tactic.hygienic true in
theorem zBZ {ks:List Str}{x:Str}(h:ks.Nodup):(addK ks x).Nodup:=by
 unfold addK;split
 ·exact h
 ·rename_i n
  rw[List.nodup_append];refine⟨h,by simp,λ a ha b hb e=>?_⟩;rw[mR.mp hb] at e;exact n (e▸ha)
set_option tactic.hygienic true in
theorem zAf {ks:List Str}{x y:Str}:y∈addK ks x↔y∈ks\/y=x:=by
 unfold addK;split
 ·rename_i h
  constructor
  ·exact .inl
  ·rintro (z|z)
   ·exact z
   ·rw[z];exact h
 ·simp
theorem zLk (ks:List Str) (x:Str):(addK ks x).length<=ks.length+1:=by
 unfold addK;split<;>simp
theorem zBD:∀{ks ws:List Str},ks.Nodup->(∀x∈ks,x∈ws)->ks.length<=ws.length
 |[],_,_,_=>lZ _
 |k::ks,ws,hn,h=>by
  have hk:=h k lO
  have h':∀x∈ks,x∈ws.erase k:=λ x hx=>by
   have ne:x≠k:=λ e=>(rD.mp hn).1 (e▸hx);exact(List.mem_erase_of_ne ne).mpr (h x (lP _ hx))
  have ih:=zBD (rD.mp hn).2 h';rw[List.length_erase_of_mem hk] at ih;have:0<ws.length:=List.length_pos_of_mem hk;rw[mM];omega
abbrev Told:=Str->Option Atom
noncomputable def tOf (τ:Told) (x:Str):Atom:=(τ x).getD (.name x)
noncomputable def putA (τ:Told):Atom->Atom
 |.name x=>tOf τ x
 |a=>a
noncomputable def Atom.tr:Atom->Tr
 |.name x=>.name x|.num n=>.num n|.gap g=>.gap g []
theorem AtRep.tr {H:Hp}:∀{a:Atom}{v:V},AtRep H a v->Rep H a.tr v
 |.name _,_,h=>h
 |.num _,_,h=>h
 |.gap _,_,⟨a,b,e,h,h'⟩=>⟨a,b,[],e,h,h',by simp,.nil⟩
noncomputable def headT (τ:Told):Tr->Tr
 |.name x=>(tOf τ x).tr
 |.gap g as=>.gap g (as.map (putA τ))
 |t=>t
noncomputable def keyDA:Nat ⊕ Atom->Dt
 |.inl k=>.tup [.str "bound", .int k]
 |.inr (.name y)=>.tup [.str "free", .str y]
 |.inr (.num n)=>.tup [.str "num", .int n]
 |.inr (.gap g)=>.tup [.str "gap", .str g,.tup []]
noncomputable def keyX (L:Told) (bs:List Str) (x:Str):Nat ⊕ Atom:=match lookB x bs.reverse with
 |some k=>.inl k
 |none=>.inr (tOf L x)
noncomputable def noT:Told:=λ Ω=>none
noncomputable def keyA (cs:List Str):Atom->Nat ⊕ Atom
 |.name y=>keyX noT cs y
 |a=>.inr a
noncomputable def shA:Nat ⊕ Atom->Nat ⊕ Atom
 |.inl k=>.inl (k+1)
 |.inr a=>.inr a
theorem zEm (L:Told) (bs:List Str) (n x:Str):keyX L (bs++[n]) x=if n=x then .inl 0 else shA (keyX L bs x):=by
 unfold keyX;rw[List.reverse_append,List.reverse_singleton,List.singleton_append,lookB]
 by_cases h:n=x
 ·rw[if_pos h,if_pos h]
 ·rw[if_neg h,if_neg h]
  cases lookB x bs.reverse<;>rfl
noncomputable def zBP (L:Told) (bs:List Str):Atom->Dt
 |.name x=>keyDA (keyX L bs x)
 |.num n=>.tup [.str "num", .int n]
 |.gap g=>.tup [.str "gap", .str g,.tup []]
noncomputable def bareW (L:Told):Tr->List Str->Dt
 |.num n,_=>.tup [.str "num", .int n]
 |.name x,bs=>keyDA (keyX L bs x)
 |.ask x,_=>.tup [.str "ask", .str x]
 |.stop x,_=>.tup [.str "stop", .str x]
 |.gap g as,bs=>.tup [.str "gap", .str g,.tup (as.map (zBP L bs))]
 |.say a,bs=>.tup [.str "say", bareW L a bs]
 |.bin o a b,bs=>.tup [.str o.s,bareW L a bs,bareW L b bs]
 |.ite a b c,bs=>.tup [.str "if", bareW L a bs,bareW L b bs,bareW L c bs]
 |.lett x a b,bs=>.tup [.str "let", bareW L a bs,bareW L b (bs++[x])]
theorem zG0 (L:Told) (bs:List Str) (a:Atom):zBP L bs a=bareW L a.tr bs:=by cases a<;>rfl
theorem zBq (cs:List Str) (a:Atom):zBP noT cs a=keyDA (keyA cs a):=by cases a<;>rfl
theorem zCb:∀(t:Tr) (bs:List Str) (x:Str),x∈t.fv bs↔x∈t.fv []/\x∉bs
 |.say a,bs,x=>zCb a bs x
 |.bin _ a b,bs,x=>by simp only[Tr.fv,nM];rw[zCb a bs,zCb b bs];exact or_and_right.symm
 |.ite a b c,bs,x=>by simp only[Tr.fv,nM];rw[zCb a bs,zCb b bs,zCb c bs];constructor<;>(intro h;simp only[or_and_right] at *;exact h)
 |.lett n a b,bs,x=>by
  simp only[Tr.fv,nM,nV];rw[zCb a bs,zCb b (bs++[n]),zCb b [n],lK];constructor
  ·rintro (⟨h,h'⟩|⟨h,h'⟩)
   ·exact⟨.inl h,h'⟩
   ·exact⟨.inr ⟨h,λ z=>h' (.inr z)⟩,λ z=>h' (.inl z)⟩
  ·rintro⟨h|⟨h,h'⟩,h2⟩
   ·exact .inl ⟨h,h2⟩
   ·exact .inr ⟨h,λ z=>z.elim h2 h'⟩
 |.num _,bs,x=>by simp[Tr.fv,Tr.names]
 |.name _,bs,x=>by simp[Tr.fv,Tr.names]
 |.ask _,bs,x=>by simp[Tr.fv,Tr.names]
 |.stop _,bs,x=>by simp[Tr.fv,Tr.names]
 |.gap _ _,bs,x=>by simp[Tr.fv,Tr.names]
noncomputable def Tr.wrds:Tr->List Str
 |.say a=>a.wrds
 |.bin _ a b=>a.wrds++b.wrds
 |.ite a b c=>a.wrds++(b.wrds++c.wrds)
 |.lett x a b=>x::(a.wrds++b.wrds)
 |t=>t.names
theorem zBY:∀(t:Tr) (x:Str),x∈t.fv []->x∈t.wrds
 |.say a,x,h=>zBY a x h
 |.bin _ a b,x,h=>by
  simp only[Tr.fv,nM] at h;simp only[Tr.wrds,nM];exact h.imp (zBY a x) (zBY b x)
 |.ite a b c,x,h=>by
  simp only[Tr.fv,nM] at h;simp only[Tr.wrds,nM];exact h.imp (zBY a x) (Or.imp (zBY b x) (zBY c x))
 |.lett n a b,x,h=>by
  simp only[Tr.fv,nM,nV] at h;simp only[Tr.wrds,nN,nM];exact .inr (h.imp (zBY a x) λ z=>zBY b x ((zCb b [n] x).mp z).1)
 |.num _,x,h=>by simp[Tr.fv,Tr.names] at h
 |.name _,x,h=>by simpa[Tr.fv,Tr.wrds] using h
 |.ask _,x,h=>by simp[Tr.fv,Tr.names] at h
 |.stop _,x,h=>by simp[Tr.fv,Tr.names] at h
 |.gap _ _,x,h=>by simpa[Tr.fv,Tr.wrds] using h
structure Itm where
 t:Tr
 τ:Told
 bs:List Str
 cs:List Str
def Req (L:Told) (q:Itm):Prop:=∀x∈q.t.fv [],keyA q.cs (tOf q.τ x)=keyX L q.bs x
def zDj (τ:Told) (n:Str) (b:Tr):Prop:=∃x,x≠n/\τ x=some (.name n)/\x∈b.fv []
noncomputable def setT (τ:Told) (n:Str) (a:Atom):Told:=λ x=>if x=n then some a else τ x
theorem zMc (τ:Told) (n:Str) (a:Atom) (x:Str):tOf (setT τ n a) x=if x=n then a else tOf τ x:=by
 unfold tOf setT;split<;>rfl
noncomputable def headI (q:Itm) (m:Str):Tr:=match q.t with
 |.lett _ a b=>.lett m a b
 |t=>headT q.τ t
noncomputable def kidsI (q:Itm) (m:Str):List Itm:=match q.t with
 |.lett n a b=>[⟨a,q.τ,q.bs,q.cs⟩,⟨b,setT q.τ n (.name m),q.bs++[n],q.cs++[m]⟩]
 |t=>t.parts.map λ p=>⟨p,q.τ,q.bs,q.cs⟩
def OkM (ks:List Str) (q:Itm) (m:Str):Prop:=∀n a b,q.t = .lett n a b->(zDj q.τ n b/\m∉ks)\/(¬zDj q.τ n b/\m=n)
def InK (ks:List Str) (q:Itm):Prop:=(∀x∈q.t.wrds,x∈ks)/\∀x y,q.τ x=some (.name y)->y∈ks
theorem InK.mono {ks ks':List Str}{q:Itm}(h:InK ks q) (k:∀x∈ks,x∈ks'):InK ks' q:=⟨λ x hx=>k x (h.1 x hx),λ x y e=>k y (h.2 x y e)⟩
theorem zMi {L:Told}{ks:List Str}{n:Str}{a b:Tr}{τ:Told}{bs cs:List Str}{m:Str}(R:Req L ⟨.lett n a b,τ,bs,cs⟩) (hk:InK ks ⟨.lett n a b,τ,bs,cs⟩) (hm:OkM ks ⟨.lett n a b,τ,bs,cs⟩ m) :
  Req L ⟨a,τ,bs,cs⟩/\Req L ⟨b,setT τ n (.name m),bs++[n],cs++[m]⟩:=by
 refine⟨λ x hx=>R x (by show x∈Tr.fv (.lett n a b) [];simp only[Tr.fv,nM];exact .inl hx),λ x hx=>?_⟩;show keyA (cs++[m]) (tOf (setT τ n (.name m)) x)=keyX L (bs++[n]) x;rw[zMc,zEm]
 by_cases e:x=n
 ·subst e
  rw[if_pos rfl,if_pos rfl];show keyX noT (cs++[m]) m=_;rw[zEm,if_pos rfl]
 ·rw[if_neg e,if_neg (Ne.symm e)]
  have hf:x∈(Tr.lett n a b).fv []:=by
   simp only[Tr.fv,nM,nV];exact .inr ((zCb b [n] x).mpr ⟨hx,by simpa using e⟩)
  have r:=R x hf;dsimp only at r;rw[←r];cases ha:tOf τ x with
  |num _=>rfl
  |gap _=>rfl
  |name y =>
   show keyX noT (cs++[m]) y=shA (keyX noT cs y);rw[zEm,if_neg];intro z;subst z
   have hy:(τ x=some (.name m))\/(τ x=none/\m=x):=by
    unfold tOf at ha;cases h:τ x with
    |none=>rw[h] at ha;exact .inr ⟨rfl,by simpa using ha.symm⟩
    |some w=>rw[h] at ha;exact .inl (by simpa using ha)
   rcases hm n a b rfl with ⟨c,hm⟩|⟨c,hm⟩
   ·rcases hy with h|⟨_,h⟩
    ·exact hm (hk.2 x m h)
    ·exact hm (h▸hk.1 x (zBY _ _ hf))
   ·rcases hy with h|⟨_,h⟩
    ·exact c ⟨x,e,hm▸h,hx⟩
    ·exact e (h.symm.trans hm)
theorem zFq {L:Told}{t p:Tr}{τ:Told}{bs cs:List Str}(R:Req L ⟨t,τ,bs,cs⟩) (hn:t.kd ≠ .lett) (hp:p∈t.parts):Req L ⟨p,τ,bs,cs⟩:=λ x hx=>R x (by
 show x∈t.fv [];cases t with
 |say a=>simp[Tr.parts] at hp;subst hp;exact hx
 |bin o a b=>simp[Tr.parts] at hp;simp only[Tr.fv,nM];rcases hp with rfl|rfl;exact .inl hx;exact .inr hx
 |ite a b c=>simp[Tr.parts] at hp;simp only[Tr.fv,nM];rcases hp with rfl|rfl|rfl;exact .inl hx;exact .inr (.inl hx);exact .inr (.inr hx)
 |lett n a b=>exact absurd rfl hn
 |_=>simp[Tr.parts] at hp)
theorem zLE {L:Told}{ks:List Str}{q:Itm}{m:Str}(R:Req L q) (hk:InK ks q) (hm:OkM ks q m):∀k∈kidsI q m,Req L k:=by
 obtain⟨t,τ,bs,cs⟩:=q;intro k hmem;cases t with
 |lett n a b =>
  have:=zMi R hk hm;simp[kidsI] at hmem;rcases hmem with rfl|rfl
  ·exact this.1
  ·exact this.2
 |bin o a b =>
  obtain⟨p,hp,rfl⟩:=mD.mp (show k∈(Tr.bin o a b).parts.map (λ p=>(⟨p,τ,bs,cs⟩:Itm)) from hmem);exact zFq R (by cases o<;>nofun) hp
 |say a =>
  obtain⟨p,hp,rfl⟩:=mD.mp (show k∈(Tr.say a).parts.map (λ p=>(⟨p,τ,bs,cs⟩:Itm)) from hmem);exact zFq R nofun hp
 |ite a b c =>
  obtain⟨p,hp,rfl⟩:=mD.mp (show k∈(Tr.ite a b c).parts.map (λ p=>(⟨p,τ,bs,cs⟩:Itm)) from hmem);exact zFq R nofun hp
 |_=>simp[kidsI,Tr.parts] at hmem
theorem zLp {ks:List Str}{q:Itm}{m:Str}(hk:InK ks q):∀k∈kidsI q m,InK (addK ks m) k:=by
 obtain⟨t,τ,bs,cs⟩:=q;intro k hmem;have up:∀x∈ks,x∈addK ks m:=λ x hx=>zAf.mpr (.inl hx);obtain⟨h1,h2⟩:=hk;dsimp only at h1 h2;have old:∀x y,τ x=some (.name y)->y∈addK ks m:=λ x y e=>up y (h2 x y e);cases t with
 |lett n a b =>
  simp[kidsI] at hmem;rcases hmem with rfl|rfl
  ·exact⟨λ x hx=>up x (h1 x (by simp[Tr.wrds,hx])),old⟩
  ·refine⟨λ x hx=>up x (h1 x (by simp[Tr.wrds,hx])),λ x y e=>?_⟩
   dsimp only[setT] at e;split at e
   ·cases e;exact zAf.mpr (.inr rfl)
   ·exact old x y e
 |say a=>simp[kidsI,Tr.parts] at hmem;subst hmem;exact⟨λ x hx=>up x (h1 x hx),old⟩
 |bin o a b=>simp[kidsI,Tr.parts] at hmem;rcases hmem with rfl|rfl<;>exact⟨λ x hx=>up x (h1 x (by simp[Tr.wrds,hx])),old⟩
 |ite a b c=>simp[kidsI,Tr.parts] at hmem;rcases hmem with rfl|rfl|rfl<;>exact⟨λ x hx=>up x (h1 x (by simp[Tr.wrds,hx])),old⟩
 |_=>simp[kidsI,Tr.parts] at hmem
section
variable (G:Str->Prop)
def Atom.good:Atom->Prop
 |.name x=>G x|.num _=>True|.gap g=>G g
def Tr.good:Tr->Prop
 |.num _=>True|.name x=>G x|.ask x=>G x|.stop x=>G x
 |.gap g as=>G g/\as.length<=1000/\∀a∈as,a.good G
 |.say a=>a.good
 |.bin _ a b=>a.good/\b.good
 |.ite a b c=>a.good/\b.good/\c.good
 |.lett x a b=>G x/\a.good/\b.good
end
theorem Atom.good_tr {G:Str->Prop}{a:Atom}(h:a.good G):a.tr.good G:=by
 cases a with
 |gap g=>exact⟨h,by simp,by simp⟩
 |name _=>exact h
 |num _=>exact True.intro
noncomputable def Tr.withP:Tr->List Tr->Tr
 |.say _,[a]=>.say a
 |.bin o _ _,[a,b]=>.bin o a b
 |.ite _ _ _,[a,b,c]=>.ite a b c
 |.lett x _ _,[a,b]=>.lett x a b
 |t,_=>t
noncomputable def Tr.dp:Tr->Nat
 |.say a=>a.dp+1|.bin _ a b=>max a.dp b.dp+1|.ite a b c=>max a.dp (max b.dp c.dp)+1|.lett _ a b=>max a.dp b.dp+1
 |_=>2
structure Done (G:Str->Prop) (L:Told) (q:Itm) (r:Tr):Prop where
 br:bareW noT r q.cs=bareW L q.t q.bs
 gd:r.good G
 dp:r.dp<=q.t.dp
structure GdI (G:Str->Prop) (q:Itm):Prop where
 tr:q.t.good G
 td:∀x a,q.τ x=some a->a.good G
theorem zHp {G:Str->Prop}{τ:Told}(h:∀x a,τ x=some a->a.good G) {x:Str}(hx:G x):(tOf τ x).good G:=by
 unfold tOf;cases e:τ x with
 |none=>exact hx
 |some a=>exact h x a e
theorem zLw {G:Str->Prop}{q:Itm}{m:Str}(hg:GdI G q) (hm:∀n a b,q.t = .lett n a b->G m):∀k∈kidsI q m,GdI G k:=by
 obtain⟨t,τ,bs,cs⟩:=q;obtain⟨h1,h2⟩:=hg;intro k hmem;cases t with
 |lett n a b =>
  simp[kidsI] at hmem;rcases hmem with rfl|rfl
  ·exact⟨h1.2.1,h2⟩
  ·refine⟨h1.2.2,λ x y e=>?_⟩
   dsimp only[setT] at e;split at e
   ·cases e;exact hm n a b rfl
   ·exact h2 x y e
 |say a=>simp[kidsI,Tr.parts] at hmem;subst hmem;exact⟨h1,h2⟩
 |bin o a b=>simp[kidsI,Tr.parts] at hmem;rcases hmem with rfl|rfl;exact⟨h1.1,h2⟩;exact⟨h1.2,h2⟩
 |ite a b c=>simp[kidsI,Tr.parts] at hmem;rcases hmem with rfl|rfl|rfl;exact⟨h1.1,h2⟩;exact⟨h1.2.1,h2⟩;exact⟨h1.2.2,h2⟩
 |_=>simp[kidsI,Tr.parts] at hmem
inductive All2 {α β:Type}(F:α->β->Prop):List α->List β->Prop
 |nil:All2 F [] []
 |cons {a b as bs}:F a b->All2 F as bs->All2 F (a::as) (b::bs)
theorem All2.length {α β:Type}{F:α->β->Prop}:∀{as:List α}{bs:List β},All2 F as bs->as.length=bs.length
 |_,_,.nil=>rfl
 |_,_,.cons _ t=>by simp[t.length]
theorem All2.split {α β:Type}{F:α->β->Prop}:∀{as cs:List α}{bs:List β},All2 F (as++cs) bs->∃b1 b2,bs=b1++b2/\All2 F as b1/\All2 F cs b2
 |[],_,bs,h=>⟨[],bs,rfl,.nil,h⟩
 |_::as,cs,_,.cons r t=>by
  obtain⟨b1,b2,rfl,h1,h2⟩:=t.split (as:=as);exact⟨_::b1,b2,rfl,.cons r h1,h2⟩
theorem All2.append {α β:Type}{F:α->β->Prop}:∀{as cs:List α}{bs ds:List β},All2 F as bs->All2 F cs ds->All2 F (as++cs) (bs++ds)
 |_,_,_,_,.nil,h=>h
 |_,_,_,_,.cons r t,h=>.cons r (t.append h)
theorem zKc {G:Str->Prop}{L:Told}{q:Itm}{m:Str}{rs:List Tr}(R:Req L q) (hg:GdI G q) (hm:∀n a b,q.t = .lett n a b->G m) (h:All2 (Done G L) (kidsI q m) rs):Done G L q ((headI q m).withP rs):=by
 obtain⟨t,τ,bs,cs⟩:=q;obtain⟨g1,g2⟩:=hg;dsimp only at g1 g2;cases t with
 |num n=>cases h;exact⟨rfl,g1,lQ _⟩
 |ask n=>cases h;exact⟨rfl,g1,lQ _⟩
 |stop n=>cases h;exact⟨rfl,g1,lQ _⟩
 |name x =>
  cases h;have r:=R x (by show x∈Tr.fv (.name x) [];simp[Tr.fv,Tr.names]);dsimp only at r
  have e:(headI ⟨.name x,τ,bs,cs⟩ m).withP []=(tOf τ x).tr:=by
   show ((tOf τ x).tr).withP []=_;cases tOf τ x<;>rfl
  rw[e];refine⟨?_,Atom.good_tr (zHp g2 g1),?_⟩
  ·show bareW noT (tOf τ x).tr cs=keyDA (keyX L bs x)
   rw[←zG0,zBq,r]
  ·cases tOf τ x<;>exact lQ 2
 |gap g as =>
  cases h;show Done G L _ (.gap g (as.map (putA τ)));refine⟨?_,⟨g1.1,by rw[lC];exact g1.2.1,λ a ha=>?_⟩,lQ _⟩
  ·show Dt.tup [.str "gap", .str g,.tup ((as.map (putA τ)).map (zBP noT cs))]=Dt.tup [.str "gap", .str g,.tup (as.map (zBP L bs))]
   congr 5;rw[nT];refine List.map_congr_left λ a ha=>?_;show zBP noT cs (putA τ a)=_;cases a with
   |num _=>rfl
   |gap _=>rfl
   |name x =>
    have r:=R x (by
     show x∈Tr.fv (.gap g as) [];simp only[Tr.fv,Tr.names,List.mem_filter];exact⟨mX.mpr ⟨.name x,ha,by simp[Atom.names]⟩,by simp⟩)
    dsimp only at r;show zBP noT cs (tOf τ x)=keyDA (keyX L bs x);rw[zBq,r]
  ·obtain⟨b,hb,rfl⟩:=mD.mp ha
   have gb:=g1.2.2 b hb;cases b with
   |name x=>exact zHp g2 gb
   |num _=>exact gb
   |gap _=>exact gb
 |say a =>
  cases h with
  |cons d h =>
   cases h;obtain⟨b1,b2,b3⟩:=d;refine⟨?_,b2,?_⟩
   ·show Dt.tup [.str "say", _]=Dt.tup [.str "say", _]
    rw[b1]
   ·show _+1<=_+1
    exact Nat.succ_le_succ b3
 |bin o a b =>
  cases h with
  |cons d h =>
   cases h with
   |cons d' h =>
    cases h;obtain⟨b1,b2,b3⟩:=d;obtain⟨c1,c2,c3⟩:=d';refine⟨?_,⟨b2,c2⟩,?_⟩
    ·show Dt.tup [.str o.s,_,_]=Dt.tup [.str o.s,_,_]
     rw[b1,c1]
    ·show max _ _+1<=max _ _+1
     dsimp only at b3 c3;omega
 |ite a b c =>
  cases h with
  |cons d h =>
   cases h with
   |cons d' h =>
    cases h with
    |cons d'' h =>
     cases h;obtain⟨b1,b2,b3⟩:=d;obtain⟨c1,c2,c3⟩:=d';obtain⟨e1,e2,e3⟩:=d'';refine⟨?_,⟨b2,c2,e2⟩,?_⟩
     ·show Dt.tup [.str "if", _,_,_]=Dt.tup [.str "if", _,_,_]
      rw[b1,c1,e1]
     ·show max _ (max _ _)+1<=max _ (max _ _)+1
      dsimp only at b3 c3 e3;omega
 |lett n a b =>
  cases h with
  |cons d h =>
   cases h with
   |cons d' h =>
    cases h;obtain⟨b1,b2,b3⟩:=d;obtain⟨c1,c2,c3⟩:=d';refine⟨?_,⟨hm n a b rfl,b2,c2⟩,?_⟩
    ·show Dt.tup [.str "let", _,_]=Dt.tup [.str "let", _,_]
     rw[b1,c1]
    ·show max _ _+1<=max _ _+1
     dsimp only at b3 c3;omega
noncomputable def growL:List Tr->List Tr->List Tr
 |[],_=>[]
 |h::hs,R=>h.withP (R.take h.parts.length)::growL hs (R.drop h.parts.length)
noncomputable def zAj (hs:List Tr):Nat:=(hs.map λ h=>h.parts.length).sum
theorem zEv:∀(hs R:List Tr),(growL hs R).length=hs.length
 |[],_=>rfl
 |h::hs,R=>by simp[growL,zEv hs]
theorem zD4:∀(hs:List Tr) {R:List Tr}{h:Tr}{rs:List Tr},R.length=zAj hs->rs.length=h.parts.length->growL (hs++[h]) (R++rs)=growL hs R++[h.withP rs]
 |[],R,h,rs,e,e'=>by
  have:R=[]:=nL.mp (by simpa[zAj] using e);subst this;simp[growL,←e']
 |a::hs,R,h,rs,e,e'=>by
  have e1:R.length=a.parts.length+zAj hs:=by simpa[zAj] using e
  show _::growL (hs++[h]) _=_;rw[List.take_append_of_le_length (by omega),List.drop_append_of_le_length (by omega),zD4 hs (by rw[mW];omega) e'];rfl
noncomputable def zF2:List (List Tr)->List Tr->List Tr
 |[],R=>R
 |hs::Lr,R=>zF2 Lr (growL hs R)
def Fit:List (List Tr)->Nat->Prop
 |[],n=>n=1
 |hs::Lr,n=>zAj hs=n/\Fit Lr hs.length
theorem zEu (q:Itm) (m:Str):(headI q m).parts.length=(kidsI q m).length:=by
 obtain⟨t,τ,bs,cs⟩:=q;cases t with
 |name x=>show ((tOf τ x).tr).parts.length=0;cases tOf τ x<;>rfl
 |_=>first|rfl|simp[headI,kidsI,headT,Tr.parts]
noncomputable def tot (l:List Itm):Nat:=(l.map λ q=>q.t.size).sum
theorem zKF (q:Itm) (m:Str):tot (kidsI q m)+1=q.t.size:=by
 obtain⟨t,τ,bs,cs⟩:=q;cases t<;>simp[kidsI,tot,Tr.size,Tr.parts]<;>omega
theorem zDn (a b:List Itm):tot (a++b)=tot a+tot b:=by simp[tot]
theorem zFg (a:Itm) (b:List Itm):tot (a::b)=a.t.size+tot b:=by simp[tot]
theorem zHY:∀l:List Itm,l.length<=tot l
 |[]=>lQ _
 |a::r=>by rw[zFg,mM];have:=zHY r;have:=zCK a.t;omega
noncomputable def Tr.kid (t:Tr) (i:Int):Option Tr:=if 0<=i then t.parts[i.toNat]? else none
noncomputable def Tr.at_:Tr->List Int->Option Tr
 |t,[]=>some t
 |t,i::is=>(t.kid i).bind λ u=>u.at_ is
noncomputable def chain:Tr->List Int->Option (List Tr)
 |t,[]=>some [t]
 |t,i::is=>(t.kid i).bind λ u=>(chain u is).map λ l=>t::l
noncomputable def putT:Tr->List Int->Tr->Tr
 |_,[],u=>u
 |t,i::is,u=>match t.kid i with
  |some k=>t.withP (t.parts.set i.toNat (putT k is u))
  |none=>t
theorem zMZ (t:Tr) (p q:List Int):t.at_ (p++q)=(t.at_ p).bind λ u=>u.at_ q:=by
 induction p generalizing t with
 |nil=>rfl
 |cons i p ih =>
  show (t.kid i).bind _=((t.kid i).bind _).bind _;cases t.kid i with
  |none=>rfl
  |some u=>exact ih u
theorem zDi:∀{ns:List Int}{t:Tr}{ts:List Tr},chain t ns=some ts->ts.length=ns.length+1
 |[],t,ts,h=>by cases h;rfl
 |i::is,t,ts,h=>by
  obtain⟨u,hu,h⟩:=mS.mp (show (t.kid i).bind _=some ts from h);obtain⟨l,hl,rfl⟩:=lV.mp h;have:=zDi hl;simp[this]
theorem zGB:∀{ns:List Int}{t:Tr}{ts:List Tr},chain t ns=some ts->∀(j:Nat) u,ts[j]?=some u->t.at_ (ns.take j)=some u
 |[],t,ts,h,j,u,e=>by
  cases h;cases j with
  |zero=>simpa[Tr.at_] using e
  |succ j=>simp at e
 |i::is,t,ts,h,j,u,e=>by
  obtain⟨k,hk,h⟩:=mS.mp (show (t.kid i).bind _=some ts from h);obtain⟨l,hl,rfl⟩:=lV.mp h;cases j with
  |zero=>simpa[Tr.at_] using e
  |succ j =>
   have:=zGB hl j u (by simpa using e);show (t.kid i).bind _=_;rw[hk];exact this
theorem zD6 {ns:List Int}{t:Tr}{ts:List Tr}(h:chain t ns=some ts):∃ts' u,ts=ts'++[u]/\t.at_ ns=some u:=by
 have hl:=zDi h;have:ts≠[]:=by intro z;rw[z] at hl;simp at hl
 obtain⟨ts',u,rfl⟩:∃ts' u,ts=ts'++[u]:=⟨ts.dropLast,ts.getLast this,(List.dropLast_concat_getLast this).symm⟩;refine⟨ts',u,rfl,?_⟩;have hl':ts'.length=ns.length:=by simpa using hl
 have:=zGB h ns.length u (by rw[←hl'];simp)
 rwa [mP] at this
theorem zC7 {t:Tr}:∀{ns:List Int},chain t ns=none↔t.at_ ns=none:=by
 intro ns
 induction ns generalizing t with
 |nil=>simp[chain,Tr.at_]
 |cons i is ih =>
  show (t.kid i).bind _=none↔(t.kid i).bind _=none;cases t.kid i with
  |none=>simp
  |some u=>simp[ih]
theorem zFX:∀{ns:List Int}{t:Tr}{ts:List Tr}{u k:Tr}{i:Int},chain t ns=some ts->t.at_ ns=some u->u.kid i=some k->chain t (ns++[i])=some (ts++[k])
 |[],t,ts,u,k,i,h,hu,hk=>by
  cases h;cases hu;show (t.kid i).bind _=_;rw[hk];rfl
 |j::is,t,ts,u,k,i,h,hu,hk=>by
  obtain⟨v,hv,h⟩:=mS.mp (show (t.kid j).bind _=some ts from h);obtain⟨l,hl,rfl⟩:=lV.mp h
  have hu':v.at_ is=some u:=by
   have:(t.kid j).bind (λ u=>u.at_ is)=some u:=hu;rw[hv] at this;exact this
  show (t.kid j).bind _=_;rw[hv];show (chain v (is++[i])).map _=_;rw[zFX hl hu' hk];rfl
theorem zGp:∀{ns:List Int}{t:Tr}{ts:List Tr},chain t ns=some ts->∀(j:Nat) (i:Int),ns[j]?=some i->∃u k,ts[j]?=some u/\ts[j+1]?=some k/\u.kid i=some k
 |[],t,ts,h,j,i,e=>by simp at e
 |i0::is,t,ts,h,j,i,e=>by
  obtain⟨v,hv,h⟩:=mS.mp (show (t.kid i0).bind _=some ts from h);obtain⟨l,hl,rfl⟩:=lV.mp h;cases j with
  |zero =>
   have e':i0=i:=by simpa using e
   subst e';refine⟨t,v,rfl,?_,hv⟩;cases is with
   |nil=>cases hl;rfl
   |cons a b =>
    obtain⟨w,_,h⟩:=mS.mp (show (v.kid a).bind _=some l from hl);obtain⟨l',_,rfl⟩:=lV.mp h;rfl
  |succ j=>exact zGp hl j i (by simpa using e)
set_option tactic.hygienic true in
theorem zGh {t k:Tr}{i:Int}(h:t.kid i=some k):0<=i/\i<t.parts.length/\t.parts[i.toNat]?=some k:=by
 unfold Tr.kid at h;split at h
 ·rename_i h0
  have:=(lJ.mp h).1;exact⟨h0,by omega,h⟩
 ·cases h
theorem zMO {t:Tr}{i:Int}(h:¬(0<=i/\i<t.parts.length)):t.kid i=none:=by
 unfold Tr.kid;split
 ·exact List.getElem?_eq_none (by omega)
 ·rfl
theorem zNB {t:Tr}{i:Int}(h0:0<=i) (h1:i<t.parts.length):∃k,t.kid i=some k/\t.parts[i.toNat]?=some k:=by
 have hl:i.toNat<t.parts.length:=by omega
 exact⟨t.parts[i.toNat],by unfold Tr.kid;rw[if_pos h0];exact lX hl,lX hl⟩
theorem Rep.build {H:Hp}{t:Tr}{v:V}{ps:List Tr}(h:Rep H t v) (hl:ps.length=t.parts.length):∃a hs us,v = .ref a/\H a=some (.tup (.str t.sign::hs++us))/\hs.length+1=t.head/\us.length=t.parts.length /\
  ∀{H':Hp}{p:Addr}{ws:List V},Tk H H'->H' p=some (.tup (.str t.sign::hs++ws))->Paired (Rep H') ps ws->Rep H' (t.withP ps) (.ref p):=by
 cases t with
 |num n=>obtain⟨a,e,ha⟩:=h;exact⟨a,[.int n],[],e,ha,rfl,rfl,λ k e p=>by cases ps with|nil=>cases p;exact⟨_,rfl,e⟩|cons _ _=>cases hl⟩
 |name x=>obtain⟨a,e,ha⟩:=h;exact⟨a,[.str x],[],e,ha,rfl,rfl,λ k e p=>by cases ps with|nil=>cases p;exact⟨_,rfl,e⟩|cons _ _=>cases hl⟩
 |ask x=>obtain⟨a,e,ha⟩:=h;exact⟨a,[.str x],[],e,ha,rfl,rfl,λ k e p=>by cases ps with|nil=>cases p;exact⟨_,rfl,e⟩|cons _ _=>cases hl⟩
 |stop x=>obtain⟨a,e,ha⟩:=h;exact⟨a,[.str x],[],e,ha,rfl,rfl,λ k e p=>by cases ps with|nil=>cases p;exact⟨_,rfl,e⟩|cons _ _=>cases hl⟩
 |gap g as =>
  obtain⟨a,b,us,e,ha,hb,n,q⟩:=h;exact⟨a,[.str g,.ref b],[],e,ha,rfl,rfl,λ k e p=>by cases ps with|nil=>cases p;exact⟨_,b,us,rfl,e,k _ _ hb,n,Paired.mapP q λ Ω Ω z=>z.mono k⟩|cons _ _=>cases hl⟩
 |say s =>
  obtain⟨a,u,e,ha,r⟩:=h
  exact⟨a,[],[u],e,ha,rfl,rfl,λ k e p=>by
   match ps,hl with
   |[c],_ =>
    cases p with|cons r1 p=>cases p;exact⟨_,_,rfl,e,r1⟩⟩
 |bin o s t =>
  obtain⟨a,u,w,e,ha,r,r'⟩:=h
  exact⟨a,[],[u,w],e,(by show _=some (HO.tup [V.str o.kd.s,u,w]);rw[Bin.kd_s];exact ha),rfl,rfl,λ{H' p ws} k e q=>by
   match ps,hl with
   |[c,d],_ =>
    cases q with|cons r1 q=>cases q with|cons r2 q =>
     cases q;have e':H' p=some (.tup [.str o.kd.s,_,_]):=e;rw[Bin.kd_s] at e';exact⟨_,_,_,rfl,e',r1,r2⟩⟩
 |ite r s t =>
  obtain⟨a,u,w,z,e,ha,_,_,_⟩:=h
  exact⟨a,[],[u,w,z],e,ha,rfl,rfl,λ k e q=>by
   match ps,hl with
   |[c,d,f],_ =>
    cases q with|cons r1 q=>cases q with|cons r2 q=>cases q with|cons r3 q =>
     cases q;exact⟨_,_,_,_,rfl,e,r1,r2,r3⟩⟩
 |lett x s t =>
  obtain⟨a,u,w,e,ha,_,_⟩:=h
  exact⟨a,[.str x],[u,w],e,ha,rfl,rfl,λ k e q=>by
   match ps,hl with
   |[c,d],_ =>
    cases q with|cons r1 q=>cases q with|cons r2 q =>
     cases q;exact⟨_,_,_,rfl,e,r1,r2⟩⟩
theorem zFN {α:Type}{F:α->V->Prop}{x:α}{u:V}(r:F x u):∀{as:List α}{us:List V}(i:Nat),Paired F as us->Paired F (as.set i x) (us.set i u)
 |_,_,_,.nil=>.nil
 |_,_,0,.cons _ t=>.cons r t
 |_,_,i+1,.cons q t=>.cons q (zFN r i t)
theorem zCV {α:Type}{F:α->V->Prop}:∀{as:List α}{a:α}{us:List V},Paired F (as++[a]) us->∃us' u,us=us'++[u]/\Paired F as us'/\F a u
 |[],_,_,.cons r .nil=>⟨[],_,rfl,.nil,r⟩
 |_::as,_,_,.cons r t=>by
  obtain⟨us',u,rfl,h1,h2⟩:=zCV t;exact⟨_::us',u,rfl,.cons r h1,h2⟩
noncomputable def agap:Atom->List Str
 |.gap h=>[h]
 |_=>[]
noncomputable def cnt1:Tr->List (Str × Nat)
 |.gap g as=>(g,as.length)::as.flatMap λ a=>(agap a).map λ h=>(h,0)
 |_=>[]
theorem zL6 {t:Tr}(h:¬t.kd = .gap):cnt1 t=[]:=by
 cases t with
 |gap x as=>exact absurd rfl h
 |_=>rfl
noncomputable def gcnt (t:Tr):List (Str × Nat):=t.subs.flatMap cnt1
noncomputable def isGap (t:Tr):Bool:=decide (t.kd = .gap)
theorem zKS (t:Tr):(t.subs.filter isGap).flatMap cnt1=gcnt t:=by
 unfold gcnt
 induction t.subs with
 |nil=>rfl
 |cons a L ih =>
  by_cases h:a.kd = .gap
  ·rw[List.filter_cons_of_pos (by exact decide_eq_true h),rG,rG,ih]
  ·rw[List.filter_cons_of_neg (by exact λ z=>h (of_decide_eq_true z)),rG,zL6 h,ih,nV]
noncomputable def zBO (L:List (Str × Nat)) (g:Str):Option Nat:=(L.find? λ x=>decide (x.1=g)).map (·.2)
theorem zFT (L M:List (Str × Nat)) (g:Str):zBO (L++M) g=(zBO L g).or (zBO M g):=by
 unfold zBO;rw[List.find?_append];cases L.find? λ x=>decide (x.1=g)<;>rfl
structure Fd1 (L:List (Str × Nat)) (kvs:List (Key × V)):Prop where
 vl:∀g,valV kvs (Sum.inr g:Key)=(zBO L g).map λ n=>V.int ((n:Nat):Int)
 ky:∀p∈kvs,∃g∈L.map (·.1),p.1=(Sum.inr g:Key)
 nd:(kvs.map (·.1)).Nodup
theorem zEt {kvs:List (Key × V)}{k:Key}{v:V}{p:Key × V}(h:p∈putK kvs k v):p=(k,v)\/p∈kvs:=by
 unfold putK at h;split at h
 ·obtain⟨q,hq,e⟩:=mD.mp h
  by_cases z:q.1=k
  ·rw[if_pos z,z] at e
   exact .inl e.symm
  ·rw[if_neg z] at e
   exact .inr (e▸hq)
 ·rcases lK.mp h with h|h
  ·exact .inr h
  ·exact .inl (mR.mp h)
set_option tactic.hygienic true in
theorem zMM {kvs:List (Key × V)}(k:Key) (v:V) (nd:(kvs.map (·.1)).Nodup):((putK kvs k v).map (·.1)).Nodup:=by
 unfold putK;split
 ·have e:(kvs.map λ kv=>if kv.1=k then (kv.1,v) else kv).map (·.1)=kvs.map (·.1):=by
   rw[nT];refine List.map_congr_left λ q Ω=>?_;show (if q.1=k then (q.1,v) else q).1=q.1;split<;>rfl
  rw[e];exact nd
 ·rename_i h
  rw[mQ,List.nodup_append];refine⟨nd,by simp,λ a ha b hb e=>h ?_⟩;obtain⟨q,hq,rfl⟩:=mD.mp ha;simp at hb;rw[List.any_eq_true];exact⟨q,hq,lU (e.trans hb)⟩
theorem Fd1.nil:Fd1 [] []:=⟨λ g=>rfl,(λ p h=>nomatch h),List.nodup_nil⟩
theorem Fd1.put {L:List (Str × Nat)}{kvs:List (Key × V)}(h:Fd1 L kvs) {x:Str}{n:Nat}(e:valV kvs (Sum.inr x:Key)=none):Fd1 (L++[(x,n)]) (putK kvs (Sum.inr x:Key) (.int ((n:Nat):Int))):=by
 have e0:zBO L x=none:=by
  have:=h.vl x;rw[e] at this;cases h2:zBO L x with
  |none=>rfl
  |some m=>rw[h2] at this;cases this
 refine⟨λ g=>?_,λ p hp=>?_,zMM _ _ h.nd⟩
 ·rw[zDO,zFT]
  by_cases z:g=x
  ·subst z
   rw[if_pos rfl,e0];simp[zBO]
  ·have z':¬(Sum.inr g:Key)=Sum.inr x:=λ w=>z (Sum.inr.inj w)
   rw[if_neg z',h.vl g];have:zBO [(x,n)] g=none:=by simp[zBO];exact λ w=>z (Eq.symm w)
   rw[this];cases zBO L g<;>rfl
 ·rcases zEt hp with z|z
  ·exact⟨x,by simp,by rw[z]⟩
  ·obtain⟨g,hg,e⟩:=h.ky p z
   exact⟨g,by rw[mQ];exact mG _ hg,e⟩
theorem Fd1.same {L:List (Str × Nat)}{kvs:List (Key × V)}(h:Fd1 L kvs) {x:Str}{n:Nat}{z:V}(e:valV kvs (Sum.inr x:Key)=some z):Fd1 (L++[(x,n)]) kvs:=by
 obtain⟨m,e0⟩:∃m,zBO L x=some m:=by
  have:=h.vl x;rw[e] at this;cases h2:zBO L x with
  |none=>rw[h2] at this;cases this
  |some m=>exact⟨m,rfl⟩
 refine⟨λ g=>?_,λ p hp=>?_,h.nd⟩
 ·rw[h.vl g,zFT]
  by_cases z:g=x
  ·subst z
   rw[e0];rfl
  ·have:zBO [(x,n)] g=none:=by simp[zBO];exact λ w=>z (Eq.symm w)
   rw[this];cases zBO L g<;>rfl
 ·obtain⟨g,hg,e⟩:=h.ky p hp
  exact⟨g,by rw[mQ];exact mG _ hg,e⟩
def WN (H:Hp) (x:Str × Nat) (v:V):Prop:=∃b,v = .ref b/\H b=some (.tup [.str x.1,.int ((x.2:Nat):Int)])
theorem WN.mono {H H':Hp}(k:Tk H H') {x:Str × Nat}{v:V}:WN H x v->WN H' x v
 |⟨b,e,h⟩=>⟨b,e,k _ _ h⟩
theorem AtRep.all {H:Hp}:∀{a:Atom}{v:V},AtRep H a v->∃(b:Addr) (r:List V),v = .ref b/\((∃h,a = .gap h/\H b=some (.tup (.str "gap" :: .str h::r)))\/(agap a=[]/\∃k:Str,k ≠ "gap" /\ H b=some (.tup (.str k::r))))
 |.name x,_,⟨b,e,h⟩=>⟨b,_,e,.inr ⟨rfl, "name", by left,h⟩⟩
 |.num x,_,⟨b,e,h⟩=>⟨b,_,e,.inr ⟨rfl, "num", by left,h⟩⟩
 |.gap x,_,⟨b,c,e,h,_⟩=>⟨b,_,e,.inl ⟨x,rfl,h⟩⟩
def zD8 (H:Hp) (p:Tr × List Str) (v:V):Prop:=∃a u b,v = .ref a/\H a=some (.tup [u,.ref b])/\Rep H p.1 u/\H b=some (.tup (p.2.map V.str))
theorem zD8.mono {H H':Hp}(k:Tk H H') {p:Tr × List Str}{v:V}:zD8 H p v->zD8 H' p v
 |⟨a,u,b,e,h,r,z⟩=>⟨a,u,b,e,k _ _ h,r.mono k,k _ _ z⟩
theorem zC5 (x:Str) (bs:List Str):inV (.str x) (bs.map V.str)=decide (x∈bs):=by
 unfold inV;rw[Bool.eq_iff_iff,List.any_eq_true,decide_eq_true_iff];constructor
 ·rintro⟨v,hv,h⟩
  obtain⟨y,hy,rfl⟩:=mD.mp hv;rw[zKY] at h;exact h▸hy
 ·intro h
  exact⟨_,mD.mpr ⟨x,h,rfl⟩,(zKY _ _).mpr rfl⟩
theorem zF5 (bs:List Str):(bs.map V.str).all flatV=true:=zKU bs
theorem zIP (l:List (Tr × List Str)):total (l.flatMap λ q=>kids q.1 q.2)+l.length=total l:=by
 induction l with
 |nil=>rfl
 |cons a r ih =>
  rw[rG,zCc,zDm,mM];have:=zFR a.1 a.2;omega
theorem zIk (l:List (Tr × List Str)) (i:Nat):total (l.take i)<=total l:=by
 have:=congrArg total (List.take_append_drop i l);rw[zCc] at this;omega
noncomputable def abcS:Str := "abcdefghijklmnopqrstuvwxyz"
theorem zKu:abcS.length=26:=by left
theorem zOF:∀i<26,abcS.cps.toList[i]?=some (97+i):=by left
noncomputable def keptS:List Str:=["let", "in", "if", "then", "else", "say", "ask", "stop", "where", "quiet", "number"]
noncomputable def keptV:List V:=keptS.map V.str
def KeptW (K:W.Frag) (kv:Addr):Prop:=∃(o:Obj) (its:Array Value) (n:Nat),K.lookup kv=some o/\o.cls = .type "tuple" /\ o.data = .seq its n/\its.size<=sizeLine/\Vals keptV its.toList
structure GW (x:Str):Prop where
 lo:1<=x.length
 hi:x.length<=8
 kp:x∉keptS
 ab:∀c∈x.cps.toList,97<=c/\c<=122
noncomputable def wrdN (n:Nat):Str:=if n<26 then ⟨#[97+n]⟩ else ⟨#[96+n / 26,97+n % 26]⟩
theorem zHl (n:Nat):1<=(wrdN n).length/\(wrdN n).length<=8:=by
 unfold wrdN;split<;>simp[Str.length]
theorem zK2 {n:Nat}(h:n<702):∀c∈(wrdN n).cps.toList,97<=c/\c<=122:=by
 unfold wrdN;split
 ·simp;omega
 ·intro c hc
  simp at hc;omega
theorem zK1 {n m:Nat}(hn:n<702) (hm:m<702) (h:wrdN n=wrdN m):n=m:=by
 unfold wrdN at h;split at h<;>split at h
 ·have:=congrArg (λ s:Str=>s.cps.toList) h
  simp at this;exact this
 ·have:=congrArg (λ s:Str=>s.cps.toList) h
  simp at this
 ·have:=congrArg (λ s:Str=>s.cps.toList) h
  simp at this
 ·have:=congrArg (λ s:Str=>s.cps.toList) h
  simp at this;omega
theorem zK0 {ks:List Str}{n:Nat}(h:∀j<n,wrdN j∈ks\/wrdN j∈keptS) (hn:n<=702):n<=ks.length+11:=by
 have nd:((List.range n).map wrdN).Nodup:=by
  refine List.pairwise_map.mpr (List.Pairwise.imp_of_mem (λ{a b} ha hb ne e=>?_) (List.nodup_range (n:=n)));have:=List.mem_range.mp ha;have:=List.mem_range.mp hb;exact ne (zK1 (by omega) (by omega) e)
 have:=zBD (ws:=ks++keptS) nd λ x hx=>by
  obtain⟨j,hj,rfl⟩:=mD.mp hx;exact lK.mpr (h j (List.mem_range.mp hj))
 simpa[keptS] using this
theorem zK4 (ks:List Str) (x:Str):(valV (kvOf ks) (Sum.inr x:Key)).isSome=decide (x∈ks):=by
 have e:∀l:List Str,valV (kvOf l) (Sum.inr x:Key)=if x∈l then some (.bl true) else none:=by
  intro l
  induction l with
  |nil=>rfl
  |cons a l ih =>
   unfold valV kvOf at ih ⊢;rw[mL,List.find?_cons]
   by_cases h:a=x
   ·subst h;simp
   ·have h':¬((Sum.inr a:Key)=Sum.inr x):=λ z=>h (Sum.inr.inj z)
    have h2:¬x=a:=λ z=>h z.symm;simp only[h',decide_false,nN,h2,false_or];exact ih
 rw[e]
 by_cases h:x∈ks<;>simp[h]
def RelA (H:Hp):Option Atom->Option V->Prop
 |some a,some v=>AtRep H a v
 |none,none=>True
 |_,_=>False
structure Lv (H:Hp) (τ:Told) (kvs:List (Key × V)):Prop where
 ks:∀p∈kvs,∃x a,p.1=(Sum.inr x:Key)/\AtRep H a p.2
 vl:∀x,RelA H (τ x) (valV kvs (Sum.inr x:Key))
theorem RelA.mono {H H':Hp}(k:Tk H H') {o:Option Atom}{v:Option V}(h:RelA H o v):RelA H' o v:=by
 cases o<;>cases v<;>first|exact h|exact AtRep.mono k h
theorem Lv.mono {H H':Hp}(k:Tk H H') {τ:Told}{kvs:List (Key × V)}(h:Lv H τ kvs):Lv H' τ kvs :=
 ⟨λ p hp=>let ⟨x,a,e,r⟩:=h.ks p hp;⟨x,a,e,r.mono k⟩,λ x=>(h.vl x).mono k⟩
theorem Lv.some {H:Hp}{τ:Told}{kvs:List (Key × V)}(h:Lv H τ kvs) {x:Str}{a:Atom}(e:τ x=some a):∃v,valV kvs (Sum.inr x:Key) = .some v/\AtRep H a v:=by
 have:=h.vl x;rw[e] at this;cases hv:valV kvs (Sum.inr x:Key) with
 |none=>rw[hv] at this;exact this.elim
 |some v=>rw[hv] at this;exact⟨v,rfl,this⟩
theorem Lv.get {H:Hp}{τ:Told}{kvs:List (Key × V)}(h:Lv H τ kvs) {x:Str}{v:V}(e:valV kvs (Sum.inr x:Key) = .some v):∃a,τ x = .some a/\AtRep H a v:=by
 have:=h.vl x;rw[e] at this;cases ht:τ x with
 |none=>rw[ht] at this;exact this.elim
 |some a=>rw[ht] at this;exact⟨a,rfl,this⟩
theorem Lv.none_ {H:Hp}{τ:Told}{kvs:List (Key × V)}(h:Lv H τ kvs) {x:Str}(e:valV kvs (Sum.inr x:Key) = .none):τ x = .none:=by
 have:=h.vl x;rw[e] at this;cases ht:τ x with
 |none=>rfl
 |some a=>rw[ht] at this;exact this.elim
theorem zFf {kvs:List (Key × V)}{k:Key}{v:V}(e:valV kvs k=some v):∃p∈kvs,p.1=k/\p.2=v:=by
 obtain⟨p,hp,ep⟩:=lV.mp (show (kvs.find? λ kv=>decide (kv.1=k)).map (·.2)=some v from e);have h1:=List.find?_some hp;exact⟨p,List.mem_of_find?_eq_some hp,by simpa using h1,ep⟩
theorem zM4 {kvs:List (Key × V)}{p:Key × V}(h:p∈kvs):∃v,valV kvs p.1=some v:=by
 cases e:valV kvs p.1 with
 |some v=>exact⟨v,rfl⟩
 |none =>
  have:(kvs.find? λ kv=>decide (kv.1=p.1))=none:=by
   cases h':kvs.find? λ kv=>decide (kv.1=p.1) with
   |none=>rfl
   |some q =>
    have:valV kvs p.1=some q.2:=by
     show (kvs.find? λ kv=>decide (kv.1=p.1)).map (·.2)=_;rw[h'];rfl
    rw[this] at e;cases e
  exact absurd (lU rfl) (List.find?_eq_none.mp this p h)
theorem zLj (kvs:List (Key × V)) (k:Key) (v:V):(putK kvs k v).length<=kvs.length+1:=by
 unfold putK;split<;>simp
theorem Lv.put {H:Hp}{τ:Told}{kvs:List (Key × V)}(h:Lv H τ kvs) {n:Str}{a:Atom}{v:V}(r:AtRep H a v):Lv H (setT τ n a) (putK kvs (Sum.inr n:Key) v):=by
 refine⟨λ p hp=>?_,λ x=>?_⟩
 ·rcases zEt hp with e|e
  ·exact⟨n,a,by rw[e],by rw[e];exact r⟩
  ·exact h.ks p e
 ·rw[zDO]
  unfold setT
  by_cases e:x=n
  ·subst e
   rw[if_pos rfl,if_pos rfl];exact r
  ·rw[if_neg e,if_neg (λ z=>e (Sum.inr.inj z))]
   exact h.vl x
noncomputable def wr1:Tr->List Str
 |.lett x _ _=>[x]
 |t=>t.names
theorem zJG {t:Tr}(h:¬t.kd = .lett):wr1 t=t.names:=by
 cases t with
 |lett x a b=>exact absurd rfl h
 |_=>rfl
theorem zBB:∀(t:Tr) (x:Str),x∈t.wrds↔∃p∈t.subs,x∈wr1 p
 |.say a,x=>by
  have:=zBB a x;simp[Tr.wrds,Tr.subs,wr1,Tr.names,this]
 |.bin o a b,x=>by
  have h1:=zBB a x;have h2:=zBB b x;simp only[Tr.wrds,Tr.subs,nM,nN,h1,h2];constructor
  ·rintro (⟨p,hp,h⟩|⟨p,hp,h⟩)
   ·exact⟨p,.inr (.inl hp),h⟩
   ·exact⟨p,.inr (.inr hp),h⟩
  ·rintro⟨p,rfl|hp|hp,h⟩
   ·simp[wr1,Tr.names] at h
   ·exact .inl ⟨p,hp,h⟩
   ·exact .inr ⟨p,hp,h⟩
 |.ite a b c,x=>by
  have h1:=zBB a x;have h2:=zBB b x;have h3:=zBB c x;simp only[Tr.wrds,Tr.subs,nM,nN,h1,h2,h3];constructor
  ·rintro (⟨p,hp,h⟩|⟨p,hp,h⟩|⟨p,hp,h⟩)
   ·exact⟨p,.inr (.inl hp),h⟩
   ·exact⟨p,.inr (.inr (.inl hp)),h⟩
   ·exact⟨p,.inr (.inr (.inr hp)),h⟩
  ·rintro⟨p,rfl|hp|hp|hp,h⟩
   ·simp[wr1,Tr.names] at h
   ·exact .inl ⟨p,hp,h⟩
   ·exact .inr (.inl ⟨p,hp,h⟩)
   ·exact .inr (.inr ⟨p,hp,h⟩)
 |.lett n a b,x=>by
  have h1:=zBB a x;have h2:=zBB b x;simp only[Tr.wrds,Tr.subs,nM,nN,h1,h2];constructor
  ·rintro (h|⟨p,hp,h⟩|⟨p,hp,h⟩)
   ·exact⟨_,.inl rfl,by simp[wr1,h]⟩
   ·exact⟨p,.inr (.inl hp),h⟩
   ·exact⟨p,.inr (.inr hp),h⟩
  ·rintro⟨p,rfl|hp|hp,h⟩
   ·exact .inl (by simpa[wr1] using h)
   ·exact .inr (.inl ⟨p,hp,h⟩)
   ·exact .inr (.inr ⟨p,hp,h⟩)
 |.num _,x=>by simp[Tr.wrds,Tr.subs,wr1]
 |.name _,x=>by simp[Tr.wrds,Tr.subs,wr1]
 |.ask _,x=>by simp[Tr.wrds,Tr.subs,wr1]
 |.stop _,x=>by simp[Tr.wrds,Tr.subs,wr1]
 |.gap _ _,x=>by simp[Tr.wrds,Tr.subs,wr1]
instance instDecAtom:DecidableEq Atom
 |.name x,.name y=>if h:x=y then isTrue (by rw[h]) else isFalse λ e=>h (by injection e)
 |.num x,.num y=>if h:x=y then isTrue (by rw[h]) else isFalse λ e=>h (by injection e)
 |.gap x,.gap y=>if h:x=y then isTrue (by rw[h]) else isFalse λ e=>h (by injection e)
 |.name _,.num _=>isFalse nofun
 |.name _,.gap _=>isFalse nofun
 |.num _,.name _=>isFalse nofun
 |.num _,.gap _=>isFalse nofun
 |.gap _,.name _=>isFalse nofun
 |.gap _,.num _=>isFalse nofun
def Sx (d:Addr) (H H':Hp):Prop:=∀b u,b≠d->H b=some u->H' b=some u
theorem Sx.tk {d:Addr}{H H':Hp}(g:Sx d H H') (hd:∀xs,H d≠some (.tup xs)):Tk H H':=λ b xs e=>g b _ (λ z=>hd xs (z▸e)) e
theorem Sx.same {d:Addr}{H H1 H':Hp}(g:Sx d H H1) (k:Same H1 H'):Sx d H H':=λ b u n e=>k b u (g b u n e)
theorem Sx.set {d p:Addr}{H H':Hp}{o:HO}(g:Sx d H H') (h:H p=none):Sx d H (upd H' p o):=λ b u n e=>by rw[zAK (zAJ e h)];exact g b u n e
theorem Sx.back {d:Addr}{H H':Hp}{o:HO}(g:Sx d H H') (h:H d=some o):Same H (upd H' d o):=λ b u e=>by
 by_cases z:b=d
 ·subst z;rw[zAB,←h];exact e
 ·rw[zAK z];exact g b u z e
theorem viaS {G:Prop}{E:L2.St->Hp->Prop}(A:L2.St->Hp->Prop) (h:(∀σ H2,A σ H2->E σ H2)->G) (r:∀σ H2,A σ H2->E σ H2):G:=h r
theorem zM7 {a:Atom}{n:Str}:Dt.beqs (dtL a.lf) [.str "name", .str n]=decide (a = .name n):=by
 rw[Bool.eq_iff_iff,Dt.beqs_iff,decide_eq_true_iff];cases a with
 |name x=>simp[Atom.lf,dtL]
 |num x=>simp[Atom.lf,dtL]
 |gap x=>simp[Atom.lf,dtL]
theorem zM8 (a:Atom):(Dt.tup (dtL a.lf)).deep<=150:=by cases a<;>simp[Atom.lf,dtL,Dt.deep,Dt.deeps]
theorem zD0 (a b:List Tr):zAj (a++b)=zAj a+zAj b:=by simp[zAj]
theorem zFO (h:Tr):zAj [h]=h.parts.length:=by simp[zAj]
theorem zEc (hs:List Tr) (i:Nat):zAj (hs.take i)<=zAj hs:=by
 have e:zAj hs=zAj (hs.take i)+zAj (hs.drop i):=by rw[←zD0,List.take_append_drop]
 omega
theorem zDz {α:Type}{F:α->V->Prop}:∀{as:List α}{us:List V}(i n:Nat),Paired F as us->Paired F ((as.drop i).take n) ((us.drop i).take n)
 |_,_,i,n,.nil=>by simp;exact .nil
 |_,_,0,0,.cons r t=>by simp;exact .nil
 |_,_,0,n+1,.cons r t=>by simpa using Paired.cons r (by simpa using zDz 0 n t)
 |_,_,i+1,n,.cons r t=>by simpa using zDz i n t
def zOH (H:Hp) (hs:List Tr) (v:V):Prop:=∃l us,v = .ref l/\H l=some (.lst us)/\Paired (Rep H) hs us
theorem zE7 {α:Type}{F:α->V->Prop}{L:List α}{us:List V}(h:Paired F L.reverse us) {i:Nat}{x:V}(hi:i<us.length) (e:us[us.length - 1 - i]?=some x):∃a,L[i]?=some a/\F a x:=by
 obtain⟨a,ea,r⟩:=zAW h e;have hl:us.length=L.length:=by rw[zAH h,List.length_reverse]
 rw[List.getElem?_reverse (by omega)] at ea;refine⟨a,?_,r⟩;rw[←ea];congr 1;omega
structure DnW (Gp:Str->Prop) (L:Told) (q:Itm) (r:Tr):Prop where
 dn:Done GW L q r
 wr:∀x∈r.wrds,Gp x
structure GdW (Gp:Str->Prop) (q:Itm):Prop where
 gd:GdI GW q
 ws:∀x∈q.t.wrds,Gp x
 ts:∀z y,q.τ z=some (.name y)->Gp y
theorem All2.mapF {α β:Type}{F G:α->β->Prop}(f:∀a b,F a b->G a b):∀{as:List α}{bs:List β},All2 F as bs->All2 G as bs
 |_,_,.nil=>.nil
 |_,_,.cons r t=>.cons (f _ _ r) (t.mapF f)
theorem zHo {Gp:Str->Prop}{τ:Told}{y x:Str}(h:∀z y,τ z=some (.name y)->Gp y) (hy:Gp y) (hx:x∈(tOf τ y).names):Gp x:=by
 unfold tOf at hx;cases e:τ y with
 |none =>
  rw[e] at hx;rw[mR.mp (show x∈[y] from hx)];exact hy
 |some a =>
  rw[e] at hx;cases a with
  |name z =>
   rw[mR.mp (show x∈[z] from hx)];exact h y z e
  |num _=>exact nomatch (show x∈[] from hx)
  |gap _=>exact nomatch (show x∈[] from hx)
theorem zMa (a:Atom):a.tr.wrds=a.names:=by cases a<;>rfl
theorem zL2 {Gp:Str->Prop}{L:Told}{q:Itm}{m:Str}{rs:List Tr}(R:Req L q) (hg:GdW Gp q) (hm:∀n a b,q.t = .lett n a b->GW m/\Gp m) (h:All2 (DnW Gp L) (kidsI q m) rs):DnW Gp L q ((headI q m).withP rs):=by
 refine⟨zKc R hg.gd (λ n a b e=>(hm n a b e).1) (h.mapF λ Ω Ω z=>z.dn),?_⟩;obtain⟨t,τ,bs,cs⟩:=q;obtain⟨_,g1,g2⟩:=hg;dsimp only at g1 g2;intro x hx;cases t with
 |num n=>cases h;exact nomatch (show x∈[] from hx)
 |ask n=>cases h;exact nomatch (show x∈[] from hx)
 |stop n=>cases h;exact nomatch (show x∈[] from hx)
 |name y =>
  cases h
  have e:(headI ⟨.name y,τ,bs,cs⟩ m).withP []=(tOf τ y).tr:=by
   show ((tOf τ y).tr).withP []=_;cases tOf τ y<;>rfl
  rw[e,zMa] at hx;exact zHo g2 (g1 y (by simp[Tr.wrds,Tr.names])) hx
 |gap g as =>
  cases h;obtain⟨b,hb,hx⟩:=mX.mp (show x∈(as.map (putA τ)).flatMap Atom.names from hx);obtain⟨a,ha,rfl⟩:=mD.mp hb;cases a with
  |name y=>exact zHo g2 (g1 y (mX.mpr ⟨.name y,ha,by simp[Atom.names]⟩)) hx
  |num _=>exact nomatch (show x∈[] from hx)
  |gap _=>exact nomatch (show x∈[] from hx)
 |say a =>
  cases h with
  |cons d h=>cases h;exact d.wr x hx
 |bin o a b =>
  cases h with
  |cons d h=>cases h with
   |cons d2 h =>
    cases h;rcases lK.mp hx with hx|hx
    ·exact d.wr x hx
    ·exact d2.wr x hx
 |ite a b c =>
  cases h with
  |cons d h=>cases h with
   |cons d2 h=>cases h with
    |cons d3 h =>
     cases h;rcases lK.mp hx with hx|hx
     ·exact d.wr x hx
     ·rcases lK.mp hx with hx|hx
      ·exact d2.wr x hx
      ·exact d3.wr x hx
 |lett n a b =>
  cases h with
  |cons d h=>cases h with
   |cons d2 h =>
    cases h;rcases lN.mp hx with rfl|hx
    ·exact(hm n a b rfl).2
    ·rcases lK.mp hx with hx|hx
     ·exact d.wr x hx
     ·exact d2.wr x hx
def Nc (Gp:Str->Prop) (q:Itm):Prop:=(∀y,GW y->Gp y)\/∃m,(∀z y,q.τ z=some (.name y)->y=z\/y=m)/\m∉q.t.wrds
structure LvP (Gp:Str->Prop) (L:Told) (W:List Str) (B:Nat) (items:List Itm) (i:Nat) (ks:List Str) (hs:List Tr) (ds:List Itm):Prop where
 hl:hs.length=i
 np:zAj hs=ds.length
 nd:ks.Nodup
 it:∀q∈ds,Req L q/\InK ks q/\GdW Gp q/\Nc Gp q/\∀x∈q.t.wrds,x∈W
 rs:∀q∈items,InK ks q
 bd:ks.length+tot ds+tot (items.drop i)<=B
 tt:tot ds+i=tot (items.take i)
 dn:∀R,All2 (DnW Gp L) ds R->All2 (DnW Gp L) (items.take i) (growL hs R)
theorem zCs (q:Itm) (m:Str):∀k∈kidsI q m,∀x∈k.t.wrds,x∈q.t.wrds:=by
 obtain⟨t,τ,bs,cs⟩:=q;intro k hk x hx;cases t with
 |lett n a b=>simp[kidsI] at hk;rcases hk with rfl|rfl<;>simp[Tr.wrds,hx]
 |say a=>simp[kidsI,Tr.parts] at hk;subst hk;exact hx
 |bin o a b=>simp[kidsI,Tr.parts] at hk;rcases hk with rfl|rfl<;>simp[Tr.wrds,hx]
 |ite a b c=>simp[kidsI,Tr.parts] at hk;rcases hk with rfl|rfl|rfl<;>simp[Tr.wrds,hx]
 |_=>simp[kidsI,Tr.parts] at hk
theorem zEi {q:Itm}{m:Str}(h:q.t.kd ≠ .lett):∀k∈kidsI q m,k.τ=q.τ:=by
 obtain⟨t,τ,bs,cs⟩:=q;intro k hk;cases t with
 |lett n a b=>exact absurd rfl h
 |say a=>simp[kidsI,Tr.parts] at hk;subst hk;rfl
 |bin o a b=>simp[kidsI,Tr.parts] at hk;rcases hk with rfl|rfl<;>rfl
 |ite a b c=>simp[kidsI,Tr.parts] at hk;rcases hk with rfl|rfl|rfl<;>rfl
 |_=>simp[kidsI,Tr.parts] at hk
theorem zLo {ks:List Str}{q:Itm}{m:Str}(h:q.t.kd ≠ .lett) (hk:InK ks q):∀k∈kidsI q m,InK ks k:=λ k hm =>
 ⟨λ x hx=>hk.1 x (zCs q m k hm x hx),λ x y e=>hk.2 x y (by rw[←zEi h k hm];exact e)⟩
theorem zM2 {Gp:Str->Prop}{P:Prop}{q:Itm}{n m:Str}{a b:Tr}(h:Nc Gp q) (e:q.t = .lett n a b) (hm:(zDj q.τ n b/\P)\/(¬zDj q.τ n b/\m=n)) (hg:m=n\/GW m) (gn:Gp n):Gp m:=by
 rcases h with h|⟨w,h1,h2⟩
 ·rcases hg with z|z
  ·rw[z];exact gn
  ·exact h m z
 ·rcases hm with ⟨⟨x,nx,hx,_⟩,_⟩|⟨_,z⟩
  ·rcases h1 x n hx with z|z
   ·exact absurd z.symm nx
   ·exact absurd (by rw[e,←z];simp[Tr.wrds]) h2
  ·rw[z];exact gn
theorem zM0 {Gp:Str->Prop}{q:Itm}{m:Str}(h:q.t.kd ≠ .lett) (hk:Nc Gp q):∀k∈kidsI q m,Nc Gp k:=λ k hm=>hk.elim .inl λ⟨w,h1,h2⟩ =>
 .inr ⟨w,λ z y e=>h1 z y (by rw[←zEi h k hm];exact e),λ z=>h2 (zCs q m k hm w z)⟩
set_option tactic.hygienic true in
theorem zM1 {Gp:Str->Prop}{P:Prop}{q:Itm}{n m:Str}{a b:Tr}(h:Nc Gp q) (e:q.t = .lett n a b) (hm:(zDj q.τ n b/\P)\/(¬zDj q.τ n b/\m=n)):∀k∈kidsI q m,Nc Gp k:=by
 intro k hk;rcases h with h|⟨w,h1,h2⟩
 ·exact .inl h
 refine .inr ⟨w,?_,λ z=>h2 (zCs q m k hk w z)⟩
 have en:m=n:=by
  rcases hm with ⟨⟨x,nx,hx,_⟩,_⟩|⟨_,z⟩
  ·rcases h1 x n hx with z|z
   ·exact absurd z.symm nx
   ·exact absurd (by rw[e,←z];simp[Tr.wrds]) h2
  ·exact z
 subst en;obtain⟨t,τ,bs,cs⟩:=q;cases e;simp only[kidsI,nN,nB,or_false] at hk;rcases hk with rfl|rfl
 ·exact h1
 ·intro z y e
  dsimp only[setT] at e;split at e
  ·rename_i c
   cases e;exact .inl c.symm
  ·exact h1 z y e
theorem zLv {Gp:Str->Prop}{q:Itm}{m:Str}(hg:GdW Gp q) (hm:∀n a b,q.t = .lett n a b->GW m/\Gp m):∀k∈kidsI q m,GdW Gp k:=λ k hk=>by
 refine⟨zLw hg.gd (λ n a b e=>(hm n a b e).1) k hk,λ x hx=>hg.ws x (zCs q m k hk x hx),?_⟩;obtain⟨t,τ,bs,cs⟩:=q
 by_cases h:t.kd = .lett
 ·cases t with
  |lett n a b =>
   simp only[kidsI,nN,nB,or_false] at hk;rcases hk with rfl|rfl
   ·exact hg.ts
   ·intro z y e
    dsimp only[setT] at e;split at e
    ·cases e
     exact(hm n a b rfl).2
    ·exact hg.ts z y e
  |bin o a b=>cases o<;>cases h
  |_=>cases h
 ·intro z y e
  rw[zEi h k hk] at e;exact hg.ts z y e
theorem LvP.next {Gp:Str->Prop}{L:Told}{W:List Str}{B:Nat}{items:List Itm}{i:Nat}{ks ks':List Str}{hs:List Tr}{ds:List Itm}{q:Itm}{m:Str}(h:LvP Gp L W B items i ks hs ds) (hq:items[i]?=some q) (R:Req L q) (G:GdW Gp q) (hW:∀x∈q.t.wrds,x∈W) (hm:OkM ks q m)
  (hg:∀n a b,q.t = .lett n a b->GW m/\Gp m) (hn:∀k∈kidsI q m,Nc Gp k) (up:∀x∈ks,x∈ks') (nd':ks'.Nodup) (hlen:ks'.length<=ks.length+1) (hin:∀k∈kidsI q m,InK ks' k):LvP Gp L W B items (i+1) ks' (hs++[headI q m]) (ds++kidsI q m):=by
 obtain⟨hi,eq⟩:=lJ.mp hq;have hK:=h.rs q (lM hq);have ed:items.drop i=q::items.drop (i+1):=by rw[List.drop_eq_getElem_cons hi,eq]
 have et:=zAR hq;have kt:=zKF q m;have np':zAj (hs++[headI q m])=(ds++kidsI q m).length:=by rw[zD0,zFO,mK,h.np,zEu]
 refine⟨by rw[mK,h.hl];rfl,np',nd',λ k hk=>?_,λ k hk=>(h.rs k hk).mono up,?_,?_,λ R' hR=>?_⟩
 ·rcases lK.mp hk with hk|hk
  ·obtain⟨a,b,c,d⟩:=h.it k hk
   exact⟨a,b.mono up,c,d⟩
  ·exact⟨zLE R hK hm k hk,hin k hk,zLv G hg k hk,hn k hk,λ x hx=>hW x (zCs q m k hk x hx)⟩
 ·have:=h.bd
  rw[ed,zFg] at this;rw[zDn];omega
 ·have:=h.tt
  rw[et,zDn,zDn,zFg];simp only[tot,List.map_nil,List.sum_nil] at this ⊢;unfold tot at kt;omega
 ·obtain⟨R1,rs,rfl,h1,h2⟩:=hR.split
  rw[et,zD4 hs (by rw[←h1.length,h.np]) (by rw[←h2.length,zEu])];exact(h.dn R1 h1).append (.cons (zL2 R G hg h2) .nil)
def zFe (U:Addr) (H:Hp) (q:Itm) (v:V):Prop:=∃a u d kvs,v = .ref a/\H a=some (.tup [u,.ref d])/\Rep H q.t u/\d≠U/\H d=some (.dK kvs)/\Lv H q.τ kvs/\kvs.length+q.t.size<=450
theorem Sx.tk2 {U:Addr}{H H':Hp}{ks:List (Key × V)}(g:Sx U H H') (hd:H U=some (.dK ks)):Tk H H':=g.tk λ xs z=>by rw[hd] at z;cases z
def LevN (A:Addr) (H:Hp) (hs:List Tr) (v:V):Prop:=∃l us,v = .ref l/\l≠A/\H l=some (.lst us)/\Paired (Rep H) hs us
theorem LevN.mono {A:Addr}{H H':Hp}(k:Tk H H') (g:∀b us,b≠A->H b=some (.lst us)->H' b=some (.lst us)) {hs:List Tr}{v:V}:LevN A H hs v->LevN A H' hs v
 |⟨l,us,e,n,h,p⟩=>⟨l,us,e,n,g l us n h,Paired.mapP p λ Ω Ω z=>z.mono k⟩
theorem Sx.own {U:Addr}{H H':Hp}{o:HO}(g:Sx U H H'):Sx U H (L2.upd H' U o):=λ b u n e=>by rw[zAK n];exact g b u n e
theorem Sx.of {U:Addr}{H H':Hp}(g:Same H H'):Sx U H H':=λ b u Ω e=>g b u e
structure Kq (U:Addr) (H H':Hp):Prop where
 tk:Tk H H'
 dk:∀b kvs,b≠U->H b=some (.dK kvs)->H' b=some (.dK kvs)
theorem Kq.trans {U:Addr}{H H1 H2:Hp}(a:Kq U H H1) (b:Kq U H1 H2):Kq U H H2:=⟨a.tk.trans b.tk,λ c k n e=>b.dk c k n (a.dk c k n e)⟩
theorem Kq.of {U:Addr}{H H':Hp}(g:Same H H'):Kq U H H':=⟨g.tk,λ b k Ω e=>g b _ e⟩
theorem Kq.lst {U p:Addr}{H:Hp}{xs:List V}{o:HO}(h:H p=some (.lst xs)):Kq U H (L2.upd H p o):=⟨Tk.lst h,λ b k Ω e=>by
 rw[zAK (λ z=>by subst z;rw[h] at e;cases e)];exact e⟩
theorem Kq.own {U:Addr}{H:Hp}{ks:List (Key × V)}{o:HO}(h:H U=some (.dK ks)):Kq U H (L2.upd H U o):=⟨Tk.dk h,λ b k n e=>by rw[zAK n];exact e⟩
theorem zFe.kq {U:Addr}{H H':Hp}(g:Kq U H H') {q:Itm}{v:V}:zFe U H q v->zFe U H' q v
 |⟨a,u,d,kvs,e,h1,h2,h3,h4,h5,h6⟩=>⟨a,u,d,kvs,e,g.tk _ _ h1,h2.mono g.tk,h3,g.dk _ _ h3 h4,h5.mono g.tk,h6⟩
theorem zIQ (ks:List Str):(kvOf ks).length=ks.length:=lC _
noncomputable def atD (n:Nat):Dt:=.tup [.str "at", .int n]
abbrev Kno:=Str->Option Dt
noncomputable def setK (κ:Kno) (x:Str) (d:Dt):Kno:=λ z=>if z=x then some d else κ z
noncomputable def lvA (κ:Kno):Atom->Dt
 |.name x=>(κ x).getD (.tup [.str "name", .str x])
 |.num n=>.tup [.str "num", .int n]
 |.gap g=>.tup [.str "gap", .str g,.tup []]
noncomputable def blT (κ:Kno) (n:Nat):Tr->Dt
 |.num m=>.tup [.str "num", .int m]
 |.name x=>lvA κ (.name x)
 |.ask x=>.tup [.str "ask", .str x]
 |.stop x=>.tup [.str "stop", .str x]
 |.gap g as=>.tup [.str "gap", .str g,.tup (as.map (lvA κ))]
 |.say a=>.tup [.str "say", blT κ n a]
 |.bin o a b=>.tup [.str o.s,blT κ n a,blT κ n b]
 |.ite a b c=>.tup [.str "if", blT κ n a,blT κ n b,blT κ n c]
 |.lett x a b=>.tup [.str "let", blT κ n a,blT (setK κ x (atD n)) (n+1) b]
noncomputable def exK (κ:Kno) (n:Nat):List Str->Kno:=λ cs=>match cs with
 |[]=>κ
 |c::cs=>exK (setK κ c (atD n)) (n+1) cs
theorem zDg (κ:Kno) (n:Nat) (cs:List Str) (c:Str):exK κ n (cs++[c])=setK (exK κ n cs) c (atD (n+cs.length)):=by
 induction cs generalizing κ n with
 |nil=>rfl
 |cons a cs ih =>
  show exK (setK κ a (atD n)) (n+1) (cs++[c])=_;rw[ih];show setK _ c _=setK _ c _;rw[mM,show n+1+cs.length=n+(cs.length+1) by omega];rfl
theorem zIK {x:Str}:∀{l:List Str}{k:Nat},lookB x l=some k->k<l.length
 |y::r,k,h=>by
  rw[lookB] at h
  by_cases e:y=x
  ·rw[if_pos e] at h
   cases h;exact Nat.zero_lt_succ _
  ·rw[if_neg e] at h
   obtain⟨j,hj,rfl⟩:=lV.mp h;have:=zIK hj;rw[mM];omega
theorem zF7 (κ:Kno) (n:Nat) (x:Str):∀(m:Nat) (cs:List Str),cs.length=m->exK κ n cs x=match lookB x cs.reverse with
  |some k=>some (atD (n+cs.length - 1 - k))
  |none=>κ x
 |0,cs,h=>by
  rw[nL.mp h];rfl
 |m+1,cs,h=>by
  rcases List.eq_nil_or_concat cs with rfl|⟨ds,c,rfl⟩
  ·cases h
  ·rw[List.concat_eq_append] at h ⊢
   have hl:ds.length=m:=by simpa using h
   rw[zDg,List.reverse_append,List.reverse_singleton,List.singleton_append,lookB];unfold setK
   by_cases e:c=x
   ·rw[if_pos e.symm,if_pos e]
    simp
   ·rw[if_neg (Ne.symm e),if_neg e,zF7 κ n x m ds hl]
    cases hk:lookB x ds.reverse with
    |none=>rfl
    |some k =>
     have:=zIK hk;rw[List.length_reverse] at this;show some (atD (n+ds.length - 1 - k))=some (atD (n+(ds++[c]).length - 1 - (k+1)));rw[mK,List.length_singleton,show n+(ds.length+1) - 1 - (k+1)=n+ds.length - 1 - k by omega]
noncomputable def knL (L:Told) (κ:Kno):Kno:=λ x=>match L x with
 |some a=>some (lvA κ a)
 |none=>κ x
theorem zBE {k j:Nat ⊕ Atom}(h:keyDA k=keyDA j):k=j:=by
 have n1:¬(("bound" : Str)) = "free" := by left
 have n2:¬(("bound" : Str)) = "num" := by left
 have n3:¬(("bound" : Str)) = "gap" := by left
 have n4:¬(("free" : Str)) = "num" := by left
 have n5:¬(("free" : Str)) = "gap" := by left
 have n6:¬(("num" : Str)) = "gap" := by left
 rcases k with k|(k|k|k)<;>rcases j with j|(j|j|j)<;>simp[keyDA,n1,n2,n3,n4,n5,n6,Ne.symm n1,Ne.symm n2,Ne.symm n3,Ne.symm n4,Ne.symm n5,Ne.symm n6,eq_comm] at h ⊢<;>first|exact h|exact h.symm|omega
theorem zKG {κ:Kno}{n:Nat}{L:Told}{cs bs:List Str}(hl:cs.length=bs.length) {a:Atom}{x:Str}(h:keyA cs a=keyX L bs x):lvA (exK κ n cs) a=lvA (exK (knL L κ) n bs) (.name x):=by
 have eb:=zF7 (knL L κ) n x _ bs rfl;unfold keyX at h;show _=((exK (knL L κ) n bs) x).getD _;rw[eb];cases hk:lookB x bs.reverse with
 |some k =>
  rw[hk] at h;cases a with
  |name y =>
   have ec:=zF7 κ n y _ cs rfl
   replace h:keyX noT cs y=_:=h
   unfold keyX at h;cases hj:lookB y cs.reverse with
   |some j =>
    rw[hj] at h ec;cases h;show ((exK κ n cs) y).getD _=_;rw[ec,hl];rfl
   |none=>rw[hj] at h;cases h
  |num m=>cases h
  |gap g=>cases h
 |none =>
  rw[hk] at h
  have kx:(knL L κ x).getD (.tup [.str "name", .str x])=lvA κ (tOf L x):=by
   unfold knL tOf;cases L x with
   |none=>rfl
   |some b=>rfl
  show _=(knL L κ x).getD _;rw[kx];cases a with
  |name y =>
   have ec:=zF7 κ n y _ cs rfl
   replace h:keyX noT cs y=_:=h
   unfold keyX at h;cases hj:lookB y cs.reverse with
   |some j=>rw[hj] at h;cases h
   |none =>
    rw[hj] at h ec;have h2:tOf noT y=tOf L x:=Sum.inr.inj h;rw[←h2];show ((exK κ n cs) y).getD _=_;rw[ec];rfl
  |num m =>
   have h2:Atom.num m=tOf L x:=Sum.inr.inj h;rw[←h2];rfl
  |gap g =>
   have h2:Atom.gap g=tOf L x:=Sum.inr.inj h;rw[←h2];rfl
theorem zIR {κ:Kno}{n:Nat}{L:Told}{cs bs:List Str}(hl:cs.length=bs.length) {a b:Atom}(h:zBP noT cs a=zBP L bs b):lvA (exK κ n cs) a=lvA (exK (knL L κ) n bs) b:=by
 rw[zBq] at h;cases b with
 |name x=>exact zKG hl (zBE h)
 |num m =>
  have h2:keyA cs a = .inr (.num m):=zBE h;cases a with
  |name y =>
   replace h2:keyX noT cs y=_:=h2
   unfold keyX at h2;cases e:lookB y cs.reverse with
   |some j=>rw[e] at h2;cases h2
   |none=>rw[e] at h2;cases h2
  |num k=>cases h2;rfl
  |gap g=>cases h2
 |gap g =>
  have h2:keyA cs a = .inr (.gap g):=zBE h;cases a with
  |name y =>
   replace h2:keyX noT cs y=_:=h2
   unfold keyX at h2;cases e:lookB y cs.reverse with
   |some j=>rw[e] at h2;cases h2
   |none=>rw[e] at h2;cases h2
  |num k=>cases h2
  |gap k=>cases h2;rfl
theorem zGg {κ:Kno}{n:Nat}{L:Told}{cs bs:List Str}(hl:cs.length=bs.length):∀{as bs':List Atom},as.map (zBP noT cs)=bs'.map (zBP L bs)->as.map (lvA (exK κ n cs))=bs'.map (lvA (exK (knL L κ) n bs))
 |[],[],_=>rfl
 |[],_::_,h=>by simp at h
 |_::_,[],h=>by simp at h
 |a::as,b::bs',h=>by
  rw[mL,mL] at h;obtain⟨h1,h2⟩:=List.cons.inj h;rw[mL,mL,zIR hl h1,zGg hl h2]
theorem tg {s s':Str}{l l':List Dt}(h:Dt.tup (.str s::l)=Dt.tup (.str s'::l')):s=s':=Dt.str.inj (List.cons.inj (Dt.tup.inj h)).1
theorem tgA {s s':Str}{l l':List Dt}{p:Prop}(h:Dt.tup (.str s::l)=Dt.tup (.str s'::l'))(n:¬s=s':=by left):p:=absurd (tg h) n
theorem tl {s s':Str}{l l':List Dt}(h:Dt.tup (.str s::l)=Dt.tup (.str s'::l')):l=l':=(List.cons.inj (Dt.tup.inj h)).2
theorem zEA {cs:List Str}{y s:Str}{l:List Dt}(h:keyDA (keyX noT cs y) = .tup (.str s::l)):s = "bound" \/ s = "free" := by
 unfold keyX at h;cases e:lookB y cs.reverse with
 |some k=>rw[e] at h;exact .inl (tg h).symm
 |none=>rw[e] at h;exact .inr (tg h).symm
theorem zD3 {r:Tr}{cs:List Str}{n:Int}(h:bareW noT r cs = .tup [.str "num", .int n]):r = .num n:=by
 cases r with
 |num m=>have:=tl h;simp at this;rw[this]
 |bin o' a' b'=>cases o'<;>exact tgA h
 |name y=>rcases zEA h with e|e<;>exact absurd e (by left)
 |_=>exact tgA h
theorem zEr {r:Tr}{cs:List Str}{x:Str}(h:bareW noT r cs = .tup [.str "ask", .str x]):r = .ask x:=by
 cases r with
 |ask y=>have:=tl h;simp at this;rw[this]
 |bin o' a' b'=>cases o'<;>exact tgA h
 |name y=>rcases zEA h with e|e<;>exact absurd e (by left)
 |_=>exact tgA h
theorem zDd {r:Tr}{cs:List Str}{x:Str}(h:bareW noT r cs = .tup [.str "stop", .str x]):r = .stop x:=by
 cases r with
 |stop y=>have:=tl h;simp at this;rw[this]
 |bin o' a' b'=>cases o'<;>exact tgA h
 |name y=>rcases zEA h with e|e<;>exact absurd e (by left)
 |_=>exact tgA h
theorem zF0 {r:Tr}{cs:List Str}{g:Str}{ds:List Dt}(h:bareW noT r cs = .tup [.str "gap", .str g,.tup ds]):∃as,r = .gap g as/\as.map (zBP noT cs)=ds:=by
 cases r with
 |gap g' as'=>have:=tl h;simp at this;exact⟨as',by rw[this.1],this.2⟩
 |bin o' a' b'=>cases o'<;>exact tgA h
 |name y=>rcases zEA h with e|e<;>exact absurd e (by left)
 |_=>exact tgA h
theorem zEn {r:Tr}{cs:List Str}{d:Dt}(h:bareW noT r cs = .tup [.str "say", d]):∃a,r = .say a/\bareW noT a cs=d:=by
 cases r with
 |say a'=>have:=tl h;simp at this;exact⟨a',rfl,this⟩
 |bin o' a' b'=>cases o'<;>exact tgA h
 |name y=>rcases zEA h with e|e<;>exact absurd e (by left)
 |_=>exact tgA h
theorem zEp {r:Tr}{cs:List Str}{d e f:Dt}(h:bareW noT r cs = .tup [.str "if", d,e,f]):∃a b c,r = .ite a b c/\bareW noT a cs=d/\bareW noT b cs=e/\bareW noT c cs=f:=by
 cases r with
 |ite a' b' c'=>have:=tl h;simp at this;exact⟨a',b',c',rfl,this⟩
 |bin o' a' b'=>cases o'<;>exact tgA h
 |name y=>rcases zEA h with e|e<;>exact absurd e (by left)
 |_=>exact tgA h
theorem zEo {r:Tr}{cs:List Str}{d e:Dt}(h:bareW noT r cs = .tup [.str "let", d,e]):∃y a b,r = .lett y a b/\bareW noT a cs=d/\bareW noT b (cs++[y])=e:=by
 cases r with
 |lett x' a' b'=>have:=tl h;simp at this;exact⟨x',a',b',rfl,this⟩
 |bin o' a' b'=>cases o'<;>exact tgA h
 |name y=>rcases zEA h with e|e<;>exact absurd e (by left)
 |_=>exact tgA h
theorem zKq {o o':Bin}(h:o.s=o'.s):o=o':=by cases o<;>cases o'<;>first|rfl|exact absurd h (by left)
theorem zEq {r:Tr}{cs:List Str}{o:Bin}{d e:Dt}(h:bareW noT r cs = .tup [.str o.s,d,e]):∃a b,r = .bin o a b/\bareW noT a cs=d/\bareW noT b cs=e:=by
 cases r with
 |bin o' a' b' =>
  have e1:=zKq (tg h);have:=tl h;simp at this;exact⟨a',b',by rw[e1],this⟩
 |name y=>rcases zEA h with e|e<;>cases o<;>exact absurd e (by left)
 |_=>cases o<;>exact tgA h
theorem zCC (κ:Kno) (n:Nat) (L:Told):∀(u r:Tr) (bs cs:List Str),cs.length=bs.length->bareW noT r cs=bareW L u bs->blT (exK κ n cs) (n+cs.length) r=blT (exK (knL L κ) n bs) (n+bs.length) u
 |.num m,r,bs,cs,hl,h=>by rw[zD3 h];rfl
 |.ask x,r,bs,cs,hl,h=>by rw[zEr h];rfl
 |.stop x,r,bs,cs,hl,h=>by rw[zDd h];rfl
 |.gap g as,r,bs,cs,hl,h=>by
  obtain⟨as',rfl,e⟩:=zF0 h;show Dt.tup [.str "gap", .str g,.tup (as'.map _)] = .tup [.str "gap", .str g,.tup (as.map _)];rw[zGg hl e]
 |.say a,r,bs,cs,hl,h=>by
  obtain⟨a',rfl,e⟩:=zEn h;show Dt.tup [.str "say", _] = .tup [.str "say", _];rw[zCC κ n L a a' bs cs hl e]
 |.bin o a b,r,bs,cs,hl,h=>by
  obtain⟨a',b',rfl,e1,e2⟩:=zEq h;show Dt.tup [.str o.s,_,_] = .tup [.str o.s,_,_];rw[zCC κ n L a a' bs cs hl e1,zCC κ n L b b' bs cs hl e2]
 |.ite a b c,r,bs,cs,hl,h=>by
  obtain⟨a',b',c',rfl,e1,e2,e3⟩:=zEp h;show Dt.tup [.str "if", _,_,_] = .tup [.str "if", _,_,_];rw[zCC κ n L a a' bs cs hl e1,zCC κ n L b b' bs cs hl e2,zCC κ n L c c' bs cs hl e3]
 |.lett x a b,r,bs,cs,hl,h=>by
  obtain⟨y,a',b',rfl,e1,e2⟩:=zEo h;have h2:=zCC κ n L b b' (bs++[x]) (cs++[y]) (by simp[hl]) e2;rw[zDg,zDg,mK,mK] at h2;show Dt.tup [.str "let", _,blT (setK (exK κ n cs) y (atD (n+cs.length))) (n+cs.length+1) b'] = .tup [.str "let", _,blT (setK (exK (knL L κ) n bs) x (atD (n+bs.length))) (n+bs.length+1) b];rw[zCC κ n L a a' bs cs hl e1];exact congrArg (λ z=>Dt.tup [.str "let", _,z]) h2
 |.name x,r,bs,cs,hl,h=>by
  have ha:∀a:Atom,r=a.tr->blT (exK κ n cs) (n+cs.length) r=lvA (exK κ n cs) a:=λ a e=>by
   rw[e];cases a<;>rfl
  have key:∀a:Atom,r=a.tr->blT (exK κ n cs) (n+cs.length) r=lvA (exK (knL L κ) n bs) (.name x):=λ a e=>by
   rw[ha a e];refine zKG hl (zBE ?_);rw[←zBq,zG0,←e];exact h
  cases hx:keyX L bs x with
  |inl k =>
   replace h:bareW noT r cs = .tup [.str "bound", .int k]:=by rw[h];show keyDA (keyX L bs x)=_;rw[hx];rfl
   cases r with
   |name y=>exact key (.name y) rfl
   |bin o' a' b'=>cases o'<;>exact tgA h
   |_=>exact tgA h
  |inr at' =>
   have h':bareW noT r cs=keyDA (.inr at'):=by rw[h];show keyDA (keyX L bs x)=_;rw[hx]
   cases at' with
   |name y =>
    cases r with
    |name y=>exact key (.name y) rfl
    |bin o' a' b'=>cases o'<;>exact absurd (tg h') (by left)
    |_=>exact absurd (tg h') (by left)
   |num m=>exact key (.num m) (zD3 h')
   |gap g =>
    obtain⟨as,e,e2⟩:=zF0 h'
    have:as=[]:=by cases as with
     |nil=>rfl
     |cons _ _=>simp at e2
    subst this;exact key (.gap g) e
abbrev Fill:=Str->Option (List Str × Tr)
noncomputable def noK:Kno:=λ Ω=>none
noncomputable def duA (φ:Fill) (κ:Kno) (n:Nat):Atom->Dt
 |.gap h=>match φ h with
  |some q=>blT noK n q.2
  |none=>lvA κ (.gap h)
 |a=>lvA κ a
noncomputable def zpK (κ:Kno):List (Str × Dt)->Kno
 |[]=>κ
 |p::r=>zpK (setK κ p.1 p.2) r
noncomputable def duG (φ:Fill) (κ:Kno) (n:Nat) (g:Str) (as:List Atom):Dt:=match φ g with
 |some q=>blT (zpK noK (q.1.zip (as.map (duA φ κ n)))) n q.2
 |none=>.tup []
noncomputable def duT (φ:Fill) (κ:Kno) (n:Nat):Tr->Dt
 |.num m=>.tup [.str "num", .int m]
 |.name x=>lvA κ (.name x)
 |.ask x=>.tup [.str "ask", .str x]
 |.stop x=>.tup [.str "stop", .str x]
 |.gap g as=>duG φ κ n g as
 |.say a=>.tup [.str "say", duT φ κ n a]
 |.bin o a b=>.tup [.str o.s,duT φ κ n a,duT φ κ n b]
 |.ite a b c=>.tup [.str "if", duT φ κ n a,duT φ κ n b,duT φ κ n c]
 |.lett x a b=>.tup [.str "let", duT φ κ n a,duT φ (setK κ x (atD n)) (n+1) b]
def Nms (L:Told):Prop:=∀x a,L x=some a->∃y,a = .name y
theorem Nms.key {L:Told}(hL:Nms L) (bs:List Str) (x:Str):(∃k,keyX L bs x = .inl k)\/∃y,keyX L bs x = .inr (.name y):=by
 unfold keyX;cases lookB x bs.reverse with
 |some k=>exact .inl ⟨k,rfl⟩
 |none =>
  refine .inr ?_;unfold tOf;cases e:L x with
  |none=>exact⟨x,rfl⟩
  |some a =>
   obtain⟨y,rfl⟩:=hL x a e;exact⟨y,rfl⟩
theorem zL1 {φ:Fill}{κ:Kno}{n m:Nat}{L:Told}(hL:Nms L) {cs bs:List Str}(hl:cs.length=bs.length) {a b:Atom}(h:zBP noT cs a=zBP L bs b):duA φ (exK κ n cs) m a=duA φ (exK (knL L κ) n bs) m b:=by
 have hv:=zIR (κ:=κ) (n:=n) hl h;rw[zBq] at h
 have no:∀(y:Str) (k:Nat ⊕ Atom),keyA cs (.name y)=k->(∀i,k ≠ .inl i)->(∀z,k ≠ .inr (.name z))->False:=λ y k e h1 h2=>by
  replace e:keyX noT cs y=k:=e
  unfold keyX at e;cases e2:lookB y cs.reverse with
  |some j=>rw[e2] at e;exact h1 j e.symm
  |none=>rw[e2] at e;exact h2 y e.symm
 cases b with
 |name x =>
  have h2:keyA cs a=keyX L bs x:=zBE h;cases a with
  |name y=>exact hv
  |num k =>
   rcases hL.key bs x with ⟨j,e⟩|⟨j,e⟩<;>(rw[e] at h2;cases h2)
  |gap k =>
   rcases hL.key bs x with ⟨j,e⟩|⟨j,e⟩<;>(rw[e] at h2;cases h2)
 |num m =>
  have h2:keyA cs a = .inr (.num m):=zBE h;cases a with
  |name y=>exact(no y _ h2 (λ i z=>by cases z) (λ i z=>by cases z)).elim
  |num k=>exact hv
  |gap k=>cases h2
 |gap g =>
  have h2:keyA cs a = .inr (.gap g):=zBE h;cases a with
  |name y=>exact(no y _ h2 (λ i z=>by cases z) (λ i z=>by cases z)).elim
  |num k=>cases h2
  |gap k =>
   cases h2;unfold duA;cases φ g<;>rfl
theorem zGn {φ:Fill}{κ:Kno}{n m:Nat}{L:Told}(hL:Nms L) {cs bs:List Str}(hl:cs.length=bs.length):∀{as bs':List Atom},as.map (zBP noT cs)=bs'.map (zBP L bs)->as.map (duA φ (exK κ n cs) m)=bs'.map (duA φ (exK (knL L κ) n bs) m)
 |[],[],_=>rfl
 |[],_::_,h=>by simp at h
 |_::_,[],h=>by simp at h
 |a::as,b::bs',h=>by
  rw[mL,mL] at h;obtain⟨h1,h2⟩:=List.cons.inj h;rw[mL,mL,zL1 hL hl h1,zGn hL hl h2]
theorem zCX (φ:Fill) (κ:Kno) (n:Nat) {L:Told}(hL:Nms L):∀(u r:Tr) (bs cs:List Str),cs.length=bs.length->bareW noT r cs=bareW L u bs->duT φ (exK κ n cs) (n+cs.length) r=duT φ (exK (knL L κ) n bs) (n+bs.length) u
 |.num m,r,bs,cs,hl,h=>by rw[zD3 h];rfl
 |.ask x,r,bs,cs,hl,h=>by rw[zEr h];rfl
 |.stop x,r,bs,cs,hl,h=>by rw[zDd h];rfl
 |.gap g as,r,bs,cs,hl,h=>by
  obtain⟨as',rfl,e⟩:=zF0 h;show duG φ _ _ g as'=duG φ _ _ g as;unfold duG;rw[zGn hL hl e,hl]
 |.say a,r,bs,cs,hl,h=>by
  obtain⟨a',rfl,e⟩:=zEn h;show Dt.tup [.str "say", _] = .tup [.str "say", _];rw[zCX φ κ n hL a a' bs cs hl e]
 |.bin o a b,r,bs,cs,hl,h=>by
  obtain⟨a',b',rfl,e1,e2⟩:=zEq h;show Dt.tup [.str o.s,_,_] = .tup [.str o.s,_,_];rw[zCX φ κ n hL a a' bs cs hl e1,zCX φ κ n hL b b' bs cs hl e2]
 |.ite a b c,r,bs,cs,hl,h=>by
  obtain⟨a',b',c',rfl,e1,e2,e3⟩:=zEp h;show Dt.tup [.str "if", _,_,_] = .tup [.str "if", _,_,_];rw[zCX φ κ n hL a a' bs cs hl e1,zCX φ κ n hL b b' bs cs hl e2,zCX φ κ n hL c c' bs cs hl e3]
 |.lett x a b,r,bs,cs,hl,h=>by
  obtain⟨y,a',b',rfl,e1,e2⟩:=zEo h;have h2:=zCX φ κ n hL b b' (bs++[x]) (cs++[y]) (by simp[hl]) e2;rw[zDg,zDg,mK,mK] at h2;show Dt.tup [.str "let", _,duT φ (setK (exK κ n cs) y (atD (n+cs.length))) (n+cs.length+1) b'] = .tup [.str "let", _,duT φ (setK (exK (knL L κ) n bs) x (atD (n+bs.length))) (n+bs.length+1) b];rw[zCX φ κ n hL a a' bs cs hl e1];exact congrArg (λ z=>Dt.tup [.str "let", _,z]) h2
 |.name x,r,bs,cs,hl,h=>by
  have hb:=zCC κ n L (.name x) r bs cs hl h;rcases hL.key bs x with ⟨k,e⟩|⟨y,e⟩
  all_goals
   replace h:bareW noT r cs=keyDA (keyX L bs x):=h
   rw[e] at h;cases r with
   |name z=>exact hb
   |bin o' a' b'=>cases o'<;>exact tgA h
   |_=>exact tgA h
theorem zC4 {x z:Str}{a b:Tr}:z∈(Tr.lett x a b).fv []↔z∈a.fv []\/(z∈b.fv []/\z≠x):=by
 show z∈a.fv []++b.fv ([]++[x])↔_;rw[nM,nV,zCb b [x]];simp
theorem zDc {κ1 κ2:Kno}{a:Atom}(h:∀x∈a.names,κ1 x=κ2 x):lvA κ1 a=lvA κ2 a:=by
 cases a with
 |name x=>show (κ1 x).getD _=(κ2 x).getD _;rw[h x (by simp[Atom.names])]
 |_=>rfl
theorem zKT (x:Str):(Tr.name x).fv []=[x]:=by simp[Tr.fv,Tr.names]
theorem zMT (g:Str) (as:List Atom):(Tr.gap g as).fv []=as.flatMap Atom.names:=by simp[Tr.fv,Tr.names]
theorem zBm:∀(t:Tr) (κ1 κ2:Kno) (n:Nat),(∀x∈t.fv [],κ1 x=κ2 x)->blT κ1 n t=blT κ2 n t
 |.num _,_,_,_,_=>rfl
 |.name x,κ1,κ2,n,h=>zDc (a:=.name x) λ z hz=>h z (by rw[zKT];exact hz)
 |.ask _,_,_,_,_=>rfl
 |.stop _,_,_,_,_=>rfl
 |.gap g as,κ1,κ2,n,h=>by
  show Dt.tup [.str "gap", .str g,.tup (as.map (lvA κ1))] = .tup [.str "gap", .str g,.tup (as.map (lvA κ2))];rw[List.map_congr_left λ a ha=>zDc λ x hx=>h x (by rw[zMT];exact mX.mpr ⟨a,ha,hx⟩)]
 |.say a,κ1,κ2,n,h=>by
  show Dt.tup [.str "say", blT κ1 n a] = .tup [.str "say", blT κ2 n a];rw[zBm a κ1 κ2 n h]
 |.bin o a b,κ1,κ2,n,h=>by
  show Dt.tup [.str o.s,blT κ1 n a,blT κ1 n b] = .tup [.str o.s,blT κ2 n a,blT κ2 n b];rw[zBm a κ1 κ2 n λ x hx=>h x (by simp only[Tr.fv,nM];exact .inl hx),zBm b κ1 κ2 n λ x hx=>h x (by simp only[Tr.fv,nM];exact .inr hx)]
 |.ite a b c,κ1,κ2,n,h=>by
  show Dt.tup [.str "if", blT κ1 n a,blT κ1 n b,blT κ1 n c] = .tup [.str "if", blT κ2 n a,blT κ2 n b,blT κ2 n c];rw[zBm a κ1 κ2 n λ x hx=>h x (by simp only[Tr.fv,nM];exact .inl hx),zBm b κ1 κ2 n λ x hx=>h x (by simp only[Tr.fv,nM];exact .inr (.inl hx)),zBm c κ1 κ2 n λ x hx=>h x (by simp only[Tr.fv,nM];exact .inr (.inr hx))]
 |.lett x a b,κ1,κ2,n,h=>by
  show Dt.tup [.str "let", blT κ1 n a,blT (setK κ1 x (atD n)) (n+1) b] = .tup [.str "let", blT κ2 n a,blT (setK κ2 x (atD n)) (n+1) b];rw[zBm a κ1 κ2 n λ z hz=>h z (zC4.mpr (.inl hz)),zBm b _ (setK κ2 x (atD n)) (n+1) λ z hz=>?_];unfold setK
  by_cases e:z=x
  ·rw[if_pos e,if_pos e]
  ·rw[if_neg e,if_neg e]
   exact h z (zC4.mpr (.inr ⟨hz,e⟩))
theorem zKa {φ:Fill}{κ1 κ2:Kno}{n:Nat}{a:Atom}(h:∀x∈a.names,κ1 x=κ2 x):duA φ κ1 n a=duA φ κ2 n a:=by
 cases a with
 |gap g=>unfold duA;cases φ g<;>rfl
 |name x=>exact zDc h
 |num m=>rfl
theorem zBl (φ:Fill):∀(t:Tr) (κ1 κ2:Kno) (n:Nat),(∀x∈t.fv [],κ1 x=κ2 x)->duT φ κ1 n t=duT φ κ2 n t
 |.num _,_,_,_,_=>rfl
 |.name x,κ1,κ2,n,h=>zDc (a:=.name x) λ z hz=>h z (by rw[zKT];exact hz)
 |.ask _,_,_,_,_=>rfl
 |.stop _,_,_,_,_=>rfl
 |.gap g as,κ1,κ2,n,h=>by
  show duG φ κ1 n g as=duG φ κ2 n g as;unfold duG;rw[List.map_congr_left λ a ha=>zKa λ x hx=>h x (by rw[zMT];exact mX.mpr ⟨a,ha,hx⟩)]
 |.say a,κ1,κ2,n,h=>by
  show Dt.tup [.str "say", duT φ κ1 n a] = .tup [.str "say", duT φ κ2 n a];rw[zBl φ a κ1 κ2 n h]
 |.bin o a b,κ1,κ2,n,h=>by
  show Dt.tup [.str o.s,duT φ κ1 n a,duT φ κ1 n b] = .tup [.str o.s,duT φ κ2 n a,duT φ κ2 n b];rw[zBl φ a κ1 κ2 n λ x hx=>h x (by simp only[Tr.fv,nM];exact .inl hx),zBl φ b κ1 κ2 n λ x hx=>h x (by simp only[Tr.fv,nM];exact .inr hx)]
 |.ite a b c,κ1,κ2,n,h=>by
  show Dt.tup [.str "if", duT φ κ1 n a,duT φ κ1 n b,duT φ κ1 n c] = .tup [.str "if", duT φ κ2 n a,duT φ κ2 n b,duT φ κ2 n c];rw[zBl φ a κ1 κ2 n λ x hx=>h x (by simp only[Tr.fv,nM];exact .inl hx),zBl φ b κ1 κ2 n λ x hx=>h x (by simp only[Tr.fv,nM];exact .inr (.inl hx)),zBl φ c κ1 κ2 n λ x hx=>h x (by simp only[Tr.fv,nM];exact .inr (.inr hx))]
 |.lett x a b,κ1,κ2,n,h=>by
  show Dt.tup [.str "let", duT φ κ1 n a,duT φ (setK κ1 x (atD n)) (n+1) b] = .tup [.str "let", duT φ κ2 n a,duT φ (setK κ2 x (atD n)) (n+1) b];rw[zBl φ a κ1 κ2 n λ z hz=>h z (zC4.mpr (.inl hz)),zBl φ b _ (setK κ2 x (atD n)) (n+1) λ z hz=>?_];unfold setK
  by_cases e:z=x
  ·rw[if_pos e,if_pos e]
  ·rw[if_neg e,if_neg e]
   exact h z (zC4.mpr (.inr ⟨hz,e⟩))
theorem zN9 {φ:Fill}{κ:Kno}{n:Nat}{x m:Str}{a b b':Tr}(h:bareW noT b' []=bareW (setT noT x (.name m)) b []) (hm:m∉b.fv []):duT φ κ n (.lett m a b')=duT φ κ n (.lett x a b):=by
 have hL:Nms (setT noT x (.name m)):=λ z at' e=>by
  unfold setT at e
  by_cases ez:z=x
  ·rw[if_pos ez] at e
   cases e;exact⟨m,rfl⟩
  ·rw[if_neg ez] at e
   cases e
 have h1:=zCX φ (setK κ m (atD n)) (n+1) hL b b' [] [] rfl h;show Dt.tup [.str "let", duT φ κ n a,duT φ (setK κ m (atD n)) (n+1) b'] = .tup [.str "let", duT φ κ n a,duT φ (setK κ x (atD n)) (n+1) b];have h2:duT φ (setK κ m (atD n)) (n+1) b'=duT φ (knL (setT noT x (.name m)) (setK κ m (atD n))) (n+1) b:=h1;rw[h2,zBl φ b _ (setK κ x (atD n)) (n+1) λ z hz=>?_];unfold knL setT
 by_cases e:z=x
 ·rw[if_pos e]
  unfold setK lvA;simp[e]
 ·rw[if_neg e]
  show setK κ m (atD n) z=setK κ x (atD n) z;unfold setK;rw[if_neg (λ y=>hm (by rw[←y];exact hz)),if_neg e]
inductive LfA (φ:Fill):Atom->Atom->Prop
 |gap {h:Str}{ns:List Str}{n:Int}:φ h=some (ns,.num n)->LfA φ (.gap h) (.num n)
 |name (x:Str):LfA φ (.name x) (.name x)
 |num (n:Int):LfA φ (.num n) (.num n)
noncomputable def tzF (τ:Told):List (Str × Atom)->Told
 |[]=>τ
 |p::r=>tzF (setT τ p.1 p.2) r
def PcR (φ:Fill) (g:Str) (as:List Atom) (r:Tr):Prop:=∃ns u las,φ g=some (ns,u)/\ns.length<=las.length/\as.length=las.length/\(∀(j:Nat) (a b:Atom),as[j]?=some a->las[j]?=some b->LfA φ a b)/\bareW noT r []=bareW (tzF noT (ns.zip las)) u []
inductive FilR (φ:Fill):Tr->Tr->Prop
 |gap {g:Str}{as:List Atom}{r:Tr}:PcR φ g as r->FilR φ (.gap g as) r
 |num (n:Int):FilR φ (.num n) (.num n)
 |name (x:Str):FilR φ (.name x) (.name x)
 |ask (x:Str):FilR φ (.ask x) (.ask x)
 |stop (x:Str):FilR φ (.stop x) (.stop x)
 |say {a a':Tr}:FilR φ a a'->FilR φ (.say a) (.say a')
 |bin {o:Bin}{a a' b b':Tr}:FilR φ a a'->FilR φ b b'->FilR φ (.bin o a b) (.bin o a' b')
 |ite {a a' b b' c c':Tr}:FilR φ a a'->FilR φ b b'->FilR φ c c'->FilR φ (.ite a b c) (.ite a' b' c')
 |lett {x:Str}{a a' b b':Tr}:FilR φ a a'->FilR φ b b'->FilR φ (.lett x a b) (.lett x a' b')
noncomputable def gpT:Tr->List Str
 |.gap g _=>[g]
 |.say a=>gpT a
 |.bin _ a b=>gpT a++gpT b
 |.ite a b c=>gpT a++(gpT b++gpT c)
 |.lett _ a b=>gpT a++gpT b
 |_=>[]
def Outr (φ:Fill) (g z:Str):Prop:=∃ns u,φ g=some (ns,u)/\z∈u.fv []/\z∉ns
def NoC (φ:Fill):Tr->Prop
 |.say a=>NoC φ a
 |.bin _ a b=>NoC φ a/\NoC φ b
 |.ite a b c=>NoC φ a/\NoC φ b/\NoC φ c
 |.lett x a b=>NoC φ a/\NoC φ b/\∀g∈gpT b,¬Outr φ g x
 |_=>True
theorem tz_zp {κ:Kno}:∀{ns:List Str}{las:List Atom}{τ:Told}{κ0:Kno},(∀z,(τ z).map (lvA κ)=κ0 z)->∀z,(tzF τ (ns.zip las) z).map (lvA κ)=zpK κ0 (ns.zip (las.map (lvA κ))) z
 |[],_,_,_,h,z=>h z
 |_::_,[],_,_,h,z=>h z
 |n::ns,a::las,τ,κ0,h,z=>tz_zp (ns:=ns) (las:=las) (τ:=setT τ n a) (κ0:=setK κ0 n (lvA κ a)) (λ y=>by
  unfold setT setK
  by_cases e:y=n
  ·rw[if_pos e,if_pos e];rfl
  ·rw[if_neg e,if_neg e];exact h y) z
theorem tz_in:∀{ns:List Str}{las:List Atom}{τ:Told}{z:Str},ns.length<=las.length->(z∈ns\/τ z≠none)->tzF τ (ns.zip las) z≠none
 |[],_,τ,z,_,h=>h.elim (λ k=>nomatch k) id
 |_::_,[],_,_,hl,_=>by simp at hl
 |n::ns,a::las,τ,z,hl,h=>tz_in (ns:=ns) (las:=las) (by simpa using hl) (by
  unfold setT
  by_cases e:z=n
  ·rw[if_pos e];exact .inr (λ k=>nomatch k)
  ·rw[if_neg e]
   rcases h with h|h
   ·exact .inl ((lN.mp h).resolve_left e)
   ·exact .inr h)
theorem zNx {φ:Fill}{κ:Kno}{n:Nat}{a b:Atom}(h:LfA φ a b):lvA κ b=duA φ κ n a:=by
 cases h with
 | @gap h ns m e =>
  show lvA κ (.num m)=(match φ h with|some q=>blT noK n q.2|none=>lvA κ (.gap h));rw[e];rfl
 |name x=>rfl
 |num m=>rfl
theorem zM6 {φ:Fill}{κ:Kno}{n:Nat}{as las:List Atom}(hl:as.length=las.length) (h:∀(j:Nat) (a b:Atom),as[j]?=some a->las[j]?=some b->LfA φ a b):las.map (lvA κ)=as.map (duA φ κ n):=by
 apply List.ext_getElem?;intro j;rw[mI,mI];cases ha:as[j]? with
 |none =>
  have:las[j]?=none:=by rw[List.getElem?_eq_none_iff] at ha ⊢;omega
  rw[this];rfl
 |some a =>
  cases hb:las[j]? with
  |none=>rw[List.getElem?_eq_none_iff] at hb;have:=(lJ.mp ha).1;omega
  |some b=>exact congrArg some (zNx (h j a b ha hb))
theorem zN5 {φ:Fill}{t w:Tr}(h:FilR φ t w):∀(κ:Kno) (n:Nat),NoC φ t->(∀g∈gpT t,∀z,Outr φ g z->κ z=none)->blT κ n w=duT φ κ n t:=by
 induction h with
 | @gap g as r hp =>
  intro κ n _ ho;obtain⟨ns,u,las,e,hn,hl,hA,hb⟩:=hp;have h1:blT κ n r=blT (knL (tzF noT (ns.zip las)) κ) n u:=zCC κ n _ u r [] [] rfl hb
  have h2:duT φ κ n (.gap g as)=blT (zpK noK (ns.zip (as.map (duA φ κ n)))) n u:=by
   show duG φ κ n g as=_;unfold duG;rw[e]
  rw[h1,h2,←zM6 hl hA];refine zBm u _ _ n λ z hz=>?_;rw[←tz_zp (κ:=κ) (ns:=ns) (las:=las) (τ:=noT) (κ0:=noK) (λ Ω=>rfl) z];unfold knL;cases et:tzF noT (ns.zip las) z with
  |some a=>rfl
  |none=>exact ho g lO z ⟨ns,u,e,hz,λ k=>tz_in hn (.inl k) et⟩
 |num m=>intro κ n _ _;rfl
 |name x=>intro κ n _ _;rfl
 |ask x=>intro κ n _ _;rfl
 |stop x=>intro κ n _ _;rfl
 |say _ ih =>
  intro κ n hc ho;show Dt.tup [.str "say", _] = .tup [.str "say", _];rw[ih κ n hc ho]
 | @bin o a a' b b' _ _ ia ib =>
  intro κ n hc ho;show Dt.tup [.str o.s,_,_] = .tup [.str o.s,_,_];rw[ia κ n hc.1 λ g hg=>ho g (List.mem_append_left _ hg),ib κ n hc.2 λ g hg=>ho g (List.mem_append_right _ hg)]
 |ite _ _ _ ia ib ic =>
  intro κ n hc ho;show Dt.tup [.str "if", _,_,_] = .tup [.str "if", _,_,_];rw[ia κ n hc.1 λ g hg=>ho g (List.mem_append_left _ hg),ib κ n hc.2.1 λ g hg=>ho g (List.mem_append_right _ (List.mem_append_left _ hg)),ic κ n hc.2.2 λ g hg=>ho g (List.mem_append_right _ (List.mem_append_right _ hg))]
 | @lett x a a' b b' _ _ ia ib =>
  intro κ n hc ho;show Dt.tup [.str "let", _,blT (setK κ x (atD n)) (n+1) b'] = .tup [.str "let", _,duT φ (setK κ x (atD n)) (n+1) b];rw[ia κ n hc.1 λ g hg=>ho g (List.mem_append_left _ hg),ib (setK κ x (atD n)) (n+1) hc.2.1 λ g hg z hz=>?_];unfold setK;have ne:z≠x:=λ e=>hc.2.2 g hg (by rw[←e];exact hz);rw[if_neg ne];exact ho g (mC _ hg) z hz
abbrev Pce:=List Str × Tr
def RelP (H:Hp):Option Pce->Option V->Prop
 |some q,some v=>∃p nt u,v = .ref p/\H p=some (.tup [.ref nt,u])/\H nt=some (.tup (q.1.map V.str))/\Rep H q.2 u
 |none,none=>True
 |_,_=>False
theorem RelP.mono {H H':Hp}(k:Tk H H') {o:Option Pce}{v:Option V}(h:RelP H o v):RelP H' o v:=by
 cases o<;>cases v<;>first|exact h|(obtain⟨p,nt,u,e,h1,h2,r⟩:=h;exact⟨p,nt,u,e,k _ _ h1,k _ _ h2,r.mono k⟩)
def FlD (H:Hp) (φ:Str->Option Pce) (kvs:List (Key × V)):Prop:=∀g,RelP H (φ g) (valV kvs (Sum.inr g:Key))
theorem FlD.mono {H H':Hp}(k:Tk H H') {φ:Str->Option Pce}{kvs:List (Key × V)}(h:FlD H φ kvs):FlD H' φ kvs:=λ g=>(h g).mono k
theorem FlD.get {H:Hp}{φ:Str->Option Pce}{kvs:List (Key × V)}(h:FlD H φ kvs) {g:Str}{q:Pce}(e:φ g=some q):∃p nt u,valV kvs (Sum.inr g:Key)=some (.ref p)/\H p=some (.tup [.ref nt,u])/\H nt=some (.tup (q.1.map V.str))/\Rep H q.2 u:=by
 have:=h g;rw[e] at this;cases hv:valV kvs (Sum.inr g:Key) with
 |none=>rw[hv] at this;exact this.elim
 |some v =>
  rw[hv] at this;obtain⟨p,nt,u,rfl,h1,h2,r⟩:=this;exact⟨p,nt,u,rfl,h1,h2,r⟩
theorem zIS {t k:Tr}{i:Nat}(h:t.parts[i]?=some k):t.kid (i:Int)=some k:=by
 unfold Tr.kid;rw[if_pos (by omega)];exact h
theorem zEW:∀(n:Nat) (t:Tr) (pl:List Int),t.size<=n->∀x∈psub pl t,∃r,x.1=pl++r/\t.at_ r=some x.2/\r.length+1<=t.size
 |0,t,_,h=>absurd h (by have:=zCK t;omega)
 |n+1,t,pl,h=>λ x hx=>by
  rw[zFr] at hx;rcases lN.mp hx with rfl|hx
  ·exact⟨[],by simp,rfl,by have:=zCK t;simpa using this⟩
  ·obtain⟨⟨pl',k⟩,hk,hx⟩:=mX.mp hx
   obtain⟨⟨k',i⟩,hi,e⟩:=mD.mp hk;cases e;have hki:=List.mem_zipIdx' hi
   have hg:t.parts[i]?=some k':=by
    rw[nO hki.1,←hki.2]
   have hsz:=zCo (lM hg);obtain⟨r,e1,e2,e3⟩:=zEW n k' (pl++[(i:Int)]) (by omega) x hx;refine⟨(i:Int)::r,by rw[e1];simp,?_,by rw[mM];omega⟩;show (t.kid (i:Int)).bind (λ u=>u.at_ r)=_;rw[zIS hg];exact e2
theorem zII {H:Hp}:Lv H noT []:=⟨(λ p h=>nomatch h),λ x=>trivial⟩
noncomputable def zE2 (ks:List Str):List Str->List Str
 |[]=>ks
 |x::r=>zE2 (addK ks x) r
theorem zFP:∀(more ks:List Str),ks.Nodup->zAw (kvOf ks) (kvOf more)=kvOf (zE2 ks more)/\(zE2 ks more).Nodup/\(∀x∈zE2 ks more,x∈ks\/x∈more)/\∀x,x∈ks\/x∈more->x∈zE2 ks more
 |[],ks,nd=>⟨rfl,nd,λ x hx=>.inl hx,λ x hx=>hx.elim id (λ z=>nomatch z)⟩
 |y::more,ks,nd=>by
  obtain⟨h1,h2,h3,h4⟩:=zFP more (addK ks y) (zBZ nd);refine⟨?_,h2,λ x hx=>?_,λ x hx=>h4 x ?_⟩
  ·rw[←show zAw (kvOf (addK ks y)) (kvOf more)=kvOf (zE2 ks (y::more)) from h1]
   show zAw (putK (kvOf ks) (Sum.inr y:Key) (.bl true)) (kvOf more)=_;rw[zCT]
  ·rcases h3 x hx with h|h
   ·rcases zAf.mp h with h|h
    ·exact .inl h
    ·exact .inr (by rw[h];exact lO)
   ·exact .inr (lP _ h)
  ·rcases hx with h|h
   ·exact .inl (zAf.mpr (.inl h))
   ·rcases lN.mp h with h|h
    ·exact .inl (zAf.mpr (.inr h))
    ·exact .inr h
structure FlO (φ:Str->Option Pce) (W:List Str) (t:Tr):Prop where
 sz:t.size<=60
 ct:∀p∈t.subs,(cnt1 p).length<=10
 wl:W.length<64
 tw:∀x∈t.wrds,x∈W
 pz:∀g q,φ g=some q->q.2.size<=60/\∀x∈q.2.wrds,x∈W
noncomputable def skA:Atom->Atom
 |.name _=>.name "a"
 |a=>a
noncomputable def skT:Tr->Tr
 |.num n=>.num n
 |.name _=>.name "a"
 |.ask x=>.ask x
 |.stop x=>.stop x
 |.gap g as=>.gap g (as.map skA)
 |.say a=>.say (skT a)
 |.bin o a b=>.bin o (skT a) (skT b)
 |.ite a b c=>.ite (skT a) (skT b) (skT c)
 |.lett _ a b=>.lett "a" (skT a) (skT b)
theorem zLA (t:Tr):(skT t).parts=t.parts.map skT:=by cases t<;>rfl
theorem zBc:∀t:Tr,(skT t).subs=t.subs.map skT
 |.num _=>rfl
 |.name _=>rfl
 |.ask _=>rfl
 |.stop _=>rfl
 |.gap _ _=>rfl
 |.say a=>by simp[skT,Tr.subs,zBc a]
 |.bin o a b=>by simp[skT,Tr.subs,zBc a,zBc b]
 |.ite a b c=>by simp[skT,Tr.subs,zBc a,zBc b,zBc c]
 |.lett x a b=>by simp[skT,Tr.subs,zBc a,zBc b]
theorem zNS (a:Atom):agap (skA a)=agap a:=by cases a<;>rfl
theorem zKm (t:Tr):cnt1 (skT t)=cnt1 t:=by
 cases t with
 |gap g as=>simp[skT,cnt1,List.flatMap_map,zNS]
 |_=>rfl
theorem zB5:∀t:Tr,gpT (skT t)=gpT t
 |.num _=>rfl
 |.name _=>rfl
 |.ask _=>rfl
 |.stop _=>rfl
 |.gap _ _=>rfl
 |.say a=>zB5 a
 |.bin o a b=>by simp[skT,gpT,zB5 a,zB5 b]
 |.ite a b c=>by simp[skT,gpT,zB5 a,zB5 b,zB5 c]
 |.lett x a b=>by simp[skT,gpT,zB5 a,zB5 b]
theorem zBQ:∀t:Tr,(skT t).size=t.size
 |.num _=>rfl
 |.name _=>rfl
 |.ask _=>rfl
 |.stop _=>rfl
 |.gap _ _=>rfl
 |.say a=>by simp[skT,Tr.size,zBQ a]
 |.bin o a b=>by simp[skT,Tr.size,zBQ a,zBQ b]
 |.ite a b c=>by simp[skT,Tr.size,zBQ a,zBQ b,zBQ c]
 |.lett x a b=>by simp[skT,Tr.size,zBQ a,zBQ b]
theorem zNy (t:Tr) (i:Int):(skT t).kid i=(t.kid i).map skT:=by
 unfold Tr.kid
 by_cases h:0<=i
 ·rw[if_pos h,if_pos h,zLA,mI]
 ·rw[if_neg h,if_neg h];rfl
theorem at_sk:∀(pl:List Int) (t:Tr),(skT t).at_ pl=(t.at_ pl).map skT
 |[],t=>rfl
 |i::is,t=>by
  show ((skT t).kid i).bind _=((t.kid i).bind _).map skT;rw[zNy];cases t.kid i with
  |none=>rfl
  |some u=>exact at_sk is u
theorem zCB:∀(t:Tr),∀g∈gpT t,g∈(gcnt t).map (·.1)
 |.gap g as,h,hh=>by
  rw[mR.mp hh];show g∈([Tr.gap g as].flatMap cnt1).map (·.1);simp[cnt1]
 |.say a,g,h=>by
  have:=zCB a g h;unfold gcnt at this ⊢;simp only[Tr.subs,rG,mQ,nM];exact .inr this
 |.bin o a b,g,h=>by
  unfold gcnt;simp only[Tr.subs,rG,nK,mQ,nM];rcases lK.mp h with h|h
  ·exact .inr (.inl (zCB a g h))
  ·exact .inr (.inr (zCB b g h))
 |.ite a b c,g,h=>by
  unfold gcnt;simp only[Tr.subs,rG,nK,mQ,nM];rcases lK.mp h with h|h
  ·exact .inr (.inl (zCB a g h))
  ·rcases lK.mp h with h|h
   ·exact .inr (.inr (.inl (zCB b g h)))
   ·exact .inr (.inr (.inr (zCB c g h)))
 |.lett x a b,g,h=>by
  unfold gcnt;simp only[Tr.subs,rG,nK,mQ,nM];rcases lK.mp h with h|h
  ·exact .inr (.inl (zCB a g h))
  ·exact .inr (.inr (zCB b g h))
 |.num _,_,h=>nomatch h
 |.name _,_,h=>nomatch h
 |.ask _,_,h=>nomatch h
 |.stop _,_,h=>nomatch h
theorem zLB {L:Told}(hL:Nms L) {cs bs:List Str}{a b:Atom}(h:zBP noT cs a=zBP L bs b):skA a=skA b:=by
 rw[zBq] at h
 have no:∀(y:Str) (k:Nat ⊕ Atom),keyA cs (.name y)=k->(∀i,k ≠ .inl i)->(∀z,k ≠ .inr (.name z))->False:=λ y k e h1 h2=>by
  replace e:keyX noT cs y=k:=e
  unfold keyX at e;cases e2:lookB y cs.reverse with
  |some j=>rw[e2] at e;exact h1 j e.symm
  |none=>rw[e2] at e;exact h2 y e.symm
 cases b with
 |name x =>
  have h2:keyA cs a=keyX L bs x:=zBE h;cases a with
  |name y=>rfl
  |num k=>rcases hL.key bs x with ⟨j,e⟩|⟨j,e⟩<;>(rw[e] at h2;cases h2)
  |gap k=>rcases hL.key bs x with ⟨j,e⟩|⟨j,e⟩<;>(rw[e] at h2;cases h2)
 |num m =>
  have h2:keyA cs a = .inr (.num m):=zBE h;cases a with
  |name y=>exact(no y _ h2 (λ i z=>by cases z) (λ i z=>by cases z)).elim
  |num k=>cases h2;rfl
  |gap k=>cases h2
 |gap g =>
  have h2:keyA cs a = .inr (.gap g):=zBE h;cases a with
  |name y=>exact(no y _ h2 (λ i z=>by cases z) (λ i z=>by cases z)).elim
  |num k=>cases h2
  |gap k=>cases h2;rfl
theorem zGV {L:Told}(hL:Nms L) {cs bs:List Str}:∀{as bs':List Atom},as.map (zBP noT cs)=bs'.map (zBP L bs)->as.map skA=bs'.map skA
 |[],[],_=>rfl
 |[],_::_,h=>by simp at h
 |_::_,[],h=>by simp at h
 |a::as,b::bs',h=>by
  rw[mL,mL] at h;obtain⟨h1,h2⟩:=List.cons.inj h;rw[mL,mL,zLB hL h1,zGV hL h2]
theorem zCJ {L:Told}(hL:Nms L):∀(u r:Tr) (bs cs:List Str),bareW noT r cs=bareW L u bs->skT r=skT u
 |.num m,r,bs,cs,h=>by rw[zD3 h]
 |.ask x,r,bs,cs,h=>by rw[zEr h]
 |.stop x,r,bs,cs,h=>by rw[zDd h]
 |.gap g as,r,bs,cs,h=>by
  obtain⟨as',rfl,e⟩:=zF0 h;show Tr.gap g _ = .gap g _;rw[zGV hL e]
 |.say a,r,bs,cs,h=>by
  obtain⟨a',rfl,e⟩:=zEn h;show Tr.say _ = .say _;rw[zCJ hL a a' bs cs e]
 |.bin o a b,r,bs,cs,h=>by
  obtain⟨a',b',rfl,e1,e2⟩:=zEq h;show Tr.bin o _ _ = .bin o _ _;rw[zCJ hL a a' bs cs e1,zCJ hL b b' bs cs e2]
 |.ite a b c,r,bs,cs,h=>by
  obtain⟨a',b',c',rfl,e1,e2,e3⟩:=zEp h;show Tr.ite _ _ _ = .ite _ _ _;rw[zCJ hL a a' bs cs e1,zCJ hL b b' bs cs e2,zCJ hL c c' bs cs e3]
 |.lett x a b,r,bs,cs,h=>by
  obtain⟨y,a',b',rfl,e1,e2⟩:=zEo h;show Tr.lett "a" _ _ = .lett "a" _ _;rw[zCJ hL a a' bs cs e1,zCJ hL b b' (bs++[x]) (cs++[y]) e2]
 |.name x,r,bs,cs,h=>by
  rcases hL.key bs x with ⟨k,e⟩|⟨y,e⟩
  all_goals
   replace h:bareW noT r cs=keyDA (keyX L bs x):=h
   rw[e] at h;cases r with
   |name z=>rfl
   |bin o' a' b'=>cases o'<;>exact tgA h
   |_=>exact tgA h
theorem zDB {t:Tr}{qs:List Tr}(h:qs.length=t.parts.length):(t.withP qs).parts=qs:=by
 cases t with
 |say a=>match qs,h with | [_],_=>rfl
 |bin o a b=>match qs,h with | [_,_],_=>rfl
 |ite a b c=>match qs,h with | [_,_,_],_=>rfl
 |lett x a b=>match qs,h with | [_,_],_=>rfl
 |_=>rw[nL.mp h];rfl
theorem zIO:∀(p s:List Int),lexB (p++s) p=false
 |[],[]=>rfl
 |[],_::_=>rfl
 |a::p,s=>by
  show lexB (a::(p++s)) (a::p)=false;rw[lexB,if_pos rfl];exact zIO p s
theorem zA2 {t k:Tr}{i:Nat}{is:List Int}(h:t.parts[i]?=some k):t.at_ ((i:Int)::is)=k.at_ is:=by
 show (t.kid (i:Int)).bind (λ u=>u.at_ is)=_;rw[zIS h];rfl
def LetAt (φ:Fill) (t:Tr) (pl:List Int):Prop:=∀x a b,t.at_ pl=some (.lett x a b)->∀g∈gpT b,¬Outr φ g x
theorem zDY {φ:Fill}:∀(t:Tr),(∀pl,LetAt φ t pl)->NoC φ t
 |.num _,_=>trivial
 |.name _,_=>trivial
 |.ask _,_=>trivial
 |.stop _,_=>trivial
 |.gap _ _,_=>trivial
 |.say a,h=>zDY a λ pl x a' b' e=>h ((0:Nat)::pl) x a' b' (by rw[zA2 (k:=a) rfl];exact e)
 |.bin o a b,h=>⟨zDY a λ pl x a' b' e=>h ((0:Nat)::pl) x a' b' (by rw[zA2 (k:=a) rfl];exact e),zDY b λ pl x a' b' e=>h ((1:Nat)::pl) x a' b' (by rw[zA2 (k:=b) rfl];exact e)⟩
 |.ite a b c,h=>⟨zDY a λ pl x a' b' e=>h ((0:Nat)::pl) x a' b' (by rw[zA2 (k:=a) rfl];exact e),zDY b λ pl x a' b' e=>h ((1:Nat)::pl) x a' b' (by rw[zA2 (k:=b) rfl];exact e),zDY c λ pl x a' b' e=>h ((2:Nat)::pl) x a' b' (by rw[zA2 (k:=c) rfl];exact e)⟩
 |.lett y a b,h=>⟨zDY a λ pl x a' b' e=>h ((0:Nat)::pl) x a' b' (by rw[zA2 (k:=a) rfl];exact e),zDY b λ pl x a' b' e=>h ((1:Nat)::pl) x a' b' (by rw[zA2 (k:=b) rfl];exact e),h [] y a b rfl⟩
theorem zGE:∀(pl:List Int) (t u:Tr) (p0:List Int),t.at_ pl=some u->(p0++pl,u)∈psub p0 t
 |[],t,u,p0,e=>by
  cases e;rw[zFr,nR];exact lO
 |i::is,t,u,p0,e=>by
  obtain⟨k,hk,e2⟩:=mS.mp (show (t.kid i).bind _=some u from e)
  have h0:0<=i:=by
   unfold Tr.kid at hk
   by_cases z:0<=i
   ·exact z
   ·rw[if_neg z] at hk;cases hk
  have h2:t.parts[i.toNat]?=some k:=by
   unfold Tr.kid at hk;rw[if_pos h0] at hk;exact hk
  rw[zFr];refine lP _ (mX.mpr ⟨(p0++[i],k),?_,?_⟩)
  ·refine mD.mpr ⟨(k,i.toNat),?_,by rw[Int.toNat_of_nonneg h0]⟩
   exact List.mk_mem_zipIdx_iff_getElem?.mpr h2
  ·have:=zGE is k u (p0++[i]) e2
   rwa [mY] at this
theorem zND {t k:Tr}{j:Nat}(h:t.parts[j]?=some k):∀g∈gpT k,g∈gpT t:=λ g hg=>by
 cases t with
 |say a=>match j,h with|0,h=>cases h;exact hg
 |bin o a b=>match j,h with
  |0,h=>cases h;exact mG _ hg
  |1,h=>cases h;exact mC _ hg
 |ite a b c=>match j,h with
  |0,h=>cases h;exact mG _ hg
  |1,h=>cases h;exact mC _ (mG _ hg)
  |2,h=>cases h;exact mC _ (mC _ hg)
 |lett x a b=>match j,h with
  |0,h=>cases h;exact mG _ hg
  |1,h=>cases h;exact mC _ hg
 |_=>cases h
theorem zEk {t k:Tr}{i:Int}(h:t.kid i=some k):t.parts[i.toNat]?=some k:=by
 unfold Tr.kid at h
 by_cases z:0<=i
 ·rw[if_pos z] at h;exact h
 ·rw[if_neg z] at h;cases h
theorem zMS:∀(pl:List Int) (t p:Tr),t.at_ pl=some p->∀g∈gpT p,g∈gpT t
 |[],t,p,e,g,hg=>by cases e;exact hg
 |i::is,t,p,e,g,hg=>by
  obtain⟨u,hu,e2⟩:=mS.mp (show (t.kid i).bind _=some p from e);exact zND (zEk hu) g (zMS is u p e2 g hg)
structure Apt (φ:Fill) (t:Tr) (W:List Str) (i:Nat) (t':Tr) (ks W':List Str):Prop where
 sk:skT t'=skT t
 du:∀κ n,duT φ κ n t'=duT φ κ n t
 gd:t'.good GW
 tw:∀x∈t'.wrds,x∈ks
 pw:∀g∈(gcnt t).map (·.1),∀q,φ g=some q->∀x∈q.2.wrds,x∈ks
 nd:ks.Nodup
 kw:∀x∈ks,x∈W'
 ww:∀x∈W,x∈W'
 wl:W'.length<=W.length+i
 lt:∀(j:Nat) (y:PlT),j<i->(psub [] t)[j]?=some y->LetAt φ t' y.1
theorem Apt.skip {φ:Fill}{t t':Tr}{W ks W':List Str}{i:Nat}{y:PlT}(h:Apt φ t W i t' ks W') (hy:(psub [] t)[i]?=some y) (hl:LetAt φ t' y.1):Apt φ t W (i+1) t' ks W' :=
 ⟨h.sk,h.du,h.gd,h.tw,h.pw,h.nd,h.kw,h.ww,by have:=h.wl;omega,λ j z hj hz=>by
  by_cases e:j=i
  ·subst e
   rw[hy] at hz;cases hz;exact hl
  ·exact h.lt j z (by omega) hz⟩
theorem Apt.noc {φ:Fill}{t t':Tr}{W ks W':List Str}(h:Apt φ t W (psub [] t).length t' ks W'):NoC φ t':=by
 refine zDY t' λ pl x a b e=>?_
 have e1:(t.at_ pl).isSome:=by
  have e2:=at_sk pl t;rw[←h.sk,at_sk pl t',e] at e2;cases z:t.at_ pl with
  |none=>rw[z] at e2;cases e2
  |some u=>rfl
 obtain⟨u,hu⟩:=Option.isSome_iff_exists.mp e1;have hm:=zGE pl t u [] hu;obtain⟨j,hj⟩:=List.getElem?_of_mem hm;exact h.lt j _ (lJ.mp hj).1 hj x a b e
theorem zKr:∀(pl:List Int) (t p:Tr),t.at_ pl=some p->p.size<=t.size
 |[],t,p,e=>by cases e;exact lQ _
 |i::is,t,p,e=>by
  obtain⟨u,hu,e2⟩:=mS.mp (show (t.kid i).bind _=some p from e);have:=zKr is u p e2;have:=zCo (lM (zEk hu));omega
theorem zMC:∀(pl:List Int) (t p:Tr),t.at_ pl=some p->∀q∈p.subs,q∈t.subs
 |[],t,p,e,q,hq=>by cases e;exact hq
 |i::is,t,p,e,q,hq=>by
  obtain⟨u,hu,e2⟩:=mS.mp (show (t.kid i).bind _=some p from e);rw[zG9];exact lP _ (mX.mpr ⟨u,lM (zEk hu),zMC is u p e2 q hq⟩)
theorem zG5:∀(pl:List Int) (t p:Tr),t.at_ pl=some p->∀q∈p.wrds,q∈t.wrds
 |[],t,p,e,q,hq=>by cases e;exact hq
 |i::is,t,p,e,q,hq=>by
  obtain⟨u,hu,e2⟩:=mS.mp (show (t.kid i).bind _=some p from e);have ih:=zG5 is u p e2 q hq;have h:=zEk hu;generalize i.toNat=j at h;cases t with
  |say a=>match j,h with|0,h=>cases h;exact ih
  |bin o a b=>match j,h with
   |0,h=>cases h;exact mG _ ih
   |1,h=>cases h;exact mC _ ih
  |ite a b c=>match j,h with
   |0,h=>cases h;exact mG _ ih
   |1,h=>cases h;exact mC _ (mG _ ih)
   |2,h=>cases h;exact mC _ (mC _ ih)
  |lett x a b=>match j,h with
   |0,h=>cases h;exact lP _ (mG _ ih)
   |1,h=>cases h;exact lP _ (mC _ ih)
  |_=>cases h
theorem zHa {G:Str->Prop}:∀(pl:List Int) (t p:Tr),t.at_ pl=some p->t.good G->p.good G
 |[],t,p,e,q=>by cases e;exact q
 |i::is,t,p,e,q=>by
  obtain⟨u,hu,e2⟩:=mS.mp (show (t.kid i).bind _=some p from e);refine zHa is u p e2 ?_;have h:=zEk hu;generalize i.toNat=j at h;cases t with
  |say a=>match j,h with|0,h=>cases h;exact q
  |bin o a b=>match j,h with
   |0,h=>cases h;exact q.1
   |1,h=>cases h;exact q.2
  |ite a b c=>match j,h with
   |0,h=>cases h;exact q.1
   |1,h=>cases h;exact q.2.1
   |2,h=>cases h;exact q.2.2
  |lett x a b=>match j,h with
   |0,h=>cases h;exact q.2.1
   |1,h=>cases h;exact q.2.2
  |_=>cases h
theorem zNc {t t' q:Tr}(h:skT t'=skT t) (hq:q∈t'.subs):∃p∈t.subs,cnt1 p=cnt1 q:=by
 have h1:skT q∈(skT t').subs:=by rw[zBc];exact mD.mpr ⟨q,hq,rfl⟩
 rw[h,zBc] at h1;obtain⟨p,hp,e⟩:=mD.mp h1;exact⟨p,hp,by rw[←zKm p,e,zKm]⟩
end L2
namespace PySem
open Sem (wp)
end PySem
namespace PySem.W
open PySem
end PySem.W
namespace PySem
open PySem.Spec PyProof.Rows Builtin
namespace DZ
theorem no_keys:typeLookup (.type "zip") "keys" = pure none:=am_miss_of_fast (by left)
theorem zI1:typeLookup (.type "zip") "__getattr__" = pure none:=by rw[typeLookup_type,builtinLookup_eq_fast];kernel_rfl
theorem zL0:entryFor table "zip.__getattribute__" = some Builtin.«object.__getattribute__»:=entryFor_alias (id' := "object.__getattribute__") (by kernel_rfl) (by left) (by left) (by kernel_rfl)
theorem zI5 (a:Addr) (fs:Array Value) (sl:Array (Option Value)) (name:Str) (u:Tok) (hmiss:typeLookup (.type "zip") name=pure none) (hname:(["__module__", "__name__", "__qualname__", "__doc__", "__annotations__"]:List Str).contains name=false) (hsz:name.length+100<=sizeLine:=by size_fits) :
  Meets (Builtin.«object.__getattribute__» ⟨[.ref a,.str name u],[]⟩) (λ A R s=>s.heap.get? a=some { cls:=.type "zip", dict:=none,data:=.fields fs,slots:=sl }/\raisesAttr (.ref a) name A R s) :=
 Meets.of_wp λ prog w A R s hs=>by
  obtain⟨hp,g,d,tk,os⟩:=s;obtain⟨hx,hs⟩:=hs;have hT:(⟨hp,g,d,tk,os⟩:Shared).TypeIs (.ref a) "zip" := ⟨_,hx,rfl⟩;unfold Builtin.«object.__getattribute__»
  repeat (any_goals (first|assumption|wp_step))
  simp only[hname,Bool.false_eq_true,if_false]
  repeat (any_goals (first|assumption|wp_step))
  exact wpAny_raiseAttrError hs.1 hs.2 (attrMsg_fits (by left) hsz)
theorem ask_miss {prog:Program}{w:World}{A:Around}{E:XQ}{s:Shared}{a:Addr}{fs:Array Value}{sl:Array (Option Value)}{name:Str}{Q:Option Value->Shared->Prop}
  (hx:s.heap.get? a=some { cls:=.type "zip", dict:=none,data:=.fields fs,slots:=sl }) (hmiss:typeLookup (.type "zip") name=pure none)
  (hname:(["__module__", "__name__", "__qualname__", "__doc__", "__annotations__"]:List Str).contains name=false) (hA:A.handled=none) (hsz:name.length+100<=sizeLine)
  (h:∀h' tk,(∀b ob,s.heap.get? b=some ob->h'.get? b=some ob)->Q none { s with heap:=h',toks:=tk }):wpAny (model prog w) A (getAttr? (.ref a) name) Q E s:=by
 obtain⟨hp,g,d,tk,os⟩:=s;have hT:∀tk',(⟨hp,g,d,tk',os⟩:Shared).TypeIs (.ref a) "zip" := λ Ω=>⟨_,hx,rfl⟩;have f1:=sub_AttributeError;have f3:=F.slot_zip_getattribute.lookup;have f4:=F.slot_zip_getattribute.bind (.ref a);have f5:=zI1;unfold getAttr? getAttrBy? getAttrBy
 repeat (any_goals (first|assumption|exact hT _|((with_reducible show wpAny _ _ (call (Value.builtin "zip.__getattribute__") _ _) _ _ _);refine call_meets F.slot_zip_getattribute (hT _) zL0 (F.args_zip_getattribute_2 _ _) (zI5 a fs sl name _ hmiss hname hsz) ⟨hx,hA,λ h' tk' e hx'=>?_⟩)|wp_step))
 obtain⟨t',u',he⟩:=hx'.there;show wpAny _ _ (getattributeRaised _ _ _ _ _ _ _) _ _ _;unfold getattributeRaised
 repeat (any_goals (first|assumption|wp_step))
 all_goals first
  |exact h _ _ hx'.keeps
  |skip
end DZ
end PySem
namespace L2
open PySem PySem.Spec PyProof.Rows
theorem zHW (l1 l2:Addr) (xs ys:Array Value) :
    Meets (Builtin.«zip.__new__» ⟨[.type "zip", .ref l1,.ref l2],[]⟩) (λ Ω R s=>s.heap.IsTuple l1 xs/\s.heap.IsList l2 ys /\
      ∀(h':Heap) (z TI TO i1 i2:Addr),(∀c o,s.heap.get? c=some o->h'.get? c=some o)->s.heap.objs.size<=z->s.heap.objs.size<=TI->s.heap.objs.size<=TO->s.heap.objs.size<=i1->s.heap.objs.size<=i2 ->
        (TI≠z/\TO≠z/\i1≠z/\i2≠z/\TI≠TO/\TI≠i1/\TI≠i2/\TO≠i1/\TO≠i2/\i1≠i2)->IsZip h' z TI TO .none->IsPair h' TI (.ref i1) (.ref i2)->IsPair h' TO .none .none->h'.IsTupleIter i1 l1 0->h'.IsListIter i2 l2 0 ->
        R (.ok (.ret (.ref z))) { s with heap:=h' }) :=
  .of_wp λ prog w A R s h=>by
    obtain⟨hp,g,d,tk,os⟩:=s;obtain⟨hl1,hl2,h⟩:=h;have hsub:=sub_zip;have hL1:Heap.IsTuple (Shared.heap ⟨hp,g,d,tk,os⟩) l1 xs:=hl1;have hL2:Heap.IsList (Shared.heap ⟨hp.push { cls:=.type "tuple_iterator", data:=.fields #[.ref l1,.int 0 0] },g,d,tk,os⟩) l2 ys:=let ⟨o,ho,r⟩:=hl2;⟨o,lE _ ho,r⟩
    wp_walk using wpAny_pyIter_tuple hL1,wpAny_pyIter_list hL2
    refine⟨_,rfl,h _ _ _ _ _ _ (λ c o e=>lE _ (lE _ (lE _ (lE _ (lE _ e))))) ?_ ?_ ?_ ?_ ?_ ?_ (lG _ rfl) (lE _ (lE _ (lG _ rfl))) (lE _ (lG _ rfl))
      ⟨_,lE _ (lE _ (lE _ (lE _ (lG _ rfl)))),rfl,rfl⟩ ⟨_,lE _ (lE _ (lE _ (lG _ rfl))),rfl,rfl⟩⟩
    all_goals simp only[Heap.size_push]
    all_goals first
      |omega
      | (refine⟨?_,?_,?_,?_,?_,?_,?_,?_,?_,?_⟩<;>(intro e;have e' : @Eq Nat _ _:=e;omega))
section
variable {prog:Program}{w:World}{A:Around}{E:XQ}{s:Shared}
theorem zJA {l1 l2:Addr}{xs ys:Array Value}{Q:XQ}(hl1:s.heap.IsTuple l1 xs) (hl2:s.heap.IsList l2 ys)
  (h:∀(h':Heap) (z TI TO i1 i2:Addr),(∀c o,s.heap.get? c=some o->h'.get? c=some o)->s.heap.objs.size<=z->s.heap.objs.size<=TI->s.heap.objs.size<=TO->s.heap.objs.size<=i1->s.heap.objs.size<=i2 ->
    (TI≠z/\TO≠z/\i1≠z/\i2≠z/\TI≠TO/\TI≠i1/\TI≠i2/\TO≠i1/\TO≠i2/\i1≠i2)->IsZip h' z TI TO .none->IsPair h' TI (.ref i1) (.ref i2)->IsPair h' TO .none .none->h'.IsTupleIter i1 l1 0->h'.IsListIter i2 l2 0->Q (.ref z) { s with heap:=h' }) :
  wpAny (model prog w) A (call (.type "zip") [.ref l1,.ref l2]) Q E s:=by
 refine callType_new F.called_zip (by decide) (F.typeCall_zip_2 _ _) (F.newCall_zip_2 _ _) (λ obj=>F.args_object_init_3 obj _ _) F.entry_zip_new (zHW l1 l2 xs ys) ⟨hl1,hl2,λ h' z TI TO i1 i2 a0 a1 a2 a3 a4 a5 a6 a7 a8 a9 b1 b2=>?_⟩;exact⟨⟨_,a7,rfl⟩,h h' z TI TO i1 i2 a0 a1 a2 a3 a4 a5 a6 a7 a8 a9 b1 b2⟩
end
section
variable {prog:Program}{w:World}{K:Type} [DecidableEq K] {knd:KeyKind prog w K}{A:Around}{R:Result->Shared->Prop}{E:XQ}
theorem zNJ {h0:Heap}{d z TI TO i1 i2 l1 l2:Addr}{n1 n2:Nat}{P1 P2:Nat->Value->Prop}{S1 S2:Nat->Heap->Prop}{prs:List (K × Value)}(hh:A.handled=none) (D:ZipApart z TI TO i1 i2 l1 l2) (W1:Drs prog w i1 l1 n1 P1 S1) (W2:Drs prog w i2 l2 n2 P2 S2)
  (hd0:∀x∈[z,TI,TO,i1,i2,d],h0.objs.size<=x) (hdn:d≠z/\d≠TI/\d≠TO/\d≠i1/\d≠i2/\d≠l1/\d≠l2) (hl:prs.length=min n1 n2) (hk:∀j x kv,P1 j x->prs[j]?=some kv->knd.is kv.1 x=true) (hv:∀j y kv,P2 j y->prs[j]?=some kv->y=kv.2) (hsz:prs.length<=sizeLine) :
  ∀(n i:Nat) (s:Shared),min n1 n2 - i=n->i<=min n1 n2->(∀b o,h0.get? b=some o->s.heap.get? b=some o)->ZipS s.heap z TI TO->IsPair s.heap TI (.ref i1) (.ref i2)->(∃p q,IsPair s.heap TO p q)->S1 i s.heap->S2 i s.heap->s.heap.DictOf knd d (merged [] (prs.take i)) ->
   (∀h' tk,(∀b o,h0.get? b=some o->h'.get? b=some o)->h'.DictOf knd d (merged [] prs)->R (.ok (.ret .none)) { s with heap:=h',toks:=tk }) ->
   codeAny (model prog w) A (.builtin "dict.update.loop" ⟨[.ref d,.ref z,.int (i:Int) 0,.none],[]⟩) R s:=by
 obtain⟨dz,dTI,dTO,di1,di2,dl1,dl2⟩:=hdn;have kz:∀{b:Addr}{o:Obj},h0.get? b=some o->∀x∈[z,TI,TO,i1,i2,d],b≠x:=λ e x hx y=>absurd (lH e) (by rw[y];exact Nat.not_lt.mpr (hd0 x hx));intro n
 induction n with
 |zero =>
  intro i s hn hi kp hz hTI hTO h1 h2 hd hR;obtain⟨p,q,hTO⟩:=hTO;have e:i=min n1 n2:=by omega
  refine codeAny_builtin F.dul_entry ?_;rw[Around.under_plainId F.dul_plain _];refine lA (zHk (k:=i) (show A.in1.handled=none from hh) D W1 W2 hz hTI hTO h1 h2 (by omega) λ h' tk hkp=>?_);show wpAny _ _ (Builtin.Dict.addKeywords d [] >>= _) _ _ _;refine lA (lB (lB (hR h' tk (λ b o hb=>hkp b o (kz hb z (by simp)) (kz hb TO (by simp)) (kz hb i1 (by simp)) (kz hb i2 (by simp)) (kp b o hb)) ?_)));rw[e,←hl,mP] at hd;obtain⟨o,es,ep,ho,rest⟩:=hd;exact⟨o,es,ep,hkp d o dz dTO di1 di2 ho,rest⟩
 |succ n ih =>
  intro i s hn hi kp hz hTI hTO h1 h2 hd hR;obtain⟨p,q,hTO⟩:=hTO;have hlt:i<prs.length:=by omega
  obtain⟨kv,ekv⟩:∃kv,prs[i]?=some kv:=⟨_,lX hlt⟩;refine codeAny_builtin F.dul_entry ?_;rw[Around.under_plainId F.dul_plain _];refine lA (zGG (k:=i) (show A.in1.handled=none from hh) D W1 W2 hz hTI hTO h1 h2 (by omega) (by omega) λ h' tk x y p1 p2 hz' hTO' s1 s2 hpr hkp=>?_);have ey:y=kv.2:=hv i y kv p2 ekv;subst ey;have hkey:=hk i x kv p1 ekv;have lt:∀{b:Addr}{o:Obj},s.heap.get? b=some o->b≠s.heap.objs.size:=λ e=>lR (lH e);refine lA (lD (lA (wpAny_tryCatch ?_)));unfold Builtin.Dict.pairItems;have htp:h'.IsTuple s.heap.objs.size #[x,kv.2]:=⟨_,hpr,rfl,_,rfl⟩;refine lA (wpAny_typeOf (s:={ s with heap:=h',toks:=tk }) (v:=.ref s.heap.objs.size) (T := "tuple") htp.typeIs ?_);rw[if_pos (by decide)];obtain⟨o2,ho2,hc2,n2',hd2⟩:=htp;refine lA (wpAny_seqItems ho2 hd2 (lB ?_))
  have hd1:h'.DictOf knd d (merged [] (prs.take i)):=by
   obtain⟨o,es,ep,ho,rest⟩:=hd;exact⟨o,es,ep,hkp d o dz dTO di1 di2 ho,rest⟩
  have hml:(merged [] (prs.take i)).length<=sizeLine:=by
   have e1:=merged_length_le ([]:List (K × Value)) (prs.take i);rw[List.length_nil,mO] at e1;omega
  show wpAny _ _ (holding [x,kv.2] (dictSet d x kv.2)) _ _ _;refine lD (wpAny_dictSet_pairs (hsz:=hml) hkey hd1 λ h2' hd2' hs2=>?_);refine lB ⟨plainId_quiet F.dul_plain _,?_⟩;have kb:∀{b:Addr}{o:Obj},b≠d->h'.get? b=some o->h2'.get? b=some o:=λ n e=>hs2.extBut _ _ n e;have hz2:ZipS h2' z TI TO:=by obtain⟨f0,f1,a,b⟩:=hz';exact⟨f0,f1,kb (Ne.symm dz) a,b⟩
  have hTI2:IsPair h2' TI (.ref i1) (.ref i2):=kb (Ne.symm dTI) (hkp TI _ D.1 D.TITO D.TIi1 D.TIi2 hTI);have hTO2:∃p q,IsPair h2' TO p q:=by obtain⟨p,q,e⟩:=hTO';exact⟨p,q,kb (Ne.symm dTO) e⟩
  have s12:S1 (i+1) h2':=(W1 A hh).frame _ _ _ s1 λ b hb o e=>by
   rcases lN.mp hb with r|hb
   ·exact kb (r▸Ne.symm di1) e
   ·exact kb (mR.mp hb▸Ne.symm dl1) e
  have s22:S2 (i+1) h2':=(W2 A hh).frame _ _ _ s2 λ b hb o e=>by
   rcases lN.mp hb with r|hb
   ·exact kb (r▸Ne.symm di2) e
   ·exact kb (mR.mp hb▸Ne.symm dl2) e
  refine ih (i+1) _ (by omega) (by omega) (λ b o hb=>kb (kz hb d (by simp)) (hkp b o (kz hb z (by simp)) (kz hb TO (by simp)) (kz hb i1 (by simp)) (kz hb i2 (by simp)) (kp b o hb))) hz2 hTI2 hTO2 s12 s22 ?_ λ h' tk k' d'=>hR h' tk k' d';rw[merged_take_succ [] prs i kv ekv];exact hd2'
end
section
variable {prog:Program}{w:World}{K:Type} [DecidableEq K] {knd:KeyKind prog w K}{A:Around}{E:XQ}
theorem zGD {s:Shared}{h0:Heap}{z TI TO i1 i2 l1 l2:Addr}{n1 n2:Nat}{P1 P2:Nat->Value->Prop}{S1 S2:Nat->Heap->Prop}{prs:List (K × Value)}{Q:XQ}(hA:A.handled=none) (D:ZipApart z TI TO i1 i2 l1 l2) (W1:Drs prog w i1 l1 n1 P1 S1) (W2:Drs prog w i2 l2 n2 P2 S2)
  (hz:ZipS s.heap z TI TO) (hTI:IsPair s.heap TI (.ref i1) (.ref i2)) (hTO:∃p q,IsPair s.heap TO p q) (h1:S1 0 s.heap) (h2:S2 0 s.heap) (k0:∀b o,h0.get? b=some o->s.heap.get? b=some o) (hle:h0.objs.size<=s.heap.objs.size) (hd0:∀x∈[z,TI,TO,i1,i2],h0.objs.size<=x/\x<s.heap.objs.size) (hll:l1<s.heap.objs.size/\l2<s.heap.objs.size)
  (hl:prs.length=min n1 n2) (hk:∀j x kv,P1 j x->prs[j]?=some kv->knd.is kv.1 x=true) (hv:∀j y kv,P2 j y->prs[j]?=some kv->y=kv.2) (hsz:prs.length<=sizeLine)
  (h:∀h' tk,(∀b o,h0.get? b=some o->h'.get? b=some o)->h'.DictOf knd s.heap.objs.size (merged [] prs)->Q (.ref s.heap.objs.size) { s with heap:=h',toks:=tk }) :
  wpAny (model prog w) A (call (.type "dict") [.ref z]) Q E s:=by
 refine callType_codes (Q₁:=λ obj s₁=>obj = .ref s.heap.objs.size/\s₁={ s with heap:=s.heap.push { cls:=.type "dict", data:=.dict #[] } }) F.kt_called_dict (F.kt_typeCall_dict_1 _) F.entry_dict_init (kt_code_dict_new _ ⟨rfl,rfl⟩) ?_;rintro obj s₁ ⟨rfl,rfl⟩;have hnew:(s.heap.push { cls:=.type "dict", data:=.dict #[] }).DictOf knd s.heap.objs.size []:=Heap.DictOf.new s.heap;have kp0:∀b o,s.heap.get? b=some o->(s.heap.push { cls:=.type "dict", data:=.dict #[] }).get? b=some o:=λ b o hb=>lE _ hb;obtain⟨f0,f1,hzf,hf⟩:=hz;have hz0:=kp0 _ _ hzf;refine⟨hnew.typeIs,F.args_dict_init_2 _ _,?_⟩;unfold Builtin.«dict.__init__»;refine lA ?_;unfold Builtin.Dict.selfAndRest;refine lA (wpAny_notOrdered_dict hnew.typeIs ?_);show wpAny _ _ (pure (s.heap.objs.size,[Value.ref z])) _ _ _;refine lB ?_;show wpAny _ _ (Builtin.Dict.updateFrom "dict.__init__" s.heap.objs.size (.ref z) [] .none) _ _ _;unfold Builtin.Dict.updateFrom;refine lA (wpAny_typeOf (v:=.ref z) (T := "zip") ⟨_,hz0,rfl⟩ ?_);rw[if_pos (by decide)];refine lA (DZ.ask_miss hz0 DZ.no_keys (by left) hA (by size_fits) λ h1' tk kp1=>?_);rw[if_pos (show (Option.none:Option Value).isNone=true from rfl)];have kp01:∀b o,s.heap.get? b=some o->h1'.get? b=some o:=λ b o hb=>kp1 b o (kp0 b o hb);refine lA (wpAny_rule ?_);have hz1:ZipS h1' z TI TO:=⟨f0,f1,kp01 _ _ hzf,hf⟩;refine lA (zHg hz1 ?_)
 have hd1:h1'.DictOf knd s.heap.objs.size []:=by
  obtain⟨o,es,ep,ho,rest⟩:=hnew;exact⟨o,es,ep,kp1 _ _ ho,rest⟩
 have ne:∀x∈[z,TI,TO,i1,i2],s.heap.objs.size≠x:=λ x hx=>Ne.symm (lR (hd0 x hx).2);refine lB ⟨plainId_quiet F.dul_plain _,?_⟩;refine zNJ (h0:=h0) (knd:=knd) (A:=A.in1) (n1:=n1) (n2:=n2) (P1:=P1) (P2:=P2) (S1:=S1) (S2:=S2) hA D W1 W2 (λ x hx=>?_) ⟨ne z (by simp),ne TI (by simp),ne TO (by simp),ne i1 (by simp),ne i2 (by simp),Ne.symm (lR hll.1),Ne.symm (lR hll.2)⟩ hl hk hv hsz (min n1 n2) 0 _ (by omega) (lZ _) (λ b o hb=>kp01 b o (k0 b o hb)) hz1 (kp01 _ _ hTI) ?_ ((W1 A hA).frame _ _ _ h1 λ b Ω o e=>kp01 b o e) ((W2 A hA).frame _ _ _ h2 λ b Ω o e=>kp01 b o e) hd1 λ h' tk' k' d'=>?_
 ·simp only[nN,nB,or_false] at hx
  rcases hx with r|r|r|r|r|r
  ·exact(hd0 x (by simp[r])).1
  ·exact(hd0 x (by simp[r])).1
  ·exact(hd0 x (by simp[r])).1
  ·exact(hd0 x (by simp[r])).1
  ·exact(hd0 x (by simp[r])).1
  ·rw[r];exact hle
 ·obtain⟨p,q,e⟩:=hTO
  exact⟨p,q,kp01 _ _ e⟩
 ·exact⟨rfl,h h' tk' k' d'⟩
end
noncomputable def zipK (xs:List Str) (ys:List V):List (Key × V):=(xs.zip ys).map λ p=>((Sum.inr p.1:Key),p.2)
def zK8 (ta:TA):TE:=λ σ H Q=>ta σ H λ vs H1=>∃(a b:Addr) (xs:List Str) (ys:List V),vs=[.ref a,.ref b]/\H1 a=some (.tup (xs.map V.str))/\H1 b=some (.lst ys)/\xs.length<=1000/\∀d,H1 d=none->Q (.ref d) (upd H1 d (.dK (zAw [] (zipK xs ys))))
theorem zIr {X:Cx}{a b:Expr}{ta:TA}{p p2 pos pos2:Pos}(hc:X.calm=true) (hg:Gl X "dict") (hm:X.mg "dict" = none) (hg2:Gl X "zip") (hm2:X.mg "zip" = none) (ha:PA X [a,b] ta) (hs:starEach [a,b] X.env=[(false,eval a X.env),(false,eval b X.env)]:=by rfl) (hs2:starEach [b] X.env=[(false,eval b X.env)]:=by rfl)
  (hs3:starEach [Expr.Call (.Name "zip" p2) [a,b] [] pos2] X.env=[(false,eval (Expr.Call (.Name "zip" p2) [a,b] [] pos2) X.env)]:=by rfl) :
  PE X (.Call (.Name "dict" p) [.Call (.Name "zip" p2) [a,b] [] pos2] [] pos) (zK8 ta):=by
 intro jP s σ H Q I h;refine Call_ (zCr I hg hm rN (PyProof.Rows.callWith_type1 ?_ hs3 rfl));rw[hs3];show wpAny _ _ (spliced [(false,eval (Expr.Call (.Name "zip" p2) [a,b] [] pos2) X.env)]) _ _ s;refine Calls.spliced_cons ?_;refine Call_ (zCr I hg2 hm2 zEz (PyProof.Rows.callWith_type1 (thn (ha pos2 jP s σ H _ I h) λ us s1 ⟨vs,H1,I1,r1,q1⟩=>?_) (by rw[hs,hs2]) (by rw[hs2];rfl)));obtain⟨la,lb,xs,ys,e,h1,h2,hx,q⟩:=q1;subst e;obtain⟨u1,u2,rfl,ru1,ru2⟩:=vals2 r1;cases ru1;cases ru2;obtain⟨its,rv,t1,_⟩:=I1.tuple (SqT.of h1);obtain⟨its2,rv2,t2,_⟩:=I1.list (SqL.of h2);have e1:=rv.length;have e2:=rv2.length;rw[lC] at e1;refine zJA (show s1.heap.IsTuple la its.toArray from t1) t2.isList λ h' z TI TO i1 i2 a0 a1 a2 a3 a4 a5 a6 a7 a8 a9 b1 b2=>?_;refine Calls.spliced_nil ?_;have lla:la<s1.heap.objs.size:=let ⟨o,e,_⟩:=t1;lH e;have llb:lb<s1.heap.objs.size:=let ⟨o,_,e,_⟩:=t2;lH e;obtain⟨n1,n2,n3,n4,n5,n6,n7,n8,n9,n10⟩:=a6
 have D:ZipApart z TI TO i1 i2 la lb:=⟨n1,n2,n3,n4,n5,n6,n7,n8,n9,n10,lR (mB lla a1),lR (mB lla a3),lR (mB lla a4),lR (mB lla a5),
  lR (mB llb a1),lR (mB llb a3),lR (mB llb a4),lR (mB llb a5)⟩
 have L1:h'.IsTuple la its.toArray:=let ⟨o,e,r⟩:=t1;⟨o,a0 _ _ e,r⟩;have L2:h'.IsList lb its2.toArray:=let ⟨o,n,e,r⟩:=t2;PlainL.isList ⟨o,n,a0 _ _ e,r⟩;have hge:s1.heap.objs.size<=h'.objs.size:=mH a1 (Nat.le_of_lt (lH a7))
 have lz:∀x∈[z,TI,TO,i1,i2],s1.heap.objs.size<=x/\x<h'.objs.size:=λ x hx=>by
  simp only[nN,nB,or_false] at hx;rcases hx with rfl|rfl|rfl|rfl|rfl
  ·exact⟨a1,lH a7⟩
  ·exact⟨a2,lH a8⟩
  ·exact⟨a3,lH a9⟩
  ·obtain⟨_,e,_⟩:=b1;exact⟨a4,lH e⟩
  ·obtain⟨_,e,_⟩:=b2;exact⟨a5,lH e⟩
 let prs:List (Key × Value):=(xs.zip its2).map λ p=>((Sum.inr p.1:Key),p.2)
 have lp:prs.length=min its.toArray.size its2.toArray.size:=by simp[prs];omega
 have get:∀(j:Nat) (kv:Key × Value),prs[j]?=some kv->∃x y,xs[j]?=some x/\its2[j]?=some y/\kv=(Sum.inr x,y):=λ j kv e=>by
  have e':((xs.zip its2).map λ p=>((Sum.inr p.1:Key),p.2))[j]?=some kv:=e;rw[mI] at e';obtain⟨pq,e1,e2⟩:=lV.mp e';obtain⟨g1,g2⟩:=List.getElem?_zip_eq_some.mp e1;exact⟨pq.1,pq.2,g1,g2,e2.symm⟩
 have kvr:KV (zipK xs ys) prs:=by
  have key:∀(xs:List Str) {ys:List V}{us:List Value},Vals ys us->KV (zipK xs ys) ((xs.zip us).map λ p=>((Sum.inr p.1:Key),p.2)):=by
   intro xs
   induction xs with
   |nil=>intro ys us _;exact .nil
   |cons x xs ih =>
    intro ys us r;cases r with
    |nil=>exact .nil
    |cons r t=>exact .cons ⟨rfl,r⟩ (ih t)
  exact key xs rv2
 have hm2':(zAw [] (zipK xs ys)).length<=sizeLine:=by
  have:=zBU (zipK xs ys) [];have l2:(zipK xs ys).length<=xs.length:=by unfold zipK;rw[lC,List.length_zip];omega
  rw[List.length_nil] at this;exact zAm (by omega)
 refine zGD (s:={ s1 with heap:=h' }) (h0:=s1.heap) (knd:=zAd X.prog X.w) (prs:=prs) (I1.ok.hd hc) D (zKb i1 la D.l1i1 its.toArray) (zIX i2 lb D.l2i2 its2.toArray) ⟨_,_,a7,.inl rfl⟩ a8 ⟨_,_,a9⟩ ⟨b1,L1⟩ ⟨b2,L2⟩ a0 hge lz ⟨mB lla hge,mB llb hge⟩ lp (λ j x kv hx ekv=>?_) (λ j y kv hy ekv=>?_) ?_ λ h2 tk k2 d2=>?_
 ·obtain⟨x0,y0,g1,g2,rfl⟩:=get j kv ekv
  have g1':(xs.map V.str)[j]?=some (.str x0):=by rw[mI,g1];rfl
  obtain⟨u,eu,ru⟩:=rv.get g1'
  have:u=x:=by
   have:its[j]?=some x:=by simpa using hx
   rw[eu] at this;exact mF this
  subst this;exact kV_is (k:=(Sum.inr x0:Key)) ru
 ·obtain⟨x0,y0,g1,g2,rfl⟩:=get j kv ekv
  have:its2[j]?=some y:=by simpa using hy
  rw[g2] at this;exact(mF this).symm
 ·rw[lp]
  exact zAm (by simp;omega)
 ·have hn:H1 h'.objs.size=none:=I1.hok.fresh hge
  have hb:s1.heap.objs.size<=h'.objs.size:=hge;refine⟨.ref h'.objs.size,_,I1.laid (a:=h'.objs.size) (o:=.dK (zAw [] (zipK xs ys))) (t':=tk) k2 hge (zFU hm2' (beq_eq_false_iff_ne.mpr (Ne.symm (lR (mB I1.big hge)))) (kvr.merge .nil) d2),rfl,q _ hn⟩
end L2
namespace PySem
open Sem (wp)
end PySem
namespace PySem.W
open PySem PySem.Spec PySem.Calls PyProof.Rows Builtin Builtin.ObjectAttr
end PySem.W
namespace L2
open PySem PySem.W PyProof.Rows
open PySem.Spec
instance:DecidableEq Dt:=λ d e=>decidable_of_iff (Dt.beq d e=true) Dt.beq_iff
mutual
inductive DA (h:Heap):Dt->Value->Prop
 |int (i:Int) (t:Tok):DA h (.int i) (.int i t)
 |str (x:Str) (t:Tok):DA h (.str x) (.str x t)
 |tup {a:Addr}{items:Array Value}{ds:List Dt}:h.IsTuple a items->DAs h ds items.toList->DA h (.tup ds) (.ref a)
inductive DAs (h:Heap):List Dt->List Value->Prop
 |nil:DAs h [] []
 |cons {d:Dt}{u:Value}{ds:List Dt}{us:List Value}:DA h d u->DAs h ds us->DAs h (d::ds) (u::us)
end
mutual
noncomputable def Dt.hsh (w:World):Dt->Int
 |.int i=>hashInt i
 |.str x=>hashStr w x
 |.tup ds=>reduceHash (Builtin.Tuple.tupleHashOf (Dt.hshs w ds))
noncomputable def Dt.hshs (w:World):List Dt->List Int
 |[]=>[]
 |d::ds=>Dt.hsh w d::Dt.hshs w ds
end
mutual
noncomputable def Dt.draws:Dt->Nat
 |.int _=>1
 |.str _=>1
 |.tup ds=>Dt.drawss ds+1
noncomputable def Dt.drawss:List Dt->Nat
 |[]=>0
 |d::ds=>Dt.draws d+Dt.drawss ds
end
noncomputable def strLt (x y:Str):Bool:=decide (x.cps.toList<y.cps.toList)
mutual
noncomputable def Dt.lt:Dt->Dt->Bool
 |.int i,.int j=>decide (i<j)
 |.str x,.str y=>strLt x y
 |.tup ds,.tup es=>Dt.lts ds es
 |.int _,.str _=>true
 |.int _,.tup _=>true
 |.str _,.tup _=>true
 |.str _,.int _=>false
 |.tup _,.int _=>false
 |.tup _,.str _=>false
noncomputable def Dt.lts:List Dt->List Dt->Bool
 |[],[]=>false
 |[],_::_=>true
 |_::_,[]=>false
 |d::ds,e::es=>if Dt.beq d e=true then Dt.lts ds es else Dt.lt d e
end
inductive Ty where
 |int|str|many (t:Ty)|two (a b:Ty)
mutual
noncomputable def Dt.has:Ty->Dt->Bool
 |.int,.int _=>true
 |.str,.str _=>true
 |.many t,.tup ds=>Dt.hass t ds
 |.two a b,.tup ds=>Dt.hasp a b ds
 |_,_=>false
noncomputable def Dt.hass:Ty->List Dt->Bool
 |_,[]=>true
 |t,d::ds=>Dt.has t d && Dt.hass t ds
noncomputable def Dt.hasp:Ty->Ty->List Dt->Bool
 |a,b,d::es=>Dt.has a d && Dt.hasq b es
 |_,_,_=>false
noncomputable def Dt.hasq:Ty->List Dt->Bool
 |b,e::es=>Dt.has b e && (es.length == 0)
 |_,_=>false
end
mutual
noncomputable def Dt.cmp:Dt->Dt->Bool
 |.int _,.int _=>true
 |.str _,.str _=>true
 |.tup ds,.tup es=>Dt.cmps ds es
 |_,_=>false
noncomputable def Dt.cmps:List Dt->List Dt->Bool
 |[],_=>true
 |_::_,[]=>true
 |d::ds,e::es=>if Dt.beq d e=true then Dt.cmps ds es else Dt.cmp d e
end
open PySem.Calls
open AutoSeq1 (wpAny_loadPart')
structure LtE (M:Model) (A:Around) (E:XQ) (s:Shared) (κ:SortKind) (G:Keyed->Prop) (R:Keyed->Keyed->Bool):Prop where
 lt:∀x y,G x->G y->∀(st:SortSt) (Q:Option Bool->SortSt->Prop),kindOf st=κ->Q (some (R x y)) st->wpS M A E s (lt' x y) Q st
 asym:∀x y,G x->G y->R x y=true->R y x=false
 tr:∀x y z,G x->G y->G z->R x y=false->R y z=false->R x z=false
section
variable {M:Model}{A:Around}{E:XQ}{s:Shared}{κ:SortKind}{G:Keyed->Prop}{R:Keyed->Keyed->Bool}
abbrev d0:Keyed:=(.none,.none)
end
section
variable {M:Model}{A:Around}{E:XQ}{s:Shared}{κ:SortKind}{G:Keyed->Prop}{R:Keyed->Keyed->Bool}
end
open Classical in
noncomputable def dtOf (h:Heap) (v:Value):Dt:=if e:∃d,DA h d v then e.choose else .tup []
abbrev XN:=List (Dt × Addr × V)
noncomputable def prs (xs:XN):List (Dt × V):=xs.map λ x=>(x.1,x.2.2)
end L2
namespace PySem
open Sem (wp)
end PySem
namespace PySem.W
open PySem
end PySem.W
namespace L2
open PySem PySem.Calls PySem.Spec PyProof.Rows PySem.W
end L2
namespace PyProof.Rows
open PySem PySem.Calls
end PyProof.Rows
namespace L2
open PySem PySem.Calls PySem.Spec PyProof.Rows PySem.W
theorem zEC (x:Str):Str.empty++x=x:=by
 show (⟨#[]++x.cps⟩:Str)=x;simp
def tFStr (te:TE) (y:Str):TE:=λ σ H Q=>te σ H λ v H1=>∃x:Str,v = .str x/\y.length+x.length<=sizeLine/\Q (.str (y++x)) H1
theorem zMo {X:Cx}{e:Expr}{te:TE}{y:Str}{j} {p1 p2 pos:Pos}(he:PE X e te) (hy:y.length<=1000:=by left):PE X (.JoinedStr [.Constant (.str y) j p2,.FormattedValue e (-1) none p1] pos) (tFStr te y):=by
 intro jP s σ H Q I h;refine wpAny_JoinedStr ?_;show wpAny _ _ (eval (.Constant (.str y) j p2) X.env) _ _ s;have e0:Str.empty++y=y:=zEC _;refine Calls.Constant_str ⟨y,_,rfl,?_,?_⟩
 ·rw[e0];exact mH hy (by decide)
 ·show wpAny _ _ (eval (.FormattedValue e (-1) none p1) X.env) _ _ _
  refine wpAny_FormattedValue_plain (thn (he jP _ σ H _ (I.tok _) h) λ v s1 ⟨u,H1,I1,r1,x,ex,hx,q⟩=>?_);subst ex;obtain⟨t,rfl⟩:=r1
  have fin:∀(t':Tok) (tk:Nat),∃z u',(Value.str x t':Value) = .str z u'/\(Str.empty++y++z).length<=sizeLine/\Joins (model X.prog X.w) X.A X.xe (evalEach [] X.env) (Str.empty++y++z) (λ out s₁=>out.length<=sizeLine/\EP X jP σ Q (.str out s₁.toks) { s₁ with toks:=s₁.toks+1 }) { s1 with toks:=tk }:=λ t' tk=>by
   refine⟨_,t',rfl,by rw[e0,strLen_append];exact hx,?_⟩;rw[e0];exact⟨by rw[strLen_append];exact hx,.str (y++x),H1,I1.tok _,⟨_,rfl⟩,q⟩
  exact wpAny_formatField_str (fin _ _) (fin _ _) (by omega)
theorem zJI {G:Str->Prop}:∀{ns:List Str}{las:List Atom}{τ:Told},(∀x a,τ x=some a->a.good G)->(∀b∈las,b.good G)->∀x a,tzF τ (ns.zip las) x=some a->a.good G
 |[],_,_,h,_=>h
 |_::_,[],_,h,_=>h
 |n::ns,b::las,τ,h,k=>zJI (ns:=ns) (las:=las) (τ:=setT τ n b) (λ x a e=>by
  unfold setT at e
  by_cases z:x=n
  ·rw[if_pos z] at e
   cases e;exact k b lO
  ·rw[if_neg z] at e
   exact h x a e) λ c hc=>k c (lP _ hc)
theorem zHj:∀(ns:List Str) (vs:List V),(zipK ns vs).length<=ns.length
 |[],_=>by simp[zipK]
 |_::_,[]=>by simp[zipK]
 |n::ns,v::vs=>by
  show (zipK ns vs).length+1<=ns.length+1;have:=zHj ns vs;omega
theorem zM5 {H:Hp}{τ:Told}{kvs:List (Key × V)}{n:Str}{a:Atom}{v:V}(h:Lv H τ kvs) (r:AtRep H a v):Lv H (setT τ n a) (putK kvs (Sum.inr n:Key) v):=by
 refine⟨λ p hp=>?_,λ x=>?_⟩
 ·rcases zEt hp with rfl|hp
  ·exact⟨n,a,rfl,r⟩
  ·exact h.ks p hp
 ·rw[zDO]
  unfold setT
  by_cases e:x=n
  ·rw[if_pos e,if_pos (by rw[e])]
   exact r
  ·rw[if_neg e,if_neg (λ z=>e (Sum.inr.inj z))]
   exact h.vl x
theorem zIJ {H:Hp}:∀{ns:List Str}{las:List Atom}{vs:List V}{τ:Told}{kvs:List (Key × V)},Lv H τ kvs->Paired (AtRep H) las vs->Lv H (tzF τ (ns.zip las)) (zAw kvs (zipK ns vs))
 |[],_,_,_,_,h,_=>h
 |_::_,_,_,_,_,h,.nil=>h
 |n::ns,_,_,_,_,h,.cons r t=>zIJ (ns:=ns) (zM5 h r) t
theorem zJ7 {more:List (Key × V)}:∀{kvs:List (Key × V)}{p:Key × V},p∈zAw kvs more->p∈kvs\/p∈more:=by
 induction more with
 |nil=>exact λ h=>.inl h
 |cons q more ih =>
  intro kvs p h;rcases ih (show p∈zAw (putK kvs q.1 q.2) more from h) with h|h
  ·rcases zEt h with h|h
   ·exact .inr (by rw[h];exact lO)
   ·exact .inl h
  ·exact .inr (lP _ h)
theorem zOE {H:Hp}{a b:Atom}{v:V}(h:AtRep H a v) (k:AtRep H b v):a=b:=by
 cases a<;>cases b
 ·obtain⟨p,rfl,h⟩:=h;obtain⟨p',e,k⟩:=k;cases e;rw[h] at k;simp at k;rw[k]
 ·obtain⟨p,rfl,h⟩:=h;obtain⟨p',e,k⟩:=k;cases e;rw[h] at k;simp at k
 ·obtain⟨p,rfl,h⟩:=h;obtain⟨p',b',e,k,_⟩:=k;cases e;rw[h] at k;simp at k
 ·obtain⟨p,rfl,h⟩:=h;obtain⟨p',e,k⟩:=k;cases e;rw[h] at k;simp at k
 ·obtain⟨p,rfl,h⟩:=h;obtain⟨p',e,k⟩:=k;cases e;rw[h] at k;simp at k;rw[k]
 ·obtain⟨p,rfl,h⟩:=h;obtain⟨p',b',e,k,_⟩:=k;cases e;rw[h] at k;simp at k
 ·obtain⟨p,b',rfl,h,_⟩:=h;obtain⟨p',e,k⟩:=k;cases e;rw[h] at k;simp at k
 ·obtain⟨p,b',rfl,h,_⟩:=h;obtain⟨p',e,k⟩:=k;cases e;rw[h] at k;simp at k
 ·obtain⟨p,b',rfl,h,_⟩:=h;obtain⟨p',b2,e,k,_⟩:=k;cases e;rw[h] at k;simp at k;rw[k.1]
theorem zHi:∀{ns:List Str}{vs:List V}{p:Key × V},p∈zipK ns vs->p.2∈vs
 |[],_,_,h=>by simp[zipK] at h
 |_::_,[],_,h=>by simp[zipK] at h
 |n::ns,v::vs,p,h=>by
  rcases lN.mp (show p∈(Sum.inr n,v)::zipK ns vs from h) with rfl|h
  ·exact lO
  ·exact lP _ (zHi h)
theorem zH6 {α:Type}{F:α->V->Prop}:∀{as:List α}{us:List V}{v:V},Paired F as us->v∈us->∃a∈as,F a v
 |_,_,_,.nil,h=>nomatch h
 |_,_,_,.cons r t,h=>by
  rcases lN.mp h with rfl|h
  ·exact⟨_,lO,r⟩
  ·obtain⟨a,ha,f⟩:=zH6 t h
   exact⟨a,lP _ ha,f⟩
def StA (φ:Fill) (u:Tr) (o:Option Tr):Prop:=∃p,o=some p/\match u with
 |.gap g as=>PcR φ g as p/\p.good GW
 |u=>p=u.withP p.parts/\p.parts.length=u.parts.length
theorem zDf {φ:Fill}:∀(t w:Tr),(∀pl u,t.at_ pl=some u->StA φ u (w.at_ pl))->FilR φ t w
 |.gap g as,w,h=>by
  obtain⟨p,e,h⟩:=h [] _ rfl;cases e;exact .gap h.1
 |.num n,w,h=>by obtain⟨p,e,h1,h2⟩:=h [] _ rfl;cases e;rw[h1];exact .num n
 |.name n,w,h=>by obtain⟨p,e,h1,h2⟩:=h [] _ rfl;cases e;rw[h1];exact .name n
 |.ask n,w,h=>by obtain⟨p,e,h1,h2⟩:=h [] _ rfl;cases e;rw[h1];exact .ask n
 |.stop n,w,h=>by obtain⟨p,e,h1,h2⟩:=h [] _ rfl;cases e;rw[h1];exact .stop n
 |.say a,w,h=>by
  obtain⟨p,e,h1,h2⟩:=id (h [] _ rfl);cases e
  match hw:w.parts,h2 with
  |[a'],_ =>
   rw[hw] at h1;subst h1;exact .say (zDf a a' λ pl u e=>h ((0:Nat)::pl) u (by rw[zA2 (k:=a) rfl];exact e))
 |.bin o a b,w,h=>by
  obtain⟨p,e,h1,h2⟩:=id (h [] _ rfl);cases e
  match hw:w.parts,h2 with
  |[a',b'],_ =>
   rw[hw] at h1;subst h1;exact .bin (zDf a a' λ pl u e=>h ((0:Nat)::pl) u (by rw[zA2 (k:=a) rfl];exact e)) (zDf b b' λ pl u e=>h ((1:Nat)::pl) u (by rw[zA2 (k:=b) rfl];exact e))
 |.ite a b c,w,h=>by
  obtain⟨p,e,h1,h2⟩:=id (h [] _ rfl);cases e
  match hw:w.parts,h2 with
  |[a',b',c'],_ =>
   rw[hw] at h1;subst h1;exact .ite (zDf a a' λ pl u e=>h ((0:Nat)::pl) u (by rw[zA2 (k:=a) rfl];exact e)) (zDf b b' λ pl u e=>h ((1:Nat)::pl) u (by rw[zA2 (k:=b) rfl];exact e)) (zDf c c' λ pl u e=>h ((2:Nat)::pl) u (by rw[zA2 (k:=c) rfl];exact e))
 |.lett x a b,w,h=>by
  obtain⟨p,e,h1,h2⟩:=id (h [] _ rfl);cases e
  match hw:w.parts,h2 with
  |[a',b'],_ =>
   rw[hw] at h1;subst h1;exact .lett (zDf a a' λ pl u e=>h ((0:Nat)::pl) u (by rw[zA2 (k:=a) rfl];exact e)) (zDf b b' λ pl u e=>h ((1:Nat)::pl) u (by rw[zA2 (k:=b) rfl];exact e))
theorem zG7 {t:Tr}{qs rs:List Tr}(h:qs.length=t.parts.length) (k:rs.length=t.parts.length):(t.withP qs).withP rs=t.withP rs:=by
 cases t with
 |say a=>match qs,h,rs,k with | [_],_,[_],_=>rfl
 |bin o a b=>match qs,h,rs,k with | [_,_],_,[_,_],_=>rfl
 |ite a b c=>match qs,h,rs,k with | [_,_,_],_,[_,_,_],_=>rfl
 |lett x a b=>match qs,h,rs,k with | [_,_],_,[_,_],_=>rfl
 |_=>rw[nL.mp h,nL.mp k];rfl
theorem zFA (t:Tr):t.withP t.parts=t:=by cases t<;>rfl
structure PcO (φ:Fill) (t:Tr):Prop where
 nl:∀g ns u,φ g=some (ns,u)->ns.length<=100/\u.good GW
 gp:∀g as,Tr.gap g as∈t.subs->∃ns u,φ g=some (ns,u)/\ns.length<=as.length/\∀h,Atom.gap h∈as->∃ns n,φ h=some (ns,.num n)
theorem PcO.sk {φ:Fill}{t t':Tr}(h:PcO φ t) (e:skT t'=skT t):PcO φ t':=⟨h.nl,λ g as hm=>by
 have h1:skT (.gap g as)∈(skT t').subs:=by rw[zBc];exact mD.mpr ⟨_,hm,rfl⟩
 rw[e,zBc] at h1;obtain⟨p,hp,ep⟩:=mD.mp h1;cases p with
 |gap g' as' =>
  injection ep with e1 e2
  subst e1;obtain⟨ns,u,q1,q2,q3⟩:=h.gp g' as' hp;have l:as'.length=as.length:=by have:=congrArg List.length e2;simpa using this
  refine⟨ns,u,q1,by omega,λ x hx=>?_⟩;have h2:Atom.gap x∈as.map skA:=mD.mpr ⟨_,hx,rfl⟩;rw[←e2] at h2;obtain⟨a,ha,ea⟩:=mD.mp h2;cases a with
  |gap y=>cases ea;exact q3 _ ha
  |name y=>cases ea
  |num y=>cases ea
 |_=>cases ep⟩
noncomputable def lfF (φ:Fill):Atom->Atom
 |.gap h=>match φ h with
  |some (_,.num n)=>.num n
  |_=>.gap h
 |a=>a
theorem lf_ok {φ:Fill}{a:Atom}(h:∀x,a = .gap x->∃ns n,φ x=some (ns,.num n)):LfA φ a (lfF φ a):=by
 cases a with
 |name x=>exact .name x
 |num x=>exact .num x
 |gap x =>
  obtain⟨ns,n,e⟩:=h x rfl;have:lfF φ (.gap x) = .num n:=by simp[lfF,e]
  rw[this];exact .gap e
theorem zIL {φ:Fill}{a b:Atom}(h:LfA φ a b):b=a\/∃n,b = .num n:=by
 cases h with
 |gap e=>exact .inr ⟨_,rfl⟩
 |name x=>exact .inl rfl
 |num x=>exact .inl rfl
def ngT:Tr->Prop
 |.gap _ _=>False
 |.say a=>ngT a
 |.bin _ a b=>ngT a/\ngT b
 |.ite a b c=>ngT a/\ngT b/\ngT c
 |.lett _ a b=>ngT a/\ngT b
 |_=>True
theorem zJJ {P:Atom->Prop}:∀{ns:List Str}{las:List Atom}{τ:Told},(∀x a,τ x=some a->P a)->(∀b∈las,P b)->∀x a,tzF τ (ns.zip las) x=some a->P a
 |[],_,_,h,_=>h
 |_::_,[],_,h,_=>h
 |n::ns,b::las,τ,h,k=>zJJ (ns:=ns) (las:=las) (τ:=setT τ n b) (λ x a e=>by
  unfold setT at e
  by_cases z:x=n
  ·rw[if_pos z] at e
   cases e;exact k b lO
  ·rw[if_neg z] at e
   exact h x a e) λ c hc=>k c (lP _ hc)
theorem zMP {L:Told}(hL:∀x a,L x=some a->∀g,a ≠ .gap g) (bs:List Str) (x:Str):(∃k,keyX L bs x = .inl k)\/(∃y,keyX L bs x = .inr (.name y))\/∃n,keyX L bs x = .inr (.num n):=by
 unfold keyX;cases lookB x bs.reverse with
 |some k=>exact .inl ⟨k,rfl⟩
 |none =>
  refine .inr ?_;unfold tOf;cases e:L x with
  |none=>exact .inl ⟨x,rfl⟩
  |some a =>
   cases a with
   |name y=>exact .inl ⟨y,rfl⟩
   |num n=>exact .inr ⟨n,rfl⟩
   |gap g=>exact absurd rfl (hL x _ e g)
theorem zCW {L:Told}(hL:∀x a,L x=some a->∀g,a ≠ .gap g):∀(u r:Tr) (bs cs:List Str),bareW noT r cs=bareW L u bs->ngT u->ngT r
 |.num m,r,bs,cs,h,_=>by rw[zD3 h];trivial
 |.ask x,r,bs,cs,h,_=>by rw[zEr h];trivial
 |.stop x,r,bs,cs,h,_=>by rw[zDd h];trivial
 |.gap g as,r,bs,cs,h,n=>n.elim
 |.say a,r,bs,cs,h,n=>by
  obtain⟨a',rfl,e⟩:=zEn h;exact zCW hL a a' bs cs e n
 |.bin o a b,r,bs,cs,h,n=>by
  obtain⟨a',b',rfl,e1,e2⟩:=zEq h;exact⟨zCW hL a a' bs cs e1 n.1,zCW hL b b' bs cs e2 n.2⟩
 |.ite a b c,r,bs,cs,h,n=>by
  obtain⟨a',b',c',rfl,e1,e2,e3⟩:=zEp h;exact⟨zCW hL a a' bs cs e1 n.1,zCW hL b b' bs cs e2 n.2.1,zCW hL c c' bs cs e3 n.2.2⟩
 |.lett x a b,r,bs,cs,h,n=>by
  obtain⟨y,a',b',rfl,e1,e2⟩:=zEo h;exact⟨zCW hL a a' bs cs e1 n.1,zCW hL b b' (bs++[x]) (cs++[y]) e2 n.2⟩
 |.name x,r,bs,cs,h,_=>by
  rcases zMP hL bs x with ⟨k,e⟩|⟨y,e⟩|⟨y,e⟩
  all_goals
   replace h:bareW noT r cs=keyDA (keyX L bs x):=h
   rw[e] at h;cases r with
   |name z=>trivial
   |num z=>trivial
   |bin o' a' b'=>cases o'<;>exact tgA h
   |_=>exact tgA h
theorem zNq {φ:Fill}{g:Str}{as:List Atom}{r:Tr}(hp:∀g ns u,φ g=some (ns,u)->ngT u) (h:PcR φ g as r):ngT r:=by
 obtain⟨ns,u,las,e,_,hl,hA,hb⟩:=h;refine zCW (zJJ (P:=λ a=>∀g,a ≠ .gap g) (λ x a (e:(none:Option Atom)=some a)=>by cases e) λ b hb g eb=>?_) u r [] [] hb (hp g ns u e);obtain⟨j,hj⟩:=List.getElem?_of_mem hb;have hj2:j<as.length:=by rw[hl];exact(lJ.mp hj).1
 have:=hA j as[j] b (lX hj2) hj;rw[eb] at this;generalize as[j]=a at this;cases this
theorem zN4 {φ:Fill}{t w:Tr}(hp:∀g ns u,φ g=some (ns,u)->ngT u) (h:FilR φ t w):ngT w:=by
 induction h with
 |gap h=>exact zNq hp h
 |num _=>trivial
 |name _=>trivial
 |ask _=>trivial
 |stop _=>trivial
 |say _ ih=>exact ih
 |bin _ _ ia ib=>exact⟨ia,ib⟩
 |ite _ _ _ ia ib ic=>exact⟨ia,ib,ic⟩
 |lett _ _ ia ib=>exact⟨ia,ib⟩
theorem zBk {φ:Fill}:∀(t w:Tr),(∀pl u,t.at_ pl=some u->StA φ u (w.at_ pl))->t.good GW->w.good GW
 |.gap g as,w,h,_=>by
  obtain⟨p,e,h⟩:=h [] _ rfl;cases e;exact h.2
 |.num n,w,h,k=>by obtain⟨p,e,h1,h2⟩:=h [] _ rfl;cases e;rw[h1];exact k
 |.name n,w,h,k=>by obtain⟨p,e,h1,h2⟩:=h [] _ rfl;cases e;rw[h1];exact k
 |.ask n,w,h,k=>by obtain⟨p,e,h1,h2⟩:=h [] _ rfl;cases e;rw[h1];exact k
 |.stop n,w,h,k=>by obtain⟨p,e,h1,h2⟩:=h [] _ rfl;cases e;rw[h1];exact k
 |.say a,w,h,k=>by
  obtain⟨p,e,h1,h2⟩:=id (h [] _ rfl);cases e
  match hw:w.parts,h2 with
  |[a'],_ =>
   rw[hw] at h1;subst h1;exact zBk a a' (λ pl u e=>h ((0:Nat)::pl) u (by rw[zA2 (k:=a) rfl];exact e)) k
 |.bin o a b,w,h,k=>by
  obtain⟨p,e,h1,h2⟩:=id (h [] _ rfl);cases e
  match hw:w.parts,h2 with
  |[a',b'],_ =>
   rw[hw] at h1;subst h1;exact⟨zBk a a' (λ pl u e=>h ((0:Nat)::pl) u (by rw[zA2 (k:=a) rfl];exact e)) k.1,zBk b b' (λ pl u e=>h ((1:Nat)::pl) u (by rw[zA2 (k:=b) rfl];exact e)) k.2⟩
 |.ite a b c,w,h,k=>by
  obtain⟨p,e,h1,h2⟩:=id (h [] _ rfl);cases e
  match hw:w.parts,h2 with
  |[a',b',c'],_ =>
   rw[hw] at h1;subst h1;exact⟨zBk a a' (λ pl u e=>h ((0:Nat)::pl) u (by rw[zA2 (k:=a) rfl];exact e)) k.1,zBk b b' (λ pl u e=>h ((1:Nat)::pl) u (by rw[zA2 (k:=b) rfl];exact e)) k.2.1,zBk c c' (λ pl u e=>h ((2:Nat)::pl) u (by rw[zA2 (k:=c) rfl];exact e)) k.2.2⟩
 |.lett x a b,w,h,k=>by
  obtain⟨p,e,h1,h2⟩:=id (h [] _ rfl);cases e
  match hw:w.parts,h2 with
  |[a',b'],_ =>
   rw[hw] at h1;subst h1;exact⟨k.1,zBk a a' (λ pl u e=>h ((0:Nat)::pl) u (by rw[zA2 (k:=a) rfl];exact e)) k.2.1,zBk b b' (λ pl u e=>h ((1:Nat)::pl) u (by rw[zA2 (k:=b) rfl];exact e)) k.2.2⟩
noncomputable def numV (cs:List Nat):List V:=cs.map λ(n:Nat)=>V.int (n:Int)
theorem zIF:∀{ks T:List Str},ks.Nodup->(∀g∈ks,g∈T)->ks.length<=T.length
 |[],_,_,_=>lZ _
 |k::ks,T,nd,h=>by
  obtain⟨n1,n2⟩:=rD.mp nd;have hk:=h k lO;have ih:=zIF (ks:=ks) (T:=T.erase k) n2 λ g hg=>(List.mem_erase_of_ne (λ e=>n1 (by rw[←e];exact hg))).mpr (h g (lP _ hg));rw[List.length_erase_of_mem hk] at ih;have:=List.length_pos_of_mem hk;rw[mM];omega
theorem zGj (x:Str) (ws:List Str):inV (V.str x) (ws.map V.str)=true↔x∈ws:=by
 unfold inV;rw[List.any_eq_true];constructor
 ·rintro⟨v,hv,e⟩
  obtain⟨y,hy,rfl⟩:=mD.mp hv;have:y=x\/x=y:=by first|exact .inl (by simpa using e)|exact .inr (by simpa using e)|(simp[eqV] at e;first|exact .inl e|exact .inr e)
  rcases this with rfl|rfl<;>exact hy
 ·intro h
  exact⟨_,mD.mpr ⟨x,h,rfl⟩,by first|simp|simp[eqV]⟩
theorem zGm {z:Array Nat}(hz:z=#[]):∀(r:List Nat) (acc:Array Nat),List.foldl (λ acc (p:Str)=>acc++z++p.cps) acc (r.map λ c=>(⟨#[c]⟩:Str))=acc++r.toArray
 |[],acc=>by simp
 |c::r,acc=>by
  rw[mL,List.foldl_cons,zGm hz r];subst hz;simp
theorem zI7 {z:Str}(hz:z.cps=#[]) (cs:List Nat):(Txt.join z (cs.map λ c=>(⟨#[c]⟩:Str))).cps=cs.toArray:=by
 unfold Txt.join Builtin.Str.glued;cases cs with
 |nil=>rfl
 |cons c r =>
  show List.foldl (λ acc (p:Str)=>acc++z.cps++p.cps) #[c] (r.map λ c=>(⟨#[c]⟩:Str))=_;rw[zGm hz];simp
noncomputable def ltD (L:Str) (n:Nat):Nat:=L.cps.toList.getD n 0
theorem zEE {α:Type}(p:α->Bool):∀l:List α,(l.filter p).length+(l.filter λ x=>!p x).length=l.length
 |[]=>rfl
 |a::l=>by
  have ih:=zEE p l;cases h:p a<;>simp[h]<;>omega
noncomputable def zBr (L:Str) (ns:List Nat) (p s k:Nat):Str:=⟨((ns.set p ((s+k+1) % 26)).map (ltD L)).toArray⟩
theorem zK3 {L:Str}(hL:L.cps.toList.length=26) (nd:L.cps.toList.Nodup) {ns:List Nat}{p s i j:Nat}(hp:p<ns.length) (hi:i<26) (hj:j<26) (e:zBr L ns p s i=zBr L ns p s j):i=j:=by
 unfold zBr at e
 have e1:(ns.set p ((s+i+1) % 26)).map (ltD L)=(ns.set p ((s+j+1) % 26)).map (ltD L):=by
  have:=congrArg (λ x:Str=>x.cps.toList) e;simpa using this
 have e2:=congrArg (λ l=>l[p]?) e1;simp[hp] at e2;unfold ltD at e2;have h1:(s+i+1) % 26<L.cps.toList.length:=by omega
 have h2:(s+j+1) % 26<L.cps.toList.length:=by omega
 rw[List.getD_eq_getElem?_getD,List.getD_eq_getElem?_getD,nO h1,nO h2] at e2;simp only[Option.getD_some] at e2;have:=(List.getElem_inj nd).mp e2;omega
noncomputable def kept11:List Str:=["let", "in", "if", "then", "else", "say", "ask", "stop", "where", "quiet", "number"]
theorem zLc (ns:List Nat) (p n:Nat):(numV ns).set p (.int (n:Int))=numV (ns.set p n):=by unfold numV;rw[List.map_set]
theorem pickS {L:List Str}{i:Int}(h0:0<=i) (h1:i<L.length):∃x,x∈L/\atI (L.map V.str) i=some (.str x):=by
 have hl:i.toNat<L.length:=by omega
 refine⟨L[i.toNat],List.getElem_mem hl,?_⟩;have:=zAY (xs:=L.map V.str) (j:=i.toNat) (v:=.str L[i.toNat]) (by rw[mI,nO hl];rfl)
 rwa [show ((i.toNat:Nat):Int)=i by omega] at this
theorem pickM {L:List Str}(z:Int) (hl:0<L.length):∃x,x∈L/\atI (L.map V.str) (z % (((L.map V.str).length:Nat):Int))=some (.str x)/\(0:Int)<(((L.map V.str).length:Nat):Int):=by
 rw[lC];have b0:=rB z (show ((L.length:Nat):Int)≠0 by omega);have b1:=rC z (show (0:Int)<((L.length:Nat):Int) by omega);obtain⟨x,hx,atx⟩:=pickS (L:=L) b0 b1;exact⟨x,hx,atx,by omega⟩
theorem cs_at {cs:List Nat}{j:Nat}(h:j<cs.length):atI (numV cs) (j:Int)=some (.int ((cs.getD j 0:Nat):Int)):=by
 refine zAY ?_;unfold numV;rw[mI,nO h,List.getD_eq_getElem?_getD,nO h];rfl
def CsOk (cs:List Nat):Prop:=cs.length=6/\∀x∈cs,x<=3
theorem CsOk.le {cs:List Nat}(h:CsOk cs) (j:Nat):cs.getD j 0<=3:=by
 rw[List.getD_eq_getElem?_getD];cases e:cs[j]? with
 |none=>exact lZ _
 |some x=>exact h.2 x (lM e)
theorem zKk (cells:List Int):cutV (cells.map V.int) (some 1) none=(cells.drop 1).map V.int:=by
 cases cells with
 |nil=>rfl
 |cons c r =>
  have e1:HT.sIx ((c::r).map V.int).length 0 (some 1)=1:=by
   have:=HT.sIx_nat ((c::r).map V.int).length 0 1;rw[show ((1:Nat):Int)=1 from rfl] at this;rw[this];simp
  unfold cutV;rw[e1,HT.sIx_none];simp;exact mV (by simp)
theorem zMY (xs:List Int) (i:Nat) (h:i<=xs.length):cutV (xs.map V.int) none (some (i:Int))=(xs.take i).map V.int:=by
 have e:HT.sIx (xs.map V.int).length 0 none=0:=rfl;unfold cutV;rw[e,HT.sIx_nat,lC,rA h];simp
theorem zKj (xs:List Int) (i:Nat) (h:i<=xs.length):cutV (xs.map V.int) (some (i:Int)) none=(xs.drop i).map V.int:=by
 unfold cutV;rw[HT.sIx_nat,HT.sIx_none,lC,rA h];rw[←List.map_drop];exact mV (by simp)
theorem zKs (z:Int):∃v,v∈[V.str "ask", V.str "stop"]/\atI [V.str "ask", V.str "stop"] (z % 2)=some v:=by
 rcases (show z % 2=0\/z % 2=1 by omega) with e|e<;>rw[e]
 ·exact⟨_,by simp,rfl⟩
 ·exact⟨_,by simp,rfl⟩
def ShA (gs bd:List Str) (a:Atom):Prop:=(∃n,a = .num n)\/(∃x∈bd,a = .name x)\/∃j p,4<=j/\gs[j]?=some p/\a = .gap p
def ShS (gs:List Str) (cs:List Nat):List Str->Tr->Prop
 |bd,.name x=>x∈bd
 |bd,.gap g as=>∃j,gs[j]?=some g/\as.length=cs.getD j 0/\∀a∈as,ShA gs bd a
 |bd,.say a=>ShS gs cs bd a
 |bd,.bin _ a b=>ShS gs cs bd a/\ShS gs cs bd b
 |bd,.ite a b c=>ShS gs cs bd a/\ShS gs cs bd b/\ShS gs cs bd c
 |bd,.lett x a b=>ShS gs cs bd a/\ShS gs cs (x::bd) b
 |_,_=>True
theorem ShA.good {gs bd W:List Str}(hg:∀x∈gs,x∈W) (hb:∀x∈bd,x∈W) {a:Atom}(h:ShA gs bd a):a.good (λ x=>x∈W):=by
 rcases h with ⟨n,rfl⟩|⟨x,hx,rfl⟩|⟨j,p,_,hp,rfl⟩
 ·exact True.intro
 ·exact hb x hx
 ·exact hg p (lM hp)
def SbD (d:Addr) (H H':Hp):Prop:=∀b o,b≠d->H b=some o->H' b=some o
theorem SbD.trans {d:Addr}{H H1 H2:Hp}(a:SbD d H H1) (b:SbD d H1 H2):SbD d H H2:=λ c o n h=>b c o n (a c o n h)
theorem Same.sd {d:Addr}{H H':Hp}(h:Same H H'):SbD d H H':=λ b o Ω e=>h b o e
theorem SbD.set {d:Addr}{H:Hp}(o:HO):SbD d H (upd H d o):=λ b u n e=>by rw[zAK n];exact e
theorem SbD.tk {d:Addr}{H H':Hp}(h:SbD d H H') {xs:List V}(e:H d=some (.lst xs)):Tk H H':=λ b xs hb=>h b _ (λ z=>by rw[z,e] at hb;cases hb) hb
structure ShI (H:Hp) (gl bl pl cl:Addr) (gs bd pw W:List Str) (cs:List Nat):Prop where
 hg:H gl=some (.lst (gs.map V.str))
 hb:H bl=some (.lst (bd.map V.str))
 hp:H pl=some (.lst (pw.map V.str))
 hc:H cl=some (.lst (numV cs))
 ng:gl≠pl
 nb:bl≠pl
 nc:cl≠pl
 co:CsOk cs
 lg:gs.length=6
 ig:∀x∈gs,x∈W
 ib:∀x∈bd,x∈W
 ip:∀x∈pw,x∈W
theorem ShI.to {H H':Hp}{gl bl pl cl:Addr}{gs bd pw pw' W:List Str}{cs:List Nat}(h:ShI H gl bl pl cl gs bd pw W cs) (sd:SbD pl H H') (e:H' pl=some (.lst (pw'.map V.str))) (i:∀x∈pw',x∈W):ShI H' gl bl pl cl gs bd pw' W cs :=
 ⟨sd _ _ h.ng h.hg,sd _ _ h.nb h.hb,e,sd _ _ h.nc h.hc,h.ng,h.nb,h.nc,h.co,h.lg,h.ig,h.ib,i⟩
theorem ShI.same {H H':Hp}{gl bl pl cl:Addr}{gs bd pw W:List Str}{cs:List Nat}(h:ShI H gl bl pl cl gs bd pw W cs) (g:Same H H'):ShI H' gl bl pl cl gs bd pw W cs:=h.to g.sd (g _ _ h.hp) h.ip
theorem ShI.bind {H:Hp}{gl bl bl' pl cl:Addr}{gs bd pw W:List Str}{cs:List Nat}(h:ShI H gl bl pl cl gs bd pw W cs) {x:Str}(e:H bl'=some (.lst ((x::bd).map V.str))) (n:bl'≠pl) (hx:x∈W):ShI H gl bl' pl cl gs (x::bd) pw W cs :=
 ⟨h.hg,e,h.hp,h.hc,h.ng,n,h.nc,h.co,h.lg,h.ig,λ y hy=>(lN.mp hy).elim (λ z=>z▸hx) (h.ib y),h.ip⟩
noncomputable def Tr.dep:Tr->Nat
 |.gap _ []=>1
 |.gap _ (_::_)=>2
 |.say a=>a.dep+1
 |.bin _ a b=>max a.dep b.dep+1
 |.ite a b c=>max a.dep (max b.dep c.dep)+1
 |.lett _ a b=>max a.dep b.dep+1
 |_=>1
theorem zHd (t:Tr):1<=t.dep:=by
 cases t with
 |gap g as=>cases as<;>simp[Tr.dep]
 |_=>simp[Tr.dep]
theorem zF9 {t p:Tr}(h:p∈t.parts):p.dep+1<=t.dep:=by
 cases t<;>simp only[Tr.parts,nN,nB,or_false] at h
 ·subst h;simp[Tr.dep]
 ·rcases h with rfl|rfl<;>simp[Tr.dep]<;>omega
 ·rcases h with rfl|rfl|rfl<;>simp[Tr.dep]<;>omega
 ·rcases h with rfl|rfl<;>simp[Tr.dep]<;>omega
theorem DRs.snoc {H:Hp}{ds:List Dt}{vs:List V}{d:Dt}{v:V}(h:DRs H ds vs) (r:DR H d v):DRs H (ds++[d]) (vs++[v]):=by
 induction ds generalizing vs with
 |nil=>cases h;exact .cons r .nil
 |cons a ds ih=>cases h with
  |cons h1 h2=>exact .cons h1 (ih h2)
def RelD (H:Hp):Option Dt->Option V->Prop
 |some d,some v=>DR H d v
 |none,none=>True
 |_,_=>False
def KnD (H:Hp) (κ:Kno) (kvs:List (Key × V)):Prop:=∀x,RelD H (κ x) (valV kvs (Sum.inr x:Key))
theorem KnD.mono {H H':Hp}(k:Tk H H') {κ:Kno}{kvs:List (Key × V)}(h:KnD H κ kvs):KnD H' κ kvs:=λ x=>by
 have:=h x;cases e:κ x<;>cases e2:valV kvs (Sum.inr x:Key)<;>rw[e,e2] at this
 ·exact True.intro
 ·exact this
 ·exact this
 ·exact DR.mono k this
theorem KnD.put {H:Hp}{κ:Kno}{kvs:List (Key × V)}(h:KnD H κ kvs) {x:Str}{d:Dt}{v:V}(r:DR H d v):KnD H (setK κ x d) (putK kvs (Sum.inr x:Key) v):=λ y=>by
 rw[zDO];unfold setK
 by_cases e:y=x
 ·rw[if_pos e,if_pos (by rw[e])]
  exact r
 ·rw[if_neg e,if_neg (λ z=>e (Sum.inr.inj z))]
  exact h y
theorem KnD.nil {H:Hp}:KnD H noK []:=λ Ω=>True.intro
theorem KnD.get {H:Hp}{κ:Kno}{kvs:List (Key × V)}(h:KnD H κ kvs) {x:Str}{d:Dt}(e:κ x=some d):∃v,valV kvs (Sum.inr x:Key)=some v/\DR H d v:=by
 have:=h x;rw[e] at this;cases e2:valV kvs (Sum.inr x:Key) with
 |none=>rw[e2] at this;exact this.elim
 |some v=>rw[e2] at this;exact⟨v,rfl,this⟩
noncomputable def rowD (g:Tr->Dt):Tr->List Dt
 |.num m=>[.str "num", .int m]
 |.name x=>[.str "name", .str x]
 |.ask x=>[.str "ask", .str x]
 |.stop x=>[.str "stop", .str x]
 |.say a=>[.str "say", g a]
 |.bin o a b=>[.str o.s,g a,g b]
 |.ite a b c=>[.str "if", g a,g b,g c]
 |_=>[]
theorem zJa {H:Hp}(g:Tr->Dt) {t:Tr}{v:V}(h:Rep H t v) (n1:¬t.kd = .gap) (n2:¬t.kd = .lett):∃a xs,v = .ref a/\H a=some (.tup xs)/\xs.length=(rowD g t).length/\xs.length<=4 /\
  ∀(i:Nat) (x:V),xs[i]?=some x->∃d,(rowD g t)[i]?=some d/\((∃s,x = .str s/\d = .str s)\/(∃j,x = .int j/\d = .int j)\/∃p∈t.parts,Rep H p x/\d=g p):=by
 have two:∀{s:Str}{u:V}{d:Dt},((∃s,u = .str s/\d = .str s)\/(∃j,u = .int j/\d = .int j)\/∃p∈t.parts,Rep H p u/\d=g p)->∀(i:Nat) (x:V),[V.str s,u][i]?=some x->∃d',[Dt.str s,d][i]?=some d'/\((∃s,x = .str s/\d' = .str s)\/(∃j,x = .int j/\d' = .int j)\/∃p∈t.parts,Rep H p x/\d'=g p):=λ{s u d} hu i x hx=>by
  match i,hx with
  |0,hx=>cases hx;exact⟨_,rfl,.inl ⟨_,rfl,rfl⟩⟩
  |1,hx=>cases hx;exact⟨_,rfl,hu⟩
  |_+2,hx=>cases hx
 cases t with
 |num m=>obtain⟨a,e,h⟩:=h;exact⟨a,_,e,h,rfl,(by show 2<=4;decide),two (.inr (.inl ⟨_,rfl,rfl⟩))⟩
 |name m=>obtain⟨a,e,h⟩:=h;exact⟨a,_,e,h,rfl,(by show 2<=4;decide),two (.inl ⟨_,rfl,rfl⟩)⟩
 |ask m=>obtain⟨a,e,h⟩:=h;exact⟨a,_,e,h,rfl,(by show 2<=4;decide),two (.inl ⟨_,rfl,rfl⟩)⟩
 |stop m=>obtain⟨a,e,h⟩:=h;exact⟨a,_,e,h,rfl,(by show 2<=4;decide),two (.inl ⟨_,rfl,rfl⟩)⟩
 |gap m as=>exact absurd rfl n1
 |lett x a b=>exact absurd rfl n2
 |say s=>obtain⟨a,u,e,h,r⟩:=h;exact⟨a,_,e,h,rfl,(by show 2<=4;decide),two (.inr (.inr ⟨s,by simp[Tr.parts],r,rfl⟩))⟩
 |bin o s t =>
  obtain⟨a,u,w,e,h,r1,r2⟩:=h;refine⟨a,_,e,h,rfl,(by show 3<=4;decide),λ i x hx=>?_⟩
  match i,hx with
  |0,hx=>cases hx;exact⟨_,rfl,.inl ⟨_,rfl,rfl⟩⟩
  |1,hx=>cases hx;exact⟨_,rfl,.inr (.inr ⟨s,by simp[Tr.parts],r1,rfl⟩)⟩
  |2,hx=>cases hx;exact⟨_,rfl,.inr (.inr ⟨t,by simp[Tr.parts],r2,rfl⟩)⟩
  |_+3,hx=>cases hx
 |ite r s t =>
  obtain⟨a,u,w,z,e,h,r1,r2,r3⟩:=h;refine⟨a,_,e,h,rfl,(by show 4<=4;decide),λ i x hx=>?_⟩
  match i,hx with
  |0,hx=>cases hx;exact⟨_,rfl,.inl ⟨_,rfl,rfl⟩⟩
  |1,hx=>cases hx;exact⟨_,rfl,.inr (.inr ⟨r,by simp[Tr.parts],r1,rfl⟩)⟩
  |2,hx=>cases hx;exact⟨_,rfl,.inr (.inr ⟨s,by simp[Tr.parts],r2,rfl⟩)⟩
  |3,hx=>cases hx;exact⟨_,rfl,.inr (.inr ⟨t,by simp[Tr.parts],r3,rfl⟩)⟩
  |_+4,hx=>cases hx
theorem zOD {κ:Kno}{n:Nat}{t:Tr}(n1:¬t.kd = .gap) (n2:¬t.kd = .lett) (n3:¬t.kd = .name):blT κ n t = .tup (rowD (blT κ n) t):=by
 cases t<;>first|rfl|exact absurd rfl n1|exact absurd rfl n2|exact absurd rfl n3
theorem zJ4 {t p:Tr}(h:ngT t) (hp:p∈t.parts):ngT p:=by
 cases t<;>simp only[Tr.parts,nN,nB,or_false] at hp
 ·subst hp;exact h
 ·rcases hp with rfl|rfl
  ·exact h.1
  ·exact h.2
 ·rcases hp with rfl|rfl|rfl
  ·exact h.1
  ·exact h.2.1
  ·exact h.2.2
 ·rcases hp with rfl|rfl
  ·exact h.1
  ·exact h.2
theorem zFz {t:Tr}(h:t.kd = .lett):∃x a b,t = .lett x a b:=by
 cases t with
 |lett x a b=>exact⟨x,a,b,rfl⟩
 |bin o a b=>cases o<;>cases h
 |_=>cases h
theorem zKK {t:Tr}(h:t.kd = .name):∃x,t = .name x:=by
 cases t with
 |name x=>exact⟨x,rfl⟩
 |bin o a b=>cases o<;>cases h
 |_=>cases h
theorem zMQ {t:Tr}(h:t.kd = .gap):∃g as,t = .gap g as:=by
 cases t with
 |gap g as=>exact⟨g,as,rfl⟩
 |bin o a b=>cases o<;>cases h
 |_=>cases h
theorem ng_kd {t:Tr}(h:ngT t):¬t.kd = .gap:=λ z=>by
 obtain⟨g,as,rfl⟩:=zMQ z;exact h
theorem viaN {D:Ends}{t1 t2:TS}{σ:L2.St}{H:Hp}(h:∀N:L2.St->Hp->Prop,(∀σ' H',t2 D σ' H'->N σ' H')->t1 { D with nx:=N } σ H):tSeq t1 t2 D σ H:=h _ λ Ω Ω z=>z
theorem zHf:∀(l:List (Str × Dt)) (κ:Kno) (p:Str × Dt),zpK κ (l++[p])=setK (zpK κ l) p.1 p.2
 |[],_,_=>rfl
 |q::l,κ,p=>zHf l (setK κ q.1 q.2) p
structure PcD (φ:Fill) (gs:List Str) (cs:List Nat):Prop where
 td:∀j g,gs[j]?=some g->∃ns u,φ g=some (ns,u)/\ns.length=cs.getD j 0/\ngT u/\u.dep<=20
 nm:∀j g,4<=j->gs[j]?=some g->∃n,φ g=some ([],.num n)
theorem zNK {φ:Fill}{κ:Kno}{n:Nat}{a:Atom}(h:∀x,a = .gap x->φ x≠none):duT φ κ n a.tr=duA φ κ n a:=by
 cases a with
 |name x=>rfl
 |num x=>rfl
 |gap x =>
  obtain⟨q,e⟩:=nC.mp (h x rfl)
  have h1:duG φ κ n x []=blT noK n q.2:=by
   unfold duG;rw[e];show blT (zpK noK (q.1.zip [])) n q.2=_;rw[List.zip_nil_right];rfl
  have h2:duA φ κ n (.gap x)=blT noK n q.2:=by simp[duA,e]
  rw[h2];exact h1
theorem ShA.gap {φ:Fill}{gs bd:List Str}{cs:List Nat}(hp:PcD φ gs cs) {a:Atom}(h:ShA gs bd a):∀x,a = .gap x->φ x≠none:=by
 rintro x rfl;rcases h with ⟨n,e⟩|⟨y,_,e⟩|⟨j,p,hj,hg,e⟩
 ·cases e
 ·cases e
 ·cases e
  obtain⟨n,e⟩:=hp.nm j _ hj hg;rw[e];exact λ z=>nomatch z
theorem ShA.tr {φ:Fill}{gs bd:List Str}{cs:List Nat}(hp:PcD φ gs cs) {a:Atom}(h:ShA gs bd a):ShS gs cs bd a.tr:=by
 rcases h with ⟨n,rfl⟩|⟨y,hy,rfl⟩|⟨j,p,hj,hg,rfl⟩
 ·exact True.intro
 ·exact hy
 ·obtain⟨n,e⟩:=hp.nm j p hj hg
  obtain⟨ns,u,e2,l,_⟩:=hp.td j p hg;rw[e] at e2;cases e2;exact⟨j,hg,l,(λ a ha=>nomatch ha)⟩
theorem zJW {gs bd:List Str}{cs:List Nat}{t p:Tr}(h:ShS gs cs bd t) (n2:¬t.kd = .lett) (hp:p∈t.parts):ShS gs cs bd p:=by
 cases t<;>simp only[Tr.parts,nN,nB,or_false] at hp
 ·subst hp;exact h
 ·rcases hp with rfl|rfl
  ·exact h.1
  ·exact h.2
 ·rcases hp with rfl|rfl|rfl
  ·exact h.1
  ·exact h.2.1
  ·exact h.2.2
 ·exact absurd rfl n2
theorem zN7 {φ:Fill}{κ:Kno}{n:Nat}{t:Tr}(n1:¬t.kd = .gap) (n2:¬t.kd = .lett) (n3:¬t.kd = .name):duT φ κ n t = .tup (rowD (duT φ κ n) t):=by
 cases t<;>first|rfl|exact absurd rfl n1|exact absurd rfl n2|exact absurd rfl n3
theorem zNP (a:Atom):a.tr.dep=1:=by cases a<;>rfl
theorem zNF {x:Str}{g:TG}{tb:TS}{D:Ends}{σ:L2.St}{H:Hp}(Pv:Nat->L2.St->Hp->Prop) (h0:Pv 0 σ H)
  (hs:∀i c σ H,x.cps[i]?=some c->Pv i σ H->g (.str ⟨#[c]⟩) σ H λ σ2 H2=>tb { D with nx:=Pv (i+1),ct:=Pv (i+1),bk:=D.nx } σ2 H2) (hd:∀σ H,Pv x.cps.size σ H->D.nx σ H) :
  ∃W:Nat->Nat->L2.St->Hp->Prop,(∃m,W 0 m σ H)/\∀i m σ H,W i m σ H ->
   ((Its x).stop i H/\D.nx σ H)\/((Its x).go i H/\∃N:L2.St->Hp->Prop,(∀σ' H',N σ' H'->∃m',m'<m/\W (i+1) m' σ' H')/\∀x' H',(Its x).yld i H x' H'->g x' σ H' λ σ2 H2=>tb { D with nx:=N,ct:=N,bk:=D.nx } σ2 H2):=by
 refine⟨λ i m σ H=>m=x.cps.size - i/\i<=x.cps.size/\Pv i σ H,⟨x.cps.size,by simp,lZ _,h0⟩,?_⟩;rintro i m σ H ⟨rfl,hi,p⟩
 by_cases hlt:i<x.cps.size
 ·refine .inr ⟨hlt,Pv (i+1),λ σ' H' p'=>⟨x.cps.size - (i+1),by omega,rfl,hlt,p'⟩,λ v H' y=>?_⟩
  obtain⟨e,c,hc,ex⟩:=y;subst e ex;exact hs i c σ _ hc p
 ·have e:i=x.cps.size:=by omega
  subst e;exact .inl ⟨lQ _,hd σ H p⟩
section
variable {X:Cx}{pos apos cpos:Pos}{o e f k v:Expr}{ks:List (Option Expr)}{vs:List Expr}{td ty tx tk tv:TE}{trs:List (TE × TE)}
theorem zLJ:Sd (PPs X pos [] [] []):=⟨zJf⟩
theorem zBy (hk:Sd (PE X k tk)) (hv:Sd (PE X v tv)) (hr:Sd (PPs X pos ks vs trs)):Sd (PPs X pos (some k::ks) (v::vs) ((tk,tv)::trs)):=⟨zH7 hk.un hv.un hr.un⟩
theorem zLO (h:Sd (PPs X pos ks vs trs)) (hall:ks.all (·.isSome)=true) (hl:ks.length=vs.length) (h0:ks≠[]) (h15:ks.length<=15):Sd (PE X (.Dict ks vs pos) (tDisp trs)):=⟨zJp h.un hall hl h0 h15⟩
end
theorem zNT:∀c,97<=c->c<=122->(Builtin.Str.occurrences "abcdefghijklmnopqrstuvwxyz" ⟨#[c]⟩ 0 (Str.ofString "abcdefghijklmnopqrstuvwxyz").length 1).isEmpty=false:=by
 have h:∀i<26,(Builtin.Str.occurrences "abcdefghijklmnopqrstuvwxyz" ⟨#[97+i]⟩ 0 (Str.ofString "abcdefghijklmnopqrstuvwxyz").length 1).isEmpty=false:=by left
 intro c h1 h2;have:=h (c - 97) (by omega)
 rwa [show 97+(c - 97)=c by omega] at this
noncomputable def many:Kd->Nat
 |.say=>1|.ite=>3
 |_=>2
noncomputable def zEe:List (Key × V):=[(.inr "say", .int 1),(.inr "add", .int 2),(.inr "sub", .int 2),(.inr "mul", .int 2),(.inr "then", .int 2),(.inr "let", .int 2),(.inr "if", .int 3)]
theorem zLh {k:Kd}(h:k.leaf=false):(valV (zAw [] zEe) (Sum.inr k.s:Key)).getD .non = .int ((many k:Nat):Int):=by cases k<;>first|(cases h;done)|left
theorem zLg {t:Tr}(h:t.kd.leaf=false):t.parts.length=many t.kd:=by
 cases t with
 |bin o a b=>cases o<;>rfl
 |say a=>rfl
 |ite a b c=>rfl
 |lett x a b=>rfl
 |_=>cases h
theorem in3 (k:Kd):inV (.str k.s) [.str "name", .str "ask", .str "stop"]=decide (k = .name\/k = .ask\/k = .stop):=by cases k<;>left
theorem zKR {G:Str->Prop}{t p:Tr}(g:t.good G) (h:p∈t.parts):p.good G:=by
 cases t<;>simp only[Tr.parts,nN,nB,or_false] at h
 ·subst h;exact g
 ·rcases h with rfl|rfl
  ·exact g.1
  ·exact g.2
 ·rcases h with rfl|rfl|rfl
  ·exact g.1
  ·exact g.2.1
  ·exact g.2.2
 ·rcases h with rfl|rfl
  ·exact g.2.1
  ·exact g.2.2
theorem cut1 (v:V) (us:List V):cutV (v::us) (some 1) none=us:=by
 have e1:HT.sIx (v::us).length 0 (some ((1:Nat):Int))=1:=by rw[HT.sIx_nat];simp
 have e1':HT.sIx (v::us).length 0 (some (1:Int))=1:=e1;unfold cutV;rw[HT.sIx_none,e1'];simp
theorem cut2 (v w:V) (us:List V):cutV (v::w::us) (some 2) none=us:=by
 have e1:HT.sIx (v::w::us).length 0 (some ((2:Nat):Int))=2:=by rw[HT.sIx_nat];simp
 have e1':HT.sIx (v::w::us).length 0 (some (2:Int))=2:=e1;unfold cutV;rw[HT.sIx_none,e1'];simp
theorem zLe (v:V) (us:List V):¬HT.sIx (v::us).length 0 (some (1:Int))=0:=by
 have e1:HT.sIx (v::us).length 0 (some ((1:Nat):Int))=1:=by rw[HT.sIx_nat];simp
 have e1':HT.sIx (v::us).length 0 (some (1:Int))=1:=e1;rw[e1'];simp
theorem zLd (v w:V) (us:List V):¬HT.sIx (v::w::us).length 0 (some (2:Int))=0:=by
 have e1:HT.sIx (v::w::us).length 0 (some ((2:Nat):Int))=2:=by rw[HT.sIx_nat];simp
 have e1':HT.sIx (v::w::us).length 0 (some (2:Int))=2:=e1;rw[e1'];simp
theorem zLF {H:Hp}{t:Tr}{v:V}{G:Str->Prop}(hR:Rep H t v) (hg:t.good G) (h:t.kd = .name\/t.kd = .ask\/t.kd = .stop):∃a x,v = .ref a/\H a=some (.tup [.str t.kd.s,.str x])/\G x:=by
 cases t with
 |name x=>obtain⟨a,e,ha⟩:=hR;exact⟨a,x,e,ha,hg⟩
 |ask x=>obtain⟨a,e,ha⟩:=hR;exact⟨a,x,e,ha,hg⟩
 |stop x=>obtain⟨a,e,ha⟩:=hR;exact⟨a,x,e,ha,hg⟩
 |bin o a b=>exfalso;cases o<;>(rcases h with h|h|h<;>cases h)
 |_=>exfalso;rcases h with h|h|h<;>cases h
end L2
namespace PySem
open Sem (wp)
section
variable {prog:Program}{w:World}{A:Around}{E:XQ}{s:Shared}
noncomputable def ddS (ks:List Str) (x:Str):List Str:=if x∈ks then ks else ks++[x]
noncomputable def dd (xs:List Str):List Str:=xs.foldl ddS []
end
end PySem
namespace L2
open PySem PySem.Spec PyProof.Rows
open PySem.Calls PySem.W
noncomputable def zCF {α:Type}(xs:List α) (lo hi st:Option Int):List α:=(sliceRange (sliceBounds lo hi st xs.length).1 (sliceBounds lo hi st xs.length).2.1 (sliceBounds lo hi st xs.length).2.2).filterMap (xs[·]?)
theorem zFs {α:Type}(xs:List α) (lo hi st:Option Int) (f:α->Value):(zCF xs lo hi st).length<=xs.length:=by
 have h:=slicePick_size_le (xs.map f).toArray lo hi st;unfold slicePick at h;rw[mE] at h;simp only[mE,lC] at h;refine mH (Nat.le_of_eq ?_) h;unfold zCF;generalize sliceRange (sliceBounds lo hi st xs.length).1 (sliceBounds lo hi st xs.length).2.1 (sliceBounds lo hi st xs.length).2.2=is
 induction is with
 |nil=>rfl
 |cons i is ih =>
  rw[List.filterMap_cons,List.filterMap_cons];have e:(xs.map f).toArray[i]?=(xs[i]?).map f:=by simp
  rw[e];cases xs[i]? with
  |none=>exact ih
  |some x=>simp only[Option.map_some,mM];rw[ih]
theorem zJH:∀{xs:List V}{us:List Value},Vals xs us->∀i:Nat,(xs[i]?=none/\us[i]?=none)\/∃x u,xs[i]?=some x/\us[i]?=some u/\RelV x u
 |_,_,.nil,i=>.inl ⟨by simp,by simp⟩
 |_,_,.cons h t,0=>.inr ⟨_,_,rfl,rfl,h⟩
 |_,_,.cons h t,i+1=>by simpa using zJH t i
theorem zDl {xs:List V}{us:List Value}(r:Vals xs us):∀is:List Nat,Vals (is.filterMap (xs[·]?)) (is.filterMap (us.toArray[·]?))
 |[]=>.nil
 |i::is=>by
  rw[List.filterMap_cons,List.filterMap_cons];have e:us.toArray[i]?=us[i]?:=by simp
  rw[e];rcases zJH r i with ⟨e1,e2⟩|⟨x,u,e1,e2,h⟩
  ·rw[e1,e2];exact zDl r is
  ·rw[e1,e2];exact .cons h (zDl r is)
def tSl3 (K:W.Frag) (te:TE) (tl th ts:TO):TE:=λ σ H Q=>te σ H λ x H1=>tl σ H1 λ l H2=>th σ H2 λ u H3=>ts σ H3 λ c H4=>∃a xs,x = .ref a/\c≠some 0/\SqL K H4 a xs/\∀p,H4 p=none->Q (.ref p) (upd H4 p (.lst (zCF xs l u c)))
theorem zNp {X:Cx}{e:Expr}{te:TE}{lo hi:Option Expr}{es:Expr}{tl th ts:TO}{pos p2:Pos}(he:PE X e te) (hl:PO X lo tl) (hu:PO X hi th) (hst:PO X (some es) ts):PE X (.Subscript e (.Slice lo hi (some es) p2) pos) (tSl3 X.K te tl th ts):=by
 intro jP s σ H Q I h;refine Subscript_ (thn (he jP s σ H _ I h) λ v s1 ⟨x,H1,I1,r1,q1⟩=>?_);refine wpAny_Slice (thn (hl jP s1 σ H1 _ I1 q1) λ vl s2 ⟨l,H2,I2,pl,q2⟩=>thn (hu jP s2 σ H2 _ I2 q2) λ vu s3 ⟨u,H3,I3,pu,q3⟩=>thn (hst jP s3 σ H3 _ I3 q3) λ vc s4 ⟨c,H4,I4,pc,a,xs,ex,hc,hx,q⟩=>?_);subst ex;cases r1;have I5:Inv X jP σ H4 { s4 with heap:=s4.heap.push { cls:=.type "slice", data:=.fields #[vl,vu,vc] } }:=I4.kept (t':=s4.toks) λ b ob q=>lE _ q;obtain⟨its,r,ht,hz⟩:=I5.list hx;have hlen:=r.length
 have hg:wpAny (model X.prog X.w) X.A (getItem (.ref a) (.ref s4.heap.objs.size)) (EP X jP σ Q) X.xe { s4 with heap:=s4.heap.push { cls:=.type "slice", data:=.fields #[vl,vu,vc] } }:=by
  refine wpAny_getItem_list_slice ht.isList (Heap.IsSliceOf.new ..) pl pu pc hc ?_ (by rw[mE]<;>omega);refine⟨.ref _,_,I5.laid (t':=s4.toks) (o:=.lst (zCF xs l u c)) (λ b ob q=>lE _ q) (lQ _) ?_,rfl,q _ (I5.hok.fresh (lQ _))⟩;refine⟨mH (zFs xs l u c (λ Ω=>.none)) hz,(zCF its l u c),0,?_,?_⟩
  ·have:=zDl r (sliceRange (sliceBounds l u c xs.length).1 (sliceBounds l u c xs.length).2.1 (sliceBounds l u c xs.length).2.2)
   unfold zCF;rw[←hlen];simpa using this
  ·refine(lG _ rfl).trans ?_
   unfold slicePick zCF;simp
 show wpAny (model X.prog X.w) X.A (subscriptTail e (.Slice lo hi (some es) p2) (.ref a) (.ref s4.heap.objs.size)) (EP X jP σ Q) X.xe { s4 with heap:=s4.heap.push { cls:=.type "slice", data:=.fields #[vl,vu,vc] } };exact tail_any (ops:=[.ref a,.ref s4.heap.objs.size]) ht.isList.typeIs slot_list_getitem.lookup hg (by with_unfolding_all rfl)
theorem zIp {α β:Type}(f:α->β) (xs:List α) (lo hi st:Option Int):zCF (xs.map f) lo hi st=(zCF xs lo hi st).map f:=by
 unfold zCF;rw[lC];generalize sliceRange (sliceBounds lo hi st xs.length).1 (sliceBounds lo hi st xs.length).2.1 (sliceBounds lo hi st xs.length).2.2=is
 induction is with
 |nil=>rfl
 |cons i is ih =>
  rw[List.filterMap_cons,List.filterMap_cons,mI];cases xs[i]? with
  |none=>exact ih
  |some x=>simp only[Option.map_some,mL];rw[ih]
theorem zJD {G G':Str->Prop}(h:∀x,G x->G' x) {a:Atom}(g:a.good G):a.good G':=by
 cases a with
 |name x=>exact h x g
 |num x=>exact True.intro
 |gap x=>exact h x g
theorem zBG {G G':Str->Prop}(h:∀x,G x->G' x):∀{t:Tr},t.good G->t.good G'
 |.num _,_=>True.intro
 |.name x,g=>h x g
 |.ask x,g=>h x g
 |.stop x,g=>h x g
 |.gap x as,g=>⟨h x g.1,g.2.1,λ a ha=>zJD h (g.2.2 a ha)⟩
 |.say a,g=>zBG h (t:=a) g
 |.bin _ a b,g=>⟨zBG h g.1,zBG h g.2⟩
 |.ite a b c,g=>⟨zBG h g.1,zBG h g.2.1,zBG h g.2.2⟩
 |.lett x a b,g=>⟨h x g.1,zBG h g.2.1,zBG h g.2.2⟩
theorem zBF {G:Str->Prop}:∀{t:Tr},t.good G->∀z∈t.wrds,G z
 |.num _,_,z,hz=>by simp[Tr.wrds,Tr.names] at hz
 |.name x,g,z,hz=>by
  have:z=x:=by simpa[Tr.wrds,Tr.names] using hz
  rw[this];exact g
 |.ask _,_,z,hz=>by simp[Tr.wrds,Tr.names] at hz
 |.stop _,_,z,hz=>by simp[Tr.wrds,Tr.names] at hz
 |.gap x as,g,z,hz=>by
  obtain⟨a,ha,hz⟩:=mX.mp (show z∈as.flatMap _ from hz);cases a with
  |name y =>
   have:z=y:=by simpa[Atom.names] using hz
   rw[this];exact g.2.2 _ ha
  |num y=>simp[Atom.names] at hz
  |gap y=>simp[Atom.names] at hz
 |.say a,g,z,hz=>zBF (t:=a) g z hz
 |.bin _ a b,g,z,hz=>by
  rcases lK.mp (show z∈a.wrds++b.wrds from hz) with k|k
  ·exact zBF g.1 z k
  ·exact zBF g.2 z k
 |.ite a b c,g,z,hz=>by
  rcases lK.mp (show z∈a.wrds++(b.wrds++c.wrds) from hz) with k|k
  ·exact zBF g.1 z k
  ·rcases lK.mp k with k|k
   ·exact zBF g.2.1 z k
   ·exact zBF g.2.2 z k
 |.lett x a b,g,z,hz=>by
  rcases lN.mp (show z∈x::(a.wrds++b.wrds) from hz) with k|k
  ·rw[k];exact g.1
  ·rcases lK.mp k with k|k
   ·exact zBF g.2.1 z k
   ·exact zBF g.2.2 z k
theorem zDA:∀t:Tr,(skT t).dep=t.dep
 |.num _=>rfl
 |.name _=>rfl
 |.ask _=>rfl
 |.stop _=>rfl
 |.gap _ []=>rfl
 |.gap _ (_::_)=>rfl
 |.say a=>by simp[skT,Tr.dep,zDA a]
 |.bin o a b=>by simp[skT,Tr.dep,zDA a,zDA b]
 |.ite a b c=>by simp[skT,Tr.dep,zDA a,zDA b,zDA c]
 |.lett x a b=>by simp[skT,Tr.dep,zDA a,zDA b]
theorem zBV:∀t:Tr,t.dep<=t.size+1
 |.num _=>by simp[Tr.dep,Tr.size]
 |.name _=>by simp[Tr.dep,Tr.size]
 |.ask _=>by simp[Tr.dep,Tr.size]
 |.stop _=>by simp[Tr.dep,Tr.size]
 |.gap _ []=>by simp[Tr.dep,Tr.size]
 |.gap _ (_::_)=>by simp[Tr.dep,Tr.size]
 |.say a=>by have:=zBV a;simp[Tr.dep,Tr.size];omega
 |.bin o a b=>by have:=zBV a;have:=zBV b;simp[Tr.dep,Tr.size];omega
 |.ite a b c=>by have:=zBV a;have:=zBV b;have:=zBV c;simp[Tr.dep,Tr.size];omega
 |.lett x a b=>by have:=zBV a;have:=zBV b;simp[Tr.dep,Tr.size];omega
theorem zDZ {L:Told}(hL:∀x a,L x=some a->∀g,a ≠ .gap g):∀(u r:Tr) (bs cs:List Str),bareW noT r cs=bareW L u bs->ngT u->r.dep<=u.dep
 |.num m,r,bs,cs,h,_=>by rw[zD3 h];exact lQ _
 |.ask x,r,bs,cs,h,_=>by rw[zEr h];exact lQ _
 |.stop x,r,bs,cs,h,_=>by rw[zDd h];exact lQ _
 |.gap g as,r,bs,cs,h,n=>n.elim
 |.say a,r,bs,cs,h,n=>by
  obtain⟨a',rfl,e⟩:=zEn h;have:=zDZ hL a a' bs cs e n;simp only[Tr.dep];omega
 |.bin o a b,r,bs,cs,h,n=>by
  obtain⟨a',b',rfl,e1,e2⟩:=zEq h;have:=zDZ hL a a' bs cs e1 n.1;have:=zDZ hL b b' bs cs e2 n.2;simp only[Tr.dep];omega
 |.ite a b c,r,bs,cs,h,n=>by
  obtain⟨a',b',c',rfl,e1,e2,e3⟩:=zEp h;have:=zDZ hL a a' bs cs e1 n.1;have:=zDZ hL b b' bs cs e2 n.2.1;have:=zDZ hL c c' bs cs e3 n.2.2;simp only[Tr.dep];omega
 |.lett x a b,r,bs,cs,h,n=>by
  obtain⟨y,a',b',rfl,e1,e2⟩:=zEo h;have:=zDZ hL a a' bs cs e1 n.1;have:=zDZ hL b b' (bs++[x]) (cs++[y]) e2 n.2;simp only[Tr.dep];omega
 |.name x,r,bs,cs,h,_=>by
  rcases zMP hL bs x with ⟨k,e⟩|⟨y,e⟩|⟨y,e⟩
  all_goals
   replace h:bareW noT r cs=keyDA (keyX L bs x):=h
   rw[e] at h;cases r with
   |name z=>exact lQ _
   |num z=>exact lQ _
   |bin o' a' b'=>cases o'<;>exact tgA h
   |_=>exact tgA h
theorem zNG {φ:Fill}{N:Nat}{t w:Tr}(hp:∀g ns u,φ g=some (ns,u)->ngT u/\u.dep<=N) (h:FilR φ t w):w.dep<=t.dep+N:=by
 induction h with
 | @gap g as r h =>
  obtain⟨ns,u,las,e,_,hl,hA,hb⟩:=h
  have:=zDZ (zJJ (P:=λ a=>∀g,a ≠ .gap g) (λ x a (e:(none:Option Atom)=some a)=>by cases e) λ b hb g eb=>by
   obtain⟨j,hj⟩:=List.getElem?_of_mem hb;have hj2:j<as.length:=by rw[hl];exact(lJ.mp hj).1
   have:=hA j as[j] b (lX hj2) hj;rw[eb] at this;generalize as[j]=a at this;cases this) u r [] [] hb (hp g ns u e).1
  have:=(hp g ns u e).2;omega
 |num _=>exact Nat.le_add_right _ _
 |name _=>exact Nat.le_add_right _ _
 |ask _=>exact Nat.le_add_right _ _
 |stop _=>exact Nat.le_add_right _ _
 |say _ ih=>simp only[Tr.dep];omega
 |bin _ _ ia ib=>simp only[Tr.dep];omega
 |ite _ _ _ ia ib ic=>simp only[Tr.dep];omega
 |lett _ _ ia ib=>simp only[Tr.dep];omega
theorem zCZ:∀(t:Tr) (κ:Kno) (n:Nat),ngT t->(∀x d,κ x=some d->d.deep<=2)->(blT κ n t).deep<=t.dep+2
 |.num _,κ,n,_,_=>by simp[blT,Tr.dep,Dt.deep,Dt.deeps]
 |.name x,κ,n,_,h=>by
  show ((κ x).getD (.tup [.str "name", .str x])).deep<=3;cases e:κ x with
  |none=>simp[Dt.deep,Dt.deeps]
  |some d=>have:=h x d e;simp only[Option.getD_some];omega
 |.ask _,κ,n,_,_=>by simp[blT,Tr.dep,Dt.deep,Dt.deeps]
 |.stop _,κ,n,_,_=>by simp[blT,Tr.dep,Dt.deep,Dt.deeps]
 |.gap _ _,κ,n,g,_=>g.elim
 |.say a,κ,n,g,h=>by
  have:=zCZ a κ n g h;simp only[blT,Tr.dep,Dt.deep,Dt.deeps];omega
 |.bin o a b,κ,n,g,h=>by
  have:=zCZ a κ n g.1 h;have:=zCZ b κ n g.2 h;simp only[blT,Tr.dep,Dt.deep,Dt.deeps];omega
 |.ite a b c,κ,n,g,h=>by
  have:=zCZ a κ n g.1 h;have:=zCZ b κ n g.2.1 h;have:=zCZ c κ n g.2.2 h;simp only[blT,Tr.dep,Dt.deep,Dt.deeps];omega
 |.lett x a b,κ,n,g,h=>by
  have:=zCZ a κ n g.1 h
  have:=zCZ b (setK κ x (atD n)) (n+1) g.2 λ y d e=>by
   unfold setK at e
   by_cases z:y=x
   ·rw[if_pos z] at e
    cases e;simp[atD,Dt.deep,Dt.deeps]
   ·rw[if_neg z] at e
    exact h y d e
  simp only[blT,Tr.dep,Dt.deep,Dt.deeps];omega
theorem zOC (t:Tr) (n:Nat):∃ds,blT noK n t = .tup ds:=by cases t<;>exact⟨_,rfl⟩
theorem zH1 {gs:List Str}{cs:List Nat}:∀(n:Nat) (t:Tr) (bd:List Str),t.size<=n->ShS gs cs bd t->∀s∈t.subs,∃bd',ShS gs cs bd' s
 |0,t,bd,h=>absurd h (by have:=zCK t;omega)
 |n+1,t,bd,h=>λ ht s hs=>by
  rw[zG9] at hs;rcases lN.mp hs with rfl|hs
  ·exact⟨bd,ht⟩
  ·obtain⟨p,hp,hs⟩:=mX.mp hs
   have hz:=zCo hp
   obtain⟨bd1,h1⟩:∃bd1,ShS gs cs bd1 p:=by
    by_cases k:t.kd = .lett
    ·obtain⟨x,a,b,rfl⟩:=zFz k
     simp only[Tr.parts,nN,nB,or_false] at hp;rcases hp with rfl|rfl
     ·exact⟨bd,ht.1⟩
     ·exact⟨x::bd,ht.2⟩
    ·exact⟨bd,zJW ht k hp⟩
   exact zH1 n p bd1 (by omega) h1 s hs
theorem zNR (as:List Atom):(as.flatMap λ a=>(agap a).map λ h=>(h,0)).length<=as.length:=by
 induction as with
 |nil=>exact lQ _
 |cons a as ih =>
  rw[rG,mK,mM,lC];have:(agap a).length<=1:=by cases a<;>simp[agap]
  omega
theorem sh_ct {gs bd:List Str}{cs:List Nat}(co:CsOk cs) {t:Tr}(h:ShS gs cs bd t):∀p∈t.subs,(cnt1 p).length<=10:=λ s hs=>by
 obtain⟨bd',k⟩:=zH1 _ t bd (lQ _) h s hs;cases s with
 |gap g as =>
  obtain⟨j,_,l,_⟩:=k;have:=zNR as;have:=co.le j;show ((g,as.length)::as.flatMap _).length<=10;rw[mM];omega
 |_=>exact lZ _
theorem sh_gs {gs bd:List Str}{cs:List Nat}{t:Tr}(h:ShS gs cs bd t):∀z∈(gcnt t).map (·.1),z∈gs:=λ z hz=>by
 obtain⟨q,hq,rfl⟩:=mD.mp hz;obtain⟨s,hs,hq⟩:=mX.mp hq;obtain⟨bd',k⟩:=zH1 _ t bd (lQ _) h s hs;cases s with
 |gap g as =>
  obtain⟨j,hj,l,hA⟩:=k;rcases lN.mp (show q∈(g,as.length)::as.flatMap _ from hq) with rfl|hq
  ·exact lM hj
  ·obtain⟨a,ha,hq⟩:=mX.mp hq
   rcases hA a ha with ⟨n,rfl⟩|⟨x,hx,rfl⟩|⟨i,p,_,hp,rfl⟩
   ·cases hq
   ·cases hq
   ·rw[mR.mp hq];exact lM hp
 |_=>cases hq
noncomputable def setP (φ:Str->Option Pce) (g:Str) (o:Option Pce):Str->Option Pce:=λ z=>if z=g then o else φ z
theorem zJX {φ:Str->Option Pce}{g z:Str}{o:Option Pce}(h:z≠g):setP φ g o z=φ z:=if_neg h
theorem zHD {φ:Str->Option Pce}{g:Str}{o:Option Pce}:setP φ g o g=o:=if_pos rfl
theorem FlD.put {H:Hp}{φ:Str->Option Pce}{kvs:List (Key × V)}(h:FlD H φ kvs) (g:Str) {q:Pce}{v:V}(r:RelP H (some q) (some v)):FlD H (setP φ g (some q)) (putK kvs (Sum.inr g:Key) v):=λ z=>by
 rw[zDO];unfold setP
 by_cases e:z=g
 ·rw[if_pos e,if_pos (by rw[e])];exact r
 ·rw[if_neg e,if_neg (λ y=>e (Sum.inr.inj y))];exact h z
theorem zJ5:∀{kvs:List (Key × V)},(kvs.map (·.1)).Nodup->∀p∈kvs,valV kvs p.1=some p.2
 |q::r,h,p,hp=>by
  obtain⟨h1,h2⟩:=rD.mp (show (q.1::r.map (·.1)).Nodup from h);rcases lN.mp hp with rfl|hp
  ·exact zBH rfl
  ·rw[zBI λ e=>h1 (by rw[e];exact mD.mpr ⟨p,hp,rfl⟩)]
   exact zJ5 h2 p hp
theorem zLC {φ:Str->Option Pce}{g:Str}{o o':Option Pce}:setP (setP φ g o) g o'=setP φ g o':=by
 funext z;unfold setP
 by_cases e:z=g
 ·rw[if_pos e,if_pos e]
 ·rw[if_neg e,if_neg e,if_neg e]
theorem zIZ (ns:List Int) (a b:Option Int):∃cs:List Int,cutV (ns.map V.int) a b=cs.map V.int:=by
 unfold cutV;exact⟨_,by rw[←List.map_drop,←List.map_take]⟩
theorem zNM (xs:List V) (a b:Nat):(cutV xs (some (a:Int)) (some (b:Int))).length<=b - a:=by
 unfold cutV;rw[HT.sIx_nat,HT.sIx_nat,mO];omega
theorem zL4 (xs:List V) (b:Nat):(cutV xs none (some (b:Int))).length<=b:=by
 unfold cutV;rw[HT.sIx_nat,mO];omega
structure PcG (W:List Str) (q:Pce):Prop where
 nl:q.1.length<=3
 gd:q.2.good (λ x=>x∈W)
 ng:ngT q.2
 sz:q.2.size<=13
structure PdL (H:Hp) (gs:List Str) (cs:List Nat) (W:List Str) (φ:Str->Option Pce) (kvs:List (Key × V)) (i:Nat):Prop where
 fl:FlD H φ kvs
 nd:(kvs.map (·.1)).Nodup
 rf:∀e∈kvs,∃b,e.2=V.ref b
 ok:∀g c,φ g=some c->PcG W c
 td:∀j g,j<i->gs[j]?=some g->∃ns u,φ g=some (ns,u)/\ns.length=cs.getD j 0/\(4<=j->ns=[]/\∃n,u = .num n)
theorem PdL.mono {H H':Hp}(k:Tk H H') {gs W:List Str}{cs:List Nat}{φ:Str->Option Pce}{kvs:List (Key × V)}{i:Nat}(h:PdL H gs cs W φ kvs i):PdL H' gs cs W φ kvs i:=⟨h.fl.mono k,h.nd,h.rf,h.ok,h.td⟩
theorem PdL.put {H:Hp}{gs W:List Str}{cs:List Nat}{φ:Str->Option Pce}{kvs:List (Key × V)}{i:Nat}(h:PdL H gs cs W φ kvs i) {g:Str}(hg:gs[i]?=some g) (nd:gs.Nodup) {c:Pce}{b:Addr}(r:RelP H (some c) (some (.ref b))) (hc:PcG W c):PdL H gs cs W (setP φ g (some c)) (putK kvs (Sum.inr g:Key) (.ref b)) i:=by
 refine⟨h.fl.put g r,zMM _ _ h.nd,λ e he=>?_,λ z c' e=>?_,λ j x hj hx=>?_⟩
 ·rcases zEt he with rfl|he
  ·exact⟨b,rfl⟩
  ·exact h.rf e he
 ·by_cases ez:z=g
  ·rw[ez,zHD] at e;cases e;exact hc
  ·rw[zJX ez] at e;exact h.ok z c' e
 ·have:x≠g:=λ z=>by
   rw[z] at hx;obtain⟨l1,e1⟩:=lJ.mp hx;obtain⟨l2,e2⟩:=lJ.mp hg;have:=(List.getElem_inj nd).mp (e1.trans e2.symm);omega
  rw[zJX this];exact h.td j x hj hx
theorem PdL.next {H:Hp}{gs W:List Str}{cs:List Nat}{φ:Str->Option Pce}{kvs:List (Key × V)}{i:Nat}(h:PdL H gs cs W φ kvs i) {g:Str}(hg:gs[i]?=some g) {ns:List Str}{u:Tr}(e:φ g=some (ns,u)) (l:ns.length=cs.getD i 0) (k:4<=i->ns=[]/\∃n,u = .num n):PdL H gs cs W φ kvs (i+1) :=
 ⟨h.fl,h.nd,h.rf,h.ok,λ j x hj hx=>by
  by_cases z:j=i
  ·subst z
   rw[hg] at hx;cases hx;exact⟨ns,u,e,l,k⟩
  ·exact h.td j x (by omega) hx⟩
theorem PdL.pcd {H:Hp}{gs W:List Str}{cs:List Nat}{φ:Str->Option Pce}{kvs:List (Key × V)}(h:PdL H gs cs W φ kvs 6) (lg:gs.length=6):PcD φ gs cs :=
 ⟨λ j g hg=>by
  obtain⟨ns,u,e,l,_⟩:=h.td j g (by have:=(lJ.mp hg).1;omega) hg;have k:=h.ok g _ e;have:=zBV u;have:=k.sz;exact⟨ns,u,e,l,k.ng,by dsimp only at this;omega⟩,λ j g hj hg=>by
  obtain⟨ns,u,e,l,k⟩:=h.td j g (by have:=(lJ.mp hg).1;omega) hg;obtain⟨rfl,n,rfl⟩:=k hj;exact⟨n,e⟩⟩
theorem PdL.flo {H:Hp}{gs bd W:List Str}{cs:List Nat}{φ:Str->Option Pce}{kvs:List (Key × V)}{i:Nat}(h:PdL H gs cs W φ kvs i) (co:CsOk cs) {t:Tr}(ht:ShS gs cs bd t) (tg:t.good (λ x=>x∈W)) (sz:t.size<=60) (lw:W.length<64):FlO φ W t :=
 ⟨sz,sh_ct co ht,lw,zBF tg,λ g q e=>⟨by have:=(h.ok g q e).sz;omega,zBF (h.ok g q e).gd⟩⟩
theorem PdL.pco {H:Hp}{gs bd W:List Str}{cs:List Nat}{φ:Str->Option Pce}{kvs:List (Key × V)}(h:PdL H gs cs W φ kvs 6) (lg:gs.length=6) (hW:∀x∈W,GW x) {t:Tr}(ht:ShS gs cs bd t):PcO φ t :=
 ⟨λ g ns u e=>⟨by have:=(h.ok g _ e).nl;dsimp only at this;omega,zBG (G:=λ x=>x∈W) hW (h.ok g _ e).gd⟩,λ g as hm=>by
  obtain⟨bd',j,hj,l,hA⟩:=zH1 _ t bd (lQ _) ht _ hm;have pc:=h.pcd lg;obtain⟨ns,u,e,l2,_⟩:=pc.td j g hj;refine⟨ns,u,e,by omega,λ x hx=>?_⟩;rcases hA _ hx with ⟨n,e⟩|⟨y,_,e⟩|⟨i,p,hi,hp,e⟩
  ·cases e
  ·cases e
  ·cases e
   obtain⟨n,e⟩:=pc.nm i _ hi hp;exact⟨[],n,e⟩⟩
theorem PdL.all {H:Hp}{gs W:List Str}{cs:List Nat}{φ:Str->Option Pce}{kvs:List (Key × V)}(h:PdL H gs cs W φ kvs 6) (lg:gs.length=6):∀g∈gs,φ g≠none:=λ g hg=>by
 obtain⟨j,hj⟩:=List.getElem?_of_mem hg;obtain⟨ns,u,e,_⟩:=(h.pcd lg).td j g hj;rw[e];exact λ z=>nomatch z
theorem zEY {X:Cx}{a b:Expr}{ta tb:TE}{pos:Pos}{op:Operator}{r:R2}(ho:OpR X (binaryOp op) r) (ha:Sd (PE X a ta)) (hb:Sd (PE X b tb)):Sd (PE X (.BinOp a op b pos) (tOp r ta tb)):=⟨pe_op ho ha.un hb.un⟩
theorem pa_bS {X:Cx}{es:List Expr}{te:TE}{tA:TA}{a b:Expr}{op:Operator}{p:Pos}(ha:Sd (PE X (.BinOp a op b p) te)) (hr:Sd (PA X es tA)):Sd (PA X (.BinOp a op b p::es) (tCons te tA)):=⟨zAA ha.un hr.un rfl⟩
theorem zNd {X:Cx}{st:List Stmt}{G:TS->Prop}(h:∃t,Sd (PSs X st t)/\G t):∃t,PSs X st t/\G t:=h.elim λ t ht=>⟨t,ht.1.un,ht.2⟩
theorem pa_nS {X:Cx}{es:List Expr}{te:TE}{tA:TA}{x:Str}{p:Pos}(ha:Sd (PE X (.Name x p) te)) (hr:Sd (PA X es tA)):Sd (PA X (.Name x p::es) (tCons te tA)):=⟨zAA ha.un hr.un rfl⟩
theorem pa_kS {X:Cx}{es xs:List Expr}{ks:List Keyword}{te:TE}{tA:TA}{f:Expr}{p:Pos}(ha:Sd (PE X (.Call f xs ks p) te)) (hr:Sd (PA X es tA)):Sd (PA X (.Call f xs ks p::es) (tCons te tA)):=⟨zAA ha.un hr.un rfl⟩
theorem zDX {X:Cx}{CX:CXT}{k:Nat}{f:Addr}{fd:FuncData}{ps:List Str}{sp:Sp}{ds:List Value}{dvs:List V}{E:XK}{x:Str}{p pos:Pos}{e:Expr}{es:List Expr}{t:TA}(F:FnOk X.prog X.w X.K X.mg X.base CX k f fd ps sp) (hr:Room k X.A) (hg:Gl X x) (hm:X.mg x=some (.ref f)) (hk:W.keepIn X.K (.ref f)=true) (hb:Binds X.K fd ps ds) (hd:Vals dvs ds) (hx:zFd CX X E)
  (ha:Sd (PA X (e::es) t)) (hdb:(x == ("__debug__" : Str))=false:=by decide) (he:starEach (e::es) X.env=(false,eval e X.env)::starEach es X.env:=by rfl) (hpl:(backTo pos (starEach es X.env)).any (·.1)=false:=by rfl) :
  Sd (PE X (.Call (.Name x p) (e::es) [] pos) (tCall sp dvs E t)):=⟨zCn F hr hg hm hk hb hd hx ha.un hdb he hpl⟩
theorem SbD.tkD {d:Addr}{H H':Hp}(h:SbD d H H') {kvs:List (Key × V)}(e:H d=some (.dK kvs)):Tk H H':=λ b xs hb=>h b _ (λ z=>by rw[z,e] at hb;cases hb) hb
theorem cutS (ws:List Str) (a b:Nat) (h:a<=ws.length) (hb:b<=ws.length):cutV (ws.map V.str) (some (a:Int)) (some (b:Int))=((ws.drop a).take (b - a)).map V.str:=by
 unfold cutV;rw[HT.sIx_nat,HT.sIx_nat,lC,rA h,rA hb,List.map_take,List.map_drop]
theorem zNO (ws:List Str) (b:Nat) (hb:b<=ws.length):cutV (ws.map V.str) none (some (b:Int))=(ws.take b).map V.str:=by
 have e:HT.sIx (ws.map V.str).length 0 none=0:=rfl;unfold cutV;rw[e,HT.sIx_nat,lC,rA hb];simp
theorem zNN (ws:List Str) (a:Nat) (h:a<=ws.length):cutV (ws.map V.str) (some (a:Int)) none=(ws.drop a).map V.str:=by
 unfold cutV;rw[HT.sIx_nat,HT.sIx_none,lC,rA h,←List.map_drop];exact mV (by simp)
end L2
namespace K14
open PySem PySem.Spec L2 PyProof.Rows
section
variable {P:Program}{w:World}{K:W.Frag}{mg:Str->Option Value}{base:Heap}{k n:Nat}{cF cN f g g1 g2 g3 g4 g5 g6 g7 g8 kv:Addr}{fd gd gd1 gd2 gd3 gd4 gd5 gd6 gd7 gd8:FuncData}
def top (i:Nat):Stmt:=PySem.Challenge.pw_recastle_k14_filled_catches_no_name.main.body.getD i (.Pass ⟨0,0,0,0⟩)
abbrev zCN:Stmt:=top 7
theorem zE4:zAV ["tree"] ["tree"] (zAN zCN):=scI
abbrev zHK:Stmt:=top 8
theorem zLD:zAV ["tree"] ["tree"] (zAN zHK):=scI
abbrev zDH:Stmt:=top 10
theorem zBM:zAV ["tree", "found", "level", "deeper", "part"] ["tree"] (zAN zDH):=scI
abbrev zB9:Stmt:=top 11
theorem zAe:zAV ["tree", "found", "level", "deeper", "place", "part", "number", "inner"] ["tree"] (zAN zB9):=scI
noncomputable def zDk (t:Tr):Int:=t.head
def zB6:Sp:=λ vs H Q Ω=>E2 λ t v=>A3 (vs=[v]) (Rep H t v) (Q (.int (zDk t)) H)
theorem zE8 {k:Nat}{f:Addr}{fd:FuncData}{lv:Addr}(F:Fun K "parts_begin" "parts_begin" zCN f fd) (z_len:mg "len" = none) (zOI:mg "LEAF_SIGNS" = some (.ref lv)) (hL:zG3 K lv) :
  FnOk P w K mg base CX0 (k+1) f fd ["tree"] zB6:=by
 refine F.ok zE4 (λ vs H Q E h=>?_) (λ cdv A outer s H vs Q E hr h=>?_)
 ·obtain⟨t,v,rfl,_⟩:=h
  rfl
 obtain⟨t,v,rfl,hR,q⟩:=h
 refine⟨_,(zAE (ps_if (zAP (r:=rIn K false) zCp (iC (r:=rIxT K) zAS (pv 0)) (zFu (v:=.ref _) (by rfl) zOI (by rfl)) rfl) (zAG (zAX (cL z_len (zAA (pv 0) zAD)))) zAU)
  (zAE (ps_if (zAP op_eq (iC (r:=rIxT K) zAS (pv 0)) zAT (zAZ _)) (zAG (zAX zAF)) zAU)
  (zAG (zAX zAF)))),?_⟩
 obtain⟨a,hs,us,rfl,ha,hl,hp⟩:=hR.all;have h0:atI (V.str t.kd.s::hs++us) 0=some (.str t.kd.s):=zAY (j:=0) rfl;refine⟨_,rfl,a,_,0,_,rfl,rfl,SqT.of ha,h0,lv,zH0,rfl,.inr (.inr hL),rfl,rfl,_,rfl,?_⟩;show if inV (.str t.kd.s) zH0=true then _ else _
 rw[zLq];refine ite2 (λ c=>?_) (λ c=>?_)
 ·refine⟨_,rfl,a,_,rfl,.inr (SqT.of ha),?_⟩
  have e:((V.str t.sign::hs++us).length:Int)=zDk t:=by
   have hu:us.length=0:=by
    rw[←hp.length];cases t with
    |bin o a b=>cases o<;>cases c
    |_=>first|rfl|cases c
   rw[mK,mM,hu];unfold zDk;omega
  rw[e];exact q
 ·refine⟨_,rfl,a,_,0,_,rfl,rfl,SqT.of ha,h0,rfl,_,rfl,?_⟩
  refine ite2 (λ d=>?_) (λ d=>?_)
  ·have z:t.kd = .lett:=Kd.eq_iff.mp (lS d)
   have e:zDk t=2:=by
    cases t with
    |lett x a b=>rfl
    |bin o a b=>cases o<;>cases z
    |_=>cases z
   rw[e] at q;exact q
  ·have e:zDk t=1:=by
    cases t with
    |lett x a b=>exact absurd rfl d
    |bin o a b=>rfl
    |ite a b c=>rfl
    |say a=>rfl
    |_=>exact absurd rfl c
   rw[e] at q;exact q
def zB0:Sp:=λ vs H Q Ω=>E2 λ t v=>A3 (vs=[v]) (Rep H t v) (∀p H' us,Same H H'->H' p=some (.tup us)->Paired (Rep H') t.parts us->Q (.ref p) H')
theorem zLU (F:Fun K "parts" "parts" zHK f fd) (zOJ:FnB P w K mg base k "parts_begin" g gd ["tree"] zB6) :
  FnOk P w K mg base CX0 (k+1) f fd ["tree"] zB0:=by
 refine F.ok zLD (λ vs H Q E h=>?_) (λ cdv A outer s H vs Q E hr h=>?_)
 ·obtain⟨t,v,rfl,_⟩:=h
  rfl
 obtain⟨t,v,rfl,hR,q⟩:=h;refine⟨_,(zAG (zAX (zAo zHC (pv 0) (zAk (pe_cl zOJ hr (zAA (pv 0) zAD))) zA4))),?_⟩;obtain⟨a,hs,us,rfl,ha,hl,hp⟩:=hR.all;have hn:(V.str t.sign::hs++us).length=t.head+us.length:=by rw[mK,mM];omega
 have h1:=zLs t
 have e1:HT.sIx (V.str t.sign::hs++us).length 0 (some (zDk t))=t.head:=by
  show HT.sIx _ 0 (some ((t.head:Nat):Int))=_;rw[HT.sIx_nat,hn];omega
 have e2:cutV (V.str t.sign::hs++us) (some (zDk t)) none=us:=by
  unfold cutV;rw[e1,HT.sIx_none,hn]
  have:(V.str t.sign::hs++us).drop t.head=us:=by
   rw[←hl];exact List.drop_left' rfl
  rw[this,mV (by omega)]
 refine⟨_,rfl,_,rfl,t,_,rfl,hR,_,rfl,a,_,rfl,ha,λ z=>?_,λ p H' g e=>?_⟩
 ·rw[e1] at z
  omega
 ·rw[e2] at e
  exact q p H' us g e (Paired.mapP hp λ Ω Ω r=>r.mono g.tk)
def zMD:Sp:=λ vs H Q Ω=>E2 λ(t:Tr) (v:V)=>A4 (vs=[v]) (Rep H t v) (t.size<=60) (∀(l:Addr) (us:List V) (F:List Tr) (H':Hp),Same H H'->H' l=some (.lst us)->Paired (Rep H') F us->F.Perm t.subs->Q (.ref l) H')
theorem zNv (F:Fun K "all_parts" "all_parts" zDH f fd) (zOK:FnB P w K mg base k "parts" g1 gd1 ["tree"] zB0):FnOk P w K mg base CX0 (k+1) f fd ["tree"] zMD:=by
 refine F.ok zBM (λ vs H Q E h=>?_) (λ cdv A outer s H vs Q E hr h=>?_)
 ·obtain⟨t,v,rfl,_⟩:=h
  rfl
 obtain⟨t,v,rfl,hR,hsz,q⟩:=h
 refine⟨_,(zAE (pS (i:=1) zBM.nd (zAv zAD:PE _ _ _))
  (zAE (pS (i:=2) zBM.nd (zAv (zAA (pv 0) zAD):PE _ _ _))
  (zAE (zC2 PassesOwn.never (zC0 (pv 2) (λ Ω=>rfl)) (zAE (zCk (pe_bm rR rW rX zDa (pv 1) (zAA (pv 2) zAD)))
  (zAE (pS (i:=3) zBM.nd (zAv zAD:PE _ _ _))
  (zAE (zAt PassesOwn.never rfl (zAz (pv 2)) (pGn (i:=4) zBM.nd) (zAG (zCk (pe_bm rR rW rX zI2 (pv 3) (zAA (pe_cl zOK hr (zAA (pv 4) zAD)) zAD)))))
  (zAG (pS (i:=2) zBM.nd (pv 3)))))))
  (zAG (zAX (pv 1)))))),?_⟩
 refine⟨(by show 0<=sizeLine;decide),λ fo hfo=>⟨_,rfl,(by show 1<=sizeLine;decide),λ l hl=>?_⟩⟩;have g1:=zAC (o:=.lst []) hfo;have g2:=zAC (o:=.lst [v]) hl
 refine⟨(λ m σ' H'=>E7 λ(l:Addr) (ls fs:List V) (L Fd:List Tr) (s3 s4:Option V)=>A11 (σ'=[some v,some (.ref fo),some (.ref l),s3,s4]) (Same H H') (H l=none) (l≠fo) (H' fo=some (.lst fs)) (H' l=some (.lst ls)) (Paired (Rep H') Fd fs) (Paired (Rep H') L ls) (m=szT L) ((Fd++L.flatMap Tr.subs).Perm t.subs) (Fd.length+szT L<=t.size)),
  ⟨t.size,l,[v],[],[t],[],none,none,rfl,g1.trans g2,g1.free hl,Ne.symm (zAJ (zAB (H:=H) (a:=fo) (o:=.lst [])) hl),g2 _ _ zAB,zAB,.nil,.cons (hR.mono (g1.trans g2).tk) .nil,by simp[szT],by simp,by simp[szT]⟩,?_⟩
 rintro m σ' Hw ⟨l,ls,fs,L,Fd,s3,s4,rfl,gw,hl,hlf,ef,el,pF,pL,rfl,hmem,hcnt⟩;have lL:ls.length=L.length:=zAH pL;have lF:fs.length=Fd.length:=zAH pF;have hZ:=zDP L;refine⟨_,rfl,_,.inl ⟨ls,SqL.of el,rfl⟩,?_⟩;refine ite2 (λ c=>?_) (λ c=>?_)
 ·refine⟨_,λ Ω Ω h=>h,?_⟩
  refine⟨_,rfl,.inl ⟨rfl,_,SqL.of ef⟩,_,rfl,fo,l,fs,ls,rfl,rfl,ef,el,zAm (by omega),?_⟩;have ef1:=@zAB Hw fo (.lst (fs++ls));have el1:(upd Hw fo (.lst (fs++ls))) l=some (.lst ls):=by rw[zAK hlf];exact el
  have gw1:Same H (upd Hw fo (.lst (fs++ls))):=zAQ gw hfo;have tk1:Tk Hw (upd Hw fo (.lst (fs++ls))):=Tk.lst ef;show tSeq _ _ _ _ (upd Hw fo (.lst (fs++ls)));generalize upd Hw fo _=H1 at ef1 el1 gw1 tk1 ⊢;refine⟨(by show 0<=sizeLine;decide),λ dp hdp=>?_⟩;have g4:=zAC (o:=.lst []) hdp;have hdpH:H dp=none:=gw1.free hdp;have ndf:dp≠fo:=Ne.symm (zAJ ef1 hdp);have ndl:dp≠l:=Ne.symm (zAJ el1 hdp);refine⟨_,rfl,l,rfl,⟨ls,SqL.of (g4 _ _ el1)⟩,?_⟩;refine zA8 (xs:=ls) (λ i σ' H'=>E2 λ(dps:List V) (s4:Option V)=>A7 (σ'=[some v,some (.ref fo),some (.ref l),some (.ref dp),s4]) (Same H H') (Tk H1 H') (H' fo=some (.lst (fs++ls))) (H' l=some (.lst ls)) (H' dp=some (.lst dps)) (Paired (Rep H') ((L.take i).flatMap Tr.parts) dps)) ?_ ?_ ?_ ?_
  ·exact⟨[],s4,rfl,gw1.trans g4,g4.tk,g4 _ _ ef1,g4 _ _ el1,zAB,.nil⟩
  ·rintro i σ1 H2 _ ⟨dps,s4,rfl,g5,k5,ef5,el5,ed5,p5⟩
   exact SqL.of el5
  ·rintro i x σ1 H2 hx ⟨dps,s4,rfl,g5,k5,ef5,el5,ed5,p5⟩
   obtain⟨tq,eq,rq⟩:=zAW pL hx;refine⟨_,rfl,.inl ⟨rfl,_,SqL.of ed5⟩,_,rfl,tq,x,rfl,rq.mono (tk1.trans k5),λ pp H3 us g6 ep hus=>?_⟩
   have hflat:((L.take (i+1)).flatMap Tr.parts)=((L.take i).flatMap Tr.parts)++tq.parts:=by
    rw[zAR eq,nK];simp
   have hlen:dps.length+us.length<=1000:=by
    have z0:=zAH p5;have z1:=zAH hus;have z2:=zG8 ((L.take (i+1)).flatMap Tr.parts);have z3:=zDP (L.take (i+1));have z4:=zHq L (i+1);rw[hflat,mK] at z2;rw[hflat] at z3;omega
   have ed6:=g6 _ _ ed5;refine⟨dp,pp,dps,us,rfl,rfl,ed6,SqT.of ep,zAm hlen,?_⟩;have tkz:Tk H3 (upd H3 dp (.lst (dps++us))):=Tk.lst ed6;refine⟨dps++us,_,rfl,zAQ (g5.trans g6) hdpH,k5.trans (g6.tk.trans tkz),by rw[zAK (Ne.symm ndf)];exact g6 _ _ ef5,by rw[zAK (Ne.symm ndl)];exact g6 _ _ el5,zAB,?_⟩;rw[hflat];exact zAO (Paired.mapP p5 λ Ω Ω z=>z.mono (g6.tk.trans tkz)) (Paired.mapP hus λ Ω Ω z=>z.mono tkz)
  ·rintro σ1 H2 ⟨dps,s4,rfl,g5,k5,ef5,el5,ed5,p5⟩
   rw[mV (by omega)] at p5
   have hpos:0<L.length:=by
    rw[←lL];cases ls with
    |nil=>simp at c
    |cons _ _=>simp
   refine⟨_,rfl,szT (L.flatMap Tr.parts),by omega,dp,dps,fs++ls,L.flatMap Tr.parts,Fd++L,some (.ref dp),s4,rfl,g5,hdpH,ndf,ef5,ed5,zAO (Paired.mapP pF λ Ω Ω z=>z.mono (tk1.trans k5)) (Paired.mapP pL λ Ω Ω z=>z.mono (tk1.trans k5)),p5,rfl,?_,?_⟩
   ·rw[mY];exact((zFL L).symm.append_left Fd).trans hmem
   ·rw[mK]
    omega
 ·have e0:ls=[]:=by
   cases ls with
   |nil=>rfl
   |cons _ _=>simp at c
  have eL:L=[]:=by
   subst e0;cases L with
   |nil=>rfl
   |cons _ _=>simp at lL
  subst eL;refine⟨_,rfl,q fo fs Fd Hw gw ef pF ?_⟩;simpa using hmem
def PPl (H:Hp) (x:PlT) (v:V):Prop:=∃u,PlV H (x.1,u) v/\Rep H x.2 u
theorem PPl.mono {H H':Hp}(k:Tk H H') {x:PlT}{v:V}:PPl H x v->PPl H' x v
 |⟨u,h,r⟩=>⟨u,h.mono k,r.mono k⟩
theorem zJ9 {α β:Type}(g:α->β):∀{qs l:List β},qs.Perm l->∀{Z:List α},Z.map g=l->∃Z':List α,Z'.Perm Z/\Z'.map g=qs:=by
 intro qs l h
 induction h with
 |nil =>
  intro Z e;have:Z=[]:=List.map_eq_nil_iff.mp e;subst this;exact⟨[],.nil,rfl⟩
 |cons x _ ih =>
  intro Z e;obtain⟨z,Z2,rfl,e1,e2⟩:=List.map_eq_cons_iff.mp e;obtain⟨Z',h1,h2⟩:=ih e2;exact⟨z::Z',h1.cons z,by simp[e1,h2]⟩
 |swap x y l =>
  intro Z e;obtain⟨z,Z2,rfl,e1,e2⟩:=List.map_eq_cons_iff.mp e;obtain⟨z2,Z3,rfl,e3,e4⟩:=List.map_eq_cons_iff.mp e2;exact⟨z2::z::Z3,.swap _ _ _,by simp[e1,e3,e4]⟩
 |trans _ _ ih1 ih2 =>
  intro Z e;obtain⟨Z1,h1,h2⟩:=ih2 e;obtain⟨Z2,h3,h4⟩:=ih1 h2;exact⟨Z2,h3.trans h1,h4⟩
theorem zGa {H:Hp}{F:List PlT}{us:List V}(h:Paired (PPl H) F us):∃Z:List (PlT × V),Z.map (·.1)=F/\Paired (PlV H) (Z.map λ z=>(z.1.1,z.2)) us/\∀z∈Z,Rep H z.1.2 z.2:=by
 induction h with
 |nil=>exact⟨[],rfl,.nil,λ z h=>nomatch h⟩
 |cons r q ih =>
  obtain⟨Z,h1,h2,h3⟩:=ih;obtain⟨u,hu,ru⟩:=r;refine⟨(_,u)::Z,by simp[h1],.cons hu h2,λ z hz=>?_⟩;rcases nN.mp hz with rfl|hz
  ·exact ru
  ·exact h3 z hz
theorem zGb {H:Hp}:∀{Z:List (PlT × V)}{us:List V},Paired (PlV H) (Z.map λ z=>(z.1.1,z.2)) us->(∀z∈Z,Rep H z.1.2 z.2)->Paired (PPl H) (Z.map (·.1)) us
 |[],_,h,_=>by
  cases h;exact .nil
 |z::Z,_,h,k=>by
  rw[mL] at h ⊢;cases h with
  |cons r q=>exact .cons ⟨z.2,r,k z lO⟩ (zGb q λ y hy=>k y (lP _ hy))
def zDQ:Sp:=λ vs H Q Ω=>E2 λ(t:Tr) (v:V)=>A4 (vs=[v]) (Rep H t v) (t.size<=60) (∀(l:Addr) (us:List V) (H':Hp),Same H H'->H' l=some (.lst us)->Paired (PPl H') (psub [] t) us->Q (.ref l) H')
theorem zJx (F:Fun K "placed_parts" "placed_parts" zB9 f fd) (z_enumerate:mg "enumerate" = none) (z_sorted:mg "sorted" = none) (zOK:FnB P w K mg base k "parts" g1 gd1 ["tree"] zB0):FnOk P w K mg base CX0 (k+1) f fd ["tree"] zDQ:=by
 refine F.ok zAe (λ vs H Q E h=>?_) (λ cdv A outer s H vs Q E hr h=>?_)
 ·obtain⟨t,v,rfl,_⟩:=h
  rfl
 obtain⟨t,v,rfl,hR,hsz,q⟩:=h;have hu5:=hu150 hr
 refine⟨_,(zAE (pS (i:=1) zAe.nd (zAv zAD:PE _ _ _))
  (zAE (pS (i:=2) zAe.nd (zAv (zAA (zAh (zAA (zAh zAD:PE _ _ _) (zAA (pv 0) zAD)):PE _ _ _) zAD):PE _ _ _))
  (zAE (zC2 PassesOwn.never (zC0 (pv 2) (λ Ω=>rfl)) (zAE (zCk (pe_bm rR rW rX zDa (pv 1) (zAA (pv 2) zAD)))
  (zAE (pS (i:=3) zAe.nd (zAv zAD:PE _ _ _))
  (zAE (zAt PassesOwn.never rfl (zAz (pv 2)) (zCl rfl (zAc (pGn (i:=4) zAe.nd) (zAc (pGn (i:=5) zAe.nd) zBe))) (zAG (zAt PassesOwn.never rfl (zJk (by rfl) z_enumerate (zAA (pe_cl zOK hr (zAA (pv 5) zAD)) zAD)) (zCl rfl (zAc (pGn (i:=6) zAe.nd) (zAc (pGn (i:=7) zAe.nd) zBe))) (zAG (pAp (pv 3) (zAh (zAA (pe_op zHN (pv 4) (zAh (zAA (pv 6) zAD):PE _ _ _)) (zAA (pv 7) zAD)):PE _ _ _))))))
  (zAG (pS (i:=2) zAe.nd (pv 3)))))))
  (zAG (zAX (zBb (zGq hu5) (by rfl) z_sorted PyProof.Rows.boot_sorted (zAA (pv 1) zAD))))))),?_⟩
 have d2:2<=sizeLine:=by decide
 refine⟨(by show 0<=sizeLine;decide),λ fo hfo=>⟨(by show 0<=sizeLine;decide),λ pe hpe=>⟨_,rfl,d2,λ pr hpr=>⟨(by show 1<=sizeLine;decide),λ l hl=>?_⟩⟩⟩⟩;have g1:=zAC (o:=.lst []) hfo;have g2:=zAC (o:=.tup []) hpe;have g3:=zAC (o:=.tup [.ref pe,v]) hpr;have g4:=zAC (o:=.lst [.ref pr]) hl;have g23:=g2.trans g3;have gA:=g1.trans (g23.trans g4)
 refine⟨(λ m σ' H'=>E10 λ(l:Addr) (ls fs:List V) (L Fd:List PlT) (s3 s4 s5 s6 s7:Option V)=>A11 (σ'=[some v,some (.ref fo),some (.ref l),s3,s4,s5,s6,s7]) (Same H H') (H l=none) (l≠fo) (H' fo=some (.lst fs)) (H' l=some (.lst ls)) (Paired (PPl H') Fd fs) (Paired (PPl H') L ls) (m=szP L) ((Fd++allP L).Perm (psub [] t)) (∀x∈L,x.1.length+x.2.size<=60)),
  ⟨szP [([],t)],l,[.ref pr],[],[([],t)],[],none,none,none,none,none,rfl,gA,(g1.trans g23).free hl,?_,g4 _ _ (g23 _ _ zAB),zAB,.nil,.cons ⟨v,⟨pr,pe,rfl,g4 _ _ zAB,g4 _ _ (g3 _ _ zAB)⟩,hR.mono gA.tk⟩ .nil,rfl,by simp[allP],by simpa using hsz⟩,?_⟩
 ·exact Ne.symm (zAJ (g23 _ _ (zAB (H:=H) (a:=fo) (o:=.lst []))) hl)
 rintro m σ' Hw ⟨l,ls,fs,L,Fd,s3,s4,s5,s6,s7,rfl,gw,hl,hlf,ef,el,pF,pL,rfl,hperm,hdp0⟩;have lL:ls.length=L.length:=zAH pL;have lF:fs.length=Fd.length:=zAH pF;have hZ:=zGN L
 have hcnt:Fd.length+szP L<=60:=by
  have:=hperm.length_eq;rw[mK,zL9,zA7] at this;omega
 refine⟨_,rfl,_,.inl ⟨ls,SqL.of el,rfl⟩,?_⟩;refine ite2 (λ c=>?_) (λ c=>?_)
 ·refine⟨_,λ Ω Ω h=>h,?_⟩
  refine⟨_,rfl,.inl ⟨rfl,_,SqL.of ef⟩,_,rfl,fo,l,fs,ls,rfl,rfl,ef,el,zAm (by omega),?_⟩;have ef1:=@zAB Hw fo (.lst (fs++ls));have el1:(upd Hw fo (.lst (fs++ls))) l=some (.lst ls):=by rw[zAK hlf];exact el
  have gw1:Same H (upd Hw fo (.lst (fs++ls))):=zAQ gw hfo;have tk1:Tk Hw (upd Hw fo (.lst (fs++ls))):=Tk.lst ef;show tSeq _ _ _ _ (upd Hw fo (.lst (fs++ls)));generalize upd Hw fo _=H1 at ef1 el1 gw1 tk1 ⊢;refine⟨(by show 0<=sizeLine;decide),λ dp hdp=>?_⟩;have g4:=zAC (o:=.lst []) hdp;have hdpH:H dp=none:=gw1.free hdp;have ndf:dp≠fo:=Ne.symm (zAJ ef1 hdp);have ndl:dp≠l:=Ne.symm (zAJ el1 hdp);refine⟨_,rfl,l,rfl,⟨ls,SqL.of (g4 _ _ el1)⟩,?_⟩;refine zA8 (xs:=ls) (λ i σ' H'=>E5 λ(dps:List V) (s4 s5 s6 s7:Option V)=>A7 (σ'=[some v,some (.ref fo),some (.ref l),some (.ref dp),s4,s5,s6,s7]) (Same H H') (Tk H1 H') (H' fo=some (.lst (fs++ls))) (H' l=some (.lst ls)) (H' dp=some (.lst dps)) (Paired (PPl H') ((L.take i).flatMap kidsP) dps)) ?_ ?_ ?_ ?_
  ·exact⟨[],s4,s5,s6,s7,rfl,gw1.trans g4,g4.tk,g4 _ _ ef1,g4 _ _ el1,zAB,.nil⟩
  ·rintro i σ1 H2 _ ⟨dps,s4,s5,s6,s7,rfl,g5,k5,ef5,el5,ed5,p5⟩
   exact SqL.of el5
  ·rintro i x σ1 H2 hx ⟨dps,s4,s5,s6,s7,rfl,g5,k5,ef5,el5,ed5,p5⟩
   obtain⟨⟨pl,tq⟩,eq,rq⟩:=zAW pL hx;obtain⟨u,⟨b,c',rfl,hb,hc'⟩,ru⟩:=rq.mono (tk1.trans k5);dsimp only at hb hc' ru;refine⟨b,_,rfl,SqT.of hb,rfl,_,_,rfl,_,_,rfl,rfl,?_⟩
   have hflat:((L.take (i+1)).flatMap kidsP)=((L.take i).flatMap kidsP)++kidsP (pl,tq):=by
    rw[zAR eq,nK];simp
   have hlen:((L.take i).flatMap kidsP).length+(kidsP (pl,tq)).length<=60:=by
    have z2:=zMe ((L.take (i+1)).flatMap kidsP);have z3:=zGN (L.take (i+1));have z4:szP (L.take (i+1))<=szP L:=by unfold szP;rw[List.map_take];exact zHq _ _
    rw[hflat,mK] at z2;rw[hflat] at z3;omega
   refine⟨_,rfl,tq,u,rfl,ru,λ pp H3 us g6 ep hus=>⟨pp,rfl,⟨us,SqT.of ep⟩,?_⟩⟩;have lus:us.length=tq.parts.length:=zAH hus;refine zIV (xs:=us) (λ j σ' H'=>E3 λ(dps':List V) (s6 s7:Option V)=>A7 (σ'=[some v,some (.ref fo),some (.ref l),some (.ref dp),some (.ref c'),some u,s6,s7]) (Same H H') (Tk H3 H') (H' fo=some (.lst (fs++ls))) (H' l=some (.lst ls)) (H' dp=some (.lst dps')) (Paired (PPl H') (((L.take i).flatMap kidsP)++(kidsP (pl,tq)).take j) dps')) ?_ ?_ ?_ ?_
   ·refine⟨dps,s6,s7,rfl,g5.trans g6,.refl _,g6 _ _ ef5,g6 _ _ el5,g6 _ _ ed5,?_⟩
    rw[List.take_zero,nR];exact Paired.mapP p5 λ Ω Ω z=>z.mono g6.tk
   ·rintro j σ3 H5 _ ⟨dps5,s6,s7,rfl,g7,k7,ef7,el7,ed7,p7⟩
    exact SqT.of (k7 _ _ ep)
   ·rintro j x T σ3 H5 hx ⟨dps5,s6,s7,rfl,g7,k7,ef7,el7,ed7,p7⟩ hT
    have gT:=zAC (o:=.tup [.int j,x]) hT;obtain⟨cc,ec,rc⟩:=zAW hus hx;have kk:=zKE (pl:=pl) ec
    have ld:dps5.length<=60:=by
     rw[zAH p7,mK,mO];omega
    refine⟨T,_,rfl,SqT.of zAB,rfl,_,_,rfl,_,_,rfl,rfl,?_⟩;have ed8:=gT _ _ ed7;have hc8:(upd H5 T (.tup [.int j,x])) c'=some (.tup (pl.map V.int)):=gT.tk _ _ (k7 _ _ (g6.tk _ _ hc'));refine⟨_,rfl,.inl ⟨rfl,_,SqL.of ed8⟩,_,rfl,_,rfl,(by show 1<=sizeLine;decide),λ pj hpj=>?_⟩;have gj:=zAC (o:=.tup [.int j]) hpj
    have hpl:pl.length<=60:=by
     have h9:=hdp0 _ (lM eq);dsimp only at h9;omega
    refine⟨c',pj,_,_,rfl,rfl,gj.tk _ _ hc8,zAB,zAm (by simp;omega),λ pn H6 g9 e9=>?_⟩;refine⟨_,rfl,d2,λ pt hpt=>?_⟩;have g10:=zAC (o:=.tup [.ref pn,x]) hpt;have gB:=gT.trans (gj.trans (g9.trans g10));have ed9:=gB _ _ ed7;refine⟨dp,dps5,_,rfl,rfl,ed9,zAM (by omega),?_⟩;have tkz:Tk _ _:=Tk.lst (o:=.lst (dps5++[.ref pt])) ed9;have e9':H6 pn=some (.tup ((pl++[(j:Int)]).map V.int)):=by rw[e9,mQ];rfl
    refine⟨dps5++[.ref pt],_,_,rfl,zAQ (g7.trans gB) hdpH,k7.trans (gB.tk.trans tkz),by rw[zAK (Ne.symm ndf)];exact gB _ _ ef7,by rw[zAK (Ne.symm ndl)];exact gB _ _ el7,zAB,?_⟩;rw[zAR kk,←mY];exact zAO (Paired.mapP p7 λ Ω Ω z=>z.mono (gB.tk.trans tkz)) (.cons ⟨x,⟨pt,pn,rfl,tkz _ _ zAB,tkz _ _ (g10.tk _ _ e9')⟩,rc.mono (k7.trans (gB.tk.trans tkz))⟩ .nil)
   ·rintro σ3 H5 ⟨dps5,s6,s7,rfl,g7,k7,ef7,el7,ed7,p7⟩
    have ek:(kidsP (pl,tq)).take us.length=kidsP (pl,tq):=mV (by rw[zKD];omega);rw[ek,←hflat] at p7;exact⟨dps5,_,_,_,_,rfl,g7,k5.trans (g6.tk.trans k7),ef7,el7,ed7,p7⟩
  ·rintro σ1 H2 ⟨dps,s4,s5,s6,s7,rfl,g5,k5,ef5,el5,ed5,p5⟩
   rw[mV (by omega)] at p5
   have hpos:0<L.length:=by
    rw[←lL];cases ls with
    |nil=>simp at c
    |cons _ _=>simp
   refine⟨_,rfl,szP (L.flatMap kidsP),by omega,dp,dps,fs++ls,L.flatMap kidsP,Fd++L,some (.ref dp),s4,s5,s6,s7,rfl,g5,hdpH,ndf,ef5,ed5,zAO (Paired.mapP pF λ Ω Ω z=>z.mono (tk1.trans k5)) (Paired.mapP pL λ Ω Ω z=>z.mono (tk1.trans k5)),p5,rfl,?_,?_⟩
   ·rw[mY]
    exact((zFc L).symm.append_left Fd).trans hperm
   ·intro x hx
    obtain⟨y,hy,hx⟩:=mX.mp hx;have h9:=hdp0 y hy;unfold kidsP at hx;obtain⟨z,hz,rfl⟩:=mD.mp hx;have h8:z.1∈y.2.parts:=List.fst_mem_of_mem_zipIdx hz;have h7:=zCo h8;simp;omega
 ·have e0:ls=[]:=by
   cases ls with
   |nil=>rfl
   |cons _ _=>simp at c
  have eL:L=[]:=by
   subst e0;cases L with
   |nil=>rfl
   |cons _ _=>simp at lL
  subst eL;have hperm':Fd.Perm (psub [] t):=by simpa[allP] using hperm
  obtain⟨Z,w1,w2,w3⟩:=zGa pF;have hfst:((Z.map λ z=>(z.1.1,z.2)).map (·.1))=Fd.map (·.1):=by rw[←w1,nT,nT];rfl
  have hlz:Z.length=Fd.length:=by rw[←w1,lC]
  refine⟨_,rfl,fo,fs,Z.map λ z=>(z.1.1,z.2),rfl,ef,w2,?_,by rw[lC];omega,λ l' zs qs hl' pq hq hasc=>?_⟩
  ·rw[hfst]
   exact(hperm'.map _).nodup_iff.mpr (zCU t [])
  ·obtain⟨Z',z1,rfl⟩:=zJ9 _ hq rfl
   have gl:=zAC (o:=.lst zs) hl'
   have e1:(Z'.map (·.1)).Perm (psub [] t):=by
    refine(z1.map _).trans ?_;rw[w1];exact hperm'
   have e2:(Z'.map (·.1)).Pairwise λ a b=>lexB a.1 b.1=true:=by
    rw[List.pairwise_map] at hasc ⊢;exact hasc
   have e3:(psub [] t).Pairwise λ a b=>lexB a.1 b.1=true:=by
    have:=zBR t []
    rwa [List.pairwise_map] at this
   have e4:Z'.map (·.1)=psub [] t:=List.Perm.eq_of_pairwise (λ a b Ω Ω h1 h2=>by rw[zEg h1] at h2;cases h2) e2 e3 e1;have hj:=Paired.mapP (zGb pq λ z hz=>w3 z (z1.mem_iff.mp hz)) λ Ω Ω h=>h.mono gl.tk;rw[e4] at hj;exact q l' zs _ (gw.trans gl) zAB hj
abbrev zDw:Stmt:=top 6
theorem zHI:zAV ["value"] ["value"] (zAN zDw):=scI
abbrev zCf:Stmt:=top 9
theorem zFm:zAV ["tree", "parts"] ["tree", "parts"] (zAN zCf):=scI
abbrev zBw:Stmt:=top 13
theorem zBJ:zAV ["tree", "place", "met", "number", "inner"] ["tree", "place"] (zAN zBw):=scI
abbrev zEP:Stmt:=top 14
theorem zIm:zAV ["tree", "place"] ["tree", "place"] (zAN zEP):=scI
abbrev zFn:Stmt:=top 15
theorem zBt:zAV ["tree", "place", "part", "met", "changed", "outer", "number", "inner"] ["tree", "place", "part"] (zAN zFn):=scI
def zHs:Sp:=λ vs H Q Ω=>∃i:Int,vs=[.int i]/\Q (.bl true) H
theorem zLR (F:Fun K "is_whole" "is_whole" zDw f fd) (z_isinstance:mg "isinstance" = none) (z_int:mg "int" = none) (z_bool:mg "bool" = none):FnOk P w K mg base CX0 (k+1) f fd ["value"] zHs:=by
 refine F.ok zHI (λ vs H Q E h=>?_) (λ cdv A outer s H vs Q E hr h=>?_)
 ·obtain⟨i,rfl,_⟩:=h
  rfl
 obtain⟨i,rfl,q⟩:=h;refine⟨_,(zAG (zAX (zIA (cI z_isinstance z_int PyProof.Rows.boot_int (pv 0)) (zJn (zMI (cI z_isinstance z_bool PyProof.Rows.boot_bool (pv 0))))))),?_⟩;refine⟨_,rfl,.int i, "int", _,true,rfl,.int i,rfl,_,rfl,?_⟩;refine iteT ⟨_,rfl,.int i, "bool", _,false,rfl,.int i,rfl,_,rfl,q⟩
def zHA:Sp:=λ vs H Q Ω=>E5 λ(t:Tr) (v:V) (l:Addr) (us:List V) (ps:List Tr)=>A6 (vs=[v,.ref l]) (Rep H t v) (H l=some (.lst us)) (Paired (Rep H) ps us) (ps.length=t.parts.length) (∀v' H',Same H H'->Rep H' (t.withP ps) v'->Q v' H')
theorem zLt (t:Tr):t.head<=3:=by cases t<;>simp[Tr.head]
theorem zMt (F:Fun K "with_parts" "with_parts" zCf f fd) (z_tuple:mg "tuple" = none) (zOJ:FnB P w K mg base k "parts_begin" g gd ["tree"] zB6) :
  FnOk P w K mg base CX0 (k+1) f fd ["tree", "parts"] zHA:=by
 refine F.ok zFm (λ vs H Q E h=>?_) (λ cdv A outer s H vs Q E hr h=>?_)
 ·obtain⟨t,v,l,us,ps,rfl,_⟩:=h
  rfl
 obtain⟨t,v,l,ws,ps,rfl,hR,hl0,hp,hpl,q⟩:=h;refine⟨_,(zAG (zAX (pe_op zHN (zAo zMg (pv 0) zA4 (zAk (pe_cl zOJ hr (zAA (pv 0) zAD)))) (zBT zA9 (by rfl) z_tuple rL (zAA (pv 1) zAD))))),?_⟩;obtain⟨a,hs,us,rfl,ha,hl,hul,mk⟩:=hR.build hpl;have hn:(V.str t.sign::hs++us).length=t.head+us.length:=by rw[mK,mM];omega
 have e1:HT.sIx (V.str t.sign::hs++us).length (V.str t.sign::hs++us).length (some (zDk t))=t.head:=by
  show HT.sIx _ _ (some ((t.head:Nat):Int))=_;rw[HT.sIx_nat,hn];omega
 have e2:cutV (V.str t.sign::hs++us) none (some (zDk t))=V.str t.sign::hs:=by
  unfold cutV;rw[e1,HT.sIx_none,Nat.sub_zero,List.drop_zero,←hl];exact List.take_left' rfl
 have h3:=zLt t;have h4:=zGc t;refine⟨_,rfl,_,rfl,t,_,rfl,hR,_,rfl,a,_,rfl,ha,λ p H' g e=>?_⟩
 ·rw[e2] at e
  have hw:ws.length=ps.length:=(zAH hp);refine⟨_,rfl,l,ws,rfl,.inl ⟨SqL.of (g _ _ hl0),λ p2 hp2=>?_⟩⟩;have g2:=zAC (o:=.tup ws) hp2;refine⟨p,p2,_,_,rfl,rfl,g2 _ _ e,zAB,zAm ?_,λ p3 H3 g3 e3=>?_⟩
  ·rw[mM]
   omega
  ·have gA:=g.trans (g2.trans g3)
   exact q (.ref p3) H3 gA (mk gA.tk e3 (Paired.mapP hp λ Ω Ω r=>r.mono gA.tk))
def zHB (cN:Addr):Sp:=λ vs H Q E=>E4 λ(t:Tr) (v:V) (pl:Addr) (ns:List Int)=>A6 (vs=[v,.ref pl]) (Rep H t v) (H pl=some (.tup (ns.map V.int))) (ns.length<=900) (∀ts,chain t ns=some ts->∀l us H',Same H H'->H l=none->H' l=some (.lst us)->Paired (Rep H') ts us->Q (.ref l) H') (chain t ns=none->∀H',Same H H'->E (.ref cN) none H')
theorem zMx (F:Fun K "trees_down_to" "trees_down_to" zBw f fd) (z_len:mg "len" = none) (zOL:mg "NoPlace" = some (.ref cN)) (x_NoPlace:W.excIn K cN bmVE "ValueError.__new__" = true)
  (zOM:FnB P w K mg base k "is_whole" g1 gd1 ["value"] zHs) (zOK:FnB P w K mg base k "parts" g2 gd2 ["tree"] zB0):FnOk P w K mg base (CXF P w) (k+1) f fd ["tree", "place"] (zHB cN):=by
 refine F.okF zBJ (λ vs H Q E h=>?_) (λ cdv A outer s H vs Q E hr h=>?_)
 ·obtain⟨t,v,pl,ns,rfl,_⟩:=h
  rfl
 obtain⟨t,v,pl,ns,rfl,hR,hpl,hns,q,qe⟩:=h
 refine⟨_,(zAE (pS (i:=2) zBJ.nd (zAv (zAA (pv 0) zAD):PE _ _ _))
  (zAE (zAt zGd rfl (zDV (pv 1)) (pGn (i:=3) zBJ.nd) (zAE (pS (i:=4) zBJ.nd (pe_cl zOK hr (zAA (pe_ix (r:=rIxL K) zAg (pv 2) (pe_un zMA zAF) (λ Ω Ω=>rfl)) zAD)))
  (zAE (ps_if (pw_or (zDT (zCj (pe_cl zOM hr (zAA (pv 3) zAD)))) (zET (zDT (zLI op_le op_lt zAF (pv 3) (cL z_len (zAA (pv 4) zAD)))))).pt (zAG (zH4 (by rfl) zOL x_NoPlace (zAA zAT zAD))) zAU)
  (zAG (pAp (pv 2) (pe_ix (r:=rIxT K) zAS (pv 4) (pv 3) (λ Ω Ω=>rfl)))))))
  (zAG (zAX (pv 2))))),?_⟩
 have hnl:(ns.map V.int).length=ns.length:=lC _;refine⟨_,rfl,(by show 1<=sizeLine;decide),λ l hl=>?_⟩;have g0:=zAC (o:=.lst [v]) hl;refine⟨_,rfl,pl,rfl,⟨_,SqT.of (g0 _ _ hpl)⟩,?_⟩;refine zF4 (xs:=ns.map V.int) (λ i σ' H'=>E4 λ(us:List V) (ts:List Tr) (s3 s4:Option V)=>A5 (σ'=[some v,some (.ref pl),some (.ref l),s3,s4]) (Same H H') (H' l=some (.lst us)) (Paired (Rep H') ts us) (chain t (ns.take i)=some ts)) ?_ ?_ ?_ ?_
 ·exact⟨[v],[t],none,none,rfl,g0,zAB,.cons (hR.mono g0.tk) .nil,rfl⟩
 ·rintro i σ1 H1 _ ⟨us,ts,s3,s4,rfl,g,el,hp,hc⟩
  exact SqT.of (g _ _ hpl)
 ·rintro i x σ1 H1 hx ⟨us,ts,s3,s4,rfl,g,el,hp,hc⟩
  obtain⟨n,en,rfl⟩:∃n,ns[i]?=some n/\V.int n=x:=by
   rw[mI] at hx;exact lV.mp hx
  obtain⟨ts',u,rfl,hu⟩:=zD6 hc;obtain⟨us',w',rfl,hp',ru⟩:∃us' w',us=us'++[w']/\Paired (Rep H1) ts' us'/\Rep H1 u w':=zCV hp;refine⟨_,rfl,_,rfl,l,_,_,_,rfl,rfl,SqL.of el,zIe us' w',u,_,rfl,ru,λ pp H2 vs2 g2 ep hvs=>?_⟩;have hvl:=zAH hvs;refine⟨_,rfl,n,rfl,_,rfl,iteF ?_⟩;refine⟨_,rfl,_,_,rfl,rfl,_,rfl,?_⟩;have htk:ns.take (i+1)=ns.take i++[n]:=zAR en
  have bad:u.kid n=none->chain t ns=none:=λ z=>by
   have hsp:ns.take i++n::ns.drop (i+1)=ns:=by
    have:=List.take_append_drop (i+1) ns;rw[htk,mY] at this;exact this
   rw[zC7,←hsp,zMZ,hu];show (u.kid n).bind _=none;rw[z];rfl
  have hraise:u.kid n=none->(1:Nat)<=sizeLine/\E (.ref cN) none H2:=λ z=>⟨by decide,qe (bad z) H2 (g.trans g2)⟩;refine ite2 (λ c1=>?_) (λ c1=>?_)
  ·refine⟨_,rfl,pp,_,rfl,.inr (SqT.of ep),_,_,rfl,rfl,_,rfl,?_⟩
   refine ite2 (λ c2=>hraise (zMO λ z=>?_)) (λ c2=>?_)
   ·rw[←hvl] at z
    have:=lU (p:=n<(vs2.length:Int)) z.2;rw[this] at c2;cases c2
   ·have h0:0<=n:=lS c1
    have h1:n<(vs2.length:Int):=by
     by_cases z:n<(vs2.length:Int)
     ·exact z
     ·exact absurd (by rw[decide_eq_false z];rfl) c2
    obtain⟨kd,hkd,ekd⟩:=zNB (t:=u) h0 (by rw[←hvl];exact h1);obtain⟨y,ey⟩:∃y,vs2[n.toNat]?=some y:=⟨vs2[n.toNat]'(by omega),lX _⟩;obtain⟨kd',ekd',rk⟩:=zAW hvs ey;rw[ekd] at ekd';cases ekd';have en':((n.toNat:Nat):Int)=n:=by omega
    have el2:=g2 _ _ el;have hln:=zDi hc;have hpl2:=zAH hp;refine⟨_,rfl,.inl ⟨rfl,_,SqL.of el2⟩,_,rfl,_,rfl,pp,_,n,_,rfl,rfl,SqT.of ep,(by have:=zAY ey;rwa [en'] at this),l,_,_,rfl,rfl,el2,zAM ?_,?_⟩
    ·have:(ns.take i).length<=ns.length:=by rw[mO];omega
     omega
    ·have tk:=Tk.lst (o:=.lst (us'++[w']++[y])) el2
     have tk2:=g2.tk.trans tk;refine⟨_,ts'++[u]++[kd],_,_,rfl,zAQ (g.trans g2) hl,zAB,zAO (Paired.mapP hp λ Ω Ω z=>z.mono tk2) (.cons (rk.mono tk) .nil),?_⟩;rw[htk];exact zFX hc hu hkd
  ·refine⟨_,rfl,?_⟩
   refine iteT (hraise (zMO λ z=>c1 (lU z.1)))
 ·rintro σ1 H1 ⟨us,ts,s3,s4,rfl,g,el,hp,hc⟩
  rw[hnl,mP] at hc;exact⟨_,rfl,q ts hc l us H1 g hl el hp⟩
def zFC (cN:Addr):Sp:=λ vs H Q E=>E4 λ(t:Tr) (v:V) (pl:Addr) (ns:List Int)=>A6 (vs=[v,.ref pl]) (Rep H t v) (H pl=some (.tup (ns.map V.int))) (ns.length<=900) (∀u,t.at_ ns=some u->∀v' H',Same H H'->Rep H' u v'->Q v' H') (t.at_ ns=none->∀H',Same H H'->E (.ref cN) none H')
theorem zIv (F:Fun K "part_at" "part_at" zEP f fd) (zON:FnF P w K mg base k "trees_down_to" g1 gd1 ["tree", "place"] (zHB cN)):FnOk P w K mg base (CXF P w) (k+1) f fd ["tree", "place"] (zFC cN):=by
 refine F.okF zIm (λ vs H Q E h=>?_) (λ cdv A outer s H vs Q E hr h=>?_)
 ·obtain⟨t,v,pl,ns,rfl,_⟩:=h
  rfl
 obtain⟨t,v,pl,ns,rfl,hR,hpl,hns,q,qe⟩:=h;refine⟨_,(zAG (zAX (pe_ix (r:=rIxL K) zAg (zCn zON.ok hr (by rfl) zON.gl zON.kp zON.bd .nil zC6 (zAA (pv 0) (zAA (pv 1) zAD))) (pe_un zMA zAF) (λ Ω Ω=>rfl)))),?_⟩;refine⟨_,rfl,_,rfl,t,v,pl,ns,rfl,hR,hpl,hns,λ ts hc l us H' g hl el hp=>?_,λ z H' g=>qe (zC7.mp z) H' g⟩;obtain⟨ts',u,rfl,hu⟩:=zD6 hc;obtain⟨us',w',rfl,hp',ru⟩:=zCV hp;exact⟨_,rfl,l,_,_,_,rfl,rfl,SqL.of el,zIe us' w',q u hu w' H' g ru⟩
def zEI (cN:Addr):Sp:=λ vs H Q E=>E6 λ(t u:Tr) (v vu:V) (pl:Addr) (ns:List Int)=>A7 (vs=[v,.ref pl,vu]) (Rep H t v) (Rep H u vu) (H pl=some (.tup (ns.map V.int))) (ns.length<=900) (t.at_ ns≠none->∀v' H',Same H H'->Rep H' (putT t ns u) v'->Q v' H') (t.at_ ns=none->∀H',Same H H'->E (.ref cN) none H')
theorem zCz {t k u:Tr}{i:Int}{is:List Int}(h:t.kid i=some k):putT t (i::is) u=t.withP (t.parts.set i.toNat (putT k is u)):=by
 show (match t.kid i with|some k=>t.withP (t.parts.set i.toNat (putT k is u))|none=>t)=_;rw[h]
theorem zJv (F:Fun K "put_at" "put_at" zFn f fd) (z_list:mg "list" = none) (z_zip:mg "zip" = none) (z_reversed:mg "reversed" = none)
  (zON:FnF P w K mg base k "trees_down_to" g1 gd1 ["tree", "place"] (zHB cN)) (zOK:FnB P w K mg base k "parts" g2 gd2 ["tree"] zB0) (zOO:FnB P w K mg base k "with_parts" g3 gd3 ["tree", "parts"] zHA) :
  FnOk P w K mg base (CXF P w) (k+1) f fd ["tree", "place", "part"] (zEI cN):=by
 refine F.okF zBt (λ vs H Q E h=>?_) (λ cdv A outer s H vs Q E hr h=>?_)
 ·obtain⟨t,u,v,vu,pl,ns,rfl,_⟩:=h
  rfl
 obtain⟨t,u,v,vu,pl,ns,rfl,hR,hU,hpl,hns,q,qe⟩:=h
 refine⟨_,(zAE (pS (i:=3) zBt.nd (zCn zON.ok hr (by rfl) zON.gl zON.kp zON.bd .nil zC6 (zAA (pv 0) (zAA (pv 1) zAD))))
  (zAE (pS (i:=4) zBt.nd (pv 2))
  (zAE (zAt zGd rfl (zJj (by rfl) z_reversed (zAA (zIq rfl (by rfl) z_list (by rfl) z_zip (zAA (pv 3) (zAA (pv 1) zAD))) zAD)) (zCl rfl (zAc (pGn (i:=5) zBt.nd) (zAc (pGn (i:=6) zBt.nd) zBe))) (zAE (pS (i:=7) zBt.nd (zBT zGs (by rfl) z_list PyProof.Rows.boot_list (zAA (pe_cl zOK hr (zAA (pv 5) zAD)) zAD)))
  (zAE (zJe (pv 4) (zMH (pv 7) (pv 6) zH2))
  (zAG (pS (i:=4) zBt.nd (pe_cl zOO hr (zAA (pv 5) (zAA (pv 7) zAD))))))))
  (zAG (zAX (pv 4)))))),?_⟩
 refine⟨_,rfl,_,rfl,t,v,pl,ns,rfl,hR,hpl,hns,λ ts hc l us H1 g1 hl el hp=>?_,λ z H' g=>qe (zC7.mp z) H' g⟩;have hcl:=zDi hc;have hul:=zAH hp;have hnl:(ns.map V.int).length=ns.length:=lC _;refine⟨_,rfl,?_⟩;refine⟨_,rfl,_,rfl,l,pl,us,_,rfl,el,g1 _ _ hpl,by omega,λ lz ps H2 g2 hlz hps elz hpr=>?_⟩;have hpsl:(ps.map V.ref).length=ns.length:=by rw[lC,hps,hnl];omega
 refine⟨lz,rfl,_,SqL.of elz,?_⟩;refine zIU (xs:=ps.map V.ref) (λ i σ' H'=>E5 λ(ch:V) (s5 s6 s7:Option V) (c:Tr)=>A5 (σ'=[some v,some (.ref pl),some vu,some (.ref l),some ch,s5,s6,s7]) (Same H2 H') (i<=ns.length) (ts[ns.length - i]?=some c) (Rep H' (putT c (ns.drop (ns.length - i)) u) ch)) ?_ ?_ ?_ ?_
 ·obtain⟨ts',c,rfl,hcat⟩:=zD6 hc
  refine⟨vu,none,none,none,c,rfl,Same.refl _,lZ _,?_,?_⟩
  ·have:ts'.length=ns.length:=by simpa using hcl
   rw[Nat.sub_zero,←this];simp
  ·rw[Nat.sub_zero,List.drop_length]
   exact hU.mono (g1.trans g2).tk
 ·rintro i σ1 H3 _ ⟨ch,s5,s6,s7,c,rfl,g3,hi,ec,rc⟩
  exact SqL.of (g3 _ _ elz)
 ·rintro i x σ1 H3 hi hx ⟨ch,s5,s6,s7,c,rfl,g3,_,ec,rc⟩
  rw[hpsl] at hi hx;obtain⟨j,hj⟩:∃j,ns.length - 1 - i=j:=⟨_,rfl⟩;have hj1:ns.length - i=j+1:=by omega
  have hj2:ns.length - (i+1)=j:=by omega
  rw[hj] at hx;rw[hj1] at ec rc
  obtain⟨p,ep,rfl⟩:∃p,ps[j]?=some p/\V.ref p=x:=by
   rw[mI] at hx;exact lV.mp hx
  obtain⟨npl,hpn,x0,y0,ex,ey,etp⟩:=hpr j p ep
  obtain⟨n,en,rfl⟩:∃n,ns[j]?=some n/\V.int n=y0:=by
   rw[mI] at ey;exact lV.mp ey
  obtain⟨o,kk,eo,ek,hk⟩:=zGp hc j n en;rw[ec] at ek;cases ek;obtain⟨o',eo',ro⟩:=zAW hp ex;rw[eo] at eo';cases eo';have ro3:=ro.mono (g2.trans g3).tk;have etp3:=g3 _ _ etp;refine⟨p,[x0,.int n],rfl,SqT.of etp3,rfl,_,_,rfl,_,_,rfl,rfl,?_⟩;obtain⟨k0,k1,k2⟩:=zGh hk;refine⟨_,rfl,o,x0,rfl,ro3,λ pp H4 vs4 g4 e4 hvs=>⟨pp,vs4,rfl,.inr (SqT.of e4),λ li hli=>?_⟩⟩;have g5:=zAC (o:=.lst vs4) hli;have hv4:=zAH hvs;refine⟨_,rfl,_,rfl,_,rfl,li,vs4,n,n.toNat,rfl,rfl,zAB,?_,?_⟩
  ·unfold ixN
   rw[if_pos k0,if_pos (by omega)]
  have tk5:Tk (upd H4 li (.lst vs4)) (upd (upd H4 li (.lst vs4)) li (.lst (vs4.set n.toNat ch))):=Tk.lst zAB;have s5':Same H4 (upd (upd H4 li (.lst vs4)) li (.lst (vs4.set n.toNat ch))):=zAQ g5 hli;have tkA:=g4.tk.trans s5'.tk;refine⟨_,rfl,_,rfl,o,x0,li,vs4.set n.toNat ch,o.parts.set n.toNat (putT c (ns.drop (j+1)) u),rfl,ro3.mono tkA,zAB,zFN (rc.mono tkA) _ (Paired.mapP hvs λ Ω Ω z=>z.mono s5'.tk),by rw[List.length_set],λ v' H6 g6 r6=>?_⟩;refine⟨v',_,_,_,o,rfl,g3.trans (g4.trans (s5'.trans g6)),by omega,by rw[hj2];exact eo,?_⟩;rw[hj2]
  have hd:ns.drop j=n::ns.drop (j+1):=by
   obtain⟨hlt,e⟩:=lJ.mp en;rw[←e];exact List.drop_eq_getElem_cons hlt
  rw[hd,zCz hk];exact r6
 ·rintro σ1 H3 ⟨ch,s5,s6,s7,c,rfl,g3,_,ec,rc⟩
  rw[hpsl,Nat.sub_self] at ec rc
  have:c=t:=by
   have:=zGB hc 0 c ec;simpa[Tr.at_] using this.symm
  subst this;refine⟨_,rfl,q (λ z=>?_) ch H3 (g1.trans (g2.trans g3)) rc⟩;rw[←zC7,hc] at z;cases z
abbrev zDt:Stmt:=top 19
theorem zHG:zAV ["part"] ["part"] (zAN zDt):=scI
abbrev zFo:Stmt:=top 12
theorem zJZ:zAV ["tree"] ["tree"] (zAN zFo):=scI
abbrev zDF:Stmt:=top 34
theorem zGX:zAV ["shape"] ["shape"] (zAN zDF):=scI
abbrev zCA:Stmt:=top 35
theorem zBv:zAV ["shape", "counted", "part"] ["shape"] (zAN zCA):=scI
abbrev zER:Stmt:=top 36
theorem zCw:zAV ["shape", "first", "gap", "many"] ["shape"] (zAN zER):=scI
theorem zGW:∀t:Tr,t.subs.length=t.size:=by
 intro t
 induction t<;>simp_all [Tr.subs,Tr.size]<;>omega
theorem zGZ {H:Hp}:∀{L:List PlT}{us:List V},Paired (PPl H) L us->Paired (λ x v=>∃pl,PPl H (pl,x) v) (L.map (·.2)) us
 |_,_,.nil=>.nil
 |_,_,.cons h t=>.cons ⟨_,h⟩ (zGZ t)
theorem zLK {H:Hp}{t:Tr}{us:List V}(h:Paired (PPl H) (psub [] t) us):Paired (λ x v=>∃pl,PPl H (pl,x) v) t.subs us:=by
 have:=zGZ h
 rwa [zBa] at this
def zDC:Sp:=λ vs H Q Ω=>E2 λ t v=>A3 (vs=[v]) (Rep H t v) (∀l H',Same H H'->H l=none->H' l=some (.lst (t.names.map V.str))->Q (.ref l) H')
theorem zHQ (F:Fun K "names_at" "names_at" zDt f fd):FnOk P w K mg base CX0 (k+1) f fd ["part"] zDC:=by
 refine F.ok zHG (λ vs H Q E h=>?_) (λ cdv A outer s H vs Q E hr h=>?_)
 ·obtain⟨t,v,rfl,_⟩:=h
  rfl
 obtain⟨t,v,rfl,hR,q⟩:=h
 refine⟨_,(zAE (ps_if (zAP op_eq (iC (r:=rIxT K) zAS (pv 0)) zAT (zAZ _)) (zAG (zAX (zAv (zAA (iC (r:=rIxT K) zAS (pv 0)) zAD):PE _ _ _))) zAU)
  (zAE (ps_if (zAP op_eq (iC (r:=rIxT K) zAS (pv 0)) zAT (zAZ _)) (zAG (zAX (zBS ["atom"] [none] rfl (zDV (iC (r:=rIxT K) zAS (pv 0))) (λ Ω Ω Ω Ω Ω=>(zA5 (i:=0) (show List.Nodup (["atom"]:List Str) by left) rfl (Or.inl rfl))) (λ Ω Ω Ω Ω Ω=>(zEV (zAP op_eq (iC (r:=rIxT K) zAS (pv 0)) zAT (zAZ _)))) (λ Ω Ω Ω Ω Ω=>(iC (r:=rIxT K) zAS (pv 0))) rfl))) zAU)
  (zAG (zAX (zAv zAD:PE _ _ _))))),?_⟩
 obtain⟨a,hs,us,rfl,ha,hl,hp⟩:=hR.all;have h0:atI (V.str t.kd.s::hs++us) 0=some (.str t.kd.s):=zAY (j:=0) rfl;refine⟨_,rfl,a,_,0,_,rfl,rfl,SqT.of ha,h0,rfl,_,rfl,?_⟩;refine ite2 (λ c=>?_) (λ c=>?_)
 ·have z:t.kd = .name:=Kd.eq_iff.mp (lS c)
  cases t with
  |name x =>
   obtain⟨a,e,ha⟩:=hR;cases e;refine⟨_,rfl,a,_,1,_,rfl,rfl,SqT.of ha,rfl,(by show 1<=sizeLine;decide),λ l hn=>?_⟩;exact q l _ (zAC hn) hn zAB
  |bin o a b=>cases o<;>cases z
  |_=>cases z
 ·refine⟨_,rfl,a,_,0,_,rfl,rfl,SqT.of ha,h0,rfl,_,rfl,?_⟩
  refine ite2 (λ d=>?_) (λ d=>?_)
  ·have z:t.kd = .gap:=Kd.eq_iff.mp (lS d)
   cases t with
   |gap g as =>
    obtain⟨a,b,vs,e,ha,hb,hz,hp⟩:=hR;cases e;refine⟨_,rfl,a,_,2,_,rfl,rfl,SqT.of ha,rfl,b,rfl,⟨_,SqT.of hb⟩,λ acc hacc=>?_⟩;refine zL5 (xs:=vs) (λ i H'=>Same H H'/\H' acc=some (.lst (((as.take i).flatMap Atom.names).map V.str))) ?_ ?_ ?_ ?_
    ·exact⟨zAC hacc,zAB⟩
    ·exact λ i H' Ω p=>SqT.of (p.1 _ _ hb)
    ·intro i x H1 hx ⟨g1,e1⟩
     obtain⟨at_,ea,ra⟩:=zAW hp hx;have ra:=ra.mono g1.tk;have en:=zAR ea
     have small:((as.take i).flatMap Atom.names).length<=i:=by
      have:∀l:List Atom,(l.flatMap Atom.names).length<=l.length:=by
       intro l
       induction l with
       |nil=>simp
       |cons a r ih =>
        rw[rG,mK,mM];have:a.names.length<=1:=by cases a<;>simp[Atom.names]
        omega
      exact mH (this _) (by rw[mO];omega)
     have hi:i<vs.length:=(lJ.mp hx).1;refine⟨.skip .nil,?_⟩;cases at_ with
     |name y =>
      obtain⟨c,rfl,hc⟩:=ra;refine⟨_,rfl,c,_,0,_,rfl,rfl,SqT.of hc,rfl,rfl,_,rfl,?_⟩;refine iteY rfl ?_;refine⟨_,rfl,c,_,1,_,rfl,rfl,SqT.of hc,rfl,_,e1,?_,zAQ g1 hacc,?_⟩
      ·rw[lC];exact zAM (by omega)
      ·rw[zAB,en,nK,mQ];rfl
     |num n =>
      obtain⟨c,rfl,hc⟩:=ra;refine⟨_,rfl,c,_,0,_,rfl,rfl,SqT.of hc,rfl,rfl,_,rfl,?_⟩;refine iteN (by left) ?_;exact⟨g1,by rw[e1,en,nK];simp[Atom.names]⟩
     |gap n =>
      obtain⟨c,d,rfl,hc,_⟩:=ra;refine⟨_,rfl,c,_,0,_,rfl,rfl,SqT.of hc,rfl,rfl,_,rfl,?_⟩;refine iteN (by left) ?_;exact⟨g1,by rw[e1,en,nK];simp[Atom.names]⟩
    ·intro H1 ⟨g1,e1⟩
     refine q acc H1 g1 hacc ?_;rw[e1,←hp.length,mP];rfl
   |bin o a b=>cases o<;>cases z
   |_=>cases z
  ·refine⟨(by show 0<=sizeLine;decide),λ l hn=>?_⟩
   have e:t.names=[]:=by
    cases t with
    |name x=>exact absurd rfl c
    |gap g as=>exact absurd rfl d
    |_=>rfl
   refine q l _ (zAC hn) hn ?_;rw[e];exact zAB
def zGS:Sp:=λ vs H Q Ω=>E2 λ(t:Tr) (v:V)=>A4 (vs=[v]) (Rep H t v) (t.size<=60) (∀(l:Addr) (us:List V) (H':Hp),Same H H'->H' l=some (.lst us)->Paired (λ(x:PlT) v=>∃a,v = .ref a/\H' a=some (.tup (x.1.map V.int))) (psub [] t) us->Q (.ref l) H')
theorem zJw (F:Fun K "places" "places" zFo f fd) (zOP:FnB P w K mg base k "placed_parts" g1 gd1 ["tree"] zDQ):FnOk P w K mg base CX0 (k+1) f fd ["tree"] zGS:=by
 refine F.ok zJZ (λ vs H Q E h=>?_) (λ cdv A outer s H vs Q E hr h=>?_)
 ·obtain⟨t,v,rfl,_⟩:=h
  rfl
 obtain⟨t,v,rfl,hR,hsz,q⟩:=h;refine⟨_,(zAG (zAX (zBS ["place", "part"] [none,none] rfl (zAz (pe_cl zOP hr (zAA (pv 0) zAD))) (λ Ω Ω Ω Ω Ω=>(zJl (K:=K) (n:=2) rfl rfl (zAc (zA5 (i:=0) (show List.Nodup (["place", "part"]:List Str) by left) rfl (Or.inl rfl)) (zAc (zA5 (i:=1) (show List.Nodup (["place", "part"]:List Str) by left) rfl (Or.inl rfl)) zBe)))) (λ Ω Ω Ω Ω Ω=>zCi) (λ Ω Ω Ω Ω Ω=>(pv 0)) rfl))),?_⟩;refine⟨_,rfl,t,v,rfl,hR,hsz,λ l us H1 g1 el pF=>⟨l,rfl,⟨us,SqL.of el⟩,λ acc hacc=>?_⟩⟩;have lu:us.length=(psub [] t).length:=zAH pF;have ls:=zA7 t [];refine zBp (xs:=us) (λ i H'=>Same H1 H'/\∃(zs:List V),H' acc=some (.lst zs)/\Paired (λ(x:PlT) v=>∃a,v = .ref a/\H' a=some (.tup (x.1.map V.int))) ((psub [] t).take i) zs) ⟨zAC hacc,[],zAB,.nil⟩ (λ i H' Ω h=>SqL.of (h.1 _ _ el)) ?_ ?_
 ·rintro i x Hx hx ⟨gx,zs,ez,pG⟩
  obtain⟨⟨pl,tq⟩,eq,u,⟨b,c,rfl,hb,hc⟩,ru⟩:=zAW pF hx;have hi:i<us.length:=(lJ.mp hx).1;have lz:=zAH pG;rw[mO] at lz;have tkz:Tk Hx (upd Hx acc (.lst (zs++[.ref c]))):=Tk.lst ez;refine⟨b,_,rfl,SqT.of (gx _ _ hb),rfl,_,_,rfl,_,_,rfl,rfl,.skip (.skip .nil),?_⟩;refine⟨_,rfl,zs,ez,zAM (by omega),zAQ gx hacc,zs++[.ref c],zAB,?_⟩;rw[zAR eq];exact zAO (Paired.mapP pG λ _ _ ⟨a,e,h⟩=>⟨a,e,tkz _ _ h⟩) (.cons ⟨c,rfl,tkz _ _ (gx _ _ hc)⟩ .nil)
 rintro H2 ⟨g2,zs,ez,pG⟩;rw[mV (by omega)] at pG;exact q acc zs H2 (g1.trans g2) ez pG
def zJT:Sp:=λ vs H Q Ω=>E2 λ(t:Tr) (v:V)=>A4 (vs=[v]) (Rep H t v) (t.size<=60) (∀(l:Addr) (us:List V) (H':Hp),Same H H'->H l=none->H' l=some (.lst us)->Paired (Rep H') (t.subs.filter isGap) us->Q (.ref l) H')
theorem zMw (F:Fun K "gap_parts" "gap_parts" zDF f fd) (zOP:FnB P w K mg base k "placed_parts" g1 gd1 ["tree"] zDQ):FnOk P w K mg base CX0 (k+1) f fd ["shape"] zJT:=by
 refine F.ok zGX (λ vs H Q E h=>?_) (λ cdv A outer s H vs Q E hr h=>?_)
 ·obtain⟨t,v,rfl,_⟩:=h
  rfl
 obtain⟨t,v,rfl,hR,hsz,q⟩:=h;refine⟨_,(zAG (zAX (zBS ["place", "part"] [none,none] rfl (zAz (pe_cl zOP hr (zAA (pv 0) zAD))) (λ Ω Ω Ω Ω Ω=>(zJl (K:=K) (n:=2) rfl rfl (zAc (zA5 (i:=0) (show List.Nodup (["place", "part"]:List Str) by left) rfl (Or.inl rfl)) (zAc (zA5 (i:=1) (show List.Nodup (["place", "part"]:List Str) by left) rfl (Or.inl rfl)) zBe)))) (λ Ω Ω Ω Ω Ω=>(zEV (zAP op_eq (iC (r:=rIxT K) zAS (pv 1)) zAT (zAZ _)))) (λ Ω Ω Ω Ω Ω=>(pv 1)) rfl))),?_⟩;refine⟨_,rfl,t,v,rfl,hR,hsz,λ l us H1 g1 el pF0=>⟨l,rfl,⟨us,SqL.of el⟩,λ acc hacc=>?_⟩⟩;have pF:=zLK pF0;have lu:us.length=t.subs.length:=zAH pF;have ls:=zGW t;refine zBp (xs:=us) (λ i H'=>Same H1 H'/\∃(zs:List V),H' acc=some (.lst zs)/\Paired (Rep H') ((t.subs.take i).filter isGap) zs) ⟨zAC hacc,[],zAB,.nil⟩ (λ i H' Ω h=>SqL.of (h.1 _ _ el)) ?_ ?_
 ·rintro i x Hx hx ⟨gx,zs,ez,pG⟩
  obtain⟨tq,eq,pl,u,⟨b,c,rfl,hb,_⟩,ru⟩:=zAW pF hx;have hi:i<us.length:=(lJ.mp hx).1;have lz:=zAH pG;have lz2:=List.length_filter_le isGap (t.subs.take i);rw[mO] at lz2;have ru':=ru.mono gx.tk;dsimp only at hb ru';obtain⟨pa,hs,us',rfl,hpa,hhl,hparts⟩:=ru'.all;have at0:atI (V.str tq.kd.s::hs++us') 0=some (.str tq.kd.s):=zAY (j:=0) rfl;have htk:=zAR eq;refine⟨b,_,rfl,SqT.of (gx _ _ hb),rfl,_,_,rfl,_,_,rfl,rfl,.skip (.skip .nil),?_⟩;refine⟨_,rfl,pa,_,0,_,rfl,rfl,SqT.of hpa,at0,rfl,_,rfl,ite2 (λ c=>?_) (λ c=>?_)⟩
  ·have z:tq.kd = .gap:=Kd.eq_iff.mp (lS c)
   have tkz:Tk Hx (upd Hx acc (.lst (zs++[.ref pa]))):=Tk.lst ez;refine⟨_,rfl,zs,ez,zAM (by omega),zAQ gx hacc,zs++[.ref pa],zAB,?_⟩;rw[htk,List.filter_append,show [tq].filter isGap=[tq] by rw[List.filter_cons_of_pos (by exact decide_eq_true z)];rfl];exact zAO (Paired.mapP pG λ Ω Ω z=>z.mono tkz) (.cons (ru'.mono tkz) .nil)
  ·have z:¬tq.kd = .gap:=λ z=>c (lU (by rw[z];rfl))
   refine⟨gx,zs,ez,?_⟩;rw[htk,List.filter_append,show [tq].filter isGap=[] by rw[List.filter_cons_of_neg (by exact λ w=>z (of_decide_eq_true w))];rfl,nR];exact pG
 rintro H2 ⟨g2,zs,ez,pG⟩;rw[mV (by omega)] at pG;exact q acc zs H2 (g1.trans g2) (g1.free hacc) ez pG
def zFE:Sp:=λ vs H Q Ω=>E2 λ(t:Tr) (v:V)=>A5 (vs=[v]) (Rep H t v) (t.size<=60) (∀p∈t.subs,(cnt1 p).length<=10) (∀(l:Addr) (us:List V) (H':Hp),Same H H'->H' l=some (.lst us)->Paired (WN H') (gcnt t) us->us.length<=600->Q (.ref l) H')
theorem zIw (F:Fun K "counted_gaps" "counted_gaps" zCA f fd) (z_len:mg "len" = none) (zOQ:FnB P w K mg base k "gap_parts" g1 gd1 ["shape"] zJT):FnOk P w K mg base CX0 (k+1) f fd ["shape"] zFE:=by
 refine F.ok zBv (λ vs H Q E h=>?_) (λ cdv A outer s H vs Q E hr h=>?_)
 ·obtain⟨t,v,rfl,_⟩:=h
  rfl
 obtain⟨t,v,rfl,hR,hsz,h10,q⟩:=h
 refine⟨_,(Sd.un (zAI (pSS (i:=1) zBv.nd (zDI ⟨zAD⟩))
  (zAI ⟨zAt PassesOwn.never rfl (zAz (pe_cl zOQ hr (zAA (pv 0) zAD))) (pGn (i:=2) zBv.nd) (zAE (pAp (pv 1) (zAh (zAA (iC (r:=rIxT K) zAS (pv 2)) (zAA (cL z_len (zAA (iC (r:=rIxT K) zAS (pv 2)) zAD)) zAD)):PE _ _ _))
  (zAG (zCk (pe_bm rR rW rX zDa (pv 1) (zAA (zBS ["atom"] [none] rfl (zDV (iC (r:=rIxT K) zAS (pv 2))) (λ Ω Ω Ω Ω Ω=>(zA5 (i:=0) (show List.Nodup (["atom"]:List Str) by left) rfl (Or.inl rfl))) (λ Ω Ω Ω Ω Ω=>(zEV (zAP op_eq (iC (r:=rIxT K) zAS (pv 0)) zAT (zAZ _)))) (λ Ω Ω Ω Ω Ω=>(zAh (zAA (iC (r:=rIxT K) zAS (pv 0)) (zAA zAF zAD)):PE _ _ _)) rfl) zAD)))))⟩
  (zAa (zAq ⟨pv 1⟩))))),?_⟩
 have d2:2<=sizeLine:=by decide
 refine⟨(by show 0<=sizeLine;decide),λ co hco=>?_⟩;have g0:=zAC (o:=.lst []) hco;have eco:=@zAB H co (.lst []);have hR0:=hR.mono g0.tk;show tSeq _ _ _ _ (upd H co (.lst []));generalize upd H co _=H0 at g0 eco hR0 ⊢;refine⟨_,rfl,t,v,rfl,hR0,hsz,λ l us H1 g1 hln el pF=>⟨l,rfl,⟨us,SqL.of el⟩,?_⟩⟩;have hF:∀p,p∈t.subs.filter isGap↔p∈t.subs/\p.kd = .gap:=λ p=>by rw[List.mem_filter];exact⟨λ h=>⟨h.1,lS h.2⟩,λ h=>⟨h.1,lU h.2⟩⟩
 have hl:(t.subs.filter isGap).length<=60:=by have:=List.length_filter_le isGap t.subs;have:=zGW t;omega
 have eF:=zKS t;generalize t.subs.filter isGap=F at pF hF hl eF;have lu:us.length=F.length:=zAH pF;have nlc:l≠co:=λ z=>by rw[z,eco] at hln;cases hln
 have bound:∀i,((F.take i).flatMap cnt1).length<=10 * i:=λ i=>by
  have key:∀L:List Tr,(∀p∈L,(cnt1 p).length<=10)->(L.flatMap cnt1).length<=10 * L.length:=by
   intro L
   induction L with
   |nil=>simp
   |cons a L ih =>
    intro h;have h1:=h a lO;have h2:=ih λ p hp=>h p (lP _ hp);rw[rG,mK,mM];omega
  have:=key (F.take i) λ p hp=>h10 p ((hF p).mp (nF hp)).1;rw[mO] at this;omega
 refine zA8 (xs:=us) (λ i σ' H'=>E2 λ(cs:List V) (s2:Option V)=>A6 (σ'=[some v,some (.ref co),s2]) (Same H H') (Tk H1 H') (H' l=some (.lst us)) (H' co=some (.lst cs)) (Paired (WN H') ((F.take i).flatMap cnt1) cs)) ?_ ?_ ?_ ?_
 ·exact⟨[],none,rfl,g0.trans g1,.refl _,el,g1 _ _ eco,.nil⟩
 ·rintro i σ' H' _ ⟨cs,s2,rfl,g,tk,el',ec,pc⟩
  exact SqL.of el'
 ·rintro i x σ' H' hx ⟨cs,s2,rfl,g,tk,el',ec,pc⟩
  obtain⟨tq,eq,rq⟩:=zAW pF hx;have hi:i<us.length:=(lJ.mp hx).1;have lc:cs.length=((F.take i).flatMap cnt1).length:=zAH pc;have bi:=bound i;have bi1:=bound (i+1);have htk:(F.take (i+1)).flatMap cnt1=(F.take i).flatMap cnt1++cnt1 tq:=by rw[zAR eq,nK];simp
  rw[htk,mK] at bi1;have z:=((hF tq).mp (lM eq)).2;cases tq with
  |gap gx as =>
   obtain⟨pa,b',us2,rfl,ha',hb',hl2,pas⟩:=rq.mono tk;have las:us2.length=as.length:=zAH pas;have at1:atI [V.str "gap", .str gx,.ref b'] 1=some (.str gx):=zAY (j:=1) rfl;have at2:atI [V.str "gap", .str gx,.ref b'] 2=some (.ref b'):=zAY (j:=2) rfl;refine⟨_,rfl,.inl ⟨rfl,_,SqL.of ec⟩,_,rfl,pa,_,1,_,rfl,rfl,SqT.of ha',at1,_,rfl,pa,_,2,_,rfl,rfl,SqT.of ha',at2,b',us2,rfl,.inr (SqT.of hb'),d2,λ pt hpt=>?_⟩;have k1:=zAC (o:=.tup [.str gx,.int ((us2.length:Nat):Int)]) hpt;have ec1:=k1 _ _ ec;refine⟨co,cs,_,rfl,rfl,ec1,zAM (by omega),?_⟩;have k2:Tk (upd H' pt (.tup [.str gx,.int ((us2.length:Nat):Int)])) (upd (upd H' pt (.tup [.str gx,.int ((us2.length:Nat):Int)])) co (.lst (cs++[.ref pt]))):=Tk.lst ec1;have g2:Same H (upd (upd H' pt (.tup [.str gx,.int ((us2.length:Nat):Int)])) co (.lst (cs++[.ref pt]))):=zAQ (g.trans k1) hco;have el2:(upd (upd H' pt (.tup [.str gx,.int ((us2.length:Nat):Int)])) co (.lst (cs++[.ref pt]))) l=some (.lst us):=by rw[zAK nlc];exact k1 _ _ el'
   have ec2:=@zAB (upd H' pt (.tup [.str gx,.int ((us2.length:Nat):Int)])) co (.lst (cs++[.ref pt]));have tk2:=tk.trans (k1.tk.trans k2);have ha2:=(k1.tk.trans k2) _ _ ha';have hb2:=(k1.tk.trans k2) _ _ hb';have pas2:Paired (AtRep (upd (upd H' pt (.tup [.str gx,.int ((us2.length:Nat):Int)])) co (.lst (cs++[.ref pt])))) as us2:=Paired.mapP pas λ Ω Ω z=>z.mono (k1.tk.trans k2);have pc2:Paired (WN (upd (upd H' pt (.tup [.str gx,.int ((us2.length:Nat):Int)])) co (.lst (cs++[.ref pt])))) ((F.take i).flatMap cnt1++[(gx,as.length)]) (cs++[.ref pt]):=zAO (Paired.mapP pc λ Ω Ω z=>z.mono (k1.tk.trans k2)) (.cons ⟨pt,rfl,by rw[←las];exact k2 _ _ zAB⟩ .nil);generalize upd (upd H' pt _) co _=H2 at g2 el2 ec2 tk2 ha2 hb2 pas2 pc2 ⊢;refine⟨_,rfl,.inl ⟨rfl,_,SqL.of ec2⟩,_,rfl,pa,_,2,_,rfl,rfl,SqT.of ha2,at2,b',rfl,⟨us2,SqT.of hb2⟩,λ acc hacc=>?_⟩;have b3:(cnt1 (.gap gx as)).length=1+(as.flatMap λ a=>(agap a).map λ h=>(h,0)).length:=by simp[cnt1];omega
   refine zDh (xs:=us2) (λ j H'=>Same H2 H'/\∃zs:List V,H' acc=some (.lst zs)/\Paired (WN H') ((as.take j).flatMap λ a=>(agap a).map λ h=>(h,0)) zs/\zs.length<=j) ⟨zAC hacc,[],zAB,.nil,lQ _⟩ (λ j H' Ω h=>SqT.of (h.1 _ _ hb2)) ?_ ?_
   ·rintro j x Hx hx ⟨gx',zs,ez,pz,lz⟩
    obtain⟨at',eat,rat⟩:=zAW pas2 hx;have hj:j<us2.length:=(lJ.mp hx).1;have htj:((as.take (j+1)).flatMap λ a=>(agap a).map λ h=>(h,0))=((as.take j).flatMap λ a=>(agap a).map λ h=>(h,0))++(agap at').map λ h=>(h,0):=by rw[zAR eat,nK];simp
    obtain⟨b,r,rfl,hb⟩:=(rat.mono gx'.tk).all;rcases hb with ⟨h,rfl,hb⟩|⟨hag,kk,hkk,hb⟩
    ·have a0:atI (V.str "gap" :: .str h::r) 0=some (.str "gap"):=zAY (j:=0) rfl
     have a1:atI (V.str "gap" :: .str h::r) 1=some (.str h):=zAY (j:=1) rfl;refine⟨.skip .nil,_,rfl,b,_,0,_,rfl,rfl,SqT.of hb,a0,rfl,_,rfl,ite2 (λ Ω=>?_) (λ c=>absurd (lU rfl) c)⟩;refine⟨_,rfl,b,_,1,_,rfl,rfl,SqT.of hb,a1,d2,λ pq hpq=>?_⟩;have k5:=zAC (o:=.tup [.str h,.int 0]) hpq;have tkz:Tk (upd Hx pq (.tup [.str h,.int 0])) (upd (upd Hx pq (.tup [.str h,.int 0])) acc (.lst (zs++[.ref pq]))):=Tk.lst (k5 _ _ ez);refine⟨zs,k5 _ _ ez,zAM (by omega),zAQ (gx'.trans k5) hacc,zs++[.ref pq],zAB,?_,by simp;omega⟩;rw[htj];exact zAO (Paired.mapP pz λ Ω Ω z=>z.mono (k5.tk.trans tkz)) (.cons ⟨pq,rfl,tkz _ _ zAB⟩ .nil)
    ·have a0:atI (V.str kk::r) 0=some (.str kk):=zAY (j:=0) rfl
     refine⟨.skip .nil,_,rfl,b,_,0,_,rfl,rfl,SqT.of hb,a0,rfl,_,rfl,ite2 (λ c=>absurd (V.str.inj (lS c)) hkk) (λ Ω=>?_)⟩;refine⟨gx',zs,ez,?_,by omega⟩;rw[htj,hag];simpa using pz
   ·rintro H3 ⟨g3,zs,ez,pz,lz⟩
    rw[mV (by omega)] at pz;have lz2:zs.length=(as.flatMap λ a=>(agap a).map λ h=>(h,0)).length:=zAH pz;have ec3:=g3 _ _ ec2;refine⟨co,acc,cs++[.ref pt],zs,rfl,rfl,ec3,ez,zAm (by simp;omega),?_⟩;have tkz:Tk H3 (upd H3 co (.lst (cs++[.ref pt]++zs))):=Tk.lst ec3;refine⟨cs++[.ref pt]++zs,_,rfl,zAQ (g2.trans g3) hco,tk2.trans (g3.tk.trans tkz),by rw[zAK nlc];exact g3 _ _ el2,zAB,?_⟩;rw[htk];have e9:(F.take i).flatMap cnt1++cnt1 (.gap gx as)=(F.take i).flatMap cnt1++[(gx,as.length)]++as.flatMap λ a=>(agap a).map λ h=>(h,0):=by simp[cnt1]
    rw[e9];exact zAO (Paired.mapP pc2 λ Ω Ω z=>z.mono (g3.tk.trans tkz)) (Paired.mapP pz λ Ω Ω z=>z.mono tkz)
  |bin o a b=>cases o<;>cases z
  |_=>cases z
 ·rintro σ' H' ⟨cs,s2,rfl,g,tk,el',ec,pc⟩
  have bi:=bound us.length;rw[mV (by omega)] at pc bi;have lp:=zAH pc;rw[eF] at pc;exact⟨_,rfl,q co cs H' g ec pc (by omega)⟩
def zDR:Sp:=λ vs H Q Ω=>E2 λ(t:Tr) (v:V)=>A5 (vs=[v]) (Rep H t v) (t.size<=60) (∀p∈t.subs,(cnt1 p).length<=10) (∀(d:Addr) (kvs:List (Key × V)) (H':Hp),Same H H'->H d=none->H' d=some (.dK kvs)->Fd1 (gcnt t) kvs->kvs.length<=600->Q (.ref d) H')
theorem zJ0 (F:Fun K "gaps_of" "gaps_of" zER f fd) (zOR:FnB P w K mg base k "counted_gaps" g1 gd1 ["shape"] zFE):FnOk P w K mg base CX0 (k+1) f fd ["shape"] zDR:=by
 refine F.ok zCw (λ vs H Q E h=>?_) (λ cdv A outer s H vs Q E hr h=>?_)
 ·obtain⟨t,v,rfl,_⟩:=h
  rfl
 obtain⟨t,v,rfl,hR,hsz,h10,q⟩:=h
 refine⟨_,(zAE (pS (i:=1) zCw.nd zBi)
  (zAE (zAt PassesOwn.never rfl (zAz (pe_cl zOR hr (zAA (pv 0) zAD))) (zCl rfl (zAc (pGn (i:=2) zCw.nd) (zAc (pGn (i:=3) zCw.nd) zBe))) (zAG (zCk (pe_bm rS PySem.F.slot_dict_setdefault PySem.F.type_dict_setdefault zFx (pv 1) (zAA (pv 2) (zAA (pv 3) zAD))))))
  (zAG (zAX (pv 1))))),?_⟩
 refine λ d0 hd0=>?_;have g0:=zAC (o:=.dK []) hd0;have ed0:=@zAB H d0 (.dK []);have hR0:=hR.mono g0.tk;show tSeq _ _ _ _ (upd H d0 (.dK []));generalize upd H d0 _=H0 at g0 ed0 hR0 ⊢;refine⟨_,rfl,t,v,rfl,hR0,hsz,h10,λ l us H1 g1 el pC hl=>⟨l,rfl,⟨us,SqL.of el⟩,?_⟩⟩;generalize hCe:gcnt t=C at pC;have lu:us.length=C.length:=zAH pC;have nld:l≠d0:=λ z=>by rw[z,g1 _ _ ed0] at el;cases el
 refine zA8 (xs:=us) (λ i σ' H'=>E3 λ(kvs:List (Key × V)) (s2 s3:Option V)=>A7 (σ'=[some v,some (.ref d0),s2,s3]) (Same H H') (Tk H1 H') (H' l=some (.lst us)) (H' d0=some (.dK kvs)) (Fd1 (C.take i) kvs) (kvs.length<=i)) ?_ ?_ ?_ ?_
 ·exact⟨[],none,none,rfl,g0.trans g1,.refl _,el,g1 _ _ ed0,Fd1.nil,lQ _⟩
 ·rintro i σ' H' _ ⟨kvs,s2,s3,rfl,g,tk,el',ed,gd,le⟩
  exact SqL.of el'
 ·rintro i x σ' H' hx ⟨kvs,s2,s3,rfl,g,tk,el',ed,gd,le⟩
  obtain⟨⟨y,n⟩,eq,rq⟩:=zAW pC hx;have hi:i<us.length:=(lJ.mp hx).1;obtain⟨b,rfl,hb⟩:=rq.mono tk;dsimp only at hb;have htk:C.take (i+1)=C.take i++[(y,n)]:=zAR eq;refine⟨b,_,rfl,SqT.of hb,rfl,_,_,rfl,_,_,rfl,rfl,?_⟩;refine⟨_,rfl,.inr (.inr (.inl ⟨rfl,.inl ⟨kvs,ed⟩⟩)),_,rfl,_,rfl,d0,kvs,Sum.inr y,_,rfl,rfl,ed,by omega,λ z hz=>?_,λ hz=>?_⟩
  ·refine⟨kvs,_,_,rfl,g,tk,el',ed,?_,by omega⟩
   rw[htk];exact gd.same hz
  ·refine⟨_,_,_,rfl,zAQ g hd0,tk.trans (Tk.dk ed),by rw[zAK nld];exact el',zAB,?_,?_⟩
   ·rw[htk]
    exact gd.put hz
   ·have:=zAu kvs (Sum.inr y:Key) (.int ((n:Nat):Int))
    omega
 ·rintro σ' H' ⟨kvs,s2,s3,rfl,g,tk,el',ed,gd,le⟩
  rw[mV (by omega)] at gd;exact⟨_,rfl,q d0 kvs H' g hd0 ed (hCe▸gd) (by omega)⟩
abbrev zDx:Stmt:=top 20
theorem zHJ:zAV ["part", "number", "bound"] ["part", "number", "bound"] (zAN zDx):=scI
abbrev zCh:Stmt:=top 21
theorem zAn:zAV ["tree", "free", "level", "deeper", "part", "bound", "name", "number", "inner"] ["tree"] (zAN zCh):=scI
def zEL:Sp:=λ vs H Q Ω=>E5 λ(t:Tr) (v:V) (i:Int) (b:Addr) (bs:List Str)=>A5 (vs=[v,.int i,.ref b]) (Rep H t v) (H b=some (.tup (bs.map V.str))) (bs.length<=900) (∀p H',Same H H'->H' p=some (.tup ((bIn t i bs).map V.str))->Q (.ref p) H')
theorem zHS (F:Fun K "bound_in" "bound_in" zDx f fd):FnOk P w K mg base CX0 (k+1) f fd ["part", "number", "bound"] zEL:=by
 refine F.ok zHJ (λ vs H Q E h=>?_) (λ cdv A outer s H vs Q E hr h=>?_)
 ·obtain⟨t,v,i,b,bs,rfl,_⟩:=h
  rfl
 obtain⟨t,v,i,b,bs,rfl,hR,hb,hlen,q⟩:=h
 refine⟨_,(zAE (ps_if (zFJ (zAP op_eq (iC (r:=rIxT K) zAS (pv 0)) zAT (zAZ _)) (zDy (zAP op_eq (pv 1) zAF (zAZ _)))).pt (zAG (zAX (pe_op zHN (pv 2) (zAh (zAA (iC (r:=rIxT K) zAS (pv 0)) zAD):PE _ _ _)))) zAU)
  (zAG (zAX (pv 2)))),?_⟩
 obtain⟨a,hs,us,rfl,ha,hl,hp⟩:=hR.all;have h0:atI (V.str t.kd.s::hs++us) 0=some (.str t.kd.s):=zAY (j:=0) rfl;refine⟨_,rfl,a,_,0,_,rfl,rfl,SqT.of ha,h0,rfl,_,rfl,?_⟩;refine ite2 (λ c=>?_) (λ c=>?_)
 ·have z:t.kd = .lett:=Kd.eq_iff.mp (lS c)
  refine⟨_,rfl,rfl,_,rfl,?_⟩;cases t with
  |lett x s t =>
   obtain⟨a',u,w',e,ha',_⟩:=hR;cases e;refine ite2 (λ d=>?_) (λ d=>?_)
   ·have d':i=1:=V.int.inj (lS d)
    subst d';refine⟨_,rfl,_,rfl,a,_,1,_,rfl,rfl,SqT.of ha',rfl,(by show 1<=sizeLine;decide),λ p hpn=>?_⟩;refine⟨b,p,_,[.str x],rfl,rfl,zAC hpn _ _ hb,zAB,zAm (by rw[lC];show bs.length+1<=1000;omega),λ r H' g e=>?_⟩;refine q r H' ((zAC hpn).trans g) ?_;rw[e];simp[bIn]
   ·have d':¬i=1:=λ z=>d (by rw[z];exact lU rfl)
    refine⟨_,rfl,q b H (.refl H) ?_⟩;rw[hb];simp[bIn,d']
  |bin o a b=>cases o<;>cases z
  |_=>cases z
 ·refine iteF ?_
  refine⟨_,rfl,q b H (.refl H) ?_⟩
  have e:bIn t i bs=bs:=by
   cases t with
   |lett x s t=>exact absurd rfl c
   |_=>rfl
  rw[hb,e]
abbrev zOG (ss:List Str):Prop:=ss.Pairwise (λ a b=>ltCps b.cps.toList a.cps.toList=false)
def zNU (t:Tr) (H:Hp) (Q:VK):Prop:=∀(l:Addr) (H':Hp) (ss:List Str),Same H H'->H l=none->H' l=some (.lst (ss.map V.str))->ss.Nodup->zOG ss->(∀x,x∈ss↔x∈t.fv [])->Q (.ref l) H'
def zCI:Sp:=λ vs H Q Ω=>E3 λ(t:Tr) (v:V) (ws:List Str)=>A6 (vs=[v]) (Rep H t v) (t.size<=500) (ws.length<64) (∀x∈t.fv [],x∈ws) (zNU t H Q)
theorem zFw (F:Fun K "free_names" "free_names" zCh f fd) (z_sorted:mg "sorted" = none) (z_enumerate:mg "enumerate" = none)
  (zOK:FnB P w K mg base k "parts" g1 gd1 ["tree"] zB0) (zOS:FnB P w K mg base k "names_at" g2 gd2 ["part"] zDC) (zOT:FnB P w K mg base k "bound_in" g3 gd3 ["part", "number", "bound"] zEL) :
  FnOk P w K mg base CX0 (k+1) f fd ["tree"] zCI:=by
 refine F.ok zAn (λ vs H Q E h=>?_) (λ cdv A outer s H vs Q E hr h=>?_)
 ·obtain⟨t,v,ws,rfl,_⟩:=h
  rfl
 obtain⟨t,v,ws,rfl,hR,hsz,hws,hsub,q⟩:=h;have hu:=hu_of hr
 refine⟨_,(zAE (pS (i:=1) zAn.nd zBi)
  (zAE (pS (i:=2) zAn.nd (zAv (zAA (zAh (zAA (pv 0) (zAA (zAh zAD:PE _ _ _) zAD)):PE _ _ _) zAD):PE _ _ _))
  (zAE (zC2 PassesOwn.never (zC0 (pv 2) (λ Ω=>rfl)) (zAE (pS (i:=3) zAn.nd (zAv zAD:PE _ _ _))
  (zAE (zAt PassesOwn.never rfl (zAz (pv 2)) (zCl rfl (zAc (pGn (i:=4) zAn.nd) (zAc (pGn (i:=5) zAn.nd) zBe))) (zAE (zAt PassesOwn.never rfl (zAz (pe_cl zOS hr (zAA (pv 4) zAD))) (pGn (i:=6) zAn.nd) (zAG (ps_if (zAP (r:=rIn K true) zB2 (pv 6) (pv 5) rfl) (zAG (zBd hu (pv 1) (pv 6) pe_bl rfl)) zAU)))
  (zAG (zAt PassesOwn.never rfl (zJk (by rfl) z_enumerate (zAA (pe_cl zOK hr (zAA (pv 4) zAD)) zAD)) (zCl rfl (zAc (pGn (i:=7) zAn.nd) (zAc (pGn (i:=8) zAn.nd) zBe))) (zAG (pAp (pv 3) (zAh (zAA (pv 8) (zAA (pe_cl zOT hr (zAA (pv 4) (zAA (pv 7) (zAA (pv 5) zAD)))) zAD)):PE _ _ _)))))))
  (zAG (pS (i:=2) zAn.nd (pv 3))))))
  (zAG (zAX (zBb (zGr rfl) (by rfl) z_sorted PyProof.Rows.boot_sorted (zAA (pv 1) zAD))))))),?_⟩
 refine λ d hd=>⟨_,rfl,(by show 0<=sizeLine;decide),λ e he=>⟨(by show 2<=sizeLine;decide),λ pr hpr=>⟨(by show 1<=sizeLine;decide),λ l hl=>?_⟩⟩⟩;have g1:Same H (upd H d (.dK [])):=zAC hd;have g2:Same (upd H d (.dK [])) _:=zAC (o:=.tup []) he;have g3:=zAC (o:=.tup [v,.ref e]) hpr;have g4:=zAC (o:=.lst [.ref pr]) hl;have gAll:=g1.trans (g2.trans (g3.trans g4));have hld:l≠d:=Ne.symm (zAJ (g3 _ _ (g2 _ _ zAB)) hl);have hlH:H l=none:=(g1.trans (g2.trans g3)).free hl
 refine⟨(λ m σ' H'=>E10 λ(l:Addr) (ps:List V) (lev:List (Tr × List Str)) (ks:List Str) (s3 s4 s5 s6 s7 s8:Option V)=>A12 (σ'=[some v,some (.ref d),some (.ref l),s3,s4,s5,s6,s7,s8]) (Same H H') (H l=none) (l≠d) (H' d=some (.dK (kvOf ks))) (H' l=some (.lst ps)) (Paired (zD8 H') lev ps) ks.Nodup (m=total lev) (total lev<=500) (∀q∈lev,q.2.length+q.1.size<=500) (∀x,(x∈ks\/∃q∈lev,x∈q.1.fv q.2)↔x∈t.fv [])),
  ⟨t.size,l,_,[(t,[])],[],none,none,none,none,none,none,rfl,gAll,hlH,hld,g4 _ _ (g3 _ _ (g2 _ _ zAB)),zAB,.cons ⟨pr,v,e,rfl,g4 _ _ zAB,hR.mono gAll.tk,g4 _ _ (g3 _ _ zAB)⟩ .nil,List.nodup_nil,by simp[total],by simpa[total] using hsz,by simpa using hsz,by simp⟩,?_⟩
 rintro m σ' Hw ⟨l,ps,lev,ks,s3,s4,s5,s6,s7,s8,rfl,gw,hl,hld,ed,el,hp,hnd,rfl,htot,hdeep,hset⟩;refine⟨_,rfl,_,.inl ⟨ps,SqL.of el,rfl⟩,?_⟩;refine ite2 (λ c=>?_) (λ c=>?_)
 ·refine⟨_,λ Ω Ω h=>h,(by show 0<=sizeLine;decide),λ dp hdp=>⟨_,rfl,l,rfl,⟨ps,SqL.of (zAC hdp _ _ el)⟩,?_⟩⟩
  have gd:=zAC (o:=.lst []) hdp;have hdpH:H dp=none:=gw.free hdp;have ndd:dp≠d:=Ne.symm (zAJ ed hdp);have ndl:dp≠l:=Ne.symm (zAJ el hdp);refine zA8 (xs:=ps) (λ i σ' H'=>E7 λ(dps:List V) (ks':List Str) (s4 s5 s6 s7 s8:Option V)=>A9 (σ'=[some v,some (.ref d),some (.ref l),some (.ref dp),s4,s5,s6,s7,s8]) (Same H H') (Tk Hw H') (H' d=some (.dK (kvOf ks'))) (H' l=some (.lst ps)) (H' dp=some (.lst dps)) (Paired (zD8 H') ((lev.take i).flatMap λ q=>kids q.1 q.2) dps) ks'.Nodup (∀x,x∈ks'↔x∈ks\/∃q∈lev.take i,x∈q.1.names/\x∉q.2)) ?_ ?_ ?_ ?_
  ·exact⟨[],ks,s4,s5,s6,s7,s8,rfl,gw.trans gd,gd.tk,gd _ _ ed,gd _ _ el,zAB,.nil,hnd,by simp⟩
  ·rintro i σ1 H1 _ ⟨dps,ks1,s4,s5,s6,s7,s8,rfl,g1,k1,ed1,el1,edp1,hp1,n1,m1⟩
   exact SqL.of el1
  ·rintro i x σ1 H1 hx ⟨dps,ks1,s4,s5,s6,s7,s8,rfl,g1,k1,ed1,el1,edp1,hp1,n1,m1⟩
   obtain⟨⟨tq,bs⟩,eq,rq⟩:=zAW hp hx;have hmem:(tq,bs)∈lev:=lM eq;have hdq:=hdeep _ hmem;have spq:=zCK tq;dsimp only at hdq;obtain⟨a,u,b,rfl,ha,ru,hb⟩:=rq.mono k1;refine⟨a,_,rfl,SqT.of ha,rfl,_,_,rfl,_,_,rfl,rfl,?_⟩;refine⟨_,rfl,tq,u,rfl,ru,λ ln H2 g2 hln e2=>⟨ln,rfl,⟨_,SqL.of e2⟩,?_⟩⟩;have nlnd:ln≠d:=Ne.symm (zAJ ed1 hln);have nlnl:ln≠l:=Ne.symm (zAJ el1 hln);have nlnp:ln≠dp:=Ne.symm (zAJ edp1 hln);refine zA8 (xs:=tq.names.map V.str) (λ j σ' H'=>E2 λ(ks':List Str) (s6:Option V)=>A9 (σ'=[some v,some (.ref d),some (.ref l),some (.ref dp),some u,some (.ref b),s6,s7,s8]) (Same H H') (Tk H2 H') (H' d=some (.dK (kvOf ks'))) (H' l=some (.lst ps)) (H' dp=some (.lst dps)) (H' ln=some (.lst (tq.names.map V.str))) ks'.Nodup (∀x,x∈ks'↔x∈ks1\/(x∈tq.names.take j/\x∉bs))) ?_ ?_ ?_ ?_
   ·exact⟨ks1,s6,rfl,g1.trans g2,.refl _,g2 _ _ ed1,g2 _ _ el1,g2 _ _ edp1,e2,n1,by simp⟩
   ·rintro j σ2 H3 _ ⟨ks2,s6,rfl,g3,k3,ed3,el3,edp3,eln3,n3,m3⟩
    exact SqL.of eln3
   ·rintro j x σ2 H3 hx ⟨ks2,s6,rfl,g3,k3,ed3,el3,edp3,eln3,n3,m3⟩
    rw[mI] at hx;obtain⟨y,hy,rfl⟩:=lV.mp hx;have hb3:H3 b=some (.tup (bs.map V.str)):=k3 _ _ (g2.tk _ _ hb);refine⟨_,rfl,_,rfl,b,_,rfl,.inr (SqT.of hb3),rfl,zF5 bs,_,rfl,?_⟩;show if (!inV (V.str y) (bs.map V.str))=true then _ else _
    rw[zC5];have et:=zAR hy
    have kle:ks2.length<=ws.length:=by
     refine zBD n3 λ z hz=>hsub z ((hset z).mp ?_);rcases (m3 z).mp hz with h|⟨h,h'⟩
     ·rcases (m1 z).mp h with h|⟨q',hq',h1,h2⟩
      ·exact .inl h
      ·exact .inr ⟨q',nF hq',(zEj _ _ _).mpr (.inl ⟨h1,h2⟩)⟩
     ·exact .inr ⟨(tq,bs),hmem,(zEj _ _ _).mpr (.inl ⟨nF h,h'⟩)⟩
    refine ite2 (λ c=>?_) (λ c=>?_)
    ·have ny:y∉bs:=by simpa using c
     refine⟨_,rfl,_,rfl,d,_,rfl,DPut.k (k:=Sum.inr y) ed3 (zAM (by rw[show (kvOf ks2).length=ks2.length from lC _];omega)),?_⟩;refine⟨addK ks2 y,some (.str y),rfl,zAQ g3 hd,k3.trans (Tk.dk ed3),by rw[zAB,zCT],by rw[zAK hld];exact el3,by rw[zAK ndd];exact edp3,by rw[zAK nlnd];exact eln3,zBZ n3,λ z=>?_⟩;rw[zAf,m3,et,nM,mR];constructor
     ·rintro ((h|⟨h1,h2⟩)|h)
      ·exact .inl h
      ·exact .inr ⟨.inl h1,h2⟩
      ·exact .inr ⟨.inr h,h▸ny⟩
     ·rintro (h|⟨h1|h1,h2⟩)
      ·exact .inl (.inl h)
      ·exact .inl (.inr ⟨h1,h2⟩)
      ·exact .inr h1
    ·have ny:y∈bs:=by simpa using c
     refine⟨ks2,some (.str y),rfl,g3,k3,ed3,el3,edp3,eln3,n3,λ z=>?_⟩;rw[m3,et,nM,mR];constructor
     ·rintro (h|⟨h1,h2⟩)
      ·exact .inl h
      ·exact .inr ⟨.inl h1,h2⟩
     ·rintro (h|⟨h1|h1,h2⟩)
      ·exact .inl h
      ·exact .inr ⟨h1,h2⟩
      ·exact absurd (h1▸ny) h2
   ·rintro σ2 H3 ⟨ks2,s6,rfl,g3,k3,ed3,el3,edp3,eln3,n3,m3⟩
    rw[lC,mP] at m3;have k13:Tk H1 H3:=g2.tk.trans k3;have ru3:=ru.mono k13;refine⟨_,rfl,tq,u,rfl,ru3,λ pt H4 us g4 e4 hus=>⟨pt,rfl,⟨us,SqT.of e4⟩,?_⟩⟩;have hk:=zLm tq bs;have hul:us.length=(kids tq bs).length:=by rw[hk,hus.length]
    have hb4:H4 b=some (.tup (bs.map V.str)):=g4.tk _ _ (k13 _ _ hb);have ru4:=ru3.mono g4.tk;refine zIV (xs:=us) (λ j σ' H'=>E3 λ(dps':List V) (s7 s8:Option V)=>A7 (σ'=[some v,some (.ref d),some (.ref l),some (.ref dp),some u,some (.ref b),s6,s7,s8]) (Same H H') (Tk H4 H') (H' d=some (.dK (kvOf ks2))) (H' l=some (.lst ps)) (H' dp=some (.lst dps')) (Paired (zD8 H') (((lev.take i).flatMap λ q=>kids q.1 q.2)++(kids tq bs).take j) dps')) ?_ ?_ ?_ ?_
    ·exact⟨dps,s7,s8,rfl,g3.trans g4,.refl _,g4 _ _ ed3,g4 _ _ el3,g4 _ _ edp3,by
      rw[List.take_zero,nR];exact Paired.mapP hp1 λ Ω Ω z=>z.mono (k13.trans g4.tk)⟩
    ·rintro j σ3 H5 _ ⟨dps5,s7,s8,rfl,g5,k5,ed5,el5,edp5,hp5⟩
     exact SqT.of (k5 _ _ e4)
    ·rintro j x T σ3 H5 hx ⟨dps5,s7,s8,rfl,g5,k5,ed5,el5,edp5,hp5⟩ hT
     have gT:=zAC (o:=.tup [.int j,x]) hT;obtain⟨c,ec,rc⟩:=zAW hus hx;have kk:=zLn tq bs j c ec;have hj:j<us.length:=(lJ.mp hx).1;refine⟨T,_,rfl,SqT.of zAB,rfl,_,_,rfl,_,_,rfl,rfl,?_⟩;have edp6:=gT _ _ edp5;refine⟨_,rfl,.inl ⟨rfl,_,SqL.of edp6⟩,_,rfl,_,rfl,_,rfl,_,rfl,tq,u,j,b,bs,rfl,ru4.mono (k5.trans gT.tk),gT.tk _ _ (k5 _ _ hb4),by omega,λ p H6 g6 e6=>⟨(by show 2<=sizeLine;decide),λ pq hpq=>?_⟩⟩;have gq:=zAC (o:=.tup [x,.ref p]) hpq;have gA:=gT.trans (g6.trans gq);have edp7:=gA _ _ edp5
     have tot:dps5.length<=500:=by
      rw[←hp5.length,mK,mO];have l1:=zEh ((lev.take i).flatMap λ q=>kids q.1 q.2);have l2:=zIP (lev.take i);have l3:total (lev.take (i+1))<=total lev:=zIk lev _;rw[zAR eq,zCc,zDm,zJN] at l3;have l4:=zFR tq bs;have l5:=zEh (kids tq bs);dsimp only at l3;omega
     refine⟨dp,_,_,rfl,rfl,edp7,zAM (by omega),?_⟩;have kset:Tk H5 (upd (upd H6 pq (.tup [x,.ref p])) dp (.lst (dps5++[.ref pq]))):=gA.tk.trans (Tk.lst edp7);refine⟨_,_,_,rfl,zAQ (g5.trans gA) hdpH,k5.trans kset,by rw[zAK (Ne.symm ndd)];exact gA _ _ ed5,by rw[zAK (Ne.symm ndl)];exact gA _ _ el5,zAB,?_⟩;rw[zAR kk,←mY];refine zAO (Paired.mapP hp5 λ Ω Ω z=>z.mono kset) (.cons ⟨pq,x,p,rfl,Tk.lst edp7 _ _ zAB,rc.mono (k5.trans kset),Tk.lst edp7 _ _ (gq _ _ e6)⟩ .nil)
    ·rintro σ3 H5 ⟨dps5,s7,s8,rfl,g5,k5,ed5,el5,edp5,hp5⟩
     refine⟨dps5,ks2,some u,some (.ref b),s6,s7,s8,rfl,g5,k1.trans (k13.trans (g4.tk.trans k5)),ed5,el5,edp5,?_,n3,λ z=>?_⟩
     ·rw[hul,mP] at hp5
      rw[zAR eq,nK];simpa using hp5
     ·rw[m3,m1,zAR eq]
      simp only[nM,mR];constructor
      ·rintro ((h|⟨q',hq',h⟩)|h)
       ·exact .inl h
       ·exact .inr ⟨q',.inl hq',h⟩
       ·exact .inr ⟨(tq,bs),.inr rfl,h⟩
      ·rintro (h|⟨q',hq'|hq',h⟩)
       ·exact .inl (.inl h)
       ·exact .inl (.inr ⟨q',hq',h⟩)
       ·subst hq';exact .inr h
  ·rintro σ1 H1 ⟨dps,ks1,s4,s5,s6,s7,s8,rfl,g1,k1,ed1,el1,edp1,hp1,n1,m1⟩
   have hlen:ps.length=lev.length:=hp.length.symm;rw[hlen,mP] at hp1 m1
   have pos:0<lev.length:=by
    rw[←hlen];cases ps with
    |nil=>simp at c
    |cons _ _=>simp
   have lk:=zIP lev;refine⟨_,rfl,_,?_,dp,dps,_,ks1,some (.ref dp),s4,s5,s6,s7,s8,rfl,g1,hdpH,ndd,ed1,edp1,hp1,n1,rfl,by omega,λ q' hq'=>?_,λ x=>?_⟩
   ·omega
   ·obtain⟨r,hr',hq''⟩:=mX.mp hq'
    exact zKB r.1 r.2 500 (hdeep r hr') q' hq''
   ·rw[←hset,m1]
    constructor
    ·rintro ((h|⟨r,hr',h⟩)|⟨q',hq',h⟩)
     ·exact .inl h
     ·exact .inr ⟨r,hr',(zEj _ _ _).mpr (.inl h)⟩
     ·obtain⟨r,hr',hq''⟩:=mX.mp hq'
      exact .inr ⟨r,hr',(zEj _ _ _).mpr (.inr ⟨q',hq'',h⟩)⟩
    ·rintro (h|⟨r,hr',h⟩)
     ·exact .inl (.inl h)
     ·rcases (zEj _ _ _).mp h with h|⟨q',hq',h⟩
      ·exact .inl (.inr ⟨r,hr',h⟩)
      ·exact .inr ⟨q',mX.mpr ⟨r,hr',hq'⟩,h⟩
 ·have e0:ps=[]:=by
   cases ps with
   |nil=>rfl
   |cons _ _=>exact absurd rfl c
  subst e0;cases hp;have hk:∀x,x∈ks↔x∈t.fv []:=λ x=>by rw[←hset];simp
  refine⟨_,rfl,d,kvOf ks,ks,rfl,ed,by simp[kvOf,nT,Function.comp_def],?_,λ r ss hr' hperm hris=>?_⟩
  ·exact Nat.lt_of_le_of_lt (zBD hnd λ x hx=>hsub x ((hk x).mp hx)) hws
  ·exact q r _ ss (gw.trans (zAC hr')) (gw.free hr') zAB (hperm.nodup_iff.mpr hnd) hris λ x=>by rw[hperm.mem_iff,hk]
abbrev zEN:Stmt:=top 22
theorem zCE:zAV ["number", "word", "rest"] ["number"] (zAN zEN):=scI
abbrev zCM:Stmt:=top 23
theorem zB7:zAV ["used", "number"] ["used"] (zAN zCM):=scI
def zFB:Sp:=λ vs H Q Ω=>∃(n:Nat),A3 (vs=[.int (n:Int)]) (n<702) (Q (.str (wrdN n)) H)
theorem zIt {k:Nat}{f:Addr}{fd:FuncData}{tk:Tok}(F:Fun K "word_of" "word_of" zEN f fd) (zOU:mg "LETTERS" = some (.str abcS tk)):FnOk P w K mg base CX0 (k+1) f fd ["number"] zFB:=by
 refine F.ok zCE (λ vs H Q E h=>?_) (λ cdv A outer s H vs Q E hr h=>?_)
 ·obtain⟨n,rfl,_⟩:=h
  rfl
 obtain⟨n,rfl,hn,q⟩:=h
 refine⟨_,(zAE (pS (i:=1) zCE.nd (pe_ix zKL (zFu (v:=.str abcS) (by rfl) zOU ⟨_,rfl⟩) (pe_op zAi (pv 0) zAF) (λ Ω Ω=>rfl)))
  (zAE (pS (i:=2) zCE.nd (pe_op zAl (pv 0) zAF))
  (zAE (zC2 PassesOwn.never (zAP op_gt (pv 2) zAF (zAZ _)) (zAE (pS (i:=1) zCE.nd (pe_op zIs (pe_ix zKL (zFu (v:=.str abcS) (by rfl) zOU ⟨_,rfl⟩) (pe_op zAi (pe_op zIC (pv 2) zAF) zAF) (λ Ω Ω=>rfl)) (pv 1)))
  (zAG (pS (i:=2) zCE.nd (pe_op zAl (pe_op zIC (pv 2) zAF) zAF)))))
  (zAG (zAX (pv 1)))))),?_⟩
 have at_:∀i:Nat,i<26->atI abcS.cps.toList ((i:Nat):Int)=some (97+i):=λ i hi=>zAY (zOF i hi);have e1:(n:Int) % 26=((n % 26:Nat):Int):=by omega
 have e2:(n:Int) / 26=((n / 26:Nat):Int):=by omega
 refine⟨_,rfl,_,_,rfl,rfl,(show (0:Int)<26 by decide),abcS,_,_,rfl,rfl,zAm (by rw[zKu];decide),(by rw[e1];exact at_ _ (by omega)),?_⟩;refine⟨_,rfl,_,_,rfl,rfl,⟨(show (0:Int)<26 by decide),(show (26:Int)<1073741824 by decide)⟩,?_⟩;refine⟨λ m σ' H'=>H'=H/\((σ'=[some (.int (n:Int)),some (.str ⟨#[97+n % 26]⟩),some (.int ((n:Int) / 26))]/\m=1)\/(26<=n/\σ'=[some (.int (n:Int)),some (.str ⟨#[96+n / 26,97+n % 26]⟩),some (.int 0)]/\m=0)),⟨1,rfl,.inl ⟨rfl,rfl⟩⟩,?_⟩;rintro m σ' H' ⟨rfl,⟨rfl,rfl⟩|⟨hb,rfl,rfl⟩⟩
 ·refine⟨_,rfl,_,_,rfl,rfl,_,rfl,?_⟩
  refine ite2 (λ c=>?_) (λ c=>?_)
  ·have c':(0:Int)<(n:Int) / 26:=lS c
   have e3:((n:Int) / 26 - 1) % 26=((n / 26 - 1:Nat):Int):=by omega
   have e4:((n:Int) / 26 - 1) / 26=0:=by omega
   refine⟨_,λ Ω Ω h=>h,?_⟩;refine⟨_,rfl,_,_,rfl,rfl,_,_,rfl,rfl,(show (0:Int)<26 by decide),abcS,_,_,rfl,rfl,zAm (by rw[zKu];decide),(by rw[e3];exact at_ _ (by omega)),_,rfl,_,_,rfl,rfl,zAm (by show 1+1<=1000;decide),?_⟩;refine⟨_,rfl,_,_,rfl,rfl,_,_,rfl,rfl,⟨(show (0:Int)<26 by decide),(show (26:Int)<1073741824 by decide)⟩,?_⟩;refine⟨0,by decide,rfl,.inr ⟨by omega,?_,rfl⟩⟩;have e5:97+(n / 26 - 1)=96+n / 26:=by omega
   show [some (V.int (n:Int)),some (V.str ⟨#[97+(n / 26 - 1),97+n % 26]⟩),some (V.int (((n:Int) / 26 - 1) / 26))]=_;rw[e4,e5]
  ·have c':¬(0:Int)<(n:Int) / 26:=λ z=>c (lU z)
   have e:wrdN n=⟨#[97+n % 26]⟩:=by
    unfold wrdN;rw[if_pos (by omega),Nat.mod_eq_of_lt (by omega)]
   rw[e] at q;exact⟨_,rfl,q⟩
 ·refine⟨_,rfl,_,_,rfl,rfl,_,rfl,?_⟩
  refine iteN (by decide) ?_
  have e:wrdN n=⟨#[96+n / 26,97+n % 26]⟩:=by
   unfold wrdN;rw[if_neg (by omega)]
  rw[e] at q;exact⟨_,rfl,q⟩
def zEF:Sp:=λ vs H Q Ω=>E2 λ(u:Addr) (ks:List Str)=>A4 (vs=[.ref u]) (H u=some (.dK (kvOf ks))) (ks.length<=600) (∀m,m∉ks->GW m->Q (.str m) H)
theorem zJu (F:Fun K "unused_word" "unused_word" zCM f fd) (zOV:mg "KEPT_WORDS" = some (.ref kv)) (hL:KeptW K kv) (zOW:FnB P w K mg base k "word_of" g1 gd1 ["number"] zFB):FnOk P w K mg base CX0 (k+1) f fd ["used"] zEF:=by
 refine F.ok zB7 (λ vs H Q E h=>?_) (λ cdv A outer s H vs Q E hr h=>?_)
 ·obtain⟨u,ks,rfl,_⟩:=h
  rfl
 obtain⟨u,ks,rfl,hd,hz,q⟩:=h;have hu:=hu_of hr
 refine⟨_,(zAE (pS (i:=1) zB7.nd zAF)
  (zAE (zC2 PassesOwn.never (pw_or (zAP (zNs hu) (pe_cl zOW hr (zAA (pv 1) zAD)) (pv 0) rfl) (zET (zAP (r:=rIn K false) zCp (pe_cl zOW hr (zAA (pv 1) zAD)) (zFu (v:=.ref _) (by rfl) zOV (by rfl)) rfl))).pt (zAG (zNj (i:=1) zB7.nd rfl (Or.inl rfl) zAF zN3)))
  (zAG (zAX (pe_cl zOW hr (zAA (pv 1) zAD)))))),?_⟩
 have inK:∀x:Str,inV (.str x) keptV=decide (x∈keptS):=λ x=>zC5 x keptS;have gd:∀n:Nat,DGet H u (.str (wrdN n)) (valV (kvOf ks) (Sum.inr (wrdN n):Key)):=λ n=>DGet.k (k:=Sum.inr (wrdN n)) hd;refine⟨λ m σ' H'=>H'=H/\∃n:Nat,σ'=[some (.ref u),some (.int (n:Int))]/\m=701 - n/\(∀j<n,wrdN j∈ks\/wrdN j∈keptS)/\n<=701,⟨701,rfl,0,rfl,rfl,(λ j hj=>absurd hj (Nat.not_lt_zero j)),by decide⟩,?_⟩;rintro m σ' H' ⟨rfl,n,rfl,rfl,hall,hn7⟩;have hn:n<=ks.length+11:=zK0 hall (by omega);refine⟨_,rfl,n,rfl,by omega,_,rfl,u,_,rfl,gd n,_,rfl,?_⟩;rw[zK4];refine ite2 (λ c=>?_) (λ c=>?_)
 ·have hin:wrdN n∈ks:=by simpa using c
  refine iteT ?_;refine⟨_,λ Ω Ω h=>h,?_⟩;refine⟨_,rfl,n,1,rfl,rfl,?_⟩;refine⟨701 - (n+1),by omega,rfl,n+1,rfl,rfl,λ j hj=>?_,by omega⟩;rcases Nat.lt_or_ge j n with h|h
  ·exact hall j h
  ·have:j=n:=by omega
   rw[this];exact .inl hin
 ·have hnin:wrdN n∉ks:=by simpa using c
  refine⟨_,rfl,n,rfl,by omega,kv,keptV,rfl,.inr (.inr hL),rfl,rfl,_,rfl,?_⟩;show if inV (.str (wrdN n)) keptV=true then _ else _
  rw[inK];refine ite2 (λ c2=>?_) (λ c2=>?_)
  ·have hin:wrdN n∈keptS:=by simpa using c2
   refine⟨_,λ Ω Ω h=>h,?_⟩;refine⟨_,rfl,n,1,rfl,rfl,?_⟩;refine⟨701 - (n+1),by omega,rfl,n+1,rfl,rfl,λ j hj=>?_,by omega⟩;rcases Nat.lt_or_ge j n with h|h
   ·exact hall j h
   ·have:j=n:=by omega
    rw[this];exact .inr hin
  ·have hnk:wrdN n∉keptS:=by simpa using c2
   refine⟨_,rfl,n,rfl,by omega,q _ hnin ⟨(zHl n).1,(zHl n).2,hnk,zK2 (by omega)⟩⟩
abbrev zCe:Stmt:=top 24
theorem zA6:zAV ["tree", "leaves", "used", "part", "name", "leaf"] ["tree", "leaves"] (zAN zCe):=scI
def zCH:Sp:=λ vs H Q Ω=>E6 λ(t:Tr) (v:V) (d:Addr) (kvs:List (Key × V)) (τ:Told) (W:List Str)=>A9 (vs=[v,.ref d]) (Rep H t v) (t.size<=60) (H d=some (.dK kvs)) (Lv H τ kvs) (W.length<=400) (∀x∈t.wrds,x∈W) (∀p∈kvs,∀y,AtRep H (.name y) p.2->y∈W) (∀(u:Addr) (ks:List Str) (H':Hp),Same H H'->H u=none->H' u=some (.dK (kvOf ks))->ks.Nodup->(∀x∈t.wrds,x∈ks)->(∀x y,τ x=some (.name y)->y∈ks)->(∀x∈ks,x∈W)->Q (.ref u) H')
theorem zFv (F:Fun K "words_used" "words_used" zCe f fd) (zOX:FnB P w K mg base k "all_parts" g1 gd1 ["tree"] zMD) (zOS:FnB P w K mg base k "names_at" g2 gd2 ["part"] zDC) :
  FnOk P w K mg base CX0 (k+1) f fd ["tree", "leaves"] zCH:=by
 refine F.ok zA6 (λ vs H Q E h=>?_) (λ cdv A outer s H vs Q E hr h=>?_)
 ·obtain⟨t,v,d,kvs,τ,W,rfl,_⟩:=h
  rfl
 obtain⟨t,v,d,kvs,τ,W,rfl,hR,hsz,hd,hv,hW,htW,hdW,q⟩:=h;have hu:=hu_of hr
 refine⟨_,(zAE (pS (i:=2) zA6.nd zBi)
  (zAE (zAt PassesOwn.never rfl (zAz (pe_cl zOX hr (zAA (pv 0) zAD))) (pGn (i:=3) zA6.nd) (zAE (ps_if (zAP op_eq (iC (r:=rIxT K) zAS (pv 3)) zAT (zAZ _)) (zAG (zBd hu (pv 2) (iC (r:=rIxT K) zAS (pv 3)) pe_bl rfl)) zAU)
  (zAG (zAt PassesOwn.never rfl (zAz (pe_cl zOS hr (zAA (pv 3) zAD))) (pGn (i:=4) zA6.nd) (zAG (zBd hu (pv 2) (pv 4) pe_bl rfl))))))
  (zAE (zAt PassesOwn.never rfl (zMn (zMJ rS PySem.F.slot_dict_values PySem.F.type_dict_values zJ6 (pv 1))) (pGn (i:=5) zA6.nd) (zAG (zAt PassesOwn.never rfl (zAz (pe_cl zOS hr (zAA (pv 5) zAD))) (pGn (i:=4) zA6.nd) (zAG (zBd hu (pv 2) (pv 4) pe_bl rfl)))))
  (zAG (zAX (zHM (pv 2))))))),?_⟩
 refine λ u hu0=>?_;have g0:=zAC (o:=.dK []) hu0;refine⟨_,rfl,t,v,rfl,hR.mono g0.tk,hsz,λ l us Fl H1 g1 el pF hperm=>⟨l,rfl,⟨us,SqL.of el⟩,?_⟩⟩
 have nul:u≠l:=λ z=>by
  have:=g1 u _ zAB;rw[z,el] at this;cases this
 have nud:u≠d:=Ne.symm (zAJ hd hu0);have lF:us.length=Fl.length:=zAH pF
 have klen:∀ks:List Str,ks.Nodup->(∀x∈ks,x∈W)->(kvOf ks).length<sizeLine:=λ ks nd hs=>by
  have:=zBD nd hs;rw[show (kvOf ks).length=ks.length from lC _];exact zAM (by omega)
 refine zA8 (xs:=us) (λ i σ' H'=>E3 λ(ks:List Str) (s3 s4:Option V)=>A8 (σ'=[some v,some (.ref d),some (.ref u),s3,s4,none]) (Same H H') (Tk H1 H') (H' l=some (.lst us)) (H' u=some (.dK (kvOf ks))) ks.Nodup (∀x∈ks,x∈W) (∀p∈Fl.take i,∀x∈wr1 p,x∈ks)) ?_ ?_ ?_ ?_
 ·exact⟨[],none,none,rfl,g0.trans g1,.refl _,el,g1 _ _ zAB,List.nodup_nil,by simp,by simp⟩
 ·rintro i σ1 H2 _ ⟨ks,s3,s4,rfl,g2,k2,el2,eu2,nd,hin,hall⟩
  exact SqL.of el2
 ·rintro i x σ1 H2 hx ⟨ks,s3,s4,rfl,g2,k2,el2,eu2,nd,hin,hall⟩
  obtain⟨p,ep,rp⟩:=zAW pF hx;have rp:=rp.mono k2;have pin:p∈t.subs:=hperm.mem_iff.mp (lM ep);have pW:∀x∈wr1 p,x∈W:=λ x hx=>htW x ((zBB t x).mpr ⟨p,pin,hx⟩);have et:=zAR ep;obtain⟨a,hs,ws,rfl,ha,hl,hp⟩:=rp.all;have h0:atI (V.str p.kd.s::hs++ws) 0=some (.str p.kd.s):=zAY (j:=0) rfl;apply viaS (λ σ' H'=>∃(ks:List Str),A10 (σ'=[some v,some (.ref d),some (.ref u),some (.ref a),s4,none]) (Same H H') (Tk H1 H') (H' l=some (.lst us)) (H' u=some (.dK (kvOf ks))) (Rep H' p (.ref a)) ks.Nodup (∀x∈ks,x∈W) (∀p∈Fl.take i,∀x∈wr1 p,x∈ks) (p.kd = .lett->∀x∈wr1 p,x∈ks))
  ·intro rest
   refine⟨_,rfl,a,_,0,_,rfl,rfl,SqT.of ha,h0,rfl,_,rfl,?_⟩;refine ite2 (λ c=>?_) (λ c=>rest _ _ ⟨ks,rfl,g2,k2,el2,eu2,rp,nd,hin,hall,λ z=>absurd (lU (Kd.eq_iff.mpr z)) c⟩);have z:p.kd = .lett:=Kd.eq_iff.mp (lS c);cases p with
   |lett y p1 p2 =>
    obtain⟨a',u1,u2,e',ha',r1,r2⟩:=rp;cases e';refine⟨_,rfl,_,rfl,a,_,1,_,rfl,rfl,SqT.of ha',rfl,u,_,rfl,DPut.k (k:=Sum.inr y) eu2 (klen ks nd hin),?_⟩;refine rest _ _ ⟨addK ks y,rfl,zAQ g2 hu0,k2.trans (Tk.dk eu2),by rw[zAK (Ne.symm nul)];exact el2,by rw[zAB,zCT],(show Rep _ (.lett y p1 p2) _ from⟨a,u1,u2,rfl,ha',r1,r2⟩).mono (Tk.dk eu2),zBZ nd,λ x hx=>?_,λ p' hp' x hx=>zAf.mpr (.inl (hall p' hp' x hx)),λ Ω x hx=>?_⟩
    ·rcases zAf.mp hx with h|h
     ·exact hin x h
     ·exact pW x (by simp[wr1,h])
    ·exact zAf.mpr (.inr (by simpa[wr1] using hx))
   |bin o a b=>cases o<;>cases z
   |_=>cases z
  ·rintro σ' H3 ⟨ks3,rfl,g3,k3,el3,eu3,rp3,nd3,hin3,hall3,hlet3⟩
   refine⟨_,rfl,p,_,rfl,rp3,λ ln H4 g4 hln e4=>⟨ln,rfl,⟨_,SqL.of e4⟩,?_⟩⟩;have nln:ln≠u:=Ne.symm (zAJ eu3 hln);refine zA8 (xs:=p.names.map V.str) (λ j σ' H'=>E2 λ(ks:List Str) (s4:Option V)=>A10 (σ'=[some v,some (.ref d),some (.ref u),some (.ref a),s4,none]) (Same H H') (Tk H1 H') (H' l=some (.lst us)) (H' u=some (.dK (kvOf ks))) (H' ln=some (.lst (p.names.map V.str))) ks.Nodup (∀x∈ks,x∈W) (∀x∈ks3,x∈ks) (∀x∈p.names.take j,x∈ks)) ?_ ?_ ?_ ?_
   ·exact⟨ks3,s4,rfl,g3.trans g4,k3.trans g4.tk,g4 _ _ el3,g4 _ _ eu3,e4,nd3,hin3,λ x hx=>hx,by simp⟩
   ·rintro j σ2 H5 _ ⟨ks5,s4,rfl,g5,k5,el5,eu5,en5,nd5,hin5,up5,all5⟩
    exact SqL.of en5
   ·rintro j x σ2 H5 hx ⟨ks5,s4,rfl,g5,k5,el5,eu5,en5,nd5,hin5,up5,all5⟩
    rw[mI] at hx;obtain⟨y,hy,rfl⟩:=lV.mp hx;refine⟨_,rfl,_,rfl,u,_,rfl,DPut.k (k:=Sum.inr y) eu5 (klen ks5 nd5 hin5),?_⟩;refine⟨addK ks5 y,_,rfl,zAQ g5 hu0,k5.trans (Tk.dk eu5),by rw[zAK (Ne.symm nul)];exact el5,by rw[zAB,zCT],by rw[zAK nln];exact en5,zBZ nd5,λ x hx=>?_,λ x hx=>zAf.mpr (.inl (up5 x hx)),λ x hx=>?_⟩
    ·rcases zAf.mp hx with h|h
     ·exact hin5 x h
     ·have hyn:y∈p.names:=lM hy
      have nl:¬p.kd = .lett:=λ z=>by
       cases p with
       |lett _ _ _=>simp[Tr.names] at hyn
       |bin o _ _=>cases o<;>cases z
       |_=>cases z
      exact pW x (by rw[zJG nl,h];exact hyn)
    ·rw[zAR hy] at hx
     rcases lK.mp hx with h|h
     ·exact zAf.mpr (.inl (all5 x h))
     ·exact zAf.mpr (.inr (mR.mp h))
   ·rintro σ2 H5 ⟨ks5,s4',rfl,g5,k5,el5,eu5,en5,nd5,hin5,up5,all5⟩
    rw[lC,mP] at all5;refine⟨ks5,some (.ref a),s4',rfl,g5,k5,el5,eu5,nd5,hin5,λ p' hp' x hx=>?_⟩;rw[et] at hp';rcases lK.mp hp' with h|h
    ·exact up5 x (hall3 p' h x hx)
    ·rw[mR.mp h] at hx
     by_cases z:p.kd = .lett
     ·exact up5 x (hlet3 z x hx)
     ·rw[zJG z] at hx
      exact all5 x hx
 ·rintro σ1 H2 ⟨ks,s3,s4,rfl,g2,k2,el2,eu2,nd,hin,hall⟩
  rw[lF,mP] at hall;have hd2:H2 d=some (.dK kvs):=g2 _ _ hd;refine⟨_,rfl,.inr (.inr (.inl ⟨rfl,.inl ⟨_,hd2⟩⟩)),d,kvs,rfl,rfl,hd2,λ vw hvw=>⟨vw,d,kvs,rfl,zAB,by rw[zAK (zAJ hd2 hvw)];exact hd2,λ o=>?_⟩⟩;have nuv:u≠vw:=zAJ eu2 hvw;have sd:Sx d H (upd (upd H2 vw (viewO vw d)) d (.frz o (.dK kvs))):=λ b x n e=>by rw[zAK n,zAK (zAJ (g2 _ _ e) hvw)];exact g2 _ _ e
  have ed:=@zAB (upd H2 vw (viewO vw d)) d (.frz o (.dK kvs));have eu3:(upd (upd H2 vw (viewO vw d)) d (.frz o (.dK kvs))) u=some (.dK (kvOf ks)):=by rw[zAK nud,zAK nuv];exact eu2
  generalize upd (upd H2 vw _) d _=H3 at sd ed eu3 ⊢;have nd_tup:∀xs,H d≠some (.tup xs):=λ xs z=>by rw[hd] at z;cases z
  refine zLx (o:=o) (a:=d) (kvs:=kvs) (λ i σ' H'=>E3 λ(ks':List Str) (s4 s5:Option V)=>A8 (σ'=[some v,some (.ref d),some (.ref u),s3,s4,s5]) (Sx d H H') (H' d=some (.frz o (.dK kvs))) (H' u=some (.dK (kvOf ks'))) ks'.Nodup (∀x∈ks',x∈W) (∀x∈ks,x∈ks') (∀p∈kvs.take i,∀y,AtRep H (.name y) p.2->y∈ks')) ?_ ?_ ?_ ?_
  ·exact⟨ks,s4,none,rfl,sd,ed,eu3,nd,hin,λ x hx=>hx,by simp⟩
  ·rintro i σ' H' _ ⟨ks4,s4,s5,rfl,g4,ed4,eu4,nd4,hin4,up4,all4⟩
   exact ed4
  ·rintro i p σ' H' hp ⟨ks4,s4,s5,rfl,g4,ed4,eu4,nd4,hin4,up4,all4⟩
   have pmem:p∈kvs:=lM hp;obtain⟨x0,a0,_,ra⟩:=hv.ks p pmem;have ra4:=ra.mono (g4.tk nd_tup)
   have huniq:∀y,AtRep H (.name y) p.2->y∈a0.tr.names:=λ y hy=>by
    obtain⟨c,e,hc⟩:=hy;rw[e] at ra;cases a0 with
    |name z=>obtain⟨c',e',hc'⟩:=ra;cases e';rw[hc] at hc';cases hc';simp[Atom.tr,Tr.names]
    |num z=>obtain⟨c',e',hc'⟩:=ra;cases e';rw[hc] at hc';injection hc' with hc';injection hc' with hc';injection hc' with h1 h2;injection h1 with h1;exact absurd h1 (by left)
    |gap z=>obtain⟨c',b',e',hc',_⟩:=ra;cases e';rw[hc] at hc';injection hc' with hc';injection hc' with hc';injection hc' with h1 h2;injection h1 with h1;exact absurd h1 (by left)
   have hnW:∀y∈a0.tr.names,y∈W:=λ y hy=>by
    cases a0 with
    |name z=>simp[Atom.tr,Tr.names] at hy;subst hy;exact hdW p pmem y ra
    |num z=>simp[Atom.tr,Tr.names] at hy
    |gap z=>simp[Atom.tr,Tr.names] at hy
   refine⟨_,rfl,a0.tr,_,rfl,ra4.tr,λ ln H5 g5 hln e5=>⟨ln,rfl,⟨_,SqL.of e5⟩,?_⟩⟩;have nln:ln≠u:=Ne.symm (zAJ eu4 hln);refine zA8 (xs:=a0.tr.names.map V.str) (λ j σ' H'=>E2 λ(ks':List Str) (s4:Option V)=>A9 (σ'=[some v,some (.ref d),some (.ref u),s3,s4,some p.2]) (Sx d H H') (H' d=some (.frz o (.dK kvs))) (H' u=some (.dK (kvOf ks'))) (H' ln=some (.lst (a0.tr.names.map V.str))) ks'.Nodup (∀x∈ks',x∈W) (∀x∈ks4,x∈ks') (∀x∈a0.tr.names.take j,x∈ks')) ?_ ?_ ?_ ?_
   ·exact⟨ks4,s4,rfl,g4.same g5,g5 _ _ ed4,g5 _ _ eu4,e5,nd4,hin4,λ x hx=>hx,by simp⟩
   ·rintro j σ2 H6 _ ⟨ks6,s4,rfl,g6,ed6,eu6,en6,nd6,hin6,up6,all6⟩
    exact SqL.of en6
   ·rintro j x σ2 H6 hx ⟨ks6,s4,rfl,g6,ed6,eu6,en6,nd6,hin6,up6,all6⟩
    rw[mI] at hx;obtain⟨y,hy,rfl⟩:=lV.mp hx;refine⟨_,rfl,_,rfl,u,_,rfl,DPut.k (k:=Sum.inr y) eu6 (klen ks6 nd6 hin6),?_⟩;refine⟨addK ks6 y,_,rfl,g6.set hu0,by rw[zAK (Ne.symm nud)];exact ed6,by rw[zAB,zCT],by rw[zAK nln];exact en6,zBZ nd6,λ x hx=>?_,λ x hx=>zAf.mpr (.inl (up6 x hx)),λ x hx=>?_⟩
    ·rcases zAf.mp hx with h|h
     ·exact hin6 x h
     ·rw[h];exact hnW y (lM hy)
    ·rw[zAR hy] at hx
     rcases lK.mp hx with h|h
     ·exact zAf.mpr (.inl (all6 x h))
     ·exact zAf.mpr (.inr (mR.mp h))
   ·rintro σ2 H6 ⟨ks6,s4',rfl,g6,ed6,eu6,en6,nd6,hin6,up6,all6⟩
    rw[lC,mP] at all6;refine⟨ks6,s4',_,rfl,g6,ed6,eu6,nd6,hin6,λ x hx=>up6 x (up4 x hx),λ p' hp' y hy=>?_⟩;rw[zAR hp] at hp';rcases lK.mp hp' with h|h
    ·exact up6 y (all4 p' h y hy)
    ·rw[mR.mp h] at hy
     exact all6 y (huniq y hy)
  ·rintro σ' H' ⟨ks4,s4,s5,rfl,g4,ed4,eu4,nd4,hin4,up4,all4⟩
   rw[mP] at all4
   refine⟨_,rfl,d,o,kvs,ed4,(λ o u z=>by
    have z':H d=some (.frz o u):=z;rw[hd] at z';cases z'),?_⟩
   refine q u ks4 _ (g4.back hd) hu0 (by rw[zAK nud];exact eu4) nd4 (λ x hx=>?_) (λ x y e=>?_) hin4
   ·obtain⟨p,hp,h⟩:=(zBB t x).mp hx
    exact up4 x (hall p (hperm.mem_iff.mpr hp) x h)
   ·obtain⟨v',ev,rv⟩:=hv.some e
    obtain⟨p,hp,_,e2⟩:=zFf ev;exact all4 p hp y (by rw[e2];exact rv)
abbrev zES:Stmt:=top 25
theorem zDp:zAV ["let", "leaves", "coming", "free"] ["let", "leaves"] (zAN zES):=scI
abbrev zDu:Stmt:=top 26
theorem zHH:zAV ["let", "leaves", "used"] ["let", "leaves", "used"] (zAN zDu):=scI
abbrev zBx:Stmt:=top 27
theorem zCa:zAV ["let", "name", "leaves", "within"] ["let", "name", "leaves"] (zAN zBx):=scI
abbrev zDq:Stmt:=top 28
theorem zHE:zAV ["leaf", "leaves"] ["leaf", "leaves"] (zAN zDq):=scI
abbrev zDr:Stmt:=top 29
theorem zHF:zAV ["part", "leaves"] ["part", "leaves"] (zAN zDr):=scI
def zFG:Sp:=λ vs H Q Ω=>E8 λ(n:Str) (a b:Tr) (v:V) (d:Addr) (kvs:List (Key × V)) (τ:Told) (W:List Str)=>A9 (vs=[v,.ref d]) (Rep H (.lett n a b) v) (b.size<=500) (H d=some (.dK kvs)) (Lv H τ kvs) (kvs.length<=500) (W.length<64) (∀x∈b.fv [],x∈W) (∀(c:Bool) (H':Hp),Same H H'->(c=true↔zDj τ n b)->Q (.bl c) H')
theorem zIy (F:Fun K "catches" "catches" zES f fd) (z_any:mg "any" = none) (zOY:FnB P w K mg base k "free_names" g1 gd1 ["tree"] zCI) :
  FnOk P w K mg base CX0 (k+1) f fd ["let", "leaves"] zFG:=by
 refine F.ok zDp (λ vs H Q E h=>?_) (λ cdv A outer s H vs Q E hr h=>?_)
 ·obtain⟨n,a,b,v,d,kvs,τ,W,rfl,_⟩:=h
  rfl
 obtain⟨n,ta,tb,v,d,kvs,τ,W,rfl,hR,hsz,hd,hv,hz,hW,hsub,q⟩:=h;have hu:=hu_of hr;have hu5:=hu150 hr
 refine⟨_,(zAE (zH5 (jj:=2) ["name", "let", "leaves"] [none,some 0,some 1] rfl (zFt (pv 1)) (λ Ω Ω Ω Ω Ω=>(zA5 (i:=0) (show List.Nodup (["name", "let", "leaves"]:List Str) by left) rfl (Or.inl rfl))) (λ Ω Ω Ω Ω Ω=>(zEV (zFJ (zAP op_ne (pv 0) (iC (r:=rIxT K) zAS (pv 1)) (zAZ _)) (zDy (zAP (zML hu5) (zDJ hu (pv 2) (pv 0) (λ Ω Ω=>rfl)) (zAh (zAA zAT (zAA (iC (r:=rIxT K) zAS (pv 1)) zAD)):PE _ _ _) (zAZ _)))).pt)) (λ Ω Ω Ω Ω Ω=>(pv 0)) rfl zDp.nd rfl (Or.inl rfl) (Or.inr rfl))
  (zAE (ps_if (zDT (zC0 (pv 2) (λ Ω=>rfl))) (zAG (zAX (zHM pe_bl))) zAU)
  (zAE (zH3 (i:=3) zDp.nd rfl (Or.inr rfl) (pe_cl zOY hr (zAA (zHM (iC (r:=rIxT K) zAS (pv 0))) zAD)))
  (zAG (zAX (zBb (zGv rfl) (by rfl) z_any PyProof.Rows.boot_any (zAA (zBS ["name", "free"] [none,some 3] rfl (zAz (pv 2)) (λ Ω Ω Ω Ω Ω=>(zA5 (i:=0) (show List.Nodup (["name", "free"]:List Str) by left) rfl (Or.inl rfl))) (λ Ω Ω Ω Ω Ω=>zCi) (λ Ω Ω Ω Ω Ω=>(zCm (r:=rIn K false) zCp (pv 0) (pv 1) rfl)) rfl) zAD))))))),?_⟩
 obtain⟨a,u1,u2,rfl,ha,r1,r2⟩:=hR;have nd_tup:∀xs,H d≠some (.tup xs):=λ xs z=>by rw[hd] at z;cases z
 have nofz:∀o u,H d≠some (.frz o u):=λ o u z=>by rw[hd] at z;cases z
 refine⟨_,rfl,d,kvs,rfl,.inr ⟨hd,λ o acc hacc=>?_⟩⟩;have sd:Sx d H (upd H d (.frz o (.dK kvs))):=λ b x n e=>by rw[zAK n];exact e
 have ed:=@zAB H d (.frz o (.dK kvs))
 have haccH:H acc=none:=by
  by_cases z:acc=d
  ·rw[z,ed] at hacc;cases hacc
  ·rw[zAK z] at hacc;exact hacc
 have nad:acc≠d:=λ z=>by rw[z,ed] at hacc;cases hacc
 generalize upd H d _=H1 at sd ed hacc ⊢;refine zFV (o:=o) (a:=d) (kvs:=kvs) (λ i H'=>Sx d H H'/\H' d=some (.frz o (.dK kvs))/\∃xs:List Str,H' acc=some (.lst (xs.map V.str))/\xs.length<=i/\∀x,x∈xs↔x≠n/\τ x=some (.name n)/\∃p∈kvs.take i,p.1=(Sum.inr x:Key)) ?_ ?_ ?_ ?_
 ·exact⟨sd.set haccH,by rw[zAK (Ne.symm nad)];exact ed,[],zAB,by simp,by simp⟩
 ·rintro i H' _ ⟨_,e,_⟩
  exact e
 ·rintro i p H2 hp ⟨g2,ed2,xs,e2,hl2,m2⟩
  have pmem:p∈kvs:=lM hp;obtain⟨x,a0,epx,_⟩:=hv.ks p pmem;have tk2:=g2.tk nd_tup;have ha2:=tk2 _ _ ha;have hi:i<kvs.length:=(lJ.mp hp).1;have et:=zAR hp
  have stay:(¬(x≠n/\τ x=some (.name n)))->∀H3,Sx d H H3->H3 d=some (.frz o (.dK kvs))->H3 acc=some (.lst (xs.map V.str)) ->
    (Sx d H H3/\H3 d=some (.frz o (.dK kvs))/\∃xs:List Str,H3 acc=some (.lst (xs.map V.str))/\xs.length<=i+1/\∀x,x∈xs↔x≠n/\τ x=some (.name n)/\∃p∈kvs.take (i+1),p.1=(Sum.inr x:Key)):=by
   intro no H3 g3 ed3 e3;refine⟨g3,ed3,xs,e3,by omega,λ y=>?_⟩;rw[m2,et];constructor
   ·rintro⟨h1,h2,p',hp',h3⟩
    exact⟨h1,h2,p',lK.mpr (.inl hp'),h3⟩
   ·rintro⟨h1,h2,p',hp',h3⟩
    rcases lK.mp hp' with h|h
    ·exact⟨h1,h2,p',h,h3⟩
    ·rw[mR.mp h,epx] at h3
     have:x=y:=Sum.inr.inj h3;subst this;exact absurd ⟨h1,h2⟩ no
  refine⟨.skip (.keep (.keep .nil)),?_⟩;rw[epx];refine⟨_,rfl,_,rfl,a,_,1,_,rfl,rfl,SqT.of ha2,rfl,rfl,_,rfl,?_⟩;refine ite2 (λ c=>?_) (λ c=>?_)
  ·have hne:x≠n:=λ z=>by
    subst z;simp[kV] at c
   obtain⟨v',hval⟩:=zM4 pmem;rw[epx] at hval;obtain⟨a1,eτ,ra1⟩:=hv.get hval;refine⟨_,rfl,_,rfl,d,v',rfl,.inl ⟨kvs,Sum.inr x,.inr ⟨o,ed2⟩,rfl,hval.symm⟩,_,rfl,a,_,1,_,rfl,rfl,SqT.of ha2,rfl,(by show 2<=sizeLine;decide),λ tp htp=>?_⟩;have gt:=zAC (o:=.tup [.str "name", .str n]) htp;have ra2:=(ra1.mono tk2).mono gt.tk;refine⟨_,_,ra2.lf.dr,.tup zAB (.cons (.str _) (.cons (.str _) .nil)),zM8 a1,?_⟩;refine⟨_,rfl,?_⟩;show if Dt.beqs (dtL a1.lf) [.str "name", .str n]=true then _ else _
   rw[zM7];have ntd:tp≠d:=Ne.symm (zAJ ed2 htp);have g3:Sx d H (upd H2 tp (.tup [.str "name", .str n])):=g2.same gt;refine ite2 (λ c2=>?_) (λ c2=>?_)
   ·have e1:a1 = .name n:=lS c2
    subst e1;refine⟨_,rfl,xs.map V.str,gt _ _ e2,zAM (by rw[lC];omega),g3.set haccH,by rw[zAK (Ne.symm nad)];exact gt _ _ ed2,xs++[x],?_,by rw[mK];simp;omega,λ y=>?_⟩
    ·rw[zAB,mQ];rfl
    ·rw[nM,m2,et,mR]
     constructor
     ·rintro (⟨h1,h2,p',hp',h3⟩|h)
      ·exact⟨h1,h2,p',lK.mpr (.inl hp'),h3⟩
      ·subst h
       exact⟨hne,eτ,p,lK.mpr (.inr (by simp)),epx⟩
     ·rintro⟨h1,h2,p',hp',h3⟩
      rcases lK.mp hp' with h|h
      ·exact .inl ⟨h1,h2,p',h,h3⟩
      ·rw[mR.mp h,epx] at h3
       exact .inr (Sum.inr.inj h3).symm
   ·have no:¬a1 = .name n:=λ z=>c2 (lU z)
    exact stay (λ h=>no (by have:=h.2;rw[eτ] at this;exact mF this)) _ g3 (gt _ _ ed2) (gt _ _ e2)
  ·have hxn:x=n:=Classical.byContradiction λ z=>c (by
    have:¬V.str x=V.str n:=λ w=>z (V.str.inj w);simpa[kV] using this)
   refine iteF ?_;exact stay (λ h=>h.1 hxn) _ g2 ed2 e2
 ·rintro H2 ⟨g2,ed2,xs,e2,hl2,m2⟩
  rw[mP] at m2;have tk2:=g2.tk nd_tup;have ha2:=tk2 _ _ ha
  have m3:∀x,x∈xs↔x≠n/\τ x=some (.name n):=λ x=>by
   rw[m2];constructor
   ·rintro⟨h1,h2,_⟩
    exact⟨h1,h2⟩
   ·rintro⟨h1,h2⟩
    obtain⟨v',ev,_⟩:=hv.some h2;obtain⟨p,hp,e1,_⟩:=zFf ev;exact⟨h1,h2,p,hp,e1⟩
  have back:Same H (upd H2 d (.dK kvs)):=g2.back hd;refine⟨_,rfl,_,.inl ⟨_,SqL.of e2,rfl⟩,?_⟩;refine ite2 (λ c=>?_) (λ c=>?_)
  ·have hxs:xs=[]:=by
    cases xs with
    |nil=>rfl
    |cons _ _=>simp at c
   refine⟨d,o,kvs,ed2,nofz,q false _ back ⟨(λ z=>nomatch z),?_⟩⟩
   rintro⟨x,h1,h2,_⟩;have:=(m3 x).mpr ⟨h1,h2⟩;rw[hxs] at this;cases this
  ·refine⟨_,rfl,a,_,3,_,rfl,rfl,SqT.of ha2,rfl,d,o,kvs,ed2,nofz,tb,u2,W,rfl,r2.mono back.tk,hsz,hW,hsub,λ l2 H3 ss g3 hl2 e3 nd3 Ω mem3=>?_⟩
   have eacc3:H3 acc=some (.lst (xs.map V.str)):=g3 _ _ (by rw[zAK nad];exact e2);have gA:Same H H3:=back.trans g3;refine⟨_,rfl,acc,rfl,⟨_,SqL.of eacc3⟩,λ ac2 hac2=>?_⟩;refine zBp (xs:=xs.map V.str) (λ i H'=>Same H3 H'/\H' ac2=some (.lst (((xs.take i).map λ x=>decide (x∈ss)).map V.bl))) ?_ ?_ ?_ ?_
   ·exact⟨zAC hac2,zAB⟩
   ·rintro i H' _ ⟨g,_⟩
    exact SqL.of (g _ _ eacc3)
   ·rintro i x H4 hx ⟨g4,e4⟩
    rw[mI] at hx;obtain⟨y,hy,rfl⟩:=lV.mp hx;have hi:i<xs.length:=(lJ.mp hy).1;refine⟨.skip (.keep .nil),?_⟩;refine⟨_,rfl,_,rfl,l2,_,rfl,.inl (SqL.of (g4 _ _ e3)),rfl,zF5 ss,?_⟩;refine⟨_,e4,zAM (by rw[lC,lC,mO];omega),zAQ g4 hac2,?_⟩;rw[zAB,zAR hy,mQ,mQ];show some (HO.lst (_++[V.bl (inV (V.str y) (ss.map V.str))]))=_;rw[zC5];rfl
   ·rintro H4 ⟨g4,e4⟩
    rw[lC,mP] at e4;refine⟨ac2,_,rfl,e4,q _ H4 (gA.trans g4) ?_⟩;rw[List.any_map,List.any_eq_true];constructor
    ·rintro⟨x,hx,h⟩
     have h':x∈ss:=by simpa using h
     obtain⟨h1,h2⟩:=(m3 x).mp hx;exact⟨x,h1,h2,(mem3 x).mp h'⟩
    ·rintro⟨x,h1,h2,h3⟩
     exact⟨x,(m3 x).mpr ⟨h1,h2⟩,by simpa using (mem3 x).mpr h3⟩
def zEJ:Sp:=λ vs H Q Ω=>E10 λ(n:Str) (a b:Tr) (v:V) (d u:Addr) (kvs:List (Key × V)) (τ:Told) (W ks:List Str)=>A11 (vs=[v,.ref d,.ref u]) (Rep H (.lett n a b) v) (b.size<=500) (H d=some (.dK kvs)) (Lv H τ kvs) (kvs.length<=500) (W.length<64) (∀x∈b.fv [],x∈W) (H u=some (.dK (kvOf ks))) (ks.length<=600) (∀(m:Str) (H':Hp),Same H H'->((zDj τ n b/\m∉ks)\/(¬zDj τ n b/\m=n))->(m=n\/GW m)->Q (.str m) H')
theorem zHR (F:Fun K "let_name" "let_name" zDu f fd) (zOZ:FnB P w K mg base k "catches" g1 gd1 ["let", "leaves"] zFG) (zOa:FnB P w K mg base k "unused_word" g2 gd2 ["used"] zEF) :
  FnOk P w K mg base CX0 (k+1) f fd ["let", "leaves", "used"] zEJ:=by
 refine F.ok zHH (λ vs H Q E h=>?_) (λ cdv A outer s H vs Q E hr h=>?_)
 ·obtain⟨n,a,b,v,d,u,kvs,τ,W,ks,rfl,_⟩:=h
  rfl
 obtain⟨n,ta,tb,v,d,u,kvs,τ,W,ks,rfl,hR,hsz,hd,hv,hz,hW,hsub,hu,hk,q⟩:=h
 refine⟨_,(zAE (ps_if (zCj (pe_cl zOZ hr (zAA (pv 0) (zAA (pv 1) zAD)))) (zAG (zAX (pe_cl zOa hr (zAA (pv 2) zAD)))) zAU)
  (zAG (zAX (iC (r:=rIxT K) zAS (pv 0))))),?_⟩
 refine⟨_,rfl,_,rfl,n,ta,tb,v,d,kvs,τ,W,rfl,hR,hsz,hd,hv,hz,hW,hsub,λ c H1 g1 hc=>⟨_,rfl,?_⟩⟩;refine ite2 (λ e=>?_) (λ e=>?_)
 ·exact⟨_,rfl,u,ks,rfl,g1 _ _ hu,hk,λ m hm gm=>q m H1 g1 (.inl ⟨hc.mp e,hm⟩) (.inr gm)⟩
 ·obtain⟨a,u1,u2,rfl,ha,_⟩:=hR
  exact⟨_,rfl,a,_,1,_,rfl,rfl,SqT.of (g1 _ _ ha),rfl,q n H1 g1 (.inr ⟨λ z=>e (hc.mpr z),rfl⟩) (.inl rfl)⟩
def zGQ:Sp:=λ vs H Q Ω=>E8 λ(n m:Str) (a b:Tr) (v:V) (d:Addr) (kvs:List (Key × V)) (τ:Told)=>A6 (vs=[v,.str m,.ref d]) (Rep H (.lett n a b) v) (H d=some (.dK kvs)) (Lv H τ kvs) (kvs.length<=500) (∀(d':Addr) (kvs':List (Key × V)) (H':Hp),Same H H'->H d'=none->H' d'=some (.dK kvs')->Lv H' (setT τ n (.name m)) kvs'->kvs'.length<=kvs.length+1->Q (.ref d') H')
theorem zJs (F:Fun K "leaves_within" "leaves_within" zBx f fd) (z_dict:mg "dict" = none):FnOk P w K mg base CX0 (k+1) f fd ["let", "name", "leaves"] zGQ:=by
 refine F.ok zCa (λ vs H Q E h=>?_) (λ cdv A outer s H vs Q E hr h=>?_)
 ·obtain⟨n,m,a,b,v,d,kvs,τ,rfl,_⟩:=h
  rfl
 obtain⟨n,m,ta,tb,v,d,kvs,τ,rfl,hR,hd,hv,hz,q⟩:=h;have hu:=hu_of hr
 refine⟨_,(zAE (pS (i:=3) zCa.nd (zBT zC8 (by rfl) z_dict rN (zAA (pv 2) zAD)))
  (zAE (zBd hu (pv 3) (iC (r:=rIxT K) zAS (pv 0)) (zAh (zAA zAT (zAA (pv 1) zAD)):PE _ _ _) rfl)
  (zAG (zAX (pv 3))))),?_⟩
 obtain⟨a,u1,u2,rfl,ha,_⟩:=hR;refine⟨_,rfl,d,kvs,rfl,hd,λ d' hd'=>?_⟩;have g1:=zAC (o:=.dK kvs) hd';refine⟨_,rfl,(by show 2<=sizeLine;decide),λ tp htp=>?_⟩;have g2:=zAC (o:=.tup [.str "name", .str m]) htp;have gA:=g1.trans g2;have ed':(upd (upd H d' (.dK kvs)) tp (.tup [.str "name", .str m])) d'=some (.dK kvs):=g2 _ _ zAB;refine⟨_,rfl,_,rfl,a,_,1,_,rfl,rfl,SqT.of (gA _ _ ha),rfl,d',_,rfl,DPut.k (k:=Sum.inr n) ed' (zAM (by omega)),?_⟩;refine⟨_,rfl,q d' _ _ (zAQ gA hd') hd' zAB ?_ (zLj _ _ _)⟩;have tkd:=Tk.dk (o:=.dK (putK kvs (Sum.inr n:Key) (.ref tp))) ed';exact((hv.mono gA.tk).put (n:=n) (a:=.name m) ⟨tp,rfl,zAB⟩).mono tkd
def zEG:Sp:=λ vs H Q Ω=>E5 λ(t:Tr) (v:V) (d:Addr) (kvs:List (Key × V)) (τ:Told)=>A5 (vs=[v,.ref d]) (Rep H t v) (H d=some (.dK kvs)) (Lv H τ kvs) ((∃x,t = .name x/\∀v',AtRep H (tOf τ x) v'->Q v' H)\/(t.kd ≠ .name/\Q v H))
theorem zHO (F:Fun K "put_leaf" "put_leaf" zDq f fd):FnOk P w K mg base CX0 (k+1) f fd ["leaf", "leaves"] zEG:=by
 refine F.ok zHE (λ vs H Q E h=>?_) (λ cdv A outer s H vs Q E hr h=>?_)
 ·obtain⟨t,v,d,kvs,τ,rfl,_⟩:=h
  rfl
 obtain⟨t,v,d,kvs,τ,rfl,hR,hd,hv,q⟩:=h;have hu:=hu_of hr
 refine⟨_,(zAE (ps_if (zAP op_eq (iC (r:=rIxT K) zAS (pv 0)) zAT (zAZ _)) (zAG (zAX (zH9 hu (pv 1) (iC (r:=rIxT K) zAS (pv 0)) (pv 0) ⟨rfl,rfl,rfl,rfl⟩))) zAU)
  (zAG (zAX (pv 0)))),?_⟩
 obtain⟨a,hs,ws,rfl,ha,hl,hp⟩:=hR.all;have h0:atI (V.str t.kd.s::hs++ws) 0=some (.str t.kd.s):=zAY (j:=0) rfl;refine⟨_,rfl,a,_,0,_,rfl,rfl,SqT.of ha,h0,rfl,_,rfl,?_⟩;refine ite2 (λ c=>?_) (λ c=>?_)
 ·have z:t.kd = .name:=Kd.eq_iff.mp (lS c)
  rcases q with ⟨x,rfl,q⟩|⟨n,_⟩
  ·obtain⟨a',e,ha'⟩:=hR
   cases e;refine⟨_,rfl,d,rfl,.inl ⟨kvs,.inl hd⟩,_,rfl,a,_,1,_,rfl,rfl,SqT.of ha',rfl,_,rfl,_,DGet.k (k:=Sum.inr x) hd,q _ ?_⟩;unfold tOf;cases e:valV kvs (Sum.inr x:Key) with
   |none=>rw[hv.none_ e];exact⟨a,rfl,ha'⟩
   |some v' =>
    obtain⟨a1,e1,r1⟩:=hv.get e;rw[e1];exact r1
  ·exact absurd z n
 ·rcases q with ⟨x,rfl,_⟩|⟨_,q⟩
  ·exact absurd rfl c
  ·exact⟨_,rfl,q⟩
def zEH:Sp:=λ vs H Q Ω=>E5 λ(t:Tr) (v:V) (d:Addr) (kvs:List (Key × V)) (τ:Told)=>A5 (vs=[v,.ref d]) (Rep H t v) (H d=some (.dK kvs)) (Lv H τ kvs) (∀v' H',Same H H'->Rep H' (headT τ t) v'->Q v' H')
theorem zHP (F:Fun K "put_head" "put_head" zDr f fd) (z_tuple:mg "tuple" = none) (zOb:FnB P w K mg base k "put_leaf" g1 gd1 ["leaf", "leaves"] zEG):FnOk P w K mg base CX0 (k+1) f fd ["part", "leaves"] zEH:=by
 refine F.ok zHF (λ vs H Q E h=>?_) (λ cdv A outer s H vs Q E hr h=>?_)
 ·obtain⟨t,v,d,kvs,τ,rfl,_⟩:=h
  rfl
 obtain⟨t,v,d,kvs,τ,rfl,hR,hd,hv,q⟩:=h
 refine⟨_,(Sd.un (zAI (zBN ⟨zAP op_eq (iC (r:=rIxT K) zAS (pv 0)) zAT (zAZ _)⟩ (zAa (zAq (zBA (zAL ⟨zAT⟩ (zAL (zCG (r:=rIxT K) zAS ⟨pv 0⟩ ⟨zAF⟩ (λ Ω Ω=>rfl)) (zAL (zC3 zA9 (by rfl) z_tuple rL (zAL ⟨zBS ["atom", "leaves"] [none,some 1] rfl (zDV (iC (r:=rIxT K) zAS (pv 0))) (λ Ω Ω Ω Ω Ω=>(zA5 (i:=0) (show List.Nodup (["atom", "leaves"]:List Str) by left) rfl (Or.inl rfl))) (λ Ω Ω Ω Ω Ω=>zCi) (λ Ω Ω Ω Ω Ω=>(pe_cl zOb hr (zAA (pv 0) (zAA (pv 1) zAD)))) rfl⟩ ⟨zAD⟩)) ⟨zAD⟩)))))) ⟨zAU⟩)
  (zAa (zAq ⟨pe_cl zOb hr (zAA (pv 0) (zAA (pv 1) zAD))⟩)))),?_⟩
 obtain⟨a,hs,ws,rfl,ha,hl,hp⟩:=id hR.all;have h0:atI (V.str t.kd.s::hs++ws) 0=some (.str t.kd.s):=zAY (j:=0) rfl;refine⟨_,rfl,a,_,0,_,rfl,rfl,SqT.of ha,h0,rfl,_,rfl,?_⟩;refine ite2 (λ c=>?_) (λ c=>?_)
 ·have z:t.kd = .gap:=Kd.eq_iff.mp (lS c)
  cases t with
  |gap g as =>
   obtain⟨a',b',us,e,ha',hb',hz',hp'⟩:=hR;cases e;have lus:=zAH hp';refine⟨_,rfl,a,_,1,_,rfl,rfl,SqT.of ha',rfl,_,rfl,a,_,2,_,rfl,rfl,SqT.of ha',rfl,b',rfl,⟨_,SqT.of hb'⟩,λ acc hacc=>?_⟩;refine zDh (xs:=us) (λ i H'=>Same H H'/\∃zs,H' acc=some (.lst zs)/\Paired (AtRep H') ((as.take i).map (putA τ)) zs) ⟨zAC hacc,[],zAB,by rw[List.take_zero];exact .nil⟩ (λ i H' Ω h=>SqT.of (h.1 _ _ hb')) ?_ ?_
   ·rintro j x Hx hx ⟨gx,zs,ezs,hzs⟩
    obtain⟨m,em,rm⟩:=zAW hp' hx;have hj:j<us.length:=(lJ.mp hx).1;have lz:=zAH hzs;rw[lC,mO] at lz;have rm':=rm.mono gx.tk;refine⟨.skip (.keep .nil),?_⟩
    have hnext:∀v',AtRep Hx (putA τ m) v'->∃zs,Hx acc=some (.lst zs)/\zs.length<sizeLine/\(Same H (upd Hx acc (.lst (zs++[v'])))/\∃zs',(upd Hx acc (.lst (zs++[v']))) acc=some (.lst zs')/\Paired (AtRep (upd Hx acc (.lst (zs++[v'])))) ((as.take (j+1)).map (putA τ)) zs'):=λ v' rv=>by
     have tkz:Tk Hx (upd Hx acc (.lst (zs++[v']))):=Tk.lst ezs;refine⟨zs,ezs,zAM (by omega),zAQ gx hacc,_,zAB,?_⟩;rw[zAR em,mQ];exact zAO (Paired.mapP hzs λ Ω Ω z=>z.mono tkz) (.cons (rv.mono tkz) .nil)
    refine⟨_,rfl,_,rfl,m.tr,x,d,kvs,τ,rfl,rm'.tr,gx _ _ hd,hv.mono gx.tk,?_⟩;cases m with
    |name y=>exact .inl ⟨y,rfl,λ v' rv=>hnext v' rv⟩
    |num y=>exact .inr ⟨(by nofun),hnext x rm'⟩
    |gap y=>exact .inr ⟨(by nofun),hnext x rm'⟩
   ·rintro Hx ⟨gx,zs,ezs,hzs⟩
    rw[lus,mP] at hzs;have lz:=zAH hzs;rw[lC] at lz;refine⟨acc,zs,rfl,.inl ⟨SqL.of ezs,λ tp htp=>?_⟩⟩;have g1:=zAC (o:=.tup zs) htp;refine⟨(by show 3<=sizeLine;decide),λ tq htq=>?_⟩;have g2:=zAC (o:=.tup [.str "gap", .str g,.ref tp]) htq;refine q _ _ (gx.trans (g1.trans g2)) ⟨tq,tp,zs,rfl,zAB,g2 _ _ zAB,by omega,?_⟩;exact Paired.mapP hzs λ Ω Ω z=>z.mono (g1.trans g2).tk
  |bin o a b=>cases o<;>cases z
  |_=>cases z
 ·refine⟨_,rfl,_,rfl,t,_,d,kvs,τ,rfl,hR,hd,hv,?_⟩
  cases t with
  |name x=>exact .inl ⟨x,rfl,λ v' rv=>q v' H (.refl H) rv.tr⟩
  |gap g as=>exact absurd rfl c
  |bin o a b=>exact .inr ⟨by cases o<;>nofun,q _ H (.refl H) hR⟩
  |_=>exact .inr ⟨(by nofun),q _ H (.refl H) hR⟩
abbrev zCS:Stmt:=top 30
theorem zA1:zAV ["heads", "ready", "grown", "begin", "head", "end"] ["heads", "ready"] (zAN zCS):=scI
abbrev zCg:Stmt:=top 31
theorem zBg:zAV ["levels", "ready", "heads"] ["levels"] (zAN zCg):=scI
def zHv:Sp:=λ vs H Q Ω=>E6 λ(hl rl:Addr) (hvs rvs:List V) (hs R:List Tr)=>A8 (vs=[.ref hl,.ref rl]) (H hl=some (.lst hvs)) (H rl=some (.lst rvs)) (Paired (Rep H) hs hvs) (Paired (Rep H) R rvs) (R.length=zAj hs) (hs.length<=600) (∀l us H',Same H H'->H l=none->H' l=some (.lst us)->Paired (Rep H') (growL hs R) us->Q (.ref l) H')
theorem zLY (F:Fun K "grown_level" "grown_level" zCS f fd) (z_len:mg "len" = none) (zOK:FnB P w K mg base k "parts" g1 gd1 ["tree"] zB0) (zOO:FnB P w K mg base k "with_parts" g2 gd2 ["tree", "parts"] zHA) :
  FnOk P w K mg base CX0 (k+1) f fd ["heads", "ready"] zHv:=by
 refine F.ok zA1 (λ vs H Q E h=>?_) (λ cdv A outer s H vs Q E hr h=>?_)
 ·obtain⟨hl,rl,hvs,rvs,hs,R,rfl,_⟩:=h
  rfl
 obtain⟨hl,rl,hvs,rvs,hs,R,rfl,eh,er,pH,pR,hRn,hz,q⟩:=h
 refine⟨_,(zAE (pS (i:=2) zA1.nd (zAv zAD:PE _ _ _))
  (zAE (pS (i:=3) zA1.nd zAF)
  (zAE (zAt PassesOwn.never rfl (zAz (pv 0)) (pGn (i:=4) zA1.nd) (zAE (pS (i:=5) zA1.nd (pe_op zBz (pv 3) (cL z_len (zAA (pe_cl zOK hr (zAA (pv 4) zAD)) zAD))))
  (zAE (pAp (pv 2) (pe_cl zOO hr (zAA (pv 4) (zAA (zAo (r:=rSlL K) zA3 (pv 1) (zAk (pv 3)) (zAk (pv 5))) zAD))))
  (zAG (pS (i:=3) zA1.nd (pv 5))))))
  (zAG (zAX (pv 2)))))),?_⟩
 have lh:hvs.length=hs.length:=zAH pH;have lr:rvs.length=R.length:=zAH pR;refine⟨(by show 0<=sizeLine;decide),λ gl hgl=>?_⟩;have g0:=zAC (o:=.lst []) hgl;refine⟨_,rfl,hl,rfl,⟨hvs,SqL.of (g0 _ _ eh)⟩,?_⟩;refine zA8 (xs:=hvs) (λ i σ' H'=>E3 λ(us:List V) (s4 s5:Option V)=>A4 (σ'=[some (.ref hl),some (.ref rl),some (.ref gl),some (.int ((zAj (hs.take i):Nat):Int)),s4,s5]) (Same H H') (H' gl=some (.lst us)) (Paired (Rep H') (growL (hs.take i) (R.take (zAj (hs.take i)))) us)) ?_ ?_ ?_ ?_
 ·exact⟨[],none,none,rfl,g0,zAB,.nil⟩
 ·rintro i σ1 H1 _ ⟨us,s4,s5,rfl,g1,eg1,p1⟩
  exact SqL.of (g1 _ _ eh)
 ·rintro i x σ1 H1 hx ⟨us,s4,s5,rfl,g1,eg1,p1⟩
  obtain⟨h,eh',rh⟩:=zAW pH hx;have hi:i<hs.length:=(lJ.mp eh').1;have et:=zAR eh';have en:zAj (hs.take (i+1))=zAj (hs.take i)+h.parts.length:=by rw[et,zD0,zFO]
  have le:=zEc hs (i+1);refine⟨_,rfl,_,rfl,h,x,rfl,rh.mono g1.tk,λ pt H2 ws g2 ept pw=>?_⟩;have lw:ws.length=h.parts.length:=zAH pw;refine⟨pt,_,rfl,.inr (SqT.of ept),_,_,rfl,rfl,?_⟩;have er2:=(g1.trans g2) _ _ er;refine⟨_,rfl,.inl ⟨rfl,_,SqL.of (g2 _ _ eg1)⟩,_,rfl,_,rfl,_,rfl,_,rfl,_,rfl,_,rfl,rl,rvs,rfl,SqL.of er2,λ sl hsl=>?_⟩
  have e0:cutV rvs (some ((zAj (hs.take i):Nat):Int)) (some (((zAj (hs.take i):Nat):Int)+(ws.length:Int)))=(rvs.drop (zAj (hs.take i))).take h.parts.length:=by
   have e1:(((zAj (hs.take i):Nat):Int)+(ws.length:Int))=((zAj (hs.take i)+h.parts.length:Nat):Int):=by rw[lw];omega
   rw[e1];unfold cutV;rw[HT.sIx_nat,HT.sIx_nat];congr 1
   ·omega
   ·congr 1
    omega
  rw[e0];have g3:=zAC (o:=.lst ((rvs.drop (zAj (hs.take i))).take h.parts.length)) hsl;have gA:=g1.trans (g2.trans g3);refine⟨h,x,sl,_,(R.drop (zAj (hs.take i))).take h.parts.length,rfl,rh.mono gA.tk,zAB,Paired.mapP (zDz _ _ pR) (λ Ω Ω z=>z.mono gA.tk),?_,λ v' H4 g4 r4=>?_⟩
  ·rw[mO,mW]
   omega
  have eg4:=(g2.trans (g3.trans g4)) _ _ eg1
  have lus:us.length<=i:=by
   have:=zAH p1;rw[zEv,mO] at this;omega
  refine⟨gl,us,v',rfl,rfl,eg4,zAM (by omega),?_⟩;have tkz:Tk H4 (upd H4 gl (.lst (us++[v']))):=Tk.lst eg4;refine⟨_,rfl,us++[v'],some x,some (V.int (((zAj (hs.take i):Nat):Int)+(ws.length:Int))),?_,zAQ (gA.trans g4) hgl,zAB,?_⟩
  ·have e1:(((zAj (hs.take i):Nat):Int)+(ws.length:Int))=((zAj (hs.take (i+1)):Nat):Int):=by rw[lw,en];omega
   show [some (V.ref hl),some (V.ref rl),some (V.ref gl),some (V.int (((zAj (hs.take i):Nat):Int)+(ws.length:Int))),some x,some (V.int (((zAj (hs.take i):Nat):Int)+(ws.length:Int)))]=_;rw[e1]
  ·have e2:R.take (zAj (hs.take (i+1)))=R.take (zAj (hs.take i))++(R.drop (zAj (hs.take i))).take h.parts.length:=by
    rw[en,List.take_add]
   rw[e2,et,zD4 _ (by rw[mO];have:=zEc hs i;omega) (by rw[mO,mW];omega)];exact zAO (Paired.mapP p1 λ Ω Ω z=>z.mono ((g2.trans (g3.trans g4)).tk.trans tkz)) (.cons (r4.mono tkz) .nil)
 ·rintro σ1 H1 ⟨us,s4,s5,rfl,g1,eg1,p1⟩
  rw[lh,mP,←hRn,mP] at p1;exact⟨_,rfl,q gl us H1 g1 hgl eg1 p1⟩
def zHx:Sp:=λ vs H Q Ω=>E4 λ(L:Addr) (lvs:List V) (Lr:List (List Tr)) (r:Tr)=>A7 (vs=[.ref L]) (H L=some (.lst lvs)) (Paired (zOH H) Lr.reverse lvs) (Fit Lr 0) (zF2 Lr []=[r]) (∀hs∈Lr,hs.length<=600) (∀v' H',Same H H'->Rep H' r v'->Q v' H')
theorem zLZ (F:Fun K "grown_tree" "grown_tree" zCg f fd) (z_reversed:mg "reversed" = none) (zOc:FnB P w K mg base k "grown_level" g1 gd1 ["heads", "ready"] zHv):FnOk P w K mg base CX0 (k+1) f fd ["levels"] zHx:=by
 refine F.ok zBg (λ vs H Q E h=>?_) (λ cdv A outer s H vs Q E hr h=>?_)
 ·obtain⟨L,lvs,Lr,r,rfl,_⟩:=h
  rfl
 obtain⟨L,lvs,Lr,r,rfl,eL,pL,hfit,hgrow,hz,q⟩:=h
 refine⟨_,(zAE (pS (i:=1) zBg.nd (zAv zAD:PE _ _ _))
  (zAE (zAt PassesOwn.never rfl (zJj (by rfl) z_reversed (zAA (pv 0) zAD)) (pGn (i:=2) zBg.nd) (zAG (pS (i:=1) zBg.nd (pe_cl zOc hr (zAA (pv 2) (zAA (pv 1) zAD))))))
  (zAG (zAX (iC (r:=rIxL K) zAg (pv 1)))))),?_⟩
 have ll:lvs.length=Lr.length:=by rw[zAH pL,List.length_reverse]
 refine⟨(by show 0<=sizeLine;decide),λ rl0 hrl0=>?_⟩;have g0:=zAC (o:=.lst []) hrl0;refine⟨_,rfl,L,rfl,lvs,SqL.of (g0 _ _ eL),?_⟩;refine zIU (xs:=lvs) (λ i σ' H'=>E4 λ(rl:Addr) (rvs:List V) (R:List Tr) (s2:Option V)=>A6 (σ'=[some (.ref L),some (.ref rl),s2]) (Same H H') (H' rl=some (.lst rvs)) (Paired (Rep H') R rvs) (Fit (Lr.drop i) R.length) (zF2 (Lr.drop i) R=[r])) ?_ ?_ ?_ ?_
 ·exact⟨rl0,[],[],none,rfl,g0,zAB,.nil,hfit,hgrow⟩
 ·rintro i σ1 H1 _ ⟨rl,rvs,R,s2,rfl,g1,er,pR,hf,hg⟩
  exact SqL.of (g1 _ _ eL)
 ·rintro i x σ1 H1 hi hx ⟨rl,rvs,R,s2,rfl,g1,er,pR,hf,hg⟩
  obtain⟨hs,ehs,l,us,rfl,el,pl⟩:=zE7 pL hi hx;have hlt:i<Lr.length:=by omega
  have ed:Lr.drop i=hs::Lr.drop (i+1):=by
   rw[List.drop_eq_getElem_cons hlt];have:=(lJ.mp ehs).2;rw[this]
  rw[ed] at hf hg;obtain⟨hf1,hf2⟩:=hf;refine⟨_,rfl,_,rfl,l,rl,us,rvs,hs,R,rfl,g1 _ _ el,er,Paired.mapP pl (λ Ω Ω z=>z.mono g1.tk),pR,hf1.symm,hz hs (lM ehs),λ l2 us2 H2 g2 Ω e2 p2=>?_⟩;refine⟨l2,us2,growL hs R,_,rfl,g1.trans g2,e2,p2,by rw[zEv];exact hf2,hg⟩
 ·rintro σ1 H1 ⟨rl,rvs,R,s2,rfl,g1,er,pR,hf,hg⟩
  rw[ll,List.drop_length] at hg;have hg':R=[r]:=hg;subst hg';cases pR with
  |cons r1 pR =>
   cases pR;exact⟨_,rfl,rl,_,0,_,rfl,rfl,SqL.of er,rfl,q _ H1 g1 r1⟩
abbrev zEO:Stmt:=top 32
theorem zA0:zAV ["tree", "leaves", "used", "levels", "level", "heads", "deeper", "part", "told", "name"] ["tree", "leaves"] (zAN zEO):=scI
def zDo:Sp:=λ vs H Q Ω=>E7 λ(t:Tr) (v:V) (d:Addr) (kvs:List (Key × V)) (τ:Told) (W:List Str) (Gp:Str->Prop)=>A14 (vs=[v,.ref d]) (Rep H t v) (t.size<=60) (H d=some (.dK kvs)) (Lv H τ kvs) (kvs.length<=100) (W.length<64) (∀x∈t.wrds,x∈W) (∀p∈kvs,∀y,AtRep H (.name y) p.2->y∈W) (t.good GW) (∀x a,τ x=some a->a.good GW) (∀x∈t.wrds,Gp x) (∀z y,τ z=some (.name y)->Gp y) (Nc Gp ⟨t,τ,[],[]⟩/\∀(r:Tr) (v':V) (H':Hp),Same H H'->Rep H' r v'->DnW Gp τ ⟨t,τ,[],[]⟩ r->Q v' H')
theorem zIu (F:Fun K "renamed" "renamed" zEO f fd) (zOd:FnB P w K mg base k "words_used" g1 gd1 ["tree", "leaves"] zCH) (zOe:FnB P w K mg base k "let_name" g2 gd2 ["let", "leaves", "used"] zEJ)
  (zOf:FnB P w K mg base k "leaves_within" g3 gd3 ["let", "name", "leaves"] zGQ) (zOg:FnB P w K mg base k "put_head" g4 gd4 ["part", "leaves"] zEH) (zOK:FnB P w K mg base k "parts" g5 gd5 ["tree"] zB0) (zOh:FnB P w K mg base k "grown_tree" g6 gd6 ["levels"] zHx) :
  FnOk P w K mg base CX0 (k+1) f fd ["tree", "leaves"] zDo:=by
 refine F.ok zA0 (λ vs H Q E h=>?_) (λ cdv A outer s H vs Q E hr h=>?_)
 ·obtain⟨t,v,d,kvs,τ,W,Gp,rfl,_⟩:=h
  rfl
 obtain⟨t,v,d0,kvs0,τ0,W,Gp,rfl,hR,hsz,hd0,hv0,hkl,hW,htW,hdW,htG,hτG,htw,hτw,htN,q⟩:=h;have hu:=hu_of hr
 refine⟨_,(zAE (pS (i:=2) zA0.nd (pe_cl zOd hr (zAA (pv 0) (zAA (pv 1) zAD))))
  (zAE (pS (i:=3) zA0.nd (zAv zAD:PE _ _ _))
  (zAE (pS (i:=4) zA0.nd (zAv (zAA (zAh (zAA (pv 0) (zAA (pv 1) zAD)):PE _ _ _) zAD):PE _ _ _))
  (zAE (zC2 PassesOwn.never (zC0 (pv 4) (λ Ω=>rfl)) (zAE (pS (i:=5) zA0.nd (zAv zAD:PE _ _ _))
  (zAE (pS (i:=6) zA0.nd (zAv zAD:PE _ _ _))
  (zAE (zAt PassesOwn.never rfl (zAz (pv 4)) (zCl rfl (zAc (pGn (i:=7) zA0.nd) (zAc (zA5 (i:=8) zA0.nd rfl (Or.inr rfl)) zBe))) (zAG (ps_if (zAP op_eq (iC (r:=rIxT K) zAS (pv 7)) zAT (zAZ _)) (zAE (pS (i:=9) zA0.nd (pe_cl zOe hr (zAA (pv 7) (zAA (pv 8) (zAA (pv 2) zAD)))))
  (zAE (zBd hu (pv 2) (pv 9) pe_bl rfl)
  (zAE (pAp (pv 5) (zAh (zAA zAT (zAA (pv 9) (zAA (iC (r:=rIxT K) zAS (pv 7)) (zAA (iC (r:=rIxT K) zAS (pv 7)) zAD)))):PE _ _ _))
  (zAE (pAp (pv 6) (zAh (zAA (iC (r:=rIxT K) zAS (pv 7)) (zAA (pv 8) zAD)):PE _ _ _))
  (zAG (pAp (pv 6) (zAh (zAA (iC (r:=rIxT K) zAS (pv 7)) (zAA (pe_cl zOf hr (zAA (pv 7) (zAA (pv 9) (zAA (pv 8) zAD)))) zAD)):PE _ _ _))))))) (zAE (pAp (pv 5) (pe_cl zOg hr (zAA (pv 7) (zAA (pv 8) zAD))))
  (zAG (zCk (pe_bm rR rW rX zDa (pv 6) (zAA (zBS ["inner", "told"] [none,some 8] rfl (zDV (pe_cl zOK hr (zAA (pv 7) zAD))) (λ Ω Ω Ω Ω Ω=>(zA5 (i:=0) (show List.Nodup (["inner", "told"]:List Str) by left) rfl (Or.inl rfl))) (λ Ω Ω Ω Ω Ω=>zCi) (λ Ω Ω Ω Ω Ω=>(zAh (zAA (pv 0) (zAA (pv 1) zAD)):PE _ _ _)) rfl) zAD))))))))
  (zAE (pAp (pv 3) (pv 5))
  (zAG (pS (i:=4) zA0.nd (pv 6))))))))
  (zAG (zAX (pe_cl zOh hr (zAA (pv 3) zAD)))))))),?_⟩
 refine⟨_,rfl,_,rfl,t,v,d0,kvs0,τ0,W,rfl,hR,by omega,hd0,hv0,by omega,htW,hdW,λ U ks0 H1 g1 hU eU nd0 hw0 ht0 hkW=>?_⟩;refine⟨(by show 0<=sizeLine;decide),λ lv hlv=>?_⟩;have g2:=zAC (o:=.lst []) hlv;refine⟨_,rfl,_,rfl,(by show 2<=sizeLine;decide),λ tp htp=>⟨(by show 1<=sizeLine;decide),λ le hle=>?_⟩⟩;have g3:=zAC (o:=.tup [v,.ref d0]) htp;have g4:=zAC (o:=.lst [.ref tp]) hle;have gA:=g1.trans (g2.trans (g3.trans g4));have hlvH:H lv=none:=g1.free hlv;have nUd:d0≠U:=zAJ hd0 hU;have nUlv:U≠lv:=zAJ eU hlv;have l0:ks0.length<=W.length:=zBD nd0 hkW
 refine⟨(λ m σ' Hw=>E11 λ(le:Addr) (lev lvs:List V) (items:List Itm) (Lr:List (List Tr)) (ks:List Str) (s5 s6 s7 s8 s9:Option V)=>A14 (σ'=[some v,some (.ref d0),some (.ref U),some (.ref lv),some (.ref le),s5,s6,s7,s8,s9]) (Same H Hw) (Hw le=some (.lst lev)) (Paired (zFe U Hw) items lev) (Hw U=some (.dK (kvOf ks))) ks.Nodup (Hw lv=some (.lst lvs)) (Paired (LevN lv Hw) Lr.reverse lvs) (∀q∈items,Req τ0 q/\InK ks q/\GdW Gp q/\Nc Gp q/\∀x∈q.t.wrds,x∈W) (ks.length+tot items<=W.length+t.size) (m=tot items) (Fit Lr items.length) (Lr.length+tot items<=t.size) ((∀hs∈Lr,hs.length<=600)/\∀R,All2 (DnW Gp τ0) items R->∃r,zF2 Lr R=[r]/\DnW Gp τ0 ⟨t,τ0,[],[]⟩ r)),
  ⟨t.size,le,_,[],[⟨t,τ0,[],[]⟩],[],ks0,none,none,none,none,none,rfl,gA,zAB,.cons ⟨tp,v,d0,kvs0,rfl,g4 _ _ zAB,hR.mono gA.tk,nUd,gA _ _ hd0,hv0.mono gA.tk,by show _+t.size<=450;omega⟩ .nil,(g2.trans (g3.trans g4)) _ _ eU,nd0,(g3.trans g4) _ _ zAB,.nil,?_,?_,?_,rfl,?_,by simp,?_⟩,?_⟩
 ·intro q hq
  have e:=mR.mp hq;subst e;refine⟨λ x hx=>?_,⟨hw0,ht0⟩,⟨⟨htG,hτG⟩,htw,hτw⟩,htN,htW⟩;show keyA [] (tOf τ0 x)=keyX τ0 [] x;show _=Sum.inr (tOf τ0 x);cases tOf τ0 x<;>rfl
 ·simp only[tot,mL,List.map_nil,List.sum_cons,List.sum_nil]
  omega
 ·simp[tot]
 ·simp[tot]
 ·intro R hR'
  cases hR' with
  |cons h1 h2=>cases h2;exact⟨_,rfl,h1⟩
 rintro m σ' Hw ⟨le,lev,lvs,items,Lr,ks,s5,s6,s7,s8,s9,rfl,gw,ele,pI,eUw,ndk,elv,pL,hall,hbd,rfl,hfit,hcnt,h600,hdn⟩;have lI:lev.length=items.length:=zAH pI;have lT:=zHY items;refine⟨_,rfl,_,.inl ⟨lev,SqL.of ele,rfl⟩,?_⟩;refine ite2 (λ c=>?_) (λ c=>?_)
 ·refine⟨_,λ Ω Ω h=>h,(by show 0<=sizeLine;decide),λ hd hhd=>⟨(by show 0<=sizeLine;decide),λ dp hdp=>?_⟩⟩
  have ga:=zAC (o:=.lst []) hhd;have gb:=zAC (o:=.lst []) hdp;have hdpW:Hw dp=none:=ga.free hdp;have nhd:hd≠dp:=zAJ (zAB (H:=Hw) (a:=hd) (o:=.lst [])) hdp;have nUhd:U≠hd:=zAJ eUw hhd;have nUdp:U≠dp:=zAJ eUw hdpW;refine⟨_,rfl,le,rfl,⟨lev,SqL.of ((ga.trans gb) _ _ ele)⟩,?_⟩;refine zA8 (xs:=lev) (λ i σ' H'=>E8 λ(ks':List Str) (hvs dvs:List V) (hs:List Tr) (ds:List Itm) (s7 s8 s9:Option V)=>A8 (σ'=[some v,some (.ref d0),some (.ref U),some (.ref lv),some (.ref le),some (.ref hd),some (.ref dp),s7,s8,s9]) (Sx U Hw H') (H' U=some (.dK (kvOf ks'))) (H' hd=some (.lst hvs)) (H' dp=some (.lst dvs)) (Paired (Rep H') hs hvs) (Paired (zFe U H') ds dvs) (LvP Gp τ0 W (W.length+t.size) items i ks' hs ds)) ?_ ?_ ?_ ?_
  ·exact⟨ks,[],[],[],[],s7,s8,s9,rfl,.of (ga.trans gb),(ga.trans gb) _ _ eUw,gb _ _ zAB,zAB,.nil,.nil,⟨rfl,rfl,ndk,by simp,λ q hq=>(hall q hq).2.1,by simpa[tot] using hbd,by simp[tot],λ R hR'=>by cases hR';exact .nil⟩⟩
  ·rintro i σ1 H1 _ ⟨ks1,hvs,dvs,hs,ds,s7,s8,s9,rfl,g1,eU1,eh1,ed1,pH1,pD1,B1⟩
   exact SqL.of (g1 _ _ (λ z=>by rw[z,eUw] at ele;cases ele) ele)
  ·rintro i x σ1 H1 hx ⟨ks1,hvs,dvs,hs,ds,s7,s8,s9,rfl,g1,eU1,eh1,ed1,pH1,pD1,B1⟩
   obtain⟨qi,eqi,rqi⟩:=zAW pI hx;have hmem:=lM eqi;obtain⟨hReq,_,hGd,hNc,hqW⟩:=hall qi hmem;have hInK:=B1.rs qi hmem;obtain⟨qt,qτ,qbs,qcs⟩:=qi;obtain⟨a,u,d,kvs,rfl,haw,ruw,ndU,edw,hvw,hkq⟩:=rqi;dsimp only at hqW ruw hvw hkq;have tkw:∀{H':Hp},Sx U Hw H'->Tk Hw H':=λ g=>g.tk2 eUw;have ha:=tkw g1 _ _ haw;have ru:=ruw.mono (tkw g1);have ed:=g1 _ _ ndU edw;have hv:=hvw.mono (tkw g1);have hi:i<items.length:=(lJ.mp eqi).1;have bb:=B1.bd;have bt:=B1.tt;have lh:hvs.length=i:=by rw[zAH pH1,B1.hl]
   have ld:dvs.length=ds.length:=zAH pD1;have lds:=zHY ds;have lks:ks1.length<=400:=by omega
   have qpos:=zCK qt;refine⟨a,_,rfl,SqT.of ha,rfl,_,_,rfl,_,_,rfl,rfl,?_⟩;obtain⟨ap,phs,pws,rfl,hap,phl,php⟩:=id ru.all;have h0:atI (V.str qt.kd.s::phs++pws) 0=some (.str qt.kd.s):=zAY (j:=0) rfl;refine⟨_,rfl,ap,_,0,_,rfl,rfl,SqT.of hap,h0,rfl,_,rfl,?_⟩;refine ite2 (λ c=>?_) (λ c=>?_)
   ·have z:qt.kd = .lett:=Kd.eq_iff.mp (lS c)
    cases qt with
    |lett n ta tb =>
     obtain⟨ap',u2,u3,eap,hapw,r2w,r3w⟩:=ruw;cases eap;have hap1:=tkw g1 _ _ hapw;have szl:(Tr.lett n ta tb).size=ta.size+tb.size+1:=rfl;have fvW:∀x∈tb.fv [],x∈W:=λ x hx=>hqW x (by simp only[Tr.wrds,nN,nM];exact .inr (.inr (zBY tb x hx)));refine⟨_,rfl,_,rfl,_,rfl,n,ta,tb,_,d,U,kvs,qτ,W,ks1,rfl,ru,by omega,ed,hv,by omega,hW,fvW,eU1,by omega,λ mw H2 g2 hmw hgw=>?_⟩;have hGm:GW mw/\Gp mw:=⟨hgw.elim (λ e=>e▸hGd.gd.tr.1) id,zM2 hNc rfl hmw hgw (hGd.ws n (by simp[Tr.wrds]))⟩;have hOk:OkM ks1 ⟨.lett n ta tb,qτ,qbs,qcs⟩ mw:=λ n' a' b' e=>by cases e;exact hmw
     have eU2:=g2 _ _ eU1;refine⟨_,rfl,_,rfl,U,_,rfl,DPut.k (k:=Sum.inr mw) eU2 (zAM (by rw[zIQ];omega)),?_⟩;have s3:Sx U Hw (upd H2 U (.dK (putK (kvOf ks1) (Sum.inr mw:Key) (.bl true)))):=(g1.same g2).own;have q3:Kq U H1 (upd H2 U (.dK (putK (kvOf ks1) (Sum.inr mw:Key) (.bl true)))):=(Kq.of g2).trans (.own eU2);have eU3:(upd H2 U (.dK (putK (kvOf ks1) (Sum.inr mw:Key) (.bl true)))) U=some (.dK (kvOf (addK ks1 mw))):=by rw[zAB,zCT]
     have eh3:(upd H2 U (.dK (putK (kvOf ks1) (Sum.inr mw:Key) (.bl true)))) hd=some (.lst hvs):=by rw[zAK (Ne.symm nUhd)];exact g2 _ _ eh1
     have ed3:(upd H2 U (.dK (putK (kvOf ks1) (Sum.inr mw:Key) (.bl true)))) dp=some (.lst dvs):=by rw[zAK (Ne.symm nUdp)];exact g2 _ _ ed1
     show tSeq _ _ _ _ (upd H2 U (.dK (putK (kvOf ks1) (Sum.inr mw:Key) (.bl true))));generalize upd H2 U _=H3 at s3 q3 eU3 eh3 ed3 ⊢;have hap3:=tkw s3 _ _ hapw;refine⟨_,rfl,.inl ⟨rfl,_,SqL.of eh3⟩,_,rfl,_,rfl,ap,_,2,_,rfl,rfl,SqT.of hap3,rfl,_,rfl,ap,_,3,_,rfl,rfl,SqT.of hap3,rfl,(by show 4<=sizeLine;decide),λ tl htl=>?_⟩;have g4:=zAC (o:=.tup [.str "let", .str mw,u2,u3]) htl;refine⟨hd,hvs,_,rfl,rfl,g4 _ _ eh3,zAM (by omega),?_⟩;have s5:Sx U Hw (upd (upd H3 tl (.tup [.str "let", .str mw,u2,u3])) hd (.lst (hvs++[.ref tl]))):=(s3.same g4).set hhd;have q5:Kq U H1 (upd (upd H3 tl (.tup [.str "let", .str mw,u2,u3])) hd (.lst (hvs++[.ref tl]))):=q3.trans ((Kq.of g4).trans (.lst (g4 _ _ eh3)));have eU5:(upd (upd H3 tl (.tup [.str "let", .str mw,u2,u3])) hd (.lst (hvs++[.ref tl]))) U=some (.dK (kvOf (addK ks1 mw))):=by rw[zAK nUhd];exact g4 _ _ eU3
     have eh5:=@zAB (upd H3 tl (.tup [.str "let", .str mw,u2,u3])) hd (.lst (hvs++[.ref tl]));have ed5:(upd (upd H3 tl (.tup [.str "let", .str mw,u2,u3])) hd (.lst (hvs++[.ref tl]))) dp=some (.lst dvs):=by rw[zAK (Ne.symm nhd)];exact g4 _ _ ed3
     have et5:(upd (upd H3 tl (.tup [.str "let", .str mw,u2,u3])) hd (.lst (hvs++[.ref tl]))) tl=some (.tup [.str "let", .str mw,u2,u3]):=Tk.lst (g4 _ _ eh3) _ _ zAB;show tSeq _ _ _ _ (upd (upd H3 tl (.tup [.str "let", .str mw,u2,u3])) hd (.lst (hvs++[.ref tl])));generalize upd (upd H3 tl _) hd _=H5 at s5 q5 eU5 eh5 ed5 et5 ⊢;have hap5:=tkw s5 _ _ hapw;refine⟨_,rfl,.inl ⟨rfl,_,SqL.of ed5⟩,_,rfl,ap,_,2,_,rfl,rfl,SqT.of hap5,rfl,_,rfl,(by show 2<=sizeLine;decide),λ t6 ht6=>?_⟩;have g6:=zAC (o:=.tup [u2,.ref d]) ht6;refine⟨dp,dvs,_,rfl,rfl,g6 _ _ ed5,zAM (by omega),?_⟩;have s7:Sx U Hw (upd (upd H5 t6 (.tup [u2,.ref d])) dp (.lst (dvs++[.ref t6]))):=(s5.same g6).set hdpW;have q57:Kq U H5 (upd (upd H5 t6 (.tup [u2,.ref d])) dp (.lst (dvs++[.ref t6]))):=(Kq.of g6).trans (.lst (g6 _ _ ed5));have eU7:(upd (upd H5 t6 (.tup [u2,.ref d])) dp (.lst (dvs++[.ref t6]))) U=some (.dK (kvOf (addK ks1 mw))):=by rw[zAK nUdp];exact g6 _ _ eU5
     have eh7:(upd (upd H5 t6 (.tup [u2,.ref d])) dp (.lst (dvs++[.ref t6]))) hd=some (.lst (hvs++[.ref tl])):=by rw[zAK nhd];exact g6 _ _ eh5
     have ed7:=@zAB (upd H5 t6 (.tup [u2,.ref d])) dp (.lst (dvs++[.ref t6]));have et7:(upd (upd H5 t6 (.tup [u2,.ref d])) dp (.lst (dvs++[.ref t6]))) t6=some (.tup [u2,.ref d]):=Tk.lst (g6 _ _ ed5) _ _ zAB;show tSeq _ _ _ _ (upd (upd H5 t6 (.tup [u2,.ref d])) dp (.lst (dvs++[.ref t6])));generalize upd (upd H5 t6 _) dp _=H7 at s7 q57 eU7 eh7 ed7 et7 ⊢;have hap7:=tkw s7 _ _ hapw;refine⟨_,rfl,.inl ⟨rfl,_,SqL.of ed7⟩,_,rfl,ap,_,3,_,rfl,rfl,SqT.of hap7,rfl,_,rfl,_,rfl,_,rfl,n,mw,ta,tb,_,d,kvs,qτ,rfl,⟨ap,u2,u3,rfl,hap7,r2w.mono (tkw s7),r3w.mono (tkw s7)⟩,s7 _ _ ndU edw,hvw.mono (tkw s7),by omega,λ d' kvs' H8 g8 hd' ed' hv' hkl'=>⟨(by show 2<=sizeLine;decide),λ t9 ht9=>?_⟩⟩;have g9:=zAC (o:=.tup [u3,.ref d']) ht9;have g79:=g8.trans g9;refine⟨dp,_,_,rfl,rfl,g79 _ _ ed7,zAM (by rw[mK];simp;omega),?_⟩;have sE:Sx U Hw (upd (upd H8 t9 (.tup [u3,.ref d'])) dp (.lst (dvs++[.ref t6]++[.ref t9]))):=(s7.same g79).set hdpW;have qE:Kq U H7 (upd (upd H8 t9 (.tup [u3,.ref d'])) dp (.lst (dvs++[.ref t6]++[.ref t9]))):=(Kq.of g79).trans (.lst (g79 _ _ ed7));have ndU':d'≠U:=λ z=>by rw[z,eU7] at hd';cases hd'
     have edE:(upd (upd H8 t9 (.tup [u3,.ref d'])) dp (.lst (dvs++[.ref t6]++[.ref t9]))) d'=some (.dK kvs'):=by
      have e1:=g9 _ _ ed'
      rw[zAK (λ z=>by
       subst z;have:=g8 _ _ ed7;rw[ed'] at this;cases this)]
      exact e1
     have etE:(upd (upd H8 t9 (.tup [u3,.ref d'])) dp (.lst (dvs++[.ref t6]++[.ref t9]))) t9=some (.tup [u3,.ref d']):=Tk.lst (g79 _ _ ed7) _ _ zAB;have tkE8:Tk H8 (upd (upd H8 t9 (.tup [u3,.ref d'])) dp (.lst (dvs++[.ref t6]++[.ref t9]))):=g9.tk.trans (Tk.lst (g79 _ _ ed7));have nx:=B1.next eqi hReq hGd hqW hOk (λ Ω Ω Ω Ω=>hGm) (zM1 hNc rfl hmw) (λ x hx=>zAf.mpr (.inl hx)) (zBZ B1.nd) (zLk ks1 mw) (zLp hInK);have q1E:=q5.trans (q57.trans qE);refine⟨addK ks1 mw,hvs++[.ref tl],dvs++[.ref t6]++[.ref t9],hs++[.lett mw ta tb],_,_,_,_,rfl,sE,by rw[zAK nUdp];exact g79 _ _ eU7,by rw[zAK nhd];exact g79 _ _ eh7,zAB,?_,?_,nx⟩
     ·refine zAO (Paired.mapP pH1 λ Ω Ω z=>z.mono q1E.tk) (.cons ?_ .nil)
      exact⟨tl,u2,u3,rfl,(q57.trans qE).tk _ _ et5,r2w.mono (tkw sE),r3w.mono (tkw sE)⟩
     ·have e2:ds++kidsI ⟨.lett n ta tb,qτ,qbs,qcs⟩ mw=ds++[⟨ta,qτ,qbs,qcs⟩]++[⟨tb,setT qτ n (.name mw),qbs++[n],qcs++[mw]⟩]:=by simp[kidsI]
      rw[e2];refine zAO (zAO (Paired.mapP pD1 λ Ω Ω z=>z.kq q1E) (.cons ?_ .nil)) (.cons ?_ .nil)
      ·exact⟨t6,u2,d,kvs,rfl,qE.tk _ _ et7,r2w.mono (tkw sE),ndU,sE _ _ ndU edw,hvw.mono (tkw sE),by show _+ta.size<=450;omega⟩
      ·exact⟨t9,u3,d',kvs',rfl,etE,r3w.mono (tkw sE),ndU',edE,hv'.mono tkE8,by show _+tb.size<=450;omega⟩
    |bin o a b=>cases o<;>cases z
    |_=>cases z
   ·have nz:qt.kd ≠ .lett:=λ z=>c (lU (Kd.eq_iff.mpr z))
    have ehd:headI ⟨qt,qτ,qbs,qcs⟩ "a" = headT qτ qt:=by
     cases qt with
     |lett _ _ _=>exact absurd rfl nz
     |_=>rfl
    have ekd:kidsI ⟨qt,qτ,qbs,qcs⟩ "a" = qt.parts.map λ p=>(⟨p,qτ,qbs,qcs⟩:Itm):=by
     cases qt with
     |lett _ _ _=>exact absurd rfl nz
     |_=>rfl
    have nolet:∀n a b,qt ≠ .lett n a b:=λ n a b e=>nz (by rw[e];rfl);have nx:=B1.next (m := "a") eqi hReq hGd hqW (λ n a b e=>absurd e (nolet n a b)) (λ n a b e=>absurd e (nolet n a b)) (zM0 nz hNc) (λ x hx=>hx) B1.nd (Nat.le_succ _) (zLo nz hInK);rw[ehd,ekd] at nx;refine⟨_,rfl,.inl ⟨rfl,_,SqL.of eh1⟩,_,rfl,_,rfl,qt,_,d,kvs,qτ,rfl,ru,ed,hv,λ v' H2 g2 r2=>⟨hd,hvs,v',rfl,rfl,g2 _ _ eh1,zAM (by omega),?_⟩⟩;have s3:Sx U Hw (upd H2 hd (.lst (hvs++[v']))):=(g1.same g2).set hhd;have q23:Kq U H2 (upd H2 hd (.lst (hvs++[v']))):=.lst (g2 _ _ eh1);have eU3:(upd H2 hd (.lst (hvs++[v']))) U=some (.dK (kvOf ks1)):=by rw[zAK nUhd];exact g2 _ _ eU1
    have eh3:=@zAB H2 hd (.lst (hvs++[v']));have ed3:(upd H2 hd (.lst (hvs++[v']))) dp=some (.lst dvs):=by rw[zAK (Ne.symm nhd)];exact g2 _ _ ed1
    refine⟨_,rfl,.inl ⟨rfl,_,SqL.of ed3⟩,_,rfl,qt,_,rfl,ruw.mono (tkw s3),λ pt H4 us g4 ept pus=>⟨pt,rfl,⟨us,SqT.of ept⟩,λ acc hacc=>?_⟩⟩;have lus:us.length=qt.parts.length:=zAH pus;have p3:=zGc qt;have ed4:=(s3.same g4) _ _ ndU edw;have hv4:=hvw.mono (tkw (s3.same g4));have eU4:=g4 _ _ eU3;refine zDh (xs:=us) (λ j H'=>Same H4 H'/\∃zs,H' acc=some (.lst zs)/\Paired (zFe U H') ((qt.parts.take j).map λ p=>(⟨p,qτ,qbs,qcs⟩:Itm)) zs) ⟨zAC hacc,[],zAB,by rw[List.take_zero];exact .nil⟩ (λ j H' Ω h=>SqT.of (h.1 _ _ ept)) ?_ ?_
    ·rintro j x Hx hx ⟨gx,zs,ezs,hzs⟩
     obtain⟨p,ep,rp⟩:=zAW pus hx;have hj:j<us.length:=(lJ.mp hx).1;have lz:=zAH hzs;rw[lC,mO] at lz;have psz:=zCo (lM ep);refine⟨.skip (.keep .nil),?_⟩;refine⟨_,rfl,_,rfl,(by show 2<=sizeLine;decide),λ t5 ht5=>?_⟩;have g5:=zAC (o:=.tup [x,.ref d]) ht5;have q5:Kq U Hx (upd (upd Hx t5 (.tup [x,.ref d])) acc (.lst (zs++[.ref t5]))):=(Kq.of g5).trans (.lst (g5 _ _ ezs));refine⟨zs,g5 _ _ ezs,zAM (by omega),zAQ (gx.trans g5) hacc,_,zAB,?_⟩;rw[zAR ep,mQ];refine zAO (Paired.mapP hzs λ Ω Ω z=>z.kq q5) (.cons ?_ .nil);refine⟨t5,x,d,kvs,rfl,Tk.lst (g5 _ _ ezs) _ _ zAB,rp.mono (gx.tk.trans q5.tk),ndU,q5.dk _ _ ndU (gx _ _ ed4),hv4.mono (gx.tk.trans q5.tk),?_⟩;show _+p.size<=450;omega
    ·rintro Hx ⟨gx,zs,ezs,hzs⟩
     rw[lus,mP] at hzs;have lz:=zAH hzs;rw[lC] at lz;have edx:=(g4.trans gx) _ _ ed3;refine⟨dp,acc,dvs,zs,rfl,rfl,edx,ezs,zAm (by omega),?_⟩;have sE:Sx U Hw (upd Hx dp (.lst (dvs++zs))):=(s3.same (g4.trans gx)).set hdpW;have qE:Kq U Hx (upd Hx dp (.lst (dvs++zs))):=.lst edx;have q1E:Kq U H1 (upd Hx dp (.lst (dvs++zs))):=(Kq.of g2).trans (q23.trans ((Kq.of (g4.trans gx)).trans qE));refine⟨ks1,hvs++[v'],dvs++zs,hs++[headT qτ qt],_,_,_,_,rfl,sE,by rw[zAK nUdp];exact(g4.trans gx) _ _ eU3,by rw[zAK nhd];exact(g4.trans gx) _ _ eh3,zAB,?_,?_,nx⟩
     ·exact zAO (Paired.mapP pH1 λ Ω Ω z=>z.mono q1E.tk) (.cons (r2.mono (q23.trans ((Kq.of (g4.trans gx)).trans qE)).tk) .nil)
     ·exact zAO (Paired.mapP pD1 λ Ω Ω z=>z.kq q1E) (Paired.mapP hzs λ Ω Ω z=>z.kq qE)
  ·rintro σ1 H1 ⟨ks1,hvs,dvs,hs,ds,s7',s8',s9',rfl,g1,eU1,eh1,ed1,pH1,pD1,B1⟩
   rw[lI] at B1;have nlU:lv≠U:=Ne.symm nUlv;have elv1:=g1 _ _ nlU elv;have llv:lvs.length=Lr.length:=by rw[zAH pL,List.length_reverse]
   have nhl:hd≠lv:=Ne.symm (zAJ elv hhd);have bb:=B1.bd;have bt:=B1.tt;rw[List.drop_length] at bb;rw[mP] at bt
   have pos:0<items.length:=by
    rw[←lI];cases lev with
    |nil=>simp at c
    |cons _ _=>simp
   refine⟨_,rfl,.inl ⟨rfl,_,SqL.of elv1⟩,_,rfl,lv,lvs,_,rfl,rfl,elv1,zAM (by omega),?_⟩;have gS:Same H H1:=λ b u e=>g1 b u (zAJ e hU) (gw b u e);have kL:Kq U H1 (upd H1 lv (.lst (lvs++[.ref hd]))):=.lst elv1;have tkL:Tk Hw (upd H1 lv (.lst (lvs++[.ref hd]))):=(g1.tk2 eUw).trans kL.tk;refine⟨_,rfl,tot ds,by omega,dp,dvs,lvs++[.ref hd],ds,hs::Lr,ks1,_,_,_,_,_,rfl,zAQ gS hlvH,?_,Paired.mapP pD1 (λ Ω Ω z=>z.kq kL),by rw[zAK nUlv];exact eU1,B1.nd,zAB,?_,B1.it,?_,rfl,⟨B1.np,by rw[B1.hl];exact hfit⟩,?_,?_,λ R hR'=>hdn (growL hs R) ?_⟩
   ·rw[zAK (λ z=>by
     have:hd≠dp:=nhd;rw[z] at ed1 hdpW;rw[elv] at hdpW;cases hdpW)]
    exact ed1
   ·rw[List.reverse_cons]
    refine zAO (Paired.mapP pL λ Ω Ω z=>z.mono tkL λ b us n e=>?_) (.cons ⟨hd,hvs,rfl,nhl,by rw[zAK nhl];exact eh1,Paired.mapP pH1 λ Ω Ω z=>z.mono kL.tk⟩ .nil);rw[zAK n];exact g1 _ _ (λ z=>by rw[z,eUw] at e;cases e) e
   ·have e0:tot []=0:=rfl
    rw[e0] at bb;omega
   ·rw[mM]
    omega
   ·intro hs' hh
    rcases lN.mp hh with e|e
    ·rw[e,B1.hl]
     omega
    ·exact h600 hs' e
   ·have:=B1.dn R hR'
    rw[mP] at this;exact this
 ·have e0:lev=[]:=by
   cases lev with
   |nil=>rfl
   |cons _ _=>simp at c
  have eI:items=[]:=by
   subst e0;cases items with
   |nil=>rfl
   |cons _ _=>simp at lI
  subst eI;obtain⟨r,hg,hD⟩:=hdn [] .nil;refine⟨_,rfl,lv,lvs,Lr,r,rfl,elv,Paired.mapP pL (λ _ _ ⟨l,us,e,_,h,p⟩=>⟨l,us,e,h,p⟩),hfit,hg,h600,λ v' H' g rv=>q r v' H' (gw.trans g) rv hD⟩
abbrev zCO:Stmt:=top 38
theorem zE5:zAV ["piece"] ["piece"] (zAN zCO):=scI
abbrev zCL:Stmt:=top 39
theorem zE3:zAV ["let", "filling"] ["let", "filling"] (zAN zCL):=scI
def zHu:Sp:=λ vs H Q Ω=>E6 λ(p nt:Addr) (u:V) (ns W:List Str) (t:Tr)=>A8 (vs=[.ref p]) (H p=some (.tup [.ref nt,u])) (H nt=some (.tup (ns.map V.str))) (Rep H t u) (t.size<=60) (W.length<64) (∀x∈t.fv [],x∈W) (∀(l:Addr) (xs:List Str) (H':Hp),Same H H'->H' l=some (.lst (xs.map V.str))->(∀x,x∈xs↔x∈t.fv []/\x∉ns)->Q (.ref l) H')
theorem zLV (F:Fun K "outer_names" "outer_names" zCO f fd) (zOY:FnB P w K mg base k "free_names" g1 gd1 ["tree"] zCI):FnOk P w K mg base CX0 (k+1) f fd ["piece"] zHu:=by
 refine F.ok zE5 (λ vs H Q E h=>?_) (λ cdv A outer s H vs Q E hr h=>?_)
 ·obtain⟨p,nt,u,ns,W,t,rfl,_⟩:=h
  rfl
 obtain⟨p,nt,u,ns,W,t,rfl,hp,hn,ru,hsz,hW,hfv,q⟩:=h;refine⟨_,(zAG (zAX (zBS ["name", "piece"] [none,some 0] rfl (zAz (pe_cl zOY hr (zAA (iC (r:=rIxT K) zAS (pv 0)) zAD))) (λ Ω Ω Ω Ω Ω=>(zA5 (i:=0) (show List.Nodup (["name", "piece"]:List Str) by left) rfl (Or.inl rfl))) (λ Ω Ω Ω Ω Ω=>(zEV (zAP (r:=rIn K true) zB2 (pv 0) (iC (r:=rIxT K) zAS (pv 1)) rfl))) (λ Ω Ω Ω Ω Ω=>(pv 0)) rfl))),?_⟩;refine⟨_,rfl,p,_,1,_,rfl,rfl,SqT.of hp,rfl,t,u,W,rfl,ru,by omega,hW,hfv,λ l H1 ss g1 hl el nd Ω mem=>⟨l,rfl,⟨_,SqL.of el⟩,λ acc hacc=>?_⟩⟩
 have lss:ss.length<=64:=by
  have:=zBD nd (λ x hx=>hfv x ((mem x).mp hx));omega
 refine zBp (xs:=ss.map V.str) (λ i H'=>Same H1 H'/\H' acc=some (.lst (((ss.take i).filter λ x=>decide (x∉ns)).map V.str))) ⟨zAC hacc,zAB⟩ (λ i H' Ω h=>SqL.of (h.1 _ _ el)) ?_ ?_
 ·rintro i x Hx hx ⟨gx,ex⟩
  rw[mI] at hx;obtain⟨y,hy,rfl⟩:=lV.mp hx;have hi:i<ss.length:=(lJ.mp hy).1;have g1x:=g1.trans gx
  have lf:((ss.take i).filter λ x=>decide (x∉ns)).length<=i:=by
   have:=List.length_filter_le (λ x=>decide (x∉ns)) (ss.take i);rw[mO] at this;omega
  refine⟨.skip (.keep .nil),_,rfl,_,rfl,p,_,0,_,rfl,rfl,SqT.of (g1x _ _ hp),rfl,nt,_,rfl,.inr (SqT.of (g1x _ _ hn)),rfl,zF5 ns,_,rfl,ite2 (λ c=>?_) (λ c=>?_)⟩
  ·have hy2:y∉ns:=λ z=>by
    have c':(!inV (.str y) (ns.map V.str))=true:=c;rw[zC5,decide_eq_true z] at c';cases c'
   refine⟨_,rfl,_,ex,zAM (by rw[lC];omega),zAQ gx hacc,?_⟩;rw[zAB,zAR hy,List.filter_append,List.filter_cons_of_pos (by simpa using hy2),mQ];rfl
  ·have hy2:y∈ns:=by
    by_cases z:y∈ns
    ·exact z
    ·refine absurd ?_ c
     show (!inV (.str y) (ns.map V.str))=true;rw[zC5,decide_eq_false z];rfl
   refine⟨gx,?_⟩;rw[zAR hy,List.filter_append,List.filter_cons_of_neg (by simpa using hy2),List.filter_nil,nR];exact ex
 ·rintro H2 ⟨g2,e2⟩
  rw[lC,mP] at e2;exact q acc _ H2 (g1.trans g2) e2 λ x=>by rw[List.mem_filter,mem];simp
def zGR:Sp:=λ vs H Q Ω=>E8 λ(x:Str) (a b:Tr) (v:V) (d:Addr) (kvs:List (Key × V)) (φ:Str->Option Pce) (W:List Str)=>A10 (vs=[v,.ref d]) (Rep H (.lett x a b) v) (b.size<=60) (∀p∈b.subs,(cnt1 p).length<=10) (H d=some (.dK kvs)) (FlD H φ kvs) (∀g∈(gcnt b).map (·.1),φ g≠none) (W.length<64) (∀g q,φ g=some q->q.2.size<=60/\∀z∈q.2.fv [],z∈W) (∀(c:Bool) (H':Hp),Same H H'->(c=true↔∃g∈(gcnt b).map (·.1),Outr φ g x)->Q (.bl c) H')
theorem zJt (F:Fun K "would_catch" "would_catch" zCL f fd) (z_any:mg "any" = none) (zOi:FnB P w K mg base k "gaps_of" g1 gd1 ["shape"] zDR) (zOj:FnB P w K mg base k "outer_names" g2 gd2 ["piece"] zHu):FnOk P w K mg base CX0 (k+1) f fd ["let", "filling"] zGR:=by
 refine F.ok zE3 (λ vs H Q E h=>?_) (λ cdv A outer s H vs Q E hr h=>?_)
 ·obtain⟨x,a,b,v,d,kvs,φ,W,rfl,_⟩:=h
  rfl
 obtain⟨x,a,b,v,d,kvs,φ,W,rfl,⟨p,ua,ub,rfl,hp,ra,rb⟩,hsz,hct,hd,hF,hin,hW,hpz,q⟩:=h;have hu:=hu_of hr;refine⟨_,(zAG (zAX (zBb (zGv rfl) (by rfl) z_any PyProof.Rows.boot_any (zAA (zBS ["gap", "let", "filling"] [none,some 0,some 1] rfl (zFt (pe_cl zOi hr (zAA (iC (r:=rIxT K) zAS (pv 0)) zAD))) (λ Ω Ω Ω Ω Ω=>(zA5 (i:=0) (show List.Nodup (["gap", "let", "filling"]:List Str) by left) rfl (Or.inl rfl))) (λ Ω Ω Ω Ω Ω=>zCi) (λ Ω Ω Ω Ω Ω=>(zCm (r:=rIn K false) zCp (iC (r:=rIxT K) zAS (pv 1)) (pe_cl zOj hr (zAA (zDJ hu (pv 2) (pv 0) (λ Ω Ω=>rfl)) zAD)) rfl)) rfl) zAD)))),?_⟩;refine⟨_,rfl,p,_,3,_,rfl,rfl,SqT.of hp,rfl,b,ub,rfl,rb,hsz,hct,λ gd gk H1 g1 hgd egd fd1 lgd=>⟨gd,gk,rfl,.inr ⟨egd,λ o acc hacc=>?_⟩⟩⟩;have gF:Same H (upd H1 gd (.frz o (.dK gk))):=zAQ g1 hgd;have egF:=@zAB H1 gd (.frz o (.dK gk));generalize upd H1 gd _=H2 at gF egF hacc ⊢;refine zFV (o:=o) (a:=gd) (kvs:=gk) (λ i H'=>Same H2 H'/\∃bs:List Bool,H' acc=some (.lst (bs.map V.bl))/\bs.length=i/\(bs.any id=true↔∃e∈gk.take i,∃g,e.1=(Sum.inr g:Key)/\Outr φ g x)) ⟨zAC hacc,[],zAB,rfl,by simp⟩ (λ i H' Ω h=>h.1 _ _ egF) ?_ ?_
 ·rintro i e Hx he ⟨gx,bs,ex,lb,hb⟩
  obtain⟨g,hg,eg⟩:=fd1.ky e (lM he);have ek:kV e.1 = .str g:=by rw[eg];rfl
  rw[ek];have gx0:=gF.trans gx;obtain⟨pc,epc⟩:=nC.mp (hin g hg);obtain⟨pa,nt,u,hv,hpa,hnt,ru⟩:=(hF.mono gx0.tk).get epc;obtain⟨z1,z2⟩:=hpz g pc epc;have dg:DGet Hx d (.str g) (some (.ref pa)):=hv▸DGet.k (k:=Sum.inr g) (gx0 _ _ hd);have hi:i<gk.length:=(lJ.mp he).1;refine⟨.skip (.keep (.keep .nil)),_,rfl,p,_,1,_,rfl,rfl,SqT.of (gx0 _ _ hp),rfl,_,rfl,_,rfl,d,_,rfl,dg,pa,nt,u,pc.1,W,pc.2,rfl,hpa,hnt,ru,z1,hW,z2,λ l xs H3 g3 el hx=>⟨l,_,rfl,.inl (SqL.of el),rfl,zF5 xs,?_⟩⟩;refine⟨_,g3 _ _ ex,zAM (by rw[lC];omega),zAQ (gx.trans g3) hacc,bs++[decide (x∈xs)],?_,by simp[lb],?_⟩
  ·rw[zAB,mQ]
   show some (HO.lst (_++[V.bl (inV (V.str x) (xs.map V.str))]))=_;rw[zC5];rfl
  ·rw[List.any_append,Bool.or_eq_true,hb,zAR he]
   have o1:Outr φ g x↔x∈xs:=by
    rw[hx];constructor
    ·rintro⟨ns,u',e1,e2,e3⟩
     rw[epc] at e1;cases e1;exact⟨e2,e3⟩
    ·rintro⟨e2,e3⟩
     exact⟨pc.1,pc.2,epc,e2,e3⟩
   constructor
   ·rintro (⟨e',he',g',eg',ho⟩|h)
    ·exact⟨e',mG _ he',g',eg',ho⟩
    ·refine⟨e,by simp,g,eg,o1.mpr ?_⟩
     simpa using h
   ·rintro⟨e',he',g',eg',ho⟩
    rcases lK.mp he' with h|h
    ·exact .inl ⟨e',h,g',eg',ho⟩
    ·rw[mR.mp h,eg] at eg'
     cases eg';exact .inr (by simpa using o1.mp ho)
 ·rintro H3 ⟨g3,bs,ex,lb,hb⟩
  rw[mP] at hb;refine⟨acc,bs,rfl,ex,q _ H3 (gF.trans g3) ?_⟩;rw[hb];constructor
  ·rintro⟨e,he,g,eg,ho⟩
   obtain⟨g',hg',eg'⟩:=fd1.ky e he;rw[eg] at eg';cases eg';exact⟨g,hg',ho⟩
  ·rintro⟨g,hg,ho⟩
   obtain⟨n,en⟩:∃n,zBO (gcnt b) g=some n:=by
    obtain⟨y,hy,rfl⟩:=mD.mp hg;unfold zBO;cases e:(gcnt b).find? λ z=>decide (z.1=y.1) with
    |none=>exact absurd (lU rfl) (List.find?_eq_none.mp e y hy)
    |some z=>exact⟨z.2,rfl⟩
   have e2:=fd1.vl g;rw[en] at e2;obtain⟨e,he,ee,_⟩:=zFf e2;exact⟨e,he,g,ee,ho⟩
abbrev zB8:Stmt:=top 40
theorem zBs:zAV ["shape", "filling", "used", "gap"] ["shape", "filling"] (zAN zB8):=scI
def zJS:Sp:=λ vs H Q Ω=>E6 λ(t:Tr) (v:V) (d:Addr) (kvs:List (Key × V)) (φ:Str->Option Pce) (W:List Str)=>A7 (vs=[v,.ref d]) (Rep H t v) (H d=some (.dK kvs)) (FlD H φ kvs) (FlO φ W t) (∀g∈(gcnt t).map (·.1),φ g≠none) (∀(u:Addr) (ks:List Str) (H':Hp),Same H H'->H u=none->H' u=some (.dK (kvOf ks))->ks.Nodup->(∀x∈ks,x∈W)->(∀x∈t.wrds,x∈ks)->(∀g∈(gcnt t).map (·.1),∀q,φ g=some q->∀x∈q.2.wrds,x∈ks)->Q (.ref u) H')
theorem zMu (F:Fun K "words_of_all" "words_of_all" zB8 f fd) (zOd:FnB P w K mg base k "words_used" g1 gd1 ["tree", "leaves"] zCH) (zOi:FnB P w K mg base k "gaps_of" g2 gd2 ["shape"] zDR):FnOk P w K mg base CX0 (k+1) f fd ["shape", "filling"] zJS:=by
 refine F.ok zBs (λ vs H Q E h=>?_) (λ cdv A outer s H vs Q E hr h=>?_)
 ·obtain⟨t,v,d,kvs,φ,W,rfl,_⟩:=h
  rfl
 obtain⟨t,v,d,kvs,φ,W,rfl,hR,hd,hF,hO,hin,q⟩:=h;have hu:=hu_of hr
 refine⟨_,(zAE (pS (i:=2) zBs.nd (pe_cl zOd hr (zAA (pv 0) (zAA zBi zAD))))
  (zAE (zAt PassesOwn.never rfl (zFt (pe_cl zOi hr (zAA (pv 0) zAD))) (pGn (i:=3) zBs.nd) (zAG (zCk (pe_bm rS PySem.F.slot_dict_update PySem.F.type_dict_update zI3 (pv 2) (zAA (pe_cl zOd hr (zAA (pe_ix (r:=rIxT K) zAS (zDJ hu (pv 1) (pv 3) (λ Ω Ω=>rfl)) zAF (λ Ω Ω=>rfl)) (zAA zBi zAD))) zAD)))))
  (zAG (zAX (pv 2))))),?_⟩
 have hwl:=hO.wl;refine⟨_,rfl,λ e0 he0=>?_⟩;have k0:=zAC (o:=.dK []) he0;refine⟨t,v,e0,[],noT,W,rfl,hR.mono k0.tk,hO.sz,zAB,zII,by omega,hO.tw,(λ p hp=>nomatch hp),λ U ks H1 g1 hU eU nd tw0 Ω hkW=>?_⟩
 have g01:=k0.trans g1;have hUH:H U=none:=k0.free hU;refine⟨_,rfl,t,v,rfl,hR.mono g01.tk,hO.sz,hO.ct,λ gd gk H2 g2 hgd egd fd1 lgd=>⟨gd,gk,rfl,.inr ⟨egd,λ o=>?_⟩⟩⟩;have g02:=g01.trans g2;have hgdH:H gd=none:=g01.free hgd;have nUg:U≠gd:=zAJ eU hgd;have gF:Same H (upd H2 gd (.frz o (.dK gk))):=zAQ g02 hgdH;refine zIW (o:=o) (a:=gd) (kvs:=gk) (λ i σ' H'=>E2 λ(ks1:List Str) (s3:Option V)=>A8 (σ'=[some v,some (.ref d),some (.ref U),s3]) (Same H H') (H' gd=some (.frz o (.dK gk))) (H' U=some (.dK (kvOf ks1))) ks1.Nodup (∀x∈ks1,x∈W) (∀x∈t.wrds,x∈ks1) (∀e∈gk.take i,∀g,e.1=(Sum.inr g:Key)->∀q,φ g=some q->∀x∈q.2.wrds,x∈ks1)) ?_ ?_ ?_ ?_
 ·exact⟨ks,none,rfl,gF,zAB,by rw[zAK nUg];exact g2 _ _ eU,nd,hkW,tw0,(λ e he=>nomatch he)⟩
 ·rintro i σ' H' _ ⟨ks1,s3,rfl,g,eg,eu,nd1,kW1,tw1,all1⟩
  exact eg
 ·rintro i p σ' H' hp ⟨ks1,s3,rfl,g,eg,eu,nd1,kW1,tw1,all1⟩
  obtain⟨x,hx,ex⟩:=fd1.ky p (lM hp);have hi:i<gk.length:=(lJ.mp hp).1;obtain⟨pc,epc⟩:=nC.mp (hin x hx);obtain⟨a,nt,u,hv,ha,hnt,ru⟩:=(hF.mono g.tk).get epc;obtain⟨z1,z3⟩:=hO.pz x pc epc;have ek:kV p.1 = .str x:=by rw[ex];rfl
  have dg:DGet H' d (.str x) (some (.ref a)):=hv▸DGet.k (k:=Sum.inr x) (g _ _ hd);rw[ek];refine⟨_,rfl,.inr (.inr (.inl ⟨rfl,.inl ⟨kvOf ks1,eu⟩⟩)),_,rfl,_,rfl,d,_,rfl,dg,a,_,1,_,rfl,rfl,SqT.of ha,zAY (j:=1) rfl,λ e1 he1=>?_⟩;have k1:=zAC (o:=.dK []) he1;have eu1:=k1 _ _ eu;have eg1:=k1 _ _ eg;refine⟨pc.2,u,e1,[],noT,W,rfl,ru.mono k1.tk,z1,zAB,zII,by omega,z3,(λ p hp=>nomatch hp),λ U2 ks2 H3 g3 hU2 eU2 nd2 tw2 Ω hkW2=>?_⟩
  have nUU:U≠U2:=zAJ eu1 hU2;have nUg':gd≠U:=Ne.symm nUg;have l1:(kvOf ks1).length<=100:=by rw[show (kvOf ks1).length=ks1.length from lC _];have:=zBD nd1 kW1;omega
  have l2:(kvOf ks2).length<=100:=by rw[show (kvOf ks2).length=ks2.length from lC _];have:=zBD nd2 hkW2;omega
  refine⟨U,U2,kvOf ks1,kvOf ks2,rfl,rfl,nUU,g3 _ _ eu1,eU2,mH (by omega:_<=100000) (by decide),?_⟩;obtain⟨m1,m2,m3,m4⟩:=zFP ks2 ks1 nd1;refine⟨zE2 ks1 ks2,_,rfl,zAQ (g.trans (k1.trans g3)) hUH,by rw[zAK nUg'];exact g3 _ _ eg1,by rw[zAB,m1],m2,λ y hy=>?_,λ y hy=>m4 y (.inl (tw1 y hy)),λ e' he' g' eg' q' hq' y hy=>?_⟩
  ·rcases m3 y hy with h|h
   ·exact kW1 y h
   ·exact hkW2 y h
  ·rw[zAR hp] at he'
   rcases lK.mp he' with h|h
   ·exact m4 y (.inl (all1 e' h g' eg' q' hq' y hy))
   ·rw[mR.mp h,ex] at eg'
    cases eg';rw[epc] at hq';cases hq';exact m4 y (.inr (tw2 y hy))
 ·rintro σ' H' ⟨ks1,s3,rfl,g,eg,eu,nd1,kW1,tw1,all1⟩
  rw[mP] at all1;refine⟨_,rfl,q U ks1 H' g hUH eu nd1 kW1 tw1 λ g' hg' q' hq' x hx=>?_⟩
  obtain⟨n,en⟩:∃n,zBO (gcnt t) g'=some n:=by
   obtain⟨y,hy,rfl⟩:=mD.mp hg';unfold zBO;cases e:(gcnt t).find? λ z=>decide (z.1=y.1) with
   |none=>exact absurd (lU rfl) (List.find?_eq_none.mp e y hy)
   |some z=>exact⟨z.2,rfl⟩
  have e2:=fd1.vl g';rw[en] at e2;obtain⟨e,he,ee,_⟩:=zFf e2;exact all1 e he g' ee q' hq' x hx
theorem zEU {R:Tr->Tr->Prop}(r0:∀t,R t t) (r1:∀{a a'},R a' a->R (.say a') (.say a)) (r2:∀{o a a' b b'},R a' a->R b' b->R (.bin o a' b') (.bin o a b)) (r3:∀{a a' b b' c c'},R a' a->R b' b->R c' c->R (.ite a' b' c') (.ite a b c)) (r4:∀{x a a' b b'},R a' a->R b' b->R (.lett x a' b') (.lett x a b)) {k p:Tr}(h:R k p):∀(pl:List Int) (t:Tr),t.at_ pl=some p->R (putT t pl k) t
 |[],t,e=>by cases e;exact h
 |i::is,t,e=>by
  obtain⟨u,hu,e2⟩:=mS.mp (show (t.kid i).bind _=some p from e);have ih:=zEU r0 r1 r2 r3 r4 h is u e2;rw[zCz hu];obtain⟨h0,h1,h2⟩:=zGh hu;generalize putT u is k=z at ih ⊢;generalize i.toNat=j at h2 ⊢;cases t with
  |say a=>match j,h2 with|0,h2=>cases h2;exact r1 ih
  |bin o a b=>match j,h2 with
   |0,h2=>cases h2;exact r2 ih (r0 _)
   |1,h2=>cases h2;exact r2 (r0 _) ih
  |ite a b c=>match j,h2 with
   |0,h2=>cases h2;exact r3 ih (r0 _) (r0 _)
   |1,h2=>cases h2;exact r3 (r0 _) ih (r0 _)
   |2,h2=>cases h2;exact r3 (r0 _) (r0 _) ih
  |lett x a b=>match j,h2 with
   |0,h2=>cases h2;exact r4 ih (r0 _)
   |1,h2=>cases h2;exact r4 (r0 _) ih
  |_=>cases h2
theorem zMF {k p t:Tr}{pl:List Int}(e:t.at_ pl=some p) (h:skT k=skT p):skT (putT t pl k)=skT t :=
 zEU (R:=λ a b=>skT a=skT b) (λ Ω=>rfl) (λ h=>by simp[skT,h]) (λ h1 h2=>by simp[skT,h1,h2]) (λ h1 h2 h3=>by simp[skT,h1,h2,h3]) (λ h1 h2=>by simp[skT,h1,h2]) h pl t e
theorem zN8 {φ:Fill}{k p t:Tr}{pl:List Int}(e:t.at_ pl=some p) (h:∀κ n,duT φ κ n k=duT φ κ n p):∀κ n,duT φ κ n (putT t pl k)=duT φ κ n t :=
 zEU (R:=λ a b=>∀κ n,duT φ κ n a=duT φ κ n b) (λ Ω Ω Ω=>rfl) (λ h κ n=>by simp[duT,h]) (λ h1 h2 κ n=>by simp[duT,h1,h2]) (λ h1 h2 h3 κ n=>by simp[duT,h1,h2,h3]) (λ h1 h2 κ n=>by simp[duT,h1,h2]) h pl t e
theorem zKz {W:List Str}{k p t:Tr}{pl:List Int}(e:t.at_ pl=some p) (h:∀x∈k.wrds,x∈p.wrds\/x∈W):∀x∈(putT t pl k).wrds,x∈t.wrds\/x∈W :=
 zEU (R:=λ a b=>∀x∈a.wrds,x∈b.wrds\/x∈W) (λ Ω Ω h=>.inl h) (λ h x hx=>h x hx)
  (λ h1 h2 x hx=>by
   simp only[Tr.wrds,nM] at hx ⊢;rcases hx with hx|hx
   ·exact(h1 x hx).imp .inl id
   ·exact(h2 x hx).imp .inr id)
  (λ h1 h2 h3 x hx=>by
   simp only[Tr.wrds,nM] at hx ⊢;rcases hx with hx|hx|hx
   ·exact(h1 x hx).imp .inl id
   ·exact(h2 x hx).imp (λ z=>.inr (.inl z)) id
   ·exact(h3 x hx).imp (λ z=>.inr (.inr z)) id)
  (λ h1 h2 x hx=>by
   simp only[Tr.wrds,nM,nN] at hx ⊢;rcases hx with hx|hx|hx
   ·exact .inl (.inl hx)
   ·exact(h1 x hx).imp (λ z=>.inr (.inl z)) id
   ·exact(h2 x hx).imp (λ z=>.inr (.inr z)) id) h pl t e
theorem zB4 {t k u:Tr}{i:Int}{is:List Int}(h:t.kid i=some k):(putT t (i::is) u).kid i=some (putT k is u):=by
 obtain⟨h0,h1,h2⟩:=zGh h;have hl:i.toNat<t.parts.length:=(lJ.mp h2).1;rw[zCz h];unfold Tr.kid;rw[if_pos h0,zDB (by simp),rH hl]
theorem zD2 {t k u:Tr}{i j:Int}{is:List Int}(h:t.kid i=some k) (n:j≠i):(putT t (i::is) u).kid j=t.kid j:=by
 obtain⟨h0,h1,h2⟩:=zGh h;rw[zCz h];unfold Tr.kid
 by_cases hj:0<=j
 ·rw[if_pos hj,if_pos hj,zDB (by simp),List.getElem?_set_ne (by omega)]
 ·rw[if_neg hj,if_neg hj]
theorem zDN:∀{pl:List Int}{w t u:Tr},w.at_ pl=some t->(putT w pl u).at_ pl=some u
 |[],_,_,_,_=>rfl
 |i::is,w,t,u,h=>by
  obtain⟨k,hk,e⟩:=mS.mp (show (w.kid i).bind _=some t from h);show ((putT w (i::is) u).kid i).bind _=_;rw[zB4 hk];exact zDN e
theorem zJd {k p:Tr}(h:skT k=skT p) {x:Str}{a' b':Tr}:∀(pl q:List Int) (t:Tr),t.at_ pl=some p->(∀s,q≠pl++s)->(putT t pl k).at_ q=some (.lett x a' b')->∃a b,t.at_ q=some (.lett x a b)/\skT b'=skT b
 |[],q,_,_,hq,_=>absurd rfl (hq q)
 |i::is,[],t,e,_,e2=>by
  obtain⟨u,hu,e3⟩:=mS.mp (show (t.kid i).bind _=some p from e);have es:=zMF e3 h;have e4:putT t (i::is) k = .lett x a' b':=mF e2;rw[zCz hu] at e4;obtain⟨h0,h1,h2⟩:=zGh hu;generalize putT u is k=z at es e4;generalize i.toNat=j at h2 e4;cases t with
  |lett y a b=>match j,h2 with
   |0,h2=>cases h2;cases e4;exact⟨_,_,rfl,rfl⟩
   |1,h2=>cases h2;cases e4;exact⟨_,_,rfl,es⟩
  |say a=>match j,h2 with|0,h2=>cases e4
  |bin o a b=>match j,h2 with
   |0,h2=>cases e4
   |1,h2=>cases e4
  |ite a b c=>match j,h2 with
   |0,h2=>cases e4
   |1,h2=>cases e4
   |2,h2=>cases e4
  |_=>cases h2
 |i::is,j::js,t,e,hq,e2=>by
  obtain⟨u,hu,e3⟩:=mS.mp (show (t.kid i).bind _=some p from e)
  replace e2:((putT t (i::is) k).kid j).bind (λ u=>u.at_ js)=some (.lett x a' b'):=e2
  by_cases n:j=i
  ·subst n
   rw[zB4 hu] at e2;obtain⟨a,b,h1,h2⟩:=zJd h is js u e3 (λ s z=>hq s (by rw[z];rfl)) e2;refine⟨a,b,?_,h2⟩;show (t.kid j).bind _=_;rw[hu];exact h1
  ·rw[zD2 hu n] at e2
   exact⟨a',b',e2,rfl⟩
theorem zM9 {φ:Fill}{k p t:Tr}{pl q:List Int}(e:t.at_ pl=some p) (h:skT k=skT p) (hq:lexB q pl=true) (hl:LetAt φ t q):LetAt φ (putT t pl k) q:=λ x a' b' e2=>by
 obtain⟨a,b,h1,h2⟩:=zJd h pl q t e (λ s z=>by rw[z,zIO] at hq;cases hq) e2;rw[←zB5 b',h2,zB5];exact hl x a b h1
theorem zLu {k p t:Tr}{pl:List Int}(e:t.at_ pl=some p) (h:p.good GW->k.good GW):t.good GW->(putT t pl k).good GW :=
 zEU (R:=λ a b=>b.good GW->a.good GW) (λ Ω h=>h) (λ h g=>h g) (λ h1 h2 g=>⟨h1 g.1,h2 g.2⟩) (λ h1 h2 h3 g=>⟨h1 g.1,h2 g.2.1,h3 g.2.2⟩) (λ h1 h2 g=>⟨g.1,h1 g.2.1,h2 g.2.2⟩) h pl t e
theorem Apt.put {φ:Fill}{t t' a b r:Tr}{W ks W':List Str}{i:Nat}{y:PlT}{x m:Str}(h:Apt φ t W i t' ks W') (hy:(psub [] t)[i]?=some y) (e:t'.at_ y.1=some (.lett x a b)) (hb:∀z∈(Tr.lett x a b).wrds,z∈ks) (hm:m∉ks) (gm:GW m) (D:DnW (λ z=>z∈ks\/z=m) (setT noT x (.name m)) ⟨b,setT noT x (.name m),[],[]⟩ r):Apt φ t W (i+1) (putT t' y.1 (.lett m a r)) (addK ks m) (m::W'):=by
 have hL:Nms (setT noT x (.name m)):=λ z at' e=>by
  unfold setT at e
  by_cases ez:z=x
  ·rw[if_pos ez] at e
   cases e;exact⟨m,rfl⟩
  ·rw[if_neg ez] at e
   cases e
 have sr:skT r=skT b:=zCJ hL b r [] [] D.dn.br;have sl:skT (.lett m a r)=skT (.lett x a b):=by simp[skT,sr]
 refine⟨(zMF e sl).trans h.sk,λ κ n=>?_,zLu e (λ g=>⟨gm,g.2.1,D.dn.gd⟩) h.gd,λ z hz=>?_,λ g hg q hq z hz=>zAf.mpr (.inl (h.pw g hg q hq z hz)),zBZ h.nd,λ z hz=>?_,λ z hz=>lP _ (h.ww z hz),by have:=h.wl;rw[mM];omega,λ j z hj hz=>?_⟩
 ·rw[zN8 e (λ κ n=>zN9 D.dn.br λ z=>hm (hb m (by simp only[Tr.wrds,nN,nM];exact .inr (.inr (zBY b m z))))) κ n]
  exact h.du κ n
 ·have:=zKz (W:=addK ks m) e (λ w hw=>by
   simp only[Tr.wrds,nN,nM] at hw ⊢;rcases hw with hw|hw|hw
   ·exact .inr (zAf.mpr (.inr hw))
   ·exact .inl (.inr (.inl hw))
   ·exact .inr (zAf.mpr (D.wr w hw))) z hz
  exact this.elim (λ k=>zAf.mpr (.inl (h.tw z k))) id
 ·rcases zAf.mp hz with k|k
  ·exact lP _ (h.kw z k)
  ·rw[k];exact lO
 ·by_cases ej:j=i
  ·subst ej
   rw[hy] at hz;cases hz;intro x' a' b' e';rw[zDN e] at e';cases e';rintro g hg ⟨ns,u,eu,hu,_⟩;refine hm (h.pw g ?_ _ eu m (zBY u m hu));have h1:g∈gpT b:=by rw[←zB5 b,←sr,zB5];exact hg
   have h2:g∈gpT t':=zMS _ _ _ e g (mC _ h1);rw[←zB5,h.sk,zB5] at h2;exact zCB t g h2
  ·refine zM9 e sl ?_ (h.lt j z (by omega) hz)
   have pa:=zBR t [];have z1:((psub [] t).map (·.1))[j]?=some z.1:=by rw[mI,hz];rfl
   have z2:((psub [] t).map (·.1))[i]?=some y.1:=by rw[mI,hy];rfl
   obtain⟨l1,e1⟩:=lJ.mp z1;obtain⟨l2,e2⟩:=lJ.mp z2;have:=List.pairwise_iff_getElem.mp pa j i l1 l2 (by omega)
   rwa [e1,e2] at this
abbrev zBX:Stmt:=top 41
theorem zAb:zAV ["shape", "filling", "used", "apart", "place", "part", "word", "inner"] ["shape", "filling"] (zAN zBX):=scI
def zHy:Sp:=λ vs H Q Ω=>E6 λ(t:Tr) (v:V) (d:Addr) (kvs:List (Key × V)) (φ:Str->Option Pce) (W:List Str)=>A9 (vs=[v,.ref d]) (Rep H t v) (H d=some (.dK kvs)) (FlD H φ kvs) (FlO φ W t) (∀g∈(gcnt t).map (·.1),φ g≠none) (t.good GW) (W.length+t.size<63) (∀(t':Tr) (ks W':List Str) (v':V) (H':Hp),Same H H'->Rep H' t' v'->Apt φ t W t.size t' ks W'->Q v' H')
theorem zLa (F:Fun K "with_lets_apart" "with_lets_apart" zBX f fd) (zOk:FnB P w K mg base k "words_of_all" g1 gd1 ["shape", "filling"] zJS) (zOl:FnB P w K mg base k "places" g2 gd2 ["tree"] zGS) (zOm:FnF P w K mg base k "part_at" g3 gd3 ["tree", "place"] (zFC cN))
  (zOn:FnB P w K mg base k "would_catch" g4 gd4 ["let", "filling"] zGR) (zOa:FnB P w K mg base k "unused_word" g5 gd5 ["used"] zEF) (zOo:FnB P w K mg base k "renamed" g6 gd6 ["tree", "leaves"] zDo) (zOp:FnF P w K mg base k "put_at" g7 gd7 ["tree", "place", "part"] (zEI cN)):FnOk P w K mg base (CXF P w) (k+1) f fd ["shape", "filling"] zHy:=by
 refine F.okF zAb (λ vs H Q E h=>?_) (λ cdv A outer s H vs Q E hr h=>?_)
 ·obtain⟨t,v,d,kvs,φ,W,rfl,_⟩:=h
  rfl
 obtain⟨t,v,d,kvs,φ,W,rfl,hR,hd,hF,hO,hin,hgd,hWt,q⟩:=h;have hu:=hu_of hr
 refine⟨_,(zAE (pS (i:=2) zAb.nd (pe_cl zOk hr (zAA (pv 0) (zAA (pv 1) zAD))))
  (zAE (pS (i:=3) zAb.nd (pv 0))
  (zAE (zAt zGd rfl (zAz (pe_cl zOl hr (zAA (pv 0) zAD))) (pGn (i:=4) zAb.nd) (zAE (pS (i:=5) zAb.nd (zCn zOm.ok hr (by rfl) zOm.gl zOm.kp zOm.bd .nil zC6 (zAA (pv 3) (zAA (pv 4) zAD))))
  (zAG (ps_if (zFJ (zAP op_eq (iC (r:=rIxT K) zAS (pv 5)) zAT (zAZ _)) (zDy (zCj (pe_cl zOn hr (zAA (pv 5) (zAA (pv 1) zAD)))))).pt (zAE (pS (i:=6) zAb.nd (pe_cl zOa hr (zAA (pv 2) zAD)))
  (zAE (zBd hu (pv 2) (pv 6) pe_bl rfl)
  (zAE (pS (i:=7) zAb.nd (pe_cl zOo hr (zAA (iC (r:=rIxT K) zAS (pv 5)) (zAA (zJp (zH7 (iC (r:=rIxT K) zAS (pv 5)) (zAh (zAA zAT (zAA (pv 6) zAD)):PE _ _ _) zJf) rfl rfl (by simp) (by decide)) zAD))))
  (zAG (pS (i:=3) zAb.nd (zCn zOp.ok hr (by rfl) zOp.gl zOp.kp zOp.bd .nil zC6 (zAA (pv 3) (zAA (pv 4) (zAA (zAh (zAA zAT (zAA (pv 6) (zAA (iC (r:=rIxT K) zAS (pv 5)) (zAA (pv 7) zAD)))):PE _ _ _) zAD))))))))) zAU))))
  (zAG (zAX (pv 3)))))),?_⟩
 refine⟨_,rfl,_,rfl,t,v,d,kvs,φ,W,rfl,hR,hd,hF,hO,hin,λ U ks H1 g1 hU eU nd kW tw pw=>?_⟩;refine⟨_,rfl,?_⟩;refine⟨_,rfl,t,v,rfl,hR.mono g1.tk,hO.sz,λ l us H2 g2 el pF=>⟨l,rfl,⟨us,SqL.of el⟩,?_⟩⟩;have g12:=g1.trans g2;have lus:us.length=t.size:=by rw[zAH pF,zA7]
 have nlU:l≠U:=λ z=>by have:=g2 _ _ eU;rw[←z,el] at this;cases this
 have eU2:=g2 _ _ eU;have sm:∀{H':Hp},Sx U H2 H'->Same H H':=λ g b u e=>g b u (zAJ e hU) (g12 b u e);refine zA8 (xs:=us) (λ i σ' H'=>E8 λ(t':Tr) (vt:V) (ks' W':List Str) (s4 s5 s6 s7:Option V)=>A5 (σ'=[some v,some (.ref d),some (.ref U),some vt,s4,s5,s6,s7]) (Sx U H2 H') (H' U=some (.dK (kvOf ks'))) (Rep H' t' vt) (Apt φ t W i t' ks' W')) ?_ ?_ ?_ ?_
 ·exact⟨t,v,ks,W,none,none,none,none,rfl,.of (.refl _),eU2,hR.mono g12.tk,⟨rfl,λ Ω Ω=>rfl,hgd,tw,pw,nd,kW,λ Ω h=>h,lQ _,λ j y hj=>absurd hj (Nat.not_lt_zero _)⟩⟩
 ·rintro i σ' H' _ ⟨t',vt,ks',W',s4,s5,s6,s7,rfl,g,eU',rt,A⟩
  exact SqL.of (g _ _ nlU el)
 ·rintro i x σ' H' hx ⟨t',vt,ks',W',s4,s5,s6,s7,rfl,g,eU',rt,A⟩
  obtain⟨pq,eq,a,rfl,ha⟩:=zAW pF hx;have hi:i<us.length:=(lJ.mp hx).1;have hm:=lM eq;obtain⟨r,e1,e2,e3⟩:=zEW _ t [] (lQ _) pq hm;have hsz:=hO.sz;rw[nV] at e1;subst e1;have gH:=sm g;have ska:=at_sk pq.1 t';rw[A.sk,at_sk,e2] at ska
  obtain⟨p',hp'⟩:∃p',t'.at_ pq.1=some p':=by
   cases z:t'.at_ pq.1 with
   |none=>rw[z] at ska;cases ska
   |some u=>exact⟨u,rfl⟩
  rw[hp'] at ska;have skp:skT pq.2=skT p':=mF ska;have hT:=g.tk2 eU2
  have szp:p'.size<=60:=by
   rw[←zBQ,←skp,zBQ];exact mH (zKr _ _ _ e2) hsz
  refine⟨_,rfl,_,rfl,t',vt,a,pq.1,rfl,rt,hT _ _ ha,by omega,λ x2 hx2 v2 H3 g3 r3=>?_,λ z=>absurd (hp'.symm.trans z) (λ y=>nomatch y)⟩
  rw[hp'] at hx2;cases hx2;obtain⟨a0,hs0,us0,rfl,ha0,_,_⟩:=id r3.all;have at0:atI (V.str p'.kd.s::hs0++us0) 0=some (.str p'.kd.s):=zAY (j:=0) rfl;refine⟨_,rfl,a0,_,0,_,rfl,rfl,SqT.of ha0,at0,rfl,_,rfl,ite2 (λ c=>?_) (λ c=>iteF ?_)⟩
  ·have z:p'.kd = .lett:=Kd.eq_iff.mp (lS c)
   cases p' with
   |lett n ta tb =>
    have gH3:=gH.trans g3;have sbt:∀p∈tb.subs,∃p0∈t.subs,cnt1 p0=cnt1 p:=λ p hp=>zNc A.sk (zMC _ _ _ hp' p (by simp only[Tr.subs,nN,nM];exact .inr (.inr hp)));have szl:(Tr.lett n ta tb).size=ta.size+tb.size+1:=rfl;refine⟨_,rfl,_,rfl,n,ta,tb,_,d,kvs,φ,W,rfl,r3,?_,?_,gH3 _ _ hd,hF.mono gH3.tk,?_,hO.wl,λ g q hq=>⟨(hO.pz g q hq).1,λ z hz=>(hO.pz g q hq).2 z (zBY _ z hz)⟩,λ cc H4 g4 hcc=>⟨_,rfl,?_⟩⟩
    ·omega
    ·intro p hp
     obtain⟨p0,h0,e0⟩:=sbt p hp;rw[←e0];exact hO.ct p0 h0
    ·intro g hg
     refine hin g ?_;obtain⟨y,hy,rfl⟩:=mD.mp hg;obtain⟨p,hp,hy⟩:=mX.mp hy;obtain⟨p0,h0,e0⟩:=sbt p hp;exact mD.mpr ⟨y,mX.mpr ⟨p0,h0,by rw[e0];exact hy⟩,rfl⟩
    refine ite2 (λ c1=>?_) (λ c1=>?_)
    ·have g34:=g3.trans g4
     have eU4:=g34 _ _ eU';have lW:=A.wl;have lks:ks'.length<=W'.length:=zBD A.nd A.kw;refine⟨_,rfl,U,ks',rfl,eU4,by omega,λ m hm gm=>?_⟩;refine⟨_,rfl,_,rfl,U,_,rfl,DPut.k (k:=Sum.inr m) eU4 (zAM (by rw[zIQ];omega)),?_⟩;obtain⟨a1,u2,u3,ea1,hap,r2,rb⟩:=r3;cases ea1;have s5:Sx U H2 (upd H4 U (.dK (putK (kvOf ks') (Sum.inr m:Key) (.bl true)))):=(g.same g34).own;have eU5:(upd H4 U (.dK (putK (kvOf ks') (Sum.inr m:Key) (.bl true)))) U=some (.dK (kvOf (addK ks' m))):=by rw[zAB,zCT]
     have tk5:Tk H4 (upd H4 U (.dK (putK (kvOf ks') (Sum.inr m:Key) (.bl true)))):=Tk.dk eU4;show tSeq _ _ _ _ (upd H4 U (.dK (putK (kvOf ks') (Sum.inr m:Key) (.bl true))));generalize upd H4 U _=H5 at s5 eU5 tk5 ⊢;have k35:Tk H3 H5:=g4.tk.trans tk5;have kH5:Tk H' H5:=g3.tk.trans k35;have hap5:=k35 _ _ hap;refine⟨_,rfl,a0,_,3,_,rfl,rfl,SqT.of hap5,rfl,λ dd hdd=>?_⟩;have g6:=zAC (o:=.dK []) hdd;refine⟨_,rfl,a0,_,1,_,rfl,rfl,SqT.of (g6 _ _ hap5),rfl,_,rfl,(by show 2<=sizeLine;decide),λ tp htp=>?_⟩;have g7:=zAC (o:=.tup [.str "name", .str m]) htp;have edd:(upd (upd H5 dd (.dK [])) tp (.tup [.str "name", .str m])) dd=some (.dK []):=g7 _ _ zAB;refine⟨edd,[((Sum.inr n:Key),.ref tp)],rfl,by simp,?_⟩;have g8:Same H5 (upd (upd (upd H5 dd (.dK [])) tp (.tup [.str "name", .str m])) dd (.dK (zAw [] [((Sum.inr n:Key),.ref tp)]))):=zAQ (g6.trans g7) hdd;have ed8:(upd (upd (upd H5 dd (.dK [])) tp (.tup [.str "name", .str m])) dd (.dK (zAw [] [((Sum.inr n:Key),.ref tp)]))) dd=some (.dK [((Sum.inr n:Key),.ref tp)]):=zAB;have et8:(upd (upd (upd H5 dd (.dK [])) tp (.tup [.str "name", .str m])) dd (.dK (zAw [] [((Sum.inr n:Key),.ref tp)]))) tp=some (.tup [.str "name", .str m]):=Tk.dk edd _ _ zAB;generalize upd (upd (upd H5 dd _) tp _) dd _=H8 at g8 ed8 et8 ⊢;have pw':∀z∈(Tr.lett n ta tb).wrds,z∈ks':=λ z hz=>A.tw z (zG5 _ _ _ hp' z hz);have bw':∀z∈tb.wrds,z∈ks':=λ z hz=>pw' z (by simp only[Tr.wrds,nN,nM];exact .inr (.inr hz));have gl:=zHa _ _ _ hp' A.gd
     have hT0:∀z y,setT noT n (.name m) z=some (.name y)->y=m:=λ z y e=>by
      unfold setT at e
      by_cases ez:z=n
      ·rw[if_pos ez] at e
       cases e;rfl
      ·rw[if_neg ez] at e
       cases e
     refine⟨tb,u3,dd,_,setT noT n (.name m),m::W',(λ z=>z∈ks'\/z=m),rfl,rb.mono (k35.trans g8.tk),by omega,ed8,zII.put (n:=n) (a:=.name m) ⟨tp,rfl,et8⟩,by simp,by rw[mM];omega,λ z hz=>lP _ (A.kw z (bw' z hz)),?_,gl.2.2,?_,λ z hz=>.inl (bw' z hz),λ z y e=>.inr (hT0 z y e),.inr ⟨m,λ z y e=>.inr (hT0 z y e),λ z=>hm (bw' m z)⟩,λ rr v' H9 g9 rv D=>?_⟩
     ·intro p hp y hy
      rw[mR.mp hp] at hy;obtain⟨b,eb,hb⟩:=hy;cases eb;rw[et8] at hb;cases hb;exact lO
     ·intro z at' e
      unfold setT at e
      by_cases ez:z=n
      ·rw[if_pos ez] at e
       cases e;exact gm
      ·rw[if_neg ez] at e
       cases e
     have g59:=g8.trans g9;refine⟨_,rfl,_,rfl,_,rfl,_,rfl,a0,_,2,_,rfl,rfl,SqT.of (g59 _ _ hap5),rfl,_,rfl,(by show 4<=sizeLine;decide),λ tl htl=>?_⟩;have gX:=zAC (o:=.tup [.str "let", .str m,u2,v']) htl;have g5X:=g59.trans gX;refine⟨t',.lett m ta rr,vt,_,a,pq.1,rfl,rt.mono (kH5.trans g5X.tk),⟨tl,u2,v',rfl,zAB,r2.mono (k35.trans g5X.tk),rv.mono gX.tk⟩,g5X.tk _ _ (kH5 _ _ (hT _ _ ha)),by omega,λ Ω v'' H10 g10 rp=>?_,λ z=>absurd (hp'.symm.trans z) (λ y=>nomatch y)⟩
     exact⟨_,v'',addK ks' m,m::W',_,_,_,_,rfl,s5.same (g5X.trans g10),(g5X.trans g10) _ _ eU5,rp,Apt.put A eq hp' pw' hm gm D⟩
    ·refine⟨t',vt,ks',W',_,_,_,_,rfl,g.same (g3.trans g4),(g3.trans g4) _ _ eU',rt.mono (g3.trans g4).tk,A.skip eq λ x a b e=>?_⟩
     rw[hp'] at e;cases e;intro g hg ho;exact c1 (hcc.mpr ⟨g,zCB _ g hg,ho⟩)
   |bin o a b=>cases o<;>cases z
   |_=>cases z
  ·have nk:p'.kd ≠ .lett:=λ z=>c (lU (Kd.eq_iff.mpr z))
   refine⟨t',vt,ks',W',_,_,_,_,rfl,g.same g3,g3 _ _ eU',rt.mono g3.tk,A.skip eq λ x a b e=>?_⟩;rw[hp'] at e;cases e;exact absurd rfl nk
 ·rintro σ' H' ⟨t',vt,ks',W',s4,s5,s6,s7,rfl,g,eU',rt,A⟩
  rw[lus] at A;exact⟨_,rfl,q t' ks' W' _ H' (sm g) rt A⟩
abbrev zDG:Stmt:=top 42
theorem zGY:zAV ["atom", "filling"] ["atom", "filling"] (zAN zDG):=scI
abbrev zDs:Stmt:=top 43
theorem zDD:zAV ["gap", "filling", "piece", "leaves"] ["gap", "filling"] (zAN zDs):=scI
def zHz:Sp:=λ vs H Q Ω=>E6 λ(a b:Atom) (v:V) (d:Addr) (kvs:List (Key × V)) (φ:Str->Option Pce)=>A6 (vs=[v,.ref d]) (AtRep H a v) (H d=some (.dK kvs)) (FlD H φ kvs) (LfA φ a b) (∀v',AtRep H b v'->Q v' H)
theorem zLb (F:Fun K "atom_leaf" "atom_leaf" zDG f fd):FnOk P w K mg base CX0 (k+1) f fd ["atom", "filling"] zHz:=by
 refine F.ok zGY (λ vs H Q E h=>?_) (λ cdv A outer s H vs Q E hr h=>?_)
 ·obtain⟨a,b,v,d,kvs,φ,rfl,_⟩:=h
  rfl
 obtain⟨a,b,v,d,kvs,φ,rfl,hR,hd,hF,hL,q⟩:=h;have hu:=hu_of hr
 refine⟨_,(zAE (ps_if (zAP op_eq (iC (r:=rIxT K) zAS (pv 0)) zAT (zAZ _)) (zAG (zAX (pe_ix (r:=rIxT K) zAS (zDJ hu (pv 1) (iC (r:=rIxT K) zAS (pv 0)) (λ Ω Ω=>rfl)) zAF (λ Ω Ω=>rfl)))) zAU)
  (zAG (zAX (pv 0)))),?_⟩
 cases hL with
 | @gap g ns n e =>
  obtain⟨p,b,rfl,hp,_⟩:=hR;obtain⟨pa,nt,u,hv,hpa,hnt,ru⟩:=hF.get e;have dg:DGet H d (.str g) (some (.ref pa)):=hv▸DGet.k (k:=Sum.inr g) hd;refine⟨_,rfl,p,_,0,_,rfl,rfl,SqT.of hp,zAY (j:=0) rfl,rfl,_,rfl,iteT ?_⟩;exact⟨_,rfl,_,rfl,p,_,1,_,rfl,rfl,SqT.of hp,zAY (j:=1) rfl,d,_,rfl,dg,pa,_,1,_,rfl,rfl,SqT.of hpa,zAY (j:=1) rfl,q u ru⟩
 |name x =>
  obtain⟨p,rfl,hp⟩:=id hR;exact⟨_,rfl,p,_,0,_,rfl,rfl,SqT.of hp,zAY (j:=0) rfl,rfl,_,rfl,iteN (by left) ⟨_,rfl,q _ hR⟩⟩
 |num x =>
  obtain⟨p,rfl,hp⟩:=id hR;exact⟨_,rfl,p,_,0,_,rfl,rfl,SqT.of hp,zAY (j:=0) rfl,rfl,_,rfl,iteN (by left) ⟨_,rfl,q _ hR⟩⟩
def zHt:Sp:=λ vs H Q Ω=>E10 λ(g:Str) (as las:List Atom) (v:V) (d:Addr) (kvs:List (Key × V)) (φ:Str->Option Pce) (ns:List Str) (t:Tr) (W:List Str)=>A14 (vs=[v,.ref d]) (Rep H (.gap g as) v) (H d=some (.dK kvs)) (FlD H φ kvs) (φ g=some (ns,t)) (ns.length<=100) (as.length=las.length) (∀(j:Nat) (a b:Atom),as[j]?=some a->las[j]?=some b->LfA φ a b) (t.size<=60) (t.good GW) (∀b∈las,b.good GW) (W.length<64) (∀x∈t.wrds,x∈W) ((∀y,Atom.name y∈las->y∈W)/\∀(r:Tr) v' H',Same H H'->Rep H' r v'->r.good GW->bareW noT r []=bareW (tzF noT (ns.zip las)) t []->Q v' H')
theorem zLT (F:Fun K "piece_at" "piece_at" zDs f fd) (z_dict:mg "dict" = none) (z_zip:mg "zip" = none) (zOq:FnB P w K mg base k "atom_leaf" g1 gd1 ["atom", "filling"] zHz) (zOo:FnB P w K mg base k "renamed" g2 gd2 ["tree", "leaves"] zDo):FnOk P w K mg base CX0 (k+1) f fd ["gap", "filling"] zHt:=by
 refine F.ok zDD (λ vs H Q E h=>?_) (λ cdv A outer s H vs Q E hr h=>?_)
 ·obtain⟨g,as,las,v,d,kvs,φ,ns,t,W,rfl,_⟩:=h
  rfl
 obtain⟨g,as,las,v,d,kvs,φ,ns,t,W,rfl,hR,hd,hF,eg,hns,hal,hL,hsz,htg,hlg,hW,htW,hlW,q⟩:=h;have hu:=hu_of hr
 refine⟨_,(zAE (pS (i:=2) zDD.nd (zDJ hu (pv 1) (iC (r:=rIxT K) zAS (pv 0)) (λ Ω Ω=>rfl)))
  (zAE (zH5 (jj:=3) ["atom", "filling"] [none,some 1] rfl (zDV (iC (r:=rIxT K) zAS (pv 0))) (λ Ω Ω Ω Ω Ω=>(zA5 (i:=0) (show List.Nodup (["atom", "filling"]:List Str) by left) rfl (Or.inl rfl))) (λ Ω Ω Ω Ω Ω=>zCi) (λ Ω Ω Ω Ω Ω=>(pe_cl zOq hr (zAA (pv 0) (zAA (pv 1) zAD)))) rfl zDD.nd rfl (Or.inl rfl) (Or.inr rfl))
  (zAG (zAX (pe_cl zOo hr (zAA (iC (r:=rIxT K) zAS (pv 2)) (zAA (zIr rfl (by rfl) z_dict (by rfl) z_zip (zAA (iC (r:=rIxT K) zAS (pv 2)) (zAA (pv 3) zAD))) zAD))))))),?_⟩
 obtain⟨a,b,us,rfl,ha,hb,hul,pas⟩:=hR;obtain⟨pa,nt,u,hv,hpa,hnt,ru⟩:=hF.get eg;have dg:DGet H d (.str g) (some (.ref pa)):=hv▸DGet.k (k:=Sum.inr g) hd;have lus:us.length=as.length:=zAH pas;refine⟨_,rfl,_,rfl,a,_,1,_,rfl,rfl,SqT.of ha,zAY (j:=1) rfl,d,_,rfl,dg,?_⟩;refine⟨_,rfl,a,_,2,_,rfl,rfl,SqT.of ha,zAY (j:=2) rfl,b,rfl,⟨_,SqT.of hb⟩,λ acc hacc=>?_⟩;refine zDh (xs:=us) (λ i H'=>Same H H'/\∃zs,H' acc=some (.lst zs)/\Paired (AtRep H') (las.take i) zs) ⟨zAC hacc,[],zAB,by rw[List.take_zero];exact .nil⟩ (λ i H' Ω h=>SqT.of (h.1 _ _ hb)) ?_ ?_
 ·rintro j x Hx hx ⟨gx,zs,ezs,hzs⟩
  obtain⟨m,em,rm⟩:=zAW pas hx;have hj:j<us.length:=(lJ.mp hx).1;have lz:=zAH hzs;rw[mO] at lz;have hj2:j<las.length:=by omega
  have el:=lX hj2;have hlf:=hL j m las[j] em el;refine⟨.skip (.keep .nil),?_⟩;refine⟨_,rfl,_,rfl,m,las[j],x,d,kvs,φ,rfl,rm.mono gx.tk,gx _ _ hd,hF.mono gx.tk,hlf,λ v' rv=>?_⟩;have tkz:Tk Hx (upd Hx acc (.lst (zs++[v']))):=Tk.lst ezs;refine⟨zs,ezs,zAM (by omega),zAQ gx hacc,_,zAB,?_⟩;rw[zAR el];exact zAO (Paired.mapP hzs λ Ω Ω z=>z.mono tkz) (.cons (rv.mono tkz) .nil)
 ·rintro Hx ⟨gx,zs,ezs,hzs⟩
  rw[lus,hal,mP] at hzs;refine⟨_,rfl,pa,_,1,_,rfl,rfl,SqT.of (gx _ _ hpa),zAY (j:=1) rfl,?_⟩;refine⟨_,rfl,pa,_,0,_,rfl,rfl,SqT.of (gx _ _ hpa),zAY (j:=0) rfl,?_⟩;refine⟨_,rfl,nt,acc,ns,zs,rfl,gx _ _ hnt,ezs,mH hns (by decide),λ dz hdz=>?_⟩;have g1:=zAC (o:=.dK (zAw [] (zipK ns zs))) hdz;have lv:Lv Hx (tzF noT (ns.zip las)) (zAw [] (zipK ns zs)):=zIJ zII hzs
  have lm:(zAw [] (zipK ns zs)).length<=100:=by
   have h1:=zBU (zipK ns zs) [];have h2:=zHj ns zs;rw[List.length_nil] at h1;omega
  refine⟨t,u,dz,_,_,W,(λ Ω=>True),rfl,(ru.mono gx.tk).mono g1.tk,hsz,zAB,lv.mono g1.tk,lm,hW,htW,λ p hp y hy=>?_,htg,zJI (λ x a e=>nomatch e) hlg,λ Ω Ω=>trivial,λ Ω Ω Ω=>trivial,.inl (λ Ω Ω=>trivial),λ r v' H' gs rv D=>q r v' H' ((gx.trans g1).trans gs) rv D.dn.gd D.dn.br⟩
  rcases zJ7 hp with h|h
  ·cases h
  ·obtain⟨a0,ha0,r0⟩:=zH6 hzs (zHi h)
   exact hlW y (zOE (r0.mono g1.tk) hy▸ha0)
theorem zJc {k p:Tr}:∀(pl q:List Int) (t:Tr),t.at_ pl=some p->(∀s,q≠pl++s)->(∀s,pl≠q++s)->(putT t pl k).at_ q=t.at_ q
 |[],q,_,_,hq,_=>absurd rfl (hq q)
 |i::is,[],t,_,_,h=>absurd rfl (h (i::is))
 |i::is,j::js,t,e,hq,h=>by
  obtain⟨u,hu,e3⟩:=mS.mp (show (t.kid i).bind _=some p from e);show ((putT t (i::is) k).kid j).bind (λ u=>u.at_ js)=(t.kid j).bind (λ u=>u.at_ js)
  by_cases n:j=i
  ·subst n
   rw[zB4 hu,hu];exact zJc is js u e3 (λ s z=>hq s (by rw[z];rfl)) (λ s z=>h s (by rw[z];rfl))
  ·rw[zD2 hu n]
theorem zMG {k p v:Tr}:∀(pl q:List Int) (t:Tr),t.at_ pl=some p->(∀s,q≠pl++s)->t.at_ q=some v->∃p',(putT t pl k).at_ q=some p'/\p'=v.withP p'.parts/\p'.parts.length=v.parts.length
 |[],q,_,_,hq,_=>absurd rfl (hq q)
 |i::is,[],t,e,_,e2=>by
  obtain⟨u,hu,e3⟩:=mS.mp (show (t.kid i).bind _=some p from e);cases e2;have l:(v.parts.set i.toNat (putT u is k)).length=v.parts.length:=by simp
  refine⟨_,rfl,?_⟩;rw[zCz hu,zDB l];exact⟨rfl,l⟩
 |i::is,j::js,t,e,hq,e2=>by
  obtain⟨u,hu,e3⟩:=mS.mp (show (t.kid i).bind _=some p from e)
  replace e2:(t.kid j).bind (λ u=>u.at_ js)=some v:=e2
  by_cases n:j=i
  ·subst n
   rw[hu] at e2;obtain⟨p',h1,h2⟩:=zMG is js u e3 (λ s z=>hq s (by rw[z];rfl)) e2;refine⟨p',?_,h2⟩;show ((putT t (j::is) k).kid j).bind _=_;rw[zB4 hu];exact h1
  ·refine⟨v,?_,(zFA v).symm,rfl⟩
   show ((putT t (i::is) k).kid j).bind _=_;rw[zD2 hu n];exact e2
def FilI (φ:Fill) (t:Tr) (i:Nat) (w:Tr):Prop:=∀(j:Nat) (y:PlT),(psub [] t)[j]?=some y->(j<i->StA φ y.2 (w.at_ y.1))/\(i<=j->∃p,w.at_ y.1=some p/\p=y.2.withP p.parts/\p.parts.length=y.2.parts.length)
theorem FilI.start {φ:Fill}{t:Tr}:FilI φ t 0 t:=λ j y hy=>⟨λ h=>absurd h (Nat.not_lt_zero _),λ Ω=>by
 obtain⟨r,e1,e2,_⟩:=zEW _ t [] (lQ _) y (lM hy);rw[nV] at e1;exact⟨y.2,by rw[e1];exact e2,(zFA _).symm,rfl⟩⟩
theorem FilI.done {φ:Fill}{t w:Tr}(h:FilI φ t (psub [] t).length w):FilR φ t w:=zDf t w λ pl u e=>by
 obtain⟨j,hj⟩:=List.getElem?_of_mem (zGE pl t u [] e);exact(h j _ hj).1 (lJ.mp hj).1
theorem FilI.skip {φ:Fill}{t w:Tr}{i:Nat}{y:PlT}(h:FilI φ t i w) (hy:(psub [] t)[i]?=some y) (ng:∀g as,y.2 ≠ .gap g as):FilI φ t (i+1) w:=λ j z hz=>by
 refine⟨λ hj=>?_,λ hj=>(h j z hz).2 (by omega)⟩
 by_cases e:j=i
 ·subst e
  rw[hy] at hz;cases hz;obtain⟨p,h1,h2⟩:=(h j y hy).2 (lQ _);refine⟨p,h1,?_⟩;cases hk:y.2 with
  |gap g as=>exact absurd hk (ng g as)
  |_=>rw[hk] at h2;exact h2
 ·exact(h j z hz).1 (by omega)
theorem FilI.put {φ:Fill}{t w r:Tr}{i:Nat}{pl:List Int}{g:Str}{as:List Atom}(h:FilI φ t i w) (hy:(psub [] t)[i]?=some (pl,.gap g as)) (hp:PcR φ g as r) (hg:r.good GW):FilI φ t (i+1) (putT w pl r):=λ j z hz=>by
 obtain⟨p0,e0,_⟩:=(h i _ hy).2 (lQ _);dsimp only at e0
 have at_of:∀{y:PlT},y∈psub [] t->t.at_ y.1=some y.2:=λ{y} hm=>by
  obtain⟨r,e1,e2,_⟩:=zEW _ t [] (lQ _) y hm;rw[nV] at e1;rw[e1];exact e2
 have leaf:∀{q s:List Int}{g:Str}{as:List Atom},t.at_ q=some (.gap g as)->t.at_ (q++s)≠none->s=[]:=λ{q s g as} e n=>by
  rw[zMZ,e] at n;cases s with
  |nil=>rfl
  |cons a s =>
   refine absurd ?_ n;show (Tr.kid (.gap g as) a).bind _=none;unfold Tr.kid
   by_cases z:0<=a
   ·rw[if_pos z];rfl
   ·rw[if_neg z];rfl
 have ti:=at_of (lM hy);have tz:=at_of (lM hz)
 by_cases e:j=i
 ·subst e
  rw[hy] at hz;cases hz;exact⟨λ Ω=>⟨r,zDN e0,hp,hg⟩,λ z=>absurd z (by omega)⟩
 have ne:z.1≠pl:=λ ez=>by
  have pa:=zBR t [];have z1:((psub [] t).map (·.1))[j]?=some z.1:=by rw[mI,hz];rfl
  have z2:((psub [] t).map (·.1))[i]?=some pl:=by rw[mI,hy];rfl
  obtain⟨l1,e1⟩:=lJ.mp z1;obtain⟨l2,e2⟩:=lJ.mp z2;rcases Nat.lt_or_gt_of_ne e with c|c
  ·have:=List.pairwise_iff_getElem.mp pa j i l1 l2 c
   rw[e1,e2,ez,zCq] at this;cases this
  ·have:=List.pairwise_iff_getElem.mp pa i j l2 l1 c
   rw[e1,e2,ez,zCq] at this;cases this
 have n1:∀s,z.1≠pl++s:=λ s es=>ne (by
  have:=leaf (s:=s) ti (by rw[←es,tz];exact λ y=>nomatch y)
  rw[es,this,nR])
 obtain⟨k1,k2⟩:=h j z hz
 have hdk:(∃p,w.at_ z.1=some p/\p=z.2.withP p.parts/\p.parts.length=z.2.parts.length)->∃p,(putT w pl r).at_ z.1=some p/\p=z.2.withP p.parts/\p.parts.length=z.2.parts.length:=λ⟨p,q1,q2,q3⟩=>by
  obtain⟨p',m1,m2,m3⟩:=zMG (k:=r) pl z.1 w e0 n1 q1;refine⟨p',m1,?_,m3.trans q3⟩;rw[q2,zG7 q3 (m3.trans q3)] at m2;exact m2
 refine⟨λ hj=>?_,λ hj=>hdk (k2 (by omega))⟩;have k1:=k1 (by omega);cases hk:z.2 with
 |gap g' as' =>
  rw[hk] at k1 tz
  rw[zJc pl z.1 w e0 n1 λ s es=>ne (by
   have:=leaf (s:=s) tz (by rw[←es,ti];exact λ y=>nomatch y)
   rw[es,this,nR])]
  exact k1
 |_=>rw[hk] at k1 hdk;exact hdk k1
abbrev zFp:Stmt:=top 44
theorem zBu:zAV ["shape", "filling", "gap", "apart", "whole", "place", "part"] ["shape", "filling"] (zAN zFp):=scI
def zGT:Sp:=λ vs H Q Ω=>E6 λ(t:Tr) (v:V) (d:Addr) (kvs:List (Key × V)) (φ:Str->Option Pce) (W:List Str)=>A10 (vs=[v,.ref d]) (Rep H t v) (H d=some (.dK kvs)) (FlD H φ kvs) (FlO φ W t) (∀g∈(gcnt t).map (·.1),φ g≠none) (t.good GW) (W.length+t.size<63) (PcO φ t) (∀(t' w:Tr) (ks W':List Str) v' H',Same H H'->Rep H' w v'->Apt φ t W t.size t' ks W'->FilI φ t' (psub [] t').length w->Q v' H')
theorem zJ1 (F:Fun K "filled" "filled" zFp f fd) (zOr:mg "NoFill" = some (.ref cF)) (x_NoFill:W.excIn K cF bmVE "ValueError.__new__" = true)
  (zOi:FnB P w K mg base k "gaps_of" g1 gd1 ["shape"] zDR) (zOs:FnF P w K mg base k "with_lets_apart" g2 gd2 ["shape", "filling"] zHy) (zOP:FnB P w K mg base k "placed_parts" g3 gd3 ["tree"] zDQ) (zOp:FnF P w K mg base k "put_at" g4 gd4 ["tree", "place", "part"] (zEI cN)) (zOt:FnB P w K mg base k "piece_at" g5 gd5 ["gap", "filling"] zHt):FnOk P w K mg base (CXF P w) (k+1) f fd ["shape", "filling"] zGT:=by
 refine F.okF zBu (λ vs H Q E h=>?_) (λ cdv A outer s H vs Q E hr h=>?_)
 ·obtain⟨t,v,d,kvs,φ,W,rfl,_⟩:=h
  rfl
 obtain⟨t,v,d,kvs,φ,W,rfl,hR,hd,hF,hO,hin,htg,hWt,hP0,q⟩:=h;have hu:=hu_of hr
 refine⟨_,(zAE (zAt zGd rfl (zFt (pe_cl zOi hr (zAA (pv 0) zAD))) (pGn (i:=2) zBu.nd) (zAG (ps_if (zAP (zJr hu) (pv 2) (pv 1) rfl) (zAG (zH4 (by rfl) zOr x_NoFill (zAA (zMo (pv 2)) zAD))) zAU)))
  (zAE (pS (i:=3) zBu.nd (zCn zOs.ok hr (by rfl) zOs.gl zOs.kp zOs.bd .nil zC6 (zAA (pv 0) (zAA (pv 1) zAD))))
  (zAE (pS (i:=4) zBu.nd (pv 3))
  (zAE (zAt zGd rfl (zAz (pe_cl zOP hr (zAA (pv 3) zAD))) (zCl rfl (zAc (pGn (i:=5) zBu.nd) (zAc (pGn (i:=6) zBu.nd) zBe))) (zAG (ps_if (zAP op_eq (iC (r:=rIxT K) zAS (pv 6)) zAT (zAZ _)) (zAG (pS (i:=4) zBu.nd (zCn zOp.ok hr (by rfl) zOp.gl zOp.kp zOp.bd .nil zC6 (zAA (pv 4) (zAA (pv 5) (zAA (pe_cl zOt hr (zAA (pv 6) (zAA (pv 1) zAD))) zAD)))))) zAU)))
  (zAG (zAX (pv 4))))))),?_⟩
 refine⟨_,rfl,t,v,rfl,hR,hO.sz,hO.ct,λ gd gk H2 g2 hgd egd fd1 lgd=>⟨gd,gk,rfl,.inr ⟨egd,λ o=>?_⟩⟩⟩;have gF:Same H (upd H2 gd (.frz o (.dK gk))):=zAQ g2 hgd;refine zIW (o:=o) (a:=gd) (kvs:=gk) (λ i σ' H'=>∃(s2:Option V),A3 (σ'=[some v,some (.ref d),s2,none,none,none,none]) (Same H H') (H' gd=some (.frz o (.dK gk)))) ?_ ?_ ?_ ?_
 ·exact⟨none,rfl,gF,zAB⟩
 ·rintro i σ' H' _ ⟨s2,rfl,g,eg⟩
  exact eg
 ·rintro i p σ' H' hp ⟨s2,rfl,g,eg⟩
  obtain⟨x,hx,ex⟩:=fd1.ky p (lM hp);have ek:kV p.1 = .str x:=by rw[ex];rfl
  rw[ek];have dg:DGet H' d (.str x) (valV kvs (Sum.inr x:Key)):=DGet.k (k:=Sum.inr x) (g _ _ hd);refine⟨_,rfl,_,rfl,d,_,rfl,dg,_,rfl,?_⟩;obtain⟨pc,ephi⟩:=nC.mp (hin x hx);obtain⟨a,nt,u,hv,_⟩:=hF.get ephi;rw[hv];exact iteF ⟨_,rfl,g,eg⟩
 ·rintro σ' H' ⟨s2,rfl,g,eg⟩
  refine⟨_,rfl,_,rfl,t,v,d,kvs,φ,W,rfl,hR.mono g.tk,g _ _ hd,hF.mono g.tk,hO,hin,htg,hWt,λ t' ks W' v1 H1 g1 rt A=>?_⟩;have gH1:=g.trans g1;have hsz:t'.size<=60:=by rw[←zBQ,A.sk,zBQ];exact hO.sz
  have esz:t'.size=t.size:=by rw[←zBQ,A.sk,zBQ]
  have hP:=hP0.sk A.sk;have hwl:=A.wl;refine⟨_,rfl,?_⟩;refine⟨_,rfl,t',v1,rfl,rt,hsz,λ l us H2 g2 el pF=>⟨l,rfl,⟨us,SqL.of el⟩,?_⟩⟩;have gH2:=gH1.trans g2;refine zA8 (xs:=us) (λ i σ' H'=>E4 λ(s5 s6:Option V) (wv:V) (ww:Tr)=>A4 (σ'=[some v,some (.ref d),s2,some v1,some wv,s5,s6]) (Same H2 H') (Rep H' ww wv) (FilI φ t' i ww)) ⟨none,none,v1,t',rfl,.refl _,rt.mono g2.tk,FilI.start⟩ ?_ ?_ ?_
  ·rintro i σ' H' _ ⟨s5,s6,wv,ww,rfl,g,rw,hat⟩
   exact SqL.of (g _ _ el)
  ·rintro i x σ' H' hx ⟨s5,s6,wv,ww,rfl,g,rw,hat⟩
   obtain⟨pq,eq,u,ha,ru⟩:=zAW pF hx;obtain⟨pr,b,rfl,hpr,hb⟩:=ha;have hm:=lM eq;obtain⟨r,e1,e2,e3⟩:=zEW _ t' [] (lQ _) pq hm;rw[nV] at e1;subst e1;have gH:=gH2.trans g;have ru':=ru.mono g.tk;obtain⟨a0,hs0,us0,rfl,ha0,_,_⟩:=id ru'.all;have at0:atI (V.str pq.2.kd.s::hs0++us0) 0=some (.str pq.2.kd.s):=zAY (j:=0) rfl;refine⟨pr,_,rfl,SqT.of (g _ _ hpr),rfl,_,_,rfl,_,_,rfl,rfl,?_⟩;refine⟨_,rfl,a0,_,0,_,rfl,rfl,SqT.of ha0,at0,rfl,_,rfl,ite2 (λ cc=>?_) (λ cc=>?_)⟩
   ·have hsg:pq.2.kd = .gap:=Kd.eq_iff.mp (lS cc)
    obtain⟨gg,as,eg2⟩:∃g as,pq.2 = .gap g as:=by
     cases z:pq.2 with
     |gap g as=>exact⟨g,as,rfl⟩
     |bin o a b=>rw[z] at hsg;cases o<;>cases hsg
     |_=>rw[z] at hsg;cases hsg
    have hsub:Tr.gap gg as∈t'.subs:=by rw[←eg2,←zBa t' []];exact mD.mpr ⟨pq,hm,rfl⟩
    obtain⟨ns,pu,f1,f2,f3⟩:=hP.gp gg as hsub;obtain⟨z1,z3⟩:=hO.pz gg _ f1;obtain⟨z4,z5⟩:=hP.nl gg ns pu f1;rw[eg2] at e2;have gg2:=zHa _ _ _ e2 A.gd;have lf:∀a∈as,LfA φ a (lfF φ a):=λ a ha=>lf_ok λ x ex=>f3 x (ex▸ha)
    have lfj:∀(j:Nat) (a b:Atom),as[j]?=some a->(as.map (lfF φ))[j]?=some b->LfA φ a b:=λ j a b h1 h2=>by
     rw[mI,h1] at h2;cases h2;exact lf a (lM h1)
    refine⟨_,rfl,_,rfl,_,rfl,_,rfl,gg,as,as.map (lfF φ),.ref a0,d,kvs,φ,ns,pu,W',rfl,eg2▸ru',gH _ _ hd,hF.mono gH.tk,f1,z4,by simp,lfj,z1,z5,?_,by omega,λ x hx=>A.ww x (z3 x hx),?_,λ rr v3 H3 g3 r3 grr hbr=>?_⟩
    ·intro b hb
     obtain⟨a,ha,rfl⟩:=mD.mp hb;rcases zIL (lf a ha) with e|⟨n,e⟩
     ·rw[e];exact gg2.2.2 a ha
     ·rw[e];exact True.intro
    ·intro y hy
     obtain⟨a,ha,ea⟩:=mD.mp hy;rcases zIL (lf a ha) with e|⟨n,e⟩
     ·rw[e] at ea
      subst ea;exact A.kw y (A.tw y (zG5 _ _ _ e2 y (mX.mpr ⟨_,ha,by simp[Atom.names]⟩)))
     ·rw[e] at ea;cases ea
    have pcr:PcR φ gg as rr:=⟨ns,pu,as.map (lfF φ),f1,by rw[lC];exact f2,by simp,lfj,hbr⟩;have eq2:(psub [] t')[i]?=some (pq.1,.gap gg as):=by rw[eq,←eg2]
    have hat0:ww.at_ pq.1≠none:=by
     obtain⟨p,h1,_⟩:=(hat i _ eq2).2 (lQ _);dsimp only at h1;rw[h1];exact λ z=>nomatch z
    refine⟨_,_,wv,v3,b,pq.1,rfl,rw.mono g3.tk,r3,g3 _ _ (g _ _ hb),by omega,λ Ω v4 H4 g4 r4=>?_,λ z=>absurd z hat0⟩;exact⟨_,_,v4,_,rfl,g.trans (g3.trans g4),r4,hat.put eq2 pcr grr⟩
   ·refine⟨_,_,wv,ww,rfl,g,rw,hat.skip eq λ g as e=>cc ?_⟩
    rw[e];exact lU rfl
  ·rintro σ' H' ⟨s5,s6,wv,ww,rfl,g,rw,hat⟩
   have hl:=zAH pF;rw[hl] at hat;exact⟨_,rfl,q t' ww ks W' wv H' (gH2.trans g) rw A hat⟩
theorem zKV {φ:Fill}{t t' w:Tr}{W ks W':List Str}(A:Apt φ t W t.size t' ks W') (F:FilI φ t' (psub [] t').length w) (hp:∀g ns u,φ g=some (ns,u)->ngT u):blT noK 0 w=duT φ noK 0 t/\w.good GW/\ngT w:=by
 have hf:=FilI.done F;rw[←zA7 t []] at A;refine⟨?_,zBk (φ:=φ) t' w (λ pl u e=>?_) A.gd,zN4 hp hf⟩
 ·rw[zN5 hf noK 0 A.noc λ Ω Ω Ω Ω=>rfl]
  exact A.du noK 0
 ·obtain⟨j,hj⟩:=List.getElem?_of_mem (zGE pl t' u [] e)
  exact(F j _ hj).1 (lJ.mp hj).1
abbrev zCR:Stmt:=top 46
theorem zE6:zAV ["_law_script", "_law_k"] ["_law_script", "_law_k"] (zAN zCR):=scI
def zFF (K:W.Frag):Sp:=λ vs H Q Ω=>E3 λ(a:Addr) (ns:List Int) (k:Int)=>A4 (vs=[.ref a,.int k]) (SqL K H a (ns.map V.int)) (0<=k) (Q (.int (ns.getD k.toNat 0)) H)
theorem zIx (F:Fun K "_law_cell_at" "_law_cell_at" zCR f fd) (z_len:mg "len" = none):FnOk P w K mg base CX0 (k+1) f fd ["_law_script", "_law_k"] (zFF K):=by
 refine F.ok zE6 (λ vs H Q E h=>?_) (λ cdv A outer s H vs Q E hr h=>?_)
 ·obtain⟨a,ns,k,rfl,_⟩:=h
  rfl
 obtain⟨a,ns,k,rfl,hS,h0,q⟩:=h
 refine⟨_,(zAE (ps_if (zAP op_lt (pv 1) (cL z_len (zAA (pv 0) zAD)) (zAZ _)) (zAG (zAX (pe_ix (r:=rIxL K) zAg (pv 0) (pv 1) (λ Ω Ω=>rfl)))) zAU)
  (zAG (zAX zAF))),?_⟩
 refine⟨_,rfl,_,rfl,a,_,rfl,.inl hS,_,_,rfl,rfl,_,rfl,?_⟩;refine ite2 (λ c=>?_) (λ c=>?_)
 ·have c':k<((ns.map V.int).length:Int):=lS c
  rw[lC] at c';have hl:k.toNat<ns.length:=by omega
  have e:((k.toNat:Nat):Int)=k:=by omega
  have at_:=zAY (xs:=ns.map V.int) (j:=k.toNat) (v:=.int ns[k.toNat]) (by simp[hl]);rw[e] at at_;refine⟨_,rfl,_,rfl,a,_,k,_,rfl,rfl,hS,at_,?_⟩;have e2:ns.getD k.toNat 0=ns[k.toNat]:=by rw[List.getD_eq_getElem?_getD,nO hl,Option.getD_some]
  rw[←e2];exact q
 ·have c':¬k<((ns.map V.int).length:Int):=λ z=>c (lU z)
  rw[lC] at c'
  have e2:ns.getD k.toNat 0=0:=by
   rw[List.getD_eq_getElem?_getD,List.getElem?_eq_none (by omega)];rfl
  rw[e2] at q;exact q
abbrev zDE:Stmt:=top 47
theorem zAp:zAV ["_law_cell", "_law_many", "_law_letters", "_law_long", "_law_at", "_law_rest", "_law_signs", "_law_k", "_law_words_here", "_law_word"] ["_law_cell", "_law_many"] (zAN zDE):=scI
def zHr:Sp:=λ vs H Q Ω=>∃(c:Int),vs=[.int c,.int 14]/\∀(l:Addr) (H':Hp) (ws:List Str),Same H H'->H' l=some (.lst (ws.map V.str))->ws.length=14->ws.Nodup->(∀x∈ws,GW x)->Q (.ref l) H'
theorem zLQ (F:Fun K "_law_words" "_law_words" zDE f fd) (z_range:mg "range" = none):FnOk P w K mg base CX0 (k+1) f fd ["_law_cell", "_law_many"] zHr:=by
 refine F.ok zAp (λ vs H Q E h=>?_) (λ cdv A outer s H vs Q E hr h=>?_)
 ·obtain⟨c,rfl,_⟩:=h
  rfl
 obtain⟨c,rfl,q⟩:=h
 refine⟨_,(zAE (zH3 (i:=2) zAp.nd rfl (Or.inr rfl) zAT)
  (zAE (pS (i:=3) zAp.nd (pe_op zBz zAF (pe_op zAi (pv 0) zAF)))
  (zAE (pS (i:=4) zAp.nd (pe_op zAi (pe_op zAl (pv 0) zAF) (pv 3)))
  (zAE (pS (i:=5) zAp.nd (pe_op zAi (pe_op zAl (pv 0) zAF) (pe_op zEb zAF zAF)))
  (zAE (pS (i:=6) zAp.nd (zAv zAD:PE _ _ _))
  (zAE (zAt PassesOwn.never rfl (zDW (by rfl) z_range (zAA (pv 3) zAD)) (pGn (i:=7) zAp.nd) (zAE (pAp (pv 6) (pe_op zAi (pv 5) zAF))
  (zAG (pS (i:=5) zAp.nd (pe_op zAl (pv 5) zAF)))))
  (zAE (pS (i:=8) zAp.nd (zAv zAD:PE _ _ _))
  (zAE (zAt PassesOwn.never rfl (zDW (by rfl) z_range (zAA zAF zAD)) (pGn (i:=7) zAp.nd) (zAE (zJe (pe_op zAi (pe_op zBz (pe_ix (r:=rIxL K) zAg (pv 6) (pv 4) (λ Ω Ω=>rfl)) zAF) zAF) (zMH (pv 6) (pv 4) zH2))
  (zAE (pS (i:=9) zAp.nd (pe_bm PySem.F.plainAttrs_str PySem.F.slot_str_join PySem.F.type_str_join zM3 zAT (zAA (zBS ["_law_sign", "_law_letters"] [none,some 2] rfl (zAz (pv 6)) (λ Ω Ω Ω Ω Ω=>(zA5 (i:=0) (show List.Nodup (["_law_sign", "_law_letters"]:List Str) by left) rfl (Or.inl rfl))) (λ Ω Ω Ω Ω Ω=>zCi) (λ Ω Ω Ω Ω Ω=>(pe_ix zKL (pv 1) (pv 0) (λ Ω Ω=>rfl))) rfl) zAD)))
  (zAG (ps_if (zAP (r:=rIn K true) zB2 (pv 9) (zHL [.str "let", .str "in", .str "if", .str "then", .str "else", .str "say", .str "ask", .str "stop", .str "where", .str "quiet", .str "number"] (by rfl):PE _ _ _) rfl) (zAG (pAp (pv 8) (pv 9))) zAU)))))
  (zAG (zAX (zAo (r:=rSlL K) zA3 (pv 8) zA4 (zAk (pv 1))))))))))))),?_⟩
 generalize hL:Str.ofString "etaoinshrdlucmfwypvbgkqjxz" = L;have hLlen:L.cps.toList.length=26:=by rw[←hL];left
 have hLl:L.length<=1000:=by rw[←hL];left
 have hLn:L.cps.toList.Nodup:=by rw[←hL];left
 have hLab:∀n<26,97<=ltD L n/\ltD L n<=122:=by rw[←hL];left
 have n0:=rB c (show (8:Int)≠0 by decide);have n1:=rC c (show (0:Int)<8 by decide);refine⟨_,rfl,_,_,rfl,rfl,(show (0:Int)<8 by decide),_,_,rfl,rfl,?_⟩;refine⟨_,rfl,_,_,rfl,rfl,⟨(show (0:Int)<8 by decide),(show (8:Int)<1073741824 by decide)⟩,_,rfl,_,_,rfl,rfl,(show (0:Int)<1+c % 8 by omega),?_⟩;have a0:=rB (c / 8) (show 1+c % 8≠0 by omega);have a1:=rC (c / 8) (show (0:Int)<1+c % 8 by omega);refine⟨_,rfl,_,_,rfl,rfl,⟨(show (0:Int)<64 by decide),(show (64:Int)<1073741824 by decide)⟩,_,_,rfl,rfl,⟨by decide,by decide,by decide⟩,_,_,rfl,rfl,(show (0:Int)<26 ^ 8 by decide),?_⟩;dsimp only;generalize c / 64 % 26 ^ (8:Int).toNat=rest0;obtain⟨pn,epn⟩:∃pn:Nat,(pn:Int)=c / 8 % (1+c % 8):=⟨(c / 8 % (1+c % 8)).toNat,by omega⟩;obtain⟨N,eN⟩:∃N:Nat,(N:Int)=1+c % 8:=⟨(1+c % 8).toNat,by omega⟩;rw[←epn,←eN];have hpN:pn<N:=by omega
 have hN8:N<=8:=by omega
 refine⟨(by show 0<=sizeLine;decide),λ sg hsg=>?_⟩;have g0:=zAC (o:=.lst []) hsg;have es0:=@zAB H sg (.lst []);show tSeq _ _ _ _ (upd H sg (.lst []));generalize upd H sg _=H0 at g0 es0 ⊢;refine⟨_,rfl,(N:Int),rfl,by omega,by omega,?_⟩;refine zDe (n:=((N:Nat):Int).toNat) (λ i σ' H'=>E3 λ(rest:Int) (ns:List Nat) (s7:Option V)=>A5 (σ'=[some (.int c),some (.int 14),some (.str L),some (.int (N:Int)),some (.int (pn:Int)),some (.int rest),some (.ref sg),s7,none,none]) (Same H H') (H' sg=some (.lst (numV ns))) (ns.length=i) (∀x∈ns,x<26)) ⟨rest0,[],none,rfl,g0,es0,rfl,(λ x hx=>nomatch hx)⟩ ?_ ?_
 ·rintro i σ' H' hi ⟨rest,ns,s7,rfl,g,es,ln,hx⟩
  have hi':i<N:=by simpa using hi
  have m0:=rB rest (show (26:Int)≠0 by decide);have m1:=rC rest (show (0:Int)<26 by decide);obtain⟨rn,ern⟩:∃rn:Nat,(rn:Int)=rest % 26:=⟨(rest % 26).toNat,by omega⟩;refine⟨_,rfl,.inl ⟨rfl,_,SqL.of es⟩,_,rfl,_,_,rfl,rfl,(show (0:Int)<26 by decide),sg,_,_,rfl,rfl,es,zAM (by unfold numV;rw[lC];omega),?_⟩;refine⟨_,rfl,_,_,rfl,rfl,⟨(show (0:Int)<26 by decide),(show (26:Int)<1073741824 by decide)⟩,?_⟩;refine⟨_,ns++[rn],_,rfl,zAQ g hsg,?_,by simp[ln],λ x hx'=>?_⟩
  ·rw[zAB]
   unfold numV;rw[mQ];show some (HO.lst (_++[V.int (rest % 26)]))=_;rw[←ern];rfl
  ·rcases lK.mp hx' with h|h
   ·exact hx x h
   ·rw[mR.mp h];omega
 rintro σ' H1 ⟨rest,ns,s7,rfl,g1,es1,ln,hx⟩;have ln':ns.length=N:=by rw[ln];simp
 have hx0:=hx;refine⟨(by show 0<=sizeLine;decide),λ wo hwo=>?_⟩;have g2:=zAC (o:=.lst []) hwo;have ew0:=@zAB H1 wo (.lst []);have es2:=g2 _ _ es1;have hwoH:H wo=none:=g1.free hwo;have nsw:sg≠wo:=λ z=>by rw[←z,es1] at hwo;cases hwo
 show tSeq _ _ _ _ (upd H1 wo (.lst []));generalize upd H1 wo _=H2 at g2 ew0 es2 ⊢;obtain⟨s0,es00⟩:∃s0,ns[pn]?=some s0:=⟨_,lX (by omega)⟩;have hs0:s0<26:=hx s0 (lM es00)
 have hset:ns.set pn ((s0+0) % 26)=ns:=by
  rw[Nat.add_zero,Nat.mod_eq_of_lt hs0];apply List.ext_getElem?;intro j;rw[List.getElem?_set]
  by_cases e:pn=j
  ·subst e
   rw[if_pos rfl,if_pos (by omega),es00]
  ·rw[if_neg e]
 refine⟨26,rfl,by decide,by decide,?_⟩;refine zDe (n:=(26:Int).toNat) (λ i σ' H'=>E2 λ(s7 s9:Option V)=>A4 (σ'=[some (.int c),some (.int 14),some (.str L),some (.int (N:Int)),some (.int (pn:Int)),some (.int rest),some (.ref sg),s7,some (.ref wo),s9]) (Same H H') (H' sg=some (.lst (numV (ns.set pn ((s0+i) % 26))))) (H' wo=some (.lst ((((List.range i).map (zBr L ns pn s0)).filter λ x=>!kept11.contains x).map V.str)))) ?_ ?_ ?_
 ·exact⟨_,none,rfl,g1.trans g2,by rw[hset];exact es2,ew0⟩
 ·rintro i σ' H' hi ⟨s7,s9,rfl,g,es,ew⟩
  have hi26:i<26:=by simpa using hi
  obtain⟨vv,evv⟩:∃vv,vv=(s0+i) % 26:=⟨_,rfl⟩;rw[←evv] at es
  have atp:atI (numV (ns.set pn vv)) (pn:Int)=some (.int (vv:Int)):=by
   refine zAY ?_;unfold numV;rw[mI,rH (by omega)];rfl
  have lset:(numV (ns.set pn vv)).length=N:=by unfold numV;rw[lC,List.length_set,ln']
  have hix:ixN (numV (ns.set pn vv)).length (pn:Int)=some pn:=by
   rw[lset];unfold ixN;rw[if_pos (by omega),if_pos (by omega)];simp
  have enew:((vv:Int)+1) % 26=(((s0+(i+1)) % 26:Nat):Int):=by omega
  refine⟨_,rfl,_,rfl,sg,_,_,_,rfl,rfl,SqL.of es,atp,_,_,rfl,rfl,_,_,rfl,rfl,(show (0:Int)<26 by decide),_,rfl,_,rfl,sg,_,_,pn,rfl,rfl,es,hix,?_⟩;obtain⟨ms,ems⟩:∃ms,ms=ns.set pn ((s0+(i+1)) % 26):=⟨_,rfl⟩;have eset:(numV (ns.set pn vv)).set pn (.int (((vv:Int)+1) % 26))=numV ms:=by rw[enew,zLc,List.set_set,ems]
  show tSeq _ _ _ _ (upd H' sg (.lst ((numV (ns.set pn vv)).set pn (.int (((vv:Int)+1) % 26)))));rw[eset];have g3:Same H (upd H' sg (.lst (numV ms))):=zAQ g hsg;have es3:=@zAB H' sg (.lst (numV ms));have ew3:(upd H' sg (.lst (numV ms))) wo=some (.lst ((((List.range i).map (zBr L ns pn s0)).filter λ x=>!kept11.contains x).map V.str)):=by rw[zAK (Ne.symm nsw)];exact ew
  generalize upd H' sg _=H3 at g3 es3 ew3 ⊢;have lms:ms.length=N:=by rw[ems,List.length_set,ln']
  have hms:∀x∈ms,x<26:=λ x hx'=>by
   rw[ems] at hx';rcases List.mem_or_eq_of_mem_set hx' with h|h
   ·exact hx x h
   ·omega
  refine⟨rfl,_,rfl,sg,rfl,⟨_,SqL.of es3⟩,λ acc hacc=>?_⟩;refine zBp (xs:=numV ms) (λ j H'=>Same H3 H'/\H' acc=some (.lst (((ms.take j).map λ n=>(⟨#[ltD L n]⟩:Str)).map V.str))) ⟨zAC hacc,zAB⟩ (λ j H' Ω h=>SqL.of (h.1 _ _ es3)) ?_ ?_
  ·rintro j x Hx hxj ⟨gx,ex⟩
   obtain⟨n,hn,rfl⟩:∃n,ms[j]?=some n/\x=V.int (n:Int):=by
    unfold numV at hxj;rw[mI] at hxj;obtain⟨n,h1,h2⟩:=lV.mp hxj;exact⟨n,h1,h2.symm⟩
   have hj:j<ms.length:=(lJ.mp hn).1;have hn26:=hms n (lM hn)
   have atl:atI L.cps.toList (n:Int)=some (ltD L n):=by
    refine zAY ?_;unfold ltD;rw[List.getD_eq_getElem?_getD,nO (by omega)];rfl
   refine⟨.skip (.keep .nil),_,rfl,_,rfl,L,_,_,rfl,rfl,zAm hLl,atl,_,ex,zAM (by simp;omega),zAQ gx hacc,?_⟩;rw[zAB,zAR hn,mQ,mQ];rfl
  rintro H4 ⟨g4,e4⟩;have lnm:(numV ms).length=ms.length:=by unfold numV;rw[lC]
  rw[lnm,mP] at e4;have eys:(ms.map λ n=>(⟨#[ltD L n]⟩:Str))=(ms.map (ltD L)).map λ c=>(⟨#[c]⟩:Str):=by rw[nT];rfl
  have eW:∀z:Str,z.cps=#[]->Txt.join z (ms.map λ n=>(⟨#[ltD L n]⟩:Str))=zBr L ns pn s0 i:=λ z hz=>by
   have h1:=zI7 hz (ms.map (ltD L));rw[←eys] at h1;unfold zBr;rw[show s0+i+1=s0+(i+1) by omega,←ems,←h1]
  have hsum:((ms.map λ n=>(⟨#[ltD L n]⟩:Str)).map (·.length)).sum+(ms.map λ n=>(⟨#[ltD L n]⟩:Str)).length<=1048576:=by
   have key:∀l:List Nat,((l.map λ n=>(⟨#[ltD L n]⟩:Str)).map (·.length)).sum=l.length:=by
    intro l
    induction l with
    |nil=>rfl
    |cons a l ih =>
     rw[mL,mL,List.sum_cons,ih,mM];show 1+l.length=_;omega
   rw[key,lC];omega
  refine⟨_,acc,_,rfl,rfl,e4,by left,hsum,?_⟩;rw[eW _ (by left)];generalize hwd:zBr L ns pn s0 i=wd0;have g34:=g3.trans g4;have es4:=g4 _ _ es3;have ew4:=g4 _ _ ew3;refine⟨_,rfl,(by show 11<=sizeLine;decide),λ pt hpt=>⟨pt,kept11.map V.str,rfl,.inr (SqT.of zAB),rfl,rfl,_,rfl,?_⟩⟩;have k5:=zAC (o:=.tup (kept11.map V.str)) hpt;have es5:=k5 _ _ es4;have ew5:=k5 _ _ ew4;have hcon:(kept11.contains wd0=true)↔inV (.str wd0) (kept11.map V.str)=true:=by rw[zGj,List.contains_iff_mem]
  have hrange:((List.range (i+1)).map (zBr L ns pn s0)).filter (λ x=>!kept11.contains x)=(((List.range i).map (zBr L ns pn s0)).filter λ x=>!kept11.contains x)++(if kept11.contains wd0=true then [] else [wd0]):=by
   rw[List.range_succ,mQ,List.filter_append,mL,List.map_nil,hwd];congr 1
   by_cases h:kept11.contains wd0=true
   ·rw[if_pos h,List.filter_cons_of_neg (by rw[h];decide)]
    rfl
   ·have h':kept11.contains wd0=false:=by
     cases e:kept11.contains wd0 with
     |true=>exact absurd e h
     |false=>rfl
    rw[if_neg h,List.filter_cons_of_pos (by rw[h'];rfl)];rfl
  refine ite2 (λ c1=>?_) (λ c1=>?_)
  ·have nc:¬kept11.contains wd0=true:=λ z=>by
    rw[hcon.mp z] at c1;cases c1
   have lfl:((((List.range i).map (zBr L ns pn s0)).filter λ x=>!kept11.contains x).map V.str).length<=i:=by
    rw[lC];have:=List.length_filter_le (λ x=>!kept11.contains x) ((List.range i).map (zBr L ns pn s0));simpa using this
   refine⟨_,rfl,.inl ⟨rfl,_,SqL.of ew5⟩,_,rfl,wo,_,_,rfl,rfl,ew5,zAM (by omega),?_⟩;refine⟨_,_,rfl,zAQ (g34.trans k5) hwoH,by rw[zAK nsw,←ems];exact es5,?_⟩;rw[zAB,hrange,if_neg nc,mQ];rfl
  ·have yc:kept11.contains wd0=true:=by
    refine hcon.mpr ?_;cases h:inV (.str wd0) (kept11.map V.str) with
    |true=>rfl
    |false=>exact absurd (by rw[h];rfl) c1
   refine⟨_,_,rfl,g34.trans k5,by rw[←ems];exact es5,?_⟩;rw[hrange,if_pos yc,nR];exact ew5
 ·rintro σ' H' ⟨s7,s9,rfl,g,es,ew⟩
  obtain⟨all,eall⟩:∃all,all=(List.range 26).map (zBr L ns pn s0):=⟨_,rfl⟩;have hall:H' wo=some (.lst ((all.filter λ x=>!kept11.contains x).map V.str)):=by rw[eall];exact ew
  have nda:all.Nodup:=by
   rw[eall];refine List.pairwise_map.mpr ?_;refine List.Pairwise.imp_of_mem ?_ List.nodup_range;intro a b ha hb hab e;exact hab (zK3 hLlen hLn (by omega) (List.mem_range.mp ha) (List.mem_range.mp hb) e)
  have la:all.length=26:=by rw[eall];simp
  have h15:14<=(all.filter λ x=>!kept11.contains x).length:=by
   have h1:=zEE (λ x=>kept11.contains x) all
   have h2:=zIF (T:=kept11) (nda.filter (λ x=>kept11.contains x)) λ g hg=>by
    have:=(List.mem_filter.mp hg).2;exact List.contains_iff_mem.mp this
   have h3:kept11.length=11:=rfl;omega
  refine⟨_,rfl,_,rfl,14,rfl,wo,_,rfl,SqL.of hall,λ p hp=>?_⟩
  have ecut:cutV ((all.filter λ x=>!kept11.contains x).map V.str) none (some 14)=((all.filter λ x=>!kept11.contains x).take 14).map V.str:=by
   have e:HT.sIx ((all.filter λ x=>!kept11.contains x).map V.str).length 0 none=0:=rfl;have e2:=HT.sIx_nat ((all.filter λ x=>!kept11.contains x).map V.str).length ((all.filter λ x=>!kept11.contains x).map V.str).length 14;rw[show ((14:Nat):Int)=14 from rfl] at e2;unfold cutV;rw[e,e2,lC,rA h15];simp
  rw[ecut];refine q p _ ((all.filter λ x=>!kept11.contains x).take 14) (g.trans (zAC hp)) zAB (by rw[mO];omega) ((nda.filter _).take) (λ x hx=>?_);obtain⟨hx',hx2⟩:=List.mem_filter.mp (nF hx);rw[eall] at hx';obtain⟨i,_,rfl⟩:=mD.mp hx'
  have l1:(zBr L ns pn s0 i).length=N:=by
   show ((ns.set pn ((s0+i+1) % 26)).map (ltD L)).toArray.size=N;simp;omega
  refine⟨by omega,by omega,λ z=>?_,λ cc hcc=>?_⟩
  ·have:kept11.contains (zBr L ns pn s0 i)=true:=List.contains_iff_mem.mpr z
   rw[this] at hx2;cases hx2
  ·have hcc':cc∈(ns.set pn ((s0+i+1) % 26)).map (ltD L):=by
    have:cc∈(((ns.set pn ((s0+i+1) % 26)).map (ltD L)).toArray).toList:=hcc;simpa using this
   obtain⟨n,hn,rfl⟩:=mD.mp hcc'
   have hn26:n<26:=by
    rcases List.mem_or_eq_of_mem_set hn with h|h
    ·exact hx0 n h
    ·omega
   exact hLab n hn26
abbrev zDv:Stmt:=top 48
theorem zEM:zAV ["_law_cell", "_law_words_here", "_law_loud", "_law_way"] ["_law_cell", "_law_words_here", "_law_loud"] (zAN zDv):=scI
abbrev zCx:Stmt:=top 49
theorem zBK:zAV ["_law_cells", "_law_words_here", "_law_lets", "_law_cell", "_law_rest", "_law_sign", "_law_cut", "_law_one", "_law_other"] ["_law_cells", "_law_words_here", "_law_lets"] (zAN zCx):=scI
def OutT (W:List Str) (n:Nat) (H:Hp) (Q:VK):Prop:=∀(t:Tr) (v:V) (H':Hp),Same H H'->Rep H' t v->t.size<=n->t.good (λ x=>x∈W)->ngT t->Q v H'
def zFj:Sp:=λ vs H Q Ω=>E5 λ(c:Int) (wl:Addr) (b:Bool) (ws W:List Str)=>A5 (vs=[.int c,.ref wl,.bl b]) (H wl=some (.lst (ws.map V.str))) (0<ws.length) (∀x∈ws,x∈W) (OutT W 1 H Q)
theorem zLX (F:Fun K "_law_leaf" "_law_leaf" zDv f fd) (z_len:mg "len" = none):FnOk P w K mg base CX0 (k+1) f fd ["_law_cell", "_law_words_here", "_law_loud"] zFj:=by
 refine F.ok zEM (λ vs H Q E h=>?_) (λ cdv A outer s H vs Q E hr h=>?_)
 ·obtain⟨c,wl,b,ws,W,rfl,_⟩:=h
  rfl
 obtain⟨c,wl,b,ws,W,rfl,hw,lw,hin,qq⟩:=h
 refine⟨_,(zAE (pS (i:=3) zEM.nd (pe_op zAi (pv 0) zAF))
  (zAE (ps_if (zAP op_eq (pv 3) zAF (zAZ _)) (zAG (zAX (zAh (zAA zAT (zAA (pe_op zAi (pe_op zAl (pv 0) zAF) (pe_op zEb zAF zAF)) zAD)):PE _ _ _))) zAU)
  (zAE (ps_if (zFJ (zAP op_eq (pv 3) zAF (zAZ _)) (zDy (zC0 (pv 2) (λ Ω=>rfl)))).pt (zAG (zAX (zAh (zAA (pe_ix (r:=rIxL K) zAg (zAv (zAA zAT (zAA zAT zAD)):PE _ _ _) (pe_op zAi (pe_op zAl (pv 0) zAF) zAF) (λ Ω Ω=>rfl)) (zAA (pe_ix (r:=rIxL K) zAg (pv 1) (pe_op zAi (pe_op zAl (pv 0) zAF) (cL z_len (zAA (pv 1) zAD))) (λ Ω Ω=>rfl)) zAD)):PE _ _ _))) zAU)
  (zAG (zAX (zAh (zAA zAT (zAA (pe_ix (r:=rIxL K) zAg (pv 1) (pe_op zAi (pe_op zAl (pv 0) zAF) (cL z_len (zAA (pv 1) zAD))) (λ Ω Ω=>rfl)) zAD)):PE _ _ _)))))),?_⟩
 have d2:2<=sizeLine:=by decide
 have f4:(0:Int)<4/\(4:Int)<1073741824:=⟨by decide,by decide⟩;have f8:(0:Int)<8/\(8:Int)<1073741824:=⟨by decide,by decide⟩;have one:1<=1:=lQ _;refine⟨_,rfl,_,_,rfl,rfl,(show (0:Int)<4 by decide),?_⟩;refine⟨_,rfl,rfl,_,rfl,ite2 (λ Ω=>?_) (λ Ω=>?_)⟩
 ·refine⟨_,rfl,_,_,rfl,rfl,f4,_,_,rfl,rfl,⟨by decide,by decide,by decide⟩,_,_,rfl,rfl,(show (0:Int)<10 ^ 30 by decide),d2,λ pt hpt=>?_⟩
  exact qq (.num _) _ _ (zAC hpt) ⟨pt,rfl,zAB⟩ one trivial trivial
 refine⟨_,rfl,rfl,_,rfl,ite2 (λ Ω=>⟨_,rfl,b,rfl,ite2 (λ Ω=>?_) (λ Ω=>?_)⟩) (λ Ω=>?_)⟩
 ·obtain⟨v,hv,ev⟩:=zKs (c / 4)
  obtain⟨x,hx,atx,lp⟩:=pickM (L:=ws) (c / 8) lw;refine⟨d2,λ p0 hp0=>⟨_,rfl,_,_,rfl,rfl,f4,_,_,rfl,rfl,(show (0:Int)<2 by decide),p0,_,_,_,rfl,rfl,SqL.of zAB,ev,?_⟩⟩;have k2:=zAC (o:=.lst [.str "ask", .str "stop"]) hp0;have hw2:=k2 _ _ hw;refine⟨_,rfl,_,rfl,_,_,rfl,rfl,f8,_,rfl,wl,_,rfl,.inl (SqL.of hw2),_,_,rfl,rfl,lp,wl,_,_,_,rfl,rfl,SqL.of hw2,atx,d2,λ pt hpt=>?_⟩;simp only[nN,nB,or_false] at hv;rcases hv with rfl|rfl
  ·exact qq (.ask x) _ _ (k2.trans (zAC hpt)) ⟨pt,rfl,zAB⟩ one (hin x hx) trivial
  ·exact qq (.stop x) _ _ (k2.trans (zAC hpt)) ⟨pt,rfl,zAB⟩ one (hin x hx) trivial
 all_goals
  obtain⟨x,hx,atx,lp⟩:=pickM (L:=ws) (c / 4) lw;refine⟨_,rfl,_,rfl,_,_,rfl,rfl,f4,_,rfl,wl,_,rfl,.inl (SqL.of hw),_,_,rfl,rfl,lp,wl,_,_,_,rfl,rfl,SqL.of hw,atx,d2,λ pt hpt=>?_⟩;exact qq (.name x) _ _ (zAC hpt) ⟨pt,rfl,zAB⟩ one (hin x hx) trivial
theorem zJU (z:Int):∃s:Str,atI [V.str "let", .str "add", .str "if", .str "mul", .str "say", .str "let", .str "then", .str "let"] (z % 8)=some (.str s)/\((∃o:Bin,s=o.s)\/s = "if" \/ s = "say" \/ s = "let"):=by
 have h0:=rB z (show (8:Int)≠0 by decide);have h1:=rC z (show (0:Int)<8 by decide);have h:z % 8=0\/z % 8=1\/z % 8=2\/z % 8=3\/z % 8=4\/z % 8=5\/z % 8=6\/z % 8=7:=by omega
 rcases h with h|h|h|h|h|h|h|h<;>rw[h]<;>refine⟨_,rfl,?_⟩<;>first|exact .inr (.inr (.inr rfl))|exact .inr (.inl rfl)|exact .inr (.inr (.inl rfl))|exact .inl ⟨.add,rfl⟩|exact .inl ⟨.mul,rfl⟩|exact .inl ⟨.thn,rfl⟩|exact .inl ⟨.sub,rfl⟩
def zCv (K:W.Frag) (n:Nat):Sp:=λ vs H Q Ω=>E7 λ(a wl ll:Addr) (cells:List Int) (ws ls W:List Str)=>A12 (vs=[.ref a,.ref wl,.ref ll]) (SqL K H a (cells.map V.int)) (1<=cells.length) (cells.length<=n) (n<=12) (H wl=some (.lst (ws.map V.str))) (H ll=some (.lst (ls.map V.str))) (0<ws.length) (0<ls.length) (∀x∈ws,x∈W) (∀x∈ls,x∈W) (OutT W (2 * cells.length - 1) H Q)
theorem zLW (F:Fun K "_law_tree" "_law_tree" zCx f fd) (z_len:mg "len" = none) (zOu:FnB P w K mg base k "_law_leaf" g1 gd1 ["_law_cell", "_law_words_here", "_law_loud"] zFj)
  (zOv:FnB P w K mg base k "_law_tree" f fd ["_law_cells", "_law_words_here", "_law_lets"] (zCv K n)):FnOk P w K mg base CX0 (k+1) f fd ["_law_cells", "_law_words_here", "_law_lets"] (zCv K (n+1)):=by
 refine F.ok zBK (λ vs H Q E h=>?_) (λ cdv A outer s H vs Q E hr h=>?_)
 ·obtain⟨a,wl,ll,cells,ws,ls,W,rfl,_⟩:=h
  rfl
 obtain⟨a,wl,ll,cells,ws,ls,W,rfl,hS,h1,hn,h12,hw,hl,lw,ln,iw,il,qq⟩:=h
 refine⟨_,(Sd.un (zAI (pSS (i:=3) zBK.nd (zCG (r:=rIxL K) zAg ⟨pv 0⟩ ⟨zAF⟩ (λ Ω Ω=>rfl)))
  (zAI (pSS (i:=4) zBK.nd ⟨zAo (r:=rSlL K) zA3 (pv 0) (zAk zAF) zA4⟩)
  (zAI (zBN ⟨zAP op_eq (cL z_len (zAA (pv 4) zAD)) zAF (zAZ _)⟩ (zAa (zAq ⟨pe_cl zOu hr (zAA (pv 3) (zAA (pv 1) (zAA (zCm op_eq (pe_op zAi (pe_op zAl (pv 3) zAF) zAF) zAF (zAZ _)) zAD)))⟩)) ⟨zAU⟩)
  (zAI (pSS (i:=5) zBK.nd (zCG (r:=rIxL K) zAg ⟨zJo [.str "let", .str "add", .str "if", .str "mul", .str "say", .str "let", .str "then", .str "let"] (by rfl)⟩ ⟨pe_op zAi (pv 3) zAF⟩ (λ Ω Ω=>rfl)))
  (zAI (zBN ⟨(pw_or (zAP op_eq (cL z_len (zAA (pv 4) zAD)) zAF (zAZ _)) (zET (zAP op_eq (pv 5) zAT (zAZ _)))).pt⟩ (zAa (zAq (zBA (zAL ⟨zAT⟩ (zAL (zBA (zAL ⟨zAT⟩ (zAL (zCG (r:=rIxL K) zAg ⟨pv 1⟩ ⟨pe_op zAi (pe_op zAl (pv 3) zAF) (cL z_len (zAA (pv 1) zAD))⟩ (λ Ω Ω=>rfl)) ⟨zAD⟩))) (zAL ⟨pe_cl zOv hr (zAA (pv 4) (zAA (pv 1) (zAA (pv 2) zAD)))⟩ ⟨zAD⟩)))))) ⟨zAU⟩)
  (zAI (pSS (i:=6) zBK.nd ⟨pe_op zBz zAF (pe_op zAi (pe_op zAl (pv 3) zAF) (pe_op zIC (cL z_len (zAA (pv 4) zAD)) zAF))⟩)
  (zAI (pSS (i:=7) zBK.nd ⟨pe_cl zOv hr (zAA (zAo (r:=rSlL K) zA3 (pv 4) zA4 (zAk (pv 6))) (zAA (pv 1) (zAA (pv 2) zAD)))⟩)
  (zAI (pSS (i:=8) zBK.nd ⟨pe_cl zOv hr (zAA (zAo (r:=rSlL K) zA3 (pv 4) (zAk (pv 6)) zA4) (zAA (pv 1) (zAA (pv 2) zAD)))⟩)
  (zAI (zBN ⟨zAP op_eq (pv 5) zAT (zAZ _)⟩ (zAa (zAq (zBA (zAL ⟨zAT⟩ (zAL (zCG (r:=rIxL K) zAg ⟨pv 2⟩ ⟨pe_op zAi (pe_op zAl (pv 3) zAF) (cL z_len (zAA (pv 2) zAD))⟩ (λ Ω Ω=>rfl)) (zAL ⟨pv 7⟩ (zAL ⟨pv 8⟩ ⟨zAD⟩))))))) ⟨zAU⟩)
  (zAI (zBN ⟨zAP op_eq (pv 5) zAT (zAZ _)⟩ (zAa (zAq (zBA (zAL ⟨zAT⟩ (zAL ⟨pv 7⟩ (zAL (zBA (zAL ⟨zAT⟩ (zAL (zBA (zAL ⟨zAT⟩ (zAL (zCG (r:=rIxL K) zAg ⟨pv 1⟩ ⟨pe_op zAi (pe_op zAl (pv 3) zAF) (cL z_len (zAA (pv 1) zAD))⟩ (λ Ω Ω=>rfl)) ⟨zAD⟩))) ⟨zAD⟩))) (zAL ⟨pv 8⟩ ⟨zAD⟩))))))) ⟨zAU⟩)
  (zAa (zAq (zBA (zAL ⟨pv 5⟩ (zAL ⟨pv 7⟩ (zAL ⟨pv 8⟩ ⟨zAD⟩))))))))))))))))),?_⟩
 have d2:2<=sizeLine:=by decide
 have d3:3<=sizeLine:=by decide
 have d4:4<=sizeLine:=by decide
 have f8:(0:Int)<8/\(8:Int)<1073741824:=⟨by decide,by decide⟩;have f64:(0:Int)<64/\(64:Int)<1073741824:=⟨by decide,by decide⟩;have fK:(0:Int)<1000/\(1000:Int)<1073741824:=⟨by decide,by decide⟩
 obtain⟨c,rest,rfl⟩:∃c rest,cells=c::rest:=by
  cases cells with
  |nil=>simp at h1
  |cons c r=>exact⟨c,r,rfl⟩
 have at0:atI ((c::rest).map V.int) 0=some (.int c):=zAY (j:=0) rfl;refine⟨_,rfl,a,_,0,_,rfl,rfl,hS,at0,?_⟩;refine⟨_,rfl,1,rfl,a,_,rfl,hS,λ pr hpr=>?_⟩;rw[zKk];have k1:=zAC (o:=.lst (rest.map V.int)) hpr;have er:=@zAB H pr (.lst (rest.map V.int));show tSeq _ _ _ _ (upd H pr (.lst (rest.map V.int)));generalize upd H pr _=H1 at k1 er ⊢;rw[mM] at hn;rw[mM] at qq;refine⟨_,rfl,pr,_,rfl,.inl (SqL.of er),rfl,_,rfl,ite2 (λ e0=>?_) (λ e0=>?_)⟩
 ·exact⟨_,rfl,_,rfl,_,rfl,_,_,rfl,rfl,fK,_,_,rfl,rfl,(show (0:Int)<2 by decide),rfl,c,wl,_,ws,W,rfl,k1 _ _ hw,lw,iw,λ t v H2 g2 r2 s2 a2 b2=>qq t v H2 (k1.trans g2) r2 (by omega) a2 b2⟩
 have hr1:1<=rest.length:=by
  rcases nG rest.length with h|h
  ·exact absurd (lU (by rw[lC,h];rfl)) e0
  ·exact h
 obtain⟨sg,atsg,hsg⟩:=zJU c;refine⟨(by show 8<=sizeLine;decide),λ pl hpl=>?_⟩;have k2:=zAC (o:=.lst [.str "let", .str "add", .str "if", .str "mul", .str "say", .str "let", .str "then", .str "let"]) hpl;refine⟨_,rfl,_,_,rfl,rfl,(show (0:Int)<8 by decide),pl,_,_,_,rfl,rfl,SqL.of zAB,atsg,?_⟩;have k12:=k1.trans k2;have er2:=k2 _ _ er;show tSeq _ _ _ _ (upd H1 pl _);generalize upd H1 pl _=H2 at k12 er2 ⊢;have hw2:=k12 _ _ hw;have hl2:=k12 _ _ hl;have n12:n<=12:=by omega
 obtain⟨x8,hx8,atx8,lp8⟩:=pickM (L:=ws) (c / 8) lw;obtain⟨x64,hx64,atx64,lp64⟩:=pickM (L:=ws) (c / 64) lw;obtain⟨y64,hy64,aty64,ly64⟩:=pickM (L:=ls) (c / 64) ln
 have sayG:∀(pn:Addr),H2 pn=none->∀(t1:Tr) (v1:V) (H4:Hp),Same (upd H2 pn (.tup [.str "name", .str x8])) H4->Rep H4 t1 v1->t1.size<=2 * rest.length - 1->t1.good (λ x=>x∈W)->ngT t1->3<=sizeLine/\∀pt,H4 pt=none->Q (.ref pt) (upd H4 pt (.tup [.str "sub", .ref pn,v1])):=λ pn hpn t1 v1 H4 g4 r1 s1 a1 b1=>⟨d3,λ pt hpt=>by
  have k7:=zAC (o:=.tup [.str "sub", .ref pn,v1]) hpt;refine qq (.bin .sub (.name x8) t1) _ _ (k12.trans ((zAC hpn).trans (g4.trans k7))) ⟨pt,.ref pn,v1,rfl,zAB,⟨pn,rfl,k7 _ _ (g4 _ _ zAB)⟩,r1.mono k7.tk⟩ ?_ ⟨iw _ hx8,a1⟩ ⟨trivial,b1⟩;show 1+t1.size+1<=_;omega⟩
 refine⟨_,rfl,pr,_,rfl,.inl (SqL.of er2),rfl,_,rfl,ite2 (λ Ω=>iteT ?_) (λ e1=>⟨_,rfl,rfl,_,rfl,ite2 (λ Ω=>?_) (λ e2=>?_)⟩)⟩
 ·refine⟨_,rfl,_,rfl,_,_,rfl,rfl,f8,_,rfl,wl,_,rfl,.inl (SqL.of hw2),_,_,rfl,rfl,lp8,wl,_,_,_,rfl,rfl,SqL.of hw2,atx8,d2,λ pn hpn=>?_⟩
  have kn:=zAC (o:=.tup [.str "name", .str x8]) hpn;exact⟨_,rfl,_,rfl,_,rfl,pr,wl,ll,rest,ws,ls,W,rfl,SqL.of (kn _ _ er2),hr1,by omega,n12,kn _ _ hw2,kn _ _ hl2,lw,ln,iw,il,sayG pn hpn⟩
 ·refine⟨_,rfl,_,rfl,_,_,rfl,rfl,f8,_,rfl,wl,_,rfl,.inl (SqL.of hw2),_,_,rfl,rfl,lp8,wl,_,_,_,rfl,rfl,SqL.of hw2,atx8,d2,λ pn hpn=>?_⟩
  have kn:=zAC (o:=.tup [.str "name", .str x8]) hpn;exact⟨_,rfl,_,rfl,_,rfl,pr,wl,ll,rest,ws,ls,W,rfl,SqL.of (kn _ _ er2),hr1,by omega,n12,kn _ _ hw2,kn _ _ hl2,lw,ln,iw,il,sayG pn hpn⟩
 have hr2:2<=rest.length:=by
  rcases Nat.lt_or_ge rest.length 2 with h|h
  ·exact absurd (lU (by rw[lC,show rest.length=1 by omega];rfl)) e1
  ·exact h
 have hns:sg ≠ "say" := λ z=>e2 (lU (by rw[z]));have m0:=rB (c / 8) (show (rest.length:Int) - 1≠0 by omega);have m1:=rC (c / 8) (show (0:Int)<(rest.length:Int) - 1 by omega);obtain⟨cn,ecn⟩:∃cn:Nat,(cn:Int)=1+c / 8 % ((rest.length:Int) - 1):=⟨(1+c / 8 % ((rest.length:Int) - 1)).toNat,by omega⟩;have lm:((rest.map V.int).length:Int)=(rest.length:Int):=by rw[lC]
 refine⟨_,rfl,_,_,rfl,rfl,f8,_,rfl,pr,_,rfl,.inl (SqL.of er2),_,_,rfl,rfl,_,_,rfl,rfl,(by show (0:Int)<((rest.map V.int).length:Int) - 1;omega),_,_,rfl,rfl,?_⟩;dsimp only;rw[lm,←ecn];have c1:1<=cn:=by omega
 have c2:cn+1<=rest.length:=by omega
 refine⟨_,rfl,_,rfl,_,rfl,pr,_,rfl,SqL.of er2,λ p1 hp1=>?_⟩;rw[zMY rest cn (by omega)];have k3:=zAC (o:=.lst ((rest.take cn).map V.int)) hp1;have e3:=@zAB H2 p1 (.lst ((rest.take cn).map V.int));generalize upd H2 p1 _=H3 at k3 e3 ⊢;refine⟨_,rfl,_,rfl,p1,wl,ll,rest.take cn,ws,ls,W,rfl,SqL.of e3,by simp;omega,by simp;omega,n12,k3 _ _ hw2,k3 _ _ hl2,lw,ln,iw,il,λ t1 v1 H4 g4 r1 s1 a1 b1=>?_⟩;have g24:=k3.trans g4;rw[mO,rA (by omega)] at s1;refine⟨_,rfl,_,rfl,_,rfl,pr,_,rfl,SqL.of (g24 _ _ er2),λ p2 hp2=>?_⟩;rw[zKj rest cn (by omega)];have k5:=zAC (o:=.lst ((rest.drop cn).map V.int)) hp2;have e5:=@zAB H4 p2 (.lst ((rest.drop cn).map V.int));generalize upd H4 p2 _=H5 at k5 e5 ⊢;have g25:=g24.trans k5;refine⟨_,rfl,_,rfl,p2,wl,ll,rest.drop cn,ws,ls,W,rfl,SqL.of e5,by simp;omega,by simp;omega,n12,g25 _ _ hw2,g25 _ _ hl2,lw,ln,iw,il,λ t2 v2 H6 g6 r2 s2 a2 b2=>?_⟩;rw[mW] at s2;have g26:=g25.trans g6;have r1':=r1.mono (k5.trans g6).tk;have G:=k12.trans g26;have hw6:=g26 _ _ hw2;have hl6:=g26 _ _ hl2;refine⟨_,rfl,rfl,_,rfl,ite2 (λ Ω=>?_) (λ nl=>?_)⟩
 ·refine⟨_,rfl,_,rfl,_,_,rfl,rfl,f64,_,rfl,ll,_,rfl,.inl (SqL.of hl6),_,_,rfl,rfl,ly64,ll,_,_,_,rfl,rfl,SqL.of hl6,aty64,_,rfl,_,rfl,d4,λ pt hpt=>?_⟩
  have k7:=zAC (o:=.tup [.str "let", .str y64,v1,v2]) hpt;refine qq (.lett y64 t1 t2) _ _ (G.trans k7) ⟨pt,v1,v2,rfl,zAB,r1'.mono k7.tk,r2.mono k7.tk⟩ ?_ ⟨il _ hy64,a1,a2⟩ ⟨b1,b2⟩;show t1.size+t2.size+1<=_;omega
 refine⟨_,rfl,rfl,_,rfl,ite2 (λ Ω=>?_) (λ ni=>?_)⟩
 ·refine⟨_,rfl,_,rfl,_,rfl,_,_,rfl,rfl,f64,_,rfl,wl,_,rfl,.inl (SqL.of hw6),_,_,rfl,rfl,lp64,wl,_,_,_,rfl,rfl,SqL.of hw6,atx64,d2,λ pn hpn=>⟨d2,λ ps hps=>⟨_,rfl,d4,λ pt hpt=>?_⟩⟩⟩
  have k7:=zAC (o:=.tup [.str "name", .str x64]) hpn;have k8:=zAC (o:=.tup [.str "say", .ref pn]) hps;have k9:=zAC (o:=.tup [.str "if", v1,.ref ps,v2]) hpt;have kA:=k7.trans (k8.trans k9);refine qq (.ite t1 (.say (.name x64)) t2) _ _ (G.trans kA) ⟨pt,v1,.ref ps,v2,rfl,zAB,r1'.mono kA.tk,⟨ps,.ref pn,rfl,k9 _ _ zAB,⟨pn,rfl,k9 _ _ (k8 _ _ zAB)⟩⟩,r2.mono kA.tk⟩ ?_ ⟨a1,iw _ hx64,a2⟩ ⟨b1,trivial,b2⟩;show t1.size+(1+1)+t2.size+1<=_;omega
 ·obtain⟨o,rfl⟩:∃o:Bin,sg=o.s:=by
   rcases hsg with h|h|h|h
   ·exact h
   ·exact absurd (lU (by rw[h])) ni
   ·exact absurd h hns
   ·exact absurd (lU (by rw[h])) nl
  refine⟨_,rfl,_,rfl,_,rfl,d3,λ pt hpt=>?_⟩;have k7:=zAC (o:=.tup [.str o.s,v1,v2]) hpt;refine qq (.bin o t1 t2) _ _ (G.trans k7) ⟨pt,v1,v2,rfl,zAB,r1'.mono k7.tk,r2.mono k7.tk⟩ ?_ ⟨a1,a2⟩ ⟨b1,b2⟩;show t1.size+t2.size+1<=_;omega
theorem zI0 {k:Nat}{f:Addr}{fd:FuncData}:FnOk P w K mg base CX0 k f fd ["_law_cells", "_law_words_here", "_law_lets"] (zCv K 0):=by
 have no:∀vs H Q E,¬zCv K 0 vs H Q E:=λ vs H Q E h=>by
  obtain⟨a,wl,ll,cells,ws,ls,W,_,_,h1,h0,_⟩:=h;omega
 exact⟨λ vs H Q E h=>absurd h (no vs H Q E),λ A outer s H args us vs Q E Ω Ω Ω Ω h=>absurd h (no vs H Q E)⟩
theorem zG2 (F:Fun K "_law_tree" "_law_tree" zCx f fd) (b:Binds K fd ["_law_cells", "_law_words_here", "_law_lets"] []) (m:mg "_law_tree" = some (.ref f)) (z_len:mg "len" = none) (G:FnB P w K mg base k "_law_leaf" g1 gd1 ["_law_cell", "_law_words_here", "_law_loud"] zFj):∀n:Nat,FnB P w K mg base (k+n) "_law_tree" f fd ["_law_cells", "_law_words_here", "_law_lets"] (zCv K n)
 |0=>⟨zI0,b,F.kp,m⟩
 |n+1=>⟨zLW F z_len (G.up (Nat.le_add_right _ _)) (zG2 F b m z_len G n),b,F.kp,m⟩
abbrev zEQ:Stmt:=top 50
theorem zBn:zAV ["_law_cell", "_law_gaps", "_law_bound", "_law_counts", "_law_k", "_law_atoms", "_law_some", "_law_j"] ["_law_cell", "_law_gaps", "_law_bound", "_law_counts"] (zAN zEQ):=scI
def OutS (gs:List Str) (cs:List Nat) (bd W:List Str) (n:Nat) (H:Hp) (Q:VK):Prop:=∀(t:Tr) (v:V) (H':Hp),Same H H'->Rep H' t v->t.size<=n->t.good (λ x=>x∈W)->ShS gs cs bd t->Q v H'
def zFk:Sp:=λ vs H Q Ω=>E8 λ(c:Int) (gl bl cl:Addr) (gs bd W:List Str) (cs:List Nat)=>A10 (vs=[.int c,.ref gl,.ref bl,.ref cl]) (H gl=some (.lst (gs.map V.str))) (H bl=some (.lst (bd.map V.str))) (H cl=some (.lst (numV cs))) (CsOk cs) (gs.length=6) (bd.length<=30) (∀x∈gs,x∈W) (∀x∈bd,x∈W) (OutS gs cs bd W 1 H Q)
theorem zMv (F:Fun K "_law_gap" "_law_gap" zEQ f fd) (z_range:mg "range" = none) (z_tuple:mg "tuple" = none) (z_len:mg "len" = none):FnOk P w K mg base CX0 (k+1) f fd ["_law_cell", "_law_gaps", "_law_bound", "_law_counts"] zFk:=by
 refine F.ok zBn (λ vs H Q E h=>?_) (λ cdv A outer s H vs Q E hr h=>?_)
 ·obtain⟨c,gl,bl,cl,gs,bd,W,cs,rfl,_⟩:=h
  rfl
 obtain⟨c,gl,bl,cl,gs,bd,W,cs,rfl,hg,hb,hc,co,lg,lb,ig,ib,qq⟩:=h
 refine⟨_,(Sd.un (zAI (pSS (i:=4) zBn.nd ⟨pe_op zAi (pv 0) zAF⟩)
  (zAI (pSS (i:=5) zBn.nd (zDI ⟨zAD⟩))
  (zAI (pSS (i:=6) zBn.nd ⟨pe_op zID (zBS ["_law_name"] [none] rfl (zAz (pv 2)) (λ Ω Ω Ω Ω Ω=>(zA5 (i:=0) (show List.Nodup (["_law_name"]:List Str) by left) rfl (Or.inl rfl))) (λ Ω Ω Ω Ω Ω=>zCi) (λ Ω Ω Ω Ω Ω=>(zAh (zAA zAT (zAA (pv 0) zAD)):PE _ _ _)) rfl) (zAv (zAA (zAh (zAA zAT (zAA (pe_op zAi (pe_op zAl (pv 0) zAF) (pe_op zEb zAF zAF)) zAD)):PE _ _ _) zAD):PE _ _ _)⟩)
  (zAI (pSS (i:=6) zBn.nd ⟨pe_op zID (pv 6) (zAv (zAA (zAh (zAA zAT (zAA (iC (r:=rIxL K) zAg (pv 1)) (zAA (zAh zAD:PE _ _ _) zAD))):PE _ _ _) (zAA (zAh (zAA zAT (zAA (iC (r:=rIxL K) zAg (pv 1)) (zAA (zAh zAD:PE _ _ _) zAD))):PE _ _ _) zAD)):PE _ _ _)⟩)
  (zAI ⟨zAt PassesOwn.never rfl (zDW (by rfl) z_range (zAA (pe_ix (r:=rIxL K) zAg (pv 3) (pv 4) (λ Ω Ω=>rfl)) zAD)) (pGn (i:=7) zBn.nd) (zAG (pAp (pv 5) (pe_ix (r:=rIxL K) zAg (pv 6) (pe_op zAi (pe_op zAl (pv 0) (pe_op zBz zAF (pe_op zNr zAF (pv 7)))) (cL z_len (zAA (pv 6) zAD))) (λ Ω Ω=>rfl))))⟩
  (zAa (zAq (zBA (zAL ⟨zAT⟩ (zAL (zCG (r:=rIxL K) zAg ⟨pv 1⟩ ⟨pv 4⟩ (λ Ω Ω=>rfl)) (zAL (zC3 zA9 (by rfl) z_tuple rL (zAL ⟨pv 5⟩ ⟨zAD⟩)) ⟨zAD⟩)))))))))))),?_⟩
 have d0:0<=sizeLine:=by decide
 have d1:1<=sizeLine:=by decide
 have d2:2<=sizeLine:=by decide
 have d3:3<=sizeLine:=by decide
 have z6:(0:Int)<6:=by decide
 have f6:(0:Int)<6/\(6:Int)<1073741824:=⟨by decide,by decide⟩;have lc:=co.1;have h0:=rB c (show (6:Int)≠0 by decide);have h1:=rC c z6;obtain⟨kn,ekn⟩:∃kn:Nat,(kn:Int)=c % 6:=⟨(c % 6).toNat,by omega⟩;have c3:=co.le kn;refine⟨_,rfl,_,_,rfl,rfl,z6,?_⟩;dsimp only;rw[←ekn];refine⟨d0,λ al hal=>?_⟩;have g0:=zAC (o:=.lst []) hal;have ea0:=@zAB H al (.lst []);show tSeq _ _ _ _ (upd H al (.lst []));generalize upd H al _=H0 at g0 ea0 ⊢;refine⟨_,rfl,bl,rfl,⟨_,SqL.of (g0 _ _ hb)⟩,λ acc hacc=>?_⟩;refine zBp (xs:=bd.map V.str) (λ j H'=>Same H0 H'/\∃us,H' acc=some (.lst us)/\Paired (AtRep H') ((bd.take j).map Atom.name) us) ⟨zAC hacc,[],zAB,.nil⟩ (λ j H' Ω h=>SqL.of (h.1 _ _ (g0 _ _ hb))) ?_ ?_
 ·rintro j x Hx hxj ⟨gx,us,ex,px⟩
  rw[mI] at hxj;obtain⟨y,hy,rfl⟩:=lV.mp hxj;have hj:j<bd.length:=(lJ.mp hy).1;have lu:us.length<=j:=by rw[zAH px,lC,mO];omega
  refine⟨.skip .nil,_,rfl,d2,λ p hp=>?_⟩;have kp:=zAC (o:=.tup [.str "name", .str y]) hp;have ep:=@zAB Hx p (.tup [.str "name", .str y]);generalize upd Hx p _=Hy at kp ep ⊢;have ex':=kp _ _ ex;have tk:Tk Hy (upd Hy acc (.lst (us++[.ref p]))):=Tk.lst ex';refine⟨_,ex',zAM (by omega),zAQ (gx.trans kp) hacc,us++[.ref p],zAB,?_⟩;rw[zAR hy,mQ];exact zAO (Paired.mapP px λ Ω Ω z=>AtRep.mono (kp.tk.trans tk) z) (.cons ⟨p,rfl,tk _ _ ep⟩ .nil)
 rintro H1 ⟨g1,us,ea1,pu⟩;rw[lC,mP] at pu;have g01:=g0.trans g1;have lus:us.length=bd.length:=by rw[zAH pu,lC]
 refine⟨_,rfl,_,_,rfl,rfl,f6,_,_,rfl,rfl,⟨by decide,by decide,by decide⟩,_,_,rfl,rfl,(show (0:Int)<10 ^ 30 by decide),d2,λ p1 hp1=>⟨d1,λ q1 hq1=>?_⟩⟩;dsimp only at hq1 ⊢;generalize c / 6 % 10 ^ (30:Int).toNat=nn at hq1 ⊢;have k1:=zAC (o:=.tup [.str "num", .int nn]) hp1;have k2:=zAC (o:=.lst [.ref p1]) hq1;have a1:AtRep (upd (upd H1 p1 (.tup [.str "num", .int nn])) q1 (.lst [.ref p1])) (.num nn) (.ref p1):=⟨p1,rfl,k2 _ _ zAB⟩;have eq1:=@zAB (upd H1 p1 (.tup [.str "num", .int nn])) q1 (.lst [.ref p1]);have k12:=k1.trans k2;clear k1 k2;generalize upd (upd H1 p1 _) q1 _=H2 at k12 a1 eq1 ⊢;refine⟨acc,q1,_,_,rfl,rfl,k12 _ _ ea1,eq1,zAm (by simp;omega),λ q2 hq2=>?_⟩;have k3:=zAC (o:=.lst (us++[.ref p1])) hq2;have e3:=@zAB H2 q2 (.lst (us++[.ref p1]));show tSeq _ _ _ _ (upd H2 q2 (.lst (us++[.ref p1])));generalize upd H2 q2 _=H3 at k3 e3 ⊢;have g03:=g01.trans (k12.trans k3);have pa3:Paired (AtRep H3) (bd.map Atom.name++[.num nn]) (us++[.ref p1]):=zAO (Paired.mapP pu λ Ω Ω z=>AtRep.mono (k12.trans k3).tk z) (.cons (AtRep.mono k3.tk a1) .nil);obtain⟨x4,ex4⟩:∃x,gs[4]?=some x:=⟨_,lX (by omega)⟩;obtain⟨x5,ex5⟩:∃x,gs[5]?=some x:=⟨_,lX (by omega)⟩;have at4:atI (gs.map V.str) 4=some (.str x4):=zAY (j:=4) (by rw[mI,ex4];rfl);have at5:atI (gs.map V.str) 5=some (.str x5):=zAY (j:=5) (by rw[mI,ex5];rfl);refine⟨_,rfl,_,rfl,gl,_,_,_,rfl,rfl,SqL.of (g03 _ _ hg),at4,d0,λ p2 hp2=>⟨d3,λ p3 hp3=>?_⟩⟩;have k2:=zAC (o:=.tup []) hp2;have k4:=zAC (o:=.tup [.str "gap", .str x4,.ref p2]) hp3;have a2:AtRep (upd (upd H3 p2 (.tup [])) p3 (.tup [.str "gap", .str x4,.ref p2])) (.gap x4) (.ref p3):=⟨p3,p2,rfl,zAB,k4 _ _ zAB⟩;have k24:=k2.trans k4;clear k2 k4;generalize upd (upd H3 p2 _) p3 _=H4 at k24 a2 ⊢;have g04:=g03.trans k24;refine⟨_,rfl,gl,_,_,_,rfl,rfl,SqL.of (g04 _ _ hg),at5,d0,λ p4 hp4=>⟨d3,λ p5 hp5=>⟨d2,λ sl hsl=>?_⟩⟩⟩;have k4:=zAC (o:=.tup []) hp4;have k5:=zAC (o:=.tup [.str "gap", .str x5,.ref p4]) hp5;have k6:=zAC (o:=.lst [.ref p3,.ref p5]) hsl;have a3:AtRep (upd (upd (upd H4 p4 (.tup [])) p5 (.tup [.str "gap", .str x5,.ref p4])) sl (.lst [.ref p3,.ref p5])) (.gap x5) (.ref p5):=⟨p5,p4,rfl,k6 _ _ zAB,k6 _ _ (k5 _ _ zAB)⟩;have esl:=@zAB (upd (upd H4 p4 (.tup [])) p5 (.tup [.str "gap", .str x5,.ref p4])) sl (.lst [.ref p3,.ref p5]);have k46:=k4.trans (k5.trans k6);clear k4 k5 k6;generalize upd (upd (upd H4 p4 _) p5 _) sl _=H5 at k46 a3 esl ⊢;have k35:=k24.trans k46;refine⟨q2,sl,_,_,rfl,rfl,k35 _ _ e3,esl,zAm (by simp;omega),λ so hso=>?_⟩;have pa5:Paired (AtRep H5) (bd.map Atom.name++[.num nn]++[.gap x4,.gap x5]) (us++[.ref p1]++[.ref p3,.ref p5]):=zAO (Paired.mapP pa3 λ Ω Ω z=>AtRep.mono k35.tk z) (.cons (AtRep.mono k46.tk a2) (.cons a3 .nil))
 have sa:∀a∈bd.map Atom.name++[.num nn]++[.gap x4,.gap x5],ShA gs bd a:=by
  intro a ha;rcases lK.mp ha with h|h
  ·rcases lK.mp h with h|h
   ·obtain⟨x,hx,rfl⟩:=mD.mp h
    exact .inr (.inl ⟨x,hx,rfl⟩)
   ·rw[mR.mp h]
    exact .inl ⟨nn,rfl⟩
  ·simp only[nN,nB,or_false] at h
   rcases h with rfl|rfl
   ·exact .inr (.inr ⟨4,x4,lQ _,ex4,rfl⟩)
   ·exact .inr (.inr ⟨5,x5,by decide,ex5,rfl⟩)
 have lvs:0<(us++[.ref p1]++[.ref p3,.ref p5]:List V).length:=by simp
 generalize us++[.ref p1]++[.ref p3,.ref p5]=vs at pa5 hso lvs ⊢;generalize bd.map Atom.name++[.num nn]++[.gap x4,.gap x5]=some0 at pa5 sa;have k7:=zAC (o:=.lst vs) hso;have e7:=@zAB H5 so (.lst vs);show tSeq _ _ _ _ (upd H5 so (.lst vs));generalize upd H5 so _=H6 at k7 e7 ⊢;have g06:=g03.trans (k35.trans k7);have pa6:=Paired.mapP pa5 λ Ω Ω z=>AtRep.mono k7.tk z;have k06:Same H0 H6:=g1.trans (k12.trans (k3.trans (k35.trans k7)));have ea6:=k06 _ _ ea0;refine⟨_,rfl,_,rfl,cl,_,_,_,rfl,rfl,SqL.of (g06 _ _ hc),cs_at (by omega),_,rfl,by omega,by omega,?_⟩;have nso:so≠al:=λ z=>by rw[z,(k12.trans (k3.trans k35)) _ _ (g1 _ _ ea0)] at hso;cases hso
 refine zDe (n:=((cs.getD kn 0:Nat):Int).toNat) (λ i σ' H'=>E3 λ(s7:Option V) (ws:List V) (as:List Atom)=>A8 (σ'=[some (.int c),some (.ref gl),some (.ref bl),some (.ref cl),some (.int (kn:Int)),some (.ref al),some (.ref so),s7]) (Same H H') (H' so=some (.lst vs)) (H' al=some (.lst ws)) (Tk H6 H') (Paired (AtRep H') as ws) (as.length=i) (∀a∈as,ShA gs bd a)) ⟨none,[],[],rfl,g06,e7,ea6,λ Ω Ω h=>h,.nil,rfl,(λ x hx=>nomatch hx)⟩ ?_ ?_
 ·rintro i σ' H' hi ⟨s7,ws,as,rfl,g,eso,eal,tk,pa,la,ha⟩
  have hi':i<cs.getD kn 0:=by simpa using hi
  have lw:ws.length=as.length:=zAH pa;have b0:=rB (c / (6+7 * (0+(i:Int)))) (show ((vs.length:Nat):Int)≠0 by omega);have b1:=rC (c / (6+7 * (0+(i:Int)))) (show (0:Int)<((vs.length:Nat):Int) by omega);obtain⟨jn,ejn⟩:∃jn:Nat,(jn:Int)=c / (6+7 * (0+(i:Int))) % ((vs.length:Nat):Int):=⟨(c / (6+7 * (0+(i:Int))) % ((vs.length:Nat):Int)).toNat,by omega⟩;obtain⟨v,hv⟩:∃v,vs[jn]?=some v:=⟨_,lX (by omega)⟩;have atv:atI vs (c / (6+7 * (0+(i:Int))) % ((vs.length:Nat):Int))=some v:=by rw[←ejn];exact zAY hv
  obtain⟨a,hmA,ra⟩:=zAW pa6 hv;refine⟨_,rfl,.inl ⟨rfl,_,SqL.of eal⟩,_,rfl,_,rfl,_,rfl,_,_,rfl,rfl,.inl ⟨by decide,by decide⟩,_,_,rfl,rfl,_,_,rfl,rfl,⟨(by show (0:Int)<6+7 * (0+(i:Int));omega),(by show 6+7 * (0+(i:Int))<1073741824;omega)⟩,_,rfl,so,_,rfl,.inl (SqL.of eso),_,_,rfl,rfl,(by show (0:Int)<((vs.length:Nat):Int);omega),so,_,_,_,rfl,rfl,SqL.of eso,atv,al,_,_,rfl,rfl,eal,zAM (by omega),?_⟩;have tk2:Tk H' (upd H' al (.lst (ws++[v]))):=Tk.lst eal;refine⟨_,ws++[v],as++[a],rfl,zAQ g hal,by rw[zAK nso];exact eso,zAB,tk.trans tk2,zAO (Paired.mapP pa λ Ω Ω z=>AtRep.mono tk2 z) (.cons (AtRep.mono (tk.trans tk2) ra) .nil),by simp[la],λ b hb=>?_⟩;rcases lK.mp hb with h|h
  ·exact ha b h
  ·rw[mR.mp h];exact sa a (lM hmA)
 ·rintro σ' H' ⟨s7,ws,as,rfl,g,eso,eal,tk,pa,la,ha⟩
  have la':as.length=cs.getD kn 0:=by rw[la];simp
  have lw:ws.length=as.length:=zAH pa;obtain⟨y,ey⟩:∃y,gs[kn]?=some y:=⟨_,lX (by omega)⟩;have aty:atI (gs.map V.str) (kn:Int)=some (.str y):=zAY (by rw[mI,ey];rfl);refine⟨_,rfl,_,rfl,gl,_,_,_,rfl,rfl,SqL.of (g _ _ hg),aty,_,rfl,al,ws,rfl,.inl ⟨SqL.of eal,λ pt hp=>⟨d3,λ pg hpg=>?_⟩⟩⟩;have k4:=zAC (o:=.tup ws) hp;have k5:=zAC (o:=.tup [.str "gap", .str y,.ref pt]) hpg;exact qq (.gap y as) _ _ (g.trans (k4.trans k5)) ⟨pg,pt,ws,rfl,zAB,k5 _ _ zAB,by omega,Paired.mapP pa λ Ω Ω z=>AtRep.mono (k4.trans k5).tk z⟩ (lQ 1) ⟨ig y (lM ey),by omega,λ a h=>(ha a h).good ig ib⟩ ⟨kn,ey,la',ha⟩
abbrev zCP:Stmt:=top 51
theorem zAy:zAV ["_law_cells", "_law_gaps", "_law_bound", "_law_pool", "_law_counts", "_law_cell", "_law_rest", "_law_sign", "_law_cut", "_law_one", "_law_name", "_law_other"] ["_law_cells", "_law_gaps", "_law_bound", "_law_pool", "_law_counts"] (zAN zCP):=scI
theorem zJV (z:Int):∃s:Str,atI [V.str "let", .str "add", .str "if", .str "let", .str "let", .str "say", .str "sub", .str "let"] (z % 8)=some (.str s)/\((∃o:Bin,s=o.s)\/s = "if" \/ s = "say" \/ s = "let"):=by
 have h0:=rB z (show (8:Int)≠0 by decide);have h1:=rC z (show (0:Int)<8 by decide);have h:z % 8=0\/z % 8=1\/z % 8=2\/z % 8=3\/z % 8=4\/z % 8=5\/z % 8=6\/z % 8=7:=by omega
 rcases h with h|h|h|h|h|h|h|h<;>rw[h]<;>refine⟨_,rfl,?_⟩<;>first|exact .inr (.inr (.inr rfl))|exact .inr (.inl rfl)|exact .inr (.inr (.inl rfl))|exact .inl ⟨.add,rfl⟩|exact .inl ⟨.mul,rfl⟩|exact .inl ⟨.thn,rfl⟩|exact .inl ⟨.sub,rfl⟩
def OutP (pl:Addr) (gs:List Str) (cs:List Nat) (bd W:List Str) (n:Nat) (H:Hp) (Q:VK):Prop:=∀(t:Tr) (v:V) (H':Hp) (pw':List Str),SbD pl H H'->H' pl=some (.lst (pw'.map V.str))->(∀x∈pw',x∈W)->Rep H' t v->t.size<=n->t.good (λ x=>x∈W)->ShS gs cs bd t->Q v H'
def zCu (K:W.Frag) (n:Nat):Sp:=λ vs H Q Ω=>E11 λ(a gl bl pl cl:Addr) (cells:List Int) (gs bd pw W:List Str) (cs:List Nat)=>A8 (vs=[.ref a,.ref gl,.ref bl,.ref pl,.ref cl]) (SqL K H a (cells.map V.int)) (1<=cells.length) (cells.length<=n) (n<=12) (bd.length+n<=30) (ShI H gl bl pl cl gs bd pw W cs) (OutP pl gs cs bd W (2 * cells.length - 1) H Q)
theorem zLS (F:Fun K "_law_shape" "_law_shape" zCP f fd) (z_len:mg "len" = none) (z_int:mg "int" = none) (zOw:FnB P w K mg base k "_law_gap" g1 gd1 ["_law_cell", "_law_gaps", "_law_bound", "_law_counts"] zFk)
  (zOx:FnB P w K mg base k "_law_shape" f fd ["_law_cells", "_law_gaps", "_law_bound", "_law_pool", "_law_counts"] (zCu K n)):FnOk P w K mg base CX0 (k+1) f fd ["_law_cells", "_law_gaps", "_law_bound", "_law_pool", "_law_counts"] (zCu K (n+1)):=by
 refine F.ok zAy (λ vs H Q E h=>?_) (λ cdv A outer s H vs Q E hr h=>?_)
 ·obtain⟨a,gl,bl,pl,cl,cells,gs,bd,pw,W,cs,rfl,_⟩:=h
  rfl
 obtain⟨a,gl,bl,pl,cl,cells,gs,bd,pw,W,cs,rfl,hS,h1,hn,h12,hbn,I0,qq⟩:=h
 refine⟨_,(Sd.un (zAI (pSS (i:=5) zAy.nd (zCG (r:=rIxL K) zAg ⟨pv 0⟩ ⟨zAF⟩ (λ Ω Ω=>rfl)))
  (zAI (pSS (i:=6) zAy.nd ⟨zAo (r:=rSlL K) zA3 (pv 0) (zAk zAF) zA4⟩)
  (zAI (zBN ⟨zAP op_eq (cL z_len (zAA (pv 6) zAD)) zAF (zAZ _)⟩ (zAI (zBN ⟨zAP op_eq (pe_op zAi (pv 5) zAF) zAF (zAZ _)⟩ (zAa (zAq (zBA (zAL ⟨zAT⟩ (zAL ⟨pe_op zAi (pe_op zAl (pv 5) zAF) (pe_op zEb zAF zAF)⟩ ⟨zAD⟩))))) ⟨zAU⟩)
  (zAI (zBN ⟨zAP op_eq (pe_op zAi (pv 5) zAF) zAF (zAZ _)⟩ (zAa (zAq (zBA (zAL (zCG (r:=rIxL K) zAg (zDI (zAL ⟨zAT⟩ (zAL ⟨zAT⟩ ⟨zAD⟩))) ⟨pe_op zAi (pe_op zAl (pv 5) zAF) zAF⟩ (λ Ω Ω=>rfl)) (zAL (zCG (r:=rIxL K) zAg ⟨pv 1⟩ ⟨pe_op zAi (pe_op zAl (pv 5) zAF) zAF⟩ (λ Ω Ω=>rfl)) ⟨zAD⟩))))) ⟨zAU⟩)
  (zAI (zBN ⟨(zFJ (zAP op_lt (pe_op zAi (pv 5) zAF) zAF (zAZ _)) (zDy (zAP op_gt (cL z_len (zAA (pv 2) zAD)) zAF (zAZ _)))).pt⟩ (zAa (zAq (zBA (zAL ⟨zAT⟩ (zAL (zCG (r:=rIxL K) zAg ⟨pv 2⟩ ⟨pe_op zAi (pe_op zAl (pv 5) zAF) (cL z_len (zAA (pv 2) zAD))⟩ (λ Ω Ω=>rfl)) ⟨zAD⟩))))) ⟨zAU⟩)
  (zAa (zAq ⟨pe_cl zOw hr (zAA (pe_op zAi (pe_op zAl (pv 5) zAF) (pe_op zEb zAF zAF)) (zAA (pv 1) (zAA (pv 2) (zAA (pv 4) zAD))))⟩))))) ⟨zAU⟩)
  (zAI (pSS (i:=7) zAy.nd (zCG (r:=rIxL K) zAg ⟨zJo [.str "let", .str "add", .str "if", .str "let", .str "let", .str "say", .str "sub", .str "let"] (by rfl)⟩ ⟨pe_op zAi (pv 5) zAF⟩ (λ Ω Ω=>rfl)))
  (zAI (zBN ⟨(pw_or (zAP op_eq (cL z_len (zAA (pv 6) zAD)) zAF (zAZ _)) (zET (zAP op_eq (pv 7) zAT (zAZ _)))).pt⟩ (zAa (zAq (zBA (zAL ⟨zAT⟩ (zAL ⟨pe_cl zOx hr (zAA (pv 6) (zAA (pv 1) (zAA (pv 2) (zAA (pv 3) (zAA (pv 4) zAD)))))⟩ ⟨zAD⟩))))) ⟨zAU⟩)
  (zAI (pSS (i:=8) zAy.nd ⟨pe_op zBz zAF (pe_op zAi (pe_op zAl (pv 5) zAF) (pe_op zIC (cL z_len (zAA (pv 6) zAD)) zAF))⟩)
  (zAI (pSS (i:=9) zAy.nd ⟨pe_cl zOx hr (zAA (zAo (r:=rSlL K) zA3 (pv 6) zA4 (zAk (pv 8))) (zAA (pv 1) (zAA (pv 2) (zAA (pv 3) (zAA (pv 4) zAD)))))⟩)
  (zAI (zBN ⟨(zFJ (zAP op_eq (pv 7) zAT (zAZ _)) (zDy (zAP op_gt (cL z_len (zAA (pv 3) zAD)) zAF (zAZ _)))).pt⟩ (zAI (pSS (i:=10) zAy.nd ⟨zMJ rR PySem.F.slot_list_pop PySem.F.type_list_pop zNw (pv 3)⟩)
  (zAa (zAq (zBA (zAL ⟨zAT⟩ (zAL ⟨pv 10⟩ (zAL ⟨pv 9⟩ (zAL ⟨pe_cl zOx hr (zAA (zAo (r:=rSlL K) zA3 (pv 6) (zAk (pv 8)) zA4) (zAA (pv 1) (zAA (pe_op zID (zAv (zAA (pv 10) zAD):PE _ _ _) (pv 2)) (zAA (pv 3) (zAA (pv 4) zAD)))))⟩ ⟨zAD⟩)))))))) ⟨zAU⟩)
  (zAI (pSS (i:=11) zAy.nd ⟨pe_cl zOx hr (zAA (zAo (r:=rSlL K) zA3 (pv 6) (zAk (pv 8)) zA4) (zAA (pv 1) (zAA (pv 2) (zAA (pv 3) (zAA (pv 4) zAD)))))⟩)
  (zAI (zBN ⟨zAP op_eq (pv 7) zAT (zAZ _)⟩ (zAa (zAq (zBA (zAL ⟨zAT⟩ (zAL ⟨pv 9⟩ (zAL ⟨pe_cl zOw hr (zAA (pe_op zAi (pe_op zAl (pv 5) zAF) (pe_op zEb zAF zAF)) (zAA (pv 1) (zAA (pv 2) (zAA (pv 4) zAD))))⟩ (zAL ⟨pv 11⟩ ⟨zAD⟩))))))) ⟨zAU⟩)
  (zAa (zAq (zBA (zAL (zCG (r:=rIxL K) zAg (zDI (zAL ⟨pv 7⟩ (zAL ⟨zAT⟩ ⟨zAD⟩))) (zC3 zKp (by rfl) z_int PyProof.Rows.boot_int (zAL ⟨zCm op_eq (pv 7) zAT (zAZ _)⟩ ⟨zAD⟩)) (λ Ω Ω=>rfl)) (zAL ⟨pv 9⟩ (zAL ⟨pv 11⟩ ⟨zAD⟩))))))))))))))))),?_⟩
 have z0:0<=sizeLine:=lZ _;have d2:2<=sizeLine:=by decide
 have d3:3<=sizeLine:=by decide
 have d4:4<=sizeLine:=by decide
 have f8:(0:Int)<8/\(8:Int)<1073741824:=⟨by decide,by decide⟩;have f16:(0:Int)<16/\(16:Int)<1073741824:=⟨by decide,by decide⟩;have f64:(0:Int)<64/\(64:Int)<1073741824:=⟨by decide,by decide⟩;have m40:(0:Int)<10 ^ 40:=by decide
 have lg:=I0.lg
 obtain⟨c,rest,rfl⟩:∃c rest,cells=c::rest:=by
  cases cells with
  |nil=>simp at h1
  |cons c r=>exact⟨c,r,rfl⟩
 have at0:atI ((c::rest).map V.int) 0=some (.int c):=zAY (j:=0) rfl;refine⟨_,rfl,a,_,0,_,rfl,rfl,hS,at0,?_⟩;refine⟨_,rfl,1,rfl,a,_,rfl,hS,λ pr hpr=>?_⟩;rw[zKk];have k1:=zAC (o:=.lst (rest.map V.int)) hpr;have er:=@zAB H pr (.lst (rest.map V.int));have npr:pr≠pl:=λ z=>by rw[z,I0.hp] at hpr;cases hpr
 show tSeq _ _ _ _ (upd H pr (.lst (rest.map V.int)));generalize upd H pr _=H1 at k1 er ⊢;rw[mM] at hn;rw[mM] at qq;have I1:=I0.same k1;have fin:∀(t:Tr) (v:V) (H':Hp),Same H1 H'->Rep H' t v->t.size<=2 * (rest.length+1) - 1->t.good (λ x=>x∈W)->ShS gs cs bd t->Q v H':=λ t v H' g r z gd sh=>qq t v H' pw (k1.trans g).sd (g _ _ I1.hp) I0.ip r z gd sh;refine⟨_,rfl,pr,_,rfl,.inl (SqL.of er),rfl,_,rfl,ite2 (λ e0=>?_) (λ e0=>?_)⟩
 ·have one:1<=2 * (rest.length+1) - 1:=by omega
  refine⟨_,rfl,_,_,rfl,rfl,(show (0:Int)<8 by decide),rfl,_,rfl,ite2 (λ Ω=>?_) (λ Ω=>?_)⟩
  ·refine⟨_,rfl,_,_,rfl,rfl,f8,_,_,rfl,rfl,⟨by decide,by decide,by decide⟩,_,_,rfl,rfl,(show (0:Int)<10 ^ 30 by decide),d2,λ pt hpt=>?_⟩
   exact fin (.num _) _ _ (zAC hpt) ⟨pt,rfl,zAB⟩ one trivial trivial
  refine⟨_,rfl,_,_,rfl,rfl,(show (0:Int)<8 by decide),rfl,_,rfl,ite2 (λ Ω=>?_) (λ Ω=>?_)⟩
  ·obtain⟨x,hx,atx⟩:=pickS (L:=gs) (i:=c / 16 % 6) (by omega) (by omega)
   obtain⟨v,hv,ev⟩:=zKs (c / 8);refine⟨d2,λ p0 hp0=>⟨_,rfl,_,_,rfl,rfl,f8,_,_,rfl,rfl,(show (0:Int)<2 by decide),p0,_,_,_,rfl,rfl,SqL.of zAB,ev,?_⟩⟩;have k2:=zAC (o:=.lst [.str "ask", .str "stop"]) hp0;refine⟨_,rfl,_,rfl,_,_,rfl,rfl,f16,_,_,rfl,rfl,(show (0:Int)<6 by decide),gl,_,_,_,rfl,rfl,SqL.of (k2 _ _ I1.hg),atx,d2,λ pt hpt=>?_⟩;simp only[nN,nB,or_false] at hv;rcases hv with rfl|rfl
   ·exact fin (.ask x) _ _ (k2.trans (zAC hpt)) ⟨pt,rfl,zAB⟩ one (I0.ig x hx) trivial
   ·exact fin (.stop x) _ _ (k2.trans (zAC hpt)) ⟨pt,rfl,zAB⟩ one (I0.ig x hx) trivial
  have gapG:tRet (tCall zFk [] E0 (tCons (tOp (rI (λ x j=>0<j) λ i j=>V.int (i % j)) (tOp (rI CDiv λ i j=>V.int (i / j)) (tVar 5) (tC (V.int 8))) (tOp (rI CPow λ i j=>V.int (i ^ j.toNat)) (tC (V.int 10)) (tC (V.int 40)))) (tCons (tVar 1) (tCons (tVar 2) (tCons (tVar 4) tNil))))) { nx:=λ x H'=>Q V.non H',rt:=Q } [some (.ref a),some (.ref gl),some (.ref bl),some (.ref pl),some (.ref cl),some (.int c),some (.ref pr),none,none,none,none,none] H1 :=
   ⟨_,rfl,_,_,rfl,rfl,f8,_,_,rfl,rfl,⟨by decide,by decide,by decide⟩,_,_,rfl,rfl,m40,_,rfl,_,rfl,_,rfl,_,gl,bl,cl,gs,bd,W,cs,rfl,I1.hg,I1.hb,I1.hc,I1.co,I1.lg,by omega,I1.ig,I1.ib,λ t v H2 g2 r2 s2 a2 b2=>fin t v H2 g2 r2 (by omega) a2 b2⟩
  refine⟨_,rfl,_,_,rfl,rfl,(show (0:Int)<8 by decide),_,_,rfl,rfl,_,rfl,ite2 (λ Ω=>⟨_,rfl,bl,_,rfl,.inl (SqL.of I1.hb),_,_,rfl,rfl,_,rfl,ite2 (λ hlt=>?_) (λ Ω=>gapG)⟩) (λ Ω=>gapG)⟩
  have lb:0<bd.length:=by
   have:=lS hlt;rw[lC] at this;omega
  obtain⟨x,hx,atx,lp⟩:=pickM (L:=bd) (c / 8) lb;refine⟨_,rfl,_,rfl,_,_,rfl,rfl,f8,_,rfl,bl,_,rfl,.inl (SqL.of I1.hb),_,_,rfl,rfl,lp,bl,_,_,_,rfl,rfl,SqL.of I1.hb,atx,d2,λ pt hpt=>?_⟩;exact fin (.name x) _ _ (zAC hpt) ⟨pt,rfl,zAB⟩ one (I0.ib x hx) hx
 have hr1:1<=rest.length:=by
  rcases nG rest.length with h|h
  ·exact absurd (lU (by rw[lC,h];rfl)) e0
  ·exact h
 obtain⟨sg,atsg,hsg⟩:=zJV c;refine⟨(by show 8<=sizeLine;decide),λ pq hpq=>?_⟩;have k2:=zAC (o:=.lst [.str "let", .str "add", .str "if", .str "let", .str "let", .str "say", .str "sub", .str "let"]) hpq;refine⟨_,rfl,_,_,rfl,rfl,(show (0:Int)<8 by decide),pq,_,_,_,rfl,rfl,SqL.of zAB,atsg,?_⟩;have k12:=k1.trans k2;have er2:=k2 _ _ er;show tSeq _ _ _ _ (upd H1 pq _);generalize upd H1 pq _=H2 at k12 er2 ⊢;have I2:=I0.same k12;have n12:n<=12:=by omega
 have sayG:∀(t1:Tr) (v1:V) (H4:Hp) (pw':List Str),SbD pl H2 H4->H4 pl=some (.lst (pw'.map V.str))->(∀x∈pw',x∈W)->Rep H4 t1 v1->t1.size<=2 * rest.length - 1->t1.good (λ x=>x∈W)->ShS gs cs bd t1->2<=sizeLine/\∀pt,H4 pt=none->Q (.ref pt) (upd H4 pt (.tup [.str "say", v1])):=λ t1 v1 H4 pw' g4 e4 i4 r1 s1 a1 b1=>⟨d2,λ pt hpt=>by
  have k7:=zAC (o:=.tup [.str "say", v1]) hpt;refine qq (.say t1) _ _ pw' (k12.sd.trans (g4.trans k7.sd)) (k7 _ _ e4) i4 ⟨pt,v1,rfl,zAB,r1.mono k7.tk⟩ ?_ a1 b1;show t1.size+1<=_;omega⟩
 refine⟨_,rfl,pr,_,rfl,.inl (SqL.of er2),rfl,_,rfl,ite2 (λ Ω=>iteT ?_) (λ e1=>⟨_,rfl,rfl,_,rfl,ite2 (λ Ω=>?_) (λ e2=>?_)⟩)⟩
 ·exact⟨_,rfl,_,rfl,_,rfl,_,rfl,_,rfl,pr,gl,bl,pl,cl,rest,gs,bd,pw,W,cs,rfl,SqL.of er2,hr1,by omega,n12,by omega,I2,sayG⟩
 ·exact⟨_,rfl,_,rfl,_,rfl,_,rfl,_,rfl,pr,gl,bl,pl,cl,rest,gs,bd,pw,W,cs,rfl,SqL.of er2,hr1,by omega,n12,by omega,I2,sayG⟩
 have hr2:2<=rest.length:=by
  rcases Nat.lt_or_ge rest.length 2 with h|h
  ·exact absurd (lU (by rw[lC,show rest.length=1 by omega];rfl)) e1
  ·exact h
 have hns:sg ≠ "say" := λ z=>e2 (lU (by rw[z]));have m0:=rB (c / 8) (show (rest.length:Int) - 1≠0 by omega);have m1:=rC (c / 8) (show (0:Int)<(rest.length:Int) - 1 by omega);obtain⟨cn,ecn⟩:∃cn:Nat,(cn:Int)=1+c / 8 % ((rest.length:Int) - 1):=⟨(1+c / 8 % ((rest.length:Int) - 1)).toNat,by omega⟩;have lm:((rest.map V.int).length:Int)=(rest.length:Int):=by rw[lC]
 refine⟨_,rfl,_,_,rfl,rfl,f8,_,rfl,pr,_,rfl,.inl (SqL.of er2),_,_,rfl,rfl,_,_,rfl,rfl,(by show (0:Int)<((rest.map V.int).length:Int) - 1;omega),_,_,rfl,rfl,?_⟩;dsimp only;rw[lm,←ecn];have c1:1<=cn:=by omega
 have c2:cn+1<=rest.length:=by omega
 refine⟨_,rfl,_,rfl,_,rfl,pr,_,rfl,SqL.of er2,λ p1 hp1=>?_⟩;rw[zMY rest cn (by omega)];have k3:=zAC (o:=.lst ((rest.take cn).map V.int)) hp1;have e3:=@zAB H2 p1 (.lst ((rest.take cn).map V.int));generalize upd H2 p1 _=H3 at k3 e3 ⊢;refine⟨_,rfl,_,rfl,_,rfl,_,rfl,p1,gl,bl,pl,cl,rest.take cn,gs,bd,pw,W,cs,rfl,SqL.of e3,by simp;omega,by simp;omega,n12,by omega,I2.same k3,λ t1 v1 H4 pw4 g4 ep4 i4 r1 s1 a1 b1=>?_⟩;have I4:=(I2.same k3).to g4 ep4 i4;have er4:H4 pr=_:=g4 _ _ npr (k3 _ _ er2);have G4:SbD pl H H4:=(k12.trans k3).sd.trans g4;clear g4 ep4 i4;rw[mO,rA (by omega)] at s1;have lp4:(((pw4.map V.str).length:Nat):Int)=(pw4.length:Int):=by rw[lC]
 refine⟨_,rfl,rfl,_,rfl,ite2 (λ Ω=>⟨_,rfl,pl,_,rfl,.inl (SqL.of I4.hp),_,_,rfl,rfl,_,rfl,ite2 (λ hlt=>?_) (λ Ω=>?_)⟩) (λ Ω=>?_)⟩
 ·have lb:0<pw4.length:=by
   have:=lS hlt;rw[lC] at this;omega
  obtain⟨init,x,rfl⟩:∃init x,pw4=init++[x]:=by
   rcases List.eq_nil_or_concat pw4 with h|⟨i,x,h⟩
   ·rw[h] at lb;cases lb
   ·exact⟨i,x,by rw[h,List.concat_eq_append]⟩
  have hlast:((init++[x]).map V.str)[((init++[x]).map V.str).length - 1]?=some (.str x):=by simp
  have hdrop:((init++[x]).map V.str).dropLast=init.map V.str:=by simp
  have hx:x∈W:=I4.ip x (by simp);refine⟨_,rfl,.inl ⟨rfl,_,SqL.of I4.hp⟩,pl,_,_,rfl,rfl,I4.hp,hlast,?_⟩;rw[hdrop];have I5:=I4.to (SbD.set (H:=H4) (.lst (init.map V.str))) zAB λ y hy=>I4.ip y (by simp[hy]);have tk5:Tk H4 (upd H4 pl (.lst (init.map V.str))):=Tk.lst I4.hp;have er5:(upd H4 pl (.lst (init.map V.str))) pr=_:=(SbD.set (H:=H4) (.lst (init.map V.str))) _ _ npr er4;have G5:=G4.trans (SbD.set (H:=H4) (.lst (init.map V.str)));have r15:=r1.mono tk5;clear tk5;generalize upd H4 pl _=H5 at I5 er5 G5 r15 ⊢;refine⟨_,rfl,_,rfl,_,rfl,_,rfl,_,rfl,pr,_,rfl,SqL.of er5,λ p2 hp2=>?_⟩;rw[zKj rest cn (by omega)];have k6:=zAC (o:=.lst ((rest.drop cn).map V.int)) hp2;have e6:=@zAB H5 p2 (.lst ((rest.drop cn).map V.int));generalize upd H5 p2 _=H6 at k6 e6 ⊢;have I6:=I5.same k6;refine⟨_,rfl,_,rfl,(by show 1<=sizeLine;decide),λ b1' hb1=>?_⟩;have k7:=zAC (o:=.lst [.str x]) hb1;have e7:=@zAB H6 b1' (.lst [.str x]);generalize upd H6 b1' _=H7 at k7 e7 ⊢;have I7:=I6.same k7;refine⟨_,rfl,b1',bl,_,_,rfl,rfl,e7,I7.hb,zAm (by simp;omega),λ b2' hb2=>?_⟩;have eL : [V.str x]++bd.map V.str=(x::bd).map V.str:=rfl;rw[eL];have nb2:b2'≠pl:=λ z=>by rw[z,I7.hp] at hb2;cases hb2
  have k8:=zAC (o:=.lst ((x::bd).map V.str)) hb2;have e8:=@zAB H7 b2' (.lst ((x::bd).map V.str));generalize upd H7 b2' _=H8 at k8 e8 ⊢;have k68:=k6.trans (k7.trans k8);have I8:=(I7.same k8).bind e8 nb2 hx;have r18:=r15.mono k68.tk;refine⟨_,rfl,_,rfl,p2,gl,b2',pl,cl,rest.drop cn,gs,x::bd,init,W,cs,rfl,SqL.of ((k7.trans k8) _ _ e6),by simp;omega,by simp;omega,n12,by simp;omega,I8,λ t2 v2 H9 pw9 g9 ep9 i9 r2 s2 a2 b2=>⟨d4,λ pt hpt=>?_⟩⟩;rw[mW] at s2;have k10:=zAC (o:=.tup [.str "let", .str x,v1,v2]) hpt;refine qq (.lett x t1 t2) _ _ pw9 (G5.trans (k68.sd.trans (g9.trans k10.sd))) (k10 _ _ ep9) i9 ⟨pt,v1,v2,rfl,zAB,r18.mono ((g9.tk I8.hp).trans k10.tk),r2.mono k10.tk⟩ ?_ ⟨hx,a1,a2⟩ ⟨b1,b2⟩;show t1.size+t2.size+1<=_;omega
 all_goals
  refine⟨_,rfl,_,rfl,_,rfl,pr,_,rfl,SqL.of er4,λ p2 hp2=>?_⟩;rw[zKj rest cn (by omega)];have k5:=zAC (o:=.lst ((rest.drop cn).map V.int)) hp2;have e5:=@zAB H4 p2 (.lst ((rest.drop cn).map V.int));generalize upd H4 p2 _=H5 at k5 e5 ⊢;have I5:=I4.same k5;refine⟨_,rfl,_,rfl,_,rfl,_,rfl,p2,gl,bl,pl,cl,rest.drop cn,gs,bd,pw4,W,cs,rfl,SqL.of e5,by simp;omega,by simp;omega,n12,by omega,I5,λ t2 v2 H6 pw6 g6 ep6 i6 r2 s2 a2 b2=>?_⟩;have I6:=I5.to g6 ep6 i6;have r16:=r1.mono (k5.tk.trans (g6.tk I5.hp));have G6:=G4.trans (k5.sd.trans g6);clear g6;rw[mW] at s2;refine⟨_,rfl,rfl,_,rfl,ite2 (λ Ω=>?_) (λ ni=>?_)⟩
  ·refine⟨_,rfl,_,rfl,_,_,rfl,rfl,f64,_,_,rfl,rfl,⟨by decide,by decide,by decide⟩,_,_,rfl,rfl,m40,_,rfl,_,rfl,_,rfl,_,gl,bl,cl,gs,bd,W,cs,rfl,I6.hg,I6.hb,I6.hc,I6.co,I6.lg,by omega,I6.ig,I6.ib,λ t3 v3 H7 g7 r3 s3 a3 b3=>⟨_,rfl,d4,λ pt hpt=>?_⟩⟩
   have k8:=zAC (o:=.tup [.str "if", v1,v3,v2]) hpt;have k78:=g7.trans k8;refine qq (.ite t1 t3 t2) _ _ pw6 (G6.trans k78.sd) (k78 _ _ ep6) i6 ⟨pt,v1,v3,v2,rfl,zAB,r16.mono k78.tk,r3.mono k8.tk,r2.mono k78.tk⟩ ?_ ⟨a1,a3,a2⟩ ⟨b1,b3,b2⟩;show t1.size+t3.size+t2.size+1<=_;omega
  ·obtain⟨o,eo⟩:∃o:Bin,atI [V.str sg,V.str "then"] (if decide (V.str sg=V.str "let")=true then 1 else 0)=some (.str o.s):=by
    rcases hsg with ⟨o,rfl⟩|h|h|h
    ·have:¬decide (V.str o.s=V.str "let")=true:=by cases o<;>left
     rw[if_neg this];exact⟨o,rfl⟩
    ·exact absurd (lU (by rw[h])) ni
    ·exact absurd h hns
    ·rw[if_pos (decide_eq_true (by rw[h]))]
     exact⟨.thn,rfl⟩
   refine⟨_,rfl,d2,λ pz hpz=>⟨_,rfl,rfl,.inr ⟨_,rfl,pz,_,_,_,rfl,rfl,SqL.of zAB,eo,_,rfl,_,rfl,d3,λ pt hpt=>?_⟩⟩⟩;have k7:=zAC (o:=.lst [.str sg,.str "then"]) hpz;have k8:=zAC (o:=.tup [.str o.s,v1,v2]) hpt;have k78:=k7.trans k8;refine qq (.bin o t1 t2) _ _ pw6 (G6.trans k78.sd) (k78 _ _ ep6) i6 ⟨pt,v1,v2,rfl,zAB,r16.mono k78.tk,r2.mono k78.tk⟩ ?_ ⟨a1,a2⟩ ⟨b1,b2⟩;show t1.size+t2.size+1<=_;omega
theorem zIz {k:Nat}{f:Addr}{fd:FuncData}:FnOk P w K mg base CX0 k f fd ["_law_cells", "_law_gaps", "_law_bound", "_law_pool", "_law_counts"] (zCu K 0):=by
 have no:∀vs H Q E,¬zCu K 0 vs H Q E:=λ vs H Q E h=>by
  obtain⟨a,gl,bl,pl,cl,cells,gs,bd,pw,W,cs,_,_,h1,h0,_⟩:=h;omega
 exact⟨λ vs H Q E h=>absurd h (no vs H Q E),λ A outer s H args us vs Q E Ω Ω Ω Ω h=>absurd h (no vs H Q E)⟩
theorem zG1 (F:Fun K "_law_shape" "_law_shape" zCP f fd) (b:Binds K fd ["_law_cells", "_law_gaps", "_law_bound", "_law_pool", "_law_counts"] []) (m:mg "_law_shape" = some (.ref f)) (z_len:mg "len" = none) (z_int:mg "int" = none)
  (G:FnB P w K mg base k "_law_gap" g1 gd1 ["_law_cell", "_law_gaps", "_law_bound", "_law_counts"] zFk):∀n:Nat,FnB P w K mg base (k+n) "_law_shape" f fd ["_law_cells", "_law_gaps", "_law_bound", "_law_pool", "_law_counts"] (zCu K n)
 |0=>⟨zIz,b,F.kp,m⟩
 |n+1=>⟨zLS F z_len z_int (G.up (Nat.le_add_right _ _)) (zG1 F b m z_len z_int G n),b,F.kp,m⟩
abbrev zCy:Stmt:=top 52
theorem zBW:zAV ["_law_tree_here", "_law_known", "_law_deep", "_law_inner", "_law_one", "_law_some", "_law_part"] ["_law_tree_here", "_law_known", "_law_deep"] (zAN zCy):=scI
def zCd (n:Nat):Sp:=λ vs H Q Ω=>E6 λ(t:Tr) (v:V) (d:Addr) (kvs:List (Key × V)) (κ:Kno) (m:Nat)=>A8 (vs=[v,.ref d,.int (m:Int)]) (t.dep<=n) (Rep H t v) (ngT t) (H d=some (.dK kvs)) (kvs.length+n<=900) (KnD H κ kvs) (∀v' H',Same H H'->DR H' (blT κ m t) v'->Q v' H')
theorem zMy (F:Fun K "_law_bare" "_law_bare" zCy f fd) (z_isinstance:mg "isinstance" = none) (z_tuple:mg "tuple" = none) (z_dict:mg "dict" = none)
  (zOy:FnB P w K mg base k "_law_bare" f fd ["_law_tree_here", "_law_known", "_law_deep"] (zCd n)):FnOk P w K mg base CX0 (k+1) f fd ["_law_tree_here", "_law_known", "_law_deep"] (zCd (n+1)):=by
 refine F.ok zBW (λ vs H Q E h=>?_) (λ cdv A outer s H vs Q E hr h=>?_)
 ·obtain⟨t,v,d,kvs,κ,m,rfl,_⟩:=h
  rfl
 obtain⟨t,v,d,kvs,κ,m,rfl,hn,hR,hg,hd,hl,hk,q⟩:=h;have hu:=hu_of hr
 refine⟨_,(zAE (ps_if (zAP op_eq (iC (r:=rIxT K) zAS (pv 0)) zAT (zAZ _)) (zAG (zAX (zH9 hu (pv 1) (iC (r:=rIxT K) zAS (pv 0)) (pv 0) ⟨rfl,rfl,rfl,rfl⟩))) zAU)
  (zAE (ps_if (zAP op_eq (iC (r:=rIxT K) zAS (pv 0)) zAT (zAZ _)) (zAE (pS (i:=3) zBW.nd (zBT zC8 (by rfl) z_dict rN (zAA (pv 1) zAD)))
  (zAE (zBd hu (pv 3) (iC (r:=rIxT K) zAS (pv 0)) (zAh (zAA zAT (zAA (pv 2) zAD)):PE _ _ _) rfl)
  (zAE (pS (i:=4) zBW.nd (pe_cl zOy hr (zAA (iC (r:=rIxT K) zAS (pv 0)) (zAA (pv 1) (zAA (pv 2) zAD)))))
  (zAG (zAX (zAh (zAA zAT (zAA (pv 4) (zAA (pe_cl zOy hr (zAA (iC (r:=rIxT K) zAS (pv 0)) (zAA (pv 3) (zAA (pe_op zBz (pv 2) zAF) zAD)))) zAD))):PE _ _ _)))))) zAU)
  (zAE (pS (i:=5) zBW.nd (zAv zAD:PE _ _ _))
  (zAE (zAt PassesOwn.never rfl (zDV (pv 0)) (pGn (i:=6) zBW.nd) (zAE (ps_if (zCj (cI z_isinstance z_tuple rL (pv 6))) (zAG (pS (i:=6) zBW.nd (pe_cl zOy hr (zAA (pv 6) (zAA (pv 1) (zAA (pv 2) zAD)))))) zAU)
  (zAG (pAp (pv 5) (pv 6)))))
  (zAG (zAX (zBT zA9 (by rfl) z_tuple rL (zAA (pv 5) zAD)))))))),?_⟩
 have d0:0<=sizeLine:=by decide
 have d2:2<=sizeLine:=by decide
 have d3:3<=sizeLine:=by decide
 obtain⟨a0,hs0,us0,rfl,ha0,hl0,hp0⟩:=id hR.all;have at0:atI (V.str t.kd.s::hs0++us0) 0=some (.str t.kd.s):=zAY (j:=0) rfl;refine⟨_,rfl,a0,_,0,_,rfl,rfl,SqT.of ha0,at0,rfl,_,rfl,ite2 (λ c=>?_) (λ c=>?_)⟩
 ·obtain⟨x,rfl⟩:=zKK (Kd.eq_iff.mp (lS c))
  obtain⟨a',e',ha'⟩:=hR;cases e';refine⟨_,rfl,d,rfl,.inl ⟨kvs,.inl hd⟩,_,rfl,a0,_,1,_,rfl,rfl,SqT.of ha',rfl,_,rfl,_,DGet.k (k:=Sum.inr x) hd,q _ _ (.refl _) ?_⟩;have hx:=hk x;show DR H ((κ x).getD (.tup [.str "name", .str x])) _;cases e:κ x with
  |none =>
   rw[e] at hx;cases e2:valV kvs (Sum.inr x:Key) with
   |none=>exact .tup ha' (.cons (.str _) (.cons (.str _) .nil))
   |some v=>rw[e2] at hx;exact hx.elim
  |some dd =>
   rw[e] at hx;cases e2:valV kvs (Sum.inr x:Key) with
   |none=>rw[e2] at hx;exact hx.elim
   |some v=>rw[e2] at hx;exact hx
 have n3:¬t.kd = .name:=λ z=>c (lU (by rw[z];rfl));refine⟨_,rfl,a0,_,0,_,rfl,rfl,SqT.of ha0,at0,rfl,_,rfl,ite2 (λ c2=>?_) (λ c2=>?_)⟩
 ·obtain⟨x,ta,tb,rfl⟩:=zFz (Kd.eq_iff.mp (lS c2))
  obtain⟨a',ua,ub,e',ha',ra,rb⟩:=hR;cases e';have dn:max ta.dep tb.dep<=n:=by simp only[Tr.dep] at hn;omega
  refine⟨_,rfl,d,kvs,rfl,hd,λ d' hd'=>?_⟩;have g1:=zAC (o:=.dK kvs) hd';have e1:=@zAB H d' (.dK kvs);show tSeq _ _ _ _ (upd H d' (.dK kvs));generalize upd H d' _=H1 at g1 e1 ⊢;refine⟨_,rfl,d2,λ tp htp=>?_⟩;have k2:=zAC (o:=.tup [.str "at", .int (m:Int)]) htp;have e2:=@zAB H1 tp (.tup [.str "at", .int (m:Int)]);generalize upd H1 tp _=H2 at k2 e2 ⊢;have g2:=g1.trans k2;have ed2:=k2 _ _ e1;refine⟨_,rfl,_,rfl,a0,_,1,_,rfl,rfl,SqT.of (g2 _ _ ha'),rfl,d',_,rfl,DPut.k (k:=Sum.inr x) ed2 (zAM (by omega)),?_⟩;have k3:Same H (upd H2 d' (.dK (putK kvs (Sum.inr x:Key) (.ref tp)))):=zAQ g2 hd';have tk3:Tk H2 (upd H2 d' (.dK (putK kvs (Sum.inr x:Key) (.ref tp)))):=Tk.dk ed2;have e3:=@zAB H2 d' (.dK (putK kvs (Sum.inr x:Key) (.ref tp)));have hk3:KnD (upd H2 d' (.dK (putK kvs (Sum.inr x:Key) (.ref tp)))) (setK κ x (atD m)) (putK kvs (Sum.inr x:Key) (.ref tp)):=(hk.mono k3.tk).put (.tup (tk3 _ _ e2) (.cons (.str _) (.cons (.int _) .nil)));have hlp:=zAu kvs (Sum.inr x:Key) (.ref tp);show tSeq _ _ _ _ (upd H2 d' (.dK (putK kvs (Sum.inr x:Key) (.ref tp))));clear tk3;generalize upd H2 d' _=H3 at k3 e3 hk3 ⊢;generalize putK kvs (Sum.inr x:Key) (.ref tp)=kv3 at e3 hk3 hlp;refine⟨_,rfl,a0,_,2,_,rfl,rfl,SqT.of (k3 _ _ ha'),rfl,_,rfl,_,rfl,ta,ua,d,kvs,κ,m,rfl,by omega,ra.mono k3.tk,hg.1,k3 _ _ hd,by omega,hk.mono k3.tk,λ v4 H4 g4 r4=>?_⟩;have g04:=k3.trans g4;refine⟨_,rfl,_,rfl,a0,_,3,_,rfl,rfl,SqT.of (g04 _ _ ha'),rfl,_,rfl,_,rfl,_,_,rfl,rfl,tb,ub,d',kv3,setK κ x (atD m),m+1,rfl,by omega,rb.mono g04.tk,hg.2,g4 _ _ e3,by omega,hk3.mono g4.tk,λ v5 H5 g5 r5=>⟨d3,λ pt hpt=>?_⟩⟩;have k6:=zAC (o:=.tup [.str "let", v4,v5]) hpt;exact q _ _ (g04.trans (g5.trans k6)) (.tup zAB (.cons (.str _) (.cons (r4.mono (g5.trans k6).tk) (.cons (r5.mono k6.tk) .nil))))
 have n2:¬t.kd = .lett:=λ z=>c2 (lU (by rw[z];rfl));obtain⟨a,xs,e1,ha,lx,lx4,hrow⟩:=zJa (blT κ m) hR (ng_kd hg) n2;have e2:a=a0:=by cases e1;rfl
 subst e2;rw[zOD (ng_kd hg) n2 n3] at q;generalize rowD (blT κ m) t=D at q lx hrow;refine⟨d0,λ sl hsl=>?_⟩;have g0:=zAC (o:=.lst []) hsl;have es0:=@zAB H sl (.lst []);show tSeq _ _ _ _ (upd H sl (.lst []));generalize upd H sl _=H0 at g0 es0 ⊢;refine⟨_,rfl,a,rfl,⟨_,SqT.of (g0 _ _ ha)⟩,?_⟩;refine zF4 (xs:=xs) (λ i σ' H'=>E2 λ(s6:Option V) (vs:List V)=>A4 (σ'=[some (.ref a),some (.ref d),some (.int (m:Int)),none,none,some (.ref sl),s6]) (Same H H') (H' sl=some (.lst vs)) (DRs H' (D.take i) vs)) ⟨none,[],rfl,g0,es0,.nil⟩ ?_ ?_ ?_
 ·rintro i σ' H' _ ⟨s6,vs,rfl,g,es,pv⟩
  exact SqT.of (g _ _ ha)
 ·rintro i x σ' H' hx ⟨s6,vs,rfl,g,es,pv⟩
  obtain⟨dt,hdt,hc⟩:=hrow i x hx;have hi:i<xs.length:=(lJ.mp hx).1
  have lvs:vs.length<=4:=by
   rw[←pv.length,mO];omega
  rcases hc with ⟨y,rfl,rfl⟩|⟨y,rfl,rfl⟩|⟨p,hp,rp,rfl⟩
  ·refine⟨_,rfl,_, "tuple", _,false,rfl,.str y,rfl,_,rfl,iteF ?_⟩
   refine⟨_,rfl,.inl ⟨rfl,_,SqL.of es⟩,_,rfl,sl,_,_,rfl,rfl,es,zAM (by omega),?_⟩;exact⟨_,_,rfl,zAQ g hsl,zAB,by rw[zAR hdt];exact(pv.mono (Tk.lst es)).snoc (.str y)⟩
  ·refine⟨_,rfl,_, "tuple", _,false,rfl,.int y,rfl,_,rfl,iteF ?_⟩
   refine⟨_,rfl,.inl ⟨rfl,_,SqL.of es⟩,_,rfl,sl,_,_,rfl,rfl,es,zAM (by omega),?_⟩;exact⟨_,_,rfl,zAQ g hsl,zAB,by rw[zAR hdt];exact(pv.mono (Tk.lst es)).snoc (.int y)⟩
  ·have rp':=rp.mono g.tk
   obtain⟨ai,hsi,usi,rfl,hai,_,_⟩:=id rp'.all;refine⟨_,rfl,_, "tuple", _,true,rfl,.tup hai,rfl,_,rfl,iteT ?_⟩;have hdp:=zF9 hp;refine⟨_,rfl,_,rfl,_,rfl,p,_,d,kvs,κ,m,rfl,by omega,rp',zJ4 hg hp,g _ _ hd,by omega,hk.mono g.tk,λ v5 H5 g5 r5=>?_⟩;have es5:=g5 _ _ es;refine⟨_,rfl,.inl ⟨rfl,_,SqL.of es5⟩,_,rfl,sl,_,_,rfl,rfl,es5,zAM (by omega),?_⟩;have tk:Tk H5 (upd H5 sl (.lst (vs++[v5]))):=Tk.lst es5;exact⟨_,_,rfl,zAQ (g.trans g5) hsl,zAB,by rw[zAR hdt];exact(pv.mono (g5.tk.trans tk)).snoc (r5.mono tk)⟩
 ·rintro σ' H' ⟨s6,vs,rfl,g,es,pv⟩
  rw[lx,mP] at pv;refine⟨_,rfl,sl,_,rfl,.inl ⟨SqL.of es,λ p hp'=>?_⟩⟩;have k9:=zAC (o:=.tup vs) hp';exact q _ _ (g.trans k9) (.tup zAB (pv.mono k9.tk))
theorem zJ3 {k:Nat}{f:Addr}{fd:FuncData}:FnOk P w K mg base CX0 k f fd ["_law_tree_here", "_law_known", "_law_deep"] (zCd 0):=by
 have no:∀vs H Q E,¬zCd 0 vs H Q E:=λ vs H Q E h=>by
  obtain⟨t,v,d,kvs,κ,m,_,h0,_⟩:=h;have:=zHd t;omega
 exact⟨λ vs H Q E h=>absurd h (no vs H Q E),λ A outer s H args us vs Q E Ω Ω Ω Ω h=>absurd h (no vs H Q E)⟩
theorem zGF (F:Fun K "_law_bare" "_law_bare" zCy f fd) (b:Binds K fd ["_law_tree_here", "_law_known", "_law_deep"] []) (m:mg "_law_bare" = some (.ref f)) (z_isinstance:mg "isinstance" = none) (z_tuple:mg "tuple" = none) (z_dict:mg "dict" = none):∀n:Nat,FnB P w K mg base (k+n) "_law_bare" f fd ["_law_tree_here", "_law_known", "_law_deep"] (zCd n)
 |0=>⟨zJ3,b,F.kp,m⟩
 |n+1=>⟨zMy F z_isinstance z_tuple z_dict (zGF F b m z_isinstance z_tuple z_dict n),b,F.kp,m⟩
abbrev zDS:Stmt:=top 53
theorem zAx:zAV ["_law_shape_here", "_law_pieces", "_law_known", "_law_deep", "_law_names", "_law_tree_here", "_law_put", "_law_name", "_law_atom", "_law_inner", "_law_one", "_law_some", "_law_part"] ["_law_shape_here", "_law_pieces", "_law_known", "_law_deep"] (zAN zDS):=scI
def zFD (n:Nat):Sp:=λ vs H Q Ω=>E12 λ(t:Tr) (v:V) (d e:Addr) (kvs kve:List (Key × V)) (φ:Str->Option Pce) (κ:Kno) (m:Nat) (gs bd:List Str) (cs:List Nat)=>A13 (vs=[v,.ref d,.ref e,.int (m:Int)]) (t.dep<=n) (Rep H t v) (ShS gs cs bd t) (H d=some (.dK kvs)) (FlD H φ kvs) (PcD φ gs cs) (CsOk cs) (H e=some (.dK kve)) (kve.length+n<=900) (KnD H κ kve) (∀x∈bd,κ x≠none) (∀v' H',Same H H'->DR H' (duT φ κ m t) v'->Q v' H')
theorem zNu (F:Fun K "_law_due" "_law_due" zDS f fd) (z_isinstance:mg "isinstance" = none) (z_tuple:mg "tuple" = none) (z_zip:mg "zip" = none) (z_dict:mg "dict" = none) (zOy:FnB P w K mg base k "_law_bare" g1 gd1 ["_law_tree_here", "_law_known", "_law_deep"] (zCd 20))
  (zOz:FnB P w K mg base k "_law_due" f fd ["_law_shape_here", "_law_pieces", "_law_known", "_law_deep"] (zFD n)):FnOk P w K mg base CX0 (k+1) f fd ["_law_shape_here", "_law_pieces", "_law_known", "_law_deep"] (zFD (n+1)):=by
 refine F.ok zAx (λ vs H Q E h=>?_) (λ cdv A outer s H vs Q E hr h=>?_)
 ·obtain⟨t,v,d,e,kvs,kve,φ,κ,m,gs,bd,cs,rfl,_⟩:=h
  rfl
 obtain⟨t,v,d,e,kvs,kve,φ,κ,m,gs,bd,cs,rfl,hn,hR,hS,hd,hF,hP,co,he,hl,hk,hb,q⟩:=h;have hu:=hu_of hr
 refine⟨_,(zAE (ps_if (zAP op_eq (iC (r:=rIxT K) zAS (pv 0)) zAT (zAZ _)) (zAG (zAX (zDJ hu (pv 2) (iC (r:=rIxT K) zAS (pv 0)) (λ Ω Ω=>rfl)))) zAU)
  (zAE (ps_if (zAP op_eq (iC (r:=rIxT K) zAS (pv 0)) zAT (zAZ _)) (zAE (zJe (zDJ hu (pv 1) (iC (r:=rIxT K) zAS (pv 0)) (λ Ω Ω=>rfl)) (zCl rfl (zAc (pGn (i:=4) zAx.nd) (zAc (pGn (i:=5) zAx.nd) zBe))))
  (zAE (pS (i:=6) zAx.nd zBi)
  (zAE (zAt PassesOwn.never rfl (zNm (by rfl) z_zip (zAA (pv 4) (zAA (iC (r:=rIxT K) zAS (pv 0)) zAD))) (zCl rfl (zAc (pGn (i:=7) zAx.nd) (zAc (pGn (i:=8) zAx.nd) zBe))) (zAG (zBd hu (pv 6) (pv 7) (pe_cl zOz hr (zAA (pv 8) (zAA (pv 1) (zAA (pv 2) (zAA (pv 3) zAD))))) rfl)))
  (zAG (zAX (pe_cl zOy hr (zAA (pv 5) (zAA (pv 6) (zAA (pv 3) zAD))))))))) zAU)
  (zAE (ps_if (zAP op_eq (iC (r:=rIxT K) zAS (pv 0)) zAT (zAZ _)) (zAE (pS (i:=9) zAx.nd (zBT zC8 (by rfl) z_dict rN (zAA (pv 2) zAD)))
  (zAE (zBd hu (pv 9) (iC (r:=rIxT K) zAS (pv 0)) (zAh (zAA zAT (zAA (pv 3) zAD)):PE _ _ _) rfl)
  (zAE (pS (i:=10) zAx.nd (pe_cl zOz hr (zAA (iC (r:=rIxT K) zAS (pv 0)) (zAA (pv 1) (zAA (pv 2) (zAA (pv 3) zAD))))))
  (zAG (zAX (zAh (zAA zAT (zAA (pv 10) (zAA (pe_cl zOz hr (zAA (iC (r:=rIxT K) zAS (pv 0)) (zAA (pv 1) (zAA (pv 9) (zAA (pe_op zBz (pv 3) zAF) zAD))))) zAD))):PE _ _ _)))))) zAU)
  (zAE (pS (i:=11) zAx.nd (zAv zAD:PE _ _ _))
  (zAE (zAt PassesOwn.never rfl (zDV (pv 0)) (pGn (i:=12) zAx.nd) (zAE (ps_if (zCj (cI z_isinstance z_tuple rL (pv 12))) (zAG (pS (i:=12) zAx.nd (pe_cl zOz hr (zAA (pv 12) (zAA (pv 1) (zAA (pv 2) (zAA (pv 3) zAD))))))) zAU)
  (zAG (pAp (pv 11) (pv 12)))))
  (zAG (zAX (zBT zA9 (by rfl) z_tuple rL (zAA (pv 11) zAD))))))))),?_⟩
 have d0:0<=sizeLine:=by decide
 have d2:2<=sizeLine:=by decide
 have d3:3<=sizeLine:=by decide
 obtain⟨a0,hs0,us0,rfl,ha0,hl0,hp0⟩:=id hR.all;have at0:atI (V.str t.kd.s::hs0++us0) 0=some (.str t.kd.s):=zAY (j:=0) rfl;refine viaN λ N hN=>?_;refine⟨_,rfl,a0,_,0,_,rfl,rfl,SqT.of ha0,at0,rfl,_,rfl,ite2 (λ c=>?_) (λ c=>?_)⟩
 ·obtain⟨x,rfl⟩:=zKK (Kd.eq_iff.mp (lS c))
  obtain⟨a',e',ha'⟩:=hR;cases e';obtain⟨dd,edd⟩:=nC.mp (hb x hS);obtain⟨v1,ev1,r1⟩:=hk.get edd;have dg:DGet H e (.str x) (some v1):=ev1▸DGet.k (k:=Sum.inr x) he;refine⟨_,rfl,_,rfl,a0,_,1,_,rfl,rfl,SqT.of ha',rfl,e,_,rfl,dg,q _ _ (.refl _) ?_⟩;show DR H ((κ x).getD _) v1;rw[edd];exact r1
 apply hN;clear hN;have n3:¬t.kd = .name:=λ z=>c (lU (by rw[z];rfl));refine viaN λ N hN=>?_;refine⟨_,rfl,a0,_,0,_,rfl,rfl,SqT.of ha0,at0,rfl,_,rfl,ite2 (λ c1=>?_) (λ c1=>?_)⟩
 ·obtain⟨gx,as,rfl⟩:=zMQ (Kd.eq_iff.mp (lS c1))
  obtain⟨a',b',us2,e',ha',hb',hl2,pas⟩:=hR;cases e';have las:us2.length=as.length:=zAH pas;obtain⟨j,hj,laj,hA⟩:=hS;obtain⟨ns,u,eg,lns,hnu,hdu⟩:=hP.td j gx hj;have c3:=co.le j;obtain⟨pa,nt,uv,hv1,hpa,hnt,ru⟩:=hF.get eg;have dg:DGet H d (.str gx) (some (.ref pa)):=hv1▸DGet.k (k:=Sum.inr gx) hd;refine⟨_,rfl,_,rfl,a0,_,1,_,rfl,rfl,SqT.of ha',rfl,d,_,rfl,dg,?_⟩;refine⟨pa,_,rfl,SqT.of hpa,rfl,_,_,rfl,_,_,rfl,rfl,?_⟩;refine λ dz hdz=>?_;have g0:=zAC (o:=.dK []) hdz;have ez0:=@zAB H dz (.dK []);show tSeq _ _ _ _ (upd H dz (.dK []));generalize upd H dz _=H0 at g0 ez0 ⊢;refine⟨_,rfl,_,rfl,a0,_,2,_,rfl,rfl,SqT.of (g0 _ _ ha'),rfl,nt,b',ns.map V.str,us2,rfl,g0 _ _ hnt,g0 _ _ hb',?_⟩;refine zNE (xs:=ns.map V.str) (ys:=us2) (λ i σ' H'=>E3 λ(s7 s8:Option V) (kv2:List (Key × V))=>A5 (σ'=[some (.ref a0),some (.ref d),some (.ref e),some (.int (m:Int)),some (.ref nt),some uv,some (.ref dz),s7,s8,none,none,none,none]) (Same H H') (H' dz=some (.dK kv2)) (kv2.length<=i) (KnD H' (zpK noK ((ns.zip (as.map (duA φ κ m))).take i)) kv2)) ?_ ?_ ?_ ?_
  ·exact⟨none,none,[],rfl,g0,ez0,lQ _,by rw[List.take_zero];exact KnD.nil⟩
  ·rintro i σ' H' _ ⟨s7,s8,kv2,rfl,g,ez,lz,hK⟩
   exact⟨g _ _ hnt,g _ _ hb'⟩
  ·rintro i x y T σ' H' hx hy ⟨s7,s8,kv2,rfl,g,ez,lz,hK⟩ hT
   generalize hE:Ends.mk _ _ _ _=E
   obtain⟨nm,hnm,rfl⟩:∃nm,ns[i]?=some nm/\x=V.str nm:=by
    rw[mI] at hx;obtain⟨nm,h1,h2⟩:=lV.mp hx;exact⟨nm,h1,h2.symm⟩
   obtain⟨am,hmA,ram⟩:=zAW pas hy;have hmem:=lM hmA;have hsa:=hA am hmem;have kT:=zAC (o:=.tup [V.str nm,y]) hT;have gT:=g.trans kT;have hi:i<ns.length:=(lJ.mp hnm).1
   have hms:1<=n:=by
    cases as with
    |nil=>cases hmem
    |cons _ _=>exact Nat.le_of_succ_le_succ hn
   refine⟨T,[V.str nm,y],rfl,SqT.of zAB,rfl,_,_,rfl,_,_,rfl,rfl,?_⟩;refine⟨_,rfl,_,rfl,_,rfl,_,rfl,am.tr,y,d,e,kvs,kve,φ,κ,m,gs,bd,cs,rfl,(by rw[zNP];exact hms),(ram.mono gT.tk).tr,hsa.tr hP,gT _ _ hd,hF.mono gT.tk,hP,co,gT _ _ he,by omega,hk.mono gT.tk,hb,λ v5 H5 g5 r5=>?_⟩;rw[zNK (hsa.gap hP)] at r5;have ez5:=g5 _ _ (kT _ _ ez);have hK5:=hK.mono (kT.tk.trans g5.tk);refine⟨_,rfl,_,rfl,dz,_,rfl,DPut.k (k:=Sum.inr nm) ez5 (zAM (by omega)),?_⟩;have tk:Tk H5 (upd H5 dz (.dK (putK kv2 (Sum.inr nm:Key) v5))):=Tk.dk ez5;subst hE;refine⟨_,_,_,rfl,zAQ (gT.trans g5) hdz,zAB,by have:=zAu kv2 (Sum.inr nm:Key) v5;omega,?_⟩
   have hz:(ns.zip (as.map (duA φ κ m)))[i]?=some (nm,duA φ κ m am):=by
    rw[List.getElem?_zip_eq_some];exact⟨hnm,by rw[mI,hmA];rfl⟩
   rw[zAR hz,zHf];exact(hK5.put r5).mono tk
  ·rintro σ' H' ⟨s7,s8,kv2,rfl,g,ez,lz,hK⟩
   rw[lC] at lz;rw[mV (by simp;omega)] at hK;refine⟨_,rfl,_,rfl,_,rfl,u,uv,dz,kv2,_,m,rfl,hdu,ru.mono g.tk,hnu,ez,by omega,hK,λ v' H5 g5 r5=>q v' H5 (g.trans g5) ?_⟩;show DR H5 (duG φ κ m gx as) v';unfold duG;rw[eg];exact r5
 apply hN;clear hN;have n1:¬t.kd = .gap:=λ z=>c1 (lU (by rw[z];rfl));refine viaN λ N hN=>?_;refine⟨_,rfl,a0,_,0,_,rfl,rfl,SqT.of ha0,at0,rfl,_,rfl,ite2 (λ c2=>?_) (λ c2=>?_)⟩
 ·obtain⟨x,ta,tb,rfl⟩:=zFz (Kd.eq_iff.mp (lS c2))
  obtain⟨a',ua,ub,e',ha',ra,rb⟩:=hR;cases e';have dn:max ta.dep tb.dep<=n:=by simp only[Tr.dep] at hn;omega
  refine⟨_,rfl,e,kve,rfl,he,λ d' hd'=>?_⟩;have g1:=zAC (o:=.dK kve) hd';have e1:=@zAB H d' (.dK kve);show tSeq _ _ _ _ (upd H d' (.dK kve));generalize upd H d' _=H1 at g1 e1 ⊢;refine⟨_,rfl,d2,λ tp htp=>?_⟩;have k2:=zAC (o:=.tup [.str "at", .int (m:Int)]) htp;have e2:=@zAB H1 tp (.tup [.str "at", .int (m:Int)]);generalize upd H1 tp _=H2 at k2 e2 ⊢;have g2:=g1.trans k2;have ed2:=k2 _ _ e1;refine⟨_,rfl,_,rfl,a0,_,1,_,rfl,rfl,SqT.of (g2 _ _ ha'),rfl,d',_,rfl,DPut.k (k:=Sum.inr x) ed2 (zAM (by omega)),?_⟩;have k3:Same H (upd H2 d' (.dK (putK kve (Sum.inr x:Key) (.ref tp)))):=zAQ g2 hd';have tk3:Tk H2 (upd H2 d' (.dK (putK kve (Sum.inr x:Key) (.ref tp)))):=Tk.dk ed2;have e3:=@zAB H2 d' (.dK (putK kve (Sum.inr x:Key) (.ref tp)));have hk3:KnD (upd H2 d' (.dK (putK kve (Sum.inr x:Key) (.ref tp)))) (setK κ x (atD m)) (putK kve (Sum.inr x:Key) (.ref tp)):=(hk.mono k3.tk).put (.tup (tk3 _ _ e2) (.cons (.str _) (.cons (.int _) .nil)));have hlp:=zAu kve (Sum.inr x:Key) (.ref tp);show tSeq _ _ _ _ (upd H2 d' (.dK (putK kve (Sum.inr x:Key) (.ref tp))));clear tk3;generalize upd H2 d' _=H3 at k3 e3 hk3 ⊢;generalize putK kve (Sum.inr x:Key) (.ref tp)=kv3 at e3 hk3 hlp
  have hb3:∀y∈x::bd,setK κ x (atD m) y≠none:=λ y hy=>by
   unfold setK
   by_cases z:y=x
   ·rw[if_pos z]
    exact λ z=>nomatch z
   ·rw[if_neg z]
    exact hb y ((lN.mp hy).resolve_left z)
  refine⟨_,rfl,a0,_,2,_,rfl,rfl,SqT.of (k3 _ _ ha'),rfl,_,rfl,_,rfl,_,rfl,ta,ua,d,e,kvs,kve,φ,κ,m,gs,bd,cs,rfl,by omega,ra.mono k3.tk,hS.1,k3 _ _ hd,hF.mono k3.tk,hP,co,k3 _ _ he,by omega,hk.mono k3.tk,hb,λ v4 H4 g4 r4=>?_⟩;have g04:=k3.trans g4;refine⟨_,rfl,_,rfl,a0,_,3,_,rfl,rfl,SqT.of (g04 _ _ ha'),rfl,_,rfl,_,rfl,_,rfl,_,_,rfl,rfl,tb,ub,d,d',kvs,kv3,φ,setK κ x (atD m),m+1,gs,x::bd,cs,rfl,by omega,rb.mono g04.tk,hS.2,g04 _ _ hd,hF.mono g04.tk,hP,co,g4 _ _ e3,by omega,hk3.mono g4.tk,hb3,λ v5 H5 g5 r5=>⟨d3,λ pt hpt=>?_⟩⟩;have k6:=zAC (o:=.tup [.str "let", v4,v5]) hpt;exact q _ _ (g04.trans (g5.trans k6)) (.tup zAB (.cons (.str _) (.cons (r4.mono (g5.trans k6).tk) (.cons (r5.mono k6.tk) .nil))))
 apply hN;clear hN;have n2:¬t.kd = .lett:=λ z=>c2 (lU (by rw[z];rfl));obtain⟨a,xs,e1,ha,lx,lx4,hrow⟩:=zJa (duT φ κ m) hR n1 n2;have e2:a=a0:=by cases e1;rfl
 subst e2;rw[zN7 n1 n2 n3] at q;generalize rowD (duT φ κ m) t=D at q lx hrow;refine⟨d0,λ sl hsl=>?_⟩;have g0:=zAC (o:=.lst []) hsl;have es0:=@zAB H sl (.lst []);show tSeq _ _ _ _ (upd H sl (.lst []));generalize upd H sl _=H0 at g0 es0 ⊢;refine⟨_,rfl,a,rfl,⟨_,SqT.of (g0 _ _ ha)⟩,?_⟩;refine zF4 (xs:=xs) (λ i σ' H'=>E2 λ(s6:Option V) (vs:List V)=>A4 (σ'=[some (.ref a),some (.ref d),some (.ref e),some (.int (m:Int)),none,none,none,none,none,none,none,some (.ref sl),s6]) (Same H H') (H' sl=some (.lst vs)) (DRs H' (D.take i) vs)) ⟨none,[],rfl,g0,es0,.nil⟩ ?_ ?_ ?_
 ·rintro i σ' H' _ ⟨s6,vs,rfl,g,es,pv⟩
  exact SqT.of (g _ _ ha)
 ·rintro i x σ' H' hx ⟨s6,vs,rfl,g,es,pv⟩
  generalize hE:Ends.mk _ _ _ _=E;obtain⟨dt,hdt,hc⟩:=hrow i x hx;have hi:i<xs.length:=(lJ.mp hx).1
  have lvs:vs.length<=4:=by
   rw[←pv.length,mO];omega
  rcases hc with ⟨y,rfl,rfl⟩|⟨y,rfl,rfl⟩|⟨p,hp,rp,rfl⟩
  ·refine⟨_,rfl,_, "tuple", _,false,rfl,.str y,rfl,_,rfl,iteF ?_⟩
   refine⟨_,rfl,.inl ⟨rfl,_,SqL.of es⟩,_,rfl,sl,_,_,rfl,rfl,es,zAM (by omega),?_⟩;subst hE;exact⟨_,_,rfl,zAQ g hsl,zAB,by rw[zAR hdt];exact(pv.mono (Tk.lst es)).snoc (.str y)⟩
  ·refine⟨_,rfl,_, "tuple", _,false,rfl,.int y,rfl,_,rfl,iteF ?_⟩
   refine⟨_,rfl,.inl ⟨rfl,_,SqL.of es⟩,_,rfl,sl,_,_,rfl,rfl,es,zAM (by omega),?_⟩;subst hE;exact⟨_,_,rfl,zAQ g hsl,zAB,by rw[zAR hdt];exact(pv.mono (Tk.lst es)).snoc (.int y)⟩
  ·have rp':=rp.mono g.tk
   obtain⟨ai,hsi,usi,rfl,hai,_,_⟩:=id rp'.all;refine⟨_,rfl,_, "tuple", _,true,rfl,.tup hai,rfl,_,rfl,iteT ?_⟩;have hdp:=zF9 hp;refine⟨_,rfl,_,rfl,_,rfl,_,rfl,p,_,d,e,kvs,kve,φ,κ,m,gs,bd,cs,rfl,by omega,rp',zJW hS n2 hp,g _ _ hd,hF.mono g.tk,hP,co,g _ _ he,by omega,hk.mono g.tk,hb,λ v5 H5 g5 r5=>?_⟩;have es5:=g5 _ _ es;refine⟨_,rfl,.inl ⟨rfl,_,SqL.of es5⟩,_,rfl,sl,_,_,rfl,rfl,es5,zAM (by omega),?_⟩;have tk:Tk H5 (upd H5 sl (.lst (vs++[v5]))):=Tk.lst es5;subst hE;exact⟨_,_,rfl,zAQ (g.trans g5) hsl,zAB,by rw[zAR hdt];exact(pv.mono (g5.tk.trans tk)).snoc (r5.mono tk)⟩
 ·rintro σ' H' ⟨s6,vs,rfl,g,es,pv⟩
  rw[lx,mP] at pv;refine⟨_,rfl,sl,_,rfl,.inl ⟨SqL.of es,λ p hp'=>?_⟩⟩;have k9:=zAC (o:=.tup vs) hp';exact q _ _ (g.trans k9) (.tup zAB (pv.mono k9.tk))
theorem zLf {k:Nat}{f:Addr}{fd:FuncData}:FnOk P w K mg base CX0 k f fd ["_law_shape_here", "_law_pieces", "_law_known", "_law_deep"] (zFD 0):=by
 have no:∀vs H Q E,¬zFD 0 vs H Q E:=λ vs H Q E h=>by
  obtain⟨t,v,d,e,kvs,kve,φ,κ,m,gs,bd,cs,_,h0,_⟩:=h;have:=zHd t;omega
 exact⟨λ vs H Q E h=>absurd h (no vs H Q E),λ A outer s H args us vs Q E Ω Ω Ω Ω h=>absurd h (no vs H Q E)⟩
theorem zKt (F:Fun K "_law_due" "_law_due" zDS f fd) (b:Binds K fd ["_law_shape_here", "_law_pieces", "_law_known", "_law_deep"] []) (m:mg "_law_due" = some (.ref f)) (z_isinstance:mg "isinstance" = none) (z_tuple:mg "tuple" = none) (z_zip:mg "zip" = none) (z_dict:mg "dict" = none) (G:FnB P w K mg base k "_law_bare" g1 gd1 ["_law_tree_here", "_law_known", "_law_deep"] (zCd 20)):∀n:Nat,FnB P w K mg base (k+n) "_law_due" f fd ["_law_shape_here", "_law_pieces", "_law_known", "_law_deep"] (zFD n)
 |0=>⟨zLf,b,F.kp,m⟩
 |n+1=>⟨zNu F z_isinstance z_tuple z_zip z_dict (G.up (Nat.le_add_right _ _)) (zKt F b m z_isinstance z_tuple z_zip z_dict G n),b,F.kp,m⟩
abbrev zCQ:Stmt:=top 54
theorem zC9:zAV ["_law_word", "_law_sign"] ["_law_word"] (zAN zCQ):=scI
abbrev zBh:Stmt:=top 55
theorem zBC:zAV ["_law_tree_here", "_law_some", "_law_many", "_law_part"] ["_law_tree_here"] (zAN zBh):=scI
def zEK:Sp:=λ vs H Q Ω=>∃(x:Str),A3 (vs=[.str x]) (GW x) (∀H',Same H H'->Q (.bl true) H')
theorem zJy (F:Fun K "_law_is_word" "_law_is_word" zCQ f fd) (z_isinstance:mg "isinstance" = none) (z_str:mg "str" = none) (z_len:mg "len" = none):FnOk P w K mg base CX0 (k+1) f fd ["_law_word"] zEK:=by
 refine F.ok zC9 (λ vs H Q E h=>?_) (λ cdv A outer s H vs Q E hr h=>?_)
 ·obtain⟨x,rfl,_⟩:=h
  rfl
 obtain⟨x,rfl,gx,q⟩:=h
 refine⟨_,(zAE (ps_if (pw_or (zDT (zCj (cI z_isinstance z_str PyProof.Rows.boot_str (pv 0)))) (pw_or (zAP op_lt (zBb zEB (by rfl) z_len rQ (zAA (pv 0) zAD)) zAF (zAZ _)) (zET (zAP op_gt (zBb zEB (by rfl) z_len rQ (zAA (pv 0) zAD)) zAF (zAZ _))))).pt (zAG (zAX pe_bl)) zAU)
  (zAE (zAt PassesOwn.never rfl (zNn (pv 0)) (pGn (i:=1) zC9.nd) (zAG (ps_if (zAP zGe (pv 1) zAT rfl) (zAG (zAX pe_bl)) zAU)))
  (zAG (zAX (zCm (r:=rIn K true) zB2 (pv 0) (zHL [.str "let", .str "in", .str "if", .str "then", .str "else", .str "say", .str "ask", .str "stop", .str "where", .str "quiet", .str "number"] (by rfl):PE _ _ _) rfl))))),?_⟩
 have lx:=gx.lo;have hx:=gx.hi;refine⟨_,rfl,.str x, "str", _,true,rfl,.str x,rfl,_,rfl,iteF ?_⟩;refine⟨_,rfl,x,rfl,zAm (by omega),_,_,rfl,rfl,_,rfl,ite2 (λ c=>?_) (λ Ω=>?_)⟩
 ·have:(x.length:Int)<1:=lS c
  omega
 refine⟨_,rfl,x,rfl,zAm (by omega),_,_,rfl,rfl,_,rfl,ite2 (λ c=>?_) (λ Ω=>?_)⟩
 ·have:(8:Int)<(x.length:Int):=lS c
  omega
 refine⟨_,rfl,x,rfl,?_⟩;refine zNF (x:=x) (λ i σ' H'=>∃s1:Option V,σ'=[some (.str x),s1]/\H'=H) ⟨none,rfl,rfl⟩ ?_ ?_
 ·rintro i c σ' H' hc ⟨s1,rfl,rfl⟩
  have hcm:=gx.ab c (by
   have:=lM (l:=x.cps.toList) (i:=i) (a:=c) (by rw[nI];exact hc);exact this)
  refine⟨_,rfl,_,_,rfl,rfl,_,rfl,?_⟩;rw[zNT c hcm.1 hcm.2];exact iteF ⟨_,rfl,rfl⟩
 ·rintro σ' H' ⟨s1,rfl,rfl⟩
  refine⟨_,rfl,(by show 11<=sizeLine;decide),λ p hp=>⟨p,keptS.map V.str,rfl,.inr (SqT.of zAB),rfl,rfl,?_⟩⟩
  have:inV (.str x) (keptS.map V.str)=false:=by
   cases h:inV (.str x) (keptS.map V.str) with
   |false=>rfl
   |true=>exact absurd ((zGj _ _).mp h) gx.kp
  rw[this];exact q _ (zAC hp)
def zCD (n:Nat):Sp:=λ vs H Q Ω=>E2 λ(t:Tr) (v:V)=>A6 (vs=[v]) (Rep H t v) (t.dep<=n) (t.good GW) (ngT t) (∀H',Same H H'->Q (.bl true) H')
theorem zJz (F:Fun K "_law_is_tree" "_law_is_tree" zBh f fd) (z_isinstance:mg "isinstance" = none) (z_str:mg "str" = none) (z_len:mg "len" = none) (z_tuple:mg "tuple" = none) (z_int:mg "int" = none) (z_bool:mg "bool" = none)
  (zO0:FnB P w K mg base k "_law_is_word" g1 gd1 ["_law_word"] zEK) (zO1:FnB P w K mg base k "_law_is_tree" f fd ["_law_tree_here"] (zCD n)):FnOk P w K mg base CX0 (k+1) f fd ["_law_tree_here"] (zCD (n+1)):=by
 refine F.ok zBC (λ vs H Q E h=>?_) (λ cdv A outer s H vs Q E hr h=>?_)
 ·obtain⟨t,v,rfl,_⟩:=h
  rfl
 obtain⟨t,v,rfl,hR,hn,hg,hng,q⟩:=h;have hu:=hu_of hr
 refine⟨_,(Sd.un (zAI (zBN ⟨(pw_or (zDT (zCj (cI z_isinstance z_tuple rL (pv 0)))) (pw_or (zAP op_lt (cL z_len (zAA (pv 0) zAD)) zAF (zAZ _)) (zET (zDT (zCj (cI z_isinstance z_str PyProof.Rows.boot_str (iC (r:=rIxT K) zAS (pv 0)))))))).pt⟩ (zAa (zAq ⟨pe_bl⟩)) ⟨zAU⟩)
  (zAI (zBN ⟨zAP op_eq (iC (r:=rIxT K) zAS (pv 0)) zAT (zAZ _)⟩ (zAa (zAq ⟨zIA (zCm op_eq (cL z_len (zAA (pv 0) zAD)) zAF (zAZ _)) (zIA (cI z_isinstance z_int PyProof.Rows.boot_int (iC (r:=rIxT K) zAS (pv 0))) (zJn (zMI (cI z_isinstance z_bool PyProof.Rows.boot_bool (iC (r:=rIxT K) zAS (pv 0))))))⟩)) ⟨zAU⟩)
  (zAI (zBN ⟨zAP (r:=rIn K false) zCp (iC (r:=rIxT K) zAS (pv 0)) (zHL [.str "name", .str "ask", .str "stop"] (by rfl):PE _ _ _) rfl⟩ (zAa (zAq ⟨zIA (zCm op_eq (cL z_len (zAA (pv 0) zAD)) zAF (zAZ _)) (zJn (pe_cl zO0 hr (zAA (iC (r:=rIxT K) zAS (pv 0)) zAD)))⟩)) ⟨zAU⟩)
  (zAI (pSS (i:=1) zBC.nd ⟨zAo zHC (pv 0) (zAk zAF) zA4⟩)
  (zAI (zBN ⟨zAP op_eq (iC (r:=rIxT K) zAS (pv 0)) zAT (zAZ _)⟩ (zAI (zBN ⟨zDT (zCj (pe_cl zO0 hr (zAA (iC (r:=rIxT K) zAS (pv 0)) zAD)))⟩ (zAa (zAq ⟨pe_bl⟩)) ⟨zAU⟩)
  (zAa (pSS (i:=1) zBC.nd ⟨zAo zHC (pv 0) (zAk zAF) zA4⟩))) ⟨zAU⟩)
  (zAI (pSS (i:=2) zBC.nd (zLO (zBy ⟨zAT⟩ ⟨zAF⟩ (zBy ⟨zAT⟩ ⟨zAF⟩ (zBy ⟨zAT⟩ ⟨zAF⟩ (zBy ⟨zAT⟩ ⟨zAF⟩ (zBy ⟨zAT⟩ ⟨zAF⟩ (zBy ⟨zAT⟩ ⟨zAF⟩ (zBy ⟨zAT⟩ ⟨zAF⟩ zLJ))))))) rfl rfl (by simp) (by decide)))
  (zAI (zBN ⟨zAP op_ne (zLP hu (pv 2) (iC (r:=rIxT K) zAS (pv 0)) ⟨rfl,rfl,rfl,rfl⟩) (cL z_len (zAA (pv 1) zAD)) (zAZ _)⟩ (zAa (zAq ⟨pe_bl⟩)) ⟨zAU⟩)
  (zAI ⟨zAt PassesOwn.never rfl (zDV (pv 1)) (pGn (i:=3) zBC.nd) (zAG (ps_if (zDT (zCj (pe_cl zO1 hr (zAA (pv 3) zAD)))) (zAG (zAX pe_bl)) zAU))⟩
  (zAa (zAq ⟨pe_bl⟩))))))))))),?_⟩
 obtain⟨a,hs,us,rfl,ha,hl,hp⟩:=id hR.all;have h0:atI (V.str t.kd.s::hs++us) 0=some (.str t.kd.s):=zAY (j:=0) rfl;have lus:=zAH hp
 have hlen:2<=(V.str t.sign::hs++us).length:=by
  rw[mK,mM];have:2<=t.head+t.parts.length:=by cases t<;>simp[Tr.head,Tr.parts]
  omega
 refine⟨_,rfl,.ref a, "tuple", _,true,rfl,.tup ha,rfl,_,rfl,iteF ?_⟩;refine⟨_,rfl,a,_,rfl,.inr (SqT.of ha),_,_,rfl,rfl,_,rfl,ite2 (λ c=>?_) (λ Ω=>?_)⟩
 ·have:((V.str t.sign::hs++us).length:Int)<2:=lS c
  omega
 refine⟨_,rfl,a,_,0,_,rfl,rfl,SqT.of ha,h0,.str t.kd.s, "str", _,true,rfl,.str _,rfl,_,rfl,iteF ?_⟩;refine⟨_,rfl,a,_,0,_,rfl,rfl,SqT.of ha,h0,rfl,_,rfl,ite2 (λ c=>?_) (λ cn=>?_)⟩
 ·have z:t.kd = .num:=Kd.eq_iff.mp (lS c)
  cases t with
  |num i =>
   obtain⟨a',e,ha'⟩:=hR;cases e;refine⟨_,rfl,a,_,rfl,.inr (SqT.of ha'),rfl,_,rfl,iteT ?_⟩;refine⟨_,rfl,a,_,1,_,rfl,rfl,SqT.of ha',rfl,.int i, "int", _,true,rfl,.int i,rfl,_,rfl,?_⟩;refine iteT ⟨_,rfl,a,_,1,_,rfl,rfl,SqT.of ha',rfl,.int i, "bool", _,false,rfl,.int i,rfl,_,rfl,q _ (.refl _)⟩
  |bin o a b=>cases o<;>cases z
  |_=>cases z
 have nnum:t.kd ≠ .num:=λ z=>cn (lU (Kd.eq_iff.mpr z));refine⟨_,rfl,a,_,0,_,rfl,rfl,SqT.of ha,h0,(by show 3<=sizeLine;decide),λ pc hpc=>⟨pc,_,rfl,.inr (SqT.of zAB),rfl,rfl,_,rfl,?_⟩⟩;have gc:=zAC (o:=.tup [.str "name", .str "ask", .str "stop"]) hpc;show if inV (.str t.kd.s) [.str "name", .str "ask", .str "stop"]=true then _ else _
 rw[in3];have r1:=hR.mono gc.tk;have ha1:=gc _ _ ha;have hp1:=Paired.mapP hp λ Ω Ω z=>Rep.mono gc.tk z;generalize upd H pc _=H1 at gc r1 ha1 hp1 ⊢;refine ite2 (λ c3=>?_) (λ c3=>?_)
 ·obtain⟨a',x,e,h3,gx⟩:=zLF r1 hg (lS c3)
  cases e;refine⟨_,rfl,a,_,rfl,.inr (SqT.of h3),rfl,_,rfl,iteT ?_⟩;exact⟨_,rfl,a,_,1,_,rfl,rfl,SqT.of h3,rfl,x,rfl,gx,λ H4 g4=>q _ (gc.trans g4)⟩
 have nw:¬(t.kd = .name\/t.kd = .ask\/t.kd = .stop):=λ z=>c3 (lU z)
 have hlf:t.kd.leaf=false:=by
  have n1:=ng_kd hng;cases h:t.kd with
  |num=>exact absurd h nnum
  |name=>exact absurd (.inl h) nw
  |ask=>exact absurd (.inr (.inl h)) nw
  |stop=>exact absurd (.inr (.inr h)) nw
  |gap=>exact absurd h n1
  |_=>rfl
 refine⟨_,rfl,1,rfl,a,_,rfl,ha1,(λ z=>zLe _ _ z.1),λ p1 H2 g2 e2=>?_⟩;have e2':H2 p1=some (.tup (hs++us)):=by rw[e2];exact congrArg (λ x=>some (HO.tup x)) (cut1 _ _)
 have ga2:=gc.trans g2;have ha2:=g2 _ _ ha1;have r2:=r1.mono g2.tk
 have pr2:¬t.kd = .lett->Paired (Rep H2) t.parts (hs++us):=λ n2=>by
  have hh:hs=[]:=by
   have:t.head=1:=by
    cases t with
    |lett x a b=>exact absurd rfl n2
    |say a=>rfl
    |bin o a b=>rfl
    |ite a b c=>rfl
    |_=>cases hlf
   exact nL.mp (by omega)
  subst hh;exact Paired.mapP hp1 λ Ω Ω z=>Rep.mono g2.tk z
 apply viaS (λ σ' H'=>E2 λ(pI:Addr) (inn:List V)=>A5 (σ'=[some (.ref a),some (.ref pI),none,none]) (Same H H') (H' a=some (.tup (.str t.sign::hs++us))) (H' pI=some (.tup inn)) (Paired (Rep H') t.parts inn))
 ·intro rest
  refine⟨_,rfl,a,_,0,_,rfl,rfl,SqT.of ha2,h0,rfl,_,rfl,ite2 (λ c=>?_) (λ c=>rest _ _ ⟨p1,hs++us,rfl,ga2,ha2,e2',pr2 λ z=>c (lU (Kd.eq_iff.mpr z))⟩)⟩;obtain⟨x,ta,tb,et⟩:=zFz (Kd.eq_iff.mp (lS c));have r2':=r2;have hg':=hg;rw[et] at r2' hg';obtain⟨a',ua,ub,e',h3,ra,rb⟩:=r2';cases e';refine⟨_,rfl,a,_,1,_,rfl,rfl,SqT.of h3,rfl,x,rfl,hg'.1,λ H4 g4=>⟨_,rfl,iteF ?_⟩⟩;have h4:=g4 _ _ h3;refine⟨_,rfl,2,rfl,a,_,rfl,h4,(λ z=>zLd _ _ _ z.1),λ p5 H5 g5 e5=>?_⟩;rw[cut2] at e5;have g45:=g4.trans g5;exact rest _ _ ⟨p5,[ua,ub],rfl,ga2.trans g45,g45 _ _ ha2,e5,by rw[et];exact .cons (ra.mono g45.tk) (.cons (rb.mono g45.tk) .nil)⟩
 rintro σ' H5 ⟨pI,inn,rfl,g5,ha5,e5,hin5⟩;have linn:inn.length=many t.kd:=by rw[zAH hin5,zLg hlf]
 refine λ pd hpd=>⟨zAB,zEe,rfl,by decide,?_⟩;have e0:upd (upd H5 pd (.dK [])) pd (.dK (zAw [] zEe))=upd H5 pd (.dK (zAw [] zEe)):=zMb;rw[e0];have g6:=zAC (o:=.dK (zAw [] zEe)) hpd;have ha6:=g6 _ _ ha5;have e6:=g6 _ _ e5;have ed6:=@zAB H5 pd (.dK (zAw [] zEe));show tSeq _ _ _ _ (upd H5 pd (.dK (zAw [] zEe)));generalize upd H5 pd _=H6 at g6 ha6 e6 ed6 ⊢;have hin6:=Paired.mapP hin5 λ Ω Ω z=>Rep.mono g6.tk z;refine⟨_,rfl,pd,rfl,.inl ⟨_,.inl ed6⟩,_,rfl,a,_,0,_,rfl,rfl,SqT.of ha6,h0,_,DGet.k (k:=Sum.inr t.kd.s) ed6,?_⟩;rw[zLh hlf];refine⟨_,rfl,pI,_,rfl,.inr (SqT.of e6),rfl,_,rfl,ite2 (λ c=>?_) (λ Ω=>?_)⟩
 ·rw[linn] at c
  simp at c
 refine⟨_,rfl,pI,rfl,⟨inn,SqT.of e6⟩,?_⟩;refine zF4 (xs:=inn) (λ i σ' H'=>∃s3,σ'=[some (.ref a),some (.ref pI),some (.ref pd),s3]/\Same H6 H') ⟨none,rfl,.refl _⟩ ?_ ?_ ?_
 ·rintro i σ1 H7 _ ⟨s3,rfl,g7⟩
  exact SqT.of (g7 _ _ e6)
 ·rintro i x σ1 H7 hx ⟨s3,rfl,g7⟩
  obtain⟨p,ep,rp⟩:=zAW hin6 hx;have pm:=lM ep;have hd:=zF9 pm;exact⟨_,rfl,p,x,rfl,rp.mono g7.tk,by omega,zKR hg pm,zJ4 hng pm,λ H8 g8=>⟨_,rfl,iteF ⟨_,rfl,g7.trans g8⟩⟩⟩
 ·rintro σ1 H7 ⟨s3,rfl,g7⟩
  exact q _ (g5.trans (g6.trans g7))
theorem zHT {k:Nat}{f:Addr}{fd:FuncData}:FnOk P w K mg base CX0 k f fd ["_law_tree_here"] (zCD 0):=by
 have no:∀vs H Q E,¬zCD 0 vs H Q E:=λ vs H Q E h=>by
  obtain⟨t,v,_,_,h1,_⟩:=h;have:=zHd t;omega
 exact⟨λ vs H Q E h=>absurd h (no vs H Q E),λ A outer s H args us vs Q E Ω Ω Ω Ω h=>absurd h (no vs H Q E)⟩
theorem zFb (F:Fun K "_law_is_tree" "_law_is_tree" zBh f fd) (b:Binds K fd ["_law_tree_here"] []) (m:mg "_law_is_tree" = some (.ref f)) (z_isinstance:mg "isinstance" = none) (z_str:mg "str" = none) (z_len:mg "len" = none) (z_tuple:mg "tuple" = none) (z_int:mg "int" = none) (z_bool:mg "bool" = none)
  (G:FnB P w K mg base k "_law_is_word" g1 gd1 ["_law_word"] zEK):∀n:Nat,FnB P w K mg base (k+n) "_law_is_tree" f fd ["_law_tree_here"] (zCD n)
 |0=>⟨zHT,b,F.kp,m⟩
 |n+1=>⟨zJz F z_isinstance z_str z_len z_tuple z_int z_bool (G.up (Nat.le_add_right _ _)) (zFb F b m z_isinstance z_str z_len z_tuple z_int z_bool G n),b,F.kp,m⟩
theorem passF {X:Cx}{P:Program}{w:World}:zFd (CXF P w) X (λ Ω Ω Ω=>False):=λ Ω Ω Ω Ω Ω Ω Ω h=>by
 obtain⟨_,_,_,_,_,z⟩:=h;exact z.elim
abbrev s_law:Stmt:=top 56
theorem zBf:zAV ["_law_script", "_law_words_here", "_law_cell", "_law_counts", "_law_cells", "_law_turn", "_law_shape_here", "_law_pieces", "_law_k", "_law_some", "_law_at", "_law_names", "_law_kept", "_law_found"] ["_law_script"] (zAN s_law):=scI
def zHw (K:W.Frag):Sp:=λ vs H Q Ω=>E2 λ(a:Addr) (ns:List Int)=>A3 (vs=[.ref a]) (SqL K H a (ns.map V.int)) (∀H',Q (.bl true) H')
theorem zNt (F:Fun K "law" "law" s_law f fd) (z_len:mg "len" = none) (z_range:mg "range" = none) (z_tuple:mg "tuple" = none) (z_dict:mg "dict" = none)
  (zO2:FnB P w K mg base k "_law_words" g1 gd1 ["_law_cell", "_law_many"] zHr) (zO3:FnB P w K mg base k "_law_cell_at" g2 gd2 ["_law_script", "_law_k"] (zFF K))
  (zOx:FnB P w K mg base k "_law_shape" g3 gd3 ["_law_cells", "_law_gaps", "_law_bound", "_law_pool", "_law_counts"] (zCu K 12)) (zOv:FnB P w K mg base k "_law_tree" g4 gd4 ["_law_cells", "_law_words_here", "_law_lets"] (zCv K 7))
  (zOy:FnB P w K mg base k "_law_bare" g5 gd5 ["_law_tree_here", "_law_known", "_law_deep"] (zCd 50)) (zOz:FnB P w K mg base k "_law_due" g6 gd6 ["_law_shape_here", "_law_pieces", "_law_known", "_law_deep"] (zFD 30))
  (zO1:FnB P w K mg base k "_law_is_tree" g7 gd7 ["_law_tree_here"] (zCD 50)) (zO4:FnF P w K mg base k "filled" g8 gd8 ["shape", "filling"] zGT) :
  FnOk P w K mg base CX0 (k+1) f fd ["_law_script"] (zHw K):=by
 refine F.ok zBf (λ vs H Q E h=>?_) (λ cdv A outer s H vs Q E hr h=>?_)
 ·obtain⟨a,ns,rfl,_⟩:=h
  rfl
 obtain⟨a,ns,rfl,hS,qf⟩:=h;have hu:=hu_of hr;have hu0:=Nat.lt_of_succ_lt (hu_of hr);have hu5:=hu150 hr
 refine zNd ⟨_,(zAI (pSS (i:=1) zBf.nd (zDX zO2.ok hr (by rfl) zO2.gl zO2.kp zO2.bd .nil pass0 (pa_kS (zDX zO3.ok hr (by rfl) zO3.gl zO3.kp zO3.bd .nil pass0 (pa_nS ⟨pv 0⟩ (zAL ⟨zAF⟩ ⟨zAD⟩))) (zAL ⟨zAF⟩ ⟨zAD⟩))))
  (zAI (pSS (i:=2) zBf.nd (zDX zO3.ok hr (by rfl) zO3.gl zO3.kp zO3.bd .nil pass0 (pa_nS ⟨pv 0⟩ (zAL ⟨zAF⟩ ⟨zAD⟩))))
  (zAI (pSS (i:=3) zBf.nd (zDI (pa_bS (zEY zAi ⟨pv 2⟩ ⟨zAF⟩) (pa_bS (zEY zAi (zEY zAl ⟨pv 2⟩ ⟨zAF⟩) ⟨zAF⟩) (pa_bS (zEY zAi (zEY zAl ⟨pv 2⟩ ⟨zAF⟩) ⟨zAF⟩) (zAL ⟨zAF⟩ (zAL ⟨zAF⟩ (zAL ⟨zAF⟩ ⟨zAD⟩))))))))
  (zAI (pSS (i:=4) zBf.nd ⟨zAo (r:=rSlL K) zA3 (pv 0) (zAk zAF) (zAk zAF)⟩)
  (zAI (zBN ⟨zAP op_eq (cL z_len (zAA (pv 4) zAD)) zAF (zAZ _)⟩ (zAa (pSS (i:=4) zBf.nd (zDI (pa_nS ⟨pv 2⟩ ⟨zAD⟩)))) ⟨zAU⟩)
  (zAI (pSS (i:=5) zBf.nd (zEY zAi (zEY zAl ⟨pv 2⟩ ⟨zAF⟩) ⟨zAF⟩))
  (zAI (pSS (i:=6) zBf.nd (zDX zOx.ok hr (by rfl) zOx.gl zOx.kp zOx.bd .nil pass0 (pa_nS ⟨pv 4⟩ (zAL ⟨zAo (r:=rSlL K) zA3 (pv 1) (zAk zAF) zA4⟩ (zAL (zDI ⟨zAD⟩) (zAL ⟨zAo (r:=rSlL K) zA3 (pv 1) (zAk (pv 5)) (zAk (pe_op zBz (pv 5) zAF))⟩ (pa_nS ⟨pv 3⟩ ⟨zAD⟩)))))))
  (zAI (pSS (i:=7) zBf.nd ⟨zBi⟩)
  (zAI ⟨zAt PassesOwn.never rfl (zDW (by rfl) z_range (zAA zAF zAD)) (pGn (i:=8) zBf.nd) (zAE (pS (i:=9) zBf.nd (zAo (r:=rSlL K) zA3 (zNp (pv 0) (zAk (pe_op zBz zAF (pv 8))) zA4 (zAk zAF)) zA4 (zAk zAF)))
  (zAE (ps_if (zAP op_eq (cL z_len (zAA (pv 9) zAD)) zAF (zAZ _)) (zAG (pS (i:=9) zBf.nd (zAv (zAA (pe_op zAl (pe_cl zO3 hr (zAA (pv 0) (zAA zAF zAD))) (pe_op zBz (pv 8) zAF)) zAD):PE _ _ _))) zAU)
  (zAE (pS (i:=10) zBf.nd (pe_op zAi (pe_op zAl (iC (r:=rIxL K) zAg (pv 9)) zAF) zAF))
  (zAE (pS (i:=11) zBf.nd (zBT zA9 (by rfl) z_tuple rL (zAA (zAo (r:=rSlL K) zA3 (pv 1) (zAk (pv 10)) (zAk (pe_op zBz (pv 10) (pe_ix (r:=rIxL K) zAg (pv 3) (pv 8) (λ Ω Ω=>rfl))))) zAD)))
  (zAE (zBd hu (pv 7) (pe_ix (r:=rIxL K) zAg (pv 1) (pe_op zBz zAF (pv 8)) (λ Ω Ω=>rfl)) (zAh (zAA (pv 11) (zAA (pe_cl zOv hr (zAA (pv 9) (zAA (pe_op zID (zAo (r:=rSlL K) zA3 (pv 1) zA4 (zAk zAF)) (zAo (r:=rSlL K) zA3 (pv 1) (zAk (pv 10)) (zAk (pe_op zBz (pv 10) zAF)))) (zAA (zAo (r:=rSlL K) zA3 (pv 1) zA4 (zAk zAF)) zAD)))) zAD)):PE _ _ _) rfl)
  (zAG (ps_if (zAP op_gt (pv 8) zAF (zAZ _)) (zAG (zBd hu (pv 7) (pe_ix (r:=rIxL K) zAg (pv 1) (pe_op zBz zAF (pv 8)) (λ Ω Ω=>rfl)) (zAh (zAA (zAh zAD:PE _ _ _) (zAA (zAh (zAA zAT (zAA (pe_op zAi (iC (r:=rIxL K) zAg (pv 9)) (pe_op zEb zAF zAF)) zAD)):PE _ _ _) zAD)):PE _ _ _) rfl)) zAU)))))))⟩
  (zAI (pSS (i:=12) zBf.nd (zC3 zC8 (by rfl) z_dict rN (pa_nS ⟨pv 7⟩ ⟨zAD⟩)))
  (zAI (pSS (i:=13) zBf.nd (zDX zO4.ok hr (by rfl) zO4.gl zO4.kp zO4.bd .nil passF (pa_nS ⟨pv 6⟩ (pa_nS ⟨pv 7⟩ ⟨zAD⟩))))
  (zAI (zBN ⟨(pw_or (zAP op_ne (zBb zFZ (by rfl) z_len rQ (zAA (pv 7) zAD)) (zBb zFZ (by rfl) z_len rQ (zAA (pv 12) zAD)) (zAZ _)) (pw_or (zAP (zMr hu0) (pv 7) (pv 12) (zAZ _)) (zET (zDT (zCj (pe_cl zO1 hr (zAA (pv 13) zAD))))))).pt⟩ (zAa (zAq ⟨pe_bl⟩)) ⟨zAU⟩)
  (zAa (zAq ⟨zCm (zML hu5) (pe_cl zOy hr (zAA (pv 13) (zAA zBi (zAA zAF zAD)))) (pe_cl zOz hr (zAA (pv 6) (zAA (pv 12) (zAA zBi (zAA zAF zAD))))) (zAZ _)⟩)))))))))))))),?_⟩
 have d0:0<=sizeLine:=by decide
 have d1:1<=sizeLine:=by decide
 have d2:2<=sizeLine:=by decide
 have d6:6<=sizeLine:=by decide
 have z4:(0:Int)<4:=by decide
 have f4:(0:Int)<4/\(4:Int)<1073741824:=⟨by decide,by decide⟩;have f7:(0:Int)<7/\(7:Int)<1073741824:=⟨by decide,by decide⟩;have f16:(0:Int)<16/\(16:Int)<1073741824:=⟨by decide,by decide⟩;have f64:(0:Int)<64/\(64:Int)<1073741824:=⟨by decide,by decide⟩;refine⟨_,rfl,a,ns,0,rfl,hS,by decide,_,rfl,λ wl H1 ws k1 hw lw nw gw=>?_⟩;refine⟨_,rfl,a,ns,1,rfl,k1.seq hS,by decide,?_⟩;dsimp only;generalize ns.getD (1:Int).toNat 0=c1;obtain⟨x1,y1⟩:∃n:Nat,(n:Int)=c1 % 4:=⟨(c1 % 4).toNat,by omega⟩;obtain⟨x2,y2⟩:∃n:Nat,(n:Int)=c1 / 4 % 4:=⟨(c1 / 4 % 4).toNat,by omega⟩;obtain⟨x3,y3⟩:∃n:Nat,(n:Int)=c1 / 16 % 4:=⟨(c1 / 16 % 4).toNat,by omega⟩;refine⟨_,rfl,_,_,rfl,rfl,z4,_,rfl,_,_,rfl,rfl,f4,_,_,rfl,rfl,z4,_,rfl,_,_,rfl,rfl,f16,_,_,rfl,rfl,z4,d6,λ cl hcl=>?_⟩
 obtain⟨cs,ecs,co,cz⟩:∃cs:List Nat,[V.int (c1 % 4),V.int (c1 / 4 % 4),V.int (c1 / 16 % 4),V.int 0,V.int 0,V.int 0]=numV cs/\CsOk cs/\∀j,3<=j->cs.getD j 0=0:=by
  refine⟨[x1,x2,x3,0,0,0],by unfold numV;simp[y1,y2,y3],⟨rfl,λ x hx=>?_⟩,λ j hj=>?_⟩
  ·simp only[nN,nB,or_false] at hx
   omega
  ·match j,hj with
   |3,_=>rfl
   |4,_=>rfl
   |5,_=>rfl
   |j+6,_=>rfl
 rw[ecs];have k2:=zAC (o:=.lst (numV cs)) hcl;have ecl2:=@zAB H1 cl (.lst (numV cs));have k02:=k1.trans k2;have hw2:=k2 _ _ hw;dsimp only[gName];generalize upd H1 cl _=H2 at k2 ecl2 k02 hw2 ⊢;clear k2 k1 hw y1 y2 y3;refine⟨_,rfl,3,rfl,15,rfl,a,_,rfl,k02.seq hS,λ ca hca=>?_⟩;obtain⟨cs0,ecs0⟩:=zIZ ns (some 3) (some 15)
 have lcs0:cs0.length<=12:=by
  have:=zNM (ns.map V.int) 3 15;rw[show ((3:Nat):Int)=3 from rfl,show ((15:Nat):Int)=15 from rfl,ecs0,lC] at this;exact this
 rw[ecs0];have k3:=zAC (o:=.lst (cs0.map V.int)) hca;have eca:=@zAB H2 ca (.lst (cs0.map V.int));have k03:=k02.trans k3;have hw3:=k3 _ _ hw2;have ecl3:=k3 _ _ ecl2;generalize upd H2 ca _=H3 at k3 eca k03 hw3 ecl3 ⊢;clear k3 k02 hw2 ecl2;dsimp only[gName];refine viaN λ N hN=>?_
 suffices rest:∀σ' H',(∃(c4:Addr) (cells:List Int),σ'=[some (.ref a),some (.ref wl),some (.int c1),some (.ref cl),some (.ref c4),none,none,none,none,none,none,none,none,none]/\Same H H'/\H' wl=some (.lst (ws.map V.str))/\H' cl=some (.lst (numV cs))/\H' c4=some (.lst (cells.map V.int))/\1<=cells.length/\cells.length<=12)->N σ' H' by
  refine⟨_,rfl,ca,_,rfl,.inl (SqL.of eca),rfl,_,rfl,ite2 (λ Ω=>?_) (λ c=>?_)⟩
  ·refine⟨_,rfl,d1,λ cb hcb=>?_⟩
   have k4:=zAC (o:=.lst [.int c1]) hcb;exact rest _ _ ⟨cb,[c1],rfl,k03.trans k4,k4 _ _ hw3,k4 _ _ ecl3,zAB,lQ 1,(show 1<=12 by decide)⟩
  ·refine rest _ _ ⟨ca,cs0,rfl,k03,hw3,ecl3,eca,?_,lcs0⟩
   rcases nG cs0.length with h|h
   ·exact absurd (lU (by rw[lC,h];rfl)) c
   ·exact h
 rintro σ4 H4 ⟨c4,cells,rfl,k04,hw4,ecl4,ec4,lc1,lc12⟩;refine hN _ _ ?_;clear hN;clear k03 hw3 eca ecl3;obtain⟨tn,etn⟩:∃n:Nat,(n:Int)=c1 / 64 % 4:=⟨(c1 / 64 % 4).toNat,by omega⟩;refine⟨_,rfl,_,_,rfl,rfl,f64,_,_,rfl,rfl,z4,?_⟩;dsimp only[gName];rw[←etn];obtain⟨gs,egs⟩:∃gs,gs=ws.drop 8:=⟨_,rfl⟩;have lg:gs.length=6:=by rw[egs,mW,lw]
 have ndg:gs.Nodup:=by rw[egs];exact nw.drop
 have igs:∀x∈gs,x∈ws:=λ x hx=>by rw[egs] at hx;exact List.mem_of_mem_drop hx
 have gat:∀j:Nat,gs[j]?=ws[8+j]?:=λ j=>by rw[egs,List.getElem?_drop]
 refine⟨_,rfl,_,rfl,8,rfl,wl,_,rfl,SqL.of hw4,λ gl hgl=>?_⟩;have ec8:=zNN ws 8 (by omega);rw[show ((8:Nat):Int)=8 from rfl] at ec8;rw[ec8,←egs];have k5:=zAC (o:=.lst (gs.map V.str)) hgl;have egl5:=@zAB H4 gl (.lst (gs.map V.str));generalize upd H4 gl _=H5 at k5 egl5 ⊢;refine⟨d0,λ bl hbl=>?_⟩;have k6:=zAC (o:=.lst []) hbl;have ebl6:=@zAB H5 bl (.lst []);generalize upd H5 bl _=H6 at k6 ebl6 ⊢;refine⟨_,rfl,_,rfl,_,rfl,_,rfl,_,_,rfl,rfl,_,rfl,wl,_,rfl,SqL.of ((k5.trans k6) _ _ hw4),λ pl hpl=>?_⟩;have ect:=cutS ws tn (tn+4) (by omega) (by omega);rw[show (((tn+4:Nat)):Int)=(tn:Int)+4 by omega] at ect;rw[ect];generalize hpw:(ws.drop tn).take (tn+4 - tn)=pw;have ipw:∀x∈pw,x∈ws:=λ x hx=>by rw[←hpw] at hx;exact List.mem_of_mem_drop (nF hx)
 have k7:=zAC (o:=.lst (pw.map V.str)) hpl;have epl7:=@zAB H6 pl (.lst (pw.map V.str));have k47:=k5.trans (k6.trans k7);have npl:∀{b:Addr}{o:HO},H6 b=some o->b≠pl:=λ{b o} hb z=>by rw[z,hpl] at hb;cases hb
 have I7:ShI (upd H6 pl (.lst (pw.map V.str))) gl bl pl cl gs [] pw ws cs:=⟨(k6.trans k7) _ _ egl5,k7 _ _ ebl6,epl7,k47 _ _ ecl4,npl (k6 _ _ egl5),npl ebl6,npl ((k5.trans k6) _ _ ecl4),co,lg,igs,(λ x hx=>nomatch hx),ipw⟩
 have ec7:=k47 _ _ ec4;have nc4:c4≠pl:=npl ((k5.trans k6) _ _ ec4);have nwl:wl≠pl:=npl ((k5.trans k6) _ _ hw4);generalize upd H6 pl _=H7 at k7 epl7 k47 I7 ec7 ⊢;refine⟨_,rfl,c4,gl,bl,pl,cl,cells,gs,[],pw,ws,cs,rfl,SqL.of ec7,lc1,lc12,lQ _,by decide,I7,λ t tv H8 pw8 sd8 Ω Ω rt8 st tg sh=>?_⟩;have st23:t.size<=23:=by omega
 have k48:Same H4 H8:=λ b o hb=>sd8 b o (npl ((k5.trans k6) _ _ hb)) (k47 _ _ hb);have k08:=k04.trans k48;have hw8:=k48 _ _ hw4;have ecl8:=k48 _ _ ecl4;clear k04 k48 k47 sd8 I7 ec7 nc4 nwl npl k5 k6 k7 epl7 ebl6 egl5 hw4 ecl4 ec4 hgl hbl hpl;refine λ pd hpd=>?_;have k89:=zAC (o:=.dK []) hpd;have epd:=@zAB H8 pd (.dK []);have k09:=k08.trans k89;have hw9:=k89 _ _ hw8;have ecl9:=k89 _ _ ecl8;have rt9:=rt8.mono k89.tk;have hpdH:H pd=none:=k08.free hpd;dsimp only[gName];show tSeq _ _ _ _ (upd H8 pd (.dK []));generalize upd H8 pd _=H9 at k89 epd k09 hw9 ecl9 rt9 ⊢;clear k89 hw8 ecl8 rt8 k08 hpd;have npd:∀{b:Addr}{o:HO},H9 b=some o->(∀kv,o ≠ .dK kv)->b≠pd:=λ{b o} hb ho z=>by rw[z,epd] at hb;exact ho [] (mF hb).symm
 refine⟨6,rfl,by decide,by decide,?_⟩;refine zDe (n:=(6:Int).toNat) (λ i σ' H'=>E6 λ(s8 s9 s10 s11:Option V) (φ:Str->Option Pce) (kvs:List (Key × V))=>A6 (σ'=[some (.ref a),some (.ref wl),some (.int c1),some (.ref cl),some (.ref c4),some (.int (tn:Int)),some tv,some (.ref pd),s8,s9,s10,s11,none,none]) (Same H H') (SbD pd H9 H') (H' pd=some (.dK kvs)) (kvs.length<=2 * i) (PdL H' gs cs ws φ kvs i)) ?_ ?_ ?_
 ·exact⟨none,none,none,none,λ Ω=>none,[],rfl,k09,λ Ω Ω Ω h=>h,epd,lQ _,⟨λ g=>True.intro,List.nodup_nil,(λ e he=>nomatch he),(λ g c e=>nomatch e),(λ j g hj=>absurd hj (Nat.not_lt_zero _))⟩⟩
 ·rintro i σ' H' hi ⟨s8,s9,s10,s11,φ,kvs,rfl,g,sd,ep,lk,pD⟩
  have hi6:i<6:=by simpa using hi
  rw[Int.zero_add];obtain⟨gx,egx⟩:∃gx,gs[i]?=some gx:=⟨_,lX (by omega)⟩
  have atg:atI (ws.map V.str) (8+(i:Int))=some (.str gx):=by
   have:=zAY (xs:=ws.map V.str) (j:=8+i) (v:=.str gx) (by rw[mI,←gat,egx];rfl)
   rwa [show ((8+i:Nat):Int)=8+(i:Int) by omega] at this
  have hwT:=sd _ _ (npd hw9 λ kv z=>nomatch z) hw9
  have eclT:=sd _ _ (npd ecl9 λ kv z=>nomatch z) ecl9
  have hne:(some (6:Int))≠some 0:=by decide
  refine⟨_,rfl,_,rfl,_,_,rfl,rfl,_,rfl,6,rfl,a,_,rfl,hne,g.seq hS,λ p1 hp1=>?_⟩;rw[zIp];have k1:=zAC (o:=.lst ((zCF ns (some (15+(i:Int))) none (some 6)).map V.int)) hp1;have e1:=@zAB H' p1 (.lst ((zCF ns (some (15+(i:Int))) none (some 6)).map V.int));generalize zCF ns (some (15+(i:Int))) none (some 6)=pk at k1 e1 ⊢;generalize upd H' p1 _=Ha at k1 e1 ⊢;refine⟨7,rfl,p1,_,rfl,SqL.of e1,λ p2 hp2=>?_⟩;obtain⟨cs1,ecs1⟩:=zIZ pk none (some 7)
  have lcs1:cs1.length<=7:=by
   have:=zL4 (pk.map V.int) 7;rw[show ((7:Nat):Int)=7 from rfl,ecs1,lC] at this;exact this
  rw[ecs1];have k2:=zAC (o:=.lst (cs1.map V.int)) hp2;have e2:=@zAB Ha p2 (.lst (cs1.map V.int));have kb:=k1.trans k2;dsimp only[gName];generalize upd Ha p2 _=Hb at k2 e2 kb ⊢;clear k1 k2 e1;have gb:=g.trans kb;refine viaN λ N hN=>?_
  suffices rest:∀σ' H',(∃(l9:Addr) (cs2:List Int),σ'=[some (.ref a),some (.ref wl),some (.int c1),some (.ref cl),some (.ref c4),some (.int (tn:Int)),some tv,some (.ref pd),some (.int (i:Int)),some (.ref l9),s10,s11,none,none]/\Same Hb H'/\H' l9=some (.lst (cs2.map V.int))/\1<=cs2.length/\cs2.length<=7)->N σ' H' by
   refine⟨_,rfl,p2,_,rfl,.inl (SqL.of e2),rfl,_,rfl,ite2 (λ Ω=>?_) (λ c=>?_)⟩
   ·refine⟨_,rfl,a,ns,2,rfl,gb.seq hS,by decide,_,rfl,_,_,rfl,rfl,_,_,rfl,rfl,⟨(by show (0:Int)<(i:Int)+1;omega),(by show (i:Int)+1<1073741824;omega)⟩,d1,λ p3 hp3=>?_⟩
    exact rest _ _ ⟨p3,[_],rfl,zAC hp3,zAB,lQ 1,(show 1<=7 by decide)⟩
   ·refine rest _ _ ⟨p2,cs1,rfl,.refl _,e2,?_,lcs1⟩
    rcases nG cs1.length with h|h
    ·exact absurd (lU (by rw[lC,h];rfl)) c
    ·exact h
  rintro σ3 Hc ⟨l9,cs2,rfl,kc,ec,lc1',lc7⟩;refine hN _ _ ?_;clear hN;have kTc:=kb.trans kc;have gc:=gb.trans kc;have sc:=sd.trans kTc.sd;have epc:=kTc _ _ ep;have pc:=pD.mono kTc.tk;have hwc:=kTc _ _ hwT;have eclc:=kTc _ _ eclT;clear kb kc gb g sd ep pD hwT eclT e2 kTc
  obtain⟨c2,r2,rfl⟩:∃c r,cs2=c::r:=by
   cases cs2 with
   |nil=>cases lc1'
   |cons c r=>exact⟨c,r,rfl⟩
  have at0:atI ((c2::r2).map V.int) 0=some (.int c2):=zAY (j:=0) rfl;refine⟨_,rfl,l9,_,0,_,rfl,rfl,SqL.of ec,at0,_,_,rfl,rfl,f7,_,_,rfl,rfl,(show (0:Int)<5 by decide),?_⟩;dsimp only[gName];obtain⟨an,ean⟩:∃n:Nat,(n:Int)=c2 / 7 % 5:=⟨(c2 / 7 % 5).toNat,by omega⟩;rw[←ean];have an4:an<=4:=by omega
  have cn3:=co.le i;have lc6:=co.1;have ecn:=cutS ws an (an+cs.getD i 0) (by omega) (by omega);rw[show (((an+cs.getD i 0:Nat)):Int)=(an:Int)+((cs.getD i 0:Nat):Int) by omega] at ecn;refine⟨_,rfl,_,rfl,_,rfl,_,rfl,_,rfl,_,rfl,cl,_,_,_,rfl,rfl,SqL.of eclc,cs_at (by omega),_,_,rfl,rfl,_,rfl,wl,_,rfl,SqL.of hwc,λ p4 hp4=>?_⟩;rw[ecn];generalize hnms:(ws.drop an).take (an+cs.getD i 0 - an)=nms
  have lnm:nms.length=cs.getD i 0:=by
   rw[←hnms,mO,mW];omega
  have k4:=zAC (o:=.lst (nms.map V.str)) hp4;have e4:=@zAB Hc p4 (.lst (nms.map V.str));generalize upd Hc p4 _=Hd at k4 e4 ⊢;refine⟨p4,_,rfl,.inl ⟨SqL.of e4,λ p5 hp5=>?_⟩⟩;have k5:=zAC (o:=.tup (nms.map V.str)) hp5;have e5:=@zAB Hd p5 (.tup (nms.map V.str));dsimp only[gName];generalize upd Hd p5 _=He at k5 e5 ⊢;have kce:=k4.trans k5;have hwe:=kce _ _ hwc;have ec8':=zNO ws 8 (by omega);rw[show ((8:Nat):Int)=8 from rfl] at ec8';have ec3:=cutS ws an (an+3) (by omega) (by omega);rw[show (((an+3:Nat)):Int)=(an:Int)+3 by omega] at ec3;refine⟨_,rfl,_,rfl,_,rfl,8,rfl,wl,_,rfl,SqL.of hwe,λ p6 hp6=>?_⟩;rw[ec8'];have k6:=zAC (o:=.lst ((ws.take 8).map V.str)) hp6;have e6:=@zAB He p6 (.lst ((ws.take 8).map V.str));generalize upd He p6 _=Hf at k6 e6 ⊢;refine⟨_,rfl,_,rfl,_,rfl,_,rfl,_,_,rfl,rfl,_,rfl,wl,_,rfl,SqL.of (k6 _ _ hwe),λ p7 hp7=>?_⟩;rw[ec3];have k7:=zAC (o:=.lst (((ws.drop an).take (an+3 - an)).map V.str)) hp7;have e7:=@zAB Hf p7 (.lst (((ws.drop an).take (an+3 - an)).map V.str));generalize upd Hf p7 _=Hg at k7 e7 ⊢;refine⟨p6,p7,_,_,rfl,rfl,k7 _ _ e6,e7,zAm (by simp;omega),λ p8 hp8=>?_⟩;rw[←mQ];have inL:∀x∈ws.take 8++(ws.drop an).take (an+3 - an),x∈ws:=λ x hx=>(lK.mp hx).elim nF λ h=>List.mem_of_mem_drop (nF h);have posL:0<(ws.take 8++(ws.drop an).take (an+3 - an)).length:=by simp;omega
  generalize ws.take 8++(ws.drop an).take (an+3 - an)=L1 at inL posL ⊢;have k8:=zAC (o:=.lst (L1.map V.str)) hp8;have e8:=@zAB Hg p8 (.lst (L1.map V.str));generalize upd Hg p8 _=Hh at k8 e8 ⊢;have k68:=k6.trans (k7.trans k8);refine⟨_,rfl,8,rfl,wl,_,rfl,SqL.of (k68 _ _ hwe),λ p9 hp9=>?_⟩;rw[ec8'];have k9:=zAC (o:=.lst ((ws.take 8).map V.str)) hp9;have e9:=@zAB Hh p9 (.lst ((ws.take 8).map V.str));generalize upd Hh p9 _=Hi at k9 e9 ⊢;have kci:=kce.trans (k68.trans k9);have e59:=(k68.trans k9) _ _ e5;have e89:=k9 _ _ e8;clear k4 k5 e4 kce k6 k7 k8 k9 k68 e5 e6 e7 e8 hwe;refine⟨l9,p8,p9,c2::r2,L1,ws.take 8,ws,rfl,SqL.of (kci _ _ ec),lc1',lc7,by decide,e89,e9,posL,by simp;omega,inL,(λ x hx=>nF hx),λ u uv Hj kj ru su ug un=>⟨d2,λ q1 hq1=>?_⟩⟩;have kq:=zAC (o:=.tup [.ref p5,uv]) hq1;have eq1:=@zAB Hj q1 (.tup [.ref p5,uv]);have kcq:=kci.trans (kj.trans kq);have ruq:=ru.mono kq.tk;have e5q:=kq _ _ (kj _ _ e59);generalize upd Hj q1 _=Hk at kq eq1 kcq ruq e5q ⊢;clear kci kj kq ru e59 e89 e9;have gg:=gc.trans kcq;have sg:=sc.trans kcq.sd;have epg:=kcq _ _ epc;have pg:=pc.mono kcq.tk;have hwg:=kcq _ _ hwc;have ecg:=kcq _ _ ec;clear gc sc epc pc hwc eclc ec kcq;refine⟨_,rfl,_,rfl,_,rfl,_,_,rfl,rfl,wl,_,_,_,rfl,rfl,SqL.of hwg,atg,pd,_,rfl,DPut.k (k:=Sum.inr gx) epg (zAM (by omega)),?_⟩
  have su13:u.size<=13:=by
   have h7:(c2::r2).length<=7:=lc7;omega
  have tk1:Tk Hk (upd Hk pd (.dK (putK kvs (Sum.inr gx:Key) (.ref q1)))):=Tk.dk epg;have ph:=(pg.put egx ndg (c:=(nms,u)) (b:=q1) ⟨q1,p5,uv,rfl,eq1,e5q,ruq⟩ ⟨(by show nms.length<=3;omega),ug,un,su13⟩).mono tk1;have eph:=@zAB Hk pd (.dK (putK kvs (Sum.inr gx:Key) (.ref q1)));have gh:Same H (upd Hk pd (.dK (putK kvs (Sum.inr gx:Key) (.ref q1)))):=zAQ gg hpdH;have sh':SbD pd H9 (upd Hk pd (.dK (putK kvs (Sum.inr gx:Key) (.ref q1)))):=sg.trans (SbD.set _);have nlp:l9≠pd:=λ z=>by rw[z,epg] at ecg;cases ecg
  have ech:(upd Hk pd (.dK (putK kvs (Sum.inr gx:Key) (.ref q1)))) l9=_:=(zAK nlp).trans ecg;have lkh:=zAu kvs (Sum.inr gx:Key) (.ref q1);dsimp only;generalize putK kvs (Sum.inr gx:Key) (.ref q1)=kv1 at tk1 ph eph gh sh' ech lkh ⊢;generalize upd Hk pd _=Hl at tk1 ph eph gh sh' ech ⊢;have hwh:=sh' _ _ (npd hw9 λ kv z=>nomatch z) hw9
  clear gg sg epg pg hwg ecg tk1 eq1 e5q ruq;refine⟨_,rfl,_,_,rfl,rfl,_,rfl,ite2 (λ cin=>?_) (λ cin=>?_)⟩
  ·have i4:4<=i:=by
    have:=lS cin;omega
   refine⟨d0,λ w1 hw1=>?_⟩;have k8:=zAC (o:=.tup []) hw1;refine⟨_,rfl,l9,_,0,_,rfl,rfl,SqL.of (k8 _ _ ech),at0,_,_,rfl,rfl,⟨by decide,by decide,by decide⟩,_,_,rfl,rfl,(show (0:Int)<10 ^ 30 by decide),d2,λ w2 hw2=>⟨d2,λ w3 hw3=>?_⟩⟩;have k9:=zAC (o:=.tup [.str "num", .int (c2 % 10 ^ (30:Int).toNat)]) hw2;have k10:=zAC (o:=.tup [.ref w1,.ref w2]) hw3;have kA:=k8.trans (k9.trans k10);have epj:=kA _ _ eph;refine⟨_,rfl,_,rfl,_,rfl,_,_,rfl,rfl,wl,_,_,_,rfl,rfl,SqL.of (kA _ _ hwh),atg,pd,_,rfl,DPut.k (k:=Sum.inr gx) epj (zAM (by omega)),?_⟩;have pj:=(ph.mono kA.tk).put egx ndg (c:=([],.num (c2 % 10 ^ (30:Int).toNat))) (b:=w3) ⟨w3,w1,.ref w2,rfl,zAB,k10 _ _ (k9 _ _ zAB),⟨w2,rfl,k10 _ _ zAB⟩⟩ ⟨lZ _,True.intro,True.intro,(show 1<=13 by decide)⟩;rw[zLC] at pj;have lkj:=zAu kv1 (Sum.inr gx:Key) (.ref w3);exact⟨_,_,_,_,_,_,rfl,zAQ (gh.trans kA) hpdH,(sh'.trans kA.sd).trans (SbD.set _),zAB,by omega,(pj.mono (Tk.dk epj)).next egx zHD (by rw[cz i (by omega)];rfl) λ Ω=>⟨rfl,_,rfl⟩⟩
  ·exact⟨_,_,_,_,_,_,rfl,gh,sh',eph,by omega,ph.next egx zHD lnm λ i4=>absurd (lU (show (3:Int)<(i:Int) by omega)) cin⟩
 ·rintro σ' H' ⟨s8,s9,s10,s11,φ,kvs,rfl,k10,sd,epA,lk,pA⟩
  have lk12:kvs.length<=12:=lk
  replace pA:PdL H' gs cs ws φ kvs 6:=pA
  have rtA:=rt9.mono (sd.tkD epd);clear sd hw9 ecl9 epd npd k09 rt9 lk;refine⟨_,rfl,pd,kvs,rfl,epA,λ kd hkd=>?_⟩;have kB:=zAC (o:=.dK kvs) hkd;have ekB:=@zAB H' kd (.dK kvs);have epB:=kB _ _ epA;have pB:=pA.mono kB.tk;have rtB:=rtA.mono kB.tk;dsimp only[gName];generalize upd H' kd _=H11 at kB ekB epB pB rtB ⊢;clear kB epA pA rtA hkd;have pO:=pB.pco lg gw sh;have pC:=pB.pcd lg;refine⟨_,rfl,_,rfl,t,tv,pd,kvs,φ,ws,rfl,rtB,epB,pB.fl,pB.flo co sh tg (by omega) (by omega),(λ g hg=>pB.all lg g (sh_gs sh g hg)),zBG (G:=λ x=>x∈ws) gw tg,by omega,pO,λ t' fw ks W' fv H12 k12 rfw A F=>?_⟩
  have hng:∀g ns u,φ g=some (ns,u)->ngT u/\u.dep<=20:=λ g ns u e=>by
   have k:=pB.ok g _ e;have:=zBV u;have h13:u.size<=13:=k.sz;exact⟨k.ng,by omega⟩
  obtain⟨eq0,fgd,fng⟩:=zKV A F λ g ns u e=>(hng g ns u e).1;have dpt:t.dep<=24:=by have:=zBV t;omega
  have fdp:fw.dep<=44:=by
   have h1:=zNG hng (FilI.done F);have h2:t'.dep=t.dep:=by rw[←zDA,A.sk,zDA]
   omega
  have epC:=k12 _ _ epB;have ekC:=k12 _ _ ekB;have fC:=pB.fl.mono k12.tk;have rtC:=rtB.mono k12.tk;have nvC:=zJ5 pB.nd;have rfC:=pB.rf;clear A F epB ekB rtB k12;dsimp only[gName];refine⟨_,rfl,pd,kvs,rfl,.inl epC,_,rfl,kd,kvs,rfl,.inl ekC,rfl,_,rfl,ite2 (λ c=>?_) (λ Ω=>?_)⟩
  ·rw[decide_eq_true rfl] at c
   cases c
  refine⟨_,rfl,_,rfl,pd,kd,kvs,rfl,rfl,.inl epC,.inl ekC,nvC,rfC,_,rfl,iteF ?_⟩;refine⟨_,rfl,fw,fv,rfl,rfw,by omega,fgd,fng,λ H13 k13=>⟨_,rfl,iteF ?_⟩⟩;refine⟨_,rfl,λ e1 he1=>?_⟩;have k14:=k13.trans (zAC (o:=.dK []) he1);refine⟨fw,fv,e1,[],noK,0,rfl,by omega,rfw.mono k14.tk,fng,zAB,by decide,KnD.nil,λ v1 H14 k15 r1=>?_⟩;have k16:=k14.trans k15;refine⟨_,rfl,_,rfl,λ e2 he2=>?_⟩;have k17:=zAC (o:=.dK []) he2;have k18:=k16.trans k17;refine⟨t,tv,kd,e2,kvs,[],φ,noK,0,gs,[],cs,rfl,by omega,rtC.mono k18.tk,sh,k18 _ _ ekC,fC.mono k18.tk,pC,co,zAB,by decide,KnD.nil,(λ x hx=>nomatch hx),λ v2 H15 k19 r2=>?_⟩
  obtain⟨ds,eds⟩:=zOC fw 0;have dpp:=zCZ fw noK 0 fng λ x d e=>nomatch e
  rw[eds] at eq0 r1 dpp;rw[←eq0] at r2;refine⟨ds,ds,r1.mono (k17.trans k19).tk,r2,by omega,?_⟩;rw[Dt.beqs_iff.mpr rfl];exact qf _
theorem zKJ {K:W.Frag}{f:Addr}{oc:Value}{od:Option Addr}{fd:FuncData}{sl:Array (Option Value)}(l:K.lookup f=some ⟨oc,od,.func fd,sl⟩):W.keepIn K (.ref f)=true:=by unfold W.keepIn;dsimp only;rw[l]
def DfA (K:W.Frag) (x:Str) (s:Stmt) (f:Addr):Prop:=∃fd,W.nsIn K mainGlobals x=some (some (.ref f))/\Fun K x x s f fd
theorem dfa {K:W.Frag}{x:Str}{st:Stmt}{f:Addr}{oc:Value}{od an:Option Addr}{osl:Array (Option Value)}{kV doc pm cdv ct:Value}(a:W.nsIn K mainGlobals x=some (some (.ref f))) (l:K.lookup f=some ⟨oc,od,.func (W.fnOf x x (zDL st) (zCY st) (zAN st) .none kV doc pm an cdv ct),osl⟩) (c:W.codeIn K cdv x=true):DfA K x st f:=⟨_,a,zMU l c (zKJ l)⟩
theorem DfA.go {K:W.Frag}{x:Str}{s:Stmt}{f:Addr}{h:Heap}{mg:Str->Option Value}(d:DfA K x s f) (X:K.In h) (G:h.Ns mainGlobals mg):∃fd,Fun K x x s f fd/\mg x=some (.ref f):=d.elim λ fd h=>⟨fd,h.2,W.mg_of X G h.1⟩
theorem us1 {p:List Value->Prop}(h:∀a,p [a]):∀us:List Value,us.length=1->p us:=λ us q=>by
 obtain _|⟨a,us⟩:=us
 ·cases q
 obtain _|⟨z,us⟩:=us
 ·exact h a
 ·simp at q
theorem us2 {p:List Value->Prop}(h:∀a b,p [a,b]):∀us:List Value,us.length=2->p us:=λ us q=>by
 obtain _|⟨a,us⟩:=us
 ·cases q
 obtain _|⟨b,us⟩:=us
 ·cases q
 obtain _|⟨z,us⟩:=us
 ·exact h a b
 ·simp at q
theorem us3 {p:List Value->Prop}(h:∀a b c,p [a,b,c]):∀us:List Value,us.length=3->p us:=λ us q=>by
 obtain _|⟨a,us⟩:=us
 ·cases q
 obtain _|⟨b,us⟩:=us
 ·cases q
 obtain _|⟨c,us⟩:=us
 ·cases q
 obtain _|⟨z,us⟩:=us
 ·exact h a b c
 ·simp at q
theorem us4 {p:List Value->Prop}(h:∀a b c d,p [a,b,c,d]):∀us:List Value,us.length=4->p us:=λ us q=>by
 obtain _|⟨a,us⟩:=us
 ·cases q
 obtain _|⟨b,us⟩:=us
 ·cases q
 obtain _|⟨c,us⟩:=us
 ·cases q
 obtain _|⟨d,us⟩:=us
 ·cases q
 obtain _|⟨z,us⟩:=us
 ·exact h a b c d
 ·simp at q
theorem us5 {p:List Value->Prop}(h:∀a b c d e,p [a,b,c,d,e]):∀us:List Value,us.length=5->p us:=λ us q=>by
 obtain _|⟨a,us⟩:=us
 ·cases q
 obtain _|⟨b,us⟩:=us
 ·cases q
 obtain _|⟨c,us⟩:=us
 ·cases q
 obtain _|⟨d,us⟩:=us
 ·cases q
 obtain _|⟨e,us⟩:=us
 ·cases q
 obtain _|⟨z,us⟩:=us
 ·exact h a b c d e
 ·simp at q
theorem all_mk {l:W.OpenLaw}{w:World}{K:W.Frag}{h:Heap}{mg:Str->Option Value}{fa f0 f1 f2 f3 f4 f5 f6 f7 f8 f9 f10 f11 f12 f13 f14 f15 f16 f17 f18 f19 f20 f21 f22 f23 f24 f25 f26 f27 f28 f29 f30 f31 f32 f33 f34 f35 f36 f37 f38 f39 f40 f41 f42 f43 f44 lv_LEAF_SIGNS lv_KEPT_WORDS zO5 zO6:Addr}(X:K.In h) (G:h.Ns mainGlobals mg) (hfa:mg "law" = some (.ref fa))
  {od44 an44:Option Addr}{sl44:Array (Option Value)}{oc44 kV44 dc44 pm44 cd44 ct44:Value}
  {odC0:Option Addr}{slC0:Array (Option Value)}{nC0:Nat}{tC0_0 tC0_1 tC0_2 tC0_3 tC0_4:Tok}
  {odC1:Option Addr}{slC1:Array (Option Value)}{nC1:Nat}{tC1_0 tC1_1 tC1_2 tC1_3 tC1_4 tC1_5 tC1_6 tC1_7 tC1_8 tC1_9 tC1_10:Tok}
  {tkL:Tok}
  (a0:DfA K "is_whole" zDw f0)
  (a1:DfA K "parts_begin" zCN f1)
  (a2:DfA K "parts" zHK f2)
  (a3:DfA K "with_parts" zCf f3)
  (a4:DfA K "all_parts" zDH f4)
  (a5:DfA K "placed_parts" zB9 f5)
  (a6:DfA K "places" zFo f6)
  (a7:DfA K "trees_down_to" zBw f7)
  (a8:DfA K "part_at" zEP f8)
  (a9:DfA K "put_at" zFn f9)
  (a10:DfA K "names_at" zDt f10)
  (a11:DfA K "bound_in" zDx f11)
  (a12:DfA K "free_names" zCh f12)
  (a13:DfA K "word_of" zEN f13)
  (a14:DfA K "unused_word" zCM f14)
  (a15:DfA K "words_used" zCe f15)
  (a16:DfA K "catches" zES f16)
  (a17:DfA K "let_name" zDu f17)
  (a18:DfA K "leaves_within" zBx f18)
  (a19:DfA K "put_leaf" zDq f19)
  (a20:DfA K "put_head" zDr f20)
  (a21:DfA K "grown_level" zCS f21)
  (a22:DfA K "grown_tree" zCg f22)
  (a23:DfA K "renamed" zEO f23)
  (a24:DfA K "gap_parts" zDF f24)
  (a25:DfA K "counted_gaps" zCA f25)
  (a26:DfA K "gaps_of" zER f26)
  (a27:DfA K "outer_names" zCO f27)
  (a28:DfA K "would_catch" zCL f28)
  (a29:DfA K "words_of_all" zB8 f29)
  (a30:DfA K "with_lets_apart" zBX f30)
  (a31:DfA K "atom_leaf" zDG f31)
  (a32:DfA K "piece_at" zDs f32)
  (a33:DfA K "filled" zFp f33)
  (a34:DfA K "_law_cell_at" zCR f34)
  (a35:DfA K "_law_words" zDE f35)
  (a36:DfA K "_law_leaf" zDv f36)
  (a37:DfA K "_law_tree" zCx f37)
  (a38:DfA K "_law_gap" zEQ f38)
  (a39:DfA K "_law_shape" zCP f39)
  (a40:DfA K "_law_bare" zCy f40)
  (a41:DfA K "_law_due" zDS f41)
  (a42:DfA K "_law_is_word" zCQ f42)
  (a43:DfA K "_law_is_tree" zBh f43)
  (a44:W.nsIn K mainGlobals "law" = some (some (.ref f44)))
  (l44:K.lookup f44=some ⟨oc44,od44,.func (W.fnOf "law" "law" (zDL s_law) (zCY s_law) (zAN s_law) .none kV44 dc44 pm44 an44 cd44 ct44),sl44⟩) (c44:W.codeIn K cd44 "law" = true)
  (aC0:W.nsIn K mainGlobals "LEAF_SIGNS" = some (some (.ref lv_LEAF_SIGNS))) (lC0:K.lookup lv_LEAF_SIGNS=some ⟨.type "tuple", odC0,.seq #[.str "num" tC0_0,.str "name" tC0_1,.str "ask" tC0_2,.str "stop" tC0_3,.str "gap" tC0_4] nC0,slC0⟩)
  (aC1:W.nsIn K mainGlobals "KEPT_WORDS" = some (some (.ref lv_KEPT_WORDS))) (lC1:K.lookup lv_KEPT_WORDS=some ⟨.type "tuple", odC1,.seq #[.str "let" tC1_0,.str "in" tC1_1,.str "if" tC1_2,.str "then" tC1_3,.str "else" tC1_4,.str "say" tC1_5,.str "ask" tC1_6,.str "stop" tC1_7,.str "where" tC1_8,.str "quiet" tC1_9,.str "number" tC1_10] nC1,slC1⟩)
  (aX0:W.nsIn K mainGlobals "NoPlace" = some (some (.ref zO5)))
  (aX1:W.nsIn K mainGlobals "NoFill" = some (some (.ref zO6)))
  (xP:W.excIn K zO5 bmVE "ValueError.__new__" = true)
  (xF:W.excIn K zO6 bmVE "ValueError.__new__" = true)
  (aLt:W.nsIn K mainGlobals "LETTERS" = some (some (.str "abcdefghijklmnopqrstuvwxyz" tkL)))
  (z_len:W.nsIn K mainGlobals "len" = some none)
  (z_range:W.nsIn K mainGlobals "range" = some none)
  (z_isinstance:W.nsIn K mainGlobals "isinstance" = some none)
  (z_int:W.nsIn K mainGlobals "int" = some none)
  (z_bool:W.nsIn K mainGlobals "bool" = some none)
  (z_str:W.nsIn K mainGlobals "str" = some none)
  (z_tuple:W.nsIn K mainGlobals "tuple" = some none)
  (z_list:W.nsIn K mainGlobals "list" = some none)
  (z_sorted:W.nsIn K mainGlobals "sorted" = some none)
  (z_enumerate:W.nsIn K mainGlobals "enumerate" = some none)
  (z_dict:W.nsIn K mainGlobals "dict" = some none)
  (z_zip:W.nsIn K mainGlobals "zip" = some none)
  (z_reversed:W.nsIn K mainGlobals "reversed" = some none)
  (z_any:W.nsIn K mainGlobals "any" = some none)
  : ∃fd:FuncData,(∀(s:Shared) (v:Value),BindsTo s fd ⟨[v],[]⟩ [("_law_script", v)])/\∀base:Heap,K.In base->base.Ns mainGlobals mg->FnOk l.prog w K mg base CX0 52 fa fd ["_law_script"] (zHw K):=by
 have e:=hfa.symm.trans (W.mg_of X G a44);cases e;have z_len:=W.mg_none_of X G z_len;have z_range:=W.mg_none_of X G z_range;have z_isinstance:=W.mg_none_of X G z_isinstance;have z_int:=W.mg_none_of X G z_int;have z_bool:=W.mg_none_of X G z_bool;have z_str:=W.mg_none_of X G z_str;have z_tuple:=W.mg_none_of X G z_tuple;have z_list:=W.mg_none_of X G z_list;have z_sorted:=W.mg_none_of X G z_sorted;have z_enumerate:=W.mg_none_of X G z_enumerate;have z_dict:=W.mg_none_of X G z_dict;have z_zip:=W.mg_none_of X G z_zip;have z_reversed:=W.mg_none_of X G z_reversed;have z_any:=W.mg_none_of X G z_any;have zOI:=W.mg_of X G aC0;have h_LEAF_SIGNS:zG3 K lv_LEAF_SIGNS:=⟨_,_,_,lC0,rfl,rfl,(by show 5<=sizeLine;decide),(.cons ⟨_,rfl⟩ (.cons ⟨_,rfl⟩ (.cons ⟨_,rfl⟩ (.cons ⟨_,rfl⟩ (.cons ⟨_,rfl⟩ .nil)))))⟩;have zOV:=W.mg_of X G aC1;have h_KEPT_WORDS:KeptW K lv_KEPT_WORDS:=⟨_,_,_,lC1,rfl,rfl,(by show 11<=sizeLine;decide),(.cons ⟨_,rfl⟩ (.cons ⟨_,rfl⟩ (.cons ⟨_,rfl⟩ (.cons ⟨_,rfl⟩ (.cons ⟨_,rfl⟩ (.cons ⟨_,rfl⟩ (.cons ⟨_,rfl⟩ (.cons ⟨_,rfl⟩ (.cons ⟨_,rfl⟩ (.cons ⟨_,rfl⟩ (.cons ⟨_,rfl⟩ .nil)))))))))))⟩;have zOL:=W.mg_of X G aX0;have zOr:=W.mg_of X G aX1;have zOU:mg "LETTERS" = some (.str abcS tkL):=W.mg_of X G aLt;obtain⟨_,F0,m0⟩:=a0.go X G;have b0:=F0.binds (ps:=["value"]) λ Ω Ω Ω Ω Ω Ω=>us1 λ Ω=>rfl;obtain⟨_,F1,m1⟩:=a1.go X G;have b1:=F1.binds (ps:=["tree"]) λ Ω Ω Ω Ω Ω Ω=>us1 λ Ω=>rfl;obtain⟨_,F2,m2⟩:=a2.go X G;have b2:=F2.binds (ps:=["tree"]) λ Ω Ω Ω Ω Ω Ω=>us1 λ Ω=>rfl;obtain⟨_,F3,m3⟩:=a3.go X G;have b3:=F3.binds (ps:=["tree", "parts"]) λ Ω Ω Ω Ω Ω Ω=>us2 λ Ω Ω=>rfl;obtain⟨_,F4,m4⟩:=a4.go X G;have b4:=F4.binds (ps:=["tree"]) λ Ω Ω Ω Ω Ω Ω=>us1 λ Ω=>rfl;obtain⟨_,F5,m5⟩:=a5.go X G;have b5:=F5.binds (ps:=["tree"]) λ Ω Ω Ω Ω Ω Ω=>us1 λ Ω=>rfl;obtain⟨_,F6,m6⟩:=a6.go X G;have b6:=F6.binds (ps:=["tree"]) λ Ω Ω Ω Ω Ω Ω=>us1 λ Ω=>rfl;obtain⟨_,F7,m7⟩:=a7.go X G;have b7:=F7.binds (ps:=["tree", "place"]) λ Ω Ω Ω Ω Ω Ω=>us2 λ Ω Ω=>rfl;obtain⟨_,F8,m8⟩:=a8.go X G;have b8:=F8.binds (ps:=["tree", "place"]) λ Ω Ω Ω Ω Ω Ω=>us2 λ Ω Ω=>rfl;obtain⟨_,F9,m9⟩:=a9.go X G;have b9:=F9.binds (ps:=["tree", "place", "part"]) λ Ω Ω Ω Ω Ω Ω=>us3 λ Ω Ω Ω=>rfl;obtain⟨_,F10,m10⟩:=a10.go X G;have b10:=F10.binds (ps:=["part"]) λ Ω Ω Ω Ω Ω Ω=>us1 λ Ω=>rfl;obtain⟨_,F11,m11⟩:=a11.go X G;have b11:=F11.binds (ps:=["part", "number", "bound"]) λ Ω Ω Ω Ω Ω Ω=>us3 λ Ω Ω Ω=>rfl;obtain⟨_,F12,m12⟩:=a12.go X G;have b12:=F12.binds (ps:=["tree"]) λ Ω Ω Ω Ω Ω Ω=>us1 λ Ω=>rfl;obtain⟨_,F13,m13⟩:=a13.go X G;have b13:=F13.binds (ps:=["number"]) λ Ω Ω Ω Ω Ω Ω=>us1 λ Ω=>rfl;obtain⟨_,F14,m14⟩:=a14.go X G;have b14:=F14.binds (ps:=["used"]) λ Ω Ω Ω Ω Ω Ω=>us1 λ Ω=>rfl;obtain⟨_,F15,m15⟩:=a15.go X G;have b15:=F15.binds (ps:=["tree", "leaves"]) λ Ω Ω Ω Ω Ω Ω=>us2 λ Ω Ω=>rfl;obtain⟨_,F16,m16⟩:=a16.go X G;have b16:=F16.binds (ps:=["let", "leaves"]) λ Ω Ω Ω Ω Ω Ω=>us2 λ Ω Ω=>rfl;obtain⟨_,F17,m17⟩:=a17.go X G;have b17:=F17.binds (ps:=["let", "leaves", "used"]) λ Ω Ω Ω Ω Ω Ω=>us3 λ Ω Ω Ω=>rfl;obtain⟨_,F18,m18⟩:=a18.go X G;have b18:=F18.binds (ps:=["let", "name", "leaves"]) λ Ω Ω Ω Ω Ω Ω=>us3 λ Ω Ω Ω=>rfl;obtain⟨_,F19,m19⟩:=a19.go X G;have b19:=F19.binds (ps:=["leaf", "leaves"]) λ Ω Ω Ω Ω Ω Ω=>us2 λ Ω Ω=>rfl;obtain⟨_,F20,m20⟩:=a20.go X G;have b20:=F20.binds (ps:=["part", "leaves"]) λ Ω Ω Ω Ω Ω Ω=>us2 λ Ω Ω=>rfl;obtain⟨_,F21,m21⟩:=a21.go X G;have b21:=F21.binds (ps:=["heads", "ready"]) λ Ω Ω Ω Ω Ω Ω=>us2 λ Ω Ω=>rfl;obtain⟨_,F22,m22⟩:=a22.go X G;have b22:=F22.binds (ps:=["levels"]) λ Ω Ω Ω Ω Ω Ω=>us1 λ Ω=>rfl;obtain⟨_,F23,m23⟩:=a23.go X G;have b23:=F23.binds (ps:=["tree", "leaves"]) λ Ω Ω Ω Ω Ω Ω=>us2 λ Ω Ω=>rfl;obtain⟨_,F24,m24⟩:=a24.go X G;have b24:=F24.binds (ps:=["shape"]) λ Ω Ω Ω Ω Ω Ω=>us1 λ Ω=>rfl;obtain⟨_,F25,m25⟩:=a25.go X G;have b25:=F25.binds (ps:=["shape"]) λ Ω Ω Ω Ω Ω Ω=>us1 λ Ω=>rfl;obtain⟨_,F26,m26⟩:=a26.go X G;have b26:=F26.binds (ps:=["shape"]) λ Ω Ω Ω Ω Ω Ω=>us1 λ Ω=>rfl;obtain⟨_,F27,m27⟩:=a27.go X G;have b27:=F27.binds (ps:=["piece"]) λ Ω Ω Ω Ω Ω Ω=>us1 λ Ω=>rfl;obtain⟨_,F28,m28⟩:=a28.go X G;have b28:=F28.binds (ps:=["let", "filling"]) λ Ω Ω Ω Ω Ω Ω=>us2 λ Ω Ω=>rfl;obtain⟨_,F29,m29⟩:=a29.go X G;have b29:=F29.binds (ps:=["shape", "filling"]) λ Ω Ω Ω Ω Ω Ω=>us2 λ Ω Ω=>rfl;obtain⟨_,F30,m30⟩:=a30.go X G;have b30:=F30.binds (ps:=["shape", "filling"]) λ Ω Ω Ω Ω Ω Ω=>us2 λ Ω Ω=>rfl;obtain⟨_,F31,m31⟩:=a31.go X G;have b31:=F31.binds (ps:=["atom", "filling"]) λ Ω Ω Ω Ω Ω Ω=>us2 λ Ω Ω=>rfl;obtain⟨_,F32,m32⟩:=a32.go X G;have b32:=F32.binds (ps:=["gap", "filling"]) λ Ω Ω Ω Ω Ω Ω=>us2 λ Ω Ω=>rfl;obtain⟨_,F33,m33⟩:=a33.go X G;have b33:=F33.binds (ps:=["shape", "filling"]) λ Ω Ω Ω Ω Ω Ω=>us2 λ Ω Ω=>rfl;obtain⟨_,F34,m34⟩:=a34.go X G;have b34:=F34.binds (ps:=["_law_script", "_law_k"]) λ Ω Ω Ω Ω Ω Ω=>us2 λ Ω Ω=>rfl;obtain⟨_,F35,m35⟩:=a35.go X G;have b35:=F35.binds (ps:=["_law_cell", "_law_many"]) λ Ω Ω Ω Ω Ω Ω=>us2 λ Ω Ω=>rfl;obtain⟨_,F36,m36⟩:=a36.go X G;have b36:=F36.binds (ps:=["_law_cell", "_law_words_here", "_law_loud"]) λ Ω Ω Ω Ω Ω Ω=>us3 λ Ω Ω Ω=>rfl;obtain⟨_,F37,m37⟩:=a37.go X G;have b37:=F37.binds (ps:=["_law_cells", "_law_words_here", "_law_lets"]) λ Ω Ω Ω Ω Ω Ω=>us3 λ Ω Ω Ω=>rfl;obtain⟨_,F38,m38⟩:=a38.go X G;have b38:=F38.binds (ps:=["_law_cell", "_law_gaps", "_law_bound", "_law_counts"]) λ Ω Ω Ω Ω Ω Ω=>us4 λ Ω Ω Ω Ω=>rfl;obtain⟨_,F39,m39⟩:=a39.go X G;have b39:=F39.binds (ps:=["_law_cells", "_law_gaps", "_law_bound", "_law_pool", "_law_counts"]) λ Ω Ω Ω Ω Ω Ω=>us5 λ Ω Ω Ω Ω Ω=>rfl;obtain⟨_,F40,m40⟩:=a40.go X G;have b40:=F40.binds (ps:=["_law_tree_here", "_law_known", "_law_deep"]) λ Ω Ω Ω Ω Ω Ω=>us3 λ Ω Ω Ω=>rfl;obtain⟨_,F41,m41⟩:=a41.go X G;have b41:=F41.binds (ps:=["_law_shape_here", "_law_pieces", "_law_known", "_law_deep"]) λ Ω Ω Ω Ω Ω Ω=>us4 λ Ω Ω Ω Ω=>rfl;obtain⟨_,F42,m42⟩:=a42.go X G;have b42:=F42.binds (ps:=["_law_word"]) λ Ω Ω Ω Ω Ω Ω=>us1 λ Ω=>rfl;obtain⟨_,F43,m43⟩:=a43.go X G;have b43:=F43.binds (ps:=["_law_tree_here"]) λ Ω Ω Ω Ω Ω Ω=>us1 λ Ω=>rfl;have k44:=zKJ l44;have F44:=zMU (st:=s_law) l44 c44 k44;have b44:=F44.binds (ps:=["_law_script"]) λ Ω Ω Ω Ω Ω Ω=>us1 λ Ω=>rfl;have m44:=W.mg_of X G a44;refine⟨W.fnOf "law" "law" (zDL s_law) (zCY s_law) (zAN s_law) .none kV44 dc44 pm44 an44 cd44 ct44,λ s v=>.of_eq rfl,λ base Ω Ω=>?_⟩;have G0:FnB l.prog w K mg base 1 "is_whole" f0 _ _ _:=⟨zLR (k:=0) F0 z_isinstance z_int z_bool,b0,F0.kp,m0⟩;have G1:FnB l.prog w K mg base 1 "parts_begin" f1 _ _ _:=⟨zE8 (k:=0) F1 z_len zOI h_LEAF_SIGNS,b1,F1.kp,m1⟩;have G2:FnB l.prog w K mg base 2 "parts" f2 _ _ _:=⟨zLU F2 (G1.up (k:=1) (by decide)),b2,F2.kp,m2⟩;have G3:FnB l.prog w K mg base 2 "with_parts" f3 _ _ _:=⟨zMt F3 z_tuple (G1.up (k:=1) (by decide)),b3,F3.kp,m3⟩;have G4:FnB l.prog w K mg base 3 "all_parts" f4 _ _ _:=⟨zNv F4 (G2.up (k:=2) (by decide)),b4,F4.kp,m4⟩;have G5:FnB l.prog w K mg base 3 "placed_parts" f5 _ _ _:=⟨zJx F5 z_enumerate z_sorted (G2.up (k:=2) (by decide)),b5,F5.kp,m5⟩;have G6:FnB l.prog w K mg base 4 "places" f6 _ _ _:=⟨zJw F6 (G5.up (k:=3) (by decide)),b6,F6.kp,m6⟩;have G7:FnF l.prog w K mg base 3 "trees_down_to" f7 _ _ _:=⟨zMx F7 z_len zOL xP (G0.up (k:=2) (by decide)) (G2.up (k:=2) (by decide)),b7,F7.kp,m7⟩;have G8:FnF l.prog w K mg base 4 "part_at" f8 _ _ _:=⟨zIv F8 (G7.up (k:=3) (by decide)),b8,F8.kp,m8⟩;have G9:FnF l.prog w K mg base 4 "put_at" f9 _ _ _:=⟨zJv F9 z_list z_zip z_reversed (G7.up (k:=3) (by decide)) (G2.up (k:=3) (by decide)) (G3.up (k:=3) (by decide)),b9,F9.kp,m9⟩;have G10:FnB l.prog w K mg base 1 "names_at" f10 _ _ _:=⟨zHQ (k:=0) F10,b10,F10.kp,m10⟩;have G11:FnB l.prog w K mg base 1 "bound_in" f11 _ _ _:=⟨zHS (k:=0) F11,b11,F11.kp,m11⟩;have G12:FnB l.prog w K mg base 3 "free_names" f12 _ _ _:=⟨zFw F12 z_sorted z_enumerate (G2.up (k:=2) (by decide)) (G10.up (k:=2) (by decide)) (G11.up (k:=2) (by decide)),b12,F12.kp,m12⟩;have G13:FnB l.prog w K mg base 1 "word_of" f13 _ _ _:=⟨zIt (k:=0) F13 zOU,b13,F13.kp,m13⟩;have G14:FnB l.prog w K mg base 2 "unused_word" f14 _ _ _:=⟨zJu F14 zOV h_KEPT_WORDS (G13.up (k:=1) (by decide)),b14,F14.kp,m14⟩;have G15:FnB l.prog w K mg base 4 "words_used" f15 _ _ _:=⟨zFv F15 (G4.up (k:=3) (by decide)) (G10.up (k:=3) (by decide)),b15,F15.kp,m15⟩;have G16:FnB l.prog w K mg base 4 "catches" f16 _ _ _:=⟨zIy F16 z_any (G12.up (k:=3) (by decide)),b16,F16.kp,m16⟩;have G17:FnB l.prog w K mg base 5 "let_name" f17 _ _ _:=⟨zHR F17 (G16.up (k:=4) (by decide)) (G14.up (k:=4) (by decide)),b17,F17.kp,m17⟩;have G18:FnB l.prog w K mg base 1 "leaves_within" f18 _ _ _:=⟨zJs (k:=0) F18 z_dict,b18,F18.kp,m18⟩;have G19:FnB l.prog w K mg base 1 "put_leaf" f19 _ _ _:=⟨zHO (k:=0) F19,b19,F19.kp,m19⟩;have G20:FnB l.prog w K mg base 2 "put_head" f20 _ _ _:=⟨zHP F20 z_tuple (G19.up (k:=1) (by decide)),b20,F20.kp,m20⟩;have G21:FnB l.prog w K mg base 3 "grown_level" f21 _ _ _:=⟨zLY F21 z_len (G2.up (k:=2) (by decide)) (G3.up (k:=2) (by decide)),b21,F21.kp,m21⟩;have G22:FnB l.prog w K mg base 4 "grown_tree" f22 _ _ _:=⟨zLZ F22 z_reversed (G21.up (k:=3) (by decide)),b22,F22.kp,m22⟩;have G23:FnB l.prog w K mg base 6 "renamed" f23 _ _ _:=⟨zIu F23 (G15.up (k:=5) (by decide)) (G17.up (k:=5) (by decide)) (G18.up (k:=5) (by decide)) (G20.up (k:=5) (by decide)) (G2.up (k:=5) (by decide)) (G22.up (k:=5) (by decide)),b23,F23.kp,m23⟩;have G24:FnB l.prog w K mg base 4 "gap_parts" f24 _ _ _:=⟨zMw F24 (G5.up (k:=3) (by decide)),b24,F24.kp,m24⟩;have G25:FnB l.prog w K mg base 5 "counted_gaps" f25 _ _ _:=⟨zIw F25 z_len (G24.up (k:=4) (by decide)),b25,F25.kp,m25⟩;have G26:FnB l.prog w K mg base 6 "gaps_of" f26 _ _ _:=⟨zJ0 F26 (G25.up (k:=5) (by decide)),b26,F26.kp,m26⟩;have G27:FnB l.prog w K mg base 6 "outer_names" f27 _ _ _:=⟨zLV F27 (G12.up (k:=5) (by decide)),b27,F27.kp,m27⟩;have G28:FnB l.prog w K mg base 7 "would_catch" f28 _ _ _:=⟨zJt F28 z_any (G26.up (k:=6) (by decide)) (G27.up (k:=6) (by decide)),b28,F28.kp,m28⟩;have G29:FnB l.prog w K mg base 7 "words_of_all" f29 _ _ _:=⟨zMu F29 (G15.up (k:=6) (by decide)) (G26.up (k:=6) (by decide)),b29,F29.kp,m29⟩;have G30:FnF l.prog w K mg base 8 "with_lets_apart" f30 _ _ _:=⟨zLa F30 (G29.up (k:=7) (by decide)) (G6.up (k:=7) (by decide)) (G8.up (k:=7) (by decide)) (G28.up (k:=7) (by decide)) (G14.up (k:=7) (by decide)) (G23.up (k:=7) (by decide)) (G9.up (k:=7) (by decide)),b30,F30.kp,m30⟩;have G31:FnB l.prog w K mg base 1 "atom_leaf" f31 _ _ _:=⟨zLb (k:=0) F31,b31,F31.kp,m31⟩;have G32:FnB l.prog w K mg base 7 "piece_at" f32 _ _ _:=⟨zLT F32 z_dict z_zip (G31.up (k:=6) (by decide)) (G23.up (k:=6) (by decide)),b32,F32.kp,m32⟩;have G33:FnF l.prog w K mg base 9 "filled" f33 _ _ _:=⟨zJ1 F33 zOr xF (G26.up (k:=8) (by decide)) (G30.up (k:=8) (by decide)) (G5.up (k:=8) (by decide)) (G9.up (k:=8) (by decide)) (G32.up (k:=8) (by decide)),b33,F33.kp,m33⟩;have G34:FnB l.prog w K mg base 1 "_law_cell_at" f34 _ _ _:=⟨zIx (k:=0) F34 z_len,b34,F34.kp,m34⟩;have G35:FnB l.prog w K mg base 1 "_law_words" f35 _ _ _:=⟨zLQ (k:=0) F35 z_range,b35,F35.kp,m35⟩;have G36:FnB l.prog w K mg base 1 "_law_leaf" f36 _ _ _:=⟨zLX (k:=0) F36 z_len,b36,F36.kp,m36⟩;have G37:=zG2 (k:=1) F37 b37 m37 z_len (G36.up (k:=1) (by decide)) 7;have G38:FnB l.prog w K mg base 1 "_law_gap" f38 _ _ _:=⟨zMv (k:=0) F38 z_range z_tuple z_len,b38,F38.kp,m38⟩;have G39:=zG1 (k:=1) F39 b39 m39 z_len z_int (G38.up (k:=1) (by decide)) 12;have G40:=zGF (P:=l.prog) (w:=w) (base:=base) (k:=0) F40 b40 m40 z_isinstance z_tuple z_dict 50;have G41:=zKt (k:=20) F41 b41 m41 z_isinstance z_tuple z_zip z_dict (zGF (P:=l.prog) (w:=w) (base:=base) (k:=0) F40 b40 m40 z_isinstance z_tuple z_dict 20) 30;have G42:FnB l.prog w K mg base 1 "_law_is_word" f42 _ _ _:=⟨zJy (k:=0) F42 z_isinstance z_str z_len,b42,F42.kp,m42⟩;have G43:=zFb (k:=1) F43 b43 m43 z_isinstance z_str z_len z_tuple z_int z_bool (G42.up (k:=1) (by decide)) 50;exact zNt F44 z_len z_range z_tuple z_dict (G35.up (k:=51) (by decide)) (G34.up (k:=51) (by decide)) (G39.up (k:=51) (by decide)) (G37.up (k:=51) (by decide)) (G40.up (k:=51) (by decide)) (G41.up (k:=51) (by decide)) (G43.up (k:=51) (by decide)) (G33.up (k:=51) (by decide))
theorem walk {l:W.OpenLaw}{q:Program}{loose:List Str}{XP:(Str->Option Value)->Heap->Prop}{YP:World->Heap->Prop}{d:DefRec}{K:Params->W.Frag}(hn:l.most=some 63) (hdf:d.params.defaults=[])
  (hY:∀(w:World) (h:Heap),YP w h->(K w.params).In h)
  (F:∀(w:World) (mg:Str->Option Value) (fa:Addr) (h:Heap),(K w.params).In h->h.Ns mainGlobals mg->mg d.name=some (.ref fa) ->
   ∃fd:FuncData,(∀(s:Shared) (u:Value),BindsTo s fd ⟨[u],[]⟩ [("_law_script", u)])/\∀base:Heap,(K w.params).In base->base.Ns mainGlobals mg->FnOk l.prog w (K w.params) mg base CX0 52 fa fd ["_law_script"] (zHw (K w.params))) :
  W.WalkO q loose XP YP l.row.toRowW d [] (λ f vs=>PySem.call f vs) :=
 L2.walk_of (n:=63) (k:=52) (x := "_law_script") (CX:=λ Ω=>CX0) (sp:=λ w=>zHw (K w.params)) hn (by decide) hdf ⟨rfl,by decide,by decide⟩ hY F (λ Ω Ω a ns hl Ω hS=>⟨a,ns,rfl,hS,λ Ω=>rfl⟩) λ Ω Ω Ω Ω Ω z=>z
end
end K14
namespace PySem.W.Fast
def tw5006881382577956612:Unit:=()
def tw4375525881495414396:Unit:=()
def tw13105262948186586369:Unit:=()
def tw3369774889939063371:Unit:=()
def tw12657145326486755275:Unit:=()
def tw10202272246162152723:Unit:=()
def tw17500454995165610270:Unit:=()
def tw7414129393194982229:Unit:=()
def tw2718191238996232376:Unit:=()
def tw5828121460172516480:Unit:=()
def tw12681216836003085111:Unit:=()
def tw3609206850679306428:Unit:=()
def tw9575170157195488858:Unit:=()
def tw9338720565016537111:Unit:=()
def tw723217441539807175:Unit:=()
def tw1837098649164679104:Unit:=()
def tw2661515383757423210:Unit:=()
def tw6065760183177311849:Unit:=()
def tw12137592832095145352:Unit:=()
def tw1758917935103337269:Unit:=()
def tw6881442472088674301:Unit:=()
def tw13114577791216994426:Unit:=()
def tw17907082688301785437:Unit:=()
def tw14567704671406709321:Unit:=()
def tw18279376229484843377:Unit:=()
def tw1350968012523949233:Unit:=()
def tw16546259249704552240:Unit:=()
def tw12964167890289649792:Unit:=()
def tw10573664763360169698:Unit:=()
def tw12001681945912009605:Unit:=()
def tw8146909566564731393:Unit:=()
def tw13521455283877026559:Unit:=()
def tw17029582990252625126:Unit:=()
def tw2148610333393094351:Unit:=()
def tw17495071249219467094:Unit:=()
def tw10205245270381221112:Unit:=()
def tw8431617852539897635:Unit:=()
def tw13934639080203206973:Unit:=()
def tw27268405540665908:Unit:=()
def tw4824723562626711950:Unit:=()
def tw5554959910463706832:Unit:=()
def tw9771258731232299397:Unit:=()
def tw267223282426449520:Unit:=()
def tw15500032287411770837:Unit:=()
def tw8736805406500334614:Unit:=()
def tw10516099528104608060:Unit:=()
def tw1626770838353091438:Unit:=()
def tw4882649975997962375:Unit:=()
def tw15227744872120055025:Unit:=()
def tw4162378362541410843:Unit:=()
def tw827172659480374769:Unit:=()
def tw569678749083582224:Unit:=()
def tw12261664584705183095:Unit:=()
def tw1287809030868953027:Unit:=()
def tw6169450006554156285:Unit:=()
def tw13168526692312046642:Unit:=()
def tw14203298235057219791:Unit:=()
def tw5304064551289702588:Unit:=()
def tw10443494113921123666:Unit:=()
def tw4683803020479201253:Unit:=()
def tw18370769165763669521:Unit:=()
def tw16640022432273241875:Unit:=()
def tw9791689813430484215:Unit:=()
def tw15198628766499298705:Unit:=()
def tw3450259156721520457:Unit:=()
def tw6924533778012268019:Unit:=()
def tw15252668805740710289:Unit:=()
def tw3522716280481910200:Unit:=()
def tw8403633628931558799:Unit:=()
def tw938903332922925542:Unit:=()
def tw7671083361275353001:Unit:=()
def tw11391675370101958162:Unit:=()
def tw7808228711218867581:Unit:=()
def tw8081490321888022912:Unit:=()
def tw14227474675033364206:Unit:=()
def tw6642931490626276645:Unit:=()
def tw18304704893579698969:Unit:=()
def tw14963244441429602879:Unit:=()
def tw2684448061313896939:Unit:=()
def tw640180185710416887:Unit:=()
def tw4351151486776504538:Unit:=()
def tw3153441158758409123:Unit:=()
def tw15323718354240976376:Unit:=()
def tw10094514222611174034:Unit:=()
def tw8945558996101430779:Unit:=()
end PySem.W.Fast
open PySem PySem.W PyProof.Rows K14
set_option maxRecDepth 100000 in
set_option maxHeartbeats 0 in
theorem PySem.Challenge.cw_recastle_k14_filled_catches_no_name_holds : PySem.Challenge.rw_recastle_k14_filled_catches_no_name.Holds := by
 w_on;o_law;k_head;(case hw=>w_witness2)
 k_fill
 refine K14.walk (l:=PySem.Challenge.rw_recastle_k14_filled_catches_no_name) rfl rfl (λ w h Y=>W.kIn_of Y) ?F
 case F =>
  intro w mg fa h KX G hmg
  refine' K14.all_mk KX G hmg (dfa ?_ ?_ ?_) (dfa ?_ ?_ ?_) (dfa ?_ ?_ ?_) (dfa ?_ ?_ ?_) (dfa ?_ ?_ ?_) (dfa ?_ ?_ ?_) (dfa ?_ ?_ ?_) (dfa ?_ ?_ ?_) (dfa ?_ ?_ ?_) (dfa ?_ ?_ ?_) (dfa ?_ ?_ ?_) (dfa ?_ ?_ ?_) (dfa ?_ ?_ ?_) (dfa ?_ ?_ ?_) (dfa ?_ ?_ ?_) (dfa ?_ ?_ ?_) (dfa ?_ ?_ ?_) (dfa ?_ ?_ ?_) (dfa ?_ ?_ ?_) (dfa ?_ ?_ ?_) (dfa ?_ ?_ ?_) (dfa ?_ ?_ ?_) (dfa ?_ ?_ ?_) (dfa ?_ ?_ ?_) (dfa ?_ ?_ ?_) (dfa ?_ ?_ ?_) (dfa ?_ ?_ ?_) (dfa ?_ ?_ ?_) (dfa ?_ ?_ ?_) (dfa ?_ ?_ ?_) (dfa ?_ ?_ ?_) (dfa ?_ ?_ ?_) (dfa ?_ ?_ ?_) (dfa ?_ ?_ ?_) (dfa ?_ ?_ ?_) (dfa ?_ ?_ ?_) (dfa ?_ ?_ ?_) (dfa ?_ ?_ ?_) (dfa ?_ ?_ ?_) (dfa ?_ ?_ ?_) (dfa ?_ ?_ ?_) (dfa ?_ ?_ ?_) (dfa ?_ ?_ ?_) (dfa ?_ ?_ ?_) ?a44 ?l44 ?c44 ?aC0 ?lC0 ?aC1 ?lC1 ?aX0 ?aX1 ?xP ?xF ?aLt ?z_len ?z_range ?z_isinstance ?z_int ?z_bool ?z_str ?z_tuple ?z_list ?z_sorted ?z_enumerate ?z_dict ?z_zip ?z_reversed ?z_any
  (case aX0=>k_is);(case aX1=>k_is);(case xP=>k_exc);(case xF=>k_exc)
  all_goals try k_is
#print axioms PySem.Challenge.cw_recastle_k14_filled_catches_no_name_holds