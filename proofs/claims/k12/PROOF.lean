import PyProof.Rows.All
import Wide.All
import OpenK.AllK
import Wide.FinOn
import Lean
import PyProof.EqAt
import PyProof.EqKinds
import PyProof.TupleCall
import PySem.Challenge.RW_linepress_k12_choices_refused
set_option Elab.async false
set_option genSizeOfSpec false
set_option genInjectivity false
def PySem.W.Fast.tw17698430042036832216:=()
def PySem.W.Fast.tw18040937872607344382:=()
def PySem.W.Fast.tw5207627833336840922:=()
def PySem.W.Fast.tw1847382180329404034:=()
def PySem.W.Fast.tw9094273248409385347:=()
def PySem.W.Fast.tw6396547318477238275:=()
def PySem.W.Fast.tw5622349339782752588:=()
def PySem.W.Fast.tw821560486267195457:=()
def PySem.W.Fast.tw1510843326668773339:=()
def PySem.W.Fast.tw16950347747210288680:=()
def PySem.W.Fast.tw4642572430788583606:=()
def PySem.W.Fast.tw18445813566528484212:=()
def PySem.W.Fast.tw881378335502887460:=()
def PySem.W.Fast.tw15579282520791321354:=()
def PySem.W.Fast.tw7904790420906061073:=()
def PySem.W.Fast.tw16627472243185616553:=()
def PySem.W.Fast.tw4482107191189471374:=()
def PySem.W.Fast.tw7330090285702458914:=()
def PySem.W.Fast.tw381561784915162608:=()
def PySem.W.Fast.tw1013980606359813190:=()
def PySem.W.Fast.tw16066828624480577096:=()
def PySem.W.Fast.tw3306742164716455086:=()
def PySem.W.Fast.tw18414862142078491781:=()
def PySem.W.Fast.tw839944282376260173:=()
def PySem.W.Fast.tw2359310206452197114:=()
def PySem.W.Fast.tw6342329867387974581:=()
def PySem.W.Fast.tw13612996857737830459:=()
def PySem.W.Fast.tw14119361858425541087:=()
def PySem.W.Fast.tw8882429270862106924:=()
def PySem.W.Fast.tw14841618561499125465:=()
def PySem.W.Fast.tw14355601559671415338:=()
def PySem.W.Fast.tw9882893573906363692:=()
def PySem.W.Fast.tw11546710006696297961:=()
def PySem.W.Fast.tw2509493798853929608:=()
def PySem.W.Fast.tw13621853033421711812:=()
def PySem.W.Fast.tw16186283900969179519:=()
def PySem.W.Fast.tw9081092281545071248:=()
set_option linter.all false
set_option maxRecDepth 100000
set_option maxHeartbeats 1000000
namespace L2
open PySem PySem.Spec PyProof.Rows
abbrev Key:=Sum Int Str
abbrev _root_.tz9:=Str->Addr
abbrev _root_.tz0:=PySem.W.Frag
abbrev _root_.tzA:=Str->Option Value
abbrev _root_.tzB:=List (Addr×Obj)
def yz0:Key->Value->Bool
 | .inl k,v=>Value.isInt k v
 | .inr x,v=>Value.isStrOf x v
def xp6(w:World):Key->Int
 | .inl k=>hashInt k
 | .inr x=>hashStr w x
theorem iH:∀{k:Key} {v:Value},yz0 k v=true->(∃i t,k=Sum.inl i/\v=Value.int i t)\/(∃x t,k=Sum.inr x/\v=Value.str x t)
 | .inl i,v,h=>by
  obtain⟨t,e⟩:=Value.isInt_shape (k:=i) (v:=v) h
  exact .inl ⟨i,t,rfl,e⟩
 | .inr x,v,h=>by
  obtain⟨t,e⟩:=Value.isStrOf_shape (x:=x) (v:=v) h
  exact .inr ⟨x,t,rfl,e⟩
theorem xe3(a b:Int):decide ((Sum.inl a:Key)=Sum.inl b)=(a==b):=by
 by_cases e:a=b
 ·subst e;simp
 ·have h:¬(Sum.inl a:Key)=Sum.inl b:=fun q=>e (Sum.inl.inj q)
  rw [decide_eq_false h]
  exact(beq_eq_false_iff_ne.mpr e).symm
theorem xe4(a b:Str):decide ((Sum.inr a:Key)=Sum.inr b)=decide (a=b):=by
 by_cases e:a=b
 ·subst e;simp
 ·have h:¬(Sum.inr a:Key)=Sum.inr b:=fun q=>e (Sum.inr.inj q)
  rw [decide_eq_false h,decide_eq_false e]
theorem xe5(a:Int)(b:Str):decide ((Sum.inl a:Key)=Sum.inr b)=false:=decide_eq_false (fun q=>nomatch q)
theorem xe6(a:Str)(b:Int):decide ((Sum.inr a:Key)=Sum.inl b)=false:=decide_eq_false (fun q=>nomatch q)
def zj6(prog:Program)(w:World):PySem.KeyKind prog w Key where
 is:=yz0
 hash:=xp6 w
 inj:=fun v a b ha hb=>by
  rcases iH ha with ⟨i,t,rfl,rfl⟩|⟨x,t,rfl,rfl⟩
  ·rcases iH hb with ⟨j,u,rfl,e⟩|⟨y,u,rfl,e⟩
   ·injection e with e1 _;rw [e1]
   ·exact nomatch e
  ·rcases iH hb with ⟨j,u,rfl,e⟩|⟨y,u,rfl,e⟩
   ·exact nomatch e
   ·injection e with e1 _;rw [e1]
 byValue:=fun k v h=>by
  rcases iH h with ⟨i,t,rfl,rfl⟩|⟨x,t,rfl,rfl⟩<;>rfl
 pyHash:=fun hv h=>by
  rcases iH hv with ⟨i,t,rfl,rfl⟩|⟨x,t,rfl,rfl⟩
  ·exact wpAny_pyHash_int h
  ·exact wpAny_pyHash_str h
 eqBool:=fun hu hv h=>by
  rcases iH hu with ⟨i,t,rfl,rfl⟩|⟨x,t,rfl,rfl⟩
  ·rcases iH hv with ⟨j,u,rfl,rfl⟩|⟨y,u,rfl,rfl⟩
   ·rw [xe3] at h;exact wpAny_eqBool_int h
   ·rw [xe5] at h;exact SeqAt.EqAt.int_str i t y u _ _ _ _ h
  ·rcases iH hv with ⟨j,u,rfl,rfl⟩|⟨y,u,rfl,rfl⟩
   ·rw [xe6] at h;exact SeqAt.EqAt.str_int x t j u _ _ _ _ h
   ·rw [xe4] at h;exact wpAny_eqBool_str h
 «strs»:=fun k x t v h=>by
  rcases iH h with ⟨i,u,rfl,e⟩|⟨y,u,rfl,e⟩
  ·exact nomatch e
  ·injection e with e1 _
   subst e1
   cases v<;>rfl
set_option genInjectivity true in
inductive V where
 |non|bl (b:Bool)|int (i:Int)|str (x:Str)|byt (b:Array UInt8)|flt (b:UInt64)|ref (a:Addr)|ty (n:String)
 deriving DecidableEq
def dD:V->Value->Prop
 | .non,u=>u=Value.none
 | .bl b,u=>u=Value.bool b
 | .int i,u=>∃t,u=Value.int i t
 | .str x,u=>∃t,u=Value.str x t
 | .byt b,u=>∃t,u=Value.bytes b t
 | .flt b,u=>∃t,u=Value.float b t
 | .ref a,u=>u=Value.ref a
 | .ty n,u=>u=Value.type n
abbrev cD:List V->List Value->Prop:=Paired dD
theorem cD.length{xs:List V}{us:List Value}(r:cD xs us):xs.length=us.length:=Paired.length r
theorem cD.get:∀{xs:List V} {us:List Value} {i:Nat} {x:V},cD xs us->xs[i]? =some x->∃u,us[i]? =some u/\dD x u
 |_,_,_,_,.nil,e=>by simp at e
 |_,_,0,_,.cons r _,e=>by simp at e;subst e;exact⟨_,rfl,r⟩
 |_,_,i+1,x,.cons _ t,e=>by
  obtain⟨u,h1,h2⟩:=cD.get (i:=i) (x:=x) t (by simpa using e)
  exact⟨u,by simpa using h1,h2⟩
theorem cD.set{x:V}{u:Value}(r:dD x u):∀{xs:List V} {us:List Value} (i:Nat),cD xs us->cD (xs.set i x) (us.set i u)
 |_,_,_,.nil=> .nil
 |_,_,0,.cons _ t=> .cons r t
 |_,_,i+1,.cons q t=> .cons q (cD.set r i t)
theorem cD.append:∀{xs ys:List V} {us ws:List Value},cD xs us->cD ys ws->cD (xs++ys) (us++ws)
 |_,_,_,_,.nil,s=>s
 |_,_,_,_,.cons r t,s=> .cons r (cD.append t s)
theorem cD.take:∀{xs:List V} {us:List Value} (n:Nat),cD xs us->cD (xs.take n) (us.take n)
 |_,_,0,_=> .nil
 |_,_,_+1,.nil=> .nil
 |_,_,n+1,.cons r t=> .cons r (cD.take n t)
theorem cD.drop:∀{xs:List V} {us:List Value} (n:Nat),cD xs us->cD (xs.drop n) (us.drop n)
 |_,_,0,r=>r
 |_,_,_+1,.nil=> .nil
 |_,_,n+1,.cons _ t=>cD.drop n t
def qE:Option V->Option Value->Prop
 |some v,some u=>dD v u
 |none,none=>True
 |_,_=>False
def KV{U:Type}:List (U×V)->List (U×Value)->Prop:=Paired fun(p:U×V) (q:U×Value)=>p.1=q.1/\dD p.2 q.2
def kV:Key->V
 | .inl i=> .int i
 | .inr x=> .str x
inductive HO where
 |lst (xs:List V)
 |tup (xs:List V)
 |dK (kvs:List (Key×V))|dT (kvs:List (List Key×V))
 |set (S:Int->Bool) (n:Nat)
 |ins (C dx:Addr) (fs:List (Str×V))
 |own (x:Addr)
 |xd (fs:List (Str×V))
 |met (f x:Addr)
 |rng (lo hi:Int)
 |frz (o:Obj) (u:HO)
 |tbl (ps:Array Value)
 |ext (φ:Heap->Prop)
abbrev Hp:=Addr->Option HO
def upd(H:Hp)(a:Addr)(o:HO):Hp:=fun b=>if b=a then some o else H b
theorem eM{H:Hp}{a:Addr}{o:HO}:upd H a o a=some o:=by unfold upd;rw [if_pos rfl]
theorem dC{H:Hp}{a b:Addr}{o:HO}(h:b≠a):upd H a o b=H b:=by unfold upd;rw [if_neg h]
theorem mH{H:Hp}{a b:Addr}{o:HO}(h:H a=some o)(h':H b=none):a≠b:=by
 intro e;subst e;rw [h] at h';cases h'
section
variable(P:Program)(w:World)
def fU(H:Hp)(h:Heap)(a:Addr):HO->Prop
 | .lst xs=>xs.length<=sizeLine/\∃(its:List Value) (n:Nat),cD xs its/\h.get? a=some {cls:= .type "list",data:= .seq its.toArray n}
 | .tup xs=>xs.length<=sizeLine/\∃its:List Value,cD xs its/\IsTup h a its.toArray
 | .dK kvs=>kvs.length<=sizeLine/\(a==sysModules)=false/\∃vs,KV kvs vs/\h.DictOf (zj6 P w) a vs
 | .dT kvs=>kvs.length<=sizeLine/\(a==sysModules)=false/\∃xs:List (List Key×Addr×Value),
   Paired (fun(p:List Key×V) (q:List Key×Addr×Value)=>p.1=q.1/\H q.2.1=some (.tup (p.1.map kV))/\dD p.2 q.2.2) kvs xs/\
   ∃o es ep,h.get? a=some o/\o.ExactDict/\o.data= .dict es ep/\es.toList=xs.map (entryOfKey (tupleKind (zj6 P w)))/\(xs.map (·.1)).Nodup
 | .set S n=>h.SetOf (intKind P w) a S n
 | .ins C dx fs=>H dx=some (.own a)/\fs.length<=1000/\dx≠a/\h.get? a=some (PySem.W.instObj C dx)/\
   ∃mA,h.Ns1 dx mA/\(∀f,qE (fs.lookup f) (mA f))/\PySem.Within mA (fs.map (·.1))
 | .own _=>∃o,h.get? a=some o
 | .xd fs=>∃mA,h.Ns1 a mA/\∀f,qE (fs.lookup f) (mA f)
 | .rng lo hi=>∃t u v,h.get? a=some {cls:= .type "range",data:= .fields #[.int lo t,.int hi u,.int 1 v]}
 | .frz o u=>h.get? a=some o/\fU H h a u
 | .tbl ps=>h.get? a=some {cls:= .none,data:= .fields ps}
 | .met f x=>h.get? a=some (PySem.W.methodObj (.ref f) (.ref x))
 | .ext φ=>φ h/\(∃o,h.get? a=some o)/\∀h1 h2:Heap,φ h1->(∀o,h1.get? a=some o->h2.get? a=some o)->φ h2
def HOk(H:Hp)(h:Heap):Prop:=∀a o,H a=some o->fU P w H h a o
end
section
variable{P:Program}{w:World}{H H':Hp}{h h':Heap}{a:Addr}{o:HO}
theorem fU.lt(x:fU P w H h a o):a<h.objs.size:=by
 cases o with
 |lst xs=>obtain⟨_,_,_,_,e⟩:=x;exact Heap.lt_size e
 |tup xs=>obtain⟨_,_,_,p⟩:=x;exact p.lt
 |dK kvs=>obtain⟨_,_,_,_,o,_,_,e,_⟩:=x;exact Heap.lt_size e
 |dT kvs=>obtain⟨_,_,_,_,o,_,_,e,_⟩:=x;exact Heap.lt_size e
 |set S n=>obtain⟨o,_,_,_,e,_⟩:=x;exact Heap.lt_size e
 |ins C dx fs=>obtain⟨_,_,_,e,_⟩:=x;exact Heap.lt_size e
 |own y=>obtain⟨_,e⟩:=x;exact Heap.lt_size e
 |xd fs=>obtain⟨_,⟨_,_,_,e,_⟩,_⟩:=x;exact Heap.lt_size e
 |rng lo hi=>obtain⟨_,_,_,e⟩:=x;exact Heap.lt_size e
 |frz ob u=>obtain⟨e,_⟩:=x;exact Heap.lt_size e
 |tbl ps=>exact Heap.lt_size (show h.get? a=some _ from x)
 |met f y=>exact Heap.lt_size (show h.get? a=some _ from x)
 |ext φ=>obtain⟨_,⟨_,e⟩,_⟩:=x;exact Heap.lt_size e
theorem Paired.mapP{α β:Type}{F G:α->β->Prop}:∀{l₁:List α} {l₂:List β},Paired F l₁ l₂->(∀a b,F a b->G a b)->Paired G l₁ l₂
 |_,_,.nil,_=> .nil
 |_,_,.cons r t,f=> .cons (f _ _ r) (Paired.mapP t f)
theorem fU.stay(x:fU P w H h a o)(k:∀b u,(b=a\/H b=some (.own a))->h.get? b=some u->h'.get? b=some u)
  (ho:∀b,H b=some (.own a)->H' b=some (.own a)) (ht:∀b xs,H b=some (.tup xs)->H' b=some (.tup xs)):fU P w H' h' a o:=by
 induction o with
 |lst xs=>obtain⟨z,its,n,r,e⟩:=x;exact⟨z,its,n,r,k _ _ (.inl rfl) e⟩
 |tup xs=>obtain⟨z,its,r,ob,e,c⟩:=x;exact⟨z,its,r,ob,k _ _ (.inl rfl) e,c⟩
 |dK kvs=>obtain⟨z,y,vs,r,ob,es,ep,e,c⟩:=x;exact⟨z,y,vs,r,ob,es,ep,k _ _ (.inl rfl) e,c⟩
 |dT kvs=>
  obtain⟨z,y,xs,r,ob,es,ep,e,c⟩:=x
  exact⟨z,y,xs,Paired.mapP r fun p q z=>⟨z.1,ht _ _ z.2.1,z.2.2⟩,ob,es,ep,k _ _ (.inl rfl) e,c⟩
 |set S n=>obtain⟨ob,es,ep,t,e,c⟩:=x;exact⟨ob,es,ep,t,k _ _ (.inl rfl) e,c⟩
 |ins C dx fs=>
  obtain⟨d,z,ne,e,mA,⟨od,es,ep,e2,c⟩,r⟩:=x
  exact⟨ho _ d,z,ne,k _ _ (.inl rfl) e,mA,⟨od,es,ep,k _ _ (.inr d) e2,c⟩,r⟩
 |own y=>obtain⟨ob,e⟩:=x;exact⟨ob,k _ _ (.inl rfl) e⟩
 |xd fs=>obtain⟨mA,⟨od,es,ep,e,c⟩,r⟩:=x;exact⟨mA,⟨od,es,ep,k _ _ (.inl rfl) e,c⟩,r⟩
 |rng lo hi=>obtain⟨t,u,v,e⟩:=x;exact⟨t,u,v,k _ _ (.inl rfl) e⟩
 |frz ob u ih=>obtain⟨e,q⟩:=x;exact⟨k _ _ (.inl rfl) e,ih q⟩
 |tbl ps=>
  have e:h.get? a=some {cls:= .none,data:= .fields ps}:=x
  show h'.get? a=some {cls:= .none,data:= .fields ps}
  exact k a _ (.inl rfl) e
 |met f y=>
  have e:h.get? a=some (PySem.W.methodObj (.ref f) (.ref y)):=x
  show h'.get? a=some (PySem.W.methodObj (.ref f) (.ref y))
  exact k a _ (.inl rfl) e
 |ext φ=>obtain⟨p,⟨o,e⟩,st⟩:=x;exact⟨st _ _ p fun o q=>k _ _ (.inl rfl) q,⟨o,k _ _ (.inl rfl) e⟩,st⟩
theorem HOk.lt(x:HOk P w H h)(e:H a=some o):a<h.objs.size:=(x a o e).lt
theorem HOk.fresh(x:HOk P w H h)(e:h.objs.size<=a):H a=none:=by
 cases q:H a with
 |none=>rfl
 |some u=>exact absurd (Nat.lt_of_lt_of_le (x.lt q) e) (Nat.lt_irrefl _)
theorem HOk.kept(x:HOk P w H h)(k:∀b u,h.get? b=some u->h'.get? b=some u):HOk P w H h':=fun a o e=>
 (x a o e).stay (fun b u _ q=>k b u q) (fun _ q=>q) fun _ _ q=>q
theorem HOk.laid(x:HOk P w H h)(k:∀b u,h.get? b=some u->h'.get? b=some u)(hp:h.objs.size<=a)(new:fU P w (upd H a o) h' a o):HOk P w (upd H a o) h':=fun b u e=>by
 have hn:=x.fresh hp
 by_cases hb:b=a
 ·subst hb;rw [eM] at e;cases e;exact new
 ·rw [dC hb] at e
  exact(x b u e).stay (fun c v _ q=>k c v q) (fun c q=>by rw [dC (mH q hn)];exact q) fun c xs q=>by rw [dC (mH q hn)];exact q
end
def Rd(H:Hp)(a:Addr)(u:HO):Prop:=H a=some u\/∃o,H a=some (.frz o u)
theorem Rd.ok{P:Program}{w:World}{H:Hp}{h:Heap}{a:Addr}{u:HO}(r:Rd H a u)(x:HOk P w H h):fU P w H h a u:=by
 rcases r with r|⟨o,r⟩
 ·exact x a u r
 ·obtain⟨_,q⟩:=x a _ r
  exact q
def Mut:Option HO->Prop
 |some (.lst _)=>True
 |some (.dK _)=>True
 |some (.dT _)=>True
 |some (.set _ _)=>True
 |some (.ins _ _ _)=>True
 |some (.ext _)=>True
 |_=>False
section
variable{P:Program}{w:World}{H:Hp}{h h':Heap}{x e:Addr}{o':HO}
theorem HOk.write(ok:HOk P w H h)(mu:Mut (H x))(he:e=x\/H e=some (.own x))(k:∀b u,b≠e->h.get? b=some u->h'.get? b=some u)(heo:∃u,h'.get? e=some u)
  (new:fU P w (upd H x o') h' x o'):HOk P w (upd H x o') h':=fun b u q=>by
 have nown:∀c y,H c=some (.own y)->c≠x:=fun c y r z=>by subst z;rw [r] at mu;exact mu
 have ntup:∀c xs,H c=some (.tup xs)->c≠x:=fun c xs r z=>by subst z;rw [r] at mu;exact mu
 by_cases hb:b=x
 ·subst hb;rw [eM] at q;cases q;exact new
 ·rw [dC hb] at q
  by_cases hbe:b=e
  ·have q':H b=some (.own x):=by
    rcases he with z|z
    ·exact absurd (hbe.trans z) hb
    ·rw [hbe];exact z
   rw [q] at q';cases q'
   obtain⟨v,hv⟩:=heo
   exact⟨v,by rw [hbe];exact hv⟩
  ·refine(ok b u q).stay (fun c v hc r=>k c v ?_ r) (fun c r=>by rw [dC (nown c b r)];exact r) fun c xs r=>by rw [dC (ntup c xs r)];exact r
   rcases hc with rfl|hc
   ·exact hbe
   ·rintro rfl
    rcases he with z|z
    ·exact nown c b hc z
    ·rw [hc] at z;cases z;exact hb rfl
end
structure Un(fs ex:List Addr)(H H':Hp)(h h':Heap):Prop where
 keep:∀b o,h.get? b=some o->H b=none->b∉fs->b∉ex->h'.get? b=some o
 slot:∀b o,h.get? b=some o->H b=none->b∈fs->b∉ex->∃sl,h'.get? b=some {o with slots:=sl}
 free:∀b o,h.get? b=some o->H b=none->b∉ex->H' b=none
 there:∀b o,h.get? b=some o->b∉ex->∃o',h'.get? b=some o'
 tups:∀b xs,H b=some (.tup xs)->H' b=some (.tup xs)
 frzs:∀b o u,H b=some (.frz o u)->H' b=some (.frz o u)
 tbls:∀b ps,H b=some (.tbl ps)->∃more,H' b=some (.tbl (ps++more))
section
variable{fs fs' ex ex':List Addr}{H H1 H2:Hp}{h h1 h2 h':Heap}{a x e:Addr}{o:HO}
theorem Un.any(u:Un fs ex H H1 h h1){b:Addr}{ob:Obj}(q:h.get? b=some ob)(n:H b=none)(hx:b∉ex):∃sl,h1.get? b=some {ob with slots:=sl}:=by
 by_cases hb:b∈fs
 ·exact u.slot b ob q n hb hx
 ·exact⟨ob.slots,u.keep b ob q n hb hx⟩
theorem Un.trans(a:Un fs ex H H1 h h1)(b:Un fs ex H1 H2 h1 h2):Un fs ex H H2 h h2 where
 keep:=fun c ob q n hc hx=>b.keep c ob (a.keep c ob q n hc hx) (a.free c ob q n hx) hc hx
 slot:=fun c ob q n hc hx=>by
  obtain⟨sl,e1⟩:=a.slot c ob q n hc hx
  obtain⟨sl',e2⟩:=b.slot c _ e1 (a.free c ob q n hx) hc hx
  exact⟨sl',e2⟩
 free:=fun c ob q n hx=>by
  obtain⟨o',e1⟩:=a.there c ob q hx
  exact b.free c o' e1 (a.free c ob q n hx) hx
 there:=fun c ob q hx=>by
  obtain⟨o',e1⟩:=a.there c ob q hx
  exact b.there c o' e1 hx
 tups:=fun c xs q=>b.tups c xs (a.tups c xs q)
 frzs:=fun c ob xs q=>b.frzs c ob xs (a.frzs c ob xs q)
 tbls:=fun c ps q=>by
  obtain⟨m1,e1⟩:=a.tbls c ps q
  obtain⟨m2,e2⟩:=b.tbls c _ e1
  exact⟨m1++m2,by rw [e2,Array.append_assoc]⟩
theorem Un.kept(k:∀b u,h.get? b=some u->h'.get? b=some u):Un fs ex H H h h':=
 ⟨fun b ob q _ _ _=>k b ob q,fun b ob q _ _ _=>⟨ob.slots,k b ob q⟩,fun _ _ _ n _=>n,fun b ob q _=>⟨ob,k b ob q⟩,fun _ _ q=>q,fun _ _ _ q=>q,fun _ ps q=>⟨#[],by rw [q];simp⟩⟩
theorem Un.refl:Un fs ex H H h h:=Un.kept fun _ _ q=>q
theorem Un.laid(k:∀b u,h.get? b=some u->h'.get? b=some u)(hp:h.objs.size<=a)(hn:H a=none):Un fs ex H (upd H a o) h h' where
 keep:=fun b u q _ _ _=>k b u q
 slot:=fun b u q _ _ _=>⟨u.slots,k b u q⟩
 free:=fun b u q n _=>by rw [dC (Nat.ne_of_lt (Nat.lt_of_lt_of_le (Heap.lt_size q) hp))];exact n
 there:=fun b u q _=>⟨u,k b u q⟩
 tups:=fun b xs q=>by rw [dC (mH q hn)];exact q
 frzs:=fun b u xs q=>by rw [dC (mH q hn)];exact q
 tbls:=fun b ps q=>⟨#[],by rw [dC (mH q hn),q];simp⟩
theorem Un.write(mu:Mut (H x))(he:e=x\/H e=some (.own x))(k:∀b u,b≠e->h.get? b=some u->h'.get? b=some u)(heo:∃u,h'.get? e=some u):Un fs ex H (upd H x o) h h':=by
 have hx:∀b,H b=none->b≠x:=fun b n z=>by subst z;rw [n] at mu;exact mu
 have hb:∀b,H b=none->b≠e:=fun b n z=>by
  subst z
  rcases he with r|r
  ·exact hx b n r
  ·rw [n] at r;cases r
 have hm:∀b u,H b=some u->¬Mut (some u)->b≠x:=fun b u q nm z=>by subst z;rw [q] at mu;exact nm mu
 refine⟨fun b u q n _ _=>k b u (hb b n) q,fun b u q n _ _=>⟨u.slots,k b u (hb b n) q⟩,fun b u q n _=>by rw [dC (hx b n)];exact n,fun b u q _=> ?_,
  fun b xs q=>by rw [dC (hm b _ q fun z=>z)];exact q,fun b u xs q=>by rw [dC (hm b _ q fun z=>z)];exact q,fun b ps q=>⟨#[],by rw [dC (hm b _ q fun z=>z),q];simp⟩⟩
 by_cases hbe:b=e
 ·subst hbe;exact heo
 ·exact⟨u,k b u hbe q⟩
theorem Un.mono(u:Un fs ex H H1 h h1)(hs:∀b∈fs,b∈fs')(hx:∀b∈ex,b∈ex'):Un fs' ex' H H1 h h1:=
 ⟨fun b ob q n hb he=>u.keep b ob q n (fun z=>hb (hs b z)) fun z=>he (hx b z),fun _ _ q n _ he=>u.any q n fun z=>he (hx _ z),fun b ob q n he=>u.free b ob q n fun z=>he (hx b z),fun b ob q he=>u.there b ob q fun z=>he (hx b z),u.tups,u.frzs,u.tbls⟩
end
def trk(h:Heap)(H:Hp):List Addr:=(List.range h.objs.size).filter fun a=>(H a).isSome
def vD(h:Heap)(H:Hp):Heap:=PySem.W.hideAll h (trk h H)
theorem yi4(h:Heap)(H:Hp):(vD h H).objs.size=h.objs.size:=PySem.W.hideAll_size _ _
theorem yq8{h:Heap}{H:Hp}{b:Addr}{o:Obj}(e:h.get? b=some o)(n:H b=none):(vD h H).get? b=some o:=
 PySem.W.hideAll_get _ e fun hm=>by
  have q:(H b).isSome=true:=(List.mem_filter.mp hm).2
  rw [n] at q;simp at q
theorem yz6{h:Heap}{H:Hp}{b:Addr}{o:Obj}(e:(vD h H).get? b=some o):h.get? b=some o/\H b=none:=by
 have e':h.get? b=some o:=PySem.W.of_hideAll (trk h H) e
 refine⟨e',?_⟩
 cases q:H b with
 |none=>rfl
 |some x=>
  have hm:b∈trk h H:=List.mem_filter.mpr ⟨List.mem_range.mpr (Heap.lt_size e'),by simp [q]⟩
  have z:(vD h H).get? b=none:=PySem.W.hideAll_none (trk h H) hm
  rw [z] at e;cases e
structure Mod(K:tz0)(mg:tzA)(base:Heap):Prop where
 kin:K.In base
 glob:base.Ns mainGlobals mg
 blt:∃mb,base.Ns builtinsNs mb/\∀x:Str,x≠"__name__"->mb x=bootBuiltins x
 nolimit:base.NoLimit
structure Cx where
 prog:Program
 w:World
 K:tz0
 mg:tzA
 base:Heap
 A:Around
 N:List Str
 s₀:Shared
 H₀:Hp
 env:Env
 outer:List Env
 stack:List Env
 ex:List Addr
 fn:Str->Bool
 calm:Bool
 pn:tzB
 xe:Value->Shared->Prop
def frs(l:List Env):List Addr:=l.filterMap (·.frame)
abbrev Cx.fs(X:Cx):List Addr:=frs X.outer
def Vis(sc:Scope)(x:Str):Prop:=sc.names.lookup x=some .local\/sc.names.lookup x=some .cell\/sc.names.lookup x=some .free
def Loc(sc:Scope)(x:Str):Prop:=sc.names.lookup x=some .local\/sc.names.lookup x=some .cell
def xk1(env:Env)(h:Heap)(m:tzA)(x:Str)(u:Value):Prop:=
 (env.kindOf x=some .local/\m x=some u)\/((env.kindOf x=some .cell\/env.kindOf x=some .free)/\∃c,env.cells.lookup x=some c/\h.IsCell c (some u))
structure Cx.Ok(X:Cx):Prop where
 mod:Mod X.K X.mg X.base
 kind:X.env.scope.kind= .function
 glob:X.env.globals=mainGlobals
 blt:X.env.builtins=builtinsNs
 above:X.s₀.heap.objs.size<=X.env.locals
 inj:∀x y c,X.env.cells.lookup x=some c->X.env.cells.lookup y=some c->x=y
 has:∀x,(X.env.kindOf x=some .cell\/X.env.kindOf x=some .free)->∃c,X.env.cells.lookup x=some c
 cab:∀x c,X.fn x=true->X.env.cells.lookup x=some c->X.s₀.heap.objs.size<=c
 hd:X.calm=true->X.A.handled=none
 frames:X.A.frames=some X.stack
 stk:X.stack=X.outer\/(X.stack=X.env::X.outer/\X.env.frame=some X.env.locals)
 exf:∀b∈X.ex,b≠X.env.locals/\∀x c,X.env.cells.lookup x=some c->c≠b
 bs:∀b o,X.base.get? b=some o->X.s₀.heap.get? b=some o/\X.H₀ b=none
 bsz:X.base.objs.size<=X.s₀.heap.objs.size
 noex:∀b o,X.base.get? b=some o->b∉X.ex
 exfs:∀b∈X.ex,b∉X.fs
 funs:X.s₀.heap.FunFrames X.base X.outer
 frf:∀b∈X.fs,X.H₀ b=none
structure Inv(X:Cx)(pins:tzB)(σ:List (Option V))(H:Hp)(s:Shared):Prop where
 ok:X.Ok
 os:s.os=X.s₀.os
 bare:AllBare s.gens
 base:Un X.fs X.ex X.H₀ H X.s₀.heap s.heap
 loc:∃m,s.heap.Ns X.env.locals m/\∀(i:Nat) (x:Str) (v:V),X.N[i]? =some x->σ[i]? =some (some v)->Vis X.env.scope x->∃u,dD v u/\xk1 X.env s.heap m x u
 cell:∀x c,X.env.cells.lookup x=some c->∃v,s.heap.IsCell c v
 free:H X.env.locals=none
 freeC:∀x c,X.env.cells.lookup x=some c->H c=none
 pin:∀p∈X.pn++pins,s.heap.get? p.1=some p.2/\H p.1=none/\p.1≠X.env.locals/\p.1∉X.fs/\∀v,p.2.data≠ .cell v
 hok:HOk X.prog X.w H s.heap
 len:σ.length=X.N.length
section
variable{X:Cx}{pins:tzB}{σ:List (Option V)}{H H':Hp}{s:Shared}{h':Heap}
theorem Cx.Ok.nofr(ok:X.Ok){b:Addr}{o:Obj}(e:X.base.get? b=some o):b∉X.fs:=fun hb=>by
 have:=(ok.funs.mem hb).1
 rw [e] at this;cases this
theorem Inv.bs(I:Inv X pins σ H s):∀b o,X.base.get? b=some o->s.heap.get? b=some o/\H b=none:=fun b o e=>
 ⟨I.base.keep b o (I.ok.bs b o e).1 (I.ok.bs b o e).2 (I.ok.nofr e) (I.ok.noex b o e),I.base.free b o (I.ok.bs b o e).1 (I.ok.bs b o e).2 (I.ok.noex b o e)⟩
theorem Inv.bk(I:Inv X pins σ H s):∀b o,X.base.get? b=some o->s.heap.get? b=some o:=fun b o e=>(I.bs b o e).1
theorem Inv.mod(I:Inv X pins σ H s):Mod X.K X.mg X.base:=I.ok.mod
theorem Inv.kIn(I:Inv X pins σ H s):X.K.In s.heap:=I.ok.mod.kin.keeps I.bk
theorem Inv.lt(I:Inv X pins σ H s):X.env.locals<s.heap.objs.size:=let ⟨_,hn,_⟩:=I.loc;hn.lt
theorem Inv.sz(I:Inv X pins σ H s):X.s₀.heap.objs.size<=s.heap.objs.size:=Nat.le_trans I.ok.above (Nat.le_of_lt I.lt)
theorem Inv.nofs(I:Inv X pins σ H s){a:Addr}(h:s.heap.objs.size<=a):a∉X.fs:=fun hb=>by
 obtain⟨_,o,ho,_⟩:=I.ok.funs.mem hb
 exact absurd (Nat.lt_of_lt_of_le (Heap.lt_size ho) (Nat.le_trans I.sz h)) (Nat.lt_irrefl _)
theorem Inv.cne(I:Inv X pins σ H s):∀x c,X.env.cells.lookup x=some c->c≠X.env.locals:=fun x c e z=>by
 obtain⟨v,o,ho,hd⟩:=I.cell x c e
 obtain⟨m,⟨o',es,ep,ho',hd',_⟩,_⟩:=I.loc
 rw [z,ho'] at ho;cases ho;rw [hd'] at hd;cases hd
theorem Inv.funs(I:Inv X pins σ H s):s.heap.FunFrames X.base X.outer:=by
 have all:∀(l:List Env),(∀b∈frs l,b∈X.fs)->X.s₀.heap.FunFrames X.base l->s.heap.FunFrames X.base l:=by
  intro l
  induction l with
  |nil=>intro _ _;trivial
  |cons env r ih=>
   intro hs hl
   obtain⟨hk,⟨L,o,hf,hn,ho,hd⟩,hr⟩:=hl
   have hL:L∈X.fs:=hs L (by unfold frs;rw [List.filterMap_cons,hf];exact List.mem_cons_self)
   obtain⟨sl,e⟩:=I.base.slot L o ho (I.ok.frf L hL) hL fun z=>I.ok.exfs L z hL
   exact⟨hk,⟨L,_,hf,hn,e,hd⟩,ih (fun b hb=>hs b (by unfold frs;rw [List.filterMap_cons,hf];exact List.mem_cons_of_mem _ hb)) hr⟩
 exact all X.outer (fun _ hb=>hb) I.ok.funs
theorem Inv.stack(I:Inv X pins σ H s):s.heap.FunFrames X.base X.stack:=by
 rcases I.ok.stk with e|⟨e,hf⟩
 ·rw [e];exact I.funs
 ·rw [e]
  obtain⟨m,hn,_⟩:=I.loc
  refine .cons (by rw [I.ok.kind];decide) hf hn ?_ I.funs
  exact Heap.get?_none_of_le (Nat.le_trans I.ok.bsz I.ok.above)
theorem Inv.stkSub(I:Inv X pins σ H s):∀b∈frs X.stack,b∈X.env.locals::X.fs:=fun b hb=>by
 rcases I.ok.stk with e|⟨e,hf⟩
 ·rw [e] at hb;exact List.mem_cons_of_mem _ hb
 ·rw [e] at hb
  unfold frs at hb
  rw [List.filterMap_cons,hf] at hb
  exact hb
theorem Inv.stkFree(I:Inv X pins σ H s):∀b∈frs X.stack,H b=none:=fun b hb=>by
 rcases List.mem_cons.mp (I.stkSub b hb) with e|hb
 ·rw [e];exact I.free
 ·obtain⟨_,o,ho,_⟩:=I.ok.funs.mem hb
  exact I.base.free b o ho (I.ok.frf b hb) fun z=>I.ok.exfs b z hb
theorem Inv.step{g':Array GenState}{t':Nat}{d':Drawn}{ch:List Addr}(I:Inv X pins σ H s)
  (hch:∀b∈ch,(b∈X.ex\/X.s₀.heap.objs.size<=b)/\b≠X.env.locals/\(∀x c,X.env.cells.lookup x=some c->c≠b)/\∀p∈X.pn++pins,p.1≠b)
  (keep:∀b o,b≠X.env.locals->b∉X.fs->b∉ch->s.heap.get? b=some o->H b=none->h'.get? b=some o)
  (slot:∀b o,b≠X.env.locals->b∈X.fs->b∉ch->s.heap.get? b=some o->H b=none->∃sl,h'.get? b=some {o with slots:=sl}) (free:∀b o,b∉ch->s.heap.get? b=some o->H b=none->H' b=none)
  (there:∀b o,b∉ch->s.heap.get? b=some o->∃o',h'.get? b=some o')
  (tups:∀b xs,H b=some (.tup xs)->H' b=some (.tup xs)) (frzs:∀b o u,H b=some (.frz o u)->H' b=some (.frz o u)) (tbls:∀b ps,H b=some (.tbl ps)->∃more,H' b=some (.tbl (ps++more)))
  (ns:∀m,s.heap.Ns X.env.locals m->h'.Ns X.env.locals m) (hok:HOk X.prog X.w H' h') (hg:AllBare g'):
  Inv X pins σ H' {s with heap:=h',gens:=g',drawn:=d',toks:=t'}:=by
 have neL:∀b o,X.s₀.heap.get? b=some o->b≠X.env.locals:=fun b o e=>Nat.ne_of_lt (Nat.lt_of_lt_of_le (Heap.lt_size e) I.ok.above)
 have neC:∀b o,X.s₀.heap.get? b=some o->b∉X.ex->b∉ch:=fun b o e hx hb=>by
  rcases(hch b hb).1 with z|z
  ·exact hx z
  ·exact absurd (Nat.lt_of_lt_of_le (Heap.lt_size e) z) (Nat.lt_irrefl _)
 have cellK:∀x c,X.env.cells.lookup x=some c->∀v,s.heap.IsCell c v->h'.IsCell c v:=fun x c e v ⟨o,ho,hd⟩=>by
  have nch:c∉ch:=fun z=>(hch c z).2.2.1 x c e rfl
  by_cases hc:c∈X.fs
  ·obtain⟨sl,q⟩:=slot c o (I.cne x c e) hc nch ho (I.freeC x c e)
   exact⟨_,q,hd⟩
  ·exact⟨o,keep c o (I.cne x c e) hc nch ho (I.freeC x c e),hd⟩
 refine⟨I.ok,I.os,hg,⟨fun b o e n hb hx=> ?_,fun b o e n hb hx=> ?_,fun b o e n hx=> ?_,fun b o e hx=> ?_,fun b xs e=>tups b xs (I.base.tups b xs e),fun b o xs e=>frzs b o xs (I.base.frzs b o xs e),fun b ps e=> ?_⟩,?_,fun x c e=> ?_,?_,fun x c e=> ?_,fun p hp=> ?_,hok,I.len⟩
 ·exact keep b o (neL b o e) hb (neC b o e hx) (I.base.keep b o e n hb hx) (I.base.free b o e n hx)
 ·obtain⟨sl,e1⟩:=I.base.slot b o e n hb hx
  obtain⟨sl',e2⟩:=slot b _ (neL b o e) hb (neC b o e hx) e1 (I.base.free b o e n hx)
  exact⟨sl',e2⟩
 ·obtain⟨o',e1⟩:=I.base.there b o e hx
  exact free b o' (neC b o e hx) e1 (I.base.free b o e n hx)
 ·obtain⟨o',e1⟩:=I.base.there b o e hx
  exact there b o' (neC b o e hx) e1
 ·obtain⟨m1,e1⟩:=I.base.tbls b ps e
  obtain⟨m2,e2⟩:=tbls b _ e1
  exact⟨m1++m2,by rw [e2,Array.append_assoc]⟩
 ·obtain⟨m,hn,hl⟩:=I.loc
  refine⟨m,ns m hn,fun i x v e1 e2 e3=> ?_⟩
  obtain⟨u,r,l⟩:=hl i x v e1 e2 e3
  refine⟨u,r,?_⟩
  rcases l with l|⟨k,c,e,z⟩
  ·exact .inl l
  ·exact .inr ⟨k,c,e,cellK x c e _ z⟩
 ·obtain⟨v,z⟩:=I.cell x c e
  exact⟨v,cellK x c e v z⟩
 ·obtain⟨m,⟨o,_,_,ho,_⟩,_⟩:=I.loc
  exact free _ o (fun z=>(hch _ z).2.1 rfl) ho I.free
 ·obtain⟨v,o,ho,hd⟩:=I.cell x c e
  exact free c o (fun z=>(hch c z).2.2.1 x c e rfl) ho (I.freeC x c e)
 ·obtain⟨e,n,ne,nf,d⟩:=I.pin p hp
  have nch:p.1∉ch:=fun z=>(hch p.1 z).2.2.2 p hp rfl
  exact⟨keep p.1 p.2 ne nf nch e n,free p.1 p.2 nch e n,ne,nf,d⟩
theorem Inv.un{t':Nat}(I:Inv X pins σ H s)(u:Un X.fs [] H H' s.heap h')(hok:HOk X.prog X.w H' h'):Inv X pins σ H' {s with heap:=h',toks:=t'}:=by
 obtain⟨m,⟨o,es,ep,ho,r⟩,_⟩:=id I.loc
 obtain⟨sl,hL⟩:=u.any ho I.free (by simp)
 exact I.step (g':=s.gens) (d':=s.drawn) (ch:=[]) (fun _ z=>nomatch z) (fun b o _ hb _ e n=>u.keep b o e n hb (by simp)) (fun b o _ hb _ e n=>u.slot b o e n hb (by simp)) (fun b o _ e n=>u.free b o e n (by simp)) (fun b o _ e=>u.there b o e (by simp)) u.tups u.frzs u.tbls (fun m' hm=>by
  obtain⟨o',es',ep',ho',r'⟩:=hm
  rw [ho] at ho';cases ho'
  exact⟨_,es',ep',hL,r'⟩) hok I.bare
theorem Inv.call{g':Array GenState}{t':Nat}{d':Drawn}{ch:List Addr}(I:Inv X pins σ H s)(u:Un (frs X.stack) ch H H' s.heap h')(hok:HOk X.prog X.w H' h')(hg:AllBare g')
  (hch:∀b∈ch,(b∈X.ex\/X.s₀.heap.objs.size<=b)/\b≠X.env.locals/\(∀x c,X.env.cells.lookup x=some c->c≠b)/\∀p∈X.pn++pins,p.1≠b):
  Inv X pins σ H' {s with heap:=h',gens:=g',drawn:=d',toks:=t'}:=by
 obtain⟨m,⟨o,es,ep,ho,r⟩,_⟩:=id I.loc
 obtain⟨sl,hL⟩:=u.any ho I.free fun z=>(hch _ z).2.1 rfl
 exact I.step (ch:=ch) hch (fun b o hL hb hc e n=>u.keep b o e n (fun z=>(List.mem_cons.mp (I.stkSub b z)).elim hL hb) hc) (fun b o _ _ hc e n=>u.any e n hc) (fun b o hc e n=>u.free b o e n hc) (fun b o hc e=>u.there b o e hc) u.tups u.frzs u.tbls (fun m' hm=>by
  obtain⟨o',es',ep',ho',r'⟩:=hm
  rw [ho] at ho';cases ho'
  exact⟨_,es',ep',hL,r'⟩) hok hg
theorem Inv.turned{t':Nat}{it:Addr}(I:Inv X pins σ H s)(k:∀b o,b≠it->s.heap.get? b=some o->h'.get? b=some o)(hn:H it=none)(hL:it≠X.env.locals)
  (h1:it∈X.ex\/X.s₀.heap.objs.size<=it) (h2:∀x c,X.env.cells.lookup x=some c->c≠it) (h3:∀p∈X.pn++pins,p.1≠it):Inv X pins σ H {s with heap:=h',toks:=t'}:=by
 have nit:∀b u,H b=some u->b≠it:=fun b u e z=>by rw [z,hn] at e;cases e
 refine I.step (g':=s.gens) (d':=s.drawn) (ch:=[it]) (fun b hb=> ?_) (fun b o _ _ hc e _=>k b o (fun z=>hc (by simp [z])) e) (fun b o _ _ hc e _=>⟨o.slots,k b o (fun z=>hc (by simp [z])) e⟩) (fun _ _ _ _ n=>n)
  (fun b o hc e=>⟨o,k b o (fun z=>hc (by simp [z])) e⟩) (fun _ _ e=>e) (fun _ _ _ e=>e) (fun b ps e=>⟨#[],by rw [e];simp⟩) (fun m hm=> ?_) (fun b u e=> ?_) I.bare
 ·have e:b=it:=by simpa using hb
  subst e
  exact⟨h1,hL,h2,h3⟩
 ·obtain⟨o,es,ep,ho,r⟩:=hm
  exact⟨o,es,ep,k _ o (Ne.symm hL) ho,r⟩
 ·refine(I.hok b u e).stay (fun c v hc q=>k c v ?_ q) (fun _ q=>q) fun _ _ q=>q
  rcases hc with z|z
  ·rw [z];exact nit b u e
  ·exact nit c _ z
theorem Inv.tok(I:Inv X pins σ H s)(t:Nat):Inv X pins σ H {s with toks:=t}:=I.un (h':=s.heap) (t':=t) Un.refl I.hok
theorem Inv.kept{t':Nat}(I:Inv X pins σ H s)(k:∀b u,s.heap.get? b=some u->h'.get? b=some u):Inv X pins σ H {s with heap:=h',toks:=t'}:=I.un (Un.kept k) (I.hok.kept k)
theorem Inv.laid{a:Addr}{o:HO}{t':Nat}(I:Inv X pins σ H s)(k:∀b u,s.heap.get? b=some u->h'.get? b=some u)(hp:s.heap.objs.size<=a)(new:fU X.prog X.w (upd H a o) h' a o):
  Inv X pins σ (upd H a o) {s with heap:=h',toks:=t'}:=I.un (Un.laid k hp (I.hok.fresh hp)) (I.hok.laid k hp new)
theorem Inv.write{x e:Addr}{o:HO}{t':Nat}(I:Inv X pins σ H s)(mu:Mut (H x))(he:e=x\/H e=some (.own x))(k:∀b u,b≠e->s.heap.get? b=some u->h'.get? b=some u)(heo:∃u,h'.get? e=some u)
  (new:fU X.prog X.w (upd H x o) h' x o):Inv X pins σ (upd H x o) {s with heap:=h',toks:=t'}:=I.un (Un.write mu he k heo) (I.hok.write mu he k heo new)
theorem Inv.pins_of{pins':tzB}(I:Inv X pins σ H s)(h:∀p∈pins',s.heap.get? p.1=some p.2/\H p.1=none/\p.1≠X.env.locals/\p.1∉X.fs/\∀v,p.2.data≠ .cell v):Inv X pins' σ H s:=
 ⟨I.ok,I.os,I.bare,I.base,I.loc,I.cell,I.free,I.freeC,fun p hp=>(List.mem_append.mp hp).elim (fun z=>I.pin p (List.mem_append_left _ z)) (h p),I.hok,I.len⟩
theorem zp3{N:List Str}(hN:N.Nodup){i j:Nat}{x:Str}(a:N[i]? =some x)(b:N[j]? =some x):i=j:=by
 obtain⟨h1,e1⟩:=List.getElem?_eq_some_iff.mp a
 obtain⟨h2,e2⟩:=List.getElem?_eq_some_iff.mp b
 exact(List.getElem_inj hN).mp (e1.trans e2.symm)
theorem yi5{M:Model}{A:Around}{E:Value->Shared->Prop}{i:Nat}{x:Str}{v:V}{u:Value}{Q:Unit->Shared->Prop}(I:Inv X pins σ H s)(hN:X.N.Nodup)(hi:X.N[i]? =some x)(hx:Loc X.env.scope x)(r:dD v u)
  (h:∀s',Inv X pins (σ.set i (some v)) H s'->(∃a,Heap.SameBut a s.heap s'.heap/\(a=X.env.locals\/X.env.cells.lookup x=some a))->Q () s') (hf:X.fn x=true\/X.env.scope.names.lookup x=some .local:=by first|exact .inl rfl|exact .inr rfl|assumption):wpAny M A (storeName X.env x u) Q E s:=by
 obtain⟨m,hn,hl⟩:=id I.loc
 have hcls:(X.env.scope.kind== .class||(X.env.scope.kind== .module&&X.env.locals !=X.env.globals))=false:=by rw [I.ok.kind];rfl
 have hiσ:i<σ.length:=by rw [I.len];exact(List.getElem?_eq_some_iff.mp hi).1
 have cne:=I.cne
 have tracked:∀{a:Addr} {h':Heap},(∃o,s.heap.get? a=some o/\H a=none)->Heap.SameBut a s.heap h'->HOk X.prog X.w H h':=fun {a h'} ha hs b ob e=>by
  obtain⟨_,_,hfree⟩:=ha
  refine(I.hok b ob e).stay (fun c w' hc q=>(hs.2 c ?_).trans q) (fun _ q=>q) fun _ _ q=>q
  rintro rfl
  rcases hc with rfl|hc
  ·rw [hfree] at e;cases e
  ·rw [hfree] at hc;cases hc
 rcases hx with hk|hk
 ·refine wpAny_storeName_local hk hn (fun h' hn' hs=> ?_) hcls
  obtain⟨oL,_,_,hoL,_⟩:=id hn
  refine h _ ⟨I.ok,I.os,I.bare,⟨fun b o e n hb hx=> ?_,fun b o e n hb hx=> ?_,I.base.free,fun b o e hx=> ?_,I.base.tups,I.base.frzs,I.base.tbls⟩,⟨_,hn',fun j y v' e1 e2 e3=> ?_⟩,fun y c e=> ?_,I.free,I.freeC,fun p hp=> ?_,tracked ⟨oL,hoL,I.free⟩ hs,by simpa using I.len⟩ ⟨_,hs,.inl rfl⟩
  ·exact(hs.2 b (Nat.ne_of_lt (Nat.lt_of_lt_of_le (Heap.lt_size e) I.ok.above))).trans (I.base.keep b o e n hb hx)
  ·obtain⟨sl,e1⟩:=I.base.slot b o e n hb hx
   exact⟨sl,(hs.2 b (Nat.ne_of_lt (Nat.lt_of_lt_of_le (Heap.lt_size e) I.ok.above))).trans e1⟩
  ·obtain⟨o',e1⟩:=I.base.there b o e hx
   exact⟨o',(hs.2 b (Nat.ne_of_lt (Nat.lt_of_lt_of_le (Heap.lt_size e) I.ok.above))).trans e1⟩
  ·by_cases hj:j=i
   ·subst hj
    rw [hi] at e1;cases e1
    rw [List.getElem?_set_self hiσ] at e2
    cases e2
    exact⟨u,r,.inl ⟨hk,by simp⟩⟩
   ·rw [List.getElem?_set_ne (Ne.symm hj)] at e2
    obtain⟨u',r',q⟩:=hl j y v' e1 e2 e3
    refine⟨u',r',?_⟩
    rcases q with ⟨k,e⟩|⟨k,c,e,z⟩
    ·refine .inl ⟨k,?_⟩
     have:y≠x:=fun e=>hj (zp3 hN e1 (e▸hi))
     simp [this,e]
    ·exact .inr ⟨k,c,e,z.sameBut hs (cne y c e)⟩
  ·obtain⟨w',z⟩:=I.cell y c e
   exact⟨w',z.sameBut hs (cne y c e)⟩
  ·obtain⟨e,n,ne,nf,d⟩:=I.pin p hp
   exact⟨(hs.2 p.1 ne).trans e,n,ne,nf,d⟩
 ·have hfn:X.fn x=true:=by
   rcases hf with z|z
   ·exact z
   ·rw [z] at hk;cases hk
  obtain⟨c,hc⟩:=I.ok.has x (.inl hk)
  obtain⟨w',z⟩:=I.cell x c hc
  refine wpAny_storeName_cell I.ok.kind hk hc z (fun h' hc' hs=> ?_)
  obtain⟨oc,hoc,hocd⟩:=id z
  refine h {s with heap:=h'} ⟨I.ok,I.os,I.bare,⟨fun b o e n hb hx=> ?_,fun b o e n hb hx=> ?_,I.base.free,fun b o e hx=> ?_,I.base.tups,I.base.frzs,I.base.tbls⟩,⟨m,hn.sameBut hs (Ne.symm (cne x c hc)),fun j y v' e1 e2 e3=> ?_⟩,fun y c' e=> ?_,I.free,I.freeC,fun p hp=> ?_,tracked ⟨oc,hoc,I.freeC x c hc⟩ hs,by simpa using I.len⟩ ⟨c,hs,.inr hc⟩
  ·exact(hs.2 b (Nat.ne_of_lt (Nat.lt_of_lt_of_le (Heap.lt_size e) (I.ok.cab x c hfn hc)))).trans (I.base.keep b o e n hb hx)
  ·obtain⟨sl,e1⟩:=I.base.slot b o e n hb hx
   exact⟨sl,(hs.2 b (Nat.ne_of_lt (Nat.lt_of_lt_of_le (Heap.lt_size e) (I.ok.cab x c hfn hc)))).trans e1⟩
  ·obtain⟨o',e1⟩:=I.base.there b o e hx
   exact⟨o',(hs.2 b (Nat.ne_of_lt (Nat.lt_of_lt_of_le (Heap.lt_size e) (I.ok.cab x c hfn hc)))).trans e1⟩
  ·by_cases hj:j=i
   ·subst hj
    rw [hi] at e1;cases e1
    rw [List.getElem?_set_self hiσ] at e2
    cases e2
    exact⟨u,r,.inr ⟨.inl hk,c,hc,hc'⟩⟩
   ·rw [List.getElem?_set_ne (Ne.symm hj)] at e2
    obtain⟨u',r',q⟩:=hl j y v' e1 e2 e3
    refine⟨u',r',?_⟩
    rcases q with q|⟨k,c',e,z'⟩
    ·exact .inl q
    ·refine .inr ⟨k,c',e,z'.sameBut hs ?_⟩
     rintro rfl
     exact hj (zp3 hN e1 (I.ok.inj _ _ _ e hc▸hi))
  ·by_cases hcc:c'=c
   ·subst hcc;exact⟨_,hc'⟩
   ·obtain⟨w2,z2⟩:=I.cell y c' e
    exact⟨w2,z2.sameBut hs hcc⟩
  ·obtain⟨e,n,ne,nf,d⟩:=I.pin p hp
   refine⟨(hs.2 p.1 ?_).trans e,n,ne,nf,d⟩
   intro q
   rw [q,hoc] at e
   have q':oc=p.2:=Option.some.inj e
   exact d w' (by rw [<-q'];exact hocd)
theorem uD{M:Model}{A:Around}{E:Value->Shared->Prop}{i:Nat}{x:Str}{v:V}{u:Value}{Q:Unit->Shared->Prop}(I:Inv X pins σ H s)(hN:X.N.Nodup)(hi:X.N[i]? =some x)(hx:Loc X.env.scope x)(r:dD v u)
  (h:∀s',Inv X pins (σ.set i (some v)) H s'->Q () s') (hf:X.fn x=true\/X.env.scope.names.lookup x=some .local:=by first|exact .inl rfl|exact .inr rfl|assumption):wpAny M A (storeName X.env x u) Q E s:=
 yi5 I hN hi hx r (fun s' I' _=>h s' I') hf
theorem Inv.call'{s':Shared}{ch:List Addr}(I:Inv X pins σ H s)(ho:s'.os=s.os)(u:Un (frs X.stack) ch H H' s.heap s'.heap)(hok:HOk X.prog X.w H' s'.heap)(hg:AllBare s'.gens)
  (hch:∀b∈ch,(b∈X.ex\/X.s₀.heap.objs.size<=b)/\b≠X.env.locals/\(∀x c,X.env.cells.lookup x=some c->c≠b)/\∀p∈X.pn++pins,p.1≠b):Inv X pins σ H' s':=by
 obtain⟨h',g',d',t',o'⟩:=s'
 have e:o'=s.os:=ho
 subst e
 exact I.call (g':=g') (t':=t') (d':=d') u hok hg hch
end
abbrev XK:=Value->Option Addr->Hp->Prop
abbrev St:=List (Option V)
abbrev VK:=V->Hp->Prop
abbrev TE:=St->Hp->VK->Prop
abbrev TT:=St->Hp->(Bool->Hp->Prop)->Prop
abbrev TA:=St->Hp->(List V->Hp->Prop)->Prop
structure Ends where
 nx:St->Hp->Prop
 rt:VK
 bk:St->Hp->Prop:=fun _ _=>False
 ct:St->Hp->Prop:=fun _ _=>False
abbrev TS:=Ends->St->Hp->Prop
def EP(X:Cx)(pins:tzB)(σ:St)(Q:VK)(u:Value)(s':Shared):Prop:=∃v H',Inv X pins σ H' s'/\dD v u/\Q v H'
def TP(X:Cx)(pins:tzB)(σ:St)(Q:Bool->Hp->Prop)(b:Bool)(s':Shared):Prop:=∃H',Inv X pins σ H' s'/\Q b H'
def AP(X:Cx)(pins:tzB)(σ:St)(Q:List V->Hp->Prop)(us:List Value)(s':Shared):Prop:=∃vs H',Inv X pins σ H' s'/\cD vs us/\Q vs H'
def SP(X:Cx)(pins:tzB)(D:Ends)(f:Flow)(s':Shared):Prop:=
 match f with
 | .next=>∃σ' H',Inv X pins σ' H' s'/\D.nx σ' H'
 | .brk=>∃σ' H',Inv X pins σ' H' s'/\D.bk σ' H'
 | .cont=>∃σ' H',Inv X pins σ' H' s'/\D.ct σ' H'
 | .ret u=>∃v σ' H',Inv X pins σ' H' s'/\dD v u/\D.rt v H'
def PE(X:Cx)(e:Expr)(t:TE):Prop:=
 ∀(pins:tzB) (s:Shared) (σ:St) (H:Hp) (Q:VK),Inv X pins σ H s->t σ H Q->wpAny (model X.prog X.w) X.A (eval e X.env) (EP X pins σ Q) X.xe s
def PT(X:Cx)(e:Expr)(t:TT):Prop:=
 ∀(pins:tzB) (s:Shared) (σ:St) (H:Hp) (Q:Bool->Hp->Prop),Inv X pins σ H s->t σ H Q->wpAny (model X.prog X.w) X.A (isTrue e X.env (eval e X.env)) (TP X pins σ Q) X.xe s
def PW(X:Cx)(e:Expr)(t:TT):Prop:=
 ∀(whole:Sem Value) (pins:tzB) (s:Shared) (σ:St) (H:Hp) (Q:Bool->Hp->Prop),Inv X pins σ H s->t σ H Q->wpAny (model X.prog X.w) X.A (isTrue e X.env whole) (TP X pins σ Q) X.xe s
theorem PW.pt{X:Cx}{e:Expr}{t:TT}(h:PW X e t):PT X e t:=h _
def PA(X:Cx)(es:List Expr)(t:TA):Prop:=
 ∀(pos:Pos) (pins:tzB) (s:Shared) (σ:St) (H:Hp) (Q:List V->Hp->Prop),Inv X pins σ H s->t σ H Q->wpAny (model X.prog X.w) X.A (spliced (backTo pos (starEach es X.env))) (AP X pins σ Q) X.xe s
def PS(X:Cx)(st:Stmt)(t:TS):Prop:=
 ∀(pins:tzB) (s:Shared) (σ:St) (H:Hp) (D:Ends),Inv X pins σ H s->t D σ H->wpAny (model X.prog X.w) X.A (exec st X.env) (SP X pins D) X.xe s
def PSs(X:Cx)(st:List Stmt)(t:TS):Prop:=
 ∀(pins:tzB) (s:Shared) (σ:St) (H:Hp) (D:Ends),Inv X pins σ H s->t D σ H->wpAny (model X.prog X.w) X.A (execs st X.env) (SP X pins D) X.xe s
theorem thn{α:Type}{t:Sem α}{Q Q':α->Shared->Prop}{M:Model}{A:Around}{E:Value->Shared->Prop}{s:Shared}(h:wpAny M A t Q E s)(hQ:∀a s,Q a s->Q' a s):wpAny M A t Q' E s:=wpAny_mono h hQ fun _ _ x=>x
section
variable{X:Cx}
def xk2(i:Nat):TE:=fun σ H Q=>∃v,σ[i]? =some (some v)/\Q v H
def tC(v:V):TE:=fun _ H Q=>Q v H
theorem lS{i:Nat}{x:Str}{pos:Pos}(hN:X.N[i]? =some x)(hv:Vis X.env.scope x)(hd:(x==("__debug__":Str))=false:=by decide)(hcd:(x==("__classdict__":Str))=false:=by decide):PE X (.Name x pos) (xk2 i):=by
 intro pins s σ H Q I h
 obtain⟨v,e,h⟩:=h
 obtain⟨m,hn,hl⟩:=I.loc
 obtain⟨u,r,l⟩:=hl i x v hN e hv
 have fin:EP X pins σ Q u s:=⟨v,H,I,r,h⟩
 rcases l with ⟨hk,hm⟩|⟨hk,c,hc,hcell⟩
 ·exact wpAny_Name (wpAny_loadName_local I.ok.kind hk hn hm fin) hd
 ·rcases hk with hk|hk
  ·exact wpAny_Name (wpAny_loadName_cell I.ok.kind hk hc hcell fin) hd
  ·exact wpAny_Name (wpAny_loadName_free I.ok.kind hk hc hcell fin hcd) hd
theorem jJ{i j pos}:PE X (.Constant (.int i) j pos) (tC (.int i)):=fun _ _ _ H _ I h=>wpAny_Constant_int ⟨.int i,H,I.tok _,⟨_,rfl⟩,h⟩
theorem yx9{b j pos}:PE X (.Constant (.bool b) j pos) (tC (.bl b)):=fun _ _ _ H _ I h=>Constant_bool ⟨.bl b,H,I,rfl,h⟩
theorem yi6{j pos}:PE X (.Constant .none j pos) (tC .non):=fun _ _ _ H _ I h=>Constant_none ⟨.non,H,I,rfl,h⟩
theorem yi7{x j pos}:PE X (.Constant (.str x) j pos) (tC (.str x)):=fun _ _ _ H _ I h=>Calls.Constant_str ⟨.str x,H,I.tok _,⟨_,rfl⟩,h⟩
def Gl(X:Cx)(x:Str):Prop:=X.env.kindOf x=some .globalImplicit
theorem oW{E:Value->Shared->Prop}{pins:tzB}{s:Shared}{σ:St}{H:Hp}{x:Str}{u:Value}{pos:Pos}{Q:Value->Shared->Prop}(I:Inv X pins σ H s)(hg:Gl X x)(hm:X.mg x=some u)(h:Q u s)
  (hd:(x==("__debug__":Str))=false:=by decide):wpAny (model X.prog X.w) X.A (eval (.Name x pos) X.env) Q E s:=
 Calls.Name_function_global I.ok.kind hg (Calls.loadGlobal_global (by rw [I.ok.glob];exact I.mod.glob.keeps I.bk) hm h) hd
theorem vW{E:Value->Shared->Prop}{pins:tzB}{s:Shared}{σ:St}{H:Hp}{x:Str}{u:Value}{pos:Pos}{Q:Value->Shared->Prop}(I:Inv X pins σ H s)(hg:Gl X x)(hm:X.mg x=none)(hv:bootBuiltins x=some u)(h:Q u s)
  (hn:x≠"__name__":=by decide) (hd:(x==("__debug__":Str))=false:=by decide):wpAny (model X.prog X.w) X.A (eval (.Name x pos) X.env) Q E s:=by
 obtain⟨mb,h1,h2⟩:=I.mod.blt
 exact Calls.Name_function_global I.ok.kind hg (Calls.loadGlobal_builtin (by rw [I.ok.glob];exact I.mod.glob.keeps I.bk) hm (by rw [I.ok.blt];exact h1.keeps I.bk) ((h2 x hn).trans hv) h) hd
theorem qQ{x:Str}{v:V}{u:Value}{pos:Pos}(hg:Gl X x)(hm:X.mg x=some u)(r:dD v u)(hd:(x==("__debug__":Str))=false:=by decide):PE X (.Name x pos) (tC v):=
 fun _ _ _ H _ I h=>oW I hg hm ⟨v,H,I,r,h⟩ hd
theorem xK{x:Str}{v:V}{u:Value}{pos:Pos}(hg:Gl X x)(hm:X.mg x=none)(hv:bootBuiltins x=some u)(r:dD v u)(hn:x≠"__name__":=by decide)(hd:(x==("__debug__":Str))=false:=by decide):PE X (.Name x pos) (tC v):=
 fun _ _ _ H _ I h=>vW I hg hm hv ⟨v,H,I,r,h⟩ hn hd
variable{a b:Expr}{ta tb:TE}{pos:Pos}
def PC(X:Cx)(op:CmpOp)(a b:Expr)(t:TE):Prop:=
 ∀(pins:tzB) (s:Shared) (σ:St) (H:Hp) (Q:VK),Inv X pins σ H s->t σ H Q->
  wpAny (model X.prog X.w) X.A (eval a X.env) (fun v s₁=>wpAny (model X.prog X.w) X.A (eval b X.env) (fun u s₂=>wpAny (model X.prog X.w) X.A (compareOp op v u) (EP X pins σ Q) X.xe s₂) X.xe s₁) X.xe s
theorem yq9(b:Expr){op:CmpOp}(h:op≠ .In)(h2:op≠ .NotIn):behindInMarks op b=false:=by
 have e1:(op==CmpOp.In)=false:=by cases op<;>first|rfl|exact absurd rfl h
 have e2:(op==CmpOp.NotIn)=false:=by cases op<;>first|rfl|exact absurd rfl h2
 cases b<;>simp [behindInMarks,e1,e2]
def xp7(ta:TE):TE:=fun σ H Q=>ta σ H fun x H1=>Q (.bl (decide (x= .non))) H1
theorem dD.none_iff{x:V}{v:Value}(r:dD x v):(v==Value.none)=decide (x= .non):=by
 cases x with
 |non=>cases r;rfl
 |bl _=>cases r;rfl
 |int _=>obtain⟨t,rfl⟩:=r;rfl
 |str _=>obtain⟨t,rfl⟩:=r;rfl
 |byt _=>obtain⟨t,rfl⟩:=r;rfl
 |flt _=>obtain⟨t,rfl⟩:=r;rfl
 |ref _=>cases r;rfl
 |ty _=>cases r;rfl
theorem xe7{j pos'}(ha:PE X a ta):PC X .Is a (.Constant .none j pos') (xp7 ta):=by
 intro pins s σ H Q I h
 refine thn (ha pins s σ H _ I h) fun v s1 ⟨x,H1,I1,r1,q1⟩=> ?_
 exact Constant_none (is_none_gen ⟨.bl _,H1,I1,by rw [r1.none_iff];rfl,q1⟩)
def tB(t:TE):TT:=fun σ H Q=>t σ H fun x H1=>∃c,x= .bl c/\Q c H1
theorem xe8{op:CmpOp}{t:TE}(h:PC X op a b t)(h1:behindInMarks op b=false:=by first|exact yq9 _ (by decide) (by decide)|rfl):PT X (.Compare a [op] [b] pos) (tB t):=by
 intro pins s σ H Q I hw
 refine wpAny_isTrue_Compare1 (thn (h pins s σ H _ I hw) fun v s1 h1=>thn h1 fun u s2 h2=>thn h2 fun c s3 ⟨x,H1,I1,r1,q1⟩=> ?_) h1
 obtain⟨d,rfl,q⟩:=q1
 cases r1
 exact wpAny_truthy_bool ⟨H1,I1,q⟩
theorem yi8{e:Expr}{t:TE}(h:PE X e t)(he:∀whole,isTrue e X.env whole=(do let v<-whole;standAt e.pos;holding [v] (truthy v)):=by intro _;rfl):PT X e (tB t):=by
 intro pins s σ H Q I hw
 refine isTrue_plain (thn (h pins s σ H _ I hw) fun v s1 ⟨x,H1,I1,r1,q1⟩=> ?_) (he _)
 obtain⟨d,rfl,q⟩:=q1
 cases r1
 exact wpAny_truthy_bool ⟨H1,I1,q⟩
variable{tA tB':TT}{rest:List Expr}
def xp8(t u:TT):TT:=fun σ H Q=>t σ H fun c H1=>if c=true then u σ H1 Q else Q false H1
def tOr(t u:TT):TT:=fun σ H Q=>t σ H fun c H1=>if c=true then Q true H1 else u σ H1 Q
def xp9(t:TT):TT:=fun σ H Q=>t σ H fun c H1=>Q (!c) H1
theorem yz7(ha:PT X a tA):PW X (.BoolOp .And [a] pos) tA:=by
 intro wh pins s σ H Q I h
 refine isTrue_and (thn (ha pins s σ H Q I h) fun c s1 e=> ?_)
 cases c with
 |true=>exact isTrue_and_nil e
 |false=>exact e
theorem yi9(ha:PT X a tA):PW X (.BoolOp .Or [a] pos) tA:=by
 intro wh pins s σ H Q I h
 refine isTrue_or (thn (ha pins s σ H Q I h) fun c s1 e=> ?_)
 cases c with
 |false=>exact isTrue_or_nil e
 |true=>exact e
theorem xe9(ha:PT X a tA)(hb:PW X (.BoolOp .And (b::rest) pos) tB'):PW X (.BoolOp .And (a::b::rest) pos) (xp8 tA tB'):=by
 intro wh pins s σ H Q I h
 refine isTrue_and (thn (ha pins s σ H _ I h) fun c s1 ⟨H1,I1,q1⟩=> ?_)
 cases c with
 |true=>exact hb wh pins s1 σ H1 Q I1 q1
 |false=>exact⟨H1,I1,q1⟩
theorem yc0(ha:PT X a tA)(hb:PW X (.BoolOp .Or (b::rest) pos) tB'):PW X (.BoolOp .Or (a::b::rest) pos) (tOr tA tB'):=by
 intro wh pins s σ H Q I h
 refine isTrue_or (thn (ha pins s σ H _ I h) fun c s1 ⟨H1,I1,q1⟩=> ?_)
 cases c with
 |true=>exact⟨H1,I1,q1⟩
 |false=>exact hb wh pins s1 σ H1 Q I1 q1
theorem zZ(ha:PT X a tA):PT X (.UnaryOp .Not a pos) (xp9 tA):=by
 intro pins s σ H Q I h
 exact isTrue_not (ha pins s σ H (fun c H1=>Q (!c) H1) I h)
def xn2(ta tb:TE):TE:=fun σ H Q=>ta σ H fun x H1=>∃c,x= .bl c/\if c=true then tb σ H1 Q else Q (.bl false) H1
def xq0(ta tb:TE):TE:=fun σ H Q=>ta σ H fun x H1=>∃c,x= .bl c/\if c=true then Q (.bl true) H1 else tb σ H1 Q
def xn3(ta:TE):TE:=fun σ H Q=>ta σ H fun x H1=>∃c,x= .bl c/\Q (.bl (!c)) H1
theorem xf0{op}{t:TE}(h:PE X a t):PE X (.BoolOp op [a] pos) t:=fun pins s σ H Q I hw=>BoolOp_one (h pins s σ H Q I hw)
theorem xf1(ha:PE X a ta)(hb:PE X (.BoolOp .And (b::rest) pos) tb):PE X (.BoolOp .And (a::b::rest) pos) (xn2 ta tb):=by
 intro pins s σ H Q I h
 refine BoolOp_and (thn (ha pins s σ H _ I h) fun v s1 ⟨x,H1,I1,r1,q1⟩=> ?_)
 obtain⟨c,rfl,q1⟩:=q1
 cases r1
 refine wpAny_truthy_bool ?_
 cases c with
 |true=>exact hb pins s1 σ H1 Q I1 q1
 |false=>exact⟨.bl false,H1,I1,rfl,q1⟩
theorem xm1(ha:PE X a ta)(hb:PE X (.BoolOp .Or (b::rest) pos) tb):PE X (.BoolOp .Or (a::b::rest) pos) (xq0 ta tb):=by
 intro pins s σ H Q I h
 refine BoolOp_or (thn (ha pins s σ H _ I h) fun v s1 ⟨x,H1,I1,r1,q1⟩=> ?_)
 obtain⟨c,rfl,q1⟩:=q1
 cases r1
 refine wpAny_truthy_bool ?_
 cases c with
 |false=>exact hb pins s1 σ H1 Q I1 q1
 |true=>exact⟨.bl true,H1,I1,rfl,q1⟩
theorem xf2(ha:PE X a ta):PE X (.UnaryOp .Not a pos) (xn3 ta):=by
 intro pins s σ H Q I h
 refine UnaryOp_ (thn (ha pins s σ H _ I h) fun v s1 ⟨x,H1,I1,r1,q1⟩=> ?_)
 obtain⟨c,rfl,q1⟩:=q1
 cases r1
 exact not_of (wpAny_truthy_bool ⟨.bl (!c),H1,I1,rfl,q1⟩)
end
def SqL(K:tz0)(H:Hp)(a:Addr)(xs:List V):Prop:=
 Rd H a (.lst xs)\/
  ∃(o:Obj) (its:Array Value) (n:Nat),K.lookup a=some o/\o.cls= .type "list"/\o.dict=none/\o.data= .seq its n/\its.size<=sizeLine/\cD xs its.toList
def SqT(K:tz0)(H:Hp)(a:Addr)(xs:List V):Prop:=
 Rd H a (.tup xs)\/
  ∃(o:Obj) (its:Array Value) (n:Nat),K.lookup a=some o/\o.cls= .type "tuple"/\o.data= .seq its n/\its.size<=sizeLine/\cD xs its.toList
def xq1:Value->Option V
 | .none=>some .non
 | .bool b=>some (.bl b)
 | .int i _=>some (.int i)
 | .str x _=>some (.str x)
 | .bytes b _=>some (.byt b)
 | .float b _=>some (.flt b)
 | .ref a=>some (.ref a)
 | .type n=>some (.ty n)
 |_=>none
theorem dD.abs{x:V}{u:Value}(r:dD x u):xq1 u=some x:=by
 cases x with
 |non=>cases r;rfl
 |bl _=>cases r;rfl
 |int _=>obtain⟨t,rfl⟩:=r;rfl
 |str _=>obtain⟨t,rfl⟩:=r;rfl
 |byt _=>obtain⟨t,rfl⟩:=r;rfl
 |flt _=>obtain⟨t,rfl⟩:=r;rfl
 |ref _=>cases r;rfl
 |ty _=>cases r;rfl
theorem dD.inj{x y:V}{u:Value}(r:dD x u)(q:dD y u):x=y:=Option.some.inj (r.abs.symm.trans q.abs)
theorem cD.inj:∀{xs ys:List V} {us:List Value},cD xs us->cD ys us->xs=ys
 |_,_,_,.nil,.nil=>rfl
 |_,_,_,.cons r t,.cons r' t'=>by rw [r.inj r',cD.inj t t']
section
variable{X:Cx}{pins:tzB}{σ:St}{H:Hp}{s:Shared}{a:Addr}{xs ys:List V}
theorem Inv.list(I:Inv X pins σ H s)(h:SqL X.K H a xs):∃its:List Value,cD xs its/\PlainL s.heap a its.toArray/\xs.length<=sizeLine:=by
 rcases h with h|⟨o,its,n,hk,hc,hd,hs,hz,r⟩
 ·obtain⟨z,its,n,r,e⟩:=h.ok I.hok
  exact⟨its,r,⟨_,n,e,rfl,rfl,rfl⟩,z⟩
 ·refine⟨its.toList,r,⟨o,n,I.kIn a o hk,hc,hd,by simpa using hs⟩,?_⟩
  have e:=r.length
  simp only [Array.length_toList] at e
  omega
theorem Inv.tuple(I:Inv X pins σ H s)(h:SqT X.K H a xs):∃its:List Value,cD xs its/\IsTup s.heap a its.toArray/\xs.length<=sizeLine:=by
 rcases h with h|⟨o,its,n,hk,hc,hs,hz,r⟩
 ·obtain⟨z,its,r,p⟩:=h.ok I.hok
  exact⟨its,r,p,z⟩
 ·refine⟨its.toList,r,⟨o,I.kIn a o hk,hc,n,by simpa using hs⟩,?_⟩
  have e:=r.length
  simp only [Array.length_toList] at e
  omega
theorem Inv.list_inj(I:Inv X pins σ H s)(h:SqL X.K H a xs)(h':SqL X.K H a ys):xs=ys:=by
 obtain⟨its,r,⟨o,n,e,_,_,d⟩,_⟩:=I.list h
 obtain⟨its',r',⟨o',n',e',_,_,d'⟩,_⟩:=I.list h'
 rw [e] at e';cases e'
 rw [d] at d'
 injection d' with d1 _
 have:its=its':=by simpa using congrArg Array.toList d1
 subst this
 exact r.inj r'
theorem Inv.tuple_inj(I:Inv X pins σ H s)(h:SqT X.K H a xs)(h':SqT X.K H a ys):xs=ys:=by
 obtain⟨its,r,⟨o,e,_,n,d⟩,_⟩:=I.tuple h
 obtain⟨its',r',⟨o',e',_,n',d'⟩,_⟩:=I.tuple h'
 rw [e] at e';cases e'
 rw [d] at d'
 injection d' with d1 _
 have:its=its':=by simpa using congrArg Array.toList d1
 subst this
 exact r.inj r'
end
abbrev Cx.wish(X:Cx)(E:Value->Shared->Prop):Cx:={X with xe:=E}
abbrev Cx.nox(X:Cx):Cx:=X.wish fun _ _=>False
theorem Cx.Ok.wish{X:Cx}(ok:X.Ok)(E:Value->Shared->Prop):(X.wish E).Ok:=
 ⟨ok.mod,ok.kind,ok.glob,ok.blt,ok.above,ok.inj,ok.has,ok.cab,ok.hd,ok.frames,ok.stk,ok.exf,ok.bs,ok.bsz,ok.noex,ok.exfs,ok.funs,ok.frf⟩
theorem Cx.Ok.unwish{X:Cx}{E:Value->Shared->Prop}(ok:(X.wish E).Ok):X.Ok:=
 ⟨ok.mod,ok.kind,ok.glob,ok.blt,ok.above,ok.inj,ok.has,ok.cab,ok.hd,ok.frames,ok.stk,ok.exf,ok.bs,ok.bsz,ok.noex,ok.exfs,ok.funs,ok.frf⟩
section
variable{X:Cx}{pins:tzB}{σ:St}{H:Hp}{s:Shared}{E:Value->Shared->Prop}
theorem Inv.wish(I:Inv X pins σ H s)(E:Value->Shared->Prop):Inv (X.wish E) pins σ H s:=⟨I.ok.wish E,I.os,I.bare,I.base,I.loc,I.cell,I.free,I.freeC,I.pin,I.hok,I.len⟩
theorem Inv.unwish(I:Inv (X.wish E) pins σ H s):Inv X pins σ H s:=⟨I.ok.unwish,I.os,I.bare,I.base,I.loc,I.cell,I.free,I.freeC,I.pin,I.hok,I.len⟩
theorem SP.unwish{D:Ends}{f:Flow}{s':Shared}(h:SP (X.wish E) pins D f s'):SP X pins D f s':=by
 cases f with
 |next=>obtain⟨σ',H',I,q⟩:=h;exact⟨σ',H',I.unwish,q⟩
 |brk=>obtain⟨σ',H',I,q⟩:=h;exact⟨σ',H',I.unwish,q⟩
 |cont=>obtain⟨σ',H',I,q⟩:=h;exact⟨σ',H',I.unwish,q⟩
 |ret u=>obtain⟨v,σ',H',I,r,q⟩:=h;exact⟨v,σ',H',I.unwish,r,q⟩
theorem PE.nox{e:Expr}{t:TE}(h:PE X.nox e t):PE X e t:=fun pins s σ H Q I hw=>
 wpAny_mono (h pins s σ H Q (I.wish _) hw) (fun _ _ ⟨v,H',I',r,q⟩=>⟨v,H',I'.unwish,r,q⟩) fun _ _ z=>False.elim z
theorem PT.nox{e:Expr}{t:TT}(h:PT X.nox e t):PT X e t:=fun pins s σ H Q I hw=>
 wpAny_mono (h pins s σ H Q (I.wish _) hw) (fun _ _ ⟨H',I',q⟩=>⟨H',I'.unwish,q⟩) fun _ _ z=>False.elim z
theorem PSs.nox{st:List Stmt}{t:TS}(h:PSs X.nox st t):PSs X st t:=fun pins s σ H D I hw=>
 wpAny_mono (h pins s σ H D (I.wish _) hw) (fun _ _ q=>q.unwish) fun _ _ z=>False.elim z
end
section
variable{X:Cx}{st:Stmt}{rest:List Stmt}{t u:TS}{e:Expr}{te:TE}{pos:Pos}
def xn4:TS:=fun D σ H=>D.nx σ H
def xq2(t u:TS):TS:=fun D σ H=>t {D with nx:=u D} σ H
theorem zg4:PSs X [] xn4:=fun _ _ σ H _ I h=>wpAny_execs_nil ⟨σ,H,I,h⟩
theorem kF(h1:PS X st t)(h2:PSs X rest u):PSs X (st::rest) (xq2 t u):=by
 intro pins s σ H D I h
 refine wpAny_execs_cons (thn (h1 pins s σ H {D with nx:=u D} I h) fun f s1 q=> ?_)
 cases f with
 |next=>
  obtain⟨σ',H',I',q⟩:=q
  exact h2 pins s1 σ' H' D I' q
 |ret v=>exact q
 |brk=>exact q
 |cont=>exact q
theorem tG(h1:PS X st t):PSs X [st] t:=by
 intro pins s σ H D I h
 refine wpAny_execs_cons (thn (h1 pins s σ H D I h) fun f s1 q=> ?_)
 cases f with
 |next=>exact wpAny_execs_nil q
 |ret v=>exact q
 |brk=>exact q
 |cont=>exact q
theorem Inv.quiet{pins:tzB}{σ:St}{H:Hp}{s:Shared}(I:Inv X pins σ H s):interactive X.env=false:=by simp [interactive,I.ok.kind]
def xn5(te:TE):TS:=fun D σ H=>te σ H fun _ H1=>D.nx σ H1
theorem zy1(he:PE X e te)(hs:swapsWith e none pos.line X.env=pure false:=by rfl):PS X (.Expr e pos) (xn5 te):=by
 intro pins s σ H D I h
 exact wpAny_Expr_any (thn (he pins s σ H _ I h) fun v s1 ⟨x,H1,I1,r1,q1⟩=>⟨σ,H1,I1,q1⟩) I.quiet hs
def xq3(te:TE):TS:=fun D σ H=>te σ H D.rt
theorem qW(he:PE X e te):PS X (.Return (some e) pos) (xq3 te):=by
 intro pins s σ H D I h
 exact wpAny_Return_some (thn (he pins s σ H _ I h) fun v s1 ⟨x,H1,I1,r1,q1⟩=>⟨x,σ,H1,I1,r1,q1⟩)
def xq4(c:TT)(t u:TS):TS:=fun D σ H=>c σ H fun b H1=>if b=true then t D σ H1 else u D σ H1
theorem za0{c:Expr}{a b:List Stmt}{tc:TT}(hc:PT X c tc)(ha:PSs X a t)(hb:PSs X b u):PS X (.If c a b pos) (xq4 tc t u):=by
 intro pins s σ H D I h
 refine wpAny_If (thn (hc pins s σ H _ I h) fun d s1 ⟨H1,I1,q1⟩=> ?_)
 cases d with
 |true=>exact ha pins s1 σ H1 D I1 q1
 |false=>exact hb pins s1 σ H1 D I1 q1
def xk3:TS:=fun _ _ _=>False
theorem yr0:PS X st xk3:=fun _ _ _ _ _ _ h=>h.elim
end
abbrev TG:=V->St->Hp->(St->Hp->Prop)->Prop
abbrev TGs:=List V->St->Hp->(St->Hp->Prop)->Prop
def PG(X:Cx)(target:Expr)(t:TG):Prop:=
 ∀(pins:tzB) (s:Shared) (σ:St) (H:Hp) (v:V) (u:Value) (Q:St->Hp->Prop),Inv X pins σ H s->dD v u->t v σ H Q->
  wpAny (model X.prog X.w) X.A (assign target X.env u) (fun _ s'=>∃σ' H',Inv X pins σ' H' s'/\Q σ' H') X.xe s
def PGs(X:Cx)(ts:List Expr)(t:TGs):Prop:=
 ∀(pins:tzB) (s:Shared) (σ:St) (H:Hp) (vs:List V) (us:List Value) (Q:St->Hp->Prop),Inv X pins σ H s->cD vs us->t vs σ H Q->
  wpAny (model X.prog X.w) X.A (assignInOrder ((assignEach ts X.env).map (·.2)) us) (fun _ s'=>∃σ' H',Inv X pins σ' H' s'/\Q σ' H') X.xe s
abbrev yx2:=V->V->V->Hp->(Hp->Prop)->Prop
def xk4(X:Cx)(t:yx2):Prop:=
 ∀(pins:tzB) (s:Shared) (σ:St) (H:Hp) (o i v:V) (ov iv u:Value) (Q:Hp->Prop),Inv X pins σ H s->dD o ov->dD i iv->dD v u->t o i v H Q->
  wpAny (model X.prog X.w) X.A (setItem ov iv u) (fun _ s'=>∃H',Inv X pins σ H' s'/\Q H') X.xe s
section
variable{X:Cx}{pos:Pos}
def oO(i:Nat):TG:=fun v σ H Q=>Q (σ.set i (some v)) H
theorem kO{i:Nat}{x:Str}(hN:X.N.Nodup)(hi:X.N[i]? =some x)(hx:Loc X.env.scope x)(hf:X.fn x=true\/X.env.scope.names.lookup x=some .local:=by first|exact .inl rfl|exact .inr rfl|assumption):PG X (.Name x pos) (oO i):=by
 intro pins s σ H v u Q I r h
 exact wpAny_assign_Name (uD I hN hi hx r (fun s' I'=>⟨_,H,I',h⟩) hf)
def yx3:TGs:=fun vs σ H Q=>vs=[]/\Q σ H
def yh4(t:TG)(u:TGs):TGs:=fun vs σ H Q=>∃v r,vs=v::r/\t v σ H fun σ' H'=>u r σ' H' Q
theorem zg5:PGs X [] yx3:=by
 intro pins s σ H vs us Q I r h
 obtain⟨e,h⟩:=h
 subst e
 cases r
 exact assignInOrder_nil ⟨σ,H,I,h⟩
theorem oX{e:Expr}{es:List Expr}{t:TG}{u:TGs}(h1:PG X e t)(h2:PGs X es u)
  (hs:(assignEach (e::es) X.env).map (·.2)=assign e X.env::(assignEach es X.env).map (·.2):=by rfl):PGs X (e::es) (yh4 t u):=by
 intro pins s σ H vs us Q I r h
 obtain⟨v,vr,e1,h⟩:=h
 subst e1
 cases r with
 |cons r rr=>
  rw [hs]
  refine assignInOrder_cons (thn (h1 pins s σ H _ _ _ I r h) fun _ s1 ⟨σ1,H1,I1,q1⟩=> ?_)
  exact h2 pins s1 σ1 H1 _ _ Q I1 rr q1
def xk5(K:tz0)(n:Nat)(t:TGs):TG:=fun v σ H Q=>∃a xs,v= .ref a/\SqT K H a xs/\xs.length=n/\t xs σ H Q
theorem xf3{es:List Expr}{k:Nat}{t:TGs}{n:Nat}(hc:X.calm=true)(h:PGs X es t)
  (hn:(assignEach es X.env).length=n:=by rfl) (hst:(assignEach es X.env).findIdx? (·.1)=none:=by rfl):PG X (.Tuple es k pos) (xk5 X.K n t):=by
 intro pins s σ H v u Q I r hw
 obtain⟨a,xs,e1,hq,hl,hw⟩:=hw
 subst e1
 cases r
 obtain⟨its,rv,ht,hz⟩:=I.tuple hq
 refine assign_Tuple_tuple (I.ok.hd hc) ht (by simp [hn,<-hl,rv.length]) hst fun h' hx=> ?_
 have I1:Inv X pins σ H {s with heap:=h'}:=I.kept (t':=s.toks) fun b o e=>hx b o (Nat.ne_of_lt (Heap.lt_size e)) e
 exact h pins _ σ H xs _ Q I1 (by simpa using rv) hw
def xq5(to ti:TE)(t:yx2):TG:=fun v σ H Q=>to σ H fun o H1=>ti σ H1 fun i H2=>t o i v H2 fun H3=>Q σ H3
theorem xf4{o i:Expr}{to ti:TE}{t:yx2}(ho:PE X o to)(hi:PE X i ti)(hs:xk4 X t)
  (ha:∀v,assign (.Subscript o i pos) X.env v=(do
   let ov<-holding [v] (eval o X.env)
   let iv<-holding [v,ov] (eval i X.env)
   standAt pos
   holding [v,ov,iv] (setItem ov iv v)
   release [v,ov,iv] []):=by intro _;rfl):PG X (.Subscript o i pos) (xq5 to ti t):=by
 intro pins s σ H v u Q I r h
 rw [ha]
 refine wpAny_bind (wpAny_holding (thn (ho pins s σ H _ I h) fun ov s1 ⟨x,H1,I1,r1,q1⟩=> ?_))
 refine wpAny_bind (wpAny_holding (thn (hi pins s1 σ H1 _ I1 q1) fun iv s2 ⟨y,H2,I2,r2,q2⟩=> ?_))
 refine wpAny_bind (wpAny_standAt (wpAny_bind (wpAny_holding (thn (hs pins s2 σ H2 x y v ov iv u _ I2 r1 r2 r q2) fun _ s3 ⟨H3,I3,q3⟩=> ?_))))
 exact wpAny_release ⟨σ,H3,I3,q3⟩
def xk6(te:TE)(g:TG):TS:=fun D σ H=>te σ H fun x H1=>g x σ H1 D.nx
theorem yj0{tg e:Expr}{te:TE}{g:TG}(he:PE X e te)(hg:PG X tg g)(hs:swapsWithSole [tg] e pos.line X.env=pure false:=by rfl)(hw:swappedStores [tg] e X.env=pure none:=by rfl)
  (h1:(assignEach [tg] X.env).map (·.2)=[assign tg X.env]:=by rfl):PS X (.Assign [tg] e pos) (xk6 te g):=by
 intro pins s σ H D I h
 refine wpAny_Assign_stores (thn (he pins s σ H _ I h) fun v s1 ⟨x,H1,I1,r1,q1⟩=> ?_) hs hw
 rw [h1]
 exact thn (hg pins s1 σ H1 x v _ I1 r1 q1) fun _ s2 q=>q
theorem qX{i:Nat}{x:Str}{e:Expr}{te:TE}{pos':Pos}(hN:X.N.Nodup)(hi:X.N[i]? =some x)(hx:Loc X.env.scope x)(he:PE X e te)(hs:swapsWith e (some (.Name x pos')) pos.line X.env=pure false:=by rfl)(hf:X.fn x=true\/X.env.scope.names.lookup x=some .local:=by first|exact .inl rfl|exact .inr rfl|assumption):
  PS X (.Assign [.Name x pos'] e pos) (xk6 te (oO i)):=by
 intro pins s σ H D I h
 refine wpAny_Assign_Name (thn (he pins s σ H _ I h) fun v s1 ⟨y,H1,I1,r1,q1⟩=> ?_) hs
 exact uD I1 hN hi hx r1 (fun s2 I2=>⟨_,H1,I2,q1⟩) hf
def xk7(c:TT)(tb:TS):TS:=fun D σ H=>∃W:Nat->St->Hp->Prop,(∃m,W m σ H)/\∀m σ H,W m σ H->
 c σ H fun b H1=>if b=true then ∃N:St->Hp->Prop,(∀σ' H',N σ' H'->∃m',m'<m/\W m' σ' H')/\tb {D with nx:=N,ct:=N,bk:=D.nx} σ H1 else D.nx σ H1
theorem yr1{c:Expr}{body:List Stmt}{tc:TT}{tb:TS}(hp:PassesOwn (model X.prog X.w) X.A X.env X.xe)(hc:PT X c tc)(hb:PSs X body tb):PS X (.While c body [] pos) (xk7 tc tb):=by
 intro pins s σ H D I h
 obtain⟨W,⟨m0,w0⟩,turn⟩:=h
 refine wpAny_While (codeAny_whileLoop (fun n s'=>∃σ' H',Inv X pins σ' H' s'/\W n σ' H') ?_ m0 ⟨σ,H,I,w0⟩)
 rintro n s1 ⟨σ1,H1,I1,w1⟩
 refine wpAny_passesOwn hp (thn (hc pins s1 σ1 H1 _ I1 (turn n σ1 H1 w1)) fun b s2 ⟨H2,I2,q2⟩=> ?_)
 cases b with
 | true=>
  obtain⟨N,hN,q2⟩:=q2
  rw [if_pos rfl]
  refine wpAny_passesOwn hp (thn (hb pins s2 σ1 H2 _ I2 q2) fun f s3 q3=> ?_)
  cases f with
  |next=>
   obtain⟨σ3,H3,I3,n3⟩:=q3
   obtain⟨m',hm,w3⟩:=hN σ3 H3 n3
   exact⟨m',hm,σ3,H3,I3,w3⟩
  |cont=>
   obtain⟨σ3,H3,I3,n3⟩:=q3
   obtain⟨m',hm,w3⟩:=hN σ3 H3 n3
   exact⟨m',hm,σ3,H3,I3,w3⟩
  |brk=>exact q3
  |ret v=>exact q3
 |false=>
  rw [if_neg Bool.false_ne_true]
  exact wpAny_execs_nil ⟨σ1,H2,I2,q2⟩
end
structure It where
 go:Nat->Hp->Prop
 yld:Nat->Hp->V->Hp->Prop
 stop:Nat->Hp->Prop
def rQ(X:Cx)(pins:tzB)(H:Hp)(b:Addr):Prop:=
 H b=none/\b≠X.env.locals/\b∉X.fs/\(b∈X.ex\/X.s₀.heap.objs.size<=b)/\(∀x c,X.env.cells.lookup x=some c->c≠b)/\∀p∈X.pn++pins,p.1≠b
theorem Inv.fpOk{X:Cx}{pins:tzB}{σ:St}{H H':Hp}{s:Shared}{b:Addr}(I:Inv X pins σ H s)(hb:s.heap.objs.size<=b)(hn:H' b=none):rQ X pins H' b:=by
 refine⟨hn,Nat.ne_of_gt (Nat.lt_of_lt_of_le I.lt hb),I.nofs hb,.inr (Nat.le_trans I.sz hb),fun x c e z=> ?_,fun p hp z=> ?_⟩
 ·obtain⟨v,q⟩:=I.cell x c e
  exact absurd (Nat.lt_of_lt_of_le q.lt (by rw [z];exact hb)) (Nat.lt_irrefl _)
 ·exact absurd (Nat.lt_of_lt_of_le (Heap.lt_size (I.pin p hp).1) (by rw [z];exact hb)) (Nat.lt_irrefl _)
structure Turn(P:Program)(w:World)(K:tz0)(tg:Expr)(J:It)(fp:List Addr)(it:Addr)(tn:Nat->Heap->Prop):Prop where
 mem:it∈fp
 obj:∀i h,tn i h->∀b∈fp,∃o,h.get? b=some o/\∀v,o.data≠ .cell v
 keep:∀i h h',tn i h->(∀b∈fp,∀o,h.get? b=some o->h'.get? b=some o)->tn i h'
 item:∀(X:Cx),X.prog=P->X.w=w->X.K=K->X.calm=true->∀(i:Nat) (pins:tzB) (s:Shared) (σ:St) (H:Hp) (E:Value->Shared->Prop),Inv X pins σ H s->(∀b∈fp,rQ X pins H b)->tn i s.heap->J.go i H->
  wpAny (model P w) X.A (pyNext (.ref it)) (fun r s1=>∃u,r=some u/\
   wpAny (model P w) X.A (letOwnedTupleGo tg (.ref it) u) (fun _ s2=>∃x H',Inv X pins σ H' s2/\dD x u/\J.yld i H x H'/\tn (i+1) s2.heap/\∀b∈fp,H' b=none) E s1) E s
 done:∀(X:Cx),X.prog=P->X.w=w->X.K=K->X.calm=true->∀(i:Nat) (pins:tzB) (s:Shared) (σ:St) (H:Hp) (E:Value->Shared->Prop),Inv X pins σ H s->(∀b∈fp,rQ X pins H b)->tn i s.heap->J.stop i H->
  wpAny (model P w) X.A (pyNext (.ref it)) (fun r s1=>r=none/\Inv X pins σ H s1) E s
 self:∀(A:Around) (i:Nat) (s:Shared) (Q:Value->Shared->Prop) (E:Value->Shared->Prop),tn i s.heap->Q (.ref it) s->wpAny (model P w) A (pyIter (.ref it)) Q E s
abbrev TI:=St->Hp->(It->Hp->Prop)->Prop
def PIE(X:Cx)(pins:tzB)(σ:St)(tg:Expr)(R:It->Hp->Prop)(itv:Value)(s2:Shared):Prop:=
 ∃(it:Addr) (fp:List Addr) (tn:Nat->Heap->Prop) (J:It) (H':Hp),itv= .ref it/\Inv X pins σ H' s2/\Turn X.prog X.w X.K tg J fp it tn/\tn 0 s2.heap/\(∀b∈fp,rQ X pins H' b)/\R J H'
def PI(X:Cx)(tg iter:Expr)(wi:TI):Prop:=
 ∀(pins:tzB) (s:Shared) (σ:St) (H:Hp) (R:It->Hp->Prop),Inv X pins σ H s->wi σ H R->
  wpAny (model X.prog X.w) X.A (eval iter X.env) (fun v s1=>wpAny (model X.prog X.w) X.A (pyIter v) (PIE X pins σ tg R) X.xe s1) X.xe s
theorem yc1{M:Model}{A:Around}{E:Value->Shared->Prop}{s:Shared}{tg:Expr}{it:Addr}{u:Value}{o:Obj}{n:String}{vs:Array Value}{Q:Unit->Shared->Prop}(ho:s.heap.get? it=some o)(hc:o.cls= .type n)(hd:o.data= .fields vs)
  (hn:["enumerate","zip","dict_itemiterator","dict_reverseitemiterator","odict_iterator","itertools.zip_longest","itertools.pairwise"].contains n=false) (hQ:Q () s):wpAny M A (letOwnedTupleGo tg (.ref it) u) Q E s:=by
 unfold letOwnedTupleGo
 cases tg<;>first
  |exact wpAny_pure hQ
  | (cases u<;>first
    |exact wpAny_pure hQ
    | (refine wpAny_bind (wpAny_load ho ?_)
       rw [hc,hd]
       show wpAny M A (if (["enumerate","zip","dict_itemiterator","dict_reverseitemiterator","odict_iterator","itertools.zip_longest","itertools.pairwise"].contains n&&vs[0]? ==some (rawInt _))=true then _ else _) Q E s
       rw [if_neg (by intro h;rw [hn,Bool.false_and] at h;cases h)]
       exact wpAny_pure hQ))
def Itl(K:tz0)(a:Addr):It:=
 ⟨fun i H=>∃xs x,SqL K H a xs/\xs[i]? =some x,fun i H x H'=>H'=H/\∀xs,SqL K H a xs->xs[i]? =some x,fun i H=>∃xs,SqL K H a xs/\xs.length<=i⟩
def Itt(K:tz0)(a:Addr):It:=
 ⟨fun i H=>∃xs x,SqT K H a xs/\xs[i]? =some x,fun i H x H'=>H'=H/\∀xs,SqT K H a xs->xs[i]? =some x,fun i H=>∃xs,SqT K H a xs/\xs.length<=i⟩
def Itr(lo:Int)(n:Nat):It:=⟨fun i _=>i<n,fun i H x H'=>H'=H/\x= .int (lo+i),fun i _=>n<=i⟩
theorem yj1{P:Program}{w:World}{K:tz0}{tg:Expr}(a it:Addr):Turn P w K tg (Itl K a) [it] it (fun i h=>h.IsListIter it a i) where
 mem:=by simp
 obj:=fun i h st b hb=>by
  have e:b=it:=by simpa using hb
  subst e
  obtain⟨o,e,c,d⟩:=st
  exact⟨o,e,fun v z=>by rw [d] at z;cases z⟩
 keep:=fun i h h' st k=>st.at fun o e=>k it (by simp) o e
 item:=by
  intro X hP hw hK hc i pins s σ H E I hf st hg
  subst hP hw hK
  obtain⟨xs,x,hq,hx⟩:=hg
  obtain⟨its,rv,p,hz⟩:=I.list hq
  obtain⟨u,hu,ru⟩:=rv.get hx
  obtain⟨f0,f1,f2,f3,f4,f5⟩:=hf it (by simp)
  refine wpAny_pyNext_list_item st p.isList (x:=u) (by simpa using hu) fun h' st' sb=> ?_
  have I1:Inv X pins σ H {s with heap:=h'}:=I.turned (t':=s.toks) (fun b o hb e=>(sb.2 b hb).trans e) f0 f1 f3 f4 f5
  obtain⟨o,e,c,d⟩:=id st'
  exact⟨u,rfl,yc1 (s:={s with heap:=h'}) e c d (by decide) ⟨x,H,I1,ru,⟨rfl,fun ys hy=>by rw [I.list_inj hy hq];exact hx⟩,st',fun b hb=>(hf b hb).1⟩⟩
 done:=by
  intro X hP hw hK hc i pins s σ H E I hf st hg
  subst hP hw hK
  obtain⟨xs,hq,hx⟩:=hg
  obtain⟨its,rv,p,hz⟩:=I.list hq
  obtain⟨f0,f1,f2,f3,f4,f5⟩:=hf it (by simp)
  have hl:=rv.length
  exact wpAny_pyNext_list_end (I.ok.hd hc) st p.isList (by simp;omega) fun h' eb=>⟨rfl,I.turned (t':=s.toks) (fun b o hb e=>eb b o hb e) f0 f1 f3 f4 f5⟩
 self:=fun _ _ _ _ _ st h=>wpAny_pyIter_listiter st h
theorem yc2{P:Program}{w:World}{K:tz0}{tg:Expr}(a it:Addr):Turn P w K tg (Itt K a) [it] it (fun i h=>h.IsTupleIter it a i) where
 mem:=by simp
 obj:=fun i h st b hb=>by
  have e:b=it:=by simpa using hb
  subst e
  obtain⟨o,e,c,d⟩:=st
  exact⟨o,e,fun v z=>by rw [d] at z;cases z⟩
 keep:=fun i h h' st k=>st.at fun o e=>k it (by simp) o e
 item:=by
  intro X hP hw hK hc i pins s σ H E I hf st hg
  subst hP hw hK
  obtain⟨xs,x,hq,hx⟩:=hg
  obtain⟨its,rv,p,hz⟩:=I.tuple hq
  obtain⟨u,hu,ru⟩:=rv.get hx
  obtain⟨f0,f1,f2,f3,f4,f5⟩:=hf it (by simp)
  refine wpAny_pyNext_tuple_item st (show s.heap.IsTuple a its.toArray from p) (x:=u) (by simpa using hu) fun h' st' sb=> ?_
  have I1:Inv X pins σ H {s with heap:=h'}:=I.turned (t':=s.toks) (fun b o hb e=>(sb.2 b hb).trans e) f0 f1 f3 f4 f5
  obtain⟨o,e,c,d⟩:=id st'
  exact⟨u,rfl,yc1 (s:={s with heap:=h'}) e c d (by decide) ⟨x,H,I1,ru,⟨rfl,fun ys hy=>by rw [I.tuple_inj hy hq];exact hx⟩,st',fun b hb=>(hf b hb).1⟩⟩
 done:=by
  intro X hP hw hK hc i pins s σ H E I hf st hg
  subst hP hw hK
  obtain⟨xs,hq,hx⟩:=hg
  obtain⟨its,rv,p,hz⟩:=I.tuple hq
  obtain⟨f0,f1,f2,f3,f4,f5⟩:=hf it (by simp)
  have hl:=rv.length
  exact wpAny_pyNext_tuple_end (I.ok.hd hc) st (show s.heap.IsTuple a its.toArray from p) (by simp;omega) fun h' eb=>⟨rfl,I.turned (t':=s.toks) (fun b o hb e=>eb b o hb e) f0 f1 f3 f4 f5⟩
 self:=fun _ _ _ _ _ st h=>wpAny_pyIter_tupleiter st h
theorem yc3{P:Program}{w:World}{K:tz0}{tg:Expr}(it:Addr)(lo:Int)(n:Nat):Turn P w K tg (Itr lo n) [it] it (fun i h=>IsRangeIter h it (lo+(i:Nat)*1) ((n:Int)-(i:Nat)) 1) where
 mem:=by simp
 obj:=fun i h st b hb=>by
  have e:b=it:=by simpa using hb
  subst e
  exact⟨_,st,fun v z=>by
   have z':Data.fields _=Data.cell v:=z
   cases z'⟩
 keep:=fun i h h' st k=>k it (by simp) _ st
 item:=by
  intro X hP hw hK hc i pins s σ H E I hf st hg
  subst hP hw hK
  obtain⟨f0,f1,f2,f3,f4,f5⟩:=hf it (by simp)
  have W:=Walks.range (prog:=X.prog) (w:=X.w) (I.ok.hd hc) it lo 1 n
  refine W.item i s _ _ hg st fun v h' tk hv st' kk=> ?_
  obtain⟨t,rfl⟩:=hv
  have I1:Inv X pins σ H {s with heap:=h',toks:=tk}:=I.turned (fun b o hb e=>kk b o (by simpa using hb) e) f0 f1 f3 f4 f5
  refine⟨_,rfl,yc1 (s:={s with heap:=h',toks:=tk}) (n:="range_iterator") st' rfl rfl (by decide) ⟨.int (lo+i),H,I1,⟨t,?_⟩,⟨rfl,rfl⟩,st',fun b hb=>(hf b hb).1⟩⟩
  rw [Int.mul_one]
 done:=by
  intro X hP hw hK hc i pins s σ H E I hf st hg
  subst hP hw hK
  obtain⟨f0,f1,f2,f3,f4,f5⟩:=hf it (by simp)
  exact wpAny_pyNext_range_end (I.ok.hd hc) st (by have:n<=i:=hg;omega) fun h' eb=>⟨rfl,I.turned (t':=s.toks) (fun b o hb e=>eb b o hb e) f0 f1 f3 f4 f5⟩
 self:=fun _ _ _ _ _ st h=>wpAny_pyIter_rangeiter st h
section
variable{X:Cx}{tg:Expr}
theorem zp4{pins:tzB}{σ:St}{H:Hp}{s:Shared}{R:It->Hp->Prop}{E:Value->Shared->Prop}{lo hi:Int}{t u v:Tok}{tk:Nat}(I:Inv X pins σ H s)(h1: -(2^62)<=lo)(h2:lo<2^62)(h3: -(2^62)<=hi)(h4:hi<2^62)
  (q:R (Itr lo (hi-lo).toNat) H):wpAny (model X.prog X.w) X.A (pyIter (.ref s.heap.objs.size)) (PIE X pins σ tg R) E {s with heap:=s.heap.push {cls:= .type "range",data:= .fields #[.int lo t,.int hi u,.int 1 v]},toks:=tk}:=by
 refine wpAny_pyIter_range (IsRange.new ..) (small_one h1 h2 h3 h4) ?_
 have I1:Inv X pins σ H {s with heap:=s.heap.push {cls:= .type "range",data:= .fields #[.int lo t,.int hi u,.int 1 v]},toks:=tk}:=I.kept fun b o e=>Heap.get?_push_of_some _ e
 refine⟨(s.heap.push {cls:= .type "range",data:= .fields #[.int lo t,.int hi u,.int 1 v]}).objs.size,[(s.heap.push {cls:= .type "range",data:= .fields #[.int lo t,.int hi u,.int 1 v]}).objs.size],_,_,H,rfl,
  I1.kept (t':=tk) fun b o e=>Heap.get?_push_of_some _ e,yc3 _ lo (hi-lo).toNat,?_,fun b hb=> ?_,q⟩
 ·have e1:lo+((0:Nat):Int)*1=lo:=by simp
  have e2:(((hi-lo).toNat:Nat):Int)-((0:Nat):Int)=Builtin.Range.rangeSize lo hi 1:=by rw [rangeSize_one];split<;>omega
  show IsRangeIter _ _ (lo+((0:Nat):Int)*1) ((((hi-lo).toNat:Nat):Int)-((0:Nat):Int)) 1
  rw [e1,e2]
  exact Heap.get?_push_size _ rfl
 ·have e:b=(s.heap.push {cls:= .type "range",data:= .fields #[.int lo t,.int hi u,.int 1 v]}).objs.size:=by simpa using hb
  subst e
  exact I1.fpOk (Nat.le_refl _) (I1.hok.fresh (Nat.le_refl _))
def xn6(ta:TA):TI:=fun σ H R=>ta σ H fun vs H1=>∃j:Int,vs=[.int j]/\ -(2^62)<=j/\j<2^62/\R (Itr 0 j.toNat) H1
def xn7(ta:TA):TI:=fun σ H R=>ta σ H fun vs H1=>∃i j:Int,vs=[.int i,.int j]/\(-(2^62)<=i/\i<2^62/\ -(2^62)<=j/\j<2^62)/\R (Itr i (j-i).toNat) H1
theorem yj2{a:Expr}{ta:TA}{p pos:Pos}(hg:Gl X "range")(hm:X.mg "range"=none)(ha:PA X [a] ta)(hs:starEach [a] X.env=[(false,eval a X.env)]:=by rfl):PI X tg (.Call (.Name "range" p) [a] [] pos) (xn6 ta):=by
 intro pins s σ H R I h
 refine Call_ (vW I hg hm boot_range (PyProof.Rows.callWith_type1 (thn (ha pos pins s σ H _ I h) fun us s1 ⟨vs,H1,I1,r1,q1⟩=> ?_) hs rfl))
 obtain⟨j,e,q1,q2,q⟩:=q1
 subst e
 cases r1 with
 |cons r rr=>
  cases rr
  obtain⟨t,rfl⟩:=r
  exact call_range_1 (zp4 I1 (by omega) (by omega) q1 q2 (by simpa using q))
theorem yj3{a b:Expr}{ta:TA}{p pos:Pos}(hg:Gl X "range")(hm:X.mg "range"=none)(ha:PA X [a,b] ta)(hs:starEach [a,b] X.env=[(false,eval a X.env),(false,eval b X.env)]:=by rfl)(hs2:starEach [b] X.env=[(false,eval b X.env)]:=by rfl):
  PI X tg (.Call (.Name "range" p) [a,b] [] pos) (xn7 ta):=by
 intro pins s σ H R I h
 refine Call_ (vW I hg hm boot_range (PyProof.Rows.callWith_type1 (thn (ha pos pins s σ H _ I h) fun us s1 ⟨vs,H1,I1,r1,q1⟩=> ?_) (by rw [hs,hs2]) (by rw [hs2];rfl)))
 obtain⟨i,j,e,⟨q1,q2,q3,q4⟩,q⟩:=q1
 subst e
 cases r1 with
 | cons r rr=>
  cases rr with
  |cons r' rr=>
   cases rr
   obtain⟨t,rfl⟩:=r
   obtain⟨t',rfl⟩:=r'
   exact call_range_2 (zp4 I1 q1 q2 q3 q4 q)
def xq6(wi:TI)(g:TG)(tb:TS):TS:=fun D σ H=>wi σ H fun J H1=>∃W:Nat->Nat->St->Hp->Prop,(∃m,W 0 m σ H1)/\∀i m σ H,W i m σ H->
 (J.stop i H/\D.nx σ H)\/(J.go i H/\∃N:St->Hp->Prop,(∀σ' H',N σ' H'->∃m',m'<m/\W (i+1) m' σ' H')/\∀x H',J.yld i H x H'->g x σ H' fun σ2 H2=>tb {D with nx:=N,ct:=N,bk:=D.nx} σ2 H2)
def tZ(fp:List Addr)(h:Heap):tzB:=fp.filterMap fun b=>(h.get? b).map fun o=>(b,o)
theorem qK{fp:List Addr}{h:Heap}{b:Addr}{o:Obj}(hb:b∈fp)(e:h.get? b=some o):(b,o)∈tZ fp h:=List.mem_filterMap.mpr ⟨b,hb,by rw [e];rfl⟩
theorem yj4{fp:List Addr}{h:Heap}{p:Addr×Obj}(hp:p∈tZ fp h):p.1∈fp/\h.get? p.1=some p.2:=by
 obtain⟨b,hb,e⟩:=List.mem_filterMap.mp hp
 cases q:h.get? b with
 |none=>rw [q] at e;cases e
 |some o=>
  rw [q] at e
  have e':(b,o)=p:=Option.some.inj e
  subst e'
  exact⟨hb,q⟩
theorem Inv.pinned{pins:tzB}{σ:St}{H:Hp}{s:Shared}{fp:List Addr}(I:Inv X pins σ H s)(hf:∀b∈fp,rQ X pins H b)(ho:∀b∈fp,∃o,s.heap.get? b=some o/\∀v,o.data≠ .cell v):Inv X (pins++tZ fp s.heap) σ H s:=
 I.pins_of fun p hp=>(List.mem_append.mp hp).elim (fun z=>I.pin p (List.mem_append_right _ z)) fun z=>by
  obtain⟨hb,e⟩:=yj4 z
  obtain⟨f0,f1,f2,_⟩:=hf p.1 hb
  obtain⟨o,e',d⟩:=ho p.1 hb
  rw [e] at e';cases e'
  exact⟨e,f0,f1,f2,d⟩
theorem Inv.unpinned{pins pl:tzB}{σ:St}{H:Hp}{s:Shared}(I:Inv X (pins++pl) σ H s):Inv X pins σ H s:=I.pins_of fun p hp=>I.pin p (List.mem_append_right _ (List.mem_append_left _ hp))
theorem zp5{iter:Expr}{body:List Stmt}{wi:TI}{g:TG}{tb:TS}{pos:Pos}(hp:PassesOwn (model X.prog X.w) X.A X.env X.xe)(hc:X.calm=true)(hi:PI X tg iter wi)(hg:PG X tg g)(hb:PSs X body tb)
  (hs:∀x,foldedSetIterable iter X.env x=pure x:=by intro _;rfl):PS X (.For tg iter body [] pos) (xq6 wi g tb):=by
 intro pins s σ H D I h
 refine wpAny_For (thn (hi pins s σ H _ I h) fun v s1 h1=>thn h1 fun itv s2 h2=> ?_) hs
 obtain⟨it,fp,tn,J,H2,e,I2,T,st2,f2,W,⟨m0,w0⟩,turn⟩:=h2
 subst e
 have stat:∀{H':Hp},(∀b∈fp,H' b=none)->∀b∈fp,rQ X pins H' b:=fun hn b hb=>⟨hn b hb,(f2 b hb).2⟩
 refine codeAny_forLoop_any (fun n s'=>∃i σ' H',Inv X pins σ' H' s'/\tn i s'.heap/\(∀b∈fp,H' b=none)/\W i n σ' H') ?_ m0 ⟨0,σ,H2,I2,st2,fun b hb=>(f2 b hb).1,w0⟩
 rintro n s3 ⟨i,σ3,H3,I3,st3,fr3,w3⟩
 rcases turn i n σ3 H3 w3 with ⟨stop,qn⟩|⟨go,N,hN,step⟩
 ·refine wpAny_passesOwn hp (thn (T.done X rfl rfl rfl hc i pins s3 σ3 H3 X.xe I3 (stat fr3) st3 stop) fun r s4 ⟨hr,I4⟩=> ?_)
  subst hr
  exact wpAny_execs_nil ⟨σ3,H3,I4,qn⟩
 ·refine wpAny_passesOwn hp (thn (T.item X rfl rfl rfl hc i pins s3 σ3 H3 X.xe I3 (stat fr3) st3 go) fun r s4 ⟨u,hr,h4⟩=> ?_)
  subst hr
  refine wpAny_passesOwn hp (thn h4 fun _ s5 ⟨x,H5,I5,r5,y5,st5,fr5⟩=> ?_)
  have I5':=I5.pinned (stat fr5) (T.obj _ _ st5)
  refine wpAny_passesOwn hp (thn (hg _ s5 σ3 H5 x u _ I5' r5 (step x H5 y5)) fun _ s6 ⟨σ6,H6,I6,q6⟩=> ?_)
  refine wpAny_passesOwn hp (thn (hb _ s6 σ6 H6 _ I6 q6) fun f s7 q7=> ?_)
  have again:∀{σ7:St} {H7:Hp},Inv X (pins++tZ fp s5.heap) σ7 H7 s7->N σ7 H7->∃m,m<n/\∃i σ' H',Inv X pins σ' H' s7/\tn i s7.heap/\(∀b∈fp,H' b=none)/\W i m σ' H':=fun {σ7 H7} I7 n7=>by
   obtain⟨m',hm,w7⟩:=hN σ7 H7 n7
   refine⟨m',hm,i+1,σ7,H7,I7.unpinned,T.keep _ _ _ st5 fun b hb o e=>(I7.pin (b,o) (List.mem_append_right _ (List.mem_append_right _ (qK hb e)))).1,fun b hb=> ?_,w7⟩
   obtain⟨o,e,d⟩:=T.obj _ _ st5 b hb
   exact(I7.pin (b,o) (List.mem_append_right _ (List.mem_append_right _ (qK hb e)))).2.1
  cases f with
  |next=>obtain⟨σ7,H7,I7,n7⟩:=q7;exact again I7 n7
  |cont=>obtain⟨σ7,H7,I7,n7⟩:=q7;exact again I7 n7
  |brk=>obtain⟨σ7,H7,I7,q7⟩:=q7;exact⟨σ7,H7,I7.unpinned,q7⟩
  |ret v=>obtain⟨x7,σ7,H7,I7,r7,q7⟩:=q7;exact⟨x7,σ7,H7,I7.unpinned,r7,q7⟩
end
abbrev R2:=V->V->Hp->VK->Prop
def OpR(X:Cx)(f:Value->Value->Sem Value)(r:R2):Prop:=
 ∀(pins:tzB) (s:Shared) (σ:St) (H:Hp) (x y:V) (v u:Value) (Q:VK),Inv X pins σ H s->dD x v->dD y u->r x y H Q->
  wpAny (model X.prog X.w) X.A (f v u) (EP X pins σ Q) X.xe s
def UnR(X:Cx)(f:Value->Sem Value)(r:V->Hp->VK->Prop):Prop:=
 ∀(pins:tzB) (s:Shared) (σ:St) (H:Hp) (x:V) (v:Value) (Q:VK),Inv X pins σ H s->dD x v->r x H Q->
  wpAny (model X.prog X.w) X.A (f v) (EP X pins σ Q) X.xe s
def fV(X:Cx)(f:Value)(r:List V->Hp->VK->Prop):Prop:=
 ∀(pins:tzB) (s:Shared) (σ:St) (H:Hp) (xs:List V) (us:List Value) (Q:VK),Inv X pins σ H s->cD xs us->r xs H Q->
  wpAny (model X.prog X.w) X.A (call f us) (EP X pins σ Q) X.xe s
def xq7(X:Cx)(r:V->Hp->(Bool->Hp->Prop)->Prop):Prop:=
 ∀(pins:tzB) (s:Shared) (σ:St) (H:Hp) (x:V) (v:Value) (Q:Bool->Hp->Prop),Inv X pins σ H s->dD x v->r x H Q->
  wpAny (model X.prog X.w) X.A (truthy v) (TP X pins σ Q) X.xe s
def tOp(r:R2)(ta tb:TE):TE:=fun σ H Q=>ta σ H fun x H1=>tb σ H1 fun y H2=>r x y H2 Q
def tUn(r:V->Hp->VK->Prop)(ta:TE):TE:=fun σ H Q=>ta σ H fun x H1=>r x H1 Q
def rI(C:Int->Int->Prop)(g:Int->Int->V):R2:=fun x y H Q=>∃i j,x= .int i/\y= .int j/\C i j/\Q (g i j) H
def rI0(g:Int->Int->V):R2:=fun x y H Q=>∃i j,x= .int i/\y= .int j/\Q (g i j) H
def rU(g:Int->V):V->Hp->VK->Prop:=fun x H Q=>∃i,x= .int i/\Q (g i) H
section
variable{X:Cx}{a b c:Expr}{ta tb tc:TE}{pos:Pos}
theorem yr2(ha:PE X a ta)(hb:PE X b tb){pins:tzB}{s:Shared}{σ:St}{H:Hp}{R:V->V->Hp->Prop}(I:Inv X pins σ H s)
  (h:ta σ H fun x H1=>tb σ H1 fun y H2=>R x y H2) {Q:Value->Shared->Prop} {f:Value->Value->Sem Value}
  (hf:∀v u s2 x y H2,Inv X pins σ H2 s2->dD x v->dD y u->R x y H2->wpAny (model X.prog X.w) X.A (f v u) Q X.xe s2):
  wpAny (model X.prog X.w) X.A (eval a X.env) (fun v s₁=>wpAny (model X.prog X.w) X.A (eval b X.env) (fun u s₂=>wpAny (model X.prog X.w) X.A (f v u) Q X.xe s₂) X.xe s₁) X.xe s:=by
 refine thn (ha pins s σ H _ I h) fun v s1 ⟨x,H1,I1,r1,q1⟩=> ?_
 refine thn (hb pins s1 σ H1 _ I1 q1) fun u s2 ⟨y,H2,I2,r2,q2⟩=> ?_
 exact hf v u s2 x y H2 I2 r1 r2 q2
theorem gY{op:Operator}{r:R2}(ho:OpR X (binaryOp op) r)(ha:PE X a ta)(hb:PE X b tb):PE X (.BinOp a op b pos) (tOp r ta tb):=by
 intro pins s σ H Q I h
 exact wpAny_BinOp (yr2 ha hb I h fun v u s2 x y H2 I2 rx ry q=>ho pins s2 σ H2 x y v u Q I2 rx ry q)
theorem xm2{op:UnaryOp}{r:V->Hp->VK->Prop}(ho:UnR X (unaryOp op) r)(ha:PE X a ta):PE X (.UnaryOp op a pos) (tUn r ta):=by
 intro pins s σ H Q I h
 exact UnaryOp_ (thn (ha pins s σ H _ I h) fun v s1 ⟨x,H1,I1,r1,q1⟩=>ho pins s1 σ H1 x v Q I1 r1 q1)
theorem opI{f:Value->Value->Sem Value}{C:Int->Int->Prop}{g:Int->Int->Int}
  (rule:∀(i j:Int) (t u:Tok) (s:Shared) (Q:Value->Shared->Prop) (E:Value->Shared->Prop),C i j->Q (.int (g i j) s.toks) {s with toks:=s.toks+1}->wpAny (model X.prog X.w) X.A (f (.int i t) (.int j u)) Q E s):
  OpR X f (rI C fun i j=> .int (g i j)):=by
 intro pins s σ H x y v u Q I rx ry h
 obtain⟨i,j,rfl,rfl,hc,q⟩:=h
 obtain⟨t,rfl⟩:=rx
 obtain⟨t',rfl⟩:=ry
 exact rule i j t t' s _ _ hc ⟨.int (g i j),H,I.tok _,⟨_,rfl⟩,q⟩
theorem yr3{f:Value->Value->Sem Value}{g:Int->Int->Int}
  (rule:∀(i j:Int) (t u:Tok) (s:Shared) (Q:Value->Shared->Prop) (E:Value->Shared->Prop),Q (.int (g i j) s.toks) {s with toks:=s.toks+1}->wpAny (model X.prog X.w) X.A (f (.int i t) (.int j u)) Q E s):
  OpR X f (rI0 fun i j=> .int (g i j)):=by
 intro pins s σ H x y v u Q I rx ry h
 obtain⟨i,j,rfl,rfl,q⟩:=h
 obtain⟨t,rfl⟩:=rx
 obtain⟨t',rfl⟩:=ry
 exact rule i j t t' s _ _ ⟨.int (g i j),H,I.tok _,⟨_,rfl⟩,q⟩
theorem yc4{f:Value->Value->Sem Value}{g:Int->Int->Bool}
  (rule:∀(i j:Int) (t u:Tok) (s:Shared) (Q:Value->Shared->Prop) (E:Value->Shared->Prop),Q (.bool (g i j)) s->wpAny (model X.prog X.w) X.A (f (.int i t) (.int j u)) Q E s):
  OpR X f (rI0 fun i j=> .bl (g i j)):=by
 intro pins s σ H x y v u Q I rx ry h
 obtain⟨i,j,rfl,rfl,q⟩:=h
 obtain⟨t,rfl⟩:=rx
 obtain⟨t',rfl⟩:=ry
 exact rule i j t t' s _ _ ⟨.bl (g i j),H,I,rfl,q⟩
def xq8(i j:Int):Prop:=0<j/\j<1073741824
def xq9(i j:Int):Prop:=0<=j/\j<=1000000/\i.natAbs<2^64
def yx4(i j:Int):Prop:=(-(2^64)<i/\i<2^64)\/(-(2^64)<j/\j<2^64)
theorem yx4.ok{i j:Int}(h:yx4 i j):IntMulOk i j:=by
 rcases h with ⟨h1,h2⟩|⟨h1,h2⟩
 ·exact .of_left (intBits_le_64 h1 h2)
 ·exact .of_right (intBits_le_64 h1 h2)
theorem yc5(k:Nat):(0:Int)<=2^k:=by
 rw [two_pow_cast]
 exact Int.natCast_nonneg _
theorem tH:OpR X (binaryOp .Add) (rI0 fun i j=> .int (i+j)):=yr3 fun _ _ _ _ _ _ _ q=>add_int q
theorem xf5:OpR X (binaryOp .Sub) (rI0 fun i j=> .int (i-j)):=yr3 fun _ _ _ _ _ _ _ q=>sub_int q
theorem oA:OpR X (binaryOp .Mult) (rI yx4 fun i j=> .int (i*j)):=opI fun _ _ _ _ _ _ _ hc q=>mul_int q hc.ok
theorem zy2:OpR X (binaryOp .FloorDiv) (rI xq8 fun i j=> .int (i/j)):=opI fun i j _ _ _ _ _ hc q=>by
 have h1:(0:Int)<j:=hc.1
 have h2:j<1073741824:=hc.2
 exact floordiv_int (by omega) (by rw [Int.fdiv_eq_ediv_of_nonneg i (by omega)];exact q) (.inl (PyProof.noPylong_small (by omega)))
theorem za1:OpR X (binaryOp .Mod) (rI (fun _ j=>0<j) fun i j=> .int (i % j)):=opI fun i j _ _ _ _ _ hc q=>by
 have h1:(0:Int)<j:=hc
 exact mod_int' (by omega) (by rw [Int.fmod_eq_emod_of_nonneg i (by omega)];exact q)
theorem xf6:OpR X (binaryOp .Pow) (rI xq9 fun i j=> .int (i^j.toNat)):=opI fun _ _ _ _ _ _ _ hc q=>pow_int_small hc.1 hc.2.1 hc.2.2 q
theorem xf7:OpR X (binaryOp .RShift) (rI (fun _ j=>0<=j) fun i j=> .int (i/2^j.toNat)):=opI fun i j _ _ _ _ _ hc q=>
 rshift_int hc (by rw [Int.fdiv_eq_ediv_of_nonneg i (yc5 _)];exact q)
theorem yj5:OpR X (binaryOp .BitAnd) (rI0 fun i j=> .int (Builtin.bitAnd i j)):=yr3 fun _ _ _ _ _ _ _ q=>and_int q
theorem unI{f:Value->Sem Value}{g:Int->Int}
  (rule:∀(i:Int) (t:Tok) (s:Shared) (Q:Value->Shared->Prop) (E:Value->Shared->Prop),Q (.int (g i) s.toks) {s with toks:=s.toks+1}->wpAny (model X.prog X.w) X.A (f (.int i t)) Q E s):
  UnR X f (rU fun i=> .int (g i)):=by
 intro pins s σ H x v Q I rx h
 obtain⟨i,rfl,q⟩:=h
 obtain⟨t,rfl⟩:=rx
 exact rule i t s _ _ ⟨.int (g i),H,I.tok _,⟨_,rfl⟩,q⟩
theorem xf8:UnR X (unaryOp .USub) (rU fun i=> .int (-i)):=unI fun _ _ _ _ _ q=>neg_int q
end
def xk8:V->V->Bool
 | .non,.non=>true| .non,.int _=>true| .int _,.non=>true| .non,.bl _=>true| .bl _,.non=>true| .non,.str _=>true| .str _,.non=>true
 | .int _,.int _=>true| .bl _,.bl _=>true| .str _,.str _=>true| .byt _,.byt _=>true
 | .int _,.str _=>true| .str _,.int _=>true| .bl _,.str _=>true| .str _,.bl _=>true
 |_,_=>false
def rEq:R2:=fun x y H Q=>xk8 x y=true/\Q (.bl (decide (x=y))) H
def rNe:R2:=fun x y H Q=>xk8 x y=true/\Q (.bl (!decide (x=y))) H
theorem zy3{i j:Int}:decide (V.int i=V.int j)=(i==j):=by
 rw [Bool.eq_iff_iff]
 simp
theorem yj6{i j:Bool}:decide (V.bl i=V.bl j)=(i==j):=by
 rw [Bool.eq_iff_iff]
 simp
theorem zy4{i j:Str}:decide (V.str i=V.str j)=(i==j):=by
 rw [Bool.eq_iff_iff]
 simp
theorem zy5{i j:Array UInt8}:decide (V.byt i=V.byt j)=(i.toList==j.toList):=by
 rw [Bool.eq_iff_iff]
 cases i
 cases j
 simp
section
variable{X:Cx}{a b c:Expr}{ta tb tc:TE}{pos:Pos}
theorem eA{pins:tzB}{σ:St}{H:Hp}{s:Shared}{Q:VK}{k k':Bool}(I:Inv X pins σ H s)(q:Q (.bl k) H)(e:k=k'):EP X pins σ Q (.bool k') s:=by
 subst e
 exact⟨.bl k,H,I,rfl,q⟩
theorem yc6:OpR X (compareOp .Eq) rEq:=by
 intro pins s σ H x y v u Q I rx ry h
 obtain⟨hs,q⟩:=h
 cases x with
 |non=>
  cases rx
  cases y with
  |non=>cases ry;exact PySem.EqNone.eq_none_none (eA I q (by simp))
  |bl j=>cases ry;exact PySem.EqNone.eq_none_bool (eA I q (by simp))
  |int j=>obtain⟨t',rfl⟩:=ry;exact PySem.EqNone.eq_none_int (eA I q (by simp))
  |str j=>obtain⟨t',rfl⟩:=ry;exact PySem.EqNone.eq_none_str (eA I q (by simp))
  |_=>exact absurd (show false=true from hs) Bool.false_ne_true
 |bl i=>
  cases rx
  cases y with
  |non=>cases ry;exact PySem.EqNone.eq_bool_none (eA I q (by simp))
  |bl j=>cases ry;exact eq_bool (eA I q yj6)
  |str j=>obtain⟨t',rfl⟩:=ry;exact PySem.EqMixed.eq_bool_str (eA I q (by simp))
  |_=>exact absurd (show false=true from hs) Bool.false_ne_true
 |int i=>
  obtain⟨t,rfl⟩:=rx
  cases y with
  |non=>cases ry;exact PySem.EqNone.eq_int_none (eA I q (by simp))
  |int j=>obtain⟨t',rfl⟩:=ry;exact eq_int (eA I q zy3)
  |str j=>obtain⟨t',rfl⟩:=ry;exact PySem.EqMixed.eq_int_str (eA I q (by simp))
  |_=>exact absurd (show false=true from hs) Bool.false_ne_true
 |str i=>
  obtain⟨t,rfl⟩:=rx
  cases y with
  |non=>cases ry;exact PySem.EqNone.eq_str_none (eA I q (by simp))
  |bl j=>cases ry;exact PySem.EqMixed.eq_str_bool (eA I q (by simp))
  |int j=>obtain⟨t',rfl⟩:=ry;exact PySem.EqMixed.eq_str_int (eA I q (by simp))
  |str j=>obtain⟨t',rfl⟩:=ry;exact eq_str (eA I q zy4)
  |_=>exact absurd (show false=true from hs) Bool.false_ne_true
 |byt i=>
  obtain⟨t,rfl⟩:=rx
  cases y with
  |byt j=>obtain⟨t',rfl⟩:=ry;exact PySem.W.eq_bytes (eA I q zy5)
  |_=>exact absurd (show false=true from hs) Bool.false_ne_true
 |_=>cases y<;>exact absurd (show false=true from hs) Bool.false_ne_true
theorem yy0:OpR X (compareOp .NotEq) rNe:=by
 intro pins s σ H x y v u Q I rx ry h
 obtain⟨hs,q⟩:=h
 cases x with
 |non=>
  cases rx
  cases y with
  |non=>cases ry;exact PySem.EqNone.ne_none_none (eA I q (by simp))
  |bl j=>cases ry;exact PySem.EqNone.ne_none_bool (eA I q (by simp))
  |int j=>obtain⟨t',rfl⟩:=ry;exact PySem.EqNone.ne_none_int (eA I q (by simp))
  |str j=>obtain⟨t',rfl⟩:=ry;exact PySem.EqNone.ne_none_str (eA I q (by simp))
  |_=>exact absurd (show false=true from hs) Bool.false_ne_true
 |bl i=>
  cases rx
  cases y with
  |non=>cases ry;exact PySem.EqNone.ne_bool_none (eA I q (by simp))
  |bl j=>cases ry;exact ne_bool (eA I q (congrArg not yj6))
  |str j=>obtain⟨t',rfl⟩:=ry;exact PySem.EqMixed.ne_bool_str (eA I q (by simp))
  |_=>exact absurd (show false=true from hs) Bool.false_ne_true
 |int i=>
  obtain⟨t,rfl⟩:=rx
  cases y with
  |non=>cases ry;exact PySem.EqNone.ne_int_none (eA I q (by simp))
  |int j=>obtain⟨t',rfl⟩:=ry;exact ne_int (eA I q (congrArg not zy3))
  |str j=>obtain⟨t',rfl⟩:=ry;exact PySem.EqMixed.ne_int_str (eA I q (by simp))
  |_=>exact absurd (show false=true from hs) Bool.false_ne_true
 |str i=>
  obtain⟨t,rfl⟩:=rx
  cases y with
  |non=>cases ry;exact PySem.EqNone.ne_str_none (eA I q (by simp))
  |bl j=>cases ry;exact PySem.EqMixed.ne_str_bool (eA I q (by simp))
  |int j=>obtain⟨t',rfl⟩:=ry;exact PySem.EqMixed.ne_str_int (eA I q (by simp))
  |str j=>obtain⟨t',rfl⟩:=ry;exact ne_str (eA I q (congrArg not zy4))
  |_=>exact absurd (show false=true from hs) Bool.false_ne_true
 |byt i=>
  obtain⟨t,rfl⟩:=rx
  cases y with
  |byt j=>obtain⟨t',rfl⟩:=ry;exact PySem.W.ne_bytes (eA I q (congrArg not zy5))
  |_=>exact absurd (show false=true from hs) Bool.false_ne_true
 |_=>cases y<;>exact absurd (show false=true from hs) Bool.false_ne_true
theorem xm3:OpR X (compareOp .Lt) (rI0 fun i j=> .bl (decide (i<j))):=yc4 fun _ _ _ _ _ _ _ q=>lt_int q
theorem xm4:OpR X (compareOp .LtE) (rI0 fun i j=> .bl (decide (i<=j))):=yc4 fun _ _ _ _ _ _ _ q=>le_int q
theorem xm5:OpR X (compareOp .Gt) (rI0 fun i j=> .bl (decide (j<i))):=yc4 fun _ _ _ _ _ _ _ q=>gt_int q
theorem xm6:OpR X (compareOp .GtE) (rI0 fun i j=> .bl (decide (j<=i))):=yc4 fun _ _ _ _ _ _ _ q=>ge_int q
theorem xf9:OpR X (compareOp .Is) (fun x y H Q=>y= .non/\Q (.bl (decide (x= .non))) H):=by
 intro pins s σ H x y v u Q I rx ry h
 obtain⟨rfl,q⟩:=h
 cases ry
 refine is_none_gen (eA I q ?_)
 cases x<;>first
  |(cases rx;rfl)
  |(obtain⟨t,rfl⟩:=rx;rfl)
theorem yz8:OpR X (compareOp .IsNot) (fun x y H Q=>y= .non/\Q (.bl (!decide (x= .non))) H):=by
 intro pins s σ H x y v u Q I rx ry h
 obtain⟨rfl,q⟩:=h
 cases ry
 refine isnot_none_gen (eA I q ?_)
 cases x<;>first
  |(cases rx;rfl)
  |(obtain⟨t,rfl⟩:=rx;rfl)
theorem bL(b:Expr){op:CmpOp}(h:op≠ .In:=by decide)(h2:op≠ .NotIn:=by decide):behindInMarks op b=false:=by
 have e1:(op==CmpOp.In)=false:=by cases op<;>first|rfl|exact absurd rfl h
 have e2:(op==CmpOp.NotIn)=false:=by cases op<;>first|rfl|exact absurd rfl h2
 cases b<;>simp [behindInMarks,e1,e2]
theorem zy6{op:CmpOp}{r:R2}(ho:OpR X (compareOp op) r)(ha:PE X a ta)(hb:PE X b tb)(hm:behindInMarks op b=false):PE X (.Compare a [op] [b] pos) (tOp r ta tb):=by
 intro pins s σ H Q I h
 exact wpAny_Compare1 (yr2 ha hb I h fun v u s2 x y H2 I2 rx ry q=>ho pins s2 σ H2 x y v u Q I2 rx ry q) hm
def xn8(t:TE):TT:=fun σ H Q=>t σ H fun x H'=>∃k,x= .bl k/\Q k H'
theorem zy7{op:CmpOp}{r:R2}(ho:OpR X (compareOp op) r)(ha:PE X a ta)(hb:PE X b tb)(hm:behindInMarks op b=false):PT X (.Compare a [op] [b] pos) (xn8 (tOp r ta tb)):=by
 intro pins s σ H Q I h
 refine wpAny_isTrue_Compare1 (thn (ha pins s σ H _ I h) fun v s1 ⟨x,H1,I1,r1,q1⟩=>thn (hb pins s1 σ H1 _ I1 q1) fun u s2 ⟨y,H2,I2,r2,q2⟩=>
  thn (ho pins s2 σ H2 x y v u _ I2 r1 r2 q2) fun c s3 ⟨z,H3,I3,r3,k,e,q3⟩=> ?_) hm
 subst e
 cases r3
 exact wpAny_truthy_bool ⟨H3,I3,q3⟩
def yx5(K:tz0)(x:V)(H:Hp)(k:Bool):Prop:=
 match x with
 | .non=>k=false
 | .bl b=>k=b
 | .int i=>k=(i !=0)
 | .str y=>y.length<=sizeLine/\k=((y.length:Int) !=0)
 | .byt y=>y.size<=sizeLine/\k=((y.size:Int) !=0)
 | .ref p=>(∃xs,SqL K H p xs/\k= !xs.isEmpty)\/(∃xs,SqT K H p xs/\k= !xs.isEmpty)\/∃kvs,H p=some (.dK kvs)/\k= !kvs.isEmpty
 |_=>False
theorem yc7{U:Type}{kvs:List (U×V)}{vs:List (U×Value)}(r:KV kvs vs):(!vs.isEmpty)= !kvs.isEmpty:=by
 cases r<;>rfl
theorem za2{xs:List V}{its:List Value}(r:cD xs its):(!its.toArray.isEmpty)= !xs.isEmpty:=by
 cases r<;>simp
theorem qY:(sizeLine:Nat)<2^63:=by rw [sizeLine_eq];decide
theorem xg0:xq7 X (fun x H Q=>∃k,yx5 X.K x H k/\Q k H):=by
 intro pins s σ H x v Q I rx h
 obtain⟨k,e,q⟩:=h
 have hl:=qY
 have hs:sizeLine=16777216:=sizeLine_eq
 cases x with
 |non=>
  cases rx
  have e':k=false:=e
  subst e'
  exact truthy_none ⟨H,I,q⟩
 |bl b=>
  cases rx
  have e':k=b:=e
  subst e'
  exact wpAny_truthy_bool ⟨H,I,q⟩
 |int i=>
  obtain⟨t,rfl⟩:=rx
  have e':k=(i !=0):=e
  subst e'
  exact PySem.P.truthy_int ⟨H,I,q⟩
 |str y=>
  obtain⟨t,rfl⟩:=rx
  obtain⟨hy,e'⟩:y.length<=sizeLine/\k=((y.length:Int) !=0):=e
  subst e'
  exact PySem.P.truthy_str (by omega) ⟨H,I.tok _,q⟩
 |byt y=>
  obtain⟨t,rfl⟩:=rx
  obtain⟨hy,e'⟩:y.size<=sizeLine/\k=((y.size:Int) !=0):=e
  subst e'
  exact PySem.W.truthy_bytes (by omega) ⟨H,I.tok _,q⟩
 | ref p=>
  cases rx
  have e':(∃xs,SqL X.K H p xs/\k= !xs.isEmpty)\/(∃xs,SqT X.K H p xs/\k= !xs.isEmpty)\/∃kvs,H p=some (.dK kvs)/\k= !kvs.isEmpty:=e
  rcases e' with ⟨xs,hx,e'⟩|⟨xs,hx,e'⟩|⟨kvs,hx,e'⟩
  ·subst e'
   obtain⟨its,r,pl,hz⟩:=I.list hx
   have hlen:=r.length
   exact wpAny_truthy_list pl.isList (by simp only [List.size_toArray];omega) ⟨H,I.tok _,by rw [za2 r];exact q⟩
  ·subst e'
   obtain⟨its,r,pl,hz⟩:=I.tuple hx
   have hlen:=r.length
   exact truthy_tuple pl (by simp only [List.size_toArray];omega) ⟨H,I.tok _,by rw [za2 r];exact q⟩
  ·subst e'
   obtain⟨hz,hS,vs,r,m⟩:kvs.length<=sizeLine/\(p==sysModules)=false/\∃vs,KV kvs vs/\s.heap.DictOf (zj6 X.prog X.w) p vs:=I.hok p _ hx
   have hlen:kvs.length=vs.length:=Paired.length r
   exact wpAny_truthy_dict hS m (by omega) ⟨H,I.tok _,by rw [yc7 r];exact q⟩
 |_=>exact(show False from e).elim
theorem zp6(ha:PE X a ta)(he:∀whole,isTrue a X.env whole=(do let v<-whole;standAt a.pos;holding [v] (truthy v))):
  PT X a (fun σ H Q=>ta σ H fun x H'=>∃k,yx5 X.K x H' k/\Q k H'):=by
 intro pins s σ H Q I h
 exact isTrue_plain (thn (ha pins s σ H _ I h) fun v s1 ⟨x,H1,I1,r1,q1⟩=>xg0 pins s1 σ H1 x v Q I1 r1 q1) (he _)
theorem yc8:OpR X (binaryOp .Add) (fun x y H Q=>∃i j,x= .str i/\y= .str j/\i.length+j.length<=sizeLine/\Q (.str (i++j)) H):=by
 intro pins s σ H x y v u Q I rx ry h
 obtain⟨i,j,rfl,rfl,hz,q⟩:=h
 obtain⟨t,rfl⟩:=rx
 obtain⟨t',rfl⟩:=ry
 exact add_str (fun t' tk=>⟨.str (i++j),H,I.tok _,⟨_,rfl⟩,q⟩) hz
theorem oB{x:V}{us:List Value}(r:cD [x] us):∃u,us=[u]/\dD x u:=by
 cases r with
 |cons r1 r2=>cases r2;exact⟨_,rfl,r1⟩
theorem yc9{x y:V}{us:List Value}(r:cD [x,y] us):∃u w',us=[u,w']/\dD x u/\dD y w':=by
 cases r with
 |cons r1 r2=>
  cases r2 with
  |cons r3 r4=>cases r4;exact⟨_,_,rfl,r1,r3⟩
theorem yj7(hc:X.calm=true):fV X (.builtin "max") (fun xs H Q=>∃i j,xs=[.int i,.int j]/\Q (.int (if j>i then j else i)) H):=by
 intro pins s σ H xs us Q I r h
 obtain⟨i,j,rfl,q⟩:=h
 obtain⟨u,w',rfl,⟨t,rfl⟩,⟨t',rfl⟩⟩:=yc9 r
 refine max_two_ints (I.ok.hd hc) fun h' tk k=>⟨_,H,I.kept k,?_,q⟩
 by_cases hj:j>i
 ·rw [if_pos hj,if_pos hj];exact⟨_,rfl⟩
 ·rw [if_neg hj,if_neg hj];exact⟨_,rfl⟩
theorem zj9:fV X (.type "int") (fun xs H Q=>(∃i,xs=[.int i]/\Q (.int i) H)\/∃k,xs=[.bl k]/\Q (.int (if k then 1 else 0)) H):=by
 intro pins s σ H xs us Q I r h
 rcases h with ⟨i,rfl,q⟩|⟨k,rfl,q⟩
 ·obtain⟨u,rfl,t,rfl⟩:=oB r
  exact call_int_int ⟨.int i,H,I,⟨_,rfl⟩,q⟩
 ·obtain⟨u,rfl,r1⟩:=oB r
  cases r1
  exact call_int_bool ⟨.int (if k then 1 else 0),H,I.tok _,⟨_,rfl⟩,q⟩
end
structure ObjM(h:Heap)(x dx C:Addr)(mA:tzA):Prop where
 obj:h.get? x=some (PySem.W.instObj C dx)
 ns:h.Ns1 dx mA
 ne:dx≠x
theorem yj8{h:Heap}{dx:Addr}{mA:tzA}(n:h.Ns1 dx mA):∃od,h.get? dx=some od/\∀name,PySem.W.lookIn name od=some (mA name):=by
 obtain⟨o,es,ep,ho,hd,hk,_,hm⟩:=n
 refine⟨o,ho,fun name=> ?_⟩
 have e:=hm name
 unfold nsFind findBy at e
 rw [<-Array.find?_toList] at e
 unfold PySem.W.lookIn
 rw [hd]
 dsimp only
 split
 ·rename_i y q
  rw [q] at e
  exact congrArg some e
 ·rename_i q
  rw [q] at e
  have a:es.toList.any (·.refKey)=false:=by
   rw [List.any_eq_false]
   intro y hy
   obtain⟨z,t,hkey⟩:=hk y (Array.mem_toList_iff.mp hy)
   simp [DictEntry.refKey,hkey]
  have a':¬es.toList.any (·.refKey)=true:=by rw [a];exact Bool.false_ne_true
  rw [if_neg a']
  exact congrArg some e
theorem ObjM.look{h:Heap}{x dx C:Addr}{mA:tzA}(I:ObjM h x dx C mA):∃od,PySem.W.InstAt h x (PySem.W.instObj C dx) C (some od)/\∀name,PySem.W.lookIn name od=some (mA name):=
 let ⟨od,ho,hl⟩:=yj8 I.ns
 ⟨od,⟨I.obj,rfl,rfl,ho⟩,hl⟩
section
variable{prog:Program}{w:World}{A:Around}{E:Value->Shared->Prop}{s:Shared}{K:tz0}{x dx C f:Addr}{mA:tzA}{name:Str}{v:Value}
theorem zy8{expr:Bool}{Q:Value->Shared->Prop}(X:K.In s.heap)(I:ObjM s.heap x dx C mA)(hg:PySem.W.plainGet K C name=true)(hh:PySem.W.hasDictIn K C=true)
  (ha:PySem.W.findIn K (.ref C) name=some none) (hv:mA name=some v) (hv':PySem.W.handedIn v=true) (h:Q v {s with toks:=s.toks+1}):
  wpAny (model prog w) A (getAttr (.ref x) name expr) Q E s:=by
 obtain⟨od,J,hl⟩:=I.look
 exact PySem.W.get_value X J (PySem.W.plainGet_of hg).1 (PySem.W.findObj_own hh ha rfl (by rw [hl,hv])) hv' h
theorem yr4{pl:Sem Bool}{Q:Value×List Value->Shared->Prop}(X:K.In s.heap)(I:ObjM s.heap x dx C mA)(hg:PySem.W.plainGet K C name=true)
  (hf:PySem.W.findIn K (.ref C) name=some (some (.ref f))) (ht:PySem.W.isFn K (.ref f)=true) (hv:mA name=none) (h:Q (.ref f,[.ref x]) s):
  wpAny (model prog w) A (getMethod (.ref x) name pl) Q E s:=by
 obtain⟨od,J,hl⟩:=I.look
 exact PySem.W.method_fn X J (PySem.W.plainGet_of hg).1 (PySem.W.plainGet_of hg).2 hf (beq_iff_eq.mp ht) (by show(PySem.W.lookIn name od).map (·.isSome)=some false;rw [hl,hv];rfl) h
theorem yz9{ns:List Str}{Q:Unit->Shared->Prop}(X:K.In s.heap)(I:ObjM s.heap x dx C mA)
  (hs:PySem.W.findIn K (.ref C) "__setattr__"=some (some (.builtin "object.__setattr__"))) (hp:PySem.W.plainOver K C=true) (ht:PySem.W.takerIn K C name=some none) (hh:PySem.W.hasDictIn K C=true)
  (hw:PySem.Within mA ns) (hsz:ns.length<=sizeLine)
  (h:∀h',ObjM h' x dx C (fun y=>if y=name then some v else mA y)->Heap.SameBut dx s.heap h'->Q () {s with heap:=h',toks:=s.toks+2}):
  wpAny (model prog w) A (setAttr (.ref x) name v) Q E s:=by
 obtain⟨od,J,hl⟩:=I.look
 refine PySem.W.set_plain X J hs (PySem.W.osa_open (s:={s with toks:=s.toks+1}) (r:=none) X J hp ht fun b=> ?_)
 obtain⟨cd,hc,hd'⟩:=PySem.W.any_some hh
 have hx:s.heap.get? x=some ⟨.ref C,some dx,.plain,#[]⟩:=I.obj
 refine wpAny_bind (wpAny_pure (wpAny_bind (wpAny_bind (wpAny_loadPart hx (wpAny_bind (PySem.W.Looks.here (s:={s with toks:=s.toks+1}) (PySem.W.looks_clsIn X hc) ?_))))))
 rw [hd']
 refine wpAny_pure (a:=some dx) (wpAny_bind (wpAny_pure (wpAny_bind ?_)))
 refine wpAny_nsSet1 (s:={s with toks:=s.toks+1}) I.ns fun h' hn2 hs2=> ?_
 obtain⟨oD,esD,epD,hoD,hdD,hcD⟩:=hn2.count (PySem.Within.cons name v hw)
 refine wpAny_bind (wpAny_lookBehind hoD (by rw [hdD];exact pastItsLine_dict (Nat.le_trans hcD (by rw [List.length_cons];omega))) ?_)
 exact wpAny_pure (h _ ⟨(hs2.2 _ (Ne.symm I.ne)).trans I.obj,hn2,I.ne⟩ hs2)
theorem yr5{R:Result->Shared->Prop}{vs:List Value}{kw:List (Str×Value)}(X:K.In s.heap)(hm:PySem.W.makesIn K C=true)
  (hi:PySem.W.findIn K (.ref C) "__init__"=some (some (.ref f))) (hf:PySem.W.typeIn K (.ref f)=some (.type "function"))
  (h:codeAny (model prog w) (A.under (.builtin "type.__call__" ⟨.ref C::vs,kw⟩)) (.call (.ref f) ⟨.ref (s.heap.objs.size+1)::vs,kw⟩) (PySem.W.InitBack (s.heap.objs.size+1) R)
   {s with heap:=(s.heap.push PySem.W.emptyDict).push (PySem.W.instObj C s.heap.objs.size)}):
  codeAny (model prog w) A (.call (.ref C) ⟨vs,kw⟩) R s:=by
 obtain⟨hh,g,d,t,os⟩:=s
 exact PySem.W.make_core (PySem.W.makes_of X hm) (PySem.W.looks_findIn X hi) (fun self=>PySem.W.bind_fn X self hf) (.inl rfl) h
end
def iQ(f:Str)(v:V):List (Str×V)->List (Str×V)
 |[]=>[(f,v)]
 |(g,x)::r=>if g=f then(g,v)::r else(g,x)::iQ f v r
theorem yT(f g:Str)(v:V):∀fs:List (Str×V),(iQ f v fs).lookup g=if g=f then some v else fs.lookup g
 | []=>by
  show List.lookup g [(f,v)]=_
  by_cases h:g=f
  ·have hb:(g==f)=true:=beq_iff_eq.mpr h
   simp only [List.lookup,hb,if_pos h]
  ·have hb:(g==f)=false:=beq_eq_false_iff_ne.mpr h
   simp only [List.lookup,hb,if_neg h]
 | (k,x)::r=>by
  have ih:=yT f g v r
  rw [show iQ f v ((k,x)::r)=(if k=f then(k,v)::r else(k,x)::iQ f v r) from rfl]
  by_cases hk:k=f
  ·rw [if_pos hk]
   by_cases h:g=k
   ·have hb:(g==k)=true:=beq_iff_eq.mpr h
    simp only [List.lookup,hb,if_pos (h.trans hk)]
   ·have hb:(g==k)=false:=beq_eq_false_iff_ne.mpr h
    simp only [List.lookup,hb,if_neg (fun e:g=f=>h (e.trans hk.symm))]
  ·rw [if_neg hk]
   by_cases h:g=k
   ·have hb:(g==k)=true:=beq_iff_eq.mpr h
    simp only [List.lookup,hb,if_neg (fun e:g=f=>hk (h.symm.trans e))]
   ·have hb:(g==k)=false:=beq_eq_false_iff_ne.mpr h
    simp only [List.lookup,hb]
    exact ih
theorem vX(f:Str)(v:V):∀fs:List (Str×V),f∈(iQ f v fs).map (·.1)/\∀g,g∈fs.map (·.1)->g∈(iQ f v fs).map (·.1)
 |[]=>⟨by simp [iQ],fun g h=>by simp at h⟩
 | (k,x)::r=>by
  obtain⟨i1,i2⟩:=vX f v r
  rw [show iQ f v ((k,x)::r)=(if k=f then(k,v)::r else(k,x)::iQ f v r) from rfl]
  by_cases hk:k=f
  ·rw [if_pos hk]
   subst hk
   exact⟨by simp,fun g h=>by simpa using h⟩
  ·rw [if_neg hk]
   refine⟨?_,fun g h=> ?_⟩
   ·rw [List.map_cons]
    exact List.mem_cons_of_mem _ i1
   ·rw [List.map_cons] at h|-
    rcases List.mem_cons.mp h with e|e
    ·exact List.mem_cons.mpr (.inl e)
    ·exact List.mem_cons_of_mem _ (i2 g e)
theorem yU(f:Str)(v:V):∀fs:List (Str×V),(iQ f v fs).length<=fs.length+1
 |[]=>by simp [iQ]
 |(k,x)::r=>by
  have ih:=yU f v r
  rw [show iQ f v ((k,x)::r)=(if k=f then(k,v)::r else(k,x)::iQ f v r) from rfl]
  by_cases hk:k=f
  ·rw [if_pos hk,List.length_cons,List.length_cons];omega
  ·rw [if_neg hk,List.length_cons,List.length_cons];omega
theorem qE.some_of{v:V}{o:Option Value}(r:qE (some v) o):∃u,o=some u/\dD v u:=by
 cases o with
 |none=>exact(show False from r).elim
 |some u=>exact⟨u,rfl,r⟩
theorem qE.none_of{o:Option Value}(r:qE none o):o=none:=by
 cases o with
 |none=>rfl
 |some u=>exact(show False from r).elim
theorem zk0{v:V}{u:Value}(r:dD v u):PySem.W.handedIn u=true:=by
 cases v with
 |non=>cases(show u=Value.none from r);rfl
 |bl b=>cases(show u=Value.bool b from r);rfl
 |int i=>obtain⟨t,e⟩:=(show ∃t,u=Value.int i t from r);cases e;rfl
 |str x=>obtain⟨t,e⟩:=(show ∃t,u=Value.str x t from r);cases e;rfl
 |byt b=>obtain⟨t,e⟩:=(show ∃t,u=Value.bytes b t from r);cases e;rfl
 |flt b=>obtain⟨t,e⟩:=(show ∃t,u=Value.float b t from r);cases e;rfl
 |ref a=>cases(show u=Value.ref a from r);rfl
 |ty n=>cases(show u=Value.type n from r);rfl
section
variable{P:Program}{w:World}{H H':Hp}{h h':Heap}{a C dx:Addr}{fs fs':List (Str×V)}
theorem xL(hok:HOk P w H h)(e:H a=some (.ins C dx fs)):∃mA,ObjM h a dx C mA/\(∀f,qE (fs.lookup f) (mA f))/\PySem.Within mA (fs.map (·.1))/\fs.length<=1000/\H dx=some (.own a):=by
 obtain⟨d,z,ne,ob,mA,n,r,q⟩:=(show fU P w H h a (.ins C dx fs) from hok a _ e)
 exact⟨mA,⟨ob,n,ne⟩,r,q,z,d⟩
end
structure Cls(K:tz0)(C:Addr):Prop where
 pg:PySem.W.plainGet K C Str.empty=true
 hd:PySem.W.hasDictIn K C=true
 po:PySem.W.plainOver K C=true
 sa:PySem.W.findIn K (.ref C) "__setattr__"=some (some (.builtin "object.__setattr__"))
theorem Cls.get{K:tz0}{C:Addr}(c:Cls K C)(f:Str):PySem.W.plainGet K C f=true:=c.pg
def cW(K:tz0)(C:Addr)(f:Str):Prop:=PySem.W.findIn K (.ref C) f=some none
theorem cW.taker{K:tz0}{C:Addr}{f:Str}(n:cW K C f):PySem.W.takerIn K C f=some none:=by
 unfold PySem.W.takerIn
 rw [show PySem.W.findIn K (.ref C) f=some none from n]
 rfl
structure Con(K:tz0)(C:Addr)(f:Str)(v:V)(u:Value):Prop where
 at_:PySem.W.findIn K (.ref C) f=some (some u)
 rel:dD v u
 get:PySem.W.specialIn K u "__get__"=some none
 cp:PySem.W.copiedNames.contains f=false
structure Meth(K:tz0)(C:Addr)(m:Str)(f:Addr):Prop where
 at_:PySem.W.findIn K (.ref C) m=some (some (.ref f))
 fn:PySem.W.isFn K (.ref f)=true
 kp:PySem.W.keepIn K (.ref f)=true
section
variable{X:Cx}{pins:tzB}{σ:St}{H:Hp}{s:Shared}{a C dx:Addr}{fs:List (Str×V)}{f:Str}{v:V}{A:Around}{E:Value->Shared->Prop}
theorem yd0{b:Bool}{Q:Value->Shared->Prop}(I:Inv X pins σ H s)(e:H a=some (.ins C dx fs))(c:Cls X.K C)(n:cW X.K C f)(l:fs.lookup f=some v)
  (h:∀u s',Inv X pins σ H s'->dD v u->Q u s'):wpAny (model X.prog X.w) A (getAttr (.ref a) f b) Q E s:=by
 obtain⟨mA,O,r,_,_,_⟩:=xL I.hok e
 obtain⟨u,hu,ru⟩:=qE.some_of (v:=v) (o:=mA f) (by rw [<-l];exact r f)
 exact zy8 I.kIn O (c.get f) c.hd n hu (zk0 ru) (h u _ (I.tok _) ru)
theorem za3{m:Str}{g:Addr}{pl:Sem Bool}{Q:Value×List Value->Shared->Prop}(I:Inv X pins σ H s)(e:H a=some (.ins C dx fs))(c:Cls X.K C)(k:Meth X.K C m g)(l:fs.lookup m=none)
  (h:Q (.ref g,[.ref a]) s):wpAny (model X.prog X.w) A (getMethod (.ref a) m pl) Q E s:=by
 obtain⟨mA,O,r,_,_,_⟩:=xL I.hok e
 have hn:mA m=none:=qE.none_of (by rw [<-l];exact r m)
 exact yr4 I.kIn O (c.get m) k.at_ k.fn hn h
theorem yd1{y:V}{u:Value}{Q:Unit->Shared->Prop}(I:Inv X pins σ H s)(e:H a=some (.ins C dx fs))(c:Cls X.K C)(n:cW X.K C f)(hl:fs.length<1000)(ry:dD y u)
  (h:∀s',Inv X pins σ (upd H a (.ins C dx (iQ f y fs))) s'->Q () s'):wpAny (model X.prog X.w) A (setAttr (.ref a) f u) Q E s:=by
 obtain⟨mA,O,r,wi,_,ho⟩:=xL I.hok e
 have hz:(fs.map (·.1)).length<=sizeLine:=by rw [List.length_map,sizeLine_eq];omega
 refine yz9 I.kIn O c.sa c.po n.taker c.hd wi hz fun h' O' sb=>h _ ?_
 have hd:∃o,h'.get? dx=some o:=let ⟨o,_,_,e',_⟩:=O'.ns;⟨o,e'⟩
 refine I.write (x:=a) (e:=dx) (by rw [e];exact True.intro) (.inr ho) (fun b q hb z=>(sb.2 b hb).trans z) hd ?_
 refine⟨by rw [dC O.ne];exact ho,?_,O.ne,O'.obj,_,O'.ns,fun g=> ?_,fun g hg=> ?_⟩
 ·have:=yU f y fs;omega
 ·show qE ((iQ f y fs).lookup g) (if g=f then some u else mA g)
  rw [yT]
  by_cases q:g=f
  ·rw [if_pos q,if_pos q];exact ry
  ·rw [if_neg q,if_neg q];exact r g
 ·by_cases q:g=f
  ·rw [q];exact(vX f y fs).1
  ·refine(vX f y fs).2 g (wi g fun z=>hg ?_)
   show(if g=f then some u else mA g)=none
   rw [if_neg q];exact z
theorem Inv.made(I:Inv X pins σ H s):Inv X pins σ (upd (upd H s.heap.objs.size (.own (s.heap.objs.size+1))) (s.heap.objs.size+1) (.ins C s.heap.objs.size []))
  {s with heap:=(s.heap.push PySem.W.emptyDict).push (PySem.W.instObj C s.heap.objs.size)}:=by
 have e1:(s.heap.push PySem.W.emptyDict).get? s.heap.objs.size=some PySem.W.emptyDict:=Heap.get?_push_size s.heap rfl
 have e2:((s.heap.push PySem.W.emptyDict).push (PySem.W.instObj C s.heap.objs.size)).get? (s.heap.objs.size+1)=some (PySem.W.instObj C s.heap.objs.size):=by
  have:=Heap.get?_push_size (s.heap.push PySem.W.emptyDict) (o:=PySem.W.instObj C s.heap.objs.size) rfl
  rwa [Heap.size_push] at this
 have e3:(s.heap.push PySem.W.emptyDict).Ns s.heap.objs.size (fun _=>none):=⟨PySem.W.emptyDict,#[],_,e1,rfl,(fun e he=>absurd he (by simp)),fun _=>rfl⟩
 have I1:=I.laid (a:=s.heap.objs.size) (o:= .own (s.heap.objs.size+1)) (h':=s.heap.push PySem.W.emptyDict) (t':=s.toks) (fun b u q=>Heap.get?_push_of_some _ q) (Nat.le_refl _) ⟨_,e1⟩
 refine I1.laid (a:=s.heap.objs.size+1) (o:= .ins C s.heap.objs.size []) (t':=s.toks) (fun b u q=>Heap.get?_push_of_some _ q) (Nat.le_of_eq (Heap.size_push _ _)) ?_
 have ne:s.heap.objs.size≠s.heap.objs.size+1:=Nat.ne_of_lt (Nat.lt_succ_self _)
 refine⟨by rw [dC ne,eM],Nat.zero_le _,ne,e2,fun _=>none,(Heap.Ns1.of_empty e3).at fun o q=>Heap.get?_push_of_some _ q,fun _=>True.intro,fun y hy=>absurd rfl hy⟩
theorem zy9{prog:Program}{w:World}{env:Env}{e:Expr}{f:Str}{pos:Pos}{s:Shared}{Q:Value->Shared->Prop}(hb:attributeBase e f env (eval e env)=eval e env)
  (h:wpAny (model prog w) A (eval e env) (fun o s₁=>wpAny (model prog w) A (getAttr o f true) Q E s₁) E s):wpAny (model prog w) A (eval (.Attribute e f pos) env) Q E s:=
 Attribute_any_ h (by rw [arm_eval_Attribute,hb])
end
def xr0(K:tz0)(ta:TE)(f:Str):TE:=fun σ H Q=>ta σ H fun x H1=>∃a C dx fs v,x= .ref a/\H1 a=some (.ins C dx fs)/\Cls K C/\cW K C f/\fs.lookup f=some v/\Q v H1
def xr1(K:tz0)(ta tv:TE)(f:Str):TS:=fun D σ H=>tv σ H fun y H1=>ta σ H1 fun x H2=>∃a C dx fs,x= .ref a/\H2 a=some (.ins C dx fs)/\Cls K C/\cW K C f/\fs.length<1000/\
 D.nx σ (upd H2 a (.ins C dx (iQ f y fs)))
section
variable{X:Cx}{o e value:Expr}{f:Str}{pos pos' tpos:Pos}{ta tv:TE}
theorem xg1(he:PE X e ta)(hb:attributeBase e f X.env (eval e X.env)=eval e X.env):PE X (.Attribute e f pos) (xr0 X.K ta f):=by
 intro pins s σ H Q I h
 refine zy9 hb (thn (he pins s σ H _ I h) fun u s1 ⟨x,H1,I1,rx,a,C,dx,fs,v,ex,ea,c,n,l,q⟩=> ?_)
 subst ex
 obtain rfl:u=Value.ref a:=rx
 exact yd0 I1 ea c n l fun u' s2 I2 ru=>⟨v,H1,I2,ru,q⟩
theorem xg2(ha:PE X o ta)(hv:PE X value tv)(hs:swapsWith value (some (.Attribute o f pos')) pos.line X.env=pure false):PS X (.Assign [.Attribute o f pos'] value pos) (xr1 X.K ta tv f):=by
 intro pins s σ H D I h
 refine plainObj_wpAny_Assign_Attribute (thn (hv pins s σ H _ I h) fun u s1 ⟨y,H1,I1,ry,q⟩=>thn (ha pins s1 σ H1 _ I1 q) fun ov s2 ⟨x,H2,I2,rx,a,C,dx,fs,ex,ea,c,n,l,q2⟩=> ?_) hs
 subst ex
 obtain rfl:ov=Value.ref a:=rx
 exact yd1 I2 ea c n l ry fun s3 I3=>⟨σ,_,I3,q2⟩
end
section
variable{X:Cx}{pins:tzB}{σ:St}{H:Hp}{s:Shared}{A:Around}{E:Value->Shared->Prop}{Q:Value->Shared->Prop}{c:Value}{b:Bool}
inductive TyOf(K:tz0)(H:Hp):V->Value->Prop where
 |non:TyOf K H .non (.type "NoneType")
 |bl (x:Bool):TyOf K H (.bl x) (.type "bool")
 |int (i:Int):TyOf K H (.int i) (.type "int")
 |str (x:Str):TyOf K H (.str x) (.type "str")
 |flt (x:UInt64):TyOf K H (.flt x) (.type "float")
 |lst {a:Addr} {xs:List V} (e:H a=some (.lst xs)):TyOf K H (.ref a) (.type "list")
 |frz {a:Addr} {o:Obj} {xs:List V} (e:H a=some (.frz o (.lst xs))):TyOf K H (.ref a) (.type "list")
 |tup {a:Addr} {xs:List V} (e:H a=some (.tup xs)):TyOf K H (.ref a) (.type "tuple")
 |dK {a:Addr} {kvs:List (Key×V)} (e:H a=some (.dK kvs)):TyOf K H (.ref a) (.type "dict")
 |dT {a:Addr} {kvs:List (List Key×V)} (e:H a=some (.dT kvs)):TyOf K H (.ref a) (.type "dict")
 | ins {a C dx:Addr} {fs:List (Str×V)} (e:H a=some (.ins C dx fs)) (cl:Cls K C) (ha:PySem.W.findIn K (.ref C) "__class__"=some (some (.builtin "object.__class__")))
   (hn:PySem.W.specialIn K (.builtin "object.__class__") "__get__"=some (some (.builtin "getset_descriptor.__get__"))) (htk:PySem.W.takesIn K (.builtin "object.__class__")=some true)
   (hm:PySem.W.mroIn K C (.type "object")=some true):TyOf K H (.ref a) (.ref C)
theorem yj9{x:V}{u t:Value}(I:Inv X pins σ H s)(rx:dD x u)(ty:TyOf X.K H x t)(e:PySem.W.kitOne X.K t c=some b)(h:∀tk,Q (.bool b) {s with toks:=tk}):
  wpAny (model X.prog X.w) A (call (.builtin "isinstance") [u,c]) Q E s:=by
 cases ty with
 |non=>cases(show u=Value.none from rx);exact PySem.W.kia_one PySem.W.kitx_none I.kIn True.intro e (fun z=>nomatch z) h
 |bl y=>cases(show u=Value.bool y from rx);exact PySem.W.kia_one PySem.W.kitx_bool I.kIn True.intro e (fun z=>nomatch z) h
 |int i=>obtain⟨t,q⟩:=(show ∃t,u=Value.int i t from rx);cases q;exact PySem.W.kia_one PySem.W.kitx_int I.kIn True.intro e (fun z=>nomatch z) h
 |str y=>obtain⟨t,q⟩:=(show ∃t,u=Value.str y t from rx);cases q;exact PySem.W.kia_one PySem.W.kitx_str I.kIn True.intro e (fun z=>nomatch z) h
 |flt y=>obtain⟨t,q⟩:=(show ∃t,u=Value.float y t from rx);cases q;exact PySem.W.kia_one PySem.W.kitx_float I.kIn True.intro e (fun z=>nomatch z) h
 | @lst a xs ea=>
  cases(show u=Value.ref a from rx)
  obtain⟨_,_,n,_,h1⟩:=(show fU X.prog X.w H s.heap a (.lst xs) from I.hok a _ ea)
  exact PySem.W.kia_one PySem.W.kitx_list I.kIn ⟨_,h1,rfl⟩ e (fun z=>nomatch z) h
 | @frz a ob xs ea=>
  cases(show u=Value.ref a from rx)
  obtain⟨_,_,_,n,_,h1⟩:=(show fU X.prog X.w H s.heap a (.frz ob (.lst xs)) from I.hok a _ ea)
  exact PySem.W.kia_one PySem.W.kitx_list I.kIn ⟨_,h1,rfl⟩ e (fun z=>nomatch z) h
 | @tup a xs ea=>
  cases(show u=Value.ref a from rx)
  obtain⟨_,_,_,p⟩:=(show fU X.prog X.w H s.heap a (.tup xs) from I.hok a _ ea)
  obtain⟨o,h1,h2,_⟩:=p
  exact PySem.W.kia_one PySem.W.kitx_tuple I.kIn ⟨o,h1,h2⟩ e (fun z=>nomatch z) h
 | @dK a kvs ea=>
  cases(show u=Value.ref a from rx)
  obtain⟨_,_,vs,_,p⟩:=(show fU X.prog X.w H s.heap a (.dK kvs) from I.hok a _ ea)
  obtain⟨o,es,ep,h1,h2,_⟩:=p
  exact PySem.W.kia_one PySem.W.kitx_dict I.kIn ⟨o,h1,h2.1⟩ e (fun z=>nomatch z) h
 | @dT a kvs ea=>
  cases(show u=Value.ref a from rx)
  obtain⟨_,_,xs,_,o,es,ep,h1,h2,_⟩:=(show fU X.prog X.w H s.heap a (.dT kvs) from I.hok a _ ea)
  exact PySem.W.kia_one PySem.W.kitx_dict I.kIn ⟨o,h1,h2.1⟩ e (fun z=>nomatch z) h
 | @ins a C dx fs ea cl ha hn htk hm=>
  cases(show u=Value.ref a from rx)
  obtain⟨mA,O,_⟩:=xL I.hok ea
  obtain⟨od,J,_⟩:=O.look
  exact PySem.W.kia_one (PySem.W.kitx_own (cl.get _) cl.hd ha hn htk hm) I.kIn J e (fun z=>nomatch z) h
end
structure Room(k:Nat)(A:Around):Prop where
 hd:A.handled=none
 dp:A.depth+3*k+5<recursionLimit
 un:A.units+16*k+200<cLine
theorem Room.mono{j k:Nat}{A:Around}(r:Room k A)(h:j<=k):Room j A:=⟨r.hd,by have:=r.dp;omega,by have:=r.un;omega⟩
theorem Room.deeper{k:Nat}{A:Around}(r:Room (k+1) A)(env:Env):Room k (A.deeper env):=
 ⟨r.hd,by have:=r.dp;show A.depth+1+3*k+5<_;omega,by have:=r.un;show A.units+3+16*k+200<_;omega⟩
theorem yd2{A:Around}{C:Addr}{us:List Value}{kw:List (Str×Value)}:(A.under (.builtin "type.__call__" ⟨.ref C::us,kw⟩)).depth=A.depth+1:=by
 first|rfl|simp [Around.under,Code.weight,Code.isCreation,Code.isGuard,Code.isCaller,Code.frames,Code.isFrame,guardIds]
theorem yd3{A:Around}{C:Addr}{us:List Value}{kw:List (Str×Value)}:(A.under (.builtin "type.__call__" ⟨.ref C::us,kw⟩)).units=A.units+1:=by
 first|rfl|simp [Around.under,Code.cUnits,Code.frames,Code.isFrame]
theorem Room.make{k:Nat}{A:Around}(r:Room (k+1) A)(C:Addr)(us:List Value)(kw:List (Str×Value)):Room k (A.under (.builtin "type.__call__" ⟨.ref C::us,kw⟩)):=
 ⟨r.hd,by have:=r.dp;rw [yd2];omega,by have:=r.un;rw [yd3];omega⟩
theorem Room.depth{k:Nat}{A:Around}(r:Room k A):A.depth<recursionLimit:=by have:=r.dp;omega
theorem Room.units{k:Nat}{A:Around}(r:Room k A):A.units+64<cLine:=by have:=r.un;omega
theorem Room.units0{k:Nat}{A:Around}(r:Room k A):A.units<cLine:=by have:=r.un;omega
def yh5:TA:=fun _ H Q=>Q [] H
def xn9(ta:TE)(tr:TA):TA:=fun σ H Q=>ta σ H fun x H1=>tr σ H1 fun xs H2=>Q (x::xs) H2
section
variable{X:Cx}{e:Expr}{es:List Expr}{te:TE}{t:TA}{pos:Pos}
theorem lE:PA X [] yh5:=fun _ _ _ _ H Q I h=>Calls.spliced_nil ⟨[],H,I,.nil,h⟩
theorem fG(ha:PE X e te)(hr:PA X es t)(hs:starEach (e::es) X.env=(false,eval e X.env)::starEach es X.env:=by rfl):PA X (e::es) (xn9 te t):=by
 intro pos pins s σ H Q I h
 rw [hs]
 show wpAny _ _ (spliced ((false,eval e X.env)::backTo pos (starEach es X.env))) _ _ s
 refine Calls.spliced_cons (thn (ha pins s σ H _ I h) fun u s1 ⟨x,H1,I1,r1,q1⟩=> ?_)
 exact thn (hr pos pins s1 σ H1 _ I1 q1) fun us s2 ⟨xs,H2,I2,r2,q2⟩=>⟨x::xs,H2,I2,.cons r1 r2,q2⟩
def xr2(t:TA):TE:=fun σ H Q=>t σ H fun xs H1=>xs.length<=sizeLine/\∀p,H1 p=none->Q (.ref p) (upd H1 p (.tup xs))
def xr3(t:TA):TE:=fun σ H Q=>t σ H fun xs H1=>xs.length<=sizeLine/\∀p,H1 p=none->Q (.ref p) (upd H1 p (.lst xs))
theorem yk0{x1}(h:PA X es t):PE X (.Tuple es x1 pos) (xr2 t):=by
 intro pins s σ H Q I hq
 refine wpAny_Tuple_spliced (thn (h pos pins s σ H _ I hq) fun us s1 ⟨xs,H1,I1,r,z,q⟩=>⟨by rw [<-r.length];exact z,?_⟩)
 have hf:H1 s1.heap.objs.size=none:=I1.hok.fresh (Nat.le_refl _)
 refine⟨.ref s1.heap.objs.size,upd H1 s1.heap.objs.size (.tup xs),I1.laid (t':=s1.toks) (fun b u e=>Heap.get?_push_of_some _ e) (Nat.le_refl _) ?_,rfl,q _ hf⟩
 exact⟨z,us,r,⟨_,Heap.get?_push_size _ rfl,rfl,_,rfl⟩⟩
theorem xg3(h:PA X es t):PE X (.List es pos) (xr3 t):=by
 intro pins s σ H Q I hq
 refine wpAny_List_spliced (thn (h pos pins s σ H _ I hq) fun us s1 ⟨xs,H1,I1,r,z,q⟩=>⟨by rw [<-r.length];exact z,?_⟩)
 have hf:H1 s1.heap.objs.size=none:=I1.hok.fresh (Nat.le_refl _)
 refine⟨.ref s1.heap.objs.size,upd H1 s1.heap.objs.size (.lst xs),I1.laid (t':=s1.toks) (fun b u e=>Heap.get?_push_of_some _ e) (Nat.le_refl _) ?_,rfl,q _ hf⟩
 exact⟨z,us,0,r,Heap.get?_push_size _ rfl⟩
end
abbrev Sp:=List V->Hp->VK->XK->Prop
abbrev CXT:=List Env->Hp->Shared->XK->Value->Shared->Prop
structure Env0(P:Program)(w:World)(K:tz0)(mg:tzA)(base:Heap)(A:Around)(outer:List Env)(s:Shared)(H:Hp):Prop where
 frames:A.frames=some outer
 mod:Mod K mg base
 bs:∀b o,base.get? b=some o->s.heap.get? b=some o/\H b=none
 bsz:base.objs.size<=s.heap.objs.size
 funs:s.heap.FunFrames base outer
 frf:∀b∈frs outer,H b=none
 hok:HOk P w H s.heap
 bare:AllBare s.gens
def CE(outer:List Env)(P:Program)(w:World)(H:Hp)(s:Shared)(Q:VK)(u:Value)(s':Shared):Prop:=
 ∃v H',s'.os=s.os/\AllBare s'.gens/\Un (frs outer) [] H H' s.heap s'.heap/\HOk P w H' s'.heap/\dD v u/\Q v H'
def CR(CX:CXT)(outer:List Env)(P:Program)(w:World)(H:Hp)(s:Shared)(Q:VK)(E:XK)(r:Result)(s':Shared):Prop:=
 match r with
 | .ok (.ret u)=>CE outer P w H s Q u s'
 | .ok _=>False
 | .error e=>CX outer H s E e s'
structure FnOk(P:Program)(w:World)(K:tz0)(mg:tzA)(base:Heap)(CX:CXT)(k:Nat)(f:Addr)(fd:FuncData)(ps:List Str)(sp:Sp):Prop where
 len:∀vs H Q E,sp vs H Q E->vs.length=ps.length
 run:∀(A:Around) (outer:List Env) (s:Shared) (H:Hp) (args:Args) (us:List Value) (vs:List V) (Q:VK) (E:XK),Room k A->Env0 P w K mg base A outer s H->BindsTo s fd args (ps.zip us)->cD vs us->sp vs H Q E->
  codeAny (model P w) A (.call (.ref f) args) (CR CX outer P w H s Q E) s
theorem FnOk.mono{P:Program}{w:World}{K:tz0}{mg:tzA}{base:Heap}{CX:CXT}{j k:Nat}{f:Addr}{fd:FuncData}{ps:List Str}{sp:Sp}(F:FnOk P w K mg base CX j f fd ps sp)(h:j<=k):
  FnOk P w K mg base CX k f fd ps sp:=⟨F.len,fun A outer s H args us vs Q E hr=>F.run A outer s H args us vs Q E (hr.mono h)⟩
theorem FnOk.imp{P:Program}{w:World}{K:tz0}{mg:tzA}{base:Heap}{CX:CXT}{k:Nat}{f:Addr}{fd:FuncData}{ps:List Str}{sp sp':Sp}(F:FnOk P w K mg base CX k f fd ps sp)
  (h:∀vs H Q E,sp' vs H Q E->sp vs H Q E):FnOk P w K mg base CX k f fd ps sp':=
 ⟨fun vs H Q E q=>F.len vs H Q E (h _ _ _ _ q),fun A outer s H args us vs Q E hr he hb hv hs=>F.run A outer s H args us vs Q E hr he hb hv (h _ _ _ _ hs)⟩
theorem Env0.make{P:Program}{w:World}{K:tz0}{mg:tzA}{base:Heap}{A:Around}{outer:List Env}{s:Shared}{H:Hp}(e:Env0 P w K mg base A outer s H)(C:Addr)(us:List Value)(kw:List (Str×Value)):
  Env0 P w K mg base (A.under (.builtin "type.__call__" ⟨.ref C::us,kw⟩)) outer s H:=⟨by first|exact e.frames|(simpa [Around.under,Code.envs,Code.isFrame,pushEnvs] using e.frames),e.mod,e.bs,e.bsz,e.funs,e.frf,e.hok,e.bare⟩
section
variable{X:Cx}{pins:tzB}{σ:St}{H:Hp}{s s':Shared}
theorem Inv.env0(I:Inv X pins σ H s):Env0 X.prog X.w X.K X.mg X.base X.A X.stack s H:=
 ⟨I.ok.frames,I.ok.mod,I.bs,Nat.le_trans I.ok.bsz I.sz,I.stack,I.stkFree,I.hok,I.bare⟩
theorem Inv.after{Q:VK}{u:Value}(I:Inv X pins σ H s)(h:CE X.stack X.prog X.w H s Q u s'):EP X pins σ Q u s':=by
 obtain⟨v,H',os,bare,un,hok,r,q⟩:=h
 obtain⟨hh,g,d,t,os'⟩:=s'
 obtain rfl:os'=s.os:=os
 exact⟨v,H',I.call (h':=hh) (g':=g) (d':=d) (t':=t) (ch:=[]) un hok bare (fun b z=>absurd z (by simp)),r,q⟩
end
def zo5(sp:Sp)(dvs:List V)(E:XK)(t:TA):TE:=fun σ H Q=>t σ H fun vs H1=>sp (vs++dvs) H1 Q E
def yz1(C:Addr)(m:Str)(sp:Sp)(dvs:List V)(E:XK)(ta:TE)(t:TA):TE:=fun σ H Q=>ta σ H fun x H1=>∃a dx fs,x= .ref a/\H1 a=some (.ins C dx fs)/\fs.lookup m=none/\
 t σ H1 fun vs H2=>sp (x::(vs++dvs)) H2 Q E
def xo0(C:Addr)(sp:Sp)(dvs:List V)(E:XK)(t:TA):TE:=fun σ H Q=>t σ H fun vs H1=>∀x dx,H1 x=none->H1 dx=none->dx≠x->
 sp (.ref x::(vs++dvs)) (upd (upd H1 dx (.own x)) x (.ins C dx [])) (fun v H2=>v= .non/\Q (.ref x) H2) E
def mS(K:tz0)(fd:FuncData)(ps:List Str)(ds:List Value):Prop:=
 ∀(s:Shared) (us:List Value),K.In s.heap->(us++ds).length=ps.length->BindsTo s fd ⟨us,[]⟩ (ps.zip (us++ds))
theorem mS.all{K:tz0}{fd:FuncData}{ps:List Str}(h:∀us:List Value,us.length=ps.length->bindArgs fd ⟨us,[]⟩=pure (ps.zip us)):mS K fd ps []:=fun s us _ hl=>by
 rw [List.append_nil] at hl|-
 exact .of_eq (h us hl)
def oP(CX:CXT)(X:Cx)(E:XK):Prop:=∀(pins:tzB) (σ:St) (H:Hp) (s:Shared) (e:Value) (s':Shared),Inv X pins σ H s->CX X.stack H s E e s'->X.xe e s'
section
variable{X:Cx}{CX:CXT}{k:Nat}{f C:Addr}{fd:FuncData}{ps:List Str}{sp:Sp}{dvs:List V}{ds:List Value}{E:XK}{x m:Str}{p pos apos:Pos}{e o:Expr}{es:List Expr}{ta:TE}{t:TA}
theorem za4{pins:tzB}{σ:St}{H:Hp}{s:Shared}{Q:VK}{us:List Value}{vs:List V}(F:FnOk X.prog X.w X.K X.mg X.base CX k f fd ps sp)(hr:Room k X.A)(hb:mS X.K fd ps ds)(hd:cD dvs ds)(hx:oP CX X E)
  (I:Inv X pins σ H s) (r:cD vs us) (h:sp (vs++dvs) H Q E):wpAny (model X.prog X.w) X.A (call (.ref f) us) (EP X pins σ Q) X.xe s:=by
 have r2:cD (vs++dvs) (us++ds):=r.append hd
 have hl:(us++ds).length=ps.length:=by rw [<-r2.length];exact F.len _ _ _ _ h
 refine wpAny_call (codeAny_mono (F.run X.A X.stack s H ⟨us,[]⟩ (us++ds) (vs++dvs) Q E hr I.env0 (hb s us I.kIn hl) r2 h) fun r s' hq=> ?_)
 cases r with
 |error e=>exact hx pins σ H s e s' I hq
 |ok fl=>
  cases fl with
  |ret u=>exact I.after hq
  |next=>exact False.elim hq
  |brk=>exact False.elim hq
  |cont=>exact False.elim hq
theorem xa0(F:FnOk X.prog X.w X.K X.mg X.base CX k f fd ps sp)(hr:Room k X.A)(hg:Gl X x)(hm:X.mg x=some (.ref f))(hk:PySem.W.keepIn X.K (.ref f)=true)(hb:mS X.K fd ps ds)(hd:cD dvs ds)(hx:oP CX X E)
  (ha:PA X (e::es) t) (hdb:(x==("__debug__":Str))=false:=by decide) (he:starEach (e::es) X.env=(false,eval e X.env)::starEach es X.env:=by rfl) (hpl:(backTo pos (starEach es X.env)).any (·.1)=false:=by rfl):
  PE X (.Call (.Name x p) (e::es) [] pos) (zo5 sp dvs E t):=by
 intro pins s σ H Q I h
 refine wpAny_Call_Name_kw (oW I hg hm ?_ hdb)
 refine PySem.W.callWith_K (h₀:=X.base) I.ok.mod.kin hk (thn (ha pos pins s σ H _ I h) fun us s1 ⟨vs,H1,I1,r,q⟩=>⟨I1.kIn,?_⟩) he hpl
 exact za4 F hr hb hd hx I1 r q
theorem yr6(F:FnOk X.prog X.w X.K X.mg X.base CX k f fd ps sp)(hr:Room k X.A)(hg:Gl X x)(hm:X.mg x=some (.ref f))(hk:PySem.W.keepIn X.K (.ref f)=true)(hb:mS X.K fd ps ds)(hd:cD dvs ds)(hx:oP CX X E)
  (hdb:(x==("__debug__":Str))=false:=by decide):PE X (.Call (.Name x p) [] [] pos) (zo5 sp dvs E yh5):=by
 intro pins s σ H Q I h
 refine wpAny_Call_Name_kw (oW I hg hm ?_ hdb)
 exact PySem.W.callWith_K0 I.kIn hk (za4 (us:=[]) F hr hb hd hx I .nil h)
theorem zz0{pl:Sem Bool}(he:PE X o ta)(c:Cls X.K C)(hm:Meth X.K C m f)(F:FnOk X.prog X.w X.K X.mg X.base CX k f fd ps sp)(hr:Room k X.A)(hb:mS X.K fd ps ds)(hd:cD dvs ds)(hx:oP CX X E)(ha:PA X (e::es) t)
  (hst:starEach (e::es) X.env=(false,eval e X.env)::starEach es X.env:=by rfl) (hpl:(backTo pos (starEach es X.env)).any (·.1)=false:=by rfl)
  (ht:eval (.Call (.Attribute o m apos) (e::es) [] pos) X.env=(do
   let ov<-eval o X.env
   standAt apos.atName
   let (f,first)<-holding [ov] (getMethod ov m pl)
   callWith pos f first (backTo pos (starEach (e::es) X.env)) (backToKw pos (keywordEach [] X.env))):=by rfl):
  PE X (.Call (.Attribute o m apos) (e::es) [] pos) (yz1 C m sp dvs E ta t):=by
 intro pins s σ H Q I h
 refine PySem.W.methodCall_KW (pl:=pl) (thn (he pins s σ H _ I h) fun u s1 ⟨x,H1,I1,rx,a,dx,fs,ex,ea,l,q⟩=> ?_) ht
 subst ex
 obtain rfl:u=Value.ref a:=rx
 refine za3 I1 ea c hm l ?_
 refine PySem.W.callWith_K (first:=[.ref a]) (h₀:=X.base) I.ok.mod.kin hm.kp (thn (ha pos pins s1 σ H1 _ I1 q) fun us s2 ⟨vs,H2,I2,r,q2⟩=>⟨I2.kIn,?_⟩) hst hpl
 exact za4 (us:= .ref a::us) (vs:= .ref a::vs) F hr hb hd hx I2 (.cons rfl r) q2
theorem zp7{pl:Sem Bool}(he:PE X o ta)(c:Cls X.K C)(hm:Meth X.K C m f)(F:FnOk X.prog X.w X.K X.mg X.base CX k f fd ps sp)(hr:Room k X.A)(hb:mS X.K fd ps ds)(hd:cD dvs ds)(hx:oP CX X E)
  (ht:eval (.Call (.Attribute o m apos) [] [] pos) X.env=(do
   let ov<-eval o X.env
   standAt apos.atName
   let (f,first)<-holding [ov] (getMethod ov m pl)
   callWith pos f first (backTo pos (starEach [] X.env)) (backToKw pos (keywordEach [] X.env))):=by rfl):
  PE X (.Call (.Attribute o m apos) [] [] pos) (yz1 C m sp dvs E ta yh5):=by
 intro pins s σ H Q I h
 refine PySem.W.methodCall_KW (pl:=pl) (thn (he pins s σ H _ I h) fun u s1 ⟨x,H1,I1,rx,a,dx,fs,ex,ea,l,q⟩=> ?_) ht
 subst ex
 obtain rfl:u=Value.ref a:=rx
 refine za3 I1 ea c hm l ?_
 exact PySem.W.callWith_K0 (first:=[.ref a]) I1.kIn hm.kp (za4 (us:=[.ref a]) (vs:=[.ref a]) F hr hb hd hx I1 (.cons rfl .nil) q)
structure Mk(K:tz0)(C f:Addr):Prop where
 makes:PySem.W.makesIn K C=true
 init:PySem.W.findIn K (.ref C) "__init__"=some (some (.ref f))
 fn:PySem.W.isFn K (.ref f)=true
 kp:PySem.W.keepIn K (.ref C)=true
theorem yr7{pins:tzB}{σ:St}{H:Hp}{s:Shared}{Q:VK}{us:List Value}{vs:List V}(M:Mk X.K C f)(F:FnOk X.prog X.w X.K X.mg X.base CX k f fd ps sp)(hr:Room (k+1) X.A)(hb:mS X.K fd ps ds)(hd:cD dvs ds)
  (hx:oP CX X E) (I:Inv X pins σ H s) (r:cD vs us)
  (h:∀x dx,H x=none->H dx=none->dx≠x->sp (.ref x::(vs++dvs)) (upd (upd H dx (.own x)) x (.ins C dx [])) (fun v H2=>v= .non/\Q (.ref x) H2) E):
  wpAny (model X.prog X.w) X.A (call (.ref C) us) (EP X pins σ Q) X.xe s:=by
 have hq:=h (s.heap.objs.size+1) s.heap.objs.size (I.hok.fresh (Nat.le_succ _)) (I.hok.fresh (Nat.le_refl _)) (Nat.ne_of_lt (Nat.lt_succ_self _))
 have I2:=Inv.made (C:=C) I
 have r2:cD (V.ref (s.heap.objs.size+1)::(vs++dvs)) (Value.ref (s.heap.objs.size+1)::(us++ds)):= .cons rfl (r.append hd)
 have hl:(Value.ref (s.heap.objs.size+1)::us++ds).length=ps.length:=by
  have e:=r2.length
  rw [F.len _ _ _ _ hq] at e
  exact e.symm
 refine wpAny_call (yr5 (f:=f) I.kIn M.makes M.init (beq_iff_eq.mp M.fn) (codeAny_mono (F.run _ X.stack _ _ ⟨Value.ref (s.heap.objs.size+1)::us,[]⟩ (Value.ref (s.heap.objs.size+1)::(us++ds)) _ _ E (hr.make C us [])
  (I2.env0.make C us []) (hb _ (Value.ref (s.heap.objs.size+1)::us) I2.kIn hl) r2 hq) fun r s' hq'=> ?_))
 cases r with
 |error e=>exact hx pins σ _ _ e s' I2 hq'
 | ok fl=>
  cases fl with
  |ret u=>
   obtain⟨v,H',I3,rv,ev,q3⟩:=I2.after hq'
   subst ev
   exact⟨rv,⟨V.ref (s.heap.objs.size+1),H',I3,rfl,q3⟩⟩
  |next=>exact False.elim hq'
  |brk=>exact False.elim hq'
  |cont=>exact False.elim hq'
theorem xa1(M:Mk X.K C f)(F:FnOk X.prog X.w X.K X.mg X.base CX k f fd ps sp)(hr:Room (k+1) X.A)(hg:Gl X x)(hm:X.mg x=some (.ref C))(hb:mS X.K fd ps ds)(hd:cD dvs ds)(hx:oP CX X E)
  (ha:PA X (e::es) t) (hdb:(x==("__debug__":Str))=false:=by decide) (he:starEach (e::es) X.env=(false,eval e X.env)::starEach es X.env:=by rfl) (hpl:(backTo pos (starEach es X.env)).any (·.1)=false:=by rfl):
  PE X (.Call (.Name x p) (e::es) [] pos) (xo0 C sp dvs E t):=by
 intro pins s σ H Q I h
 refine wpAny_Call_Name_kw (oW I hg hm ?_ hdb)
 refine PySem.W.callWith_K (h₀:=X.base) I.ok.mod.kin M.kp (thn (ha pos pins s σ H _ I h) fun us s1 ⟨vs,H1,I1,r,q⟩=>⟨I1.kIn,?_⟩) he hpl
 exact yr7 M F hr hb hd hx I1 r q
end
section
variable{X:Cx}{CX:CXT}{k:Nat}{f C:Addr}{fd:FuncData}{ps ks:List Str}{sp:Sp}{E:XK}{x m:Str}{p pos apos kpos:Pos}{e o:Expr}{es:List Expr}{kws:List Keyword}{te ta:TE}{t tk:TA}{nm:Option Str}
structure KBinds(K:tz0)(fd:FuncData)(ps ks:List Str)(g:List Value->List Value->List Value)(gV:List V->List V->List V):Prop where
 to:∀(s:Shared) (us ws:List Value),K.In s.heap->(g us ws).length=ps.length->BindsTo s fd ⟨us,ks.zip ws⟩ (ps.zip (g us ws))
 rel:∀{vs:List V} {us:List Value} {zs:List V} {ws:List Value},cD vs us->cD zs ws->cD (gV vs zs) (g us ws)
variable{g:List Value->List Value->List Value}{gV:List V->List V->List V}
end
structure FnScope(N P:List Str)(sc:Scope):Prop where
 kind:sc.kind= .function
 co:sc.isCoroutine=false
 gen:sc.isGenerator=false
 nd:N.Nodup
 pre:N.take P.length=P
 par:∀x∈P,sc.names.lookup x=some .local\/sc.names.lookup x=some .cell
 nofree:∀y∈sc.names,y.2≠ .free
theorem zk1{kindOf:Str->Option NameKind}{x:Str}:∀{binds:List (Str×Value)} {m:tzA},(∀v,(x,v)∉binds)->bindL kindOf binds m x=m x
 |[],_,_=>rfl
 | (n,v)::r,m,h=>by
  unfold bindL
  rw [zk1 fun w hw=>h w (List.mem_cons_of_mem _ hw)]
  split
  ·have:x≠n:=by rintro rfl;exact h v List.mem_cons_self
   simp [this]
  ·rfl
theorem zk2{kindOf:Str->Option NameKind}{x:Str}:∀{binds:List (Str×Value)} {m:tzA},(∀v,(x,v)∉binds)->bindC kindOf binds m x=m x
 |[],_,_=>rfl
 | (n,v)::r,m,h=>by
  unfold bindC
  rw [zk2 fun w hw=>h w (List.mem_cons_of_mem _ hw)]
  split
  ·rfl
  ·have:x≠n:=by rintro rfl;exact h v List.mem_cons_self
   simp [this]
theorem zk3{kindOf:Str->Option NameKind}{x:Str}{v:Value}:∀{P:List Str} {vs:List Value} {i:Nat} {m:tzA},P.Nodup->P[i]? =some x->vs[i]? =some v->kindOf x=some .local->
  bindL kindOf (P.zip vs) m x=some v
 |[],_,_,_,_,h,_,_=>by simp at h
 |_::_,[],_,_,_,_,h,_=>by simp at h
 |p::P,w::vs,0,m,nd,h1,h2,hk=>by
  simp at h1 h2;subst h1;subst h2
  show bindL kindOf ((p,w)::P.zip vs) m p=_
  unfold bindL
  rw [zk1 fun v hv=>(List.nodup_cons.mp nd).1 (List.of_mem_zip hv).1,if_pos hk]
  simp
 |p::P,w::vs,i+1,m,nd,h1,h2,hk=>by
  show bindL kindOf ((p,w)::P.zip vs) m x=_
  unfold bindL
  exact zk3 (i:=i) (List.nodup_cons.mp nd).2 (by simpa using h1) (by simpa using h2) hk
theorem zk4{kindOf:Str->Option NameKind}{x:Str}{v:Value}:∀{P:List Str} {vs:List Value} {i:Nat} {m:tzA},P.Nodup->P[i]? =some x->vs[i]? =some v->kindOf x≠some .local->
  bindC kindOf (P.zip vs) m x=some v
 |[],_,_,_,_,h,_,_=>by simp at h
 |_::_,[],_,_,_,_,h,_=>by simp at h
 |p::P,w::vs,0,m,nd,h1,h2,hk=>by
  simp at h1 h2;subst h1;subst h2
  show bindC kindOf ((p,w)::P.zip vs) m p=_
  unfold bindC
  rw [zk2 fun v hv=>(List.nodup_cons.mp nd).1 (List.of_mem_zip hv).1,if_neg hk]
  simp
 |p::P,w::vs,i+1,m,nd,h1,h2,hk=>by
  show bindC kindOf ((p,w)::P.zip vs) m x=_
  unfold bindC
  exact zk4 (i:=i) (List.nodup_cons.mp nd).2 (by simpa using h1) (by simpa using h2) hk
def start(N:List Str)(vs:List V):St:=vs.map some++List.replicate (N.length-vs.length) none
def eT(CX:CXT)(P:Program)(w:World)(K:tz0)(mg:tzA)(base:Heap)(N:List Str)(qual:Str)(scope:Scope)(f:Addr)(cd:Value)(A:Around)(outer:List Env)(s:Shared)(H:Hp)(E:XK):Cx where
 prog:=P
 w:=w
 K:=K
 mg:=mg
 base:=base
 A:=A.deeper (envOfC qual scope s.heap.objs.size f cd)
 N:=N
 s₀:=s
 H₀:=H
 env:=envOfC qual scope s.heap.objs.size f cd
 outer:=outer
 stack:=envOfC qual scope s.heap.objs.size f cd::outer
 ex:=[]
 calm:=true
 fn:=fun _=>true
 pn:=[]
 xe:=fun e s'=>wpAny (model P w) (A.deeper (envOfC qual scope s.heap.objs.size f cd)) (leaving (envOfC qual scope s.heap.objs.size f cd) e) (fun _ s''=>CX outer H s E e s'') (fun e' s''=>CX outer H s E e' s'') s'
theorem zp8{sc:Scope}{n:Nat}{x:Str}(h:sc.names.lookup x=some .cell):∃c,(cellsFrom n sc.names []).lookup x=some c:=by
 have q:=PySem.W.cellsFrom_some sc.names n [] (.inl h)
 exact Option.isSome_iff_exists.mp q
theorem yk1{CX:CXT}{P:Program}{w:World}{K:tz0}{mg:tzA}{base:Heap}{N ps:List Str}{qual:Str}{scope:Scope}{f:Addr}{cd:Value}{A:Around}{outer:List Env}{s s1:Shared}{H:Hp}{E:XK}{us:List Value}{vs:List V}
  (S:FnScope N ps scope) (hd:A.handled=none) (e0:Env0 P w K mg base A outer s H) (hl:vs.length=ps.length) (r:cD vs us)
  (x:InCallC s s.heap.objs.size (bindL (envOfC qual scope s.heap.objs.size f cd).kindOf (ps.zip us) fun _=>none) (cellsFrom (s.heap.objs.size+1) scope.names []) (bindC (envOfC qual scope s.heap.objs.size f cd).kindOf (ps.zip us) fun _=>none) s1):
  Inv (eT CX P w K mg base N qual scope f cd A outer s H E) [] (start N vs) H s1:=by
 have hpl:ps.length<=N.length:=by have:=congrArg List.length S.pre;rw [List.length_take] at this;omega
 obtain⟨h1,tk,rfl,hk⟩:=x.done
 have noA:∀b:Addr,b∉(eT CX P w K mg base N qual scope f cd A outer s H E).ex:=fun b z=>absurd (show b∈([]:List Addr) from z) (by simp)
 refine⟨⟨e0.mod,S.kind,rfl,rfl,Nat.le_refl _,fun y z c h1 h2=> ?_,fun y hy=> ?_,fun y c _ h=> ?_,fun _=>hd,Around.frames_deeper e0.frames,.inr ⟨rfl,rfl⟩,fun b z=>absurd z (noA b),e0.bs,e0.bsz,fun b _ _=>noA b,fun b z=>absurd z (noA b),e0.funs,e0.frf⟩,
  rfl,e0.bare,Un.kept hk,⟨_,x.toInCall.ns,fun i y v h1 h2 h3=> ?_⟩,fun y c h=>⟨_,x.cell y c h⟩,e0.hok.fresh (Nat.le_refl _),fun y c h=> ?_,fun p hp=>absurd (show p∈([]:tzB) from hp) (by simp),e0.hok.kept hk,?_⟩
 ·exact name_of_addr x.apart (PySem.mem_of_lookup h1) (PySem.mem_of_lookup h2)
 ·have hy:scope.names.lookup y=some .cell\/scope.names.lookup y=some .free:=hy
  rcases hy with hy|hy
  ·exact zp8 hy
  ·exact absurd rfl (S.nofree _ (PySem.mem_of_lookup hy))
 ·exact Nat.le_of_lt (x.above y c (PySem.mem_of_lookup h))
 ·have hi:i<vs.length:=by
   unfold start at h2
   by_cases hi:i<vs.length
   ·exact hi
   ·rw [List.getElem?_append_right (by simpa using hi)] at h2
    rw [List.getElem?_replicate] at h2
    split at h2<;>cases h2
  have ha:vs[i]? =some v:=by
   unfold start at h2
   rw [List.getElem?_append_left (by simpa using hi),List.getElem?_map] at h2
   cases e:vs[i]? with
   |none=>rw [e] at h2;cases h2
   |some a=>rw [e] at h2;cases h2;rfl
  obtain⟨u,hu,rv⟩:=r.get ha
  have hp:ps[i]? =some y:=by
   rw [<-S.pre,List.getElem?_take_of_lt (by omega)];exact h1
  have ndP:ps.Nodup:=by rw [<-S.pre];exact S.nd.sublist (List.take_sublist _ _)
  refine⟨u,rv,?_⟩
  rcases S.par y (List.mem_of_getElem? hp) with k|k
  ·exact .inl ⟨k,zk3 ndP hp hu k⟩
  ·obtain⟨c,e⟩:=zp8 (n:=s.heap.objs.size+1) k
   refine .inr ⟨.inl k,c,e,?_⟩
   have q:=x.cell y c e
   rw [zk4 ndP hp hu (by show scope.names.lookup y≠_;rw [k];decide)] at q
   exact q
 ·exact e0.hok.fresh (Nat.le_of_lt (x.above y c (PySem.mem_of_lookup h)))
 ·unfold start
  show _=N.length
  rw [List.length_append,List.length_map,List.length_replicate]
  omega
theorem yd4{CX:CXT}{P:Program}{w:World}{K:tz0}{mg:tzA}{base:Heap}{k:Nat}{f:Addr}{name qual:Str}{params:Arguments}{body:List Stmt}{scope:Scope}{dV kV doc pm cdv ct oc:Value}{an od:Option Addr}
  {osl:Array (Option Value)} {N ps:List Str} {sp:Sp} (lk:K.lookup f=some ⟨oc,od,.func (PySem.W.fnOf name qual params body scope dV kV doc pm an cdv ct),osl⟩) (hcd:PySem.W.codeIn K cdv qual=true) (S:FnScope N ps scope)
  (len:∀vs H Q E,sp vs H Q E->vs.length=ps.length)
  (hbody:∀(A:Around) (outer:List Env) (s:Shared) (H:Hp) (vs:List V) (Q:VK) (E:XK),Room k (A.deeper (envOfC qual scope s.heap.objs.size f cdv))->sp vs H Q E->
   ∃t,PSs (eT CX P w K mg base N qual scope f cdv A outer s H E) body t/\t {nx:=fun _ H'=>Q .non H',rt:=Q} (start N vs) H):
  FnOk P w K mg base CX (k+1) f (PySem.W.fnOf name qual params body scope dV kV doc pm an cdv ct) ps sp:=by
 refine⟨len,fun A outer s H args us vs Q E hr e0 hb r hsp=> ?_⟩
 have hl:=len _ _ _ _ hsp
 have KX:K.In s.heap:=e0.mod.kin.keeps fun b o e=>(e0.bs b o e).1
 have lim:s.heap.NoLimit:=e0.mod.nolimit.keeps fun b o e=>(e0.bs b o e).1
 have hkind:∀y∈ps.zip us,scope.names.lookup y.1=some .local\/(scope.names.lookup y.1=some .cell/\((cellsFrom (s.heap.objs.size+1) scope.names []).lookup y.1).isSome=true):=fun⟨n,v⟩ hy=>by
  rcases S.par n (List.of_mem_zip hy).1 with q|q
  ·exact .inl q
  ·exact .inr ⟨q,PySem.W.cellsFrom_some _ _ _ (.inl q)⟩
 refine codeAny_call_function hr.depth (KX _ _ lk) rfl S.co S.gen rfl (PySem.W.codeRec_of KX hcd) (hb _ _ _ _ ?_)
 refine wpAny_newFunctionEnv_cells S.kind hkind fun env he s1 x=> ?_
 subst he
 refine⟨lim.keeps x.toInCall.keep,codeAny_func ?_⟩
 obtain⟨t,ht,hq⟩:=hbody A outer s H vs Q E (hr.deeper _) hsp
 have I:Inv (eT CX P w K mg base N qual scope f cdv A outer s H E) [] (start N vs) H s1:=yk1 S hr.hd e0 hl r x
 refine wpAny_mono (ht [] s1 (start N vs) H _ I hq) (fun fl s' hs=> ?_) fun e s' hs=>hs
 have fin:∀{σ':St} {H':Hp} {v:V} {u:Value},Inv (eT CX P w K mg base N qual scope f cdv A outer s H E) [] σ' H' s'->dD v u->Q v H'->CE outer P w H s Q u s':=
  fun {σ' H' v u} J rv q=>⟨v,H',J.os,J.bare,J.base,J.hok,rv,q⟩
 cases fl with
 |ret u=>
  obtain⟨v,σ',H',J,rv,q⟩:=hs
  exact fin J rv q
 |next=>
  obtain⟨σ',H',J,q⟩:=hs
  exact fin (v:=V.non) (u:=Value.none) J rfl q
 |brk=>
  obtain⟨_,_,_,q⟩:=hs
  exact False.elim q
 |cont=>
  obtain⟨_,_,_,q⟩:=hs
  exact False.elim q
section
variable{X:Cx}{x:Str}{p pos:Pos}{e:Expr}{es:List Expr}{t:TA}{id T:String}{r:List V->Hp->VK->Prop}
def tCB(r:List V->Hp->VK->Prop)(t:TA):TE:=fun σ H Q=>t σ H fun vs H1=>r vs H1 Q
theorem nI(hc:fV X (.builtin id) r)(hg:Gl X x)(hm:X.mg x=none)(hv:bootBuiltins x=some (.builtin id))(ha:PA X (e::es) t)(hn:x≠"__name__":=by decide)(hdb:(x==("__debug__":Str))=false:=by decide)
  (he:starEach (e::es) X.env=(false,eval e X.env)::starEach es X.env:=by rfl) (hpl:(backTo pos (starEach es X.env)).any (·.1)=false:=by rfl):PE X (.Call (.Name x p) (e::es) [] pos) (tCB r t):=by
 intro pins s σ H Q I h
 refine wpAny_Call_Name_kw (vW I hg hm hv ?_ hn hdb)
 exact PyProof.Rows.callWith_builtin1 (thn (ha pos pins s σ H _ I h) fun us s1 ⟨vs,H1,I1,r1,q1⟩=>hc pins s1 σ H1 vs us Q I1 r1 q1) he hpl
theorem yk2(hc:fV X (.type T) r)(hg:Gl X x)(hm:X.mg x=none)(hv:bootBuiltins x=some (.type T))(ha:PA X (e::es) t)(hn:x≠"__name__":=by decide)(hdb:(x==("__debug__":Str))=false:=by decide)
  (he:starEach (e::es) X.env=(false,eval e X.env)::starEach es X.env:=by rfl) (hpl:(backTo pos (starEach es X.env)).any (·.1)=false:=by rfl):PE X (.Call (.Name x p) (e::es) [] pos) (tCB r t):=by
 intro pins s σ H Q I h
 refine wpAny_Call_Name_kw (vW I hg hm hv ?_ hn hdb)
 exact PyProof.Rows.callWith_type1 (thn (ha pos pins s σ H _ I h) fun us s1 ⟨vs,H1,I1,r1,q1⟩=>hc pins s1 σ H1 vs us Q I1 r1 q1) he hpl
end
end L2
namespace HT
open PySem PyProof.Rows
section
open PySem.SeqAt
open PySem.AutoSeq1 (wpAny_loadPart')
open PySem.MeetsSeq PySem.MeetsSeq2 PySem.MeetsSeq3
end
section
variable{prog:Program}{w:World}{A:Around}{E:Value->Shared->Prop}{s:Shared}
theorem cat_tup{t b:Addr}{vs ws:List Value}{Q:Value->Shared->Prop}(ht:IsTup s.heap t vs.toArray)(hb:IsTup s.heap b ws.toArray)(hv:vs≠[])
  (h1:ws=[]->Q (.ref t) s) (h2:ws≠[]->Q (.ref s.heap.objs.size) {s with heap:=s.heap.push {cls:= .type "tuple",data:= .seq (vs++ws).toArray}})
  (hsz:vs.length+ws.length<=sizeLine):wpAny (model prog w) A (binaryOp .Add (.ref t) (.ref b)) Q E s:=by
 obtain⟨⟨cls,dd,data,sl⟩,ho,hc,n,hd⟩:=id ht
 obtain⟨⟨cls2,dd2,data2,sl2⟩,ho2,hc2,n2,hd2⟩:=id hb
 simp only at hc hd hc2 hd2
 subst hc hd hc2 hd2
 have e:vs.toArray++ws.toArray=(vs++ws).toArray:=by simp
 by_cases hw:ws=[]
 ·exact concat_meets ⟨_,ho,rfl⟩ ⟨_,ho2,rfl⟩ noFill_tuple_add seq_tuple_add PySem.F.slot_tuple_add PySem.F.entry_tuple_add (PySem.F.args_tuple_add_2 _ _)
   (tuple_addW1 t b vs.toArray ws.toArray n n2 dd dd2 sl sl2 (by simpa using hv) (by simp [hw])) ⟨ho,ho2,h1 hw⟩
 ·refine concat_meets ⟨_,ho,rfl⟩ ⟨_,ho2,rfl⟩ noFill_tuple_add seq_tuple_add PySem.F.slot_tuple_add PySem.F.entry_tuple_add (PySem.F.args_tuple_add_2 _ _)
   (tuple_addW2 t b vs.toArray ws.toArray n n2 dd dd2 sl sl2 (by simpa using hv) (by simpa using hw) (by rw [List.size_toArray,List.size_toArray];exact hsz)) ⟨ho,ho2,?_⟩
  rw [e]
  exact h2 hw
def sIx(n d:Nat):Option Int->Nat
 |none=>d
 |some v=>if v<0 then(v+(n:Int)).toNat else min v.toNat n
theorem sIx_none(n d:Nat):sIx n d none=d:=rfl
theorem sIx_nat(n d k:Nat):sIx n d (some (k:Int))=min k n:=by
 show(if (k:Int)<0 then((k:Int)+(n:Int)).toNat else min (k:Int).toNat n)=min k n
 rw [if_neg (by omega),Int.toNat_natCast]
theorem xg4(n d:Nat)(hd:d<=n)(o:Option Int):sIx n d o<=n:=by
 cases o with
 |none=>exact hd
 |some v=>
  show(if v<0 then(v+(n:Int)).toNat else min v.toNat n)<=n
  by_cases hv:v<0
  ·rw [if_pos hv];omega
  ·rw [if_neg hv];exact Nat.min_le_right _ _
theorem zz1(v:Int)(n d:Nat):(if v<0 then max (v+(n:Int)) 0 else min v (n:Int))=((sIx n d (some v):Nat):Int):=by
 show(if v<0 then max (v+(n:Int)) 0 else min v (n:Int))=(((if v<0 then(v+(n:Int)).toNat else min v.toNat n):Nat):Int)
 by_cases hv:v<0
 ·simp only [if_pos hv];omega
 ·simp only [if_neg hv];omega
theorem yd5(lo hi:Option Int)(n:Nat):Builtin.Slice.sliceAdjust lo hi 1 (n:Int)=(((sIx n 0 lo:Nat):Int),((sIx n n hi:Nat):Int)):=by
 have h1:¬((1:Int)<0):=by omega
 unfold Builtin.Slice.sliceAdjust
 simp only [h1,if_false]
 refine Prod.ext ?_ ?_
 ·cases lo with
  |none=>rfl
  |some v=>exact zz1 v n 0
 ·cases hi with
  |none=>rfl
  |some v=>exact zz1 v n n
theorem yd6(i j:Nat):Builtin.Slice.slicePlaces (i:Int) (j:Int) 1=j-i:=by
 unfold Builtin.Slice.slicePlaces
 have h1:(1:Int)>0:=by omega
 simp only [h1,if_true,Int.ediv_one]
 split<;>omega
theorem za5{v:Value}{o:Option Int}{Q:Option Int->Shared->Prop}(p:IsPart v o)(h:Q o s):wpAny (model prog w) A (Builtin.Slice.slicePartIndex v) Q E s:=by
 cases p with
 |none=>exact slicePart_none h
 |int i t=>exact slicePart_int h
theorem sliceApplied_gen{sl:Addr}{vl vu:Value}{lo hi:Option Int}{n:Nat}{Q:Int×Int×Nat->Shared->Prop}(hs:s.heap.IsSliceOf sl vl vu .none)(pl:IsPart vl lo)(pu:IsPart vu hi)
  (h:Q (((sIx n 0 lo:Nat):Int),1,sIx n n hi-sIx n 0 lo) s):wpAny (model prog w) A (Builtin.Slice.sliceApplied (.ref sl) (pure (n:Int))) Q E s:=by
 obtain⟨os,hos,hcs,hds⟩:=id hs
 unfold Builtin.Slice.sliceApplied Builtin.Slice.sliceFields
 refine wpAny_bind (wpAny_bind (wpAny_field hos hds (x:=vl) rfl (wpAny_bind (wpAny_field hos hds (x:=vu) rfl (wpAny_bind (wpAny_field hos hds (x:= .none) rfl (wpAny_pure ?_)))))))
 refine wpAny_bind (slicePart_none ?_)
 show wpAny _ _ (if ((1:Int)==0)=true then _ else _) _ _ s
 rw [if_neg (by decide)]
 refine wpAny_bind (za5 pl (wpAny_bind (za5 pu (wpAny_bind (wpAny_pure ?_)))))
 show wpAny _ _ (match Builtin.Slice.sliceAdjust lo hi 1 (n:Int) with|(lo,hi)=>pure (lo,(1:Int),Builtin.Slice.slicePlaces lo hi 1)) _ _ s
 rw [yd5 lo hi n]
 show wpAny _ _ (pure (((sIx n 0 lo:Nat):Int),(1:Int),Builtin.Slice.slicePlaces ((sIx n 0 lo:Nat):Int) ((sIx n n hi:Nat):Int) 1)) _ _ s
 rw [yd6]
 exact wpAny_pure h
theorem yr8(xs:Array Value)(i k:Nat):((List.range k).filterMap fun(m:Nat)=>xs[((i:Int)+(m:Int)*1).toNat]?).toArray=((xs.toList.drop i).take k).toArray:=by
 have e:(fun(m:Nat)=>xs[((i:Int)+(m:Int)*1).toNat]?)=fun m=>xs[i+m]? :=by
  funext m
  have:((i:Int)+(m:Int)*1).toNat=i+m:=by omega
  rw [this]
 rw [e]
 have:=pick_run xs i k
 rw [List.filterMap_map] at this
 have e2:((fun x=>xs[x]?)∘fun x=>i+x)=fun m=>xs[i+m]? :=rfl
 rw [e2] at this
 rw [this]
theorem getItem_tuple_cut{t sl:Addr}{items:Array Value}{vl vu:Value}{lo hi:Option Int}{Q:Value->Shared->Prop}(ht:IsTup s.heap t items)(hs:s.heap.IsSliceOf sl vl vu .none)(pl:IsPart vl lo)(pu:IsPart vu hi)
  (hw:¬(sIx items.size 0 lo=0/\sIx items.size items.size hi=items.size))
  (h:Q (.ref s.heap.objs.size) {s with heap:=s.heap.push {cls:= .type "tuple",data:= .seq ((items.toList.drop (sIx items.size 0 lo)).take (sIx items.size items.size hi-sIx items.size 0 lo)).toArray}})
  (hsz:items.size<=sizeLine):wpAny (model prog w) A (getItem (.ref t) (.ref sl)) Q E s:=by
 have htake:sizeOk (.seq ((items.toList.drop (sIx items.size 0 lo)).take (sIx items.size items.size hi-sIx items.size 0 lo)).toArray):=by
  show((items.toList.drop (sIx items.size 0 lo)).take (sIx items.size items.size hi-sIx items.size 0 lo)).toArray.size<=sizeLine
  rw [List.size_toArray,List.length_take,List.length_drop,Array.length_toList]
  omega
 have hj:sIx items.size items.size hi<=items.size:=xg4 _ _ (Nat.le_refl _) hi
 obtain⟨os,hos,hcs,hds⟩:=id hs
 have hTs:s.TypeIs (.ref sl) "slice":=⟨os,hos,hcs⟩
 unfold getItem
 try with_reducible refine wpAny_holding ?_
 first|refine wpAny_bind (wpAny_pure ?_)|skip
 refine wpAny_bind (wpAny_sequenceKey ht.typeIs (by decide) ?_)
 refine wpAny_bind (wpAny_callSpecial?_slot (name:=Str.ofString "__getitem__") ht.typeIs PyProof.Rows.slot_tuple_getitem
  (wpAny_call_entry PyProof.Rows.slot_tuple_getitem ht.typeIs entry_tuple_getitem ?_ (args_tuple_getitem _ _)))
 show wpAny _ _ (Builtin.Tuple.tupleItemsOf (.ref t)>>=_) _ _ s
 refine wpAny_bind (tupleItemsOf_ ht ?_)
 refine wpAny_bind (wpAny_typeOf hTs ?_)
 rw [if_pos (by decide)]
 refine wpAny_bind (sliceApplied_gen hs pl pu ?_)
 have hno:¬((((sIx items.size 0 lo:Nat):Int)==0&&(1:Int)==1&&(sIx items.size items.size hi-sIx items.size 0 lo)==items.size)=true):=by
  intro q
  rw [Bool.and_eq_true,Bool.and_eq_true] at q
  have q1:((sIx items.size 0 lo:Nat):Int)=0:=eq_of_beq q.1.1
  have q2:sIx items.size items.size hi-sIx items.size 0 lo=items.size:=eq_of_beq q.2
  exact hw ⟨by omega,by omega⟩
 show wpAny _ _ (if (((sIx items.size 0 lo:Nat):Int)==0&&(1:Int)==1&&(sIx items.size items.size hi-sIx items.size 0 lo)==items.size)=true then _ else _) _ _ s
 rw [if_neg hno,yr8]
 first
  |exact wpAny_bind (m:=Builtin.Tuple.tupleExact _) (wpAny_newObj_type (wpAny_pure ⟨_,rfl,wpAny_pure h⟩) htake)
  |exact wpAny_bind (m:=Builtin.Tuple.tupleExact _) (wpAny_newObj_type (wpAny_bind (wpAny_pure (wpAny_pure ⟨_,rfl,wpAny_pure h⟩))) htake)
  |exact wpAny_bind (wpAny_bind (m:=Builtin.Tuple.tupleExact _) (wpAny_newObj_type (wpAny_pure (wpAny_pure ⟨_,rfl,wpAny_pure h⟩)) htake))
  |exact wpAny_bind (wpAny_bind (m:=Builtin.Tuple.tupleExact _) (wpAny_newObj_type (wpAny_pure ⟨_,rfl,wpAny_pure h⟩) htake))
end
end HT
namespace L2
open PySem PySem.Spec PyProof.Rows
abbrev TO:=St->Hp->(Option Int->Hp->Prop)->Prop
def PO(X:Cx)(e:Option Expr)(t:TO):Prop:=
 ∀(pins:tzB) (s:Shared) (σ:St) (H:Hp) (Q:Option Int->Hp->Prop),Inv X pins σ H s->t σ H Q->
  wpAny (model X.prog X.w) X.A (evalPart e X.env) (fun u s'=>∃o H',Inv X pins σ H' s'/\IsPart u o/\Q o H') X.xe s
def xe1:TO:=fun _ H Q=>Q none H
def xo1(t:TE):TO:=fun σ H Q=>t σ H fun x H1=>∃i,x= .int i/\Q (some i) H1
section
variable{X:Cx}{e:Expr}{te:TE}{lo hi:Option Expr}{tl th:TO}{pos p2:Pos}
theorem xa2:PO X none xe1:=by
 intro pins s σ H Q I h
 rw [evalPart_none]
 exact wpAny_pure ⟨none,H,I,.none,h⟩
theorem xa3(h:PE X e te):PO X (some e) (xo1 te):=by
 intro pins s σ H Q I hw
 rw [evalPart_some]
 refine thn (h pins s σ H _ I hw) fun u s1 ⟨x,H1,I1,r1,q1⟩=> ?_
 obtain⟨i,rfl,q⟩:=q1
 obtain⟨t,rfl⟩:=r1
 exact⟨some i,H1,I1,.int i t,q⟩
def SlR(X:Cx)(r:V->Option Int->Option Int->Hp->VK->Prop):Prop:=
 ∀(pins:tzB) (s:Shared) (σ:St) (H:Hp) (x:V) (v vl vu:Value) (lo hi:Option Int) (sl:Addr) (Q:VK),Inv X pins σ H s->dD x v->s.heap.IsSliceOf sl vl vu .none->IsPart vl lo->IsPart vu hi->r x lo hi H Q->
  ∃T id,typeLookup (.type T) "__getitem__"=pure (some (.builtin id))/\s.TypeIs v T/\wpAny (model X.prog X.w) X.A (getItem v (.ref sl)) (EP X pins σ Q) X.xe s
def tSl(r:V->Option Int->Option Int->Hp->VK->Prop)(te:TE)(tl th:TO):TE:=fun σ H Q=>te σ H fun x H1=>tl σ H1 fun l H2=>th σ H2 fun u H3=>r x l u H3 Q
theorem yr9{r:V->Option Int->Option Int->Hp->VK->Prop}(hr:SlR X r)(he:PE X e te)(hl:PO X lo tl)(hu:PO X hi th):PE X (.Subscript e (.Slice lo hi none p2) pos) (tSl r te tl th):=by
 intro pins s σ H Q I h
 refine Subscript_ (thn (he pins s σ H _ I h) fun v s1 ⟨x,H1,I1,r1,q1⟩=> ?_)
 refine wpAny_Slice (thn (hl pins s1 σ H1 _ I1 q1) fun vl s2 ⟨l,H2,I2,pl,q2⟩=>thn (hu pins s2 σ H2 _ I2 q2) fun vu s3 ⟨u,H3,I3,pu,q3⟩=> ?_)
 rw [evalPart_none]
 refine wpAny_pure ?_
 have I4:Inv X pins σ H3 {s3 with heap:=s3.heap.push {cls:= .type "slice",data:= .fields #[vl,vu,.none]}}:=I3.kept (t':=s3.toks) fun b ob q=>Heap.get?_push_of_some _ q
 obtain⟨T,id,hT,ht,hg⟩:=hr pins {s3 with heap:=s3.heap.push {cls:= .type "slice",data:= .fields #[vl,vu,.none]}} σ H3 x v vl vu l u s3.heap.objs.size Q I4 r1 (Heap.IsSliceOf.new ..) pl pu q3
 show wpAny (model X.prog X.w) X.A (subscriptTail e (.Slice lo hi none p2) v (.ref s3.heap.objs.size)) (EP X pins σ Q) X.xe {s3 with heap:=s3.heap.push {cls:= .type "slice",data:= .fields #[vl,vu,.none]}}
 exact tail_any (ops:=[.ref s3.heap.objs.size,v]) ht hT hg (by with_unfolding_all rfl)
def zU(xs:List V)(lo hi:Option Int):List V:=(xs.drop (HT.sIx xs.length 0 lo)).take (HT.sIx xs.length xs.length hi-HT.sIx xs.length 0 lo)
theorem zw8(xs:List V)(lo hi:Option Int):(zU xs lo hi).length<=xs.length:=by
 unfold zU
 rw [List.length_take,List.length_drop]
 omega
def xr4(K:tz0):V->Option Int->Option Int->Hp->VK->Prop:=fun x lo hi H Q=>∃a xs,x= .ref a/\SqT K H a xs/\
 ¬(HT.sIx xs.length 0 lo=0/\HT.sIx xs.length xs.length hi=xs.length)/\∀p,H p=none->Q (.ref p) (upd H p (.tup (zU xs lo hi)))
theorem xg5:SlR X (xr4 X.K):=by
 intro pins s σ H x v vl vu lo hi sl Q I rx hs pl pu h
 obtain⟨a,xs,rfl,hx,hw,q⟩:=h
 cases rx
 obtain⟨its,r,ht,hz⟩:=I.tuple hx
 have hlen:its.toArray.size=xs.length:=by rw [List.size_toArray];exact r.length.symm
 refine⟨"tuple",_,PyProof.Rows.slot_tuple_getitem.lookup,ht.typeIs,?_⟩
 refine HT.getItem_tuple_cut ht hs pl pu (by rw [hlen];exact hw) ?_ (by rw [hlen];exact hz)
 rw [hlen]
 refine⟨.ref s.heap.objs.size,_,I.laid (t':=s.toks) (o:= .tup (zU xs lo hi)) (fun b ob q=>Heap.get?_push_of_some _ q) (Nat.le_refl _) ?_,rfl,q _ (I.hok.fresh (Nat.le_refl _))⟩
 exact⟨Nat.le_trans (zw8 xs lo hi) hz,_,(r.drop (HT.sIx xs.length 0 lo)).take (HT.sIx xs.length xs.length hi-HT.sIx xs.length 0 lo),IsTup.new _ _⟩
def xo2(K:tz0):R2:=fun x y H Q=>∃a b xs ys,x= .ref a/\y= .ref b/\SqT K H a xs/\SqT K H b ys/\xs≠[]/\xs.length+ys.length<=sizeLine/\
 (ys=[]->Q (.ref a) H)/\(ys≠[]->∀p,H p=none->Q (.ref p) (upd H p (.tup (xs++ys))))
theorem cD.nil_iff{xs:List V}{us:List Value}(r:cD xs us):us=[]↔xs=[]:=by
 cases r with
 |nil=>simp
 |cons _ _=>simp
theorem xa4:OpR X (binaryOp .Add) (xo2 X.K):=by
 intro pins s σ H x y v u Q I rx ry h
 obtain⟨a,b,xs,ys,rfl,rfl,ha,hb,hx,hz,q1,q2⟩:=h
 cases rx
 cases ry
 obtain⟨its,r1,p1,_⟩:=I.tuple ha
 obtain⟨its2,r2,p2,_⟩:=I.tuple hb
 refine HT.cat_tup p1 p2 (fun z=>hx (r1.nil_iff.mp z)) (fun z=>⟨.ref a,H,I,rfl,q1 (r2.nil_iff.mp z)⟩) (fun z=> ?_) (by rw [<-r1.length,<-r2.length];exact hz)
 refine⟨.ref s.heap.objs.size,_,I.laid (t':=s.toks) (o:= .tup (xs++ys)) (fun b ob q=>Heap.get?_push_of_some _ q) (Nat.le_refl _) ?_,rfl,q2 (fun w=>z (r2.nil_iff.mpr w)) _ (I.hok.fresh (Nat.le_refl _))⟩
 exact⟨by rw [List.length_append];exact hz,_,r1.append r2,IsTup.new _ _⟩
end
def ixN(n:Nat)(i:Int):Option Nat:=if 0<=i then(if i<n then some i.toNat else none) else if-(n:Int)<=i then some (i+n).toNat else none
def atI{α:Type}(xs:List α)(i:Int):Option α:=(ixN xs.length i).bind fun j=>xs[j]?
theorem xM{n:Nat}{i:Int}{j:Nat}(h:ixN n i=some j):seqIndex? i n=some j/\j<n/\ -(n:Int)<=i/\i<n:=by
 unfold ixN at h
 by_cases h0:0<=i
 ·rw [if_pos h0] at h
  by_cases h1:i<n
  ·rw [if_pos h1] at h
   have e:i.toNat=j:=Option.some.inj h
   exact⟨by rw [seqIndex_of h0 h1,e],by omega,by omega,h1⟩
  ·rw [if_neg h1] at h;cases h
 ·rw [if_neg h0] at h
  by_cases h1: -(n:Int)<=i
  ·rw [if_pos h1] at h
   have e:(i+n).toNat=j:=Option.some.inj h
   exact⟨by rw [seqIndex_neg (by omega) h1,e],by omega,h1,by omega⟩
  ·rw [if_neg h1] at h;cases h
theorem lI{α:Type}{xs:List α}{i:Int}{v:α}(h:atI xs i=some v):∃j,seqIndex? i xs.length=some j/\xs[j]? =some v/\j<xs.length/\ -(xs.length:Int)<=i/\i<xs.length:=by
 unfold atI at h
 cases e:ixN xs.length i with
 |none=>rw [e] at h;cases h
 |some j=>
  rw [e] at h
  obtain⟨h1,h2,h3,h4⟩:=xM e
  exact⟨j,h1,h,h2,h3,h4⟩
theorem xN{α:Type}{xs:List α}{j:Nat}{v:α}(h:xs[j]? =some v):atI xs (j:Int)=some v:=by
 have hj:j<xs.length:=(List.getElem?_eq_some_iff.mp h).1
 have e:ixN xs.length (j:Int)=some j:=by
  unfold ixN
  rw [if_pos (by omega),if_pos (by omega)];simp
 unfold atI;rw [e];exact h
theorem iU{α:Type}(xs:List α)(v:α):atI (xs++[v]) (-1)=some v:=by
 have hl:(xs++[v]).length=xs.length+1:=by simp
 have e:ixN (xs++[v]).length (-1)=some xs.length:=by
  unfold ixN
  rw [hl,if_neg (by decide),if_pos (by omega)]
  congr 1
  omega
 unfold atI
 rw [e]
 show(xs++[v])[xs.length]? =some v
 simp
def pF(b:Expr):Prop:=∀o i,subscripted b false o i=operate [o,i] (getItem o i)
def IxR(X:Cx)(r:R2):Prop:=
 ∀(value slice:Expr) (pins:tzB) (s:Shared) (σ:St) (H:Hp) (x y:V) (v u:Value) (Q:VK),Inv X pins σ H s->dD x v->dD y u->r x y H Q->
  subscripted slice false v u=operate [v,u] (getItem v u)->wpAny (model X.prog X.w) X.A (subscriptTail value slice v u) (EP X pins σ Q) X.xe s
def MtR(X:Cx)(id:String)(r:V->List V->Hp->VK->Prop):Prop:=
 ∀(pins:tzB) (s:Shared) (σ:St) (H:Hp) (x:V) (xs:List V) (v:Value) (us:List Value) (Q:VK),Inv X pins σ H s->dD x v->cD xs us->r x xs H Q->
  wpAny (model X.prog X.w) X.A (call (.builtin id) (v::us)) (EP X pins σ Q) X.xe s
section
variable{X:Cx}{a b:Expr}{ta tb:TE}{pos:Pos}
theorem IxR.or{r r':R2}(h:IxR X r)(h':IxR X r'):IxR X (fun x y H Q=>r x y H Q\/r' x y H Q):=by
 intro value slice pins s σ H x y v u Q I rx ry q hs
 rcases q with q|q
 ·exact h value slice pins s σ H x y v u Q I rx ry q hs
 ·exact h' value slice pins s σ H x y v u Q I rx ry q hs
theorem zn6{r:R2}(hr:IxR X r)(ha:PE X a ta)(hb:PE X b tb)(hs:pF b):PE X (.Subscript a b pos) (tOp r ta tb):=by
 intro pins s σ H Q I h
 exact Subscript_ (yr2 ha hb I h fun v u s2 x y H2 I2 rx ry q=>hr a b pins s2 σ H2 x y v u Q I2 rx ry q (hs _ _))
def xk9(K:tz0):R2:=fun x y H Q=>∃p xs i v,x= .ref p/\y= .int i/\SqL K H p xs/\atI xs i=some v/\Q v H
def xl0(K:tz0):R2:=fun x y H Q=>∃p xs i v,x= .ref p/\y= .int i/\SqT K H p xs/\atI xs i=some v/\Q v H
def xl1:R2:=fun x y H Q=>∃z i c,x= .str z/\y= .int i/\z.length<=sizeLine/\atI z.cps.toList i=some c/\Q (.str ⟨#[c]⟩) H
theorem zg6:IxR X (xk9 X.K):=by
 intro value slice pins s σ H x y v u Q I rx ry h hs
 obtain⟨p,xs,i,z,rfl,rfl,hq,he,q⟩:=h
 cases rx
 obtain⟨t,rfl⟩:=ry
 obtain⟨its,r,pl,hz⟩:=I.list hq
 obtain⟨j,h1,h2,h3,h4,h5⟩:=lI he
 obtain⟨w,ew,rw'⟩:=r.get h2
 have hl:=r.length
 have hn:=qY
 have fin:EP X pins σ Q w s:=⟨z,H,I,rw',q⟩
 by_cases h0:0<=i
 ·have hj:i.toNat=j:=by
   rw [seqIndex_of h0 h5] at h1
   exact Option.some.inj h1
  exact item_listR pl.isList h0 (by omega) (by rw [hj];simpa using ew) fin hs
 ·have hj:(i+(its.toArray.size:Int)).toNat=j:=by
   rw [seqIndex_neg (by omega) h4] at h1
   rw [List.size_toArray,<-hl]
   exact Option.some.inj h1
  exact subscriptTail_builtinR (x:=w) pl.isList.typeIs slot_list_getitem.lookup
   (wpAny_getItem_list_neg (Q:=fun r s'=>r=w/\EP X pins σ Q r s') pl.isList (by omega) (by rw [List.size_toArray]<;>omega) (by omega) (by rw [hj];simpa using ew) ⟨rfl,fin⟩) hs
theorem xg6:IxR X (xl0 X.K):=by
 intro value slice pins s σ H x y v u Q I rx ry h hs
 obtain⟨p,xs,i,z,rfl,rfl,hq,he,q⟩:=h
 cases rx
 obtain⟨t,rfl⟩:=ry
 obtain⟨its,r,pl,hz⟩:=I.tuple hq
 obtain⟨j,h1,h2,h3,h4,h5⟩:=lI he
 obtain⟨w,ew,rw'⟩:=r.get h2
 have hl:=r.length
 have hn:=qY
 have fin:EP X pins σ Q w s:=⟨z,H,I,rw',q⟩
 exact subscriptTail_builtinR (x:=w) pl.typeIs slot_tuple_getitem.lookup
  (getItem_tuple (j:=j) (Q:=fun r s'=>r=w/\EP X pins σ Q r s') pl (by omega) (by omega) (by rw [List.size_toArray,<-hl];exact h1) (by simpa using ew) ⟨rfl,fin⟩) hs
theorem xg7:IxR X xl1:=by
 intro value slice pins s σ H x y v u Q I rx ry h hs
 obtain⟨z,i,c,rfl,rfl,hz,he,q⟩:=h
 obtain⟨t,rfl⟩:=rx
 obtain⟨t',rfl⟩:=ry
 obtain⟨j,h1,h2,h3,h4,h5⟩:=lI he
 have hl:z.cps.toList.length=z.length:=by simp [Str.length]
 rw [hl] at h1 h4 h5
 have hn:=qY
 exact tail_any (typeIs_str s z t) slot_str_getitem.lookup (getItem_str (c:=c) (by
  have e1:decide (i< -(2^63:Int))=false:=decide_eq_false (by omega)
  have e2:decide (i>=2^63)=false:=decide_eq_false (by omega)
  rw [e1,e2,Bool.or_false]) (by rw [h1];simpa using h2) ⟨.str ⟨#[c]⟩,H,I.tok _,⟨_,rfl⟩,q⟩) hs
def rIx(K:tz0):R2:=fun x y H Q=>xk9 K x y H Q\/xl0 K x y H Q\/xl1 x y H Q
theorem yk3:IxR X (rIx X.K):=zg6.or (xg6.or xg7)
theorem yd7(its:List Value)(n j:Nat)(u:Value):Obj.mapSeq (·.setIfInBounds j u) {cls:= .type "list",data:= .seq its.toArray n}={cls:= .type "list",data:= .seq (its.set j u).toArray n}:=by
 simp [Obj.mapSeq]
theorem Inv.lst{pins:tzB}{σ:St}{H:Hp}{s:Shared}{p:Addr}{xs:List V}(I:Inv X pins σ H s)(h:H p=some (.lst xs)):
  ∃(its:List Value) (n:Nat),cD xs its/\s.heap.get? p=some {cls:= .type "list",data:= .seq its.toArray n}/\xs.length<=sizeLine:=by
 obtain⟨z,its,n,r,e⟩:=I.hok p _ h
 exact⟨its,n,r,e,z⟩
theorem Inv.lstUpd{pins:tzB}{σ:St}{H:Hp}{s:Shared}{p:Addr}{xs ys:List V}{its its':List Value}{n n':Nat}{f:Obj->Obj}(I:Inv X pins σ H s)(h:H p=some (.lst xs))
  (ho:s.heap.get? p=some {cls:= .type "list",data:= .seq its.toArray n}) (hf:f {cls:= .type "list",data:= .seq its.toArray n}={cls:= .type "list",data:= .seq its'.toArray n'}) (r:cD ys its') (hz:ys.length<=sizeLine) (t:Nat):
  Inv X pins σ (upd H p (.lst ys)) {s with heap:=s.heap.update p f,toks:=t}:=by
 have e:(s.heap.update p f).get? p=some {cls:= .type "list",data:= .seq its'.toArray n'}:=by
  rw [Heap.get?_update_self f ho (by rw [hf]<;>rfl),hf]
 refine I.write (x:=p) (e:=p) (by rw [h];trivial) (.inl rfl) (fun b u hb q=>(Heap.get?_update_other _ _ (Ne.symm hb)).trans q) ⟨_,e⟩ ?_
 exact⟨hz,its',n',r,e⟩
def xo3:V->V->V->Hp->(Hp->Prop)->Prop:=fun o i v H Q=>∃p xs k j,o= .ref p/\i= .int k/\H p=some (.lst xs)/\ixN xs.length k=some j/\Q (upd H p (.lst (xs.set j v)))
theorem ys0:xk4 X xo3:=by
 intro pins s σ H o i v ov iv u Q I ro ri rv h
 obtain⟨p,xs,k,j,rfl,rfl,hp,hj,q⟩:=h
 cases ro
 obtain⟨t,rfl⟩:=ri
 obtain⟨its,n,r,ho,hz⟩:=I.lst hp
 obtain⟨h1,h2,h3,h4⟩:=xM hj
 have hl:=r.length
 have hn:=qY
 have I':Inv X pins σ (upd H p (.lst (xs.set j v))) {s with heap:=s.heap.update p (Obj.mapSeq (·.setIfInBounds j u))}:=
  I.lstUpd hp ho (yd7 its n j u) (r.set rv j) (by rw [List.length_set];exact hz) s.toks
 by_cases h0:0<=k
 ·have hk:k.toNat=j:=by
   rw [seqIndex_of h0 h4] at h1
   exact Option.some.inj h1
  exact PySem.W.ki_setAt ho h0 (by omega) (by rw [List.size_toArray,<-hl];exact h4) (by rw [hk];exact⟨_,I',q⟩)
 ·have hk:(k+(its.toArray.size:Int)).toNat=j:=by
   rw [seqIndex_neg (by omega) h3] at h1
   rw [List.size_toArray,<-hl]
   exact Option.some.inj h1
  exact PySem.W.ki_setBack ho (by omega) (by rw [List.size_toArray,<-hl];exact h3) (by omega) (by rw [hk];exact⟨_,I',q⟩)
def lN:V->Bool
 | .non=>true
 | .bl _=>true
 | .int _=>true
 | .str _=>true
 |_=>false
def eqV:V->V->Bool
 | .non,.non=>true
 | .bl a,.bl b=>a==b
 | .bl a,.int b=>(if a then 1 else 0)==b
 | .int a,.bl b=>a==(if b then 1 else 0)
 | .int a,.int b=>a==b
 | .str a,.str b=>a==b
 |_,_=>false
theorem xg8{A:Around}{s:Shared}{y x:V}{u v:Value}(ry:dD y u)(rx:dD x v)(fy:lN y=true)(fx:lN x=true):SeqAt.EqAt A s u v (eqV y x):=by
 cases y with
 |non=>
  cases ry
  cases x with
  |non=>cases rx;exact SeqAt.EqAt.same _
  |bl b=>cases rx;exact SeqAt.EqAt.none_bool b
  |int b=>obtain⟨t,rfl⟩:=rx;exact SeqAt.EqAt.none_int b t
  |str b=>obtain⟨t,rfl⟩:=rx;exact SeqAt.EqAt.none_str b t
  |_=>exact absurd (show false=true from fx) Bool.false_ne_true
 |bl a=>
  cases ry
  cases x with
  |non=>cases rx;exact SeqAt.EqAt.bool_none a
  |bl b=>cases rx;exact SeqAt.EqAt.bool_bool a b
  |int b=>obtain⟨t,rfl⟩:=rx;exact SeqAt.EqAt.bool_int a b t
  |str b=>obtain⟨t,rfl⟩:=rx;exact SeqAt.EqAt.bool_str a b t
  |_=>exact absurd (show false=true from fx) Bool.false_ne_true
 |int a=>
  obtain⟨t',rfl⟩:=ry
  cases x with
  |non=>cases rx;exact SeqAt.EqAt.int_none a t'
  |bl b=>cases rx;exact SeqAt.EqAt.int_bool a t' b
  |int b=>obtain⟨t,rfl⟩:=rx;exact SeqAt.EqAt.int_int a t' b t
  |str b=>obtain⟨t,rfl⟩:=rx;exact SeqAt.EqAt.int_str a t' b t
  |_=>exact absurd (show false=true from fx) Bool.false_ne_true
 |str a=>
  obtain⟨t',rfl⟩:=ry
  cases x with
  |non=>cases rx;exact SeqAt.EqAt.str_none a t'
  |bl b=>cases rx;exact SeqAt.EqAt.str_bool a t' b
  |int b=>obtain⟨t,rfl⟩:=rx;exact SeqAt.EqAt.str_int a t' b t
  |str b=>obtain⟨t,rfl⟩:=rx;exact SeqAt.EqAt.str_str a t' b t
  |_=>exact absurd (show false=true from fx) Bool.false_ne_true
 |_=>exact absurd (show false=true from fy) Bool.false_ne_true
def eqU(x:V)(u:Value):Bool:=match u with
 | .none=>eqV .non x
 | .bool b=>eqV (.bl b) x
 | .int i _=>eqV (.int i) x
 | .str z _=>eqV (.str z) x
 |_=>false
theorem yk4{x y:V}{u:Value}(r:dD y u)(f:lN y=true):eqU x u=eqV y x:=by
 cases y with
 |non=>cases r;rfl
 |bl b=>cases r;rfl
 |int i=>obtain⟨t,rfl⟩:=r;rfl
 |str z=>obtain⟨t,rfl⟩:=r;rfl
 |_=>exact absurd (show false=true from f) Bool.false_ne_true
theorem zg7{x:V}:∀{xs:List V} {us:List Value},cD xs us->xs.all lN=true->us.any (eqU x)=xs.any fun y=>eqV y x
 |_,_,.nil,_=>rfl
 |y::xs,u::us,.cons r t,f=>by
  rw [List.all_cons,Bool.and_eq_true] at f
  rw [List.any_cons,List.any_cons,yk4 r f.1,zg7 t f.2]
theorem yY{A:Around}{s:Shared}{x:V}{v:Value}(rx:dD x v)(fx:lN x=true):∀{xs:List V} {us:List Value},cD xs us->xs.all lN=true->∀u∈us,SeqAt.EqAt A s u v (eqU x u)
 |_,_,.nil,_=>fun u hu=>by cases hu
 |y::xs,u::us,.cons r t,f=>fun u' hu=>by
  rw [List.all_cons,Bool.and_eq_true] at f
  rcases List.mem_cons.mp hu with rfl|hu
  ·rw [yk4 r f.1];exact xg8 r rx f.1 fx
  ·exact yY rx fx t f.2 u' hu
def inV(x:V)(xs:List V):Bool:=xs.any fun y=>eqV y x
def rIn(K:tz0)(neg:Bool):R2:=fun x y H Q=>∃p xs,y= .ref p/\(SqL K H p xs\/SqT K H p xs)/\lN x=true/\xs.all lN=true/\Q (.bl (if neg then !inV x xs else inV x xs)) H
theorem yk5:OpR X (compareOp .In) (rIn X.K false):=by
 intro pins s σ H x y v u Q I rx ry h
 obtain⟨p,xs,rfl,hq,fx,fs,q⟩:=h
 cases ry
 rcases hq with hq|hq
 ·obtain⟨its,r,pl,hz⟩:=I.list hq
  refine SeqAt.in_listAt (eqU x) pl.isList (fun w hw=>yY rx fx r fs w (by simpa using hw)) ⟨.bl _,H,I,rfl,?_⟩
  rw [show its.toArray.any (eqU x)=its.any (eqU x) by simp,zg7 r fs]
  exact q
 ·obtain⟨its,r,pl,hz⟩:=I.tuple hq
  refine SeqAt.in_tupleAt (eqU x) pl (fun w hw=>yY rx fx r fs w (by simpa using hw)) ⟨.bl _,H,I,rfl,?_⟩
  rw [show its.toArray.any (eqU x)=its.any (eqU x) by simp,zg7 r fs]
  exact q
theorem kP:fV X (.builtin "len") (fun xs H Q=>∃p ys,xs=[.ref p]/\(SqL X.K H p ys\/SqT X.K H p ys)/\Q (.int ys.length) H):=by
 intro pins s σ H xs us Q I r h
 obtain⟨p,ys,rfl,hq,q⟩:=h
 obtain⟨u,rfl,rx⟩:=oB r
 cases rx
 have hn:=qY
 rcases hq with hq|hq
 ·obtain⟨its,r',pl,hz⟩:=I.list hq
  have hlen:=r'.length
  exact Calls.call_len_list pl.isList (by simp only [List.size_toArray]<;>omega) ⟨.int ys.length,H,I.tok _,⟨s.toks+1,by rw [List.size_toArray,hlen]⟩,q⟩
 ·obtain⟨its,r',pl,hz⟩:=I.tuple hq
  have hlen:=r'.length
  exact len_tuple pl (by simp only [List.size_toArray]<;>omega) ⟨.int ys.length,H,I.tok _,⟨s.toks+1,by rw [List.size_toArray,hlen]⟩,q⟩
theorem zp9:fV X (.builtin "len") (fun xs H Q=>∃z,xs=[.str z]/\z.length<=sizeLine/\Q (.int z.length) H):=by
 intro pins s σ H xs us Q I r h
 obtain⟨z,rfl,hz,q⟩:=h
 obtain⟨u,rfl,t,rfl⟩:=oB r
 have hn:=qY
 exact len_str (by omega) ⟨.int z.length,H,I.tok _,⟨_,rfl⟩,q⟩
theorem vY:fV X (.type "list") (fun xs H Q=>∃p ys,xs=[.ref p]/\(SqL X.K H p ys\/SqT X.K H p ys)/\∀l,H l=none->Q (.ref l) (upd H l (.lst ys))):=by
 intro pins s σ H xs us Q I r h
 obtain⟨p,ys,rfl,hq,q⟩:=h
 obtain⟨u,rfl,rx⟩:=oB r
 cases rx
 have fin:∀(its:List Value),cD ys its->ys.length<=sizeLine->∀(h':Heap) (c':Nat),(∀b o',s.heap.get? b=some o'->h'.get? b=some o')->
   h'.get? s.heap.objs.size=some {cls:= .type "list",dict:=none,data:= .seq its.toArray c',slots:= #[]}->EP X pins σ Q (.ref s.heap.objs.size) {s with heap:=h'}:=fun its r' hz h' c' kp e=>
  ⟨.ref s.heap.objs.size,_,I.laid (t':=s.toks) kp (Nat.le_refl _) (show fU X.prog X.w _ h' _ (.lst ys) from⟨hz,its,c',r',e⟩),rfl,q _ (I.hok.fresh (Nat.le_refl _))⟩
 rcases hq with hq|hq
 ·obtain⟨its,r',pl,hz⟩:=I.list hq
  have hlen:=r'.length
  obtain⟨o,ho,hc,n,hd⟩:=pl.isList
  exact call_list_seq p (.inl rfl) ho hc hd (fun h' c' kp e=>fin its r' hz h' c' kp e) (by simp only [List.size_toArray]<;>omega)
 ·obtain⟨its,r',pl,hz⟩:=I.tuple hq
  have hlen:=r'.length
  obtain⟨o,ho,hc,n,hd⟩:=pl
  exact call_list_seq p (.inr rfl) ho hc hd (fun h' c' kp e=>fin its r' hz h' c' kp e) (by simp only [List.size_toArray]<;>omega)
theorem vR:fV X (.type "tuple") (fun xs H Q=>∃p ys,xs=[.ref p]/\((SqL X.K H p ys/\∀l,H l=none->Q (.ref l) (upd H l (.tup ys)))\/(SqT X.K H p ys/\Q (.ref p) H))):=by
 intro pins s σ H xs us Q I r h
 obtain⟨p,ys,rfl,h⟩:=h
 obtain⟨u,rfl,rx⟩:=oB r
 cases rx
 rcases h with ⟨hq,q⟩|⟨hq,q⟩
 ·obtain⟨its,r',pl,hz⟩:=I.list hq
  have hlen:=r'.length
  refine call_tuple_list pl.isList (fun h' kp=> ?_) (by simp only [List.size_toArray]<;>omega)
  have I1:Inv X pins σ H {s with heap:=h'}:=I.kept (t':=s.toks) kp
  have I2:Inv X pins σ (upd H h'.objs.size (.tup ys)) {s with heap:=h'.push {cls:= .type "tuple",data:= .seq its.toArray}}:=
   I1.laid (t':=s.toks) (fun b o e=>Heap.get?_push_of_some _ e) (Nat.le_refl _) (show fU X.prog X.w _ _ _ (.tup ys) from⟨hz,its,r',IsTup.new _ _⟩)
  exact⟨.ref h'.objs.size,_,I2,rfl,q _ (I1.hok.fresh (Nat.le_refl _))⟩
 ·obtain⟨its,r',pl,hz⟩:=I.tuple hq
  exact call_tuple_same pl ⟨.ref p,H,I,rfl,q⟩
def tyV(K:tz0)(T:String)(x:V)(H:Hp):Prop:=match x with
 | .str _=>T="str"
 | .int _=>T="int"
 | .ref p=>(T="list"/\∃xs,SqL K H p xs)\/(T="tuple"/\∃o,K.lookup p=some o/\o.cls= .type "tuple"/\o.dict=none)\/
   (T="dict"/\((∃kvs,H p=some (.dK kvs))\/∃kvs,H p=some (.dT kvs)))\/(T="set"/\∃S n,H p=some (.set S n))
 |_=>False
theorem yk6{pins:tzB}{σ:St}{H:Hp}{s:Shared}{T:String}{x:V}{v:Value}(I:Inv X pins σ H s)(r:dD x v)(ty:tyV X.K T x H):
  s.TypeIs v T/\∀a,v= .ref a->∃ob,s.heap.get? a=some ob/\ob.dict=none:=by
 cases x with
 |str z=>
  obtain⟨t,rfl⟩:=r
  cases(show T="str" from ty)
  exact⟨typeIs_str s z t,fun _ e=>nomatch e⟩
 |int i=>
  obtain⟨t,rfl⟩:=r
  cases(show T="int" from ty)
  exact⟨typeIs_int s i t,fun _ e=>nomatch e⟩
 | ref p=>
  cases r
  rcases ty with ⟨rfl,xs,hq⟩|⟨rfl,o,hk,hc,hd⟩|⟨rfl,hk⟩|⟨rfl,S,n,hk⟩
  ·obtain⟨its,_,pl,_⟩:=I.list hq
   refine⟨pl.isList.typeIs,fun a e=> ?_⟩
   cases e
   obtain⟨o,n,e,c,hd,_⟩:=pl
   exact⟨o,e,hd⟩
  ·refine⟨⟨o,I.kIn p o hk,hc⟩,fun a e=> ?_⟩
   cases e
   exact⟨o,I.kIn _ o hk,hd⟩
  ·have z:∃o,s.heap.get? p=some o/\o.ExactDict:=by
    rcases hk with ⟨kvs,hk⟩|⟨kvs,hk⟩
    ·obtain⟨_,_,_,_,o,_,_,e,ex,_⟩:=I.hok p _ hk
     exact⟨o,e,ex⟩
    ·obtain⟨_,_,_,_,o,_,_,e,ex,_⟩:=I.hok p _ hk
     exact⟨o,e,ex⟩
   obtain⟨o,e,ex⟩:=z
   refine⟨⟨o,e,ex.1⟩,fun a e2=> ?_⟩
   cases e2
   exact⟨o,e,ex.2.1⟩
  ·obtain⟨o,_,_,_,e,ex,_⟩:=I.hok p _ hk
   refine⟨⟨o,e,ex.1⟩,fun a e2=> ?_⟩
   cases e2
   exact⟨o,e,ex.2.1⟩
 |_=>exact False.elim ty
def xr5(K:tz0)(T:String)(r:V->List V->Hp->VK->Prop)(to:TE):TE:=fun σ H Q=>to σ H fun x H1=>tyV K T x H1/\r x [] H1 Q
def tBM(K:tz0)(T:String)(r:V->List V->Hp->VK->Prop)(to:TE)(t:TA):TE:=fun σ H Q=>to σ H fun x H1=>tyV K T x H1/\t σ H1 fun xs H2=>r x xs H2 Q
variable{o e:Expr}{es:List Expr}{to:TE}{t:TA}{name:Str}{apos cpos:Pos}{T id:String}{r:V->List V->Hp->VK->Prop}
theorem xg9(pa:PlainAttrs T)(slot:Slot T name id)(hty:typeOf (.builtin id)=pure (.type "method_descriptor"))(hm:MtR X id r)(ho:PE X o to)
  (hbase:attributeBase o name X.env (eval o X.env)=eval o X.env:=by rfl) (hline:(apos.endLine==cpos.line)=true:=by rfl):PE X (.Call (.Attribute o name apos) [] [] cpos) (xr5 X.K T r to):=by
 intro pins s σ H Q I h
 refine wpAny_Call_method0_late hbase hline (thn (ho pins s σ H _ I h) fun v s1 ⟨x,H1,I1,r1,ty,q1⟩=> ?_)
 obtain⟨h1,h2⟩:=yk6 I1 r1 ty
 exact⟨T,id,pa,slot,hty,h1,h2,Calls.callWith_builtin rfl (PySem.evalArgs_none (hm pins s1 σ H1 x [] v [] Q I1 r1 .nil q1))⟩
theorem yd8(pa:PlainAttrs T)(slot:Slot T name id)(hty:typeOf (.builtin id)=pure (.type "method_descriptor"))(hm:MtR X id r)(ho:PE X o to)(ha:PA X (e::es) t)
  (hbase:attributeBase o name X.env (eval o X.env)=eval o X.env:=by rfl)
  (hfew:((backTo cpos (starEach (e::es) X.env)).all (fun x=> !x.1)&&(backToKw cpos (keywordEach [] X.env)).all (fun x=>x.1.isSome)
   &&decide ((e::es).length+([]:List Keyword).length+(if ([]:List Keyword).isEmpty then 0 else 1)<30))=true:=by rfl)
  (hline:(apos.endLine==cpos.line)=true:=by rfl) (hs:starEach (e::es) X.env=(false,eval e X.env)::starEach es X.env:=by rfl) (hplain:(backTo cpos (starEach es X.env)).any (·.1)=false:=by rfl):
  PE X (.Call (.Attribute o name apos) (e::es) [] cpos) (tBM X.K T r to t):=by
 intro pins s σ H Q I h
 refine wpAny_Call_method_late hbase hfew hline rfl (thn (ho pins s σ H _ I h) fun v s1 ⟨x,H1,I1,r1,ty,q1⟩=> ?_)
 obtain⟨h1,h2⟩:=yk6 I1 r1 ty
 refine⟨T,id,pa,slot,hty,h1,h2,?_⟩
 have hA:=ha cpos pins s1 σ H1 _ I1 q1
 rw [hs] at hA|-
 refine Calls.callWith_builtin (by show(false||(backTo cpos (starEach es X.env)).any (·.1))=false;rw [hplain]<;>rfl) (Calls.evalArgs_plain ?_)
 exact thn hA fun us s2 ⟨vs,H2,I2,r2,q2⟩=>hm pins s2 σ H2 x vs v us Q I2 r1 r2 q2
end
def MtM(X:Cx)(id:String)(r:V->List V->Hp->VK->Prop):Prop:=
 ∀(pins:tzB) (s:Shared) (σ:St) (H:Hp) (x:V) (xs:List V) (v:Value) (us:List Value) (Q:VK),Inv X pins σ H s->dD x v->cD xs us->r x xs H Q->
  wpAny (model X.prog X.w) X.A (call (.builtin id) (v::us)) (EP X pins σ Q) X.xe s
theorem cD.one:∀{x:V} {us:List Value},cD [x] us->∃u,us=[u]/\dD x u
 |_,_,.cons r .nil=>⟨_,rfl,r⟩
theorem cD.zero:∀{us:List Value},cD [] us->us=[]
 |_,.nil=>rfl
theorem cD.dropLast{xs:List V}{us:List Value}(h:cD xs us):cD xs.dropLast us.dropLast:=by
 induction h with
 |nil=>exact .nil
 |cons r t ih=>
  cases t with
  |nil=>exact .nil
  |cons q t'=>exact .cons r ih
theorem cD.eraseIdx:∀{xs:List V} {us:List Value} (i:Nat),cD xs us->cD (xs.eraseIdx i) (us.eraseIdx i)
 |_,_,_,.nil=> .nil
 |_,_,0,.cons _ t=>t
 |_,_,i+1,.cons r t=> .cons r (cD.eraseIdx i t)
theorem yd9{α:Type}(l:List α):l.eraseIdx (l.length-1)=l.dropLast:=by
 induction l with
 |nil=>rfl
 | cons a r ih=>
  cases r with
  |nil=>rfl
  | cons b r=>
   have e:(a::b::r).length-1=((b::r).length-1)+1:=by
    have h1:(a::b::r).length=r.length+2:=rfl
    have h2:(b::r).length=r.length+1:=rfl
    omega
   rw [e,List.eraseIdx_cons_succ,ih]
   all_goals rfl
theorem zk5{α:Type}:∀(l:List α) (i:Nat),(l.eraseIdx i).length<=l.length
 |[],_=>Nat.le_refl _
 |_::_,0=>Nat.le_succ _
 |_::r,i+1=>Nat.succ_le_succ (zk5 r i)
section
variable{X:Cx}{pins:tzB}{σ:St}{H:Hp}{s:Shared}{l b:Addr}{xs ys zs:List V}
theorem Inv.lset{its its':List Value}{n:Nat}{f:Array Value->Array Value}{t':Nat}(I:Inv X pins σ H s)(hH:H l=some (.lst xs))
  (e:s.heap.get? l=some {cls:= .type "list",data:= .seq its.toArray n}) (hf:f its.toArray=its'.toArray) (hv:cD ys its') (hz:ys.length<=sizeLine):
  Inv X pins σ (upd H l (.lst ys)) {s with heap:=s.heap.update l (Obj.mapSeq f),toks:=t'}:=by
 have q:=PySem.IsL.update e f
 rw [hf] at q
 refine I.write (x:=l) (e:=l) (by rw [hH];exact trivial) (.inl rfl) (fun b' u hb hu=>(Heap.get?_update_other s.heap (Obj.mapSeq f) (Ne.symm hb)).trans hu) ⟨_,q⟩ ?_
 exact⟨hz,its',_,hv,q⟩
theorem Inv.lnew{its:List Value}{t':Nat}(I:Inv X pins σ H s)(hv:cD ys its)(hz:ys.length<=sizeLine):
  Inv X pins σ (upd H s.heap.objs.size (.lst ys)) {s with heap:=s.heap.push {cls:= .type "list",data:= .seq its.toArray},toks:=t'}:=
 I.laid (fun _ _ q=>Heap.get?_push_of_some _ q) (Nat.le_refl _) ⟨hz,its,0,hv,Heap.get?_push_size _ rfl⟩
theorem Inv.fresh(I:Inv X pins σ H s):H s.heap.objs.size=none:=I.hok.fresh (Nat.le_refl _)
theorem Inv.lstM(I:Inv X pins σ H s)(hH:H l=some (.lst xs)):xs.length<=sizeLine/\∃(its:List Value) (n:Nat),cD xs its/\xs.length=its.length/\s.heap.get? l=some {cls:= .type "list",data:= .seq its.toArray n}:=by
 obtain⟨z,its,n,r,e⟩:=I.hok l _ hH
 exact⟨z,its,n,r,r.length,e⟩
end
section
variable{X:Cx}
def xe2:V->List V->Hp->VK->Prop:=fun x vs H Q=>∃l xs y,x= .ref l/\vs=[y]/\H l=some (.lst xs)/\xs.length<sizeLine/\Q .non (upd H l (.lst (xs++[y])))
theorem zk6:MtM X "list.append" xe2:=by
 intro pins s σ H x vs v us Q I rx rv h
 obtain⟨l,xs,y,rfl,rfl,hH,hz,q⟩:=h
 cases rx
 obtain⟨u,rfl,ru⟩:=rv.one
 obtain⟨z,its,n,r,hl,e⟩:=I.lstM hH
 refine call_meets F.slot_list_append ⟨_,e,rfl⟩ F.entry_list_append (F.args_list_append_2 _ _) (PySem.list_append l its.toArray n u (by rw [List.size_toArray];omega)) ⟨e,?_⟩
 refine⟨.non,_,I.lset (its':=its++[u]) hH e (by simp) (r.append (.cons ru .nil)) ?_,rfl,q⟩
 rw [List.length_append,List.length_singleton]
 omega
def xr6:V->List V->Hp->VK->Prop:=fun x vs H Q=>∃l xs y,x= .ref l/\vs=[]/\H l=some (.lst xs)/\xs[xs.length-1]? =some y/\Q y (upd H l (.lst xs.dropLast))
theorem xh0:MtM X "list.pop" xr6:=by
 intro pins s σ H x vs v us Q I rx rv h
 obtain⟨l,xs,y,rfl,rfl,hH,hy,q⟩:=h
 cases rx
 have hus:=rv.zero
 subst hus
 obtain⟨z,its,n,r,hl,e⟩:=I.lstM hH
 obtain⟨u,hu,ru⟩:=r.get hy
 have hy':its.toArray[its.toArray.size-1]? =some u:=by
  show its.toArray[its.length-1]? =some u
  rw [<-Array.getElem?_toList,<-hl]
  exact hu
 refine call_meets F.slot_list_pop ⟨_,e,rfl⟩ F.entry_list_pop (F.args_list_pop_1 _) (MeetsSeq.list_pop_last l its.toArray n u hy' (by rw [List.size_toArray];omega)) ⟨e,?_⟩
 refine⟨y,_,I.lset (its':=its.dropLast) hH e ?_ r.dropLast ?_,ru,q⟩
 ·show its.toArray.eraseIdxIfInBounds (its.toArray.size-1)=its.dropLast.toArray
  rw [List.size_toArray,List.eraseIdxIfInBounds_toArray,yd9]
 ·rw [List.length_dropLast]
  omega
def xl2:V->List V->Hp->VK->Prop:=fun x vs H Q=>∃l xs i k y,x= .ref l/\vs=[.int i]/\H l=some (.lst xs)/\ -(2^63)<=i/\i<2^63/\seqIndex? i xs.length=some k/\xs[k]? =some y/\Q y (upd H l (.lst (xs.eraseIdx k)))
theorem ys1:MtM X "list.pop" xl2:=by
 intro pins s σ H x vs v us Q I rx rv h
 obtain⟨l,xs,i,k,y,rfl,rfl,hH,h1,h2,hk,hy,q⟩:=h
 cases rx
 obtain⟨u,rfl,ru⟩:=rv.one
 obtain⟨t,rfl⟩:=ru
 obtain⟨z,its,n,r,hl,e⟩:=I.lstM hH
 obtain⟨w,hw,rw'⟩:=r.get hy
 refine call_meets F.slot_list_pop ⟨_,e,rfl⟩ F.entry_list_pop (F.args_list_pop_2 _ _)
  (MeetsSeq.list_pop_at l its.toArray n i t k w (fitsIndex_both h1 h2) (by rw [List.size_toArray,<-hl];exact hk) (by rw [<-Array.getElem?_toList];exact hw) (by rw [List.size_toArray];omega)) ⟨e,?_⟩
 refine⟨y,_,I.lset (its':=its.eraseIdx k) hH e ?_ (r.eraseIdx k) ?_,rw',q⟩
 ·show its.toArray.eraseIdxIfInBounds k=(its.eraseIdx k).toArray
  rw [List.eraseIdxIfInBounds_toArray]
 ·have:=zk5 xs k
  omega
end
end L2
namespace Att
open PySem PySem.W PySem.Calls PyProof.Rows
theorem za6{P:Params}{h:Heap}:∀(ns:List Int) (vs:List Value),WellAll P h vs (ns.map WData.int)->IntsAre vs ns:=by
 intro ns
 induction ns with
 |nil=>
  intro vs w
  rw [List.map_nil] at w
  cases w
  exact .nil
 | cons n ns ih=>
  intro vs w
  rw [List.map_cons] at w
  cases w with
  |cons a b=>
   cases a
   exact .cons _ _ (ih _ b)
theorem yk7{l:OpenLaw}{n:Nat}(hn:l.most=some n){P:Params}{h:Heap}{args:List WData}{vals:List Value}
  (hpre:l.row.toRowW.claim.pre args=true) (hwl:WellAll P h vals args):
  ∃a vs ns,vals=[Value.ref a]/\args=[WData.list (ns.map WData.int)]/\h.get? a=some {cls:= .type "list",data:= .seq vs.toArray}/\IntsAre vs ns/\ns.length<=n:=by
 have hsh:WShape.hasAll [] args [.list .int]=true:=(pre_splitW hpre).1
 have hc:l.pre.holds [] {args:=args}=true:=(pre_splitW hpre).2
 obtain⟨d,r,rfl,h1,h2⟩:=hasAllW_cons hsh
 obtain rfl:=hasAllW_nil h2
 obtain⟨xs,rfl,h3⟩:=hasW_list h1
 obtain⟨ns,rfl⟩:=items_int h3
 have hlen:ns.length<=n:=by
  unfold OpenLaw.pre at hc
  have h4:(WTm.not (.lt (.lit (.int (n:Int))) (.len (.arg 0)))).holds [] {args:=[.list (ns.map .int)]}=true:=by
   have h4:=(holds_andW hc).1
   rw [hn] at h4
   exact h4
  have h5:=condW_of h4 (w_not (w_lt w_lit (w_len_list (w_arg rfl))))
  rw [List.length_map] at h5
  refine Nat.le_of_not_lt fun q=> ?_
  have q':(n:Int)<((ns.length:Nat):Int):=by omega
  first
   |(rw [decide_eq_true q'] at h5;exact absurd h5 (by decide))
   |(simp at h5;omega)
 cases hwl with
 |cons w1 w2=>
  cases w2
  cases w1 with
  |list ho hall=>exact⟨_,_,ns,rfl,rfl,ho,za6 ns _ hall,hlen⟩
theorem yk8(l:OpenLaw)(args:List WData):l.row.toRowW.claim.post args (.bool true) args=true:=
 postW_of (r:=l.row.toRowW) (X:=(true==true))
  (show WShape.has [] (.bool true) .bool=true by first|rfl|decide|simp [WShape.has,WShape.arms,WShape.armsAll])
  (show(WTm.eq .res (.lit (.bool true))).value [] {args:=args,res:=some (.bool true),after:=args}=some (.bool (true==true)) from w_eq_bool (w_res rfl) w_lit) rfl
theorem attach_call{l:OpenLaw}{n:Nat}{q:Program}{loose:List Str}{XP:(tzA)->Heap->Prop}{YP:World->Heap->Prop}{d:DefRec}
  (hn:l.most=some n) (hdf:d.params.defaults=[])
  (call:∀(w:World) (s₀ s₁:Shared) (mg mb:tzA) (fa:Addr) (o:Obj) (pm cd doc:Value) (a:Addr) (vs:List Value) (ns:List Int),
   Ground q loose [] XP w s₀ mg mb s₁.heap->YP w s₁.heap->
   s₁.heap.get? fa=some o->o.data= .func (docDef d.name d.params d.body d.scope pm cd doc)->s₁.heap.CodeRec cd d.name->mg d.name=some (.ref fa)->
   s₁.heap.get? a=some {cls:= .type "list",data:= .seq vs.toArray}->IntsAre vs ns->ns.length<=n->s₁.gens= #[]->
   codeAny (model l.prog w) callerA (.call (.ref fa) ⟨[.ref a],[]⟩) (fun r s'=>r= .ok (.ret (.bool true))/\OldK s₁.heap s'.heap/\s'.os=s₁.os/\AllBare s'.gens) s₁):
  WalkO q loose XP YP l.row.toRowW d [] (fun f vs=>PySem.call f vs):=by
 intro w s₀ s₁ mg mb G Y fa o pm cd doc dV kV ho hd hcd hD hmg hg args vals as hpre hlay hrd hwl hlo
 obtain rfl:dV= .none:=Dflts.none hD hdf
 obtain rfl:kV= .none:=Dflts.noKw hD
 obtain⟨a,vs,ns,rfl,rfl,hobj,hints,hlen⟩:=yk7 hn hpre hwl
 refine enter_call (codeAny_mono (call w s₀ s₁ mg mb fa o pm cd doc a vs ns G Y ho (fd_plain hd) hcd hmg hobj hints hlen hg) fun r s' hq=> ?_)
 obtain⟨rfl,h2,h3,h4⟩:=hq
 exact⟨.inl ⟨.bool true,.bool true,[],rfl,fun _=>rfl,.bool true,yk8 l _,fun _=>⟨List.Pairwise.nil,fun _ hm=>(nomatch hm)⟩⟩,h2,h3,h4⟩
end Att
namespace L2
open PySem PySem.Spec PyProof.Rows
theorem zk7:∀{vs:List Value} {ns:List Int},IntsAre vs ns->cD (ns.map V.int) vs
 |_,_,.nil=> .nil
 |_,_,.cons n t h=> .cons ⟨t,rfl⟩ (zk7 h)
def yx6(H:Hp):Prop:=∀b,H b=none\/∃o xs,H b=some (.frz o (.lst xs))
theorem ys2{P:Program}{w:World}{K:tz0}{mg mb:tzA}{CX:CXT}{k:Nat}{fa a:Addr}{fd:FuncData}{x:Str}{sp:Sp}{s₁:Shared}{vs:List Value}{ns:List Int}
  (KX:K.In s₁.heap) (hns:s₁.heap.Ns mainGlobals mg) (hb:s₁.heap.Ns builtinsNs mb) (hbb:∀x:Str,x≠"__name__"->mb x=bootBuiltins x) (hlim:s₁.heap.NoLimit) (hg:s₁.gens= #[])
  (ha:s₁.heap.get? a=some {cls:= .type "list",data:= .seq vs.toArray}) (hi:IntsAre vs ns) (hl:ns.length<=sizeLine) (hr:Room k callerA)
  (F:∀base:Heap,K.In base->base.Ns mainGlobals mg->FnOk P w K mg base CX k fa fd [x] sp) (hbind:∀(s:Shared) (u:Value),BindsTo s fd ⟨[u],[]⟩ [(x,u)])
  (hsp:∀H:Hp,yx6 H->SqL K H a (ns.map V.int)->sp [.ref a] H (fun v _=>v= .bl true) fun _ _ _=>False)
  (hCX:∀H e s',CX [] H s₁ (fun _ _ _=>False) e s'->False):
  codeAny (model P w) callerA (.call (.ref fa) ⟨[.ref a],[]⟩) (fun r s'=>r= .ok (.ret (.bool true))/\OldK s₁.heap s'.heap/\s'.os=s₁.os/\AllBare s'.gens) s₁:=by
 have rv:=zk7 hi
 have lenV:=hi.length
 have core:∀H:Hp,yx6 H->SqL K H a (ns.map V.int)->HOk P w H s₁.heap->(∀b,H b≠none->b=a)->(H a≠none->K.lookup a=none)->
   codeAny (model P w) callerA (.call (.ref fa) ⟨[.ref a],[]⟩) (fun r s'=>r= .ok (.ret (.bool true))/\OldK s₁.heap s'.heap/\s'.os=s₁.os/\AllBare s'.gens) s₁:=by
  intro H hO hS hok hA hK
  have base_of:∀{b:Addr} {o:Obj},s₁.heap.get? b=some o->H b=none->(vD s₁.heap H).get? b=some o:=fun e n=>yq8 e n
  have noA:∀{b:Addr} {o:Obj} {es:Array DictEntry} {ep:Nat},s₁.heap.get? b=some o->o.data= .dict es ep->H b=none:=fun {b o es ep} e d=>by
   cases q:H b with
   |none=>rfl
   |some u=>
    have e':b=a:=hA b (by rw [q];simp)
    subst e'
    rw [ha] at e;cases e
    have d':Data.seq vs.toArray _=Data.dict es ep:=d
    cases d'
  have nsK:∀{b:Addr} {m:tzA},s₁.heap.Ns b m->(vD s₁.heap H).Ns b m:=fun {b m} ⟨o,es,ep,e,d,r⟩=>⟨o,es,ep,base_of e (noA e d),d,r⟩
  have hKb:K.In (vD s₁.heap H):=fun b o e=>base_of (KX b o e) (by
   cases q:H b with
   |none=>rfl
   |some u=>
    have e':b=a:=hA b (by rw [q];simp)
    subst e'
    rw [hK (by rw [q];simp)] at e;cases e)
  have hM:Mod K mg (vD s₁.heap H):=⟨hKb,nsK hns,⟨mb,nsK hb,hbb⟩,let ⟨mc,h1,h2⟩:=hlim;⟨mc,nsK h1,h2⟩⟩
  have e0:Env0 P w K mg (vD s₁.heap H) callerA [] s₁ H:=⟨rfl,hM,fun b o e=>yz6 e,Nat.le_of_eq (yi4 _ _),trivial,fun b hb=>absurd (show b∈([]:List Addr) from hb) (by simp),hok,.of_eq hg⟩
  refine codeAny_mono ((F _ hKb (nsK hns)).run callerA [] s₁ H ⟨[.ref a],[]⟩ [.ref a] [.ref a] _ _ hr e0 (hbind s₁ (.ref a)) (.cons rfl .nil) (hsp H hO hS)) fun r s' h=> ?_
  cases r with
  |error e=>exact(hCX H e s' h).elim
  | ok fl=>
   cases fl with
   |next=>exact False.elim h
   |brk=>exact False.elim h
   |cont=>exact False.elim h
   | ret u=>
    obtain⟨v,H',os,bare,un,hok',r',q⟩:=h
    have q':v= .bl true:=q
    subst q'
    obtain rfl:u=Value.bool true:=r'
    refine⟨rfl,OldK.of_keep fun b o e=> ?_,os,bare⟩
    cases q:H b with
    |none=>exact un.keep b o e q (by intro z;exact absurd (show b∈([]:List Addr) from z) (by simp)) (by simp)
    | some u=>
     rcases hO b with z|⟨ob,xs,z⟩
     ·rw [q] at z;cases z
     ·have z2:=un.frzs b ob _ z
      obtain⟨e1,_⟩:=hok b _ z
      obtain⟨e2,_⟩:=hok' b _ z2
      rw [e] at e1;cases e1
      exact e2
 cases hk:K.lookup a with
 |some o=>
  have e:=KX a o hk
  rw [ha] at e
  cases e
  refine core (fun _=>none) (fun _=> .inl rfl) (.inr ⟨_,vs.toArray,_,hk,rfl,rfl,rfl,by rw [List.size_toArray,lenV];exact hl,by simpa using rv⟩) (fun b u z=>by have z':(none:Option HO)=some u:=z;cases z') (fun b z=>absurd rfl z) fun z=>absurd rfl z
 | none=>
  refine core (fun b=>if b=a then some (.frz {cls:= .type "list",data:= .seq vs.toArray} (.lst (ns.map V.int))) else none) (fun b=> ?_) (.inl (.inr ⟨{cls:= .type "list",data:= .seq vs.toArray},if_pos rfl⟩)) (fun b u z=> ?_) (fun b z=> ?_) fun _=>hk
  ·by_cases hb:b=a
   ·exact .inr ⟨_,_,if_pos hb⟩
   ·exact .inl (if_neg hb)
  ·by_cases hb:b=a
   ·have z':=(if_pos hb).symm.trans z
    cases z'
    subst hb
    exact⟨ha,by rw [List.length_map];exact hl,vs,_,rv,ha⟩
   ·have z':=(if_neg hb).symm.trans z
    cases z'
  ·by_cases hb:b=a
   ·exact hb
   ·exact absurd (if_neg hb) z
theorem xa5{l:PySem.W.OpenLaw}{n k:Nat}{q:Program}{loose:List Str}{XP:(tzA)->Heap->Prop}{YP:World->Heap->Prop}{d:DefRec}{K:Params->tz0}{CX:World->CXT}{sp:World->Sp}{x:Str}
  (hn:l.most=some n) (hn2:n<=sizeLine) (hdf:d.params.defaults=[]) (hr:Room k callerA)
  (hY:∀(w:World) (h:Heap),YP w h->(K w.params).In h)
  (F:∀(w:World) (mg:tzA) (fa:Addr) (h:Heap),(K w.params).In h->h.Ns mainGlobals mg->mg d.name=some (.ref fa)->
   ∃fd:FuncData,(∀(s:Shared) (u:Value),BindsTo s fd ⟨[u],[]⟩ [(x,u)])/\
    ∀base:Heap,(K w.params).In base->base.Ns mainGlobals mg->FnOk l.prog w (K w.params) mg base (CX w) k fa fd [x] (sp w))
  (hsp:∀(w:World) (H:Hp) (a:Addr) (ns:List Int),ns.length<=n->yx6 H->SqL (K w.params) H a (ns.map V.int)->sp w [.ref a] H (fun v _=>v= .bl true) fun _ _ _=>False)
  (hCX:∀(w:World) (H:Hp) (s:Shared) (e:Value) (s':Shared),CX w [] H s (fun _ _ _=>False) e s'->False):
  PySem.W.WalkO q loose XP YP l.row.toRowW d [] (fun f vs=>PySem.call f vs):=by
 refine Att.attach_call hn hdf fun w s₀ s₁ mg mb fa o pm cd doc a vs ns G Y ho hd hcd hmg hobj hints hlen hg=> ?_
 have KX:=hY w _ Y
 obtain⟨fd,hb,hF⟩:=F w mg fa _ KX G.T.g hmg
 exact ys2 KX G.T.g G.T.b G.T.builtins G.T.nolimit hg hobj hints (Nat.le_trans hlen hn2) hr hF hb (fun H hO hS=>hsp w H a ns hlen hO hS) fun H e s'=>hCX w H s₁ e s'
def pG(s:Stmt)(j:Nat):Stmt:=match s with
 | .ClassDef _ _ _ body _ _ _ _ _ _ _=>body.getD j (.Pass ⟨0,0,0,0⟩)
 |_=> .Pass ⟨0,0,0,0⟩
def cL(s:Stmt):Arguments:=match s with
 | .FunctionDef _ a _ _ _ _ _ _ _ _=>a
 |_=>{posonlyargs:=[],args:=[],vararg:=none,kwonlyargs:=[],kw_defaults:=[],kwarg:=none,defaults:=[]}
def cC(s:Stmt):List Stmt:=match s with
 | .FunctionDef _ _ b _ _ _ _ _ _ _=>b
 |_=>[]
def aQ(s:Stmt):Scope:=match s with
 | .FunctionDef _ _ _ _ _ _ sc _ _ _=>sc
 |_=>{kind:= .function,names:=[],isGenerator:=false,isCoroutine:=false}
abbrev CX0:CXT:=fun _ _ _ _ _ _=>False
abbrev E0:XK:=fun _ _ _=>False
theorem za7{X:Cx}:oP CX0 X E0:=fun _ _ _ _ _ _ _ h=>h.elim
structure Fun(K:tz0)(x qual:Str)(st:Stmt)(f:Addr)(fd:FuncData):Prop where
 ex:∃(oc:Value) (od:Option Addr) (kV doc pm:Value) (an:Option Addr) (cdv ct:Value) (osl:Array (Option Value)),
  fd=PySem.W.fnOf x qual (cL st) (cC st) (aQ st) .none kV doc pm an cdv ct/\K.lookup f=some ⟨oc,od,.func fd,osl⟩/\PySem.W.codeIn K cdv qual=true
 kp:PySem.W.keepIn K (.ref f)=true
section
variable{P:Program}{w:World}{K:tz0}{mg:tzA}{base:Heap}
theorem Fun.ok{x qual:Str}{st:Stmt}{f:Addr}{fd:FuncData}{N ps:List Str}{k:Nat}{sp:Sp}(F:Fun K x qual st f fd)(S:FnScope N ps (aQ st))(len:∀vs H Q E,sp vs H Q E->vs.length=ps.length)
  (hbody:∀(cdv:Value) (A:Around) (outer:List Env) (s:Shared) (H:Hp) (vs:List V) (Q:VK) (E:XK),Room k (A.deeper (envOfC qual (aQ st) s.heap.objs.size f cdv))->sp vs H Q E->
   ∃t,PSs (eT CX0 P w K mg base N qual (aQ st) f cdv A outer s H E).nox (cC st) t/\t {nx:=fun _ H'=>Q .non H',rt:=Q} (start N vs) H):FnOk P w K mg base CX0 (k+1) f fd ps sp:=by
 obtain⟨oc,od,kV,doc,pm,an,cdv,ct,osl,rfl,lk,hcd⟩:=F.ex
 refine yd4 lk hcd S len fun A outer s H vs Q E hr hsp=> ?_
 obtain⟨t,h,q⟩:=hbody cdv A outer s H vs Q E hr hsp
 exact⟨t,h.nox,q⟩
theorem Fun.binds{x qual:Str}{st:Stmt}{f:Addr}{fd:FuncData}{ps:List Str}(F:Fun K x qual st f fd)
  (h:∀(kV doc pm:Value) (an:Option Addr) (cdv ct:Value) (us:List Value),us.length=ps.length->bindArgs (PySem.W.fnOf x qual (cL st) (cC st) (aQ st) .none kV doc pm an cdv ct) ⟨us,[]⟩=pure (ps.zip us)):mS K fd ps []:=by
 obtain⟨oc,od,kV,doc,pm,an,cdv,ct,osl,rfl,lk,hcd⟩:=F.ex
 exact .all (h kV doc pm an cdv ct)
theorem iX{x qual:Str}{st:Stmt}{f:Addr}{oc:Value}{od an:Option Addr}{osl:Array (Option Value)}{kV doc pm cdv ct:Value}(l:K.lookup f=some ⟨oc,od,.func (PySem.W.fnOf x qual (cL st) (cC st) (aQ st) .none kV doc pm an cdv ct),osl⟩)
  (c:PySem.W.codeIn K cdv qual=true) (k:PySem.W.keepIn K (.ref f)=true):Fun K x qual st f (PySem.W.fnOf x qual (cL st) (cC st) (aQ st) .none kV doc pm an cdv ct):=⟨⟨oc,od,kV,doc,pm,an,cdv,ct,osl,rfl,l,c⟩,k⟩
end
theorem pV{n:Nat}(h:n<=1000):n<sizeLine:=Nat.lt_of_le_of_lt h (by decide)
section
variable{X:Cx}
theorem pv(i:Nat){x:Str}{pos:Pos}(hN:X.N[i]? =some x:=by rfl)(hv:Vis X.env.scope x:=by first|exact Or.inl rfl|exact Or.inr (Or.inl rfl)|exact Or.inr (Or.inr rfl))(hd:(x==("__debug__":Str))=false:=by decide)
  (hcd:(x==("__classdict__":Str))=false:=by decide):PE X (.Name x pos) (xk2 i):=lS hN hv hd hcd
end
theorem xo8{c A B:Prop}[Decidable c](h1:c->A)(h2:¬c->B):if c then A else B:=by
 by_cases h:c
 ·rw [if_pos h]
  exact h1 h
 ·rw [if_neg h]
  exact h2 h
def yh6(H H':Hp):Prop:=∀b o,H b=some o->H' b=some o
theorem yh6.free{H H':Hp}(e:yh6 H H'){l:Addr}(h:H' l=Option.none):H l=Option.none:=by
 cases q:H l with
 |none=>rfl
 |some o=>
  rw [e l o q] at h
  cases h
structure M1(X:Cx)(o:Expr)(m:Str)(apos:Pos)(e:Expr)(cpos:Pos):Prop where
 base:attributeBase o m X.env (eval o X.env)=eval o X.env
 few:((backTo cpos (starEach [e] X.env)).all (fun x=> !x.1)&&(backToKw cpos (keywordEach [] X.env)).all (fun x=>x.1.isSome)
  &&decide (([e]:List Expr).length+([]:List Keyword).length+(if ([]:List Keyword).isEmpty then 0 else 1)<30))=true
 line:(apos.endLine==cpos.line)=true
 trees:backTo cpos (starEach [e] X.env)=[(false,eval e X.env)]
structure M2(X:Cx)(o:Expr)(m:Str)(apos:Pos)(e f:Expr)(cpos:Pos):Prop where
 base:attributeBase o m X.env (eval o X.env)=eval o X.env
 few:((backTo cpos (starEach [e,f] X.env)).all (fun x=> !x.1)&&(backToKw cpos (keywordEach [] X.env)).all (fun x=>x.1.isSome)
  &&decide (([e,f]:List Expr).length+([]:List Keyword).length+(if ([]:List Keyword).isEmpty then 0 else 1)<30))=true
 line:(apos.endLine==cpos.line)=true
 trees:backTo cpos (starEach [e,f] X.env)=[(false,eval e X.env),(false,eval f X.env)]
structure Dn(K:tz0)(mg:tzA)(x:Str)(st:Stmt)(ps:List Str)(f:Addr)(fd:FuncData):Prop where
 F:Fun K x x st f fd
 b:mS K fd ps []
 m:mg x=some (.ref f)
section
variable{X:Cx}{x:Str}{st:Stmt}{ps:List Str}{f:Addr}{fd:FuncData}{k:Nat}{sp:Sp}{p pos:Pos}{e:Expr}{es:List Expr}{t:TA}
theorem zn7(D:Dn X.K X.mg x st ps f fd)(G:FnOk X.prog X.w X.K X.mg X.base CX0 k f fd ps sp)(hr:Room k X.A)(hg:Gl X x)(ha:PA X (e::es) t)
  (hdb:(x==("__debug__":Str))=false:=by decide) (he:starEach (e::es) X.env=(false,eval e X.env)::starEach es X.env:=by rfl) (hpl:(backTo pos (starEach es X.env)).any (·.1)=false:=by rfl):
  PE X (.Call (.Name x p) (e::es) [] pos) (zo5 sp [] E0 t):=xa0 G hr hg D.m D.F.kp D.b .nil za7 ha hdb he hpl
theorem xh1(D:Dn X.K X.mg x st ps f fd)(G:FnOk X.prog X.w X.K X.mg X.base CX0 k f fd ps sp)(hr:Room k X.A)(hg:Gl X x)
  (hdb:(x==("__debug__":Str))=false:=by decide):PE X (.Call (.Name x p) [] [] pos) (zo5 sp [] E0 yh5):=yr6 G hr hg D.m D.F.kp D.b .nil za7 hdb
end
theorem ys3{H:Hp}{p:Addr}(h:H p=none)(o:HO):yh6 H (upd H p o):=fun b u q=>by rw [dC (mH q h)];exact q
theorem zn8{n:Nat}(h:n<=1000):n<=sizeLine:=Nat.le_of_lt (pV h)
def uA(H:Hp):V->Option String
 | .non=>some "NoneType"
 | .bl _=>some "bool"
 | .int _=>some "int"
 | .str _=>some "str"
 | .ref a=>match H a with
  |some (.lst _)=>some "list"
  |some (.frz _ (.lst _))=>some "list"
  |some (.tup _)=>some "tuple"
  |some (.dK _)=>some "dict"
  |_=>none
 |_=>none
def ze8(t c:String):Bool:=decide (t=c)||(decide (t="bool")&&decide (c="int"))
def kinds:List String:=["NoneType","bool","int","str","list","tuple","dict"]
theorem zq0(K:tz0):∀t∈kinds,∀c∈["bool","int","str","list","tuple","dict"],PySem.W.kitOne K (.type t) (.type c)=some (ze8 t c):=by
 intro t ht c hc
 simp only [kinds,List.mem_cons,List.not_mem_nil,or_false] at ht hc
 rcases ht with rfl|rfl|rfl|rfl|rfl|rfl|rfl<;>rcases hc with rfl|rfl|rfl|rfl|rfl|rfl<;>rfl
theorem yk9{K:tz0}{H:Hp}{x:V}{t:String}(h:uA H x=some t):TyOf K H x (.type t)/\t∈kinds:=by
 cases x with
 |non=>cases h;exact⟨.non,by decide⟩
 |bl b=>cases h;exact⟨.bl b,by decide⟩
 |int i=>cases h;exact⟨.int i,by decide⟩
 |str x=>cases h;exact⟨.str x,by decide⟩
 | ref a=>
  have h':(match H a with
   |some (.lst _)=>some "list"
   |some (.frz _ (.lst _))=>some "list"
   |some (.tup _)=>some "tuple"
   |some (.dK _)=>some "dict"
   |_=>none)=some t:=h
  cases e:H a with
  |none=>rw [e] at h';cases h'
  | some o=>
   rw [e] at h'
   cases o with
   |lst xs=>cases h';exact⟨.lst e,by decide⟩
   |tup xs=>cases h';exact⟨.tup e,by decide⟩
   |dK kvs=>cases h';exact⟨.dK e,by decide⟩
   |frz ob u=>
    cases u with
    |lst xs=>cases h';exact⟨.frz e,by decide⟩
    |_=>cases h'
   |_=>cases h'
 |_=>cases h
section
variable{X:Cx}
theorem ys4:fV X (.builtin "isinstance") (fun xs H Q=>∃x c t,xs=[x,.ty c]/\uA H x=some t/\c∈["bool","int","str","list","tuple","dict"]/\Q (.bl (ze8 t c)) H):=by
 intro pins s σ H xs us Q I r h
 obtain⟨x,c,t,rfl,ht,hc,q⟩:=h
 obtain⟨u,v,rfl,rx,rc⟩:=yc9 r
 cases(show v=Value.type c from rc)
 obtain⟨ty,hk⟩:=yk9 (K:=X.K) ht
 exact yj9 I rx ty (zq0 X.K t hk c hc) fun tk=>⟨.bl (ze8 t c),H,I.tok tk,rfl,q⟩
end
theorem uE{env:Env}:∀(names:List (Str×NameKind)) (cs:List (Str×Addr)),
  (∀y∈names,y.2= .free->∃c,env.cells.lookup y.1=some c)->(∀x c,cs.lookup x=some c->env.cells.lookup x=some c)->
  ∃ cl,(forIn names cs fun(y:Str×NameKind) (r:List (Str×Addr))=>
    (if (y.2== .free)=true then(do let a<-cellOf env y.1;pure (ForInStep.yield ((y.1,a)::r))) else pure (ForInStep.yield r):Sem (ForInStep (List (Str×Addr)))))=pure cl/\
   (∀x c,cl.lookup x=some c->env.cells.lookup x=some c)/\(∀x c,cs.lookup x=some c->∃c',cl.lookup x=some c')/\(∀y∈names,y.2= .free->∃c,cl.lookup y.1=some c)
 |[],cs,_,hc=>⟨cs,rfl,hc,fun x c h=>⟨c,h⟩,fun y hy=>absurd hy (List.not_mem_nil)⟩
 | (n,k)::r,cs,hn,hc=>by
  have hr:∀y∈r,y.2= .free->∃c,env.cells.lookup y.1=some c:=fun y hy=>hn y (List.mem_cons_of_mem _ hy)
  by_cases hk:k= .free
  ·subst hk
   obtain⟨c,e⟩:=hn (n,.free) List.mem_cons_self rfl
   have hc':∀x c',((n,c)::cs).lookup x=some c'->env.cells.lookup x=some c':=fun x c' h=>by
    rw [List.lookup_cons] at h
    cases hx:x==n with
    |true=>
     rw [hx] at h
     have e1:x=n:=by simpa using hx
     have e2:c=c':=Option.some.inj h
     rw [e1,<-e2];exact e
    |false=>rw [hx] at h;exact hc x c' h
   obtain⟨cl,h1,h2,h3,h4⟩:=uE (env:=env) r ((n,c)::cs) hr hc'
   refine⟨cl,?_,h2,fun x c' h=> ?_,fun y hy hf=> ?_⟩
   ·rw [List.forIn_cons]
    have e0:cellOf env n=pure c:=by unfold cellOf;rw [e]
    simp only [e0]
    exact h1
   ·cases hx:x==n with
    |true=>
     have e1:x=n:=by simpa using hx
     exact h3 x c (by rw [List.lookup_cons,hx])
    |false=>exact h3 x c' (by rw [List.lookup_cons,hx];exact h)
   ·rcases List.mem_cons.mp hy with e1|hy
    ·rw [e1];exact h3 n c (by rw [List.lookup_cons];simp)
    ·exact h4 y hy hf
  ·obtain⟨cl,h1,h2,h3,h4⟩:=uE (env:=env) r cs hr hc
   refine⟨cl,?_,h2,h3,fun y hy hf=> ?_⟩
   ·rw [List.forIn_cons]
    have e0:(k==NameKind.free)=false:=by simpa using hk
    simp only [e0]
    exact h1
   ·rcases List.mem_cons.mp hy with e1|hy
    ·rw [e1] at hf;exact absurd hf hk
    ·exact h4 y hy hf
theorem ye0{env:Env}{scope:Scope}(h:∀y∈scope.names,y.2= .free->∃c,env.cells.lookup y.1=some c):
  ∃cl,closureFor scope env=pure cl/\(∀x c,cl.lookup x=some c->env.cells.lookup x=some c)/\(∀y∈scope.names,y.2= .free->∃c,cl.lookup y.1=some c):=by
 obtain⟨cl,h1,h2,_,h4⟩:=uE (env:=env) scope.names [] h (fun x c e=>by simp at e)
 refine⟨cl,?_,h2,h4⟩
 have e:((forIn scope.names [] fun(y:Str×NameKind) (r:List (Str×Addr))=>
    (if (y.2== .free)=true then(do let a<-cellOf env y.1;pure (ForInStep.yield ((y.1,a)::r))) else pure (ForInStep.yield r):Sem (ForInStep (List (Str×Addr)))))>>=fun s=>pure s)=pure cl:=by rw [h1];rfl
 exact e
structure CScope(sc:Scope)(NX N:List Str)(pick:List (Option Nat))(scope:Scope):Prop where
 kind:scope.kind= .function
 nocell:∀y∈scope.names,y.2≠ .cell
 names:∀y∈scope.names,y.2= .local->scope.names.lookup y.1=some .local
 frees:∀y∈scope.names,y.2= .free->sc.names.lookup y.1=some .cell\/sc.names.lookup y.1=some .free
 pk:∀p∈N.zip pick,∀j∈p.2,NX[j]? =some p.1/\scope.names.lookup p.1=some .free
 nd:N.Nodup
 len:pick.length=N.length
def qF(pick:List (Option Nat))(σ:St):St:=pick.map fun o=>o.bind fun j=>(σ[j]?).join
def cxB(X:Cx)(N:List Str)(scope:Scope)(cl:List (Str×Addr))(fp:List Addr)(s:Shared)(H:Hp):Cx where
 prog:=X.prog
 w:=X.w
 K:=X.K
 mg:=X.mg
 base:=X.base
 A:=X.A
 N:=N
 s₀:=s
 H₀:=H
 env:=compEnvC scope cl s.heap.objs.size X.env
 outer:=X.stack
 stack:=X.stack
 ex:=fp
 fn:=fun _=>false
 calm:=X.calm
 pn:=[]
 xe:=fun _ _=>False
def PTs(X:Cx)(ifs:List Expr)(t:TT):Prop:=
 ∀(pins:tzB) (s:Shared) (σ:St) (H:Hp) (Q:Bool->Hp->Prop),Inv X pins σ H s->t σ H Q->
  wpAny (model X.prog X.w) X.A (forIn ifs true fun c r=>if r=true then do let ok<-isTrue c X.env (eval c X.env);pure (ForInStep.yield ok) else pure (ForInStep.yield r)) (TP X pins σ Q) X.xe s
def xr7:TT:=fun _ H Q=>Q true H
theorem xh2{X:Cx}:PTs X [] xr7:=fun pins s σ H Q I h=>wpAny_tests_nil ⟨H,I,h⟩
theorem xh3{X:Cx}{c:Expr}{t:TT}(h:PT X c t):PTs X [c] t:=fun pins s σ H Q I q=>wpAny_tests_one (h pins s σ H Q I q)
section
variable{prog:Program}{w:World}{A:Around}{R:Result->Shared->Prop}{s:Shared}
theorem yl0{elt target iter:Expr}{ifs:List Expr}{scope:Scope}{pos:Pos}{it acc:Value}{env:Env}(I:Nat->Shared->Prop)
  (turn:∀n s,I n s->wpAny (model prog w) A (pyNext it) (fun r s1=>match r with
   |none=>R (.ok .next) s1
   | some v=>wpAny (model prog w) A (letOwnedTupleGo target it v) (fun _ s1=>wpAny (model prog w) A (assign target env v) (fun _ s2=>
     wpAny (model prog w) A (forIn ifs true fun c r=>if r=true then do let ok<-isTrue c env (eval c env);pure (ForInStep.yield ok) else pure (ForInStep.yield r)) (fun ok s3=>
      if ok=true then wpAny (model prog w) A (eval elt env) (fun x s4=>
       wpAny (model prog w) A (call (.builtin "list.append") [acc,x]) (fun _ s5=>∃m,m<n/\I m s5) (fun _ _=>False) s4) (fun _ _=>False) s3
      else ∃m,m<n/\I m s3) (fun _ _=>False) s2) (fun _ _=>False) s1) (fun _ _=>False) s1) (fun _ _=>False) s)
  (n:Nat) (h:I n s):codeAny (model prog w) A (.compLoop (.ListComp elt [⟨target,iter,ifs,0⟩] scope pos) 0 it acc env) R s:=by
 refine codeAny_loop rfl I (fun n s hI=> ?_) n h
 show wpAny _ A ((compTurn (.ListComp elt [⟨target,iter,ifs,0⟩] scope pos) 0 it acc env).onRaise (fun x=>do noteFrame x env;theTreesLotGoes x)) _ _ s
 refine wpAny_noted ?_
 rw [compTurn_list]
 refine wpAny_bind (wpAny_standAt (wpAny_bind (wpAny_mono (turn n s hI) (fun r s1 h1=> ?_) fun _ _ z=>z.elim)))
 cases r with
 |none=>exact wpAny_pure h1
 | some v=>
  refine wpAny_bind (wpAny_mono h1 (fun _ s1 h1=>wpAny_bind (wpAny_mono h1 (fun _ s2 h2=>wpAny_bind (wpAny_mono h2 (fun ok s3 h3=> ?_) fun _ _ z=>z.elim)) fun _ _ z=>z.elim)) fun _ _ z=>z.elim)
  cases ok with
  |false=>exact wpAny_pure ⟨rfl,h3⟩
  |true=>
   exact wpAny_bind (wpAny_bind (wpAny_mono h3 (fun x s4 h4=>wpAny_bind (wpAny_mono h4 (fun _ s5 h5=>wpAny_pure (wpAny_pure ⟨rfl,h5⟩)) fun _ _ z=>z.elim)) fun _ _ z=>z.elim))
end
def xl3(pick:List (Option Nat))(wi:TI)(g:TG)(tt:TT)(te:TE)(σ:St)(H:Hp)(Q:Addr->Hp->Prop):Prop:=wi σ H fun J H1=>∀D,H1 D=none->
 ∃ W:Nat->Nat->St->Hp->Prop,(∃m,W 0 m (qF pick σ) (upd H1 D (.lst [])))/\∀i m σ' H',W i m σ' H'->
  (J.stop i H'/\Q D H')\/(J.go i H'/\∀x H2,J.yld i H' x H2->g x σ' H2 fun σ3 H3=>tt σ3 H3 fun b H4=>
   if b=true then te σ3 H4 fun y H5=>∃ys,H5 D=some (.lst ys)/\ys.length<sizeLine/\∃m',m'<m/\W (i+1) m' σ3 (upd H5 D (.lst (ys++[y]))) else ∃m',m'<m/\W (i+1) m' σ3 H4)
def xo4(pick:List (Option Nat))(wi:TI)(g:TG)(tt:TT)(te:TE):TE:=fun σ H Q=>xl3 pick wi g tt te σ H fun D H'=>Q (.ref D) H'
section
variable{X:Cx}{sc:Scope}{NX N:List Str}{pick:List (Option Nat)}{elt tg iter:Expr}{ifs:List Expr}{scope:Scope}{pos:Pos}{wi:TI}{g:TG}{tt:TT}{te:TE}
theorem jQ{env:Env}:∀{names:List (Str×NameKind)} {x:Str} {k:NameKind},(∀y∈names,y.2≠ .cell)->
  (names.map fun(n,k)=>if (k==NameKind.free&&env.scope.kind== .function&&env.kindOf n==some .cell) then(n,NameKind.cell) else(n,k)).lookup x=some k->(k= .cell\/k= .free)->(x,NameKind.free)∈names
 |[],_,_,_,h,_=>by simp at h
 | (n,k0)::r,x,k,hn,h,hk=>by
  have hr:∀y∈r,y.2≠ .cell:=fun y hy=>hn y (List.mem_cons_of_mem _ hy)
  have h':List.lookup x ((if (k0==NameKind.free&&env.scope.kind== .function&&env.kindOf n==some .cell)=true then(n,NameKind.cell) else(n,k0))::(r.map fun(n,k)=>if (k==NameKind.free&&env.scope.kind== .function&&env.kindOf n==some .cell) then(n,NameKind.cell) else(n,k)))=some k:=h
  by_cases hc:(k0==NameKind.free&&env.scope.kind== .function&&env.kindOf n==some .cell)=true
  ·rw [if_pos hc,List.lookup_cons] at h'
   cases hx:x==n with
   | true=>
    have e1:x=n:=by simpa using hx
    have e2:k0= .free:=by
     simp only [Bool.and_eq_true,beq_iff_eq] at hc
     exact hc.1.1
    rw [e1,e2];exact List.mem_cons_self
   |false=>rw [hx] at h';exact List.mem_cons_of_mem _ (jQ hr h' hk)
  ·rw [if_neg hc,List.lookup_cons] at h'
   cases hx:x==n with
   | true=>
    rw [hx] at h'
    have e1:x=n:=by simpa using hx
    have e2:k0=k:=Option.some.inj h'
    have e3:k0= .free:=by
     rcases hk with z|z
     ·exact absurd (e2.trans z) (hn (n,k0) List.mem_cons_self)
     ·exact e2.trans z
    rw [e1,e3];exact List.mem_cons_self
   |false=>rw [hx] at h';exact List.mem_cons_of_mem _ (jQ hr h' hk)
theorem rZ{env:Env}:∀{names:List (Str×NameKind)} {x:Str},names.lookup x=some .free->
  (names.map fun(n,k)=>if (k==NameKind.free&&env.scope.kind== .function&&env.kindOf n==some .cell) then(n,NameKind.cell) else(n,k)).lookup x=some .cell\/
  (names.map fun(n,k)=>if (k==NameKind.free&&env.scope.kind== .function&&env.kindOf n==some .cell) then(n,NameKind.cell) else(n,k)).lookup x=some .free
 |[],_,h=>by simp at h
 | (n,k0)::r,x,h=>by
  have ih:= @rZ env r x
  show List.lookup x ((if (k0==NameKind.free&&env.scope.kind== .function&&env.kindOf n==some .cell)=true then(n,NameKind.cell) else(n,k0))::_)=_\/List.lookup x ((if (k0==NameKind.free&&env.scope.kind== .function&&env.kindOf n==some .cell)=true then(n,NameKind.cell) else(n,k0))::_)=_
  rw [List.lookup_cons] at h
  cases hx:x==n with
  |true=>
   rw [hx] at h
   have e:k0= .free:=Option.some.inj h
   subst e
   by_cases hc:(NameKind.free==NameKind.free&&env.scope.kind== .function&&env.kindOf n==some .cell)=true
   ·rw [if_pos hc];left;rw [List.lookup_cons,hx]
   ·rw [if_neg hc];right;rw [List.lookup_cons,hx]
  | false=>
   rw [hx] at h
   rcases ih h with z|z
   ·left
    by_cases hc:(k0==NameKind.free&&env.scope.kind== .function&&env.kindOf n==some .cell)=true
    ·rw [if_pos hc,List.lookup_cons,hx];exact z
    ·rw [if_neg hc,List.lookup_cons,hx];exact z
   ·right
    by_cases hc:(k0==NameKind.free&&env.scope.kind== .function&&env.kindOf n==some .cell)=true
    ·rw [if_pos hc,List.lookup_cons,hx];exact z
    ·rw [if_neg hc,List.lookup_cons,hx];exact z
theorem yl1{pins:tzB}{σ:St}{H:Hp}{s:Shared}{cl:List (Str×Addr)}{fp:List Addr}{h':Heap}{tk:Nat}(S:CScope sc NX N pick scope)(hsc:X.env.scope=sc)(hNX:X.N=NX)
  (I:Inv X pins σ H s) (hf:∀b∈fp,rQ X pins H b) (ho:∀b∈fp,∃o,s.heap.get? b=some o)
  (c1:∀x c,cl.lookup x=some c->X.env.cells.lookup x=some c) (c2:∀y∈scope.names,y.2= .free->∃c,cl.lookup y.1=some c)
  (hns:h'.Ns s.heap.objs.size fun _=>none) (hk:∀b o,s.heap.get? b=some o->h'.get? b=some o):
  Inv (cxB X N scope cl fp s H) [] (qF pick σ) H {s with heap:=h',toks:=tk}:=by
 have lt:∀b∈fp,b<s.heap.objs.size:=fun b hb=>by obtain⟨o,e⟩:=ho b hb;exact Heap.lt_size e
 refine⟨⟨I.ok.mod,S.kind,I.ok.glob,I.ok.blt,Nat.le_refl _,fun x y c h1 h2=>I.ok.inj x y c (c1 x c h1) (c1 y c h2),fun x hx=> ?_,fun x c z=>absurd z (by simp [cxB]),I.ok.hd,I.ok.frames,.inl rfl,
  fun b hb=>⟨Nat.ne_of_lt (lt b hb),fun x c e=>(hf b hb).2.2.2.2.1 x c (c1 x c e)⟩,I.bs,Nat.le_trans I.ok.bsz I.sz,fun b o e hb=> ?_,fun b hb z=> ?_,I.stack,I.stkFree⟩,
  rfl,I.bare,Un.kept hk,⟨_,hns,fun i x v h1 h2 h3=> ?_⟩,fun x c e=> ?_,I.hok.fresh (Nat.le_refl _),fun x c e=>I.freeC x c (c1 x c e),fun p hp=>absurd (show p∈([]:tzB) from hp) (by simp),I.hok.kept hk,?_⟩
 ·have hx':(relabel scope X.env).names.lookup x=some .cell\/(relabel scope X.env).names.lookup x=some .free:=hx
  have hm:(x,NameKind.free)∈scope.names:=by
   rcases hx' with z|z
   ·exact jQ S.nocell z (.inl rfl)
   ·exact jQ S.nocell z (.inr rfl)
  exact c2 _ hm rfl
 ·rcases(hf b hb).2.2.2.1 with z|z
  ·exact I.ok.noex b o e z
  ·exact absurd (Nat.lt_of_lt_of_le (Heap.lt_size e) (Nat.le_trans I.ok.bsz z)) (Nat.lt_irrefl _)
 ·rcases List.mem_cons.mp (I.stkSub b z) with z|z
  ·exact(hf b hb).2.1 z
  ·exact(hf b hb).2.2.1 z
 ·
  have hN':N[i]? =some x:=h1
  have h2':(qF pick σ)[i]? =some (some v):=h2
  unfold qF at h2'
  rw [List.getElem?_map] at h2'
  cases ep:pick[i]? with
  |none=>rw [ep] at h2';cases h2'
  | some o=>
   rw [ep] at h2'
   cases o with
   |none=>cases h2'
   | some j=>
    have h4:(σ[j]?).join=some v:=Option.some.inj h2'
    have h5:σ[j]? =some (some v):=by
     cases e:σ[j]? with
     |none=>rw [e] at h4;cases h4
     |some q=>rw [e] at h4;exact congrArg some h4
    have hz:(x,some j)∈N.zip pick:=by
     refine List.mem_of_getElem? (i:=i) ?_
     rw [List.getElem?_zip_eq_some];exact⟨hN',ep⟩
    obtain⟨h6,h7⟩:=S.pk _ hz j rfl
    have hfr:(x,NameKind.free)∈scope.names:=PySem.mem_of_lookup h7
    have hcf:=S.frees _ hfr rfl
    have hcf':X.env.kindOf x=some .cell\/X.env.kindOf x=some .free:=by
     show X.env.scope.names.lookup x=_\/X.env.scope.names.lookup x=_
     rw [hsc];exact hcf
    obtain⟨m,hn,hl⟩:=I.loc
    obtain⟨u,ru,lk⟩:=hl j x v (by rw [hNX];exact h6) h5 (.inr hcf')
    refine⟨u,ru,.inr ⟨rZ h7,?_⟩⟩
    obtain⟨c,ec⟩:=c2 _ hfr rfl
    refine⟨c,ec,?_⟩
    rcases lk with ⟨k1,_⟩|⟨_,c',ec',hcell⟩
    ·rcases hcf' with z|z
     ·rw [k1] at z;cases z
     ·rw [k1] at z;cases z
    ·have e':=c1 x c ec
     rw [ec'] at e'
     cases e'
     obtain⟨o,e1,e2⟩:=hcell
     exact⟨o,hk _ _ e1,e2⟩
 ·obtain⟨v,o,e1,e2⟩:=I.cell x c (c1 x c e)
  exact⟨v,o,hk _ _ e1,e2⟩
 ·show(qF pick σ).length=N.length
  unfold qF
  rw [List.length_map];exact S.len
theorem ye1{pins:tzB}{σ σ':St}{H H':Hp}{s s':Shared}{cl:List (Str×Addr)}{fp:List Addr}(I:Inv X pins σ H s)(hf:∀b∈fp,rQ X pins H b)
  (J:Inv (cxB X N scope cl fp s H) [] σ' H' s'):Inv X pins σ H' s':=
 I.call' (ch:=fp) J.os J.base J.hok J.bare fun b hb=>⟨(hf b hb).2.2.2.1,(hf b hb).2.1,(hf b hb).2.2.2.2.1,(hf b hb).2.2.2.2.2⟩
theorem ye2{pins:tzB}{σ:St}{H2:Hp}{s2:Shared}{cl:List (Str×Addr)}{J:It}{fp:List Addr}{it:Addr}{tn:Nat->Heap->Prop}{RR:Value->Addr->Result->Shared->Prop}{E:Value->Shared->Prop}{Q:Addr->Hp->Prop}
  (S:CScope sc NX N pick scope) (hsc:X.env.scope=sc) (hNX:X.N=NX) (hc:X.calm=true)
  (hg:∀cl fp s H,PG (cxB X N scope cl fp s H) tg g) (ht:∀cl fp s H,PTs (cxB X N scope cl fp s H) ifs tt) (he:∀cl fp s H,PE (cxB X N scope cl fp s H) elt te)
  (I2:Inv X pins σ H2 s2) (T:Turn X.prog X.w X.K tg J fp it tn) (st2:tn 0 s2.heap) (f2:∀b∈fp,rQ X pins H2 b)
  (c1:∀x c,cl.lookup x=some c->X.env.cells.lookup x=some c) (c2:∀y∈scope.names,y.2= .free->∃c,cl.lookup y.1=some c)
  (q:∀D,H2 D=none->∃W:Nat->Nat->St->Hp->Prop,(∃m,W 0 m (qF pick σ) (upd H2 D (.lst [])))/\∀i m σ' H',W i m σ' H'->
   (J.stop i H'/\Q D H')\/(J.go i H'/\∀x H2,J.yld i H' x H2->g x σ' H2 fun σ3 H3=>tt σ3 H3 fun b H4=>
    if b=true then te σ3 H4 fun y H5=>∃ys,H5 D=some (.lst ys)/\ys.length<sizeLine/\∃m',m'<m/\W (i+1) m' σ3 (upd H5 D (.lst (ys++[y]))) else ∃m',m'<m/\W (i+1) m' σ3 H4))
  (fin:∀D C H' s',Inv X pins σ H' s'->H' C=none->X.s₀.heap.objs.size<=C->C≠X.env.locals->(∀x c,X.env.cells.lookup x=some c->c≠C)->(∀p∈X.pn++pins,p.1≠C)->(∃m,s'.heap.Ns C m)->Q D H'->RR (.ref D) C (.ok .next) s'):
  wpAny (model X.prog X.w) X.A (newList []) (fun acc s3=>wpAny (model X.prog X.w) X.A (newFunctionEnv scope X.env.globals cl [] X.env.qual none .none (some X.env)) (fun cenv s4=>
   codeAny (model X.prog X.w) X.A (.compStart (.ListComp elt [⟨tg,iter,ifs,0⟩] scope pos) 0 (.ref it) acc {cenv with scope:=relabel scope X.env}) (RR acc cenv.locals) s4) E s3) E s2:=by
 have hD:H2 s2.heap.objs.size=none:=I2.hok.fresh (Nat.le_refl _)
 obtain⟨W,⟨m0,w0⟩,turn⟩:=q _ hD
 refine wpAny_newObj_type (wpAny_newFunctionEnv S.nocell (by intro y hy;simp at hy) (fun h1 hns hsb=> ?_) S.kind)
 have I3:Inv X pins σ (upd H2 s2.heap.objs.size (.lst [])) {s2 with heap:=s2.heap.push {cls:= .type "list",dict:=none,data:= .seq ([]:List Value).toArray}}:=
  I2.lnew (t':=s2.toks) (its:=[]) (ys:=[]) .nil (Nat.zero_le _)
 have ne:∀b∈fp,b≠s2.heap.objs.size:=fun b hb z=>by
  obtain⟨o,e,_⟩:=T.obj _ _ st2 b hb
  exact absurd (Heap.lt_size e) (by rw [z];exact Nat.lt_irrefl _)
 have f3:∀b∈fp,rQ X pins (upd H2 s2.heap.objs.size (.lst [])) b:=fun b hb=>⟨by rw [dC (ne b hb)];exact(f2 b hb).1,(f2 b hb).2⟩
 have ho3:∀b∈fp,∀o,s2.heap.get? b=some o->(s2.heap.push {cls:= .type "list",dict:=none,data:= .seq ([]:List Value).toArray}).get? b=some o:=fun b _ o e=>Heap.get?_push_of_some _ e
 have st3:=T.keep _ _ _ st2 ho3
 generalize hH3:s2.heap.push {cls:= .type "list",dict:=none,data:= .seq ([]:List Value).toArray}=H3 at hns hsb I3 ho3 st3|-
 dsimp only at hns hsb|-
 have hk:∀b o,H3.get? b=some o->h1.get? b=some o:=fun b o e=>hsb.extBut b o (Nat.ne_of_lt (Heap.lt_size e)) (Heap.get?_push_of_some _ e)
 have B0:Inv (cxB X N scope cl fp {s2 with heap:=H3} (upd H2 s2.heap.objs.size (.lst []))) [] (qF pick σ) (upd H2 s2.heap.objs.size (.lst [])) {s2 with heap:=h1,toks:=s2.toks+([]:List (Str×Value)).length}:=
  yl1 (s:={s2 with heap:=H3}) S hsc hNX I3 f3 (fun b hb=>by obtain⟨o,e,_⟩:=T.obj _ _ st3 b hb;exact⟨o,e⟩) c1 c2 hns hk
 have st4:tn 0 h1:=T.keep _ _ _ st3 fun b _ o e=>hk b o e
 have fpY:∀{H':Hp},(∀b∈fp,H' b=none)->∀b∈fp,rQ (cxB X N scope cl fp {s2 with heap:=H3} (upd H2 s2.heap.objs.size (.lst []))) [] H' b:=fun hn b hb=>
  ⟨hn b hb,(B0.ok.exf b hb).1,B0.ok.exfs b hb,.inl hb,(B0.ok.exf b hb).2,fun p hp=>absurd (show p∈([]:tzB) from hp) (by simp)⟩
 have loop:∀s4:Shared,s4={s2 with heap:=h1,toks:=s2.toks+([]:List (Str×Value)).length}->
   codeAny (model X.prog X.w) X.A (.compLoop (.ListComp elt [⟨tg,iter,ifs,0⟩] scope pos) 0 (.ref it) (.ref s2.heap.objs.size) (compEnvC scope cl H3.objs.size X.env)) (RR (.ref s2.heap.objs.size) H3.objs.size) s4:=by
  rintro s4 rfl
  refine yl0 (fun n s'=>∃i σ' H',Inv (cxB X N scope cl fp {s2 with heap:=H3} (upd H2 s2.heap.objs.size (.lst []))) [] σ' H' s'/\tn i s'.heap/\(∀b∈fp,H' b=none)/\W i n σ' H') ?_ m0
   ⟨0,_,_,B0,st4,fun b hb=>(f3 b hb).1,w0⟩
  rintro n s5 ⟨i,σ5,H5,I5,st5,fr5,w5⟩
  rcases turn i n σ5 H5 w5 with ⟨stop,qn⟩|⟨go,step⟩
  ·refine thn (T.done (cxB X N scope cl fp {s2 with heap:=H3} (upd H2 s2.heap.objs.size (.lst []))) rfl rfl rfl hc i [] s5 σ5 H5 _ I5 (fpY fr5) st5 stop) fun r s6 ⟨hr,I6⟩=> ?_
   subst hr
   obtain⟨m,hm,_⟩:=I6.loc
   have sz:X.s₀.heap.objs.size<=H3.objs.size:=I3.sz
   refine fin _ _ H5 s6 (ye1 I3 f3 I6) I6.free sz (Nat.ne_of_gt I3.lt) (fun x c e z=> ?_) (fun p hp z=> ?_) ⟨m,hm⟩ qn
   ·obtain⟨v,z2⟩:=I3.cell x c e
    exact absurd z2.lt (by rw [z];exact Nat.lt_irrefl _)
   ·exact absurd (Heap.lt_size (I3.pin p hp).1) (by rw [z];exact Nat.lt_irrefl _)
  ·refine thn (T.item (cxB X N scope cl fp {s2 with heap:=H3} (upd H2 s2.heap.objs.size (.lst []))) rfl rfl rfl hc i [] s5 σ5 H5 _ I5 (fpY fr5) st5 go) fun r s6 ⟨u,hr,h6⟩=> ?_
   subst hr
   refine thn h6 fun _ s7 ⟨x,H7,I7,r7,y7,st7,fr7⟩=> ?_
   have I7':=I7.pinned (fpY fr7) (T.obj _ _ st7)
   have back:∀{σ8:St} {H8:Hp} {s8:Shared},Inv (cxB X N scope cl fp {s2 with heap:=H3} (upd H2 s2.heap.objs.size (.lst []))) ([]++tZ fp s7.heap) σ8 H8 s8->
     tn (i+1) s8.heap/\∀b∈fp,H8 b=none:=fun {σ8 H8 s8} I8=>by
    refine⟨T.keep _ _ _ st7 fun b hb o e=>(I8.pin (b,o) (List.mem_append_right _ (List.mem_append_right _ (qK hb e)))).1,fun b hb=> ?_⟩
    obtain⟨o,e,d⟩:=T.obj _ _ st7 b hb
    exact(I8.pin (b,o) (List.mem_append_right _ (List.mem_append_right _ (qK hb e)))).2.1
   refine thn (hg _ _ _ _ _ s7 σ5 H7 x u _ I7' r7 (step x H7 y7)) fun _ s8 ⟨σ8,H8,I8,q8⟩=> ?_
   refine thn (ht _ _ _ _ _ s8 σ8 H8 _ I8 q8) fun ok s9 ⟨H9,I9,q9⟩=> ?_
   cases ok with
   |false=>
    rw [if_neg (by decide)] at q9|-
    obtain⟨m',hm,w9⟩:=q9
    obtain⟨b1,b2⟩:=back I9
    exact⟨m',hm,i+1,σ8,H9,I9.unpinned,b1,b2,w9⟩
   | true=>
    rw [if_pos rfl] at q9|-
    refine thn (he _ _ _ _ _ s9 σ8 H9 _ I9 q9) fun v s10 ⟨y,H10,I10,ry,ys,hys,hlen,m',hm,w10⟩=> ?_
    have ap:=zk6 (X:=cxB X N scope cl fp {s2 with heap:=H3} (upd H2 s2.heap.objs.size (.lst []))) ([]++tZ fp s7.heap) s10 σ8 H10 (.ref s2.heap.objs.size) [y] (.ref s2.heap.objs.size) [v]
     (fun z H'=>z= .non/\H'=upd H10 s2.heap.objs.size (.lst (ys++[y]))) I10 rfl (.cons ry .nil) ⟨_,ys,y,rfl,rfl,hys,hlen,rfl,rfl⟩
    refine thn ap fun z s11 ⟨z',H11,I11,_,_,e11⟩=> ?_
    subst e11
    obtain⟨b1,b2⟩:=back I11
    exact⟨m',hm,i+1,σ8,_,I11.unpinned,b1,b2,w10⟩
 exact codeAny_compStart_list (loop _ rfl) (T.self _ _ _ _ _ st4 (loop _ rfl))
theorem xa6(S:CScope sc NX N pick scope)(hsc:X.env.scope=sc)(hNX:X.N=NX)(hc:X.calm=true)(hi:PI X tg iter wi)
  (hg:∀cl fp s H,PG (cxB X N scope cl fp s H) tg g) (ht:∀cl fp s H,PTs (cxB X N scope cl fp s H) ifs tt) (he:∀cl fp s H,PE (cxB X N scope cl fp s H) elt te)
  (hs:∀x,foldedSetIterable iter X.env x=pure x:=by intro _;rfl):PE X (.ListComp elt [⟨tg,iter,ifs,0⟩] scope pos) (xo4 pick wi g tt te):=by
 intro pins s σ H Q I h
 rw [eval_ListComp]
 have hfr:∀y∈scope.names,y.2= .free->∃c,X.env.cells.lookup y.1=some c:=fun y hy hf=>I.ok.has y.1 (by
  show X.env.scope.names.lookup y.1=_\/X.env.scope.names.lookup y.1=_
  rw [hsc];exact S.frees y hy hf)
 obtain⟨cl,hcl,c1,c2⟩:=ye0 hfr
 refine wpAny_comprehension_free (use:=none) rfl hs hcl S.kind S.names (thn (hi pins s σ H _ I h) fun v s1 h1=>thn h1 fun itv s2 h2=> ?_)
 obtain⟨it,fp,tn,J,H2,e,I2,T,st2,f2,q⟩:=h2
 subst e
 refine ye2 (RR:=fun acc C=>compPost (model X.prog X.w) X.A X.xe none (EP X pins σ Q) acc C) (Q:=fun D H'=>Q (.ref D) H') S hsc hNX hc hg ht he I2 T st2 f2 c1 c2 q ?_
 intro D C H' s' I' n1 n2 n3 n4 n5 ⟨m,hm⟩ q'
 exact⟨m,hm,fun h' hb=>⟨.ref D,H',I'.turned (t':=s'.toks) (it:=C) (fun b o hbc e=>(hb.2 b hbc).trans e) n1 n3 (.inr n2) n4 n5,rfl,q'⟩⟩
end
section
variable{X:Cx}{tg:Expr}
theorem zk8:∀(l:List (Str×Tok)),cD ((l.map (·.1)).map V.str) (strValues l)
 |[]=> .nil
 |(x,t)::r=> .cons ⟨t,rfl⟩ (zk8 r)
theorem zq1:∀{ys:List Str} {us:List Value},cD (ys.map V.str) us->StrsAre us ys
 |[],_,.nil=> .nil
 |y::ys,_,.cons r t=>by
  obtain⟨k,rfl⟩:=r
  exact .cons y k (zq1 t)
theorem ys5:MtR X "str.split" (fun x xs H Q=>∃z y,x= .str z/\xs=[.str y]/\(y.length==0)=false/\z.length<1000000/\∀p,H p=none->Q (.ref p) (upd H p (.lst ((Txt.split z y).map V.str)))):=by
 intro pins s σ H x xs v us Q I rx r h
 obtain⟨z,y,rfl,rfl,hy,hz,q⟩:=h
 obtain⟨t,rfl⟩:=rx
 obtain⟨u,rfl,t',rfl⟩:=oB r
 have hs:sizeLine=16777216:=sizeLine_eq
 have hsz:z.length<=sizeLine:=by omega
 have hoc:=StrLaws.occ_length_le_len z y 0 z.length (z.length+1)
 have hpb:(Builtin.Str.partsBetween z (Builtin.Str.occurrences z y 0 z.length (z.length+1)) y.length).length<=z.length+2:=by
  unfold Builtin.Str.partsBetween
  rw [List.length_map,List.length_zip]
  simp only [List.length_cons,List.length_map,List.length_append,List.length_nil]
  omega
 have hn:H s.heap.objs.size=none:=I.fresh
 have fin:∀(l:List (Str×Tok)) (tk:Nat),l.map (·.1)=Txt.split z y->l.length<=sizeLine->EP X pins σ Q (.ref s.heap.objs.size) {s with heap:=s.heap.push {cls:= .type "list",data:= .seq (strValues l).toArray},toks:=tk}:=fun l tk e hl=>by
  refine⟨.ref s.heap.objs.size,_,I.lnew (t':=tk) (ys:=(l.map (·.1)).map V.str) (zk8 l) (by rw [List.length_map,List.length_map];exact hl),rfl,?_⟩
  rw [e];exact q _ hn
 cases h1:(decide (z.length<y.length)||decide (Builtin.Str.strKind z<Builtin.Str.strKind y))
 ·cases hf:(Builtin.Str.occurrences z y 0 z.length (z.length+1)).isEmpty
  ·refine call_meets F.slot_str_split (typeIs_str _ _ _) F.entry_str_split (F.args_str_split_2 _ _) (meets_str_split_sep z y t t' h1 hy hf hsz (by omega)) ?_
   show wants _ _ _ {s with toks:=_,heap:=s.heap.push {cls:= .type "list",data:= .seq (strsFrom s.toks (Builtin.Str.partsBetween z (Builtin.Str.occurrences z y 0 z.length (z.length+1)) y.length)).toArray}}
   rw [strsFrom_eq]
   refine fin (numbered s.toks _) _ ((numbered_texts _ _).trans ((if_neg (ne_true_of_eq_false h1)).trans (if_neg (ne_true_of_eq_false hf))).symm) ?_
   have e:=congrArg List.length (numbered_texts s.toks (Builtin.Str.partsBetween z (Builtin.Str.occurrences z y 0 z.length (z.length+1)) y.length))
   rw [List.length_map] at e
   omega
  ·exact call_meets F.slot_str_split (typeIs_str _ _ _) F.entry_str_split (F.args_str_split_2 _ _) (meets_str_split_not_found z y t t' h1 hy hf) (fin [(z,t)] s.toks ((if_neg (ne_true_of_eq_false h1)).trans (if_pos hf)).symm (by simp;omega))
 ·exact call_meets F.slot_str_split (typeIs_str _ _ _) F.entry_str_split (F.args_str_split_2 _ _) (meets_str_split_cannot_occur z y t t' h1) (fin [(z,t)] s.toks (if_pos h1).symm (by simp;omega))
theorem xa7:MtR X "str.join" (fun x xs H Q=>∃(z:Str) (a:Addr) (ys:List Str),x= .str z/\xs=[.ref a]/\SqL X.K H a (ys.map V.str)/\z.length<=16/\(ys.map (·.length)).sum+ys.length<=1048576/\Q (.str (Txt.join z ys)) H):=by
 intro pins s σ H x xs v us Q I rx r h
 obtain⟨z,a,ys,rfl,rfl,hq,hz,hw,q⟩:=h
 obtain⟨t,rfl⟩:=rx
 obtain⟨u,rfl,ru⟩:=oB r
 cases(show u=Value.ref a from ru)
 obtain⟨its,rv,p,hl⟩:=I.list hq
 exact join_listW p.isList (by simpa using zq1 rv) hz hw fun t' k=>⟨.str _,H,I.tok k,⟨_,rfl⟩,q⟩
end
mutual
inductive Dp(K:tz0)(H:Hp):V->PyData->Prop
 |non:Dp K H .non .none
 |bl (b:Bool):Dp K H (.bl b) (.bool b)
 |int (i:Int):Dp K H (.int i) (.int i)
 |str (x:Str):Dp K H (.str x) (.str x)
 |lst {a:Addr} {xs:List V} {ds:List PyData}:SqL K H a xs->DpAll K H xs ds->Dp K H (.ref a) (.list ds)
 |tup {a:Addr} {xs:List V} {ds:List PyData}:SqT K H a xs->DpAll K H xs ds->Dp K H (.ref a) (.tuple ds)
inductive DpAll(K:tz0)(H:Hp):List V->List PyData->Prop
 |nil:DpAll K H [] []
 |cons {v:V} {vs:List V} {d:PyData} {ds:List PyData}:Dp K H v d->DpAll K H vs ds->DpAll K H (v::vs) (d::ds)
end
section
variable{X:Cx}{pins:tzB}{σ:St}{H:Hp}{s:Shared}
mutual
theorem Dp.reads(I:Inv X pins σ H s):∀{v:V} {d:PyData} {u:Value},Dp X.K H v d->dD v u->∃as,Reads s.heap u d as
 |_,_,u,.non,r=>by cases(show u=Value.none from r);exact⟨_,.none⟩
 |_,_,u,.bl b,r=>by cases(show u=Value.bool b from r);exact⟨_,.bool b⟩
 |_,_,u,.int i,r=>by obtain⟨t,rfl⟩:=r;exact⟨_,.int i t⟩
 |_,_,u,.str x,r=>by obtain⟨t,rfl⟩:=r;exact⟨_,.str x t⟩
 |_,_,u,.lst (a:=a) h hs,r=>by
  cases(show u=Value.ref a from r)
  obtain⟨its,rv,p,hz⟩:=I.list h
  obtain⟨as,ra⟩:=DpAll.reads I hs rv
  obtain⟨o,e,c,n,d⟩:=p.isList
  exact⟨_,.list e c d (by simpa using ra)⟩
 |_,_,u,.tup (a:=a) h hs,r=>by
  cases(show u=Value.ref a from r)
  obtain⟨its,rv,p,hz⟩:=I.tuple h
  obtain⟨as,ra⟩:=DpAll.reads I hs rv
  obtain⟨o,e,c,n,d⟩:=p
  exact⟨_,.tuple e c d (by simpa using ra)⟩
theorem DpAll.reads(I:Inv X pins σ H s):∀{vs:List V} {ds:List PyData} {us:List Value},DpAll X.K H vs ds->cD vs us->∃as,ReadsAll s.heap us ds as
 |_,_,_,.nil,.nil=>⟨_,.nil⟩
 |_,_,_,.cons h hs,.cons r rs=>by
  obtain⟨as,ra⟩:=Dp.reads I h r
  obtain⟨bs,rb⟩:=DpAll.reads I hs rs
  exact⟨_,.cons ra rb⟩
end
end
section
variable{X:Cx}
def xl4(K:tz0)(neg:Bool):R2:=fun x y H Q=>∃d e,Dp K H x d/\Dp K H y e/\d.canLay0=true/\e.canLay0=true/\d.depth<=60/\Q (.bl (if neg then !PyData.eqv d e else PyData.eqv d e)) H
theorem xh4(hu:X.A.units+64<cLine):OpR X (compareOp .Eq) (xl4 X.K false):=by
 intro pins s σ H x y v u Q I rx ry h
 obtain⟨d,e,hx,hy,cx,cy,dz,q⟩:=h
 obtain⟨as,ra⟩:=hx.reads I rx
 obtain⟨bs,rb⟩:=hy.reads I ry
 exact SeqAt.compareEq_reads ra rb cx cy (by have:=Nat.min_le_left d.depth e.depth;omega) ⟨.bl _,H,I,rfl,q⟩
theorem xh5(hu:X.A.units+64<cLine):OpR X (compareOp .NotEq) (xl4 X.K true):=by
 intro pins s σ H x y v u Q I rx ry h
 obtain⟨d,e,hx,hy,cx,cy,dz,q⟩:=h
 obtain⟨as,ra⟩:=hx.reads I rx
 obtain⟨bs,rb⟩:=hy.reads I ry
 exact SeqAt.compareNe_reads ra rb cx cy (by have:=Nat.min_le_left d.depth e.depth;omega) ⟨.bl _,H,I,rfl,q⟩
end
section
variable{prog:Program}{w:World}{A:Around}{E:Value->Shared->Prop}{s:Shared}{env:Env}
theorem zw9{l:Addr}{items:Array Value}{elts:List Expr}{k:Nat}{pos:Pos}{Q:Unit->Shared->Prop}(hh:A.handled=none)(hl:s.heap.IsList l items)(hn:(assignEach elts env).length=items.size)
  (hstar:(assignEach elts env).findIdx? (·.1)=none) (h:∀h',Heap.ExtBut s.heap.objs.size s.heap h'->wpAny (model prog w) A (assignInOrder ((assignEach elts env).map (·.2)) items.toList) Q E {s with heap:=h'}):
  wpAny (model prog w) A (assign (.Tuple elts k pos) env (.ref l)) Q E s:=by
 rw [assign_Tuple]
 refine wpAny_bind (wpAny_standAt ?_)
 unfold unpack
 rw [hn,hstar]
 exact wpAny_bind (wpAny_holding (PySem.W.kun_itemsOf hh hl h))
end
section
variable{X:Cx}{pos:Pos}
def xl5(K:tz0)(n:Nat)(t:TGs):TG:=fun v σ H Q=>∃a xs,v= .ref a/\SqL K H a xs/\xs.length=n/\t xs σ H Q
theorem xh6{es:List Expr}{k:Nat}{t:TGs}{n:Nat}(hc:X.calm=true)(h:PGs X es t)
  (hn:(assignEach es X.env).length=n:=by rfl) (hst:(assignEach es X.env).findIdx? (·.1)=none:=by rfl):PG X (.Tuple es k pos) (xl5 X.K n t):=by
 intro pins s σ H v u Q I r hw
 obtain⟨a,xs,e1,hq,hl,hw⟩:=hw
 subst e1
 cases r
 obtain⟨its,rv,ht,hz⟩:=I.list hq
 refine zw9 (I.ok.hd hc) ht.isList (by simp [hn,<-hl,rv.length]) hst fun h' hx=> ?_
 have I1:Inv X pins σ H {s with heap:=h'}:=I.kept (t':=s.toks) fun b o e=>hx b o (Nat.ne_of_lt (Heap.lt_size e)) e
 exact h pins _ σ H xs _ Q I1 (by simpa using rv) hw
end
section
variable{prog:Program}{w:World}{A:Around}{E:Value->Shared->Prop}{s:Shared}
theorem yP{t sl:Addr}{items:Array Value}{vl vu:Value}{lo hi:Option Int}{Q:Value->Shared->Prop}(ht:IsTup s.heap t items)(hs:s.heap.IsSliceOf sl vl vu .none)(pl:IsPart vl lo)(pu:IsPart vu hi)
  (hw:HT.sIx items.size 0 lo=0/\HT.sIx items.size items.size hi=items.size) (h:Q (.ref t) s):wpAny (model prog w) A (getItem (.ref t) (.ref sl)) Q E s:=by
 obtain⟨os,hos,hcs,hds⟩:=id hs
 have hTs:s.TypeIs (.ref sl) "slice":=⟨os,hos,hcs⟩
 unfold getItem
 try with_reducible refine wpAny_holding ?_
 first|refine wpAny_bind (wpAny_pure ?_)|skip
 refine wpAny_bind (wpAny_sequenceKey ht.typeIs (by decide) ?_)
 refine wpAny_bind (wpAny_callSpecial?_slot (name:=Str.ofString "__getitem__") ht.typeIs PyProof.Rows.slot_tuple_getitem
  (wpAny_call_entry PyProof.Rows.slot_tuple_getitem ht.typeIs entry_tuple_getitem ?_ (args_tuple_getitem _ _)))
 show wpAny _ _ (Builtin.Tuple.tupleItemsOf (.ref t)>>=_) _ _ s
 refine wpAny_bind (tupleItemsOf_ ht ?_)
 refine wpAny_bind (wpAny_typeOf hTs ?_)
 rw [if_pos (by decide)]
 refine wpAny_bind (HT.sliceApplied_gen hs pl pu ?_)
 show wpAny _ _ (if (((HT.sIx items.size 0 lo:Nat):Int)==0&&(1:Int)==1&&(HT.sIx items.size items.size hi-HT.sIx items.size 0 lo)==items.size)=true then _ else _) _ _ s
 rw [if_pos (by rw [hw.1,hw.2];simp)]
 refine wpAny_bind (m:=Builtin.Tuple.tupleIsExact _) ?_
 unfold Builtin.Tuple.tupleIsExact
 refine wpAny_bind (wpAny_typeOf ht.typeIs (wpAny_pure ?_))
 rw [if_pos (by decide)]
 exact wpAny_bind (wpAny_rule (wpAny_pure ⟨_,rfl,wpAny_pure h⟩))
end
section
variable{X:Cx}
def xr8(K:tz0):V->Option Int->Option Int->Hp->VK->Prop:=fun x lo hi H Q=>∃a xs,x= .ref a/\SqT K H a xs/\
 (HT.sIx xs.length 0 lo=0/\HT.sIx xs.length xs.length hi=xs.length->Q (.ref a) H)/\∀p,H p=none->Q (.ref p) (upd H p (.tup (zU xs lo hi)))
theorem xa8:SlR X (xr8 X.K):=by
 intro pins s σ H x v vl vu lo hi sl Q I rx hs pl pu h
 obtain⟨a,xs,rfl,hx,q1,q2⟩:=h
 by_cases hw:HT.sIx xs.length 0 lo=0/\HT.sIx xs.length xs.length hi=xs.length
 ·cases rx
  obtain⟨its,r,ht,hz⟩:=I.tuple hx
  have hlen:its.toArray.size=xs.length:=by rw [List.size_toArray];exact r.length.symm
  refine⟨"tuple",_,PyProof.Rows.slot_tuple_getitem.lookup,ht.typeIs,?_⟩
  exact yP ht hs pl pu (by rw [hlen];exact hw) ⟨.ref a,H,I,rfl,q1 hw⟩
 ·exact xg5 pins s σ H _ v vl vu lo hi sl Q I rx hs pl pu ⟨a,xs,rfl,hx,hw,q2⟩
end
inductive AreC:List Expr->List V->Prop
 |nil:AreC [] []
 |int {i:Int} {j:Nat} {pos:Pos} {es:List Expr} {vs:List V}:AreC es vs->AreC (.Constant (.int i) j pos::es) (.int i::vs)
 |str {x:Str} {j:Nat} {pos:Pos} {es:List Expr} {vs:List V}:AreC es vs->AreC (.Constant (.str x) j pos::es) (.str x::vs)
 |bl {b:Bool} {j:Nat} {pos:Pos} {es:List Expr} {vs:List V}:AreC es vs->AreC (.Constant (.bool b) j pos::es) (.bl b::vs)
 |non {j:Nat} {pos:Pos} {es:List Expr} {vs:List V}:AreC es vs->AreC (.Constant .none j pos::es) (.non::vs)
def ze9(vs:List V):TA:=fun _ H Q=>Q vs H
theorem yl2{X:Cx}{es:List Expr}{vs:List V}(h:AreC es vs):PA X es (ze9 vs):=by
 induction h with
 |nil=>exact lE
 |int _ ih=>exact fun pos pins s σ H Q I q=>fG (t:=ze9 _) jJ ih rfl pos pins s σ H Q I q
 |str _ ih=>exact fun pos pins s σ H Q I q=>fG (t:=ze9 _) yi7 ih rfl pos pins s σ H Q I q
 |bl _ ih=>exact fun pos pins s σ H Q I q=>fG (t:=ze9 _) yx9 ih rfl pos pins s σ H Q I q
 |non _ ih=>exact fun pos pins s σ H Q I q=>fG (t:=ze9 _) yi6 ih rfl pos pins s σ H Q I q
set_option genInjectivity true in
inductive D where
 |non|bl (b:Bool)|int (i:Int)|str (x:Str)|ty (n:String)
 |tup (xs:List D)|con (xs:List D)|lst (o:Bool) (xs:List D)|dic (o:Bool) (ks:List Key) (vs:List D)|obj (o:Bool) (C:Str) (ns:List Str) (vs:List D)
mutual
def D.imm:D->Bool
 | .tup xs=>D.imms xs
 | .con xs=>D.imms xs
 | .lst o xs=> !o&&D.imms xs
 | .dic o _ vs=> !o&&D.imms vs
 | .obj o _ _ vs=> !o&&D.imms vs
 |_=>true
def D.imms:List D->Bool
 |[]=>true
 |d::ds=>d.imm&&D.imms ds
end
def kd:HO->Bool
 | .lst _=>true
 | .tup _=>true
 | .dK _=>true
 | .ins _ _ _=>true
 | .frz _ _=>true
 |_=>false
def tf:HO->Bool
 | .tup _=>true
 | .frz _ _=>true
 |_=>false
theorem nJ{o:HO}(h:tf o=true):kd o=true:=by cases o<;>first|rfl|cases h
def SqF(K:tz0)(H:Hp)(a:Addr)(xs:List V):Prop:=(∃o,H a=some (.frz o (.lst xs)))\/
 ∃(o:Obj) (its:Array Value) (n:Nat),K.lookup a=some o/\o.cls= .type "list"/\o.dict=none/\o.data= .seq its n/\its.size<=sizeLine/\cD xs its.toList
mutual
inductive Rep(K:tz0)(U:tz9)(H:Hp):V->D->List Addr->Prop
 |non:Rep K U H .non .non []
 |bl (b:Bool):Rep K U H (.bl b) (.bl b) []
 |int (i:Int):Rep K U H (.int i) (.int i) []
 |str (x:Str):Rep K U H (.str x) (.str x) []
 |ty (n:String):Rep K U H (.ty n) (.ty n) []
 |tup {a:Addr} {vs:List V} {ds:List D}:SqT K H a vs->Reps K U H vs ds []->Rep K U H (.ref a) (.tup ds) []
 |con {a:Addr} {vs:List V} {ds:List D}:SqF K H a vs->Reps K U H vs ds []->Rep K U H (.ref a) (.con ds) []
 |lst {a:Addr} {vs:List V} {ds:List D} {fp:List Addr}:H a=some (.lst vs)->Reps K U H vs ds fp->Rep K U H (.ref a) (.lst true ds) (a::fp)
 |lstF {a:Addr} {o:Obj} {vs:List V} {ds:List D}:H a=some (.frz o (.lst vs))->Reps K U H vs ds []->Rep K U H (.ref a) (.lst false ds) []
 |dic {a:Addr} {kvs:List (Key×V)} {ks:List Key} {ds:List D} {fp:List Addr}:H a=some (.dK kvs)->kvs.map (·.1)=ks->Reps K U H (kvs.map (·.2)) ds fp->Rep K U H (.ref a) (.dic true ks ds) (a::fp)
 |dicF {a:Addr} {o:Obj} {kvs:List (Key×V)} {ks:List Key} {ds:List D}:H a=some (.frz o (.dK kvs))->kvs.map (·.1)=ks->Reps K U H (kvs.map (·.2)) ds []->Rep K U H (.ref a) (.dic false ks ds) []
 |obj {a dx:Addr} {C:Str} {fs:List (Str×V)} {ns:List Str} {ds:List D} {fp:List Addr}:H a=some (.ins (U C) dx fs)->fs.map (·.1)=ns->Reps K U H (fs.map (·.2)) ds fp->Rep K U H (.ref a) (.obj true C ns ds) (a::fp)
 |objF {a dx:Addr} {o:Obj} {C:Str} {fs:List (Str×V)} {ns:List Str} {ds:List D}:H a=some (.frz o (.ins (U C) dx fs))->fs.map (·.1)=ns->Reps K U H (fs.map (·.2)) ds []->Rep K U H (.ref a) (.obj false C ns ds) []
inductive Reps(K:tz0)(U:tz9)(H:Hp):List V->List D->List Addr->Prop
 |nil:Reps K U H [] [] []
 |cons {v:V} {vs:List V} {d:D} {ds:List D} {f g:List Addr}:Rep K U H v d f->Reps K U H vs ds g->Reps K U H (v::vs) (d::ds) (f++g)
end
section
variable{K:tz0}{U:tz9}{H H':Hp}
theorem SqT.tf(t:∀a o,H a=some o->tf o=true->H' a=some o){a:Addr}{xs:List V}(h:SqT K H a xs):SqT K H' a xs:=by
 rcases h with (h|⟨o,h⟩)|h
 ·exact .inl (.inl (t _ _ h rfl))
 ·exact .inl (.inr ⟨o,t _ _ h rfl⟩)
 ·exact .inr h
theorem SqF.tf(t:∀a o,H a=some o->tf o=true->H' a=some o){a:Addr}{xs:List V}(h:SqF K H a xs):SqF K H' a xs:=h.elim (fun⟨o,h⟩=> .inl ⟨o,t _ _ h rfl⟩) .inr
theorem SqF.l{a:Addr}{xs:List V}(h:SqF K H a xs):SqL K H a xs:=h.elim (fun⟨o,h⟩=> .inl (.inr ⟨o,h⟩)) .inr
theorem iY{P:Addr->Prop}:∀a∈([]:List Addr),P a:=fun _ h=>nomatch h
theorem Reps.move(t:∀a o,H a=some o->tf o=true->H' a=some o){vs:List V}{ds:List D}{fp:List Addr}(h:Reps K U H vs ds fp):(∀a∈fp,H' a=H a)->Reps K U H' vs ds fp:=
 Reps.rec (motive_1:=fun v d fp _=>(∀a∈fp,H' a=H a)->Rep K U H' v d fp) (motive_2:=fun vs ds fp _=>(∀a∈fp,H' a=H a)->Reps K U H' vs ds fp)
  (fun _=> .non) (fun b _=> .bl b) (fun b _=> .int b) (fun b _=> .str b) (fun b _=> .ty b) (fun h _ ih _=> .tup (h.tf t) (ih iY)) (fun h _ ih _=> .con (h.tf t) (ih iY))
  (fun h _ ih k=> .lst ((k _ List.mem_cons_self).trans h) (ih fun a ha=>k a (List.mem_cons_of_mem _ ha))) (fun h _ ih _=> .lstF (t _ _ h rfl) (ih iY))
  (fun h e _ ih k=> .dic ((k _ List.mem_cons_self).trans h) e (ih fun a ha=>k a (List.mem_cons_of_mem _ ha))) (fun h e _ ih _=> .dicF (t _ _ h rfl) e (ih iY))
  (fun h e _ ih k=> .obj ((k _ List.mem_cons_self).trans h) e (ih fun a ha=>k a (List.mem_cons_of_mem _ ha))) (fun h e _ ih _=> .objF (t _ _ h rfl) e (ih iY))
  (fun _=> .nil) (fun _ _ i1 i2 k=> .cons (i1 fun a ha=>k a (List.mem_append_left _ ha)) (i2 fun a ha=>k a (List.mem_append_right _ ha))) h
theorem Reps.nil_fp{vs:List V}{fp:List Addr}(h:Reps K U H vs [] fp):vs=[]/\fp=[]:=by cases h;exact⟨rfl,rfl⟩
theorem Reps.one_inv{vs:List V}{d:D}{fp:List Addr}(r:Reps K U H vs [d] fp):∃v,vs=[v]/\Rep K U H v d fp:=by
 cases r with
 |cons h hs=>
  obtain⟨rfl,rfl⟩:=hs.nil_fp
  exact⟨_,rfl,by rw [List.append_nil];exact h⟩
theorem Reps.one{v:V}{d:D}{f:List Addr}(h:Rep K U H v d f):Reps K U H [v] [d] f:=by have:=Reps.cons h (Reps.nil (K:=K) (U:=U) (H:=H));rwa [List.append_nil] at this
theorem Rep.move(t:∀a o,H a=some o->tf o=true->H' a=some o){v:V}{d:D}{fp:List Addr}(h:Rep K U H v d fp)(k:∀a∈fp,H' a=H a):Rep K U H' v d fp:=by
 obtain⟨u,e,r⟩:=((Reps.one h).move t k).one_inv
 cases e;exact r
theorem Reps.own{vs:List V}{ds:List D}{fp:List Addr}(h:Reps K U H vs ds fp):∀a∈fp,∃o,H a=some o/\kd o=true/\tf o=false:=
 Reps.rec (motive_1:=fun _ _ fp _=>∀a∈fp,∃o,H a=some o/\kd o=true/\tf o=false) (motive_2:=fun _ _ fp _=>∀a∈fp,∃o,H a=some o/\kd o=true/\tf o=false)
  iY (fun _=>iY) (fun _=>iY) (fun _=>iY) (fun _=>iY) (fun _ _ _=>iY) (fun _ _ _=>iY)
  (fun h _ ih a ha=>(List.mem_cons.mp ha).elim (fun e=>e▸⟨_,h,rfl,rfl⟩) (ih a)) (fun _ _ _=>iY)
  (fun h _ _ ih a ha=>(List.mem_cons.mp ha).elim (fun e=>e▸⟨_,h,rfl,rfl⟩) (ih a)) (fun _ _ _ _=>iY)
  (fun h _ _ ih a ha=>(List.mem_cons.mp ha).elim (fun e=>e▸⟨_,h,rfl,rfl⟩) (ih a)) (fun _ _ _ _=>iY)
  iY (fun _ _ i1 i2 a ha=>(List.mem_append.mp ha).elim (i1 a) (i2 a)) h
theorem Rep.own{v:V}{d:D}{fp:List Addr}(h:Rep K U H v d fp):∀a∈fp,∃o,H a=some o/\kd o=true/\tf o=false:=(Reps.one h).own
theorem Rep.imm{v:V}{d:D}{fp:List Addr}(h:Rep K U H v d fp)(e:d.imm=true):fp=[]:=by
 cases h<;>first|rfl|exact nomatch e
theorem Reps.imm:∀{vs:List V} {ds:List D} {fp:List Addr},Reps K U H vs ds fp->D.imms ds=true->fp=[]
 |_,_,_,.nil,_=>rfl
 |_,_,_,.cons h hs,e=>by
  rw [D.imms,Bool.and_eq_true] at e
  rw [h.imm e.1,Reps.imm hs e.2];rfl
theorem Reps.length:∀{vs:List V} {ds:List D} {fp:List Addr},Reps K U H vs ds fp->vs.length=ds.length
 |_,_,_,.nil=>rfl
 |_,_,_,.cons _ hs=>by rw [List.length_cons,List.length_cons,Reps.length hs]
theorem Reps.get:∀{vs:List V} {ds:List D} {fp:List Addr} {i:Nat} {d:D},Reps K U H vs ds fp->ds[i]? =some d->∃v f,vs[i]? =some v/\Rep K U H v d f/\∀a∈f,a∈fp
 |_,_,_,_,_,.nil,e=>by simp at e
 |_,_,_,0,_,.cons h _,e=>by simp at e;subst e;exact⟨_,_,rfl,h,fun a ha=>List.mem_append_left _ ha⟩
 |_,_,_,i+1,_,.cons _ hs,e=>by
  obtain⟨v,f,h1,h2,h3⟩:=Reps.get (i:=i) hs (by simpa using e)
  exact⟨v,f,by simpa using h1,h2,fun a ha=>List.mem_append_right _ (h3 a ha)⟩
theorem Reps.append:∀{vs:List V} {ds:List D} {f:List Addr} {us:List V} {es:List D} {g:List Addr},Reps K U H vs ds f->Reps K U H us es g->Reps K U H (vs++us) (ds++es) (f++g)
 |_,_,_,_,_,_,.nil,r=>r
 |_,_,_,_,_,_,.cons h hs,r=>by rw [List.append_assoc];exact .cons h (Reps.append hs r)
theorem Reps.split:∀{vs:List V} {d:D} {ds:List D} {fp:List Addr},Reps K U H vs (d::ds) fp->∃v us f g,vs=v::us/\Rep K U H v d f/\Reps K U H us ds g/\fp=f++g
 |_,_,_,_,.cons h hs=>⟨_,_,_,_,rfl,h,hs,rfl⟩
theorem Reps.nilp:∀{vs:List V} {ds:List D},Reps K U H vs ds []->Paired (fun v d=>Rep K U H v d []) vs ds:=by
 intro vs ds h
 generalize e:([]:List Addr)=fp at h
 induction h using Reps.rec (motive_1:=fun _ _ _ _=>True) with
 |nil=>exact .nil
 |cons h hs _ ih=>
  obtain⟨e1,e2⟩:=List.append_eq_nil_iff.mp e.symm
  subst e1;subst e2
  exact .cons h (ih rfl)
 |_=>trivial
theorem Reps.ofp:∀{vs:List V} {ds:List D},Paired (fun v d=>Rep K U H v d []) vs ds->Reps K U H vs ds []
 |_,_,.nil=> .nil
 |_,_,.cons h hs=> .cons (f:=[]) (g:=[]) h (Reps.ofp hs)
end
theorem Paired.takeN{α β:Type}{R:α->β->Prop}:∀{l₁:List α} {l₂:List β} (n:Nat),Paired R l₁ l₂->Paired R (l₁.take n) (l₂.take n)
 |_,_,0,_=> .nil
 |_,_,_+1,.nil=> .nil
 |_,_,n+1,.cons h t=> .cons h (Paired.takeN n t)
theorem Paired.dropN{α β:Type}{R:α->β->Prop}:∀{l₁:List α} {l₂:List β} (n:Nat),Paired R l₁ l₂->Paired R (l₁.drop n) (l₂.drop n)
 |_,_,0,r=>r
 |_,_,_+1,.nil=> .nil
 |_,_,n+1,.cons _ t=>Paired.dropN n t
theorem Paired.app{α β:Type}{R:α->β->Prop}:∀{l₁:List α} {l₂:List β} {m₁:List α} {m₂:List β},Paired R l₁ l₂->Paired R m₁ m₂->Paired R (l₁++m₁) (l₂++m₂)
 |_,_,_,_,.nil,r=>r
 |_,_,_,_,.cons h t,r=> .cons h (Paired.app t r)
structure SameK(H H':Hp):Prop where
 keep:∀a o,H a=some o->kd o=true->H' a=some o
 grow:∀a,H' a=none->H a=none
theorem SameK.refl(H:Hp):SameK H H:=⟨fun _ _ h _=>h,fun _ h=>h⟩
theorem SameK.trans{H H1 H2:Hp}(a:SameK H H1)(b:SameK H1 H2):SameK H H2:=⟨fun c o h k=>b.keep c o (a.keep c o h k) k,fun c h=>a.grow c (b.grow c h)⟩
theorem SameK.of{H H':Hp}(h:yh6 H H'):SameK H H':=⟨fun a o e _=>h a o e,fun a e=>h.free e⟩
theorem SameK.new{H:Hp}{p:Addr}(h:H p=none)(o:HO):SameK H (upd H p o):= .of (ys3 h o)
section
variable{K:tz0}{U:tz9}{H H':Hp}
theorem Rep.same(e:SameK H H'){v:V}{d:D}{fp:List Addr}(r:Rep K U H v d fp):Rep K U H' v d fp:=
 r.move (fun a o h t=>e.keep a o h (nJ t)) fun a ha=>by obtain⟨o,h,k,_⟩:=r.own a ha;rw [h];exact e.keep a o h k
theorem Reps.same(e:SameK H H'){v:List V}{d:List D}{fp:List Addr}(r:Reps K U H v d fp):Reps K U H' v d fp:=
 r.move (fun a o h t=>e.keep a o h (nJ t)) fun a ha=>by obtain⟨o,h,k,_⟩:=r.own a ha;rw [h];exact e.keep a o h k
end
theorem PE.imp{X:Cx}{e:Expr}{t t':TE}(h:PE X e t)(k:∀σ H Q,t' σ H Q->t σ H Q):PE X e t':=fun pins s σ H Q I q=>h pins s σ H Q I (k σ H Q q)
theorem PT.imp{X:Cx}{e:Expr}{t t':TT}(h:PT X e t)(k:∀σ H Q,t' σ H Q->t σ H Q):PT X e t':=fun pins s σ H Q I q=>h pins s σ H Q I (k σ H Q q)
theorem PW.imp{X:Cx}{e:Expr}{t t':TT}(h:PW X e t)(k:∀σ H Q,t' σ H Q->t σ H Q):PW X e t':=fun wh pins s σ H Q I q=>h wh pins s σ H Q I (k σ H Q q)
theorem PA.imp{X:Cx}{e:List Expr}{t t':TA}(h:PA X e t)(k:∀σ H Q,t' σ H Q->t σ H Q):PA X e t':=fun pos pins s σ H Q I q=>h pos pins s σ H Q I (k σ H Q q)
theorem PS.imp{X:Cx}{st:Stmt}{t t':TS}(h:PS X st t)(k:∀D σ H,t' D σ H->t D σ H):PS X st t':=fun pins s σ H D I q=>h pins s σ H D I (k D σ H q)
theorem PSs.imp{X:Cx}{st:List Stmt}{t t':TS}(h:PSs X st t)(k:∀D σ H,t' D σ H->t D σ H):PSs X st t':=fun pins s σ H D I q=>h pins s σ H D I (k D σ H q)
abbrev PSt:=List (Option D)
abbrev _root_.tz7:=List D->Option (D×List D)
abbrev _root_.tz8:=PSt->Option (D×PSt)
abbrev _root_.tz3:=PSt->Option (List D)
abbrev _root_.tz4:=PSt->Option Bool
abbrev _root_.tz6:=List D->Option D
abbrev _root_.tz2:=PSt->Option D
abbrev _root_.tz5:=PSt->Bool
def WS(K:tz0)(U:tz9)(H:Hp)(σ:St)(ps:PSt):Prop:=∀(i:Nat) (d:D),ps[i]? =some (some d)->∃v fp,σ[i]? =some (some v)/\Rep K U H v d fp
theorem WS.same{K:tz0}{U:tz9}{H H':Hp}{σ:St}{ps:PSt}(w:WS K U H σ ps)(e:SameK H H'):WS K U H' σ ps:=fun i d h=>by
 obtain⟨v,fp,h1,h2⟩:=w i d h
 exact⟨v,fp,h1,h2.same e⟩
def lK(K:tz0)(U:tz9)(H:Hp)(d:D)(Q:VK):Prop:=∀v H' fv,SameK H H'->(∀a∈fv,H a=none)->fv.Nodup->Rep K U H' v d fv->Q v H'
def xl6(K:tz0)(U:tz9)(H:Hp)(d:D)(Q:VK):Prop:=∀v H' fp,SameK H H'->Rep K U H' v d fp->Q v H'
def tV(K:tz0)(U:tz9)(f:tz2):TE:=fun σ H Q=>∃ps d,WS K U H σ ps/\f ps=some d/\xl6 K U H d Q
def tP(K:tz0)(U:tz9)(f:tz2):TE:=fun σ H Q=>∃ps d,WS K U H σ ps/\f ps=some d/\lK K U H d Q
def tQ(K:tz0)(U:tz9)(f:tz4):TT:=fun σ H Q=>∃ps b,WS K U H σ ps/\f ps=some b/\∀H',SameK H H'->Q b H'
def tVA(K:tz0)(U:tz9)(f:tz3):TA:=fun σ H Q=>∃ps ds,WS K U H σ ps/\f ps=some ds/\∀vs H' fp,SameK H H'->Reps K U H' vs ds fp->Q vs H'
def tPA(K:tz0)(U:tz9)(f:tz3):TA:=fun σ H Q=>∃ps ds,WS K U H σ ps/\f ps=some ds/\∀vs H' fv,SameK H H'->(∀a∈fv,H a=none)->fv.Nodup->Reps K U H' vs ds fv->Q vs H'
abbrev QV(X:Cx)(U:tz9)(e:Expr)(f:tz2):Prop:=PE X e (tV X.K U f)
abbrev QP(X:Cx)(U:tz9)(e:Expr)(f:tz2):Prop:=PE X e (tP X.K U f)
abbrev QT(X:Cx)(U:tz9)(e:Expr)(f:tz4):Prop:=PT X e (tQ X.K U f)
abbrev QW(X:Cx)(U:tz9)(e:Expr)(f:tz4):Prop:=PW X e (tQ X.K U f)
abbrev QVA(X:Cx)(U:tz9)(es:List Expr)(f:tz3):Prop:=PA X es (tVA X.K U f)
abbrev QPA(X:Cx)(U:tz9)(es:List Expr)(f:tz3):Prop:=PA X es (tPA X.K U f)
theorem lK.see{K:tz0}{U:tz9}{H:Hp}{d:D}{Q:VK}(h:xl6 K U H d Q):lK K U H d Q:=fun v H' fv s _ _ r=>h v H' fv s r
theorem lK.after{K:tz0}{U:tz9}{H H1:Hp}{d:D}{Q:VK}(h:lK K U H d Q)(s:SameK H H1):lK K U H1 d Q:=
 fun v H' fv s' n nd r=>h v H' fv (s.trans s') (fun a ha=>s.grow a (n a ha)) nd r
theorem lK.now{K:tz0}{U:tz9}{H:Hp}{d:D}{Q:VK}{v:V}(h:lK K U H d Q)(r:Rep K U H v d []):Q v H:=h v H [] (.refl H) (fun _ h=>absurd h (by simp)) List.nodup_nil r
theorem lK.at{K:tz0}{U:tz9}{H:Hp}{d:D}{Q:VK}{p:Addr}{o:HO}{fv:List Addr}(h:lK K U H d Q)(hp:H p=none)(hn:∀a∈fv,H a=none)(nd:fv.Nodup)(r:Rep K U (upd H p o) (.ref p) d fv):Q (.ref p) (upd H p o):=
 h _ _ fv (.new hp o) hn nd r
section
variable{X:Cx}{U:tz9}{e a b:Expr}{f fa fb:tz2}
theorem QP.v(h:QP X U e f):QV X U e f:=h.imp fun _ _ _ ⟨ps,d,w,e,q⟩=>⟨ps,d,w,e,.see q⟩
def aY(f:tz2):tz2:=fun ps=>(f ps).bind fun d=>if d.imm=true then some d else none
theorem QV.p(h:QV X U e f):QP X U e (aY f):=h.imp fun σ H Q hh_=>by
 obtain⟨ps,d,w,e,q⟩:=hh_
 unfold aY at e
 cases e1:f ps with
 |none=>rw [e1] at e;cases e
 | some d1=>
  rw [e1] at e
  by_cases hi:d1.imm=true
  ·have e2:d1=d:=by simpa [hi] using e
   subst e2
   refine⟨ps,d1,w,e1,fun v H' fp s r=> ?_⟩
   have:=r.imm hi;subst this
   exact q v H' [] s (fun _ h=>absurd h (by simp)) List.nodup_nil r
  ·simp [hi] at e
def aA(i:Nat):tz2:=fun ps=>(ps[i]?).join
theorem aC(i:Nat){x:Str}{pos:Pos}(hN:X.N[i]? =some x:=by rfl)(hv:Vis X.env.scope x:=by first|exact Or.inl rfl|exact Or.inr (Or.inl rfl)|exact Or.inr (Or.inr rfl))(hd:(x==("__debug__":Str))=false:=by decide)
  (hcd:(x==("__classdict__":Str))=false:=by decide):QV X U (.Name x pos) (aA i):=(lS hN hv hd hcd).imp fun σ H Q hh_=>by
 obtain⟨ps,d,w,e,q⟩:=hh_
 have e':ps[i]? =some (some d):=by
  unfold aA at e
  cases q:ps[i]? with
  |none=>rw [q] at e;cases e
  |some o=>rw [q] at e;exact congrArg some e
 obtain⟨v,fp,h1,h2⟩:=w i d e'
 exact⟨v,h1,q v H fp (.refl H) h2⟩
def fC(d:D):tz2:=fun _=>some d
theorem aG{i j pos}:QP X U (.Constant (.int i) j pos) (fC (.int i)):=jJ.imp fun σ H Q ⟨ps,d,w,e,q⟩=>by cases e;exact q _ H [] (.refl H) (fun _ h=>absurd h (by simp)) List.nodup_nil (.int i)
theorem bS{x j pos}:QP X U (.Constant (.str x) j pos) (fC (.str x)):=yi7.imp fun σ H Q ⟨ps,d,w,e,q⟩=>by cases e;exact q _ H [] (.refl H) (fun _ h=>absurd h (by simp)) List.nodup_nil (.str x)
theorem iI{b j pos}:QP X U (.Constant (.bool b) j pos) (fC (.bl b)):=yx9.imp fun σ H Q ⟨ps,d,w,e,q⟩=>by cases e;exact q _ H [] (.refl H) (fun _ h=>absurd h (by simp)) List.nodup_nil (.bl b)
theorem oC{j pos}:QP X U (.Constant .none j pos) (fC .non):=yi6.imp fun σ H Q ⟨ps,d,w,e,q⟩=>by cases e;exact q _ H [] (.refl H) (fun _ h=>absurd h (by simp)) List.nodup_nil .non
theorem zg8{x:Str}{v:V}{u:Value}{d:D}{pos:Pos}(hg:Gl X x)(hm:X.mg x=some u)(r:dD v u)(hd:∀H,Rep X.K U H v d [])(hdb:(x==("__debug__":Str))=false:=by decide):QP X U (.Name x pos) (fC d):=
 (qQ hg hm r hdb).imp fun σ H Q ⟨ps,d,w,e,q⟩=>by cases e;exact q _ H [] (.refl H) (fun _ h=>absurd h (by simp)) List.nodup_nil (hd H)
theorem zn9{x:Str}{n:String}{pos:Pos}(hg:Gl X x)(hm:X.mg x=none)(hv:bootBuiltins x=some (.type n))(hn:x≠"__name__":=by decide)(hd:(x==("__debug__":Str))=false:=by decide):QP X U (.Name x pos) (fC (.ty n)):=
 (xK (v:= .ty n) hg hm hv rfl hn hd).imp fun σ H Q ⟨ps,d,w,e,q⟩=>by cases e;exact q _ H [] (.refl H) (fun _ h=>absurd h (by simp)) List.nodup_nil (.ty n)
def f2(g:D->D->Option D)(fa fb:tz2):tz2:=fun ps=>(fa ps).bind fun x=>(fb ps).bind fun y=>g x y
def POp(K:tz0)(U:tz9)(g:D->D->Option D):R2:=fun x y H Q=>∃dx dy d fx fy,Rep K U H x dx fx/\Rep K U H y dy fy/\g dx dy=some d/\lK K U H d Q
theorem zg9{g:D->D->Option D}{fa fb:tz2}{ps:PSt}{d:D}(h:f2 g fa fb ps=some d):∃x y,fa ps=some x/\fb ps=some y/\g x y=some d:=by
 unfold f2 at h
 cases e1:fa ps with
 |none=>rw [e1] at h;cases h
 |some x=>
  rw [e1] at h
  cases e2:fb ps with
  |none=>rw [e2] at h;cases h
  |some y=>rw [e2] at h;exact⟨x,y,rfl,rfl,h⟩
theorem zq2{r:R2}{g:D->D->Option D}{σ:St}{H:Hp}{Q:VK}(hr:∀x y H Q,POp X.K U g x y H Q->r x y H Q)(h:tP X.K U (f2 g fa fb) σ H Q):tOp r (tV X.K U fa) (tV X.K U fb) σ H Q:=by
 obtain⟨ps,d,w,e,q⟩:=h
 obtain⟨x,y,e1,e2,e3⟩:=zg9 e
 exact⟨ps,x,w,e1,fun v H1 fp s1 r1=>⟨ps,y,w.same s1,e2,fun u H2 fq s2 r2=>hr _ _ _ _ ⟨x,y,d,fp,fq,r1.same s2,r2,e3,q.after (s1.trans s2)⟩⟩⟩
theorem bM{op:Operator}{g:D->D->Option D}{pos:Pos}(ho:OpR X (binaryOp op) (POp X.K U g))(ha:QV X U a fa)(hb:QV X U b fb):QP X U (.BinOp a op b pos) (f2 g fa fb):=
 (gY ho ha hb).imp fun _ _ _ h=>zq2 (fun _ _ _ _ h=>h) h
theorem qZ{op:CmpOp}{g:D->D->Option D}{pos:Pos}(ho:OpR X (compareOp op) (POp X.K U g))(ha:QV X U a fa)(hb:QV X U b fb)(hm:behindInMarks op b=false):QP X U (.Compare a [op] [b] pos) (f2 g fa fb):=
 (zy6 ho ha hb hm).imp fun _ _ _ h=>zq2 (fun _ _ _ _ h=>h) h
def dB:D->Option Bool
 | .bl b=>some b
 |_=>none
def fB(f:tz2):tz4:=fun ps=>(f ps).bind dB
theorem xa9{f:tz2}{ps:PSt}{b:Bool}(h:fB f ps=some b):f ps=some (.bl b):=by
 unfold fB at h
 cases e:f ps with
 |none=>rw [e] at h;cases h
 |some d=>rw [e] at h;cases d<;>first|(cases h;rfl)|cases h
theorem Rep.is_bl{K:tz0}{H:Hp}{v:V}{b:Bool}{fp:List Addr}(r:Rep K U H v (.bl b) fp):v= .bl b:=by cases r;rfl
theorem Rep.is_int{K:tz0}{H:Hp}{v:V}{b:Int}{fp:List Addr}(r:Rep K U H v (.int b) fp):v= .int b:=by cases r;rfl
theorem Rep.is_str{K:tz0}{H:Hp}{v:V}{b:Str}{fp:List Addr}(r:Rep K U H v (.str b) fp):v= .str b:=by cases r;rfl
theorem bU{op:CmpOp}{g:D->D->Option D}{pos:Pos}(ho:OpR X (compareOp op) (POp X.K U g))(ha:QV X U a fa)(hb:QV X U b fb)(hm:behindInMarks op b=false):QT X U (.Compare a [op] [b] pos) (fB (f2 g fa fb)):=
 (zy7 ho ha hb hm).imp fun σ H Q ⟨ps,c,w,e,q⟩=>zq2 (Q:=fun x H'=>∃k,x= .bl k/\Q k H') (fun _ _ _ _ h=>h) ⟨ps,_,w,xa9 e,fun v H' fv s _ _ r=>⟨c,r.is_bl,q H' s⟩⟩
def cP:D->Option Bool
 | .non=>some false
 | .bl b=>some b
 | .int i=>some (i !=0)
 | .str y=>if y.length<=sizeLine then some ((y.length:Int) !=0) else none
 | .lst _ xs=>some (!xs.isEmpty)
 | .tup xs=>some (!xs.isEmpty)
 | .con xs=>some (!xs.isEmpty)
 |_=>none
theorem oE{K:tz0}{H:Hp}{vs:List V}{ds:List D}{fp:List Addr}(r:Reps K U H vs ds fp):ds.isEmpty=vs.isEmpty:=by cases r<;>rfl
theorem zz2{K:tz0}{H:Hp}{v:V}{d:D}{fp:List Addr}{b:Bool}(r:Rep K U H v d fp)(h:cP d=some b):yx5 K v H b:=by
 cases r with
 |non=>cases h;rfl
 |bl b=>cases h;rfl
 |int i=>cases h;rfl
 |str x=>
  rw [cP] at h
  split at h
  ·cases h;exact⟨by assumption,rfl⟩
  ·cases h
 |tup s rs=>cases h;exact .inr (.inl ⟨_,s,by rw [oE rs]⟩)
 |con s rs=>cases h;exact .inl ⟨_,s.l,by rw [oE rs]⟩
 |lst s rs=>cases h;exact .inl ⟨_,.inl (.inl s),by rw [oE rs]⟩
 |lstF s rs=>cases h;exact .inl ⟨_,.inl (.inr ⟨_,s⟩),by rw [oE rs]⟩
 |_=>cases h
def fT(f:tz2):tz4:=fun ps=>(f ps).bind cP
theorem xb0{f:tz2}{ps:PSt}{b:Bool}(h:fT f ps=some b):∃d,f ps=some d/\cP d=some b:=by
 unfold fT at h
 cases e:f ps with
 |none=>rw [e] at h;cases h
 |some d=>rw [e] at h;exact⟨d,rfl,h⟩
theorem fF(ha:QV X U a fa)(he:∀whole,isTrue a X.env whole=(do let v<-whole;standAt a.pos;holding [v] (truthy v)):=by intro _;rfl):QT X U a (fT fa):=
 (zp6 ha he).imp fun σ H Q hh_=>by
  obtain⟨ps,c,w,e,q⟩:=hh_
  obtain⟨d,e1,e2⟩:=xb0 e
  exact⟨ps,d,w,e1,fun v H' fp s r=>⟨c,zz2 r e2,q H' s⟩⟩
def cF(f g:tz4):tz4:=fun ps=>(f ps).bind fun c=>if c=true then g ps else some false
def eH(f g:tz4):tz4:=fun ps=>(f ps).bind fun c=>if c=true then some true else g ps
def dE(f:tz4):tz4:=fun ps=>(f ps).map (!·)
variable{pos:Pos}{rest:List Expr}{ta tb:tz4}
theorem gH(ha:QT X U a ta):QW X U (.BoolOp .And [a] pos) ta:=yz7 ha
theorem rA(ha:QT X U a ta):QW X U (.BoolOp .Or [a] pos) ta:=yi9 ha
theorem hZ(ha:QT X U a ta)(hb:QW X U (.BoolOp .And (b::rest) pos) tb):QW X U (.BoolOp .And (a::b::rest) pos) (cF ta tb):=
 (xe9 ha hb).imp fun σ H Q hh_=>by
  obtain⟨ps,c,w,e,q⟩:=hh_
  unfold cF at e
  cases e1:ta ps with
  |none=>rw [e1] at e;cases e
  | some k=>
   rw [e1] at e
   refine⟨ps,k,w,e1,fun H1 s1=> ?_⟩
   cases k with
   |true=>rw [if_pos rfl];exact⟨ps,c,w.same s1,by simpa using e,fun H2 s2=>q H2 (s1.trans s2)⟩
   |false=>
    rw [if_neg Bool.false_ne_true]
    have:c=false:=by simpa using e.symm
    subst this;exact q H1 s1
theorem uF(ha:QT X U a ta)(hb:QW X U (.BoolOp .Or (b::rest) pos) tb):QW X U (.BoolOp .Or (a::b::rest) pos) (eH ta tb):=
 (yc0 ha hb).imp fun σ H Q hh_=>by
  obtain⟨ps,c,w,e,q⟩:=hh_
  unfold eH at e
  cases e1:ta ps with
  |none=>rw [e1] at e;cases e
  | some k=>
   rw [e1] at e
   refine⟨ps,k,w,e1,fun H1 s1=> ?_⟩
   cases k with
   |true=>
    rw [if_pos rfl]
    have:c=true:=by simpa using e.symm
    subst this;exact q H1 s1
   |false=>rw [if_neg Bool.false_ne_true];exact⟨ps,c,w.same s1,by simpa using e,fun H2 s2=>q H2 (s1.trans s2)⟩
theorem jW(h:QW X U a ta):QT X U a ta:=PW.pt h
theorem jX(ha:QT X U a ta):QT X U (.UnaryOp .Not a pos) (dE ta):=
 (zZ ha).imp fun σ H Q hh_=>by
  obtain⟨ps,c,w,e,q⟩:=hh_
  unfold dE at e
  cases e1:ta ps with
  |none=>rw [e1] at e;cases e
  |some k=>
   rw [e1] at e
   have:c= !k:=by simpa using e.symm
   subst this
   exact⟨ps,k,w,e1,fun H1 s1=>q H1 s1⟩
def qG(f g:tz2):tz2:=fun ps=>(f ps).bind fun c=>match c with
 | .bl true=>g ps
 | .bl false=>some (.bl false)
 |_=>none
def fOr(f g:tz2):tz2:=fun ps=>(f ps).bind fun c=>match c with
 | .bl true=>some (.bl true)
 | .bl false=>g ps
 |_=>none
theorem yy1{d:D}{α:Type}{x y:Option α}{z:α}(h:(match d with| .bl true=>x| .bl false=>y|_=>none)=some z):∃b,d= .bl b/\(if b=true then x else y)=some z:=by
 cases d with
 |bl b=>cases b<;>exact⟨_,rfl,h⟩
 |_=>cases h
theorem vZ{op}(h:QP X U a fa):QP X U (.BoolOp op [a] pos) fa:=xf0 h
theorem za8(ha:QP X U a fa)(hb:QP X U (.BoolOp .And (b::rest) pos) fb):QP X U (.BoolOp .And (a::b::rest) pos) (qG fa fb):=
 (xf1 ha hb).imp fun σ H Q hh_=>by
  obtain⟨ps,d,w,e,q⟩:=hh_
  unfold qG at e
  cases e1:fa ps with
  |none=>rw [e1] at e;cases e
  | some k=>
   rw [e1] at e
   obtain⟨c,rfl,e2⟩:=yy1 (x:=fb ps) (y:=some (.bl false)) e
   refine⟨ps,_,w,e1,fun v H1 fv s1 _ _ r1=>⟨c,r1.is_bl,?_⟩⟩
   cases c with
   |true=>rw [if_pos rfl] at e2|-;exact⟨ps,d,w.same s1,e2,q.after s1⟩
   |false=>
    rw [if_neg Bool.false_ne_true] at e2|-
    cases e2;exact(q.after s1).now (.bl false)
theorem ye3(ha:QP X U a fa)(hb:QP X U (.BoolOp .Or (b::rest) pos) fb):QP X U (.BoolOp .Or (a::b::rest) pos) (fOr fa fb):=
 (xm1 ha hb).imp fun σ H Q hh_=>by
  obtain⟨ps,d,w,e,q⟩:=hh_
  unfold fOr at e
  cases e1:fa ps with
  |none=>rw [e1] at e;cases e
  |some k=>
   rw [e1] at e
   obtain⟨c,rfl,e2⟩:=yy1 (d:=k) (x:=some (D.bl true)) (y:=fb ps) (z:=d) e
   refine⟨ps,_,w,e1,fun v H1 fv s1 _ _ r1=>⟨c,r1.is_bl,?_⟩⟩
   cases c with
   |true=>rw [if_pos rfl] at e2|-;cases e2;exact(q.after s1).now (.bl true)
   |false=>rw [if_neg Bool.false_ne_true] at e2|-;exact⟨ps,d,w.same s1,e2,q.after s1⟩
def eO(f:tz2):tz2:=fun ps=>(f ps).bind fun c=>match c with
 | .int i=>some (.int (-i))
 |_=>none
theorem lT(ha:QV X U a fa):QP X U (.UnaryOp .USub a pos) (eO fa):=
 (xm2 xf8 ha).imp fun σ H Q hh_=>by
  obtain⟨ps,d,w,e,q⟩:=hh_
  unfold eO at e
  cases e1:fa ps with
  |none=>rw [e1] at e;cases e
  |some k=>
   rw [e1] at e
   cases k with
   |int i=>cases e;exact⟨ps,_,w,e1,fun v H1 fp s1 r1=>⟨i,r1.is_int,(q.after s1).now (.int _)⟩⟩
   |_=>cases e
end
section
variable{X:Cx}{U:tz9}
theorem Inv.lstR{pins:tzB}{σ:St}{H:Hp}{s:Shared}{l:Addr}{xs:List V}(I:Inv X pins σ H s)(h:Rd H l (.lst xs)):
  xs.length<=sizeLine/\∃(its:List Value) (n:Nat),cD xs its/\xs.length=its.length/\s.heap.get? l=some {cls:= .type "list",data:= .seq its.toArray n}:=by
 obtain⟨z,its,n,r,e⟩:=h.ok I.hok
 exact⟨z,its,n,r,r.length,e⟩
theorem xb1:OpR X (binaryOp .Add) (fun x y H Q=>∃l b xs zs,x= .ref l/\y= .ref b/\Rd H l (.lst xs)/\Rd H b (.lst zs)/\xs.length+zs.length<=sizeLine/\∀p,H p=none->Q (.ref p) (upd H p (.lst (xs++zs)))):=by
 intro pins s σ H x y v u Q I rx ry h
 obtain⟨l,b,xs,zs,rfl,rfl,hH,hB,hz,q⟩:=h
 cases rx
 cases ry
 obtain⟨z,its,n,r,hl,e⟩:=I.lstR hH
 obtain⟨z2,its2,n2,r2,hl2,e2⟩:=I.lstR hB
 refine PySem.P.add_list e e2 ?_ (by rw [List.size_toArray,List.size_toArray];omega)
 have ea:its.toArray++its2.toArray=(its++its2).toArray:=by simp
 rw [ea]
 exact⟨.ref _,_,I.lnew (t':=s.toks) (r.append r2) (by rw [List.length_append];omega),rfl,q _ I.fresh⟩
theorem ys6:OpR X (binaryOp .Add) (fun x y H Q=>∃a b ys,x= .ref a/\y= .ref b/\SqT X.K H a []/\SqT X.K H b ys/\Q (.ref b) H):=by
 intro pins s σ H x y v u Q I rx ry h
 obtain⟨a,b,ys,rfl,rfl,ha,hb,q⟩:=h
 cases rx
 cases ry
 obtain⟨its,r1,p1,_⟩:=I.tuple ha
 obtain⟨its2,r2,p2,_⟩:=I.tuple hb
 cases r1
 obtain⟨⟨cls,dd,data,sl⟩,ho,hc,n,hd⟩:=id p1
 obtain⟨⟨cls2,dd2,data2,sl2⟩,ho2,hc2,n2,hd2⟩:=id p2
 simp only at hc hd hc2 hd2
 subst hc hd hc2 hd2
 exact concat_meets ⟨_,ho,rfl⟩ ⟨_,ho2,rfl⟩ noFill_tuple_add seq_tuple_add PySem.F.slot_tuple_add PySem.F.entry_tuple_add (PySem.F.args_tuple_add_2 _ _)
   (tuple_addW0 a b _ _ n n2 dd dd2 sl sl2 rfl) ⟨ho,ho2,⟨.ref b,H,I,rfl,q⟩⟩
theorem Rep.lst_inv{K:tz0}{H:Hp}{v:V}{o:Bool}{ds:List D}{fp:List Addr}(r:Rep K U H v (.lst o ds) fp):∃a vs g,v= .ref a/\Rd H a (.lst vs)/\Reps K U H vs ds g/\g.Sublist fp:=by
 cases r with
 |lst h hs=>exact⟨_,_,_,rfl,.inl h,hs,List.sublist_cons_self _ _⟩
 |lstF h hs=>exact⟨_,_,_,rfl,.inr ⟨_,h⟩,hs,.refl _⟩
theorem Rep.lstT_inv{K:tz0}{H:Hp}{v:V}{ds:List D}{fp:List Addr}(r:Rep K U H v (.lst true ds) fp):∃a vs g,v= .ref a/\H a=some (.lst vs)/\Reps K U H vs ds g/\fp=a::g:=by
 cases r with
 |lst h hs=>exact⟨_,_,_,rfl,h,hs,rfl⟩
theorem Rep.objT_inv{K:tz0}{H:Hp}{v:V}{C:Str}{ns:List Str}{ds:List D}{fp:List Addr}(r:Rep K U H v (.obj true C ns ds) fp):∃a dx fs g,v= .ref a/\H a=some (.ins (U C) dx fs)/\fs.map (·.1)=ns/\Reps K U H (fs.map (·.2)) ds g/\fp=a::g:=by
 cases r with
 |obj h e hs=>exact⟨_,_,_,_,rfl,h,e,hs,rfl⟩
theorem Rep.tup_inv{K:tz0}{H:Hp}{v:V}{ds:List D}{fp:List Addr}(r:Rep K U H v (.tup ds) fp):∃a vs,v= .ref a/\SqT K H a vs/\Reps K U H vs ds []:=by
 cases r with
 |tup h hs=>exact⟨_,_,rfl,h,hs⟩
theorem Reps.pair{K:tz0}{H:Hp}{vs:List V}{ds:List D}{fp:List Addr}(r:Reps K U H vs ds fp)(h:D.imms ds=true):Paired (fun v d=>Rep K U H v d []) vs ds:=by
 have e:=r.imm h
 subst e
 exact r.nilp
theorem Rep.con_inv{K:tz0}{H:Hp}{v:V}{ds:List D}{fp:List Addr}(r:Rep K U H v (.con ds) fp):∃a vs,v= .ref a/\SqF K H a vs/\Reps K U H vs ds []:=by
 cases r with
 |con h hs=>exact⟨_,_,rfl,h,hs⟩
theorem xO{K:tz0}{H:Hp}{vs:List V}{ds:List D}{Q:VK}{p:Addr}(hp:H p=none)(r:Paired (fun v d=>Rep K U H v d []) vs ds)(q:lK K U H (.lst true ds) Q):Q (.ref p) (upd H p (.lst vs)):=
 q.at hp (fv:=[p]) (fun a ha=>by simp at ha;subst ha;exact hp) (by simp) (.lst eM ((Reps.ofp r).same (.new hp _)))
theorem xP{K:tz0}{H:Hp}{vs:List V}{ds:List D}{Q:VK}{p:Addr}(hp:H p=none)(r:Paired (fun v d=>Rep K U H v d []) vs ds)(q:lK K U H (.tup ds) Q):Q (.ref p) (upd H p (.tup vs)):=
 q.at hp (fv:=[]) (fun a ha=>by simp at ha) (by simp) (.tup (.inl (.inl eM)) ((Reps.ofp r).same (.new hp _)))
def bE:D->D->Option D
 | .int i,.int j=>some (.int (i+j))
 | .str x,.str y=>if x.length+y.length<=sizeLine then some (.str (x++y)) else none
 | .lst _ xs,.lst _ ys=>if (D.imms xs&&D.imms ys&&decide (xs.length+ys.length<=sizeLine))=true then some (.lst true (xs++ys)) else none
 | .tup xs,.tup ys=>if xs.length+ys.length<=sizeLine then some (.tup (xs++ys)) else none
 |_,_=>none
theorem bind_some{α β:Type}{o:Option α}{g:α->Option β}{z:β}(h:o.bind g=some z):∃x,o=some x/\g x=some z:=by
 cases o with
 |none=>cases h
 |some x=>exact⟨x,rfl,h⟩
theorem cN{α:Type}{c:Prop}[Decidable c]{x:Option α}{z:α}(h:(if c then x else none)=some z):c/\x=some z:=by
 by_cases k:c
 ·rw [if_pos k] at h;exact⟨k,h⟩
 ·rw [if_neg k] at h;cases h
theorem eP:OpR X (binaryOp .Add) (POp X.K U bE):=by
 rintro pins s σ H x y v u Q I rx ry ⟨dx,dy,d,fx,fy,r1,r2,e,q⟩
 unfold bE at e
 split at e
 ·rename_i i j
  cases e;exact tH pins s σ H x y v u Q I rx ry ⟨i,j,r1.is_int,r2.is_int,q.now (.int _)⟩
 ·rename_i i j
  obtain⟨hc,e⟩:=cN e
  cases e;exact yc8 pins s σ H x y v u Q I rx ry ⟨i,j,r1.is_str,r2.is_str,hc,q.now (.str _)⟩
 ·rename_i o xs o' ys
  obtain⟨hc,e⟩:=cN e
  simp only [Bool.and_eq_true,decide_eq_true_eq] at hc
  cases e
  obtain⟨a,vs,g,rfl,h1,s1,_⟩:=r1.lst_inv
  obtain⟨b,us,g',rfl,h2,s2,_⟩:=r2.lst_inv
  exact xb1 pins s σ H _ _ v u Q I rx ry ⟨a,b,vs,us,rfl,rfl,h1,h2,by rw [s1.length,s2.length];exact hc.2,fun p hp=>xO hp (Paired.app (s1.pair hc.1.1) (s2.pair hc.1.2)) q⟩
 ·rename_i xs ys
  obtain⟨hc,e⟩:=cN e
  cases e
  obtain⟨a,vs,rfl,h1,s1⟩:=r1.tup_inv
  obtain⟨b,us,rfl,h2,s2⟩:=r2.tup_inv
  have l1:=s1.length;have l2:=s2.length
  cases vs with
  |nil=>
   cases s1
   exact ys6 pins s σ H _ _ v u Q I rx ry ⟨a,b,us,rfl,rfl,h1,h2,q.now (.tup h2 s2)⟩
  |cons w ws=>
   refine xa4 pins s σ H _ _ v u Q I rx ry ⟨a,b,_,us,rfl,rfl,h1,h2,by simp,by omega,fun z=> ?_,fun z p hp=>xP hp (Paired.app s1.nilp s2.nilp) q⟩
   subst z
   cases s2
   rw [List.append_nil] at q
   exact q.now (.tup h1 s1)
 ·cases e
def dII(C:Int->Int->Bool)(g:Int->Int->D):D->D->Option D
 | .int i,.int j=>if C i j=true then some (g i j) else none
 |_,_=>none
theorem yZ{C:Int->Int->Bool}{g:Int->Int->D}{x y d:D}(h:dII C g x y=some d):∃i j,x= .int i/\y= .int j/\C i j=true/\d=g i j:=by
 unfold dII at h
 split at h
 ·obtain⟨hc,h⟩:=cN h
  cases h;exact⟨_,_,rfl,rfl,hc,rfl⟩
 ·cases h
def fQ:D->D->Option D
 | .int i,.int j=>some (.int (i-j))
 |_,_=>none
theorem sA:OpR X (binaryOp .Sub) (POp X.K U fQ):=by
 rintro pins s σ H x y v u Q I rx ry ⟨dx,dy,d,fx,fy,r1,r2,e,q⟩
 unfold fQ at e
 split at e
 ·rename_i i j
  cases e;exact xf5 pins s σ H x y v u Q I rx ry ⟨i,j,r1.is_int,r2.is_int,q.now (.int _)⟩
 ·cases e
def wX(i j:Int):Bool:=(decide (-(2^64)<i)&&decide (i<2^64))||(decide (-(2^64)<j)&&decide (j<2^64))
def jN:D->D->Option D
 | .int i,.int j=>if wX i j=true then some (.int (i*j)) else none
 | .str x,.int n=>if (decide (x.length<=1)&&decide (-(2^63)<=n)&&decide (n<=16777216))=true then some (.str (Txt.mul x n)) else none
 |_,_=>none
theorem ye4:OpR X (binaryOp .Mult) (fun x y H Q=>∃z n,x= .str z/\y= .int n/\MulOk z n/\Q (.str (Txt.mul z n)) H):=by
 rintro pins s σ H x y v u Q I rx ry ⟨z,n,e1,e2,ok,q⟩
 subst e1 e2
 obtain⟨t,rfl⟩:=rx
 obtain⟨t',rfl⟩:=ry
 exact SB.mul ok fun t' k=>⟨.str _,H,I.tok k,⟨_,rfl⟩,q⟩
theorem sB:OpR X (binaryOp .Mult) (POp X.K U jN):=by
 rintro pins s σ H x y v u Q I rx ry ⟨dx,dy,d,fx,fy,r1,r2,e,q⟩
 unfold jN at e
 split at e
 ·rename_i i j
  obtain⟨hc,e⟩:=cN e
  cases e
  refine oA pins s σ H x y v u Q I rx ry ⟨i,j,r1.is_int,r2.is_int,?_,q.now (.int _)⟩
  unfold wX at hc
  simp only [Bool.or_eq_true,Bool.and_eq_true,decide_eq_true_eq] at hc
  exact hc
 ·rename_i z n
  obtain⟨hc,e⟩:=cN e
  simp only [Bool.and_eq_true,decide_eq_true_eq] at hc
  cases e
  exact ye4 pins s σ H _ _ v u Q I rx ry ⟨z,n,r1.is_str,r2.is_int,mulOk_of 1 16777216 hc.1.1 (by omega) hc.1.2 (by decide) (by decide),q.now (.str _)⟩
 ·cases e
def cU:D->D->Option D:=dII (fun _ j=>decide (0<j)) fun i j=> .int (i % j)
theorem fA:OpR X (binaryOp .Mod) (POp X.K U cU):=by
 rintro pins s σ H x y v u Q I rx ry ⟨dx,dy,d,fx,fy,r1,r2,e,q⟩
 obtain⟨i,j,rfl,rfl,hc,rfl⟩:=yZ e
 exact za1 pins s σ H x y v u Q I rx ry ⟨i,j,r1.is_int,r2.is_int,of_decide_eq_true hc,q.now (.int _)⟩
def gM:D->D->Option D:=dII (fun _ j=>decide (0<j)&&decide (j<1073741824)) fun i j=> .int (i/j)
theorem lM:OpR X (binaryOp .FloorDiv) (POp X.K U gM):=by
 rintro pins s σ H x y v u Q I rx ry ⟨dx,dy,d,fx,fy,r1,r2,e,q⟩
 obtain⟨i,j,rfl,rfl,hc,rfl⟩:=yZ e
 simp only [Bool.and_eq_true,decide_eq_true_eq] at hc
 exact zy2 pins s σ H x y v u Q I rx ry ⟨i,j,r1.is_int,r2.is_int,hc,q.now (.int _)⟩
def yh7:D->D->Option D:=dII (fun i j=>decide (0<=j)&&decide (j<=1000000)&&decide (i.natAbs<2^64)) fun i j=> .int (i^j.toNat)
theorem ye5:OpR X (binaryOp .Pow) (POp X.K U yh7):=by
 rintro pins s σ H x y v u Q I rx ry ⟨dx,dy,d,fx,fy,r1,r2,e,q⟩
 obtain⟨i,j,rfl,rfl,hc,rfl⟩:=yZ e
 simp only [Bool.and_eq_true,decide_eq_true_eq] at hc
 exact xf6 pins s σ H x y v u Q I rx ry ⟨i,j,r1.is_int,r2.is_int,⟨hc.1.1,hc.1.2,hc.2⟩,q.now (.int _)⟩
def D.ints:List D->Option (List Int)
 |[]=>some []
 | .int i::ds=>(D.ints ds).map (i::·)
 |_::_=>none
theorem zh0{K:tz0}{H:Hp}:∀{vs:List V} {ds:List D} {fp:List Addr} {ns:List Int},Reps K U H vs ds fp->D.ints ds=some ns->vs=ns.map V.int
 |_,_,_,_,.nil,e=>by cases e;rfl
 | _,d::ds,_,ns,.cons h hs,e=>by
  cases d with
  |int i=>
   rw [D.ints] at e
   cases e1:D.ints ds with
   |none=>rw [e1] at e;cases e
   |some ms=>rw [e1] at e;cases e;rw [h.is_int,zh0 hs e1];rfl
  |_=>cases e
def dLt:D->D->Option D
 | .int i,.int j=>some (.bl (decide (i<j)))
 |_,_=>none
theorem oF(hu:X.A.units<cLine):OpR X (compareOp .Lt) (POp X.K U dLt):=by
 rintro pins s σ H x y v u Q I rx ry ⟨dx,dy,d,fx,fy,r1,r2,e,q⟩
 unfold dLt at e
 split at e
 ·rename_i i j
  cases e;exact xm3 pins s σ H x y v u Q I rx ry ⟨i,j,r1.is_int,r2.is_int,q.now (.bl _)⟩
 ·cases e
def dLe:D->D->Option D
 | .int i,.int j=>some (.bl (decide (i<=j)))
 |_,_=>none
theorem zq3:OpR X (compareOp .LtE) (POp X.K U dLe):=by
 rintro pins s σ H x y v u Q I rx ry ⟨dx,dy,d,fx,fy,r1,r2,e,q⟩
 unfold dLe at e
 split at e
 ·rename_i i j
  cases e;exact xm4 pins s σ H x y v u Q I rx ry ⟨i,j,r1.is_int,r2.is_int,q.now (.bl _)⟩
 ·cases e
def dGt:D->D->Option D
 | .int i,.int j=>some (.bl (decide (j<i)))
 |_,_=>none
theorem uG:OpR X (compareOp .Gt) (POp X.K U dGt):=by
 rintro pins s σ H x y v u Q I rx ry ⟨dx,dy,d,fx,fy,r1,r2,e,q⟩
 unfold dGt at e
 split at e
 ·rename_i i j
  cases e;exact xm5 pins s σ H x y v u Q I rx ry ⟨i,j,r1.is_int,r2.is_int,q.now (.bl _)⟩
 ·cases e
def dGe:D->D->Option D
 | .int i,.int j=>some (.bl (decide (j<=i)))
 |_,_=>none
theorem zA:OpR X (compareOp .GtE) (POp X.K U dGe):=by
 rintro pins s σ H x y v u Q I rx ry ⟨dx,dy,d,fx,fy,r1,r2,e,q⟩
 unfold dGe at e
 split at e
 ·rename_i i j
  cases e;exact xm6 pins s σ H x y v u Q I rx ry ⟨i,j,r1.is_int,r2.is_int,q.now (.bl _)⟩
 ·cases e
mutual
def D.data:D->Option PyData
 | .non=>some .none
 | .bl b=>some (.bool b)
 | .int i=>some (.int i)
 | .str x=>some (.str x)
 | .tup xs=>(D.datas xs).map .tuple
 | .lst _ xs=>(D.datas xs).map .list
 |_=>none
def D.datas:List D->Option (List PyData)
 |[]=>some []
 |d::ds=>d.data.bind fun p=>(D.datas ds).map (p::·)
end
theorem Reps.dps{K:tz0}{H:Hp}{vs:List V}{ds:List D}{fp:List Addr}(h:Reps K U H vs ds fp):∀{p:List PyData},D.datas ds=some p->DpAll K H vs p:=
 Reps.rec (motive_1:=fun v d _ _=>∀{p:PyData},d.data=some p->Dp K H v p) (motive_2:=fun vs ds _ _=>∀{p:List PyData},D.datas ds=some p->DpAll K H vs p)
  (fun e=>by cases e;exact .non) (fun b _ e=>by cases e;exact .bl b) (fun b _ e=>by cases e;exact .int b) (fun b _ e=>by cases e;exact .str b) (fun b _ e=>nomatch e)
  (fun h _ ih _ e=>by obtain⟨ps,e1,e⟩:=Option.map_eq_some_iff.mp e;subst e;exact .tup h (ih e1)) (fun _ _ _ _ e=>nomatch e)
  (fun h _ ih _ e=>by obtain⟨ps,e1,e⟩:=Option.map_eq_some_iff.mp e;subst e;exact .lst (.inl (.inl h)) (ih e1))
  (fun h _ ih _ e=>by obtain⟨ps,e1,e⟩:=Option.map_eq_some_iff.mp e;subst e;exact .lst (.inl (.inr ⟨_,h⟩)) (ih e1))
  (fun _ _ _ _ _ e=>nomatch e) (fun _ _ _ _ _ e=>nomatch e) (fun _ _ _ _ _ e=>nomatch e) (fun _ _ _ _ _ e=>nomatch e)
  (fun e=>by cases e;exact .nil)
  (fun _ _ i1 i2 _ e=>by
   obtain⟨q,e1,e⟩:=bind_some e
   obtain⟨qs,e2,e⟩:=Option.map_eq_some_iff.mp e
   subst e
   exact .cons (i1 e1) (i2 e2)) h
theorem Rep.dp{K:tz0}{H:Hp}{v:V}{d:D}{fp:List Addr}{p:PyData}(h:Rep K U H v d fp)(e:d.data=some p):Dp K H v p:=by
 have:=(Reps.one h).dps (p:=[p]) (by show(d.data.bind _)=_;rw [e];rfl)
 cases this;assumption
def zv4(x y:D):Option Bool:=x.data.bind fun a=>y.data.bind fun b=>if (a.canLay0&&b.canLay0&&decide (a.depth<=60))=true then some (PyData.eqv a b) else none
def eqB(x y:D):Option Bool:=match x,y with
 | .int i,.int j=>some (decide (i=j))
 | .str i,.str j=>some (decide (i=j))
 |x,y=>zv4 x y
def dEq(x y:D):Option D:=(eqB x y).map .bl
def dNe(x y:D):Option D:=(eqB x y).map fun b=> .bl (!b)
theorem zk9{x y:D}{b:Bool}(h:eqB x y=some b):(∃i j,x= .int i/\y= .int j/\b=decide (i=j))\/(∃i j,x= .str i/\y= .str j/\b=decide (i=j))\/
  ∃p q,x.data=some p/\y.data=some q/\p.canLay0=true/\q.canLay0=true/\p.depth<=60/\b=PyData.eqv p q:=by
 have gen:zv4 x y=some b->∃p q,x.data=some p/\y.data=some q/\p.canLay0=true/\q.canLay0=true/\p.depth<=60/\b=PyData.eqv p q:=fun h=>by
  unfold zv4 at h
  cases e1:x.data with
  |none=>rw [e1] at h;cases h
  | some p=>
   rw [e1] at h
   cases e2:y.data with
   |none=>rw [e2] at h;cases h
   | some q=>
    rw [e2] at h
    have h':(if (p.canLay0&&q.canLay0&&decide (p.depth<=60))=true then some (PyData.eqv p q) else none)=some b:=h
    split at h'
    ·rename_i hc
     simp only [Bool.and_eq_true,decide_eq_true_eq] at hc
     exact⟨p,q,rfl,rfl,hc.1.1,hc.1.2,hc.2,(Option.some.inj h').symm⟩
    ·cases h'
 unfold eqB at h
 split at h
 ·cases h;exact .inl ⟨_,_,rfl,rfl,rfl⟩
 ·cases h;exact .inr (.inl ⟨_,_,rfl,rfl,rfl⟩)
 ·exact .inr (.inr (gen h))
theorem eX(hu:X.A.units+64<cLine):OpR X (compareOp .Eq) (POp X.K U dEq):=by
 rintro pins s σ H x y v u Q I rx ry ⟨dx,dy,d,fx,fy,r1,r2,e,q⟩
 unfold dEq at e
 cases e1:eqB dx dy with
 |none=>rw [e1] at e;cases e
 | some b=>
  rw [e1] at e
  cases e
  rcases zk9 e1 with ⟨i,j,rfl,rfl,rfl⟩|⟨i,j,rfl,rfl,rfl⟩|⟨p,p',h1,h2,h3,h4,h5,rfl⟩
  ·rw [r1.is_int] at rx;rw [r2.is_int] at ry
   exact yc6 pins s σ H _ _ v u Q I rx ry ⟨rfl,by rw [show decide (V.int i=V.int j)=decide (i=j) by simp];exact q.now (.bl _)⟩
  ·rw [r1.is_str] at rx;rw [r2.is_str] at ry
   exact yc6 pins s σ H _ _ v u Q I rx ry ⟨rfl,by rw [show decide (V.str i=V.str j)=decide (i=j) by simp];exact q.now (.bl _)⟩
  ·exact xh4 hu pins s σ H _ _ v u Q I rx ry ⟨p,p',r1.dp h1,r2.dp h2,h3,h4,h5,q.now (.bl _)⟩
theorem ys7(hu:X.A.units+64<cLine):OpR X (compareOp .NotEq) (POp X.K U dNe):=by
 rintro pins s σ H x y v u Q I rx ry ⟨dx,dy,d,fx,fy,r1,r2,e,q⟩
 unfold dNe at e
 cases e1:eqB dx dy with
 |none=>rw [e1] at e;cases e
 | some b=>
  rw [e1] at e
  cases e
  rcases zk9 e1 with ⟨i,j,rfl,rfl,rfl⟩|⟨i,j,rfl,rfl,rfl⟩|⟨p,p',h1,h2,h3,h4,h5,rfl⟩
  ·rw [r1.is_int] at rx;rw [r2.is_int] at ry
   exact yy0 pins s σ H _ _ v u Q I rx ry ⟨rfl,by rw [show decide (V.int i=V.int j)=decide (i=j) by simp];exact q.now (.bl _)⟩
  ·rw [r1.is_str] at rx;rw [r2.is_str] at ry
   exact yy0 pins s σ H _ _ v u Q I rx ry ⟨rfl,by rw [show decide (V.str i=V.str j)=decide (i=j) by simp];exact q.now (.bl _)⟩
  ·exact xh5 hu pins s σ H _ _ v u Q I rx ry ⟨p,p',r1.dp h1,r2.dp h2,h3,h4,h5,q.now (.bl _)⟩
def gF:D->Bool
 | .non=>true
 |_=>false
theorem zq4{K:tz0}{H:Hp}{v:V}{d:D}{fp:List Addr}(r:Rep K U H v d fp):decide (v= .non)=gF d:=by cases r<;>first|rfl|simp [gF]
def dIs:D->D->Option D
 |x,.non=>some (.bl (gF x))
 |_,_=>none
def wY:D->D->Option D
 |x,.non=>some (.bl (!(gF x)))
 |_,_=>none
theorem zq5:OpR X (compareOp .Is) (POp X.K U dIs):=by
 rintro pins s σ H x y v u Q I rx ry ⟨dx,dy,d,fx,fy,r1,r2,e,q⟩
 cases dy with
 |non=>
  cases e;cases r2
  refine xf9 pins s σ H x _ v u Q I rx ry ⟨rfl,?_⟩
  rw [zq4 r1];exact q.now (.bl _)
 |_=>cases e
theorem zh1:OpR X (compareOp .IsNot) (POp X.K U wY):=by
 rintro pins s σ H x y v u Q I rx ry ⟨dx,dy,d,fx,fy,r1,r2,e,q⟩
 cases dy with
 |non=>
  cases e;cases r2
  refine yz8 pins s σ H x _ v u Q I rx ry ⟨rfl,?_⟩
  rw [zq4 r1];exact q.now (.bl _)
 |_=>cases e
def D.flat:D->Option V
 | .non=>some .non
 | .bl b=>some (.bl b)
 | .int i=>some (.int i)
 | .str x=>some (.str x)
 |_=>none
def D.flats:List D->Option (List V)
 |[]=>some []
 |d::ds=>d.flat.bind fun v=>(D.flats ds).map (v::·)
theorem zz3{K:tz0}{H:Hp}{v w:V}{d:D}{fp:List Addr}(r:Rep K U H v d fp)(h:d.flat=some w):v=w/\lN v=true:=by
 cases r<;>first|(cases h;exact⟨rfl,rfl⟩)|cases h
theorem zq6{K:tz0}{H:Hp}:∀{vs ws:List V} {ds:List D} {fp:List Addr},Reps K U H vs ds fp->D.flats ds=some ws->vs=ws/\vs.all lN=true
 |_,_,_,_,.nil,e=>by cases e;exact⟨rfl,rfl⟩
 | _,ws,d::ds,_,.cons h hs,e=>by
  rw [D.flats] at e
  cases e1:d.flat with
  |none=>rw [e1] at e;cases e
  | some w=>
   rw [e1] at e
   cases e2:D.flats ds with
   |none=>rw [e2] at e;cases e
   |some us=>
    rw [e2] at e;cases e
    obtain⟨a1,a2⟩:=zz3 h e1
    obtain⟨b1,b2⟩:=zq6 hs e2
    exact⟨by rw [a1,b1],by rw [List.all_cons,a2,b2];rfl⟩
def qN(x:D)(ds:List D):Option Bool:=x.flat.bind fun v=>(D.flats ds).map fun ws=>inV v ws
def inB(x:D):D->Option Bool
 | .lst _ ds=>qN x ds
 | .tup ds=>qN x ds
 |_=>none
def dIn(x y:D):Option D:=(inB x y).map .bl
theorem xh7{H:Hp}{x y:V}{dx dy:D}{fx fy:List Addr}{b:Bool}(r1:Rep X.K U H x dx fx)(r2:Rep X.K U H y dy fy)(e:inB dx dy=some b):
  ∃p xs,y= .ref p/\(SqL X.K H p xs\/SqT X.K H p xs)/\lN x=true/\xs.all lN=true/\b=inV x xs:=by
 have gen:∀{vs:List V} {ds:List D} {g:List Addr},Reps X.K U H vs ds g->qN dx ds=some b->lN x=true/\vs.all lN=true/\b=inV x vs:=fun {vs ds g} rs h=>by
  unfold qN at h
  cases e1:dx.flat with
  |none=>rw [e1] at h;cases h
  | some w=>
   rw [e1] at h
   cases e2:D.flats ds with
   |none=>rw [e2] at h;cases h
   |some ws=>
    rw [e2] at h
    obtain⟨a1,a2⟩:=zz3 r1 e1
    obtain⟨b1,b2⟩:=zq6 rs e2
    subst a1 b1
    exact⟨a2,b2,(Option.some.inj h).symm⟩
 cases dy with
 |lst o ds=>
  obtain⟨a,vs,g,rfl,h,hs,_⟩:=r2.lst_inv
  obtain⟨g1,g2,g3⟩:=gen hs e
  exact⟨a,vs,rfl,.inl (.inl h),g1,g2,g3⟩
 |tup ds=>
  obtain⟨a,vs,rfl,h,hs⟩:=r2.tup_inv
  obtain⟨g1,g2,g3⟩:=gen hs e
  exact⟨a,vs,rfl,.inr h,g1,g2,g3⟩
 |_=>cases e
theorem ys8:OpR X (compareOp .In) (POp X.K U dIn):=by
 rintro pins s σ H x y v u Q I rx ry ⟨dx,dy,d,fx,fy,r1,r2,e,q⟩
 unfold dIn at e
 cases e1:inB dx dy with
 |none=>rw [e1] at e;cases e
 |some b=>
  rw [e1] at e;cases e
  obtain⟨p,xs,ey,h,f1,f2,rfl⟩:=xh7 r1 r2 e1
  exact yk5 pins s σ H x y v u Q I rx ry ⟨p,xs,ey,h,f1,f2,q.now (.bl _)⟩
end
theorem Reps.getS{K:tz0}{U:tz9}{H:Hp}:∀{vs:List V} {ds:List D} {fp:List Addr} {i:Nat} {d:D},Reps K U H vs ds fp->ds[i]? =some d->∃v f,vs[i]? =some v/\Rep K U H v d f/\f.Sublist fp
 |_,_,_,_,_,.nil,e=>by simp at e
 |_,_,_,0,_,.cons h _,e=>by simp at e;subst e;exact⟨_,_,rfl,h,List.sublist_append_left _ _⟩
 |_,_,_,i+1,_,.cons _ hs,e=>by
  obtain⟨v,f,h1,h2,h3⟩:=Reps.getS (i:=i) hs (by simpa using e)
  exact⟨v,f,by simpa using h1,h2,h3.trans (List.sublist_append_right _ _)⟩
theorem Reps.atI{K:tz0}{U:tz9}{H:Hp}{vs:List V}{ds:List D}{fp:List Addr}{i:Int}{d:D}(r:Reps K U H vs ds fp)(h:L2.atI ds i=some d):∃v f,L2.atI vs i=some v/\Rep K U H v d f/\f.Sublist fp:=by
 unfold L2.atI at h|-
 rw [r.length]
 cases e:ixN ds.length i with
 |none=>rw [e] at h;cases h
 |some j=>rw [e] at h;exact r.getS h
section
variable{X:Cx}{U:tz9}{e a b:Expr}{es:List Expr}{f fa fb:tz2}{g:tz3}{pos p2:Pos}
def aD:tz3:=fun _=>some []
def aB(f:tz2)(g:tz3):tz3:=fun ps=>(f ps).bind fun d=>(g ps).bind fun ds=>some (d::ds)
theorem uH{ps:PSt}{ds:List D}(h:aB f g ps=some ds):∃d es,f ps=some d/\g ps=some es/\ds=d::es:=by
 unfold aB at h
 cases e1:f ps with
 |none=>rw [e1] at h;cases h
 |some d=>
  rw [e1] at h
  cases e2:g ps with
  |none=>rw [e2] at h;cases h
  |some es=>rw [e2] at h;cases h;exact⟨d,es,rfl,rfl,rfl⟩
theorem aX:QVA X U [] aD:=lE.imp fun σ H Q ⟨ps,ds,w,e,q⟩=>by cases e;exact q [] H [] (.refl H) .nil
theorem aJ(ha:QV X U e f)(hr:QVA X U es g)(hs:starEach (e::es) X.env=(false,eval e X.env)::starEach es X.env:=by rfl):QVA X U (e::es) (aB f g):=
 (fG ha hr hs).imp fun σ H Q hh_=>by
  obtain⟨ps,ds,w,e,q⟩:=hh_
  obtain⟨d,es,e1,e2,rfl⟩:=uH e
  exact⟨ps,d,w,e1,fun v H1 fp s1 r1=>⟨ps,es,w.same s1,e2,fun vs H2 fq s2 r2=>q _ H2 _ (s1.trans s2) (.cons (r1.same s2) r2)⟩⟩
theorem bD:QPA X U [] aD:=lE.imp fun σ H Q ⟨ps,ds,w,e,q⟩=>by cases e;exact q [] H [] (.refl H) (fun _ h=>absurd h (by simp)) List.nodup_nil .nil
theorem yl3{K:tz0}{H1:Hp}{v:V}{d:D}{fv fw:List Addr}(r:Rep K U H1 v d fv)(n1:fv.Nodup)(hw:∀a∈fw,H1 a=none)(n2:fw.Nodup):(fv++fw).Nodup:=by
 rw [List.nodup_append]
 refine⟨n1,n2,fun a ha b hb e=> ?_⟩
 subst e
 obtain⟨o,h,_⟩:=r.own a ha
 rw [hw a hb] at h;cases h
theorem aN(ha:QP X U e f)(hr:QPA X U es g)(hs:starEach (e::es) X.env=(false,eval e X.env)::starEach es X.env:=by rfl):QPA X U (e::es) (aB f g):=
 (fG ha hr hs).imp fun σ H Q hh_=>by
  obtain⟨ps,ds,w,e,q⟩:=hh_
  obtain⟨d,es,e1,e2,rfl⟩:=uH e
  refine⟨ps,d,w,e1,fun v H1 fv s1 n1 nd1 r1=>⟨ps,es,w.same s1,e2,fun vs H2 fw s2 n2 nd2 r2=> ?_⟩⟩
  refine q _ H2 (fv++fw) (s1.trans s2) (fun a ha=> ?_) (yl3 r1 nd1 n2 nd2) (.cons (r1.same s2) r2)
  rcases List.mem_append.mp ha with z|z
  ·exact n1 a z
  ·exact s1.grow a (n2 a z)
def cE(g:tz3):tz2:=fun ps=>(g ps).bind fun ds=>if (D.imms ds&&decide (ds.length<=1000))=true then some (.tup ds) else none
def cA(g:tz3):tz2:=fun ps=>(g ps).bind fun ds=>if ds.length<=1000 then some (.lst true ds) else none
theorem dQ{x1}(h:QPA X U es g):QP X U (.Tuple es x1 pos) (cE g):=
 (yk0 h).imp fun σ H Q hh_=>by
  obtain⟨ps,d,w,e,q⟩:=hh_
  obtain⟨ds,e1,e2⟩:=bind_some e
  obtain⟨hc,e3⟩:=cN e2
  cases e3
  rw [Bool.and_eq_true,decide_eq_true_eq] at hc
  refine⟨ps,ds,w,e1,fun vs H1 fv s1 n1 nd1 r1=>⟨by rw [r1.length];exact zn8 hc.2,fun p hp=> ?_⟩⟩
  exact xP hp (r1.pair hc.1) (q.after s1)
theorem eB(h:QPA X U es g):QP X U (.List es pos) (cA g):=
 (xg3 h).imp fun σ H Q hh_=>by
  obtain⟨ps,d,w,e,q⟩:=hh_
  obtain⟨ds,e1,e2⟩:=bind_some e
  obtain⟨hc,e3⟩:=cN e2
  cases e3
  refine⟨ps,ds,w,e1,fun vs H1 fv s1 n1 nd1 r1=>⟨by rw [r1.length];exact zn8 hc,fun p hp=> ?_⟩⟩
  refine q _ _ (p::fv) (s1.trans (.new hp _)) (fun a ha=> ?_) (List.nodup_cons.mpr ⟨fun hm=> ?_,nd1⟩) (.lst eM (r1.same (.new hp _)))
  ·rcases List.mem_cons.mp ha with z|z
   ·rw [z];exact s1.grow p hp
   ·exact n1 a z
  ·obtain⟨o,h,_⟩:=r1.own p hm
   rw [hp] at h;cases h
def dIx:D->D->Option D
 | .lst _ xs,.int i=>atI xs i
 | .tup xs,.int i=>atI xs i
 | .con xs,.int i=>atI xs i
 | .str z,.int i=>if z.length<=sizeLine then(atI z.cps.toList i).map fun c=> .str ⟨#[c]⟩ else none
 |_,_=>none
theorem yl4{K:tz0}{H:Hp}{x y:V}{dx dy d:D}{fx fy:List Addr}{Q:VK}(r1:Rep K U H x dx fx)(r2:Rep K U H y dy fy)(e:dIx dx dy=some d)(q:∀v f,Rep K U H v d f->f.Sublist fx->Q v H):rIx K x y H Q:=by
 unfold dIx at e
 split at e
 ·rename_i o xs i
  obtain⟨a,vs,g,rfl,h,hs,sub⟩:=r1.lst_inv
  obtain⟨v,f,h1,h2,h3⟩:=hs.atI e
  exact .inl ⟨a,vs,i,v,rfl,r2.is_int,.inl h,h1,q v f h2 (h3.trans sub)⟩
 ·rename_i xs i
  obtain⟨a,vs,rfl,h,hs⟩:=r1.tup_inv
  obtain⟨v,f,h1,h2,h3⟩:=hs.atI e
  cases List.sublist_nil.mp h3
  exact .inr (.inl ⟨a,vs,i,v,rfl,r2.is_int,h,h1,q v [] h2 (List.nil_sublist _)⟩)
 ·rename_i xs i
  obtain⟨a,vs,rfl,h,hs⟩:=r1.con_inv
  obtain⟨v,f,h1,h2,h3⟩:=hs.atI e
  cases List.sublist_nil.mp h3
  exact .inl ⟨a,vs,i,v,rfl,r2.is_int,h.l,h1,q v [] h2 (List.nil_sublist _)⟩
 ·rename_i z i
  obtain⟨hz,e⟩:=cN e
  obtain⟨c,e1,e⟩:=Option.map_eq_some_iff.mp e
  subst e
  exact .inr (.inr ⟨z,i,c,r1.is_str,r2.is_int,hz,e1,q _ [] (.str _) (List.nil_sublist _)⟩)
 ·cases e
theorem bK(ha:QV X U a fa)(hb:QV X U b fb)(hs:pF b:=by exact fun _ _=>rfl):QV X U (.Subscript a b pos) (f2 dIx fa fb):=
 (zn6 yk3 ha hb hs).imp fun σ H Q hh_=>by
  obtain⟨ps,d,w,e,q⟩:=hh_
  obtain⟨x,y,e1,e2,e3⟩:=zg9 e
  exact⟨ps,x,w,e1,fun v H1 fp s1 r1=>⟨ps,y,w.same s1,e2,fun u H2 fq s2 r2=>yl4 (r1.same s2) r2 e3 fun v f r _=>q v H2 f (s1.trans s2) r⟩⟩
theorem pN(ha:QP X U a fa)(hb:QV X U b fb)(hs:pF b:=by exact fun _ _=>rfl):QP X U (.Subscript a b pos) (f2 dIx fa fb):=
 (zn6 yk3 ha hb hs).imp fun σ H Q hh_=>by
  obtain⟨ps,d,w,e,q⟩:=hh_
  obtain⟨x,y,e1,e2,e3⟩:=zg9 e
  exact⟨ps,x,w,e1,fun v H1 fv s1 n1 nd1 r1=>⟨ps,y,w.same s1,e2,fun u H2 fq s2 r2=>yl4 (r1.same s2) r2 e3 fun v f r sub=>q v H2 f (s1.trans s2) (fun c hc=>n1 c (sub.subset hc)) (nd1.sublist sub) r⟩⟩
def tO(K:tz0)(U:tz9)(f:PSt->Option (Option Int)):TO:=fun σ H Q=>∃ps o,WS K U H σ ps/\f ps=some o/\∀H',SameK H H'->Q o H'
abbrev QO(X:Cx)(U:tz9)(e:Option Expr)(f:PSt->Option (Option Int)):Prop:=PO X e (tO X.K U f)
def jI:PSt->Option (Option Int):=fun _=>some none
def mT(f:tz2):PSt->Option (Option Int):=fun ps=>(f ps).bind fun d=>match d with
 | .int i=>some (some i)
 |_=>none
theorem tI:QO X U none jI:=fun pins s σ H Q I ⟨ps,o,w,e,q⟩=>by cases e;exact xa2 pins s σ H Q I (q H (.refl H))
theorem tJ(h:QV X U e f):QO X U (some e) (mT f):=fun pins s σ H Q I hh_=>by
 obtain⟨ps,o,w,e,q⟩:=hh_
 obtain⟨d,e1,e2⟩:=bind_some e
 cases d with
 |int i=>cases e2;exact xa3 h pins s σ H Q I ⟨ps,_,w,e1,fun v H1 fp s1 r1=>⟨i,r1.is_int,q H1 s1⟩⟩
 |_=>cases e2
def vE(xs:List D)(lo hi:Option Int):List D:=(xs.drop (HT.sIx xs.length 0 lo)).take (HT.sIx xs.length xs.length hi-HT.sIx xs.length 0 lo)
def dSl:D->Option Int->Option Int->Option D
 | .tup xs,lo,hi=>some (.tup (vE xs lo hi))
 |_,_,_=>none
theorem ys9{K:tz0}{H:Hp}{vs:List V}{ds:List D}{lo hi:Option Int}(r:Paired (fun v d=>Rep K U H v d []) vs ds):Paired (fun v d=>Rep K U H v d []) (zU vs lo hi) (vE ds lo hi):=by
 unfold zU vE
 rw [Paired.length r]
 exact Paired.takeN _ (Paired.dropN _ r)
def PSl(K:tz0)(U:tz9):V->Option Int->Option Int->Hp->VK->Prop:=fun x lo hi H Q=>∃dx d fx,Rep K U H x dx fx/\dSl dx lo hi=some d/\lK K U H d Q
theorem xh8:SlR X (PSl X.K U):=by
 rintro pins s σ H x v vl vu lo hi sl Q I rx hs pl pu ⟨dx,d,fx,r,e,q⟩
 unfold dSl at e
 split at e
 ·rename_i xs
  cases e
  obtain⟨a,vs,rfl,h,rs⟩:=r.tup_inv
  refine xa8 pins s σ H _ v vl vu _ _ sl Q I rx hs pl pu ⟨a,vs,rfl,h,fun hw=> ?_,fun p hp=>xP hp (ys9 rs.nilp) q⟩
  have e1:vE xs lo hi=xs:=by
   unfold vE
   rw [<-rs.length,hw.1,hw.2,List.drop_zero,Nat.sub_zero,rs.length,List.take_length]
  rw [e1] at q
  exact q.now (.tup h rs)
 ·cases e
def fSl(f:tz2)(fl fh:PSt->Option (Option Int)):tz2:=fun ps=>(f ps).bind fun d=>(fl ps).bind fun l=>(fh ps).bind fun h=>dSl d l h
theorem rB{lo hi:Option Expr}{fl fh:PSt->Option (Option Int)}(he:QV X U e f)(hl:QO X U lo fl)(hh:QO X U hi fh):QP X U (.Subscript e (.Slice lo hi none p2) pos) (fSl f fl fh):=
 (yr9 xh8 he hl hh).imp fun σ H Q hh_=>by
  obtain⟨ps,d,w,e,q⟩:=hh_
  obtain⟨d1,e1,e2⟩:=bind_some e
  obtain⟨l,e3,e4⟩:=bind_some e2
  obtain⟨h,e5,e6⟩:=bind_some e4
  exact⟨ps,d1,w,e1,fun v H1 fp s1 r1=>⟨ps,l,w.same s1,e3,fun H2 s2=>⟨ps,h,(w.same s1).same s2,e5,fun H3 s3=>⟨d1,d,fp,(r1.same s2).same s3,e6,q.after ((s1.trans s2).trans s3)⟩⟩⟩⟩
def PCl(K:tz0)(U:tz9)(g:tz6):List V->Hp->VK->Prop:=fun vs H Q=>∃ds fp d,Reps K U H vs ds fp/\g ds=some d/\lK K U H d Q
def aI(h:tz6)(g:tz3):tz2:=fun ps=>(g ps).bind h
theorem yl5{h:tz6}{σ:St}{H:Hp}{Q:VK}(q:tP X.K U (aI h g) σ H Q):tCB (PCl X.K U h) (tVA X.K U g) σ H Q:=by
 obtain⟨ps,d,w,e,q⟩:=q
 obtain⟨ds,e1,e2⟩:=bind_some e
 exact⟨ps,ds,w,e1,fun vs H1 fp s1 r1=>⟨ds,fp,d,r1,e2,q.after s1⟩⟩
theorem dJ{x:Str}{id:String}{p:Pos}{h:tz6}(hc:fV X (.builtin id) (PCl X.K U h))(hg:Gl X x)(hm:X.mg x=none)(hv:bootBuiltins x=some (.builtin id))(ha:QVA X U (e::es) g)(hn:x≠"__name__":=by decide)(hdb:(x==("__debug__":Str))=false:=by decide)
  (hs:starEach (e::es) X.env=(false,eval e X.env)::starEach es X.env:=by rfl) (hpl:(backTo pos (starEach es X.env)).any (·.1)=false:=by rfl):QP X U (.Call (.Name x p) (e::es) [] pos) (aI h g):=
 (nI hc hg hm hv ha hn hdb hs hpl).imp fun _ _ _ q=>yl5 q
theorem iO{x:Str}{T:String}{p:Pos}{h:tz6}(hc:fV X (.type T) (PCl X.K U h))(hg:Gl X x)(hm:X.mg x=none)(hv:bootBuiltins x=some (.type T))(ha:QVA X U (e::es) g)(hn:x≠"__name__":=by decide)(hdb:(x==("__debug__":Str))=false:=by decide)
  (hs:starEach (e::es) X.env=(false,eval e X.env)::starEach es X.env:=by rfl) (hpl:(backTo pos (starEach es X.env)).any (·.1)=false:=by rfl):QP X U (.Call (.Name x p) (e::es) [] pos) (aI h g):=
 (yk2 hc hg hm hv ha hn hdb hs hpl).imp fun _ _ _ q=>yl5 q
theorem Reps.two_inv{K:tz0}{H:Hp}{vs:List V}{d e:D}{fp:List Addr}(r:Reps K U H vs [d,e] fp):∃v u f g,vs=[v,u]/\Rep K U H v d f/\Rep K U H u e g:=by
 obtain⟨v,us,f,g,rfl,h,t,rfl⟩:=r.split
 obtain⟨u,rfl,h2⟩:=t.one_inv
 exact⟨v,u,f,g,rfl,h,h2⟩
def bV:tz6
 |[.lst _ xs]=>some (.int xs.length)
 |[.tup xs]=>some (.int xs.length)
 |[.con xs]=>some (.int xs.length)
 |[.str z]=>if z.length<=sizeLine then some (.int z.length) else none
 |_=>none
theorem gD:fV X (.builtin "len") (PCl X.K U bV):=by
 rintro pins s σ H vs us Q I r ⟨ds,fp,d,rs,e,q⟩
 unfold bV at e
 split at e
 ·cases e
  obtain⟨v,rfl,r1⟩:=rs.one_inv
  obtain⟨a,ws,g,rfl,h,hs,_⟩:=r1.lst_inv
  exact kP pins s σ H _ us Q I r ⟨a,ws,rfl,.inl (.inl h),by rw [hs.length];exact q.now (.int _)⟩
 ·cases e
  obtain⟨v,rfl,r1⟩:=rs.one_inv
  obtain⟨a,ws,rfl,h,hs⟩:=r1.tup_inv
  exact kP pins s σ H _ us Q I r ⟨a,ws,rfl,.inr h,by rw [hs.length];exact q.now (.int _)⟩
 ·cases e
  obtain⟨v,rfl,r1⟩:=rs.one_inv
  obtain⟨a,ws,rfl,h,hs⟩:=r1.con_inv
  exact kP pins s σ H _ us Q I r ⟨a,ws,rfl,.inl h.l,by rw [hs.length];exact q.now (.int _)⟩
 ·obtain⟨hz,e⟩:=cN e
  cases e
  obtain⟨v,rfl,r1⟩:=rs.one_inv
  exact zp9 pins s σ H _ us Q I r ⟨_,by rw [r1.is_str],hz,q.now (.int _)⟩
 ·cases e
def dTy:D->Option String
 | .non=>some "NoneType"
 | .bl _=>some "bool"
 | .int _=>some "int"
 | .str _=>some "str"
 | .lst _ _=>some "list"
 | .tup _=>some "tuple"
 | .dic true _ _=>some "dict"
 |_=>none
def vF:tz6
 |[x,.ty c]=>(dTy x).bind fun t=>if c∈["bool","int","str","list","tuple","dict"] then some (.bl (ze8 t c)) else none
 |_=>none
theorem xh9{K:tz0}{H:Hp}{v:V}{d:D}{fp:List Addr}{t:String}(r:Rep K U H v d fp)(h:dTy d=some t):(uA H v=some t\/(t="tuple"/\∃a xs,v= .ref a/\SqT K H a xs)):=by
 cases r with
 |non=>cases h;exact .inl rfl
 |bl _=>cases h;exact .inl rfl
 |int _=>cases h;exact .inl rfl
 |str _=>cases h;exact .inl rfl
 |tup s _=>cases h;exact .inr ⟨rfl,_,_,rfl,s⟩
 |lst s _=>cases h;exact .inl (by simp [uA,s])
 |lstF s _=>cases h;exact .inl (by simp [uA,s])
 |dic s _ _=>cases h;exact .inl (by simp [uA,s])
 |_=>cases h
theorem zo0:fV X (.builtin "isinstance") (PCl X.K U vF):=by
 rintro pins s σ H vs us Q I r ⟨ds,fp,d,rs,e,q⟩
 unfold vF at e
 split at e
 ·obtain⟨t,e1,e2⟩:=bind_some e
  obtain⟨hc,e3⟩:=cN e2
  cases e3
  obtain⟨v,u,f,g,rfl,r1,r2⟩:=rs.two_inv
  cases r2
  rcases xh9 r1 e1 with h|⟨rfl,a,xs,rfl,h⟩
  ·exact ys4 pins s σ H _ us Q I r ⟨_,_,t,rfl,h,hc,q.now (.bl _)⟩
  ·obtain⟨u1,u2,rfl,rx,rc⟩:=yc9 r
   cases(show u2=Value.type _ from rc)
   cases(show u1=Value.ref a from rx)
   obtain⟨its,rv,⟨o,h1,h2,_⟩,_⟩:=I.tuple h
   exact PySem.W.kia_one PySem.W.kitx_tuple I.kIn ⟨o,h1,h2⟩ (zq0 X.K "tuple" (by decide) _ hc) (fun z=>nomatch z) fun tk=>⟨.bl _,H,I.tok tk,rfl,q.now (.bl _)⟩
 ·cases e
def zf0:tz6
 |[.lst _ xs]=>if D.imms xs=true then some (.lst true xs) else none
 |[.tup xs]=>some (.lst true xs)
 |_=>none
theorem zq7:fV X (.type "list") (PCl X.K U zf0):=by
 rintro pins s σ H vs us Q I r ⟨ds,fp,d,rs,e,q⟩
 unfold zf0 at e
 split at e
 ·obtain⟨hc,e⟩:=cN e
  cases e
  obtain⟨v,rfl,r1⟩:=rs.one_inv
  obtain⟨a,ws,g,rfl,h,hs,_⟩:=r1.lst_inv
  exact vY pins s σ H _ us Q I r ⟨a,ws,rfl,.inl (.inl h),fun p hp=>xO hp (hs.pair hc) q⟩
 ·cases e
  obtain⟨v,rfl,r1⟩:=rs.one_inv
  obtain⟨a,ws,rfl,h,hs⟩:=r1.tup_inv
  exact vY pins s σ H _ us Q I r ⟨a,ws,rfl,.inr h,fun p hp=>xO hp hs.nilp q⟩
 ·cases e
def dG:tz6
 |[.lst _ xs]=>if D.imms xs=true then some (.tup xs) else none
 |[.tup xs]=>some (.tup xs)
 |_=>none
theorem mI:fV X (.type "tuple") (PCl X.K U dG):=by
 rintro pins s σ H vs us Q I r ⟨ds,fp,d,rs,e,q⟩
 unfold dG at e
 split at e
 ·obtain⟨hc,e⟩:=cN e
  cases e
  obtain⟨v,rfl,r1⟩:=rs.one_inv
  obtain⟨a,ws,g,rfl,h,hs,_⟩:=r1.lst_inv
  exact vR pins s σ H _ us Q I r ⟨a,ws,rfl,.inl ⟨.inl h,fun p hp=>xP hp (hs.pair hc) q⟩⟩
 ·cases e
  obtain⟨v,rfl,r1⟩:=rs.one_inv
  obtain⟨a,ws,rfl,h,hs⟩:=r1.tup_inv
  exact vR pins s σ H _ us Q I r ⟨a,ws,rfl,.inr ⟨h,q.now (.tup h hs)⟩⟩
 ·cases e
def oQ:tz6
 |[.int i]=>some (.int i)
 |[.bl k]=>some (.int (if k then 1 else 0))
 |_=>none
theorem ye6:fV X (.type "int") (PCl X.K U oQ):=by
 rintro pins s σ H vs us Q I r ⟨ds,fp,d,rs,e,q⟩
 unfold oQ at e
 split at e
 ·cases e
  obtain⟨v,rfl,r1⟩:=rs.one_inv
  exact zj9 pins s σ H _ us Q I r (.inl ⟨_,by rw [r1.is_int],q.now (.int _)⟩)
 ·cases e
  obtain⟨v,rfl,r1⟩:=rs.one_inv
  exact zj9 pins s σ H _ us Q I r (.inr ⟨_,by rw [r1.is_bl],q.now (.int _)⟩)
 ·cases e
def PMt(K:tz0)(U:tz9)(g:D->tz6):V->List V->Hp->VK->Prop:=fun x vs H Q=>∃dx ds fx fp d,Rep K U H x dx fx/\Reps K U H vs ds fp/\g dx ds=some d/\lK K U H d Q
def sL:D->Bool
 | .str _=>true
 |_=>false
def fMt(h:D->tz6)(f:tz2)(g:tz3):tz2:=fun ps=>(f ps).bind fun x=>(g ps).bind fun ds=>if sL x=true then h x ds else none
theorem uI{name:Str}{id:String}{apos:Pos}{h:D->tz6}(slot:Slot "str" name id)(hty:typeOf (.builtin id)=pure (.type "method_descriptor"))(hm:MtR X id (PMt X.K U h))(ho:QV X U a fa)(ha:QVA X U (e::es) g)
  (hbase:attributeBase a name X.env (eval a X.env)=eval a X.env:=by rfl)
  (hfew:((backTo pos (starEach (e::es) X.env)).all (fun x=> !x.1)&&(backToKw pos (keywordEach [] X.env)).all (fun x=>x.1.isSome)
   &&decide ((e::es).length+([]:List Keyword).length+(if ([]:List Keyword).isEmpty then 0 else 1)<30))=true:=by rfl)
  (hline:(apos.endLine==pos.line)=true:=by rfl) (hs:starEach (e::es) X.env=(false,eval e X.env)::starEach es X.env:=by rfl) (hplain:(backTo pos (starEach es X.env)).any (·.1)=false:=by rfl):
  QP X U (.Call (.Attribute a name apos) (e::es) [] pos) (fMt h fa g):=
 (yd8 PySem.F.plainAttrs_str slot hty hm ho ha hbase hfew hline hs hplain).imp fun σ H Q hh_=>by
  obtain⟨ps,d,w,e,q⟩:=hh_
  obtain⟨x,e1,e2⟩:=bind_some e
  obtain⟨ds,e3,e4⟩:=bind_some e2
  obtain⟨hc,e5⟩:=cN e4
  refine⟨ps,x,w,e1,fun v H1 fp s1 r1=>⟨?_,ps,ds,w.same s1,e3,fun vs H2 fq s2 r2=>⟨x,ds,fp,fq,d,r1.same s2,r2,e5,q.after (s1.trans s2)⟩⟩⟩
  cases x with
  |str z=>rw [r1.is_str];rfl
  |_=>cases hc
def gO(l:List Str):List D:=l.map .str
theorem zl0{K:tz0}{H:Hp}:∀l:List Str,Paired (fun v d=>Rep K U H v d []) (l.map V.str) (gO l)
 |[]=> .nil
 |x::l=> .cons (.str x) (zl0 l)
def uB:D->tz6
 | .str z,[.str y]=>if ((y.length==0)=false/\z.length<1000000) then some (.lst true (gO (Txt.split z y))) else none
 |_,_=>none
theorem zh2:MtR X "str.split" (PMt X.K U uB):=by
 rintro pins s σ H x vs v us Q I rx r ⟨dx,ds,fx,fp,d,r1,rs,e,q⟩
 unfold uB at e
 split at e
 ·obtain⟨hc,e⟩:=cN e
  cases e
  obtain⟨w,rfl,r2⟩:=rs.one_inv
  exact ys5 pins s σ H x _ v us Q I rx r ⟨_,_,r1.is_str,by rw [r2.is_str],hc.1,hc.2,fun p hp=>xO hp (zl0 _) q⟩
 ·cases e
def D.strs:List D->Option (List Str)
 |[]=>some []
 | .str b::ds=>(D.strs ds).map (b::·)
 |_::_=>none
theorem tK{K:tz0}{H:Hp}:∀{vs:List V} {ds:List D} {fp:List Addr} {ns:List Str},Reps K U H vs ds fp->D.strs ds=some ns->vs=ns.map V.str
 |_,_,_,_,.nil,e=>by cases e;rfl
 | _,d::ds,_,ns,.cons h hs,e=>by
  cases d with
  |str i=>
   rw [D.strs] at e
   cases e1:D.strs ds with
   |none=>rw [e1] at e;cases e
   |some ms=>rw [e1] at e;cases e;rw [h.is_str,tK hs e1];rfl
  |_=>cases e
def yD:D->tz6
 | .str z,[.lst _ xs]=>(D.strs xs).bind fun ys=>if (z.length<=16/\(ys.map (·.length)).sum+ys.length<=1048576) then some (.str (Txt.join z ys)) else none
 |_,_=>none
theorem zq8:MtR X "str.join" (PMt X.K U yD):=by
 rintro pins s σ H x vs v us Q I rx r ⟨dx,ds,fx,fp,d,r1,rs,e,q⟩
 unfold yD at e
 split at e
 ·obtain⟨ys,e1,e2⟩:=bind_some e
  obtain⟨hc,e⟩:=cN e2
  cases e
  obtain⟨w,rfl,r2⟩:=rs.one_inv
  obtain⟨a,ws,g,rfl,h,hs,_⟩:=r2.lst_inv
  rw [tK hs e1] at h
  exact xa7 pins s σ H x _ v us Q I rx r ⟨_,a,ys,r1.is_str,rfl,.inl h,hc.1,hc.2,q.now (.str _)⟩
 ·cases e
end
structure Fx where
 K:tz0
 U:tz9
 bor:Nat->Bool
 M:Nat->Bool
 B:Nat->Addr->Prop
structure RS(φ:Fx)(H:Hp)(σ:St)(ps:PSt)(F:Nat->List Addr):Prop where
 rep:∀(i:Nat) (d:D),ps[i]? =some (some d)->∃v fp,σ[i]? =some (some v)/\Rep φ.K φ.U H v d fp/\(φ.bor i=false->fp=F i)/\(φ.bor i=true->∀a∈fp,φ.B i a)
 emp:∀i a,a∈F i->φ.bor i=false/\∃d,ps[i]? =some (some d)
 dis:∀i j a,a∈F i->a∈F j->i=j
 nd:∀i,(F i).Nodup
 nb:∀i a,a∈F i->∀k,¬φ.B k a
 bt:∀k a,φ.B k a->H a≠none
 len:ps.length<=σ.length
structure Frm(F:Nat->List Addr)(H H':Hp):Prop where
 keep:∀a o,H a=some o->kd o=true->(∀i,a∉F i)->H' a=some o
 grow:∀a,H' a=none->H a=none
structure Stp(φ:Fx)(σ:St)(H:Hp)(F:Nat->List Addr)(σ':St)(H':Hp)(ps':PSt)(F':Nat->List Addr):Prop where
 fr:Frm F H H'
 nw:∀i a,a∈F' i->(∃j,a∈F j)\/H a=none
 rs:RS φ H' σ' ps' F'
 msk:∀i,φ.M i=true->σ'[i]? =σ[i]?
structure OwnV(F:Nat->List Addr)(H:Hp)(F':Nat->List Addr)(fv:List Addr):Prop where
 nw:∀a∈fv,(∃j,a∈F j)\/H a=none
 nd:fv.Nodup
 dis:∀i,∀a∈F' i,a∉fv
section
variable{φ:Fx}{H H' H1 H2:Hp}{σ σ1 σ2:St}{ps ps1 ps2:PSt}{F F1 F2:Nat->List Addr}
theorem RS.own(R:RS φ H σ ps F){i:Nat}{a:Addr}(h:a∈F i):∃o,H a=some o/\kd o=true/\tf o=false:=by
 obtain⟨b,d,e⟩:=R.emp i a h
 obtain⟨v,fp,_,r,q,_⟩:=R.rep i d e
 rw [<-q b] at h
 exact r.own a h
theorem RS.ws(R:RS φ H σ ps F):WS φ.K φ.U H σ ps:=fun i d h=>by
 obtain⟨v,fp,h1,h2,_⟩:=R.rep i d h
 exact⟨v,fp,h1,h2⟩
theorem RS.same(R:RS φ H σ ps F)(s:SameK H H'):RS φ H' σ ps F:=
 ⟨fun i d h=>by obtain⟨v,fp,h1,h2,h3⟩:=R.rep i d h;exact⟨v,fp,h1,h2.same s,h3⟩,R.emp,R.dis,R.nd,R.nb,fun k a h z=>R.bt k a h (s.grow a z),R.len⟩
theorem RS.notB(R:RS φ H σ ps F){a:Addr}(h:(∃j,a∈F j)\/H a=none):∀k,¬φ.B k a:=fun k hb=>h.elim (fun⟨j,hj⟩=>R.nb j a hj k hb) fun z=>R.bt k a hb z
theorem Stp.same(R:RS φ H σ ps F)(s:SameK H H'):Stp φ σ H F σ H' ps F:=
 ⟨⟨fun a o h k _=>s.keep a o h k,s.grow⟩,fun i a h=> .inl ⟨i,h⟩,R.same s,fun _ _=>rfl⟩
theorem Stp.refl(R:RS φ H σ ps F):Stp φ σ H F σ H ps F:= .same R (.refl H)
theorem Stp.trans(s1:Stp φ σ H F σ1 H1 ps1 F1)(s2:Stp φ σ1 H1 F1 σ2 H2 ps2 F2):Stp φ σ H F σ2 H2 ps2 F2:=by
 refine⟨⟨fun a o h k n=>s2.fr.keep a o (s1.fr.keep a o h k n) k fun i hi=> ?_,fun a h=>s1.fr.grow a (s2.fr.grow a h)⟩,fun i a h=> ?_,s2.rs,fun i h=>(s2.msk i h).trans (s1.msk i h)⟩
 ·rcases s1.nw i a hi with ⟨j,hj⟩|z
  ·exact n j hj
  ·rw [h] at z;cases z
 ·rcases s2.nw i a h with ⟨j,hj⟩|z
  ·exact s1.nw j a hj
  ·exact .inr (s1.fr.grow a z)
theorem OwnV.after{fv:List Addr}(s1:Stp φ σ H F σ1 H1 ps1 F1)(o:OwnV F1 H1 F2 fv):OwnV F H F2 fv:=
 ⟨fun a ha=>(o.nw a ha).elim (fun⟨j,hj⟩=>s1.nw j a hj) fun z=> .inr (s1.fr.grow a z),o.nd,o.dis⟩
theorem OwnV.new{fv:List Addr}(R:RS φ H σ ps F)(n:∀a∈fv,H a=none)(nd:fv.Nodup):OwnV F H F fv:=
 ⟨fun a ha=> .inr (n a ha),nd,fun i a ha hb=>by obtain⟨o,h,_⟩:=R.own ha;rw [n a hb] at h;cases h⟩
def sU(F:Nat->List Addr)(i:Nat)(fv:List Addr):Nat->List Addr:=fun j=>if j=i then fv else F j
theorem fY{i:Nat}{fv:List Addr}:sU F i fv i=fv:=by simp [sU]
theorem gB{i j:Nat}{fv:List Addr}(h:j≠i):sU F i fv j=F j:=by simp [sU,h]
theorem kX{i:Nat}{fv:List Addr}{j:Nat}{a:Addr}(h:a∈sU F i fv j):a∈fv\/a∈F j:=by
 by_cases e:j=i
 ·subst e;rw [fY] at h;exact .inl h
 ·rw [gB e] at h;exact .inr h
theorem RS.drop(R:RS φ H σ ps F)(i:Nat):RS φ H σ (ps.set i none) (sU F i []):=by
 have eF:∀j a,a∈sU F i [] j->j≠i/\a∈F j:=fun j a h=>by
  by_cases e:j=i
  ·subst e;rw [fY] at h;exact absurd h (by simp)
  ·rw [gB e] at h;exact⟨e,h⟩
 refine⟨fun j d h=> ?_,fun j a h=> ?_,fun j k a h1 h2=>R.dis j k a (eF j a h1).2 (eF k a h2).2,fun j=> ?_,fun j a h=>R.nb j a (eF j a h).2,R.bt,by simpa using R.len⟩
 ·have e:j≠i:=by
   rintro rfl
   by_cases hj:j<ps.length
   ·rw [List.getElem?_set_self hj] at h;cases h
   ·rw [List.getElem?_eq_none (by simpa using hj)] at h;cases h
  rw [List.getElem?_set_ne (fun z=>e z.symm)] at h
  rw [gB e]
  exact R.rep j d h
 ·obtain⟨e,h⟩:=eF j a h
  obtain⟨b,d,q⟩:=R.emp j a h
  exact⟨b,d,by rw [List.getElem?_set_ne (fun z=>e z.symm)];exact q⟩
 ·by_cases e:j=i
  ·subst e;rw [fY];exact List.nodup_nil
  ·rw [gB e];exact R.nd j
theorem RS.set(R:RS φ H σ ps F){i:Nat}{v:V}{d:D}{fv:List Addr}(r:Rep φ.K φ.U H v d fv)(hb:φ.bor i=false\/fv=[])(hd:∀j,j≠i->∀a∈F j,a∉fv)(hn:fv.Nodup)(hB:∀a∈fv,∀k,¬φ.B k a):
  RS φ H (σ.set i (some v)) (ps.set i (some d)) (sU F i (if i<ps.length then fv else [])):=by
 by_cases hi:i<ps.length
 ·rw [if_pos hi]
  have hl:=R.len
  refine⟨fun j d' h=> ?_,fun j a h=> ?_,fun j k a h1 h2=> ?_,fun j=> ?_,fun j a h=> ?_,R.bt,by simpa using R.len⟩
  ·by_cases e:j=i
   ·subst e
    rw [List.getElem?_set_self hi] at h
    cases h
    refine⟨v,fv,by rw [List.getElem?_set_self (by omega)],r,fun _=>fY.symm,fun z=> ?_⟩
    rcases hb with q|q
    ·rw [q] at z;cases z
    ·subst q;intro a ha;exact absurd ha (by simp)
   ·rw [List.getElem?_set_ne (fun z=>e z.symm)] at h|-
    rw [gB e]
    exact R.rep j d' h
  ·by_cases e:j=i
   ·subst e
    rw [fY] at h
    refine⟨?_,d,by rw [List.getElem?_set_self hi]⟩
    rcases hb with q|q
    ·exact q
    ·subst q;exact absurd h (by simp)
   ·rw [gB e] at h
    obtain⟨b,d',q⟩:=R.emp j a h
    exact⟨b,d',by rw [List.getElem?_set_ne (fun z=>e z.symm)];exact q⟩
  ·by_cases e1:j=i
   ·by_cases e2:k=i
    ·rw [e1,e2]
    ·subst e1;rw [fY] at h1;rw [gB e2] at h2;exact absurd h1 (hd k e2 a h2)
   ·by_cases e2:k=i
    ·subst e2;rw [fY] at h2;rw [gB e1] at h1;exact absurd h2 (hd j e1 a h1)
    ·rw [gB e1] at h1;rw [gB e2] at h2;exact R.dis j k a h1 h2
  ·by_cases e:j=i
   ·subst e;rw [fY];exact hn
   ·rw [gB e];exact R.nd j
  ·rcases kX h with z|z
   ·exact hB a z
   ·exact R.nb j a z
 ·rw [if_neg hi]
  have e0:ps.set i (some d)=ps:=List.set_eq_of_length_le (by omega)
  rw [e0]
  have R':=R.drop i
  rw [List.set_eq_of_length_le (by omega)] at R'
  refine⟨fun j d' h=> ?_,R'.emp,R'.dis,R'.nd,R'.nb,R'.bt,by simpa using R.len⟩
  have hj:j≠i:=by
   rintro rfl
   have:=(List.getElem?_eq_some_iff.mp h).1
   omega
  rw [List.getElem?_set_ne (fun z=>hj z.symm)]
  exact R'.rep j d' h
theorem Stp.set{fv:List Addr}{i:Nat}{v:V}{d:D}(s1:Stp φ σ H F σ1 H1 ps1 F1)(o:OwnV F H F1 fv)(R:RS φ H σ ps F)(r:Rep φ.K φ.U H1 v d fv)(hb:φ.bor i=false\/fv=[])(hm:φ.M i=false):
  ∃F',Stp φ σ H F (σ1.set i (some v)) H1 (ps1.set i (some d)) F':=by
 refine⟨_,s1.fr,fun j a h=> ?_,s1.rs.set r hb (fun j _=>o.dis j) o.nd fun a ha=>R.notB (o.nw a ha),fun j h=> ?_⟩
 ·rcases kX h with z|z
  ·by_cases k:i<ps1.length
   ·rw [if_pos k] at z;exact o.nw a z
   ·rw [if_neg k] at z;exact absurd z (by simp)
  ·exact s1.nw j a z
 ·rw [List.getElem?_set_ne (fun z=>by subst z;rw [hm] at h;cases h)]
  exact s1.msk j h
end
inductive Fl where
 |nx|bk|ct|ret (d:D)
abbrev _root_.tz1:=PSt->Option (Fl×PSt)
def yE(φ:Fx)(E:Ends)(σ:St)(H:Hp)(F:Nat->List Addr)(fl:Fl)(ps':PSt):Prop:=match fl with
 | .nx=>∀σ' H' F',Stp φ σ H F σ' H' ps' F'->E.nx σ' H'
 | .bk=>∀σ' H' F',Stp φ σ H F σ' H' ps' F'->E.bk σ' H'
 | .ct=>∀σ' H' F',Stp φ σ H F σ' H' ps' F'->E.ct σ' H'
 | .ret d=>∀v σ' H' F' fv,Stp φ σ H F σ' H' ps' F'->OwnV F H F' fv->Rep φ.K φ.U H' v d fv->E.rt v H'
def tS(φ:Fx)(f:tz1):TS:=fun E σ H=>∃ps F fl ps',RS φ H σ ps F/\f ps=some (fl,ps')/\yE φ E σ H F fl ps'
def tE(φ:Fx)(f:tz8):TE:=fun σ H Q=>∃ps F d ps',RS φ H σ ps F/\f ps=some (d,ps')/\∀v H' F' fv,Stp φ σ H F σ H' ps' F'->OwnV F H F' fv->Rep φ.K φ.U H' v d fv->Q v H'
def tTE(φ:Fx)(f:PSt->Option (Bool×PSt)):TT:=fun σ H Q=>∃ps F b ps',RS φ H σ ps F/\f ps=some (b,ps')/\∀H' F',Stp φ σ H F σ H' ps' F'->Q b H'
structure F0 where
 bor:Nat->Bool
 M:Nat->Bool
 B:Nat->Addr->Prop
def F0.fx(φ:F0)(K:tz0)(U:tz9):Fx:=⟨K,U,φ.bor,φ.M,φ.B⟩
abbrev QS(X:Cx)(U:tz9)(φ:F0)(st:Stmt)(f:tz1):Prop:=PS X st (tS (φ.fx X.K U) f)
abbrev QSs(X:Cx)(U:tz9)(φ:F0)(st:List Stmt)(f:tz1):Prop:=PSs X st (tS (φ.fx X.K U) f)
abbrev QE(X:Cx)(U:tz9)(φ:F0)(e:Expr)(f:tz8):Prop:=PE X e (tE (φ.fx X.K U) f)
abbrev QTE(X:Cx)(U:tz9)(φ:F0)(e:Expr)(f:PSt->Option (Bool×PSt)):Prop:=PT X e (tTE (φ.fx X.K U) f)
theorem zB{φ:Fx}{f:tz1}{E:Ends}{σ σ1:St}{H H1:Hp}{F F1:Nat->List Addr}{ps1 ps2:PSt}{fl:Fl}(s1:Stp φ σ H F σ1 H1 ps1 F1)(e:f ps1=some (fl,ps2))(q:yE φ E σ H F fl ps2):tS φ f E σ1 H1:=by
 refine⟨ps1,F1,fl,ps2,s1.rs,e,?_⟩
 cases fl with
 |nx=>exact fun σ' H' F' s=>q σ' H' F' (s1.trans s)
 |bk=>exact fun σ' H' F' s=>q σ' H' F' (s1.trans s)
 |ct=>exact fun σ' H' F' s=>q σ' H' F' (s1.trans s)
 |ret d=>exact fun v σ' H' F' fv s o r=>q v σ' H' F' fv (s1.trans s) (o.after s1) r
def aZ:tz1:=fun ps=>some (.nx,ps)
def aO(f g:tz1):tz1:=fun ps=>(f ps).bind fun r=>match r with
 |(.nx,ps')=>g ps'
 |(.bk,ps')=>some (.bk,ps')
 |(.ct,ps')=>some (.ct,ps')
 |(.ret d,ps')=>some (.ret d,ps')
def rR:tz1:=fun _=>none
section
variable{X:Cx}{U:tz9}{φ:F0}{st:Stmt}{rest:List Stmt}{f g:tz1}{pos:Pos}
theorem bX:QSs X U φ [] aZ:=zg4.imp fun E σ H ⟨ps,F,fl,ps',R,e,q⟩=>by cases e;exact q σ H F (.refl R)
theorem aR(h:QS X U φ st f):QSs X U φ [st] f:=tG h
theorem aM(h1:QS X U φ st f)(h2:QSs X U φ rest g):QSs X U φ (st::rest) (aO f g):=
 (kF h1 h2).imp fun E σ H hh_=>by
  obtain⟨ps,F,fl,ps',R,e,q⟩:=hh_
  obtain⟨⟨fl1,ps1⟩,e1,e2⟩:=bind_some e
  refine⟨ps,F,fl1,ps1,R,e1,?_⟩
  cases fl1 with
  |nx=>exact fun σ' H' F' s=>zB s e2 q
  |bk=>cases e2;exact q
  |ct=>cases e2;exact q
  |ret d=>cases e2;exact q
theorem nK:QS X U φ st rR:=yr0.imp fun E σ H ⟨ps,F,fl,ps',R,e,q⟩=>by cases e
def aH(f:tz2):tz8:=fun ps=>(f ps).bind fun d=>some (d,ps)
theorem QP.e{e:Expr}{f:tz2}(h:PE X e (tP X.K U f)):QE X U φ e (aH f):=h.imp fun σ H Q hh_=>by
 obtain⟨ps,F,d,ps',R,e,q⟩:=hh_
 obtain⟨d1,e1,e2⟩:=bind_some e
 cases e2
 exact⟨ps,_,R.ws,e1,fun v H' fv s n nd r=>q v H' F fv (.same R s) (.new R n nd) r⟩
def aL(f:tz4):PSt->Option (Bool×PSt):=fun ps=>(f ps).bind fun d=>some (d,ps)
theorem QT.e{e:Expr}{f:tz4}(h:PT X e (tQ X.K U f)):QTE X U φ e (aL f):=h.imp fun σ H Q hh_=>by
 obtain⟨ps,F,d,ps',R,e,q⟩:=hh_
 obtain⟨d1,e1,e2⟩:=bind_some e
 cases e2
 exact⟨ps,_,R.ws,e1,fun H' s=>q H' F (.same R s)⟩
def aS(i:Nat)(f:tz8):tz1:=fun ps=>(f ps).bind fun r=>some (.nx,r.2.set i (some r.1))
theorem bN(i:Nat){x:Str}{e:Expr}{pos':Pos}{f:tz8}(hN:X.N.Nodup)(hi:X.N[i]? =some x)(hx:Loc X.env.scope x)(hb:φ.bor i=false)(hm:φ.M i=false)(he:QE X U φ e f)(hs:swapsWith e (some (.Name x pos')) pos.line X.env=pure false:=by rfl)(hf:X.fn x=true\/X.env.scope.names.lookup x=some .local:=by first|exact .inl rfl|exact .inr rfl|assumption):
  QS X U φ (.Assign [.Name x pos'] e pos) (aS i f):=(qX hN hi hx he hs hf).imp fun E σ H hh_=>by
 obtain⟨ps,F,fl,ps',R,e,q⟩:=hh_
 obtain⟨⟨d,ps1⟩,e1,e2⟩:=bind_some e
 cases e2
 refine⟨ps,F,d,ps1,R,e1,fun v H' F' fv s o r=> ?_⟩
 obtain⟨F2,s2⟩:=s.set o R r (.inl hb) hm (i:=i)
 exact q _ _ F2 s2
def bA(f:tz8):tz1:=fun ps=>(f ps).bind fun r=>some (.nx,r.2)
theorem dW{e:Expr}{f:tz8}(he:QE X U φ e f)(hs:swapsWith e none pos.line X.env=pure false:=by rfl):QS X U φ (.Expr e pos) (bA f):=(zy1 he hs).imp fun E σ H hh_=>by
 obtain⟨ps,F,fl,ps',R,e,q⟩:=hh_
 obtain⟨⟨d,ps1⟩,e1,e2⟩:=bind_some e
 cases e2
 exact⟨ps,F,d,ps1,R,e1,fun v H' F' fv s o r=>q _ _ F' s⟩
def bQ(f:tz8):tz1:=fun ps=>(f ps).bind fun r=>some (.ret r.1,r.2)
theorem cO{e:Expr}{f:tz8}(he:QE X U φ e f):QS X U φ (.Return (some e) pos) (bQ f):=(qW he).imp fun E σ H hh_=>by
 obtain⟨ps,F,fl,ps',R,e,q⟩:=hh_
 obtain⟨⟨d,ps1⟩,e1,e2⟩:=bind_some e
 cases e2
 exact⟨ps,F,d,ps1,R,e1,fun v H' F' fv s o r=>q v σ H' F' fv s o r⟩
def fJ(i:Nat):tz1:=fun ps=>((ps[i]?).join).bind fun d=>some (.ret d,ps.set i none)
theorem join_some{ps:PSt}{i:Nat}{d:D}(h:(ps[i]?).join=some d):ps[i]? =some (some d):=by
 cases q:ps[i]? with
 |none=>rw [q] at h;cases h
 |some o=>rw [q] at h;exact congrArg some h
theorem qR(i:Nat){x:Str}{p:Pos}(hb:φ.bor i=false)(hN:X.N[i]? =some x:=by rfl)(hv:Vis X.env.scope x:=by first|exact Or.inl rfl|exact Or.inr (Or.inl rfl)|exact Or.inr (Or.inr rfl))(hd:(x==("__debug__":Str))=false:=by decide)
  (hcd:(x==("__classdict__":Str))=false:=by decide):QS X U φ (.Return (some (.Name x p)) pos) (fJ i):=(qW (lS hN hv hd hcd)).imp fun E σ H hh_=>by
 obtain⟨ps,F,fl,ps',R,e,q⟩:=hh_
 obtain⟨d,e1,e2⟩:=bind_some e
 cases e2
 obtain⟨v,fp,h1,h2,h3,_⟩:=R.rep i d (join_some e1)
 have h3:=h3 hb
 subst h3
 refine⟨v,h1,q v σ H (sU F i []) (F i) ⟨⟨fun a o h _ _=>h,fun a h=>h⟩,fun j a h=> ?_,R.drop i,fun _ _=>rfl⟩ ⟨fun a h=> .inl ⟨i,h⟩,R.nd i,fun j a h1 h2=> ?_⟩ h2⟩
 ·rcases kX h with z|z
  ·exact absurd z (by simp)
  ·exact .inl ⟨j,z⟩
 ·rcases kX h1 with z|z
  ·exact absurd z (by simp)
  ·have:=R.dis j i a z h2
   subst this
   rw [fY] at h1;exact absurd h1 (by simp)
def fIf(c:PSt->Option (Bool×PSt))(f g:tz1):tz1:=fun ps=>(c ps).bind fun r=>if r.1=true then f r.2 else g r.2
theorem cG{c:Expr}{a b:List Stmt}{tc:PSt->Option (Bool×PSt)}(hc:QTE X U φ c tc)(ha:QSs X U φ a f)(hb:QSs X U φ b g):QS X U φ (.If c a b pos) (fIf tc f g):=(za0 hc ha hb).imp fun E σ H hh_=>by
 obtain⟨ps,F,fl,ps',R,e,q⟩:=hh_
 obtain⟨⟨k,ps1⟩,e1,e2⟩:=bind_some e
 refine⟨ps,F,k,ps1,R,e1,fun H' F' s=> ?_⟩
 cases k with
 |true=>rw [if_pos rfl] at e2|-;exact zB s e2 q
 |false=>rw [if_neg Bool.false_ne_true] at e2|-;exact zB s e2 q
end
def lG(c:PSt->Option (Bool×PSt))(f:tz1):Nat->tz1
 |0,_=>none
 | n+1,ps=>(c ps).bind fun r=>if r.1=true then(f r.2).bind fun q=>match q with
   |(.nx,p)=>lG c f n p
   |(.ct,p)=>lG c f n p
   |(.bk,p)=>some (.nx,p)
   |(.ret d,p)=>some (.ret d,p)
  else some (.nx,r.2)
section
variable{X:Cx}{φ:Fx}{pos:Pos}{body:List Stmt}{f:tz1}
theorem yE.back{E:Ends}{σ σ1:St}{H H1:Hp}{F F1:Nat->List Addr}{ps1 ps2:PSt}{fl:Fl}(s1:Stp φ σ H F σ1 H1 ps1 F1)(q:yE φ E σ H F fl ps2):yE φ E σ1 H1 F1 fl ps2:=by
 cases fl with
 |nx=>exact fun σ' H' F' s=>q σ' H' F' (s1.trans s)
 |bk=>exact fun σ' H' F' s=>q σ' H' F' (s1.trans s)
 |ct=>exact fun σ' H' F' s=>q σ' H' F' (s1.trans s)
 |ret d=>exact fun v σ' H' F' fv s o r=>q v σ' H' F' fv (s1.trans s) (o.after s1) r
def xr9(φ:Fx)(σ:St)(H:Hp)(F:Nat->List Addr)(tc:PSt->Option (Bool×PSt))(f:tz1)(fl:Fl)(ps':PSt)(m:Nat)(σ1:St)(H1:Hp):Prop:=∃ps1 F1,Stp φ σ H F σ1 H1 ps1 F1/\lG tc f m ps1=some (fl,ps')
theorem zC{U:tz9}{φ:F0}(n:Nat){c:Expr}{tc:PSt->Option (Bool×PSt)}(hp:PassesOwn (model X.prog X.w) X.A X.env X.xe)(hc:QTE X U φ c tc)(hb:QSs X U φ body f):QS X U φ (.While c body [] pos) (lG tc f n):=
 (yr1 hp hc hb).imp fun E σ H hh_=>by
  obtain⟨ps,F,fl,ps',R,e,q⟩:=hh_
  refine⟨xr9 (φ.fx X.K U) σ H F tc f fl ps',⟨n,ps,F,.refl R,e⟩,?_⟩
  rintro m σ1 H1 ⟨ps1,F1,s1,e1⟩
  cases m with
  |zero=>cases e1
  | succ m=>
   rw [lG] at e1
   obtain⟨⟨k,ps2⟩,e2,e3⟩:=bind_some e1
   refine⟨ps1,F1,k,ps2,s1.rs,e2,fun H2 F2 s2=> ?_⟩
   have s12:=s1.trans s2
   cases k with
   |true=>
    dsimp only at e3|-
    rw [if_pos rfl] at e3|-
    obtain⟨⟨fl3,ps3⟩,e4,e5⟩:=bind_some e3
    refine⟨fun σ' H'=>∃F',Stp (φ.fx X.K U) σ1 H2 F2 σ' H' ps3 F'/\lG tc f m ps3=some (fl,ps'),fun σ' H' ⟨F',s,e⟩=>⟨m,Nat.lt_succ_self m,ps3,F',s12.trans s,e⟩,?_⟩
    refine⟨ps2,F2,fl3,ps3,s2.rs,e4,?_⟩
    cases fl3 with
    |nx=>exact fun σ' H' F' s=>⟨F',s,e5⟩
    |ct=>exact fun σ' H' F' s=>⟨F',s,e5⟩
    |bk=>cases e5;exact fun σ' H' F' s=>q σ' H' F' (s12.trans s)
    |ret d=>cases e5;exact fun v σ' H' F' fv s o r=>q v σ' H' F' fv (s12.trans s) (o.after s12) r
   |false=>
    dsimp only at e3|-
    rw [if_neg Bool.false_ne_true] at e3|-
    cases e3
    exact q _ _ F2 s12
end
def sV(Z:List Addr)(H H':Hp):Prop:=∀a o,H a=some o->(tf o=true\/(kd o=true/\a∈Z))->H' a=some o
structure Walk(K:tz0)(U:tz9)(J:It)(Z:List Addr)(H1:Hp)(ds:List D):Prop where
 go:∀H',sV Z H1 H'->∀(i:Nat) d,ds[i]? =some d->J.go i H'/\∀x H2,J.yld i H' x H2->H2=H'/\Rep K U H' x d []
 stop:∀H',sV Z H1 H'->J.stop ds.length H'
def tIV(K:tz0)(U:tz9)(f:tz3):TI:=fun σ H R=>∃ps ds,WS K U H σ ps/\f ps=some ds/\∀J H1 Z,SameK H H1->Walk K U J Z H1 ds->R J H1
def tIP(K:tz0)(U:tz9)(f:tz3):TI:=fun σ H R=>∃ps ds,WS K U H σ ps/\f ps=some ds/\∀J H1 Z,SameK H H1->(∀a∈Z,H a=none/\H1 a≠none)->Walk K U J Z H1 ds->R J H1
theorem sV.sq{K:tz0}{Z:List Addr}{H H':Hp}{a:Addr}{vs:List V}(k:sV Z H H')(h:Rd H a (.lst vs))(hz:H a=some (.lst vs)->a∈Z):SqL K H' a vs:=by
 rcases h with h|⟨o,h⟩
 ·exact .inl (.inl (k a _ h (.inr ⟨rfl,hz h⟩)))
 ·exact .inl (.inr ⟨o,k a _ h (.inl rfl)⟩)
theorem sV.rep{K:tz0}{U:tz9}{Z:List Addr}{H H':Hp}{v:V}{d:D}(k:sV Z H H')(r:Rep K U H v d []):Rep K U H' v d []:=r.move (fun a o h t=>k a o h (.inl t)) fun a ha=>absurd ha (by simp)
theorem uJ{α β:Type}{R:α->β->Prop}:∀{l₁:List α} {l₂:List β} {i:Nat} {y:β},Paired R l₁ l₂->l₂[i]? =some y->∃x,l₁[i]? =some x/\R x y
 |_,_,_,_,.nil,e=>by simp at e
 |_,_,0,_,.cons h _,e=>by simp at e;subst e;exact⟨_,rfl,h⟩
 |_,_,i+1,_,.cons _ t,e=>by obtain⟨x,h1,h2⟩:=uJ (i:=i) t (by simpa using e);exact⟨x,by simpa using h1,h2⟩
section
variable{K:tz0}{U:tz9}{H1:Hp}{a:Addr}{vs:List V}{ds:List D}{Z:List Addr}
theorem zl1(h:Rd H1 a (.lst vs))(hz:H1 a=some (.lst vs)->a∈Z)(r:Paired (fun v d=>Rep K U H1 v d []) vs ds):Walk K U (Itl K a) Z H1 ds where
 go:=fun H' k i d e=>by
  obtain⟨x,e1,r1⟩:=uJ r e
  have sq:SqL K H' a vs:=k.sq h hz
  refine⟨⟨vs,x,sq,e1⟩,fun y H2 hy=>⟨hy.1,?_⟩⟩
  have e2:=hy.2 vs sq
  rw [e1] at e2;cases e2
  exact k.rep r1
 stop:=fun H' k=>⟨vs,k.sq h hz,by rw [Paired.length r];exact Nat.le_refl _⟩
theorem yt0(h:SqF K H1 a vs)(r:Paired (fun v d=>Rep K U H1 v d []) vs ds):Walk K U (Itl K a) Z H1 ds where
 go:=fun H' k i d e=>by
  obtain⟨x,e1,r1⟩:=uJ r e
  have sq:SqL K H' a vs:=(h.tf fun a o e t=>k a o e (.inl t)).l
  refine⟨⟨vs,x,sq,e1⟩,fun y H2 hy=>⟨hy.1,?_⟩⟩
  have e2:=hy.2 vs sq
  rw [e1] at e2;cases e2
  exact k.rep r1
 stop:=fun H' k=>⟨vs,(h.tf fun a o e t=>k a o e (.inl t)).l,by rw [Paired.length r];exact Nat.le_refl _⟩
theorem yt1(h:SqT K H1 a vs)(r:Paired (fun v d=>Rep K U H1 v d []) vs ds):Walk K U (Itt K a) Z H1 ds where
 go:=fun H' k i d e=>by
  obtain⟨x,e1,r1⟩:=uJ r e
  have sq:SqT K H' a vs:=h.tf fun a o e t=>k a o e (.inl t)
  refine⟨⟨vs,x,sq,e1⟩,fun y H2 hy=>⟨hy.1,?_⟩⟩
  have e2:=hy.2 vs sq
  rw [e1] at e2;cases e2
  exact k.rep r1
 stop:=fun H' k=>⟨vs,h.tf fun a o e t=>k a o e (.inl t),by rw [Paired.length r];exact Nat.le_refl _⟩
end
def gZ(lo:Int)(n:Nat):List D:=(List.range n).map fun(k:Nat)=> .int (lo+(k:Int))
theorem za9{K:tz0}{U:tz9}{H1:Hp}{Z:List Addr}(lo:Int)(n:Nat):Walk K U (Itr lo n) Z H1 (gZ lo n) where
 go:=fun H' _ i d e=>by
  have hi:=(List.getElem?_eq_some_iff.mp e).1
  unfold gZ at hi e
  rw [List.length_map,List.length_range] at hi
  rw [List.getElem?_map,List.getElem?_range hi] at e
  cases e
  exact⟨hi,fun x H2 ⟨h1,h2⟩=>⟨h1,by rw [h2];exact .int _⟩⟩
 stop:=fun H' _=>by
  show n<=(gZ lo n).length
  unfold gZ
  rw [List.length_map,List.length_range];exact Nat.le_refl _
abbrev QIV(X:Cx)(U:tz9)(tg iter:Expr)(f:tz3):Prop:=PI X tg iter (tIV X.K U f)
abbrev QIP(X:Cx)(U:tz9)(tg iter:Expr)(f:tz3):Prop:=PI X tg iter (tIP X.K U f)
theorem PI.imp{X:Cx}{tg e:Expr}{t t':TI}(h:PI X tg e t)(k:∀σ H Q,t' σ H Q->t σ H Q):PI X tg e t':=fun pins s σ H Q I q=>h pins s σ H Q I (k σ H Q q)
section
variable{X:Cx}{U:tz9}{tg l a b:Expr}{f:tz2}{g:tz3}{p pos:Pos}
def yF:List D->Option (List D)
 |[.int j]=>if (-(2^62)<=j/\j<2^62) then some (gZ 0 j.toNat) else none
 |_=>none
def zo6:List D->Option (List D)
 |[.int i,.int j]=>if (-(2^62)<=i/\i<2^62/\ -(2^62)<=j/\j<2^62) then some (gZ i (j-i).toNat) else none
 |_=>none
def kC(g:tz3):tz3:=fun ps=>(g ps).bind yF
def yG(g:tz3):tz3:=fun ps=>(g ps).bind zo6
theorem nR(hg:Gl X "range")(hm:X.mg "range"=none)(ha:QVA X U [a] g)(hs:starEach [a] X.env=[(false,eval a X.env)]:=by rfl):QIP X U tg (.Call (.Name "range" p) [a] [] pos) (kC g):=
 PI.imp (yj2 hg hm ha hs) fun σ H R hh_=>by
  obtain⟨ps,ds,w,e,q⟩:=hh_
  obtain⟨as,e1,e2⟩:=bind_some e
  refine⟨ps,as,w,e1,fun vs H1 fp s1 r1=> ?_⟩
  unfold yF at e2
  split at e2
  ·obtain⟨hc,e3⟩:=cN e2
   cases e3
   obtain⟨v,rfl,r⟩:=r1.one_inv
   exact⟨_,by rw [r.is_int],hc.1,hc.2,q _ H1 [] s1 (fun _ h=>absurd h (by simp)) (za9 _ _)⟩
  ·cases e2
theorem wA(hg:Gl X "range")(hm:X.mg "range"=none)(ha:QVA X U [a,b] g)(hs:starEach [a,b] X.env=[(false,eval a X.env),(false,eval b X.env)]:=by rfl)(hs2:starEach [b] X.env=[(false,eval b X.env)]:=by rfl):QIP X U tg (.Call (.Name "range" p) [a,b] [] pos) (yG g):=
 PI.imp (yj3 hg hm ha hs hs2) fun σ H R hh_=>by
  obtain⟨ps,ds,w,e,q⟩:=hh_
  obtain⟨as,e1,e2⟩:=bind_some e
  refine⟨ps,as,w,e1,fun vs H1 fp s1 r1=> ?_⟩
  unfold zo6 at e2
  split at e2
  ·obtain⟨hc,e3⟩:=cN e2
   cases e3
   obtain⟨v,u,f,g,rfl,r,r'⟩:=r1.two_inv
   exact⟨_,_,by rw [r.is_int,r'.is_int],hc,q _ H1 [] s1 (fun _ h=>absurd h (by simp)) (za9 _ _)⟩
  ·cases e2
def xs0(K:tz0)(tl:TE):TI:=fun σ H R=>tl σ H fun x H1=>∃a,x= .ref a/\(((∃xs,SqL K H1 a xs)/\R (Itl K a) H1)\/((∃xs,SqT K H1 a xs)/\R (Itt K a) H1))
theorem zb0{tl:TE}(hl:PE X l tl):PI X tg l (xs0 X.K tl):=by
 intro pins s σ H R I h
 refine thn (hl pins s σ H _ I h) fun v s1 ⟨x,H1,I1,r1,q1⟩=> ?_
 obtain⟨a,e,q1⟩:=q1
 subst e
 cases r1
 rcases q1 with ⟨⟨xs,hq⟩,q⟩|⟨⟨xs,hq⟩,q⟩
 ·obtain⟨its,rv,p,hz⟩:=I1.list hq
  refine wpAny_pyIter_list p.isList ?_
  refine⟨s1.heap.objs.size,[s1.heap.objs.size],_,_,H1,rfl,I1.kept (t':=s1.toks) fun b o e=>Heap.get?_push_of_some _ e,yj1 a _,⟨_,Heap.get?_push_size _ rfl,rfl,rfl⟩,fun b hb=> ?_,q⟩
  have e:b=s1.heap.objs.size:=by simpa using hb
  subst e
  exact I1.fpOk (Nat.le_refl _) (I1.hok.fresh (Nat.le_refl _))
 ·obtain⟨its,rv,p,hz⟩:=I1.tuple hq
  refine wpAny_pyIter_tuple (show s1.heap.IsTuple a its.toArray from p) ?_
  refine⟨s1.heap.objs.size,[s1.heap.objs.size],_,_,H1,rfl,I1.kept (t':=s1.toks) fun b o e=>Heap.get?_push_of_some _ e,yc2 a _,⟨_,Heap.get?_push_size _ rfl,rfl,rfl⟩,fun b hb=> ?_,q⟩
  have e:b=s1.heap.objs.size:=by simpa using hb
  subst e
  exact I1.fpOk (Nat.le_refl _) (I1.hok.fresh (Nat.le_refl _))
def qH:D->Option (List D)
 | .lst _ xs=>if D.imms xs=true then some xs else none
 | .tup xs=>some xs
 | .con xs=>some xs
 |_=>none
theorem xQ{K:tz0}{H:Hp}{v:V}{d:D}{fp:List Addr}{ds:List D}{R:It->Hp->Prop}(r:Rep K U H v d fp)(e:qH d=some ds)(q:∀J Z,(∀a∈Z,a∈fp)->Walk K U J Z H ds->R J H):
  ∃a,v= .ref a/\(((∃xs,SqL K H a xs)/\R (Itl K a) H)\/((∃xs,SqT K H a xs)/\R (Itt K a) H)):=by
 cases d with
 |lst o xs=>
  obtain⟨hc,e⟩:=cN e
  cases e
  cases r with
  |lst h hs=>exact⟨_,rfl,.inl ⟨⟨_,.inl (.inl h)⟩,q _ [_] (fun a ha=>by simp at ha;subst ha;exact List.mem_cons_self) (zl1 (.inl h) (fun _=>by simp) (hs.pair hc))⟩⟩
  |lstF h hs=>exact⟨_,rfl,.inl ⟨⟨_,.inl (.inr ⟨_,h⟩)⟩,q _ [] (fun a ha=>absurd ha (by simp)) (zl1 (.inr ⟨_,h⟩) (fun z=>by rw [h] at z;cases z) (hs.pair hc))⟩⟩
 |tup xs=>
  cases e
  obtain⟨a,vs,rfl,h,hs⟩:=r.tup_inv
  exact⟨a,rfl,.inr ⟨⟨_,h⟩,q _ [] (fun a ha=>absurd ha (by simp)) (yt1 h hs.nilp)⟩⟩
 |con xs=>
  cases e
  obtain⟨a,vs,rfl,h,hs⟩:=r.con_inv
  exact⟨a,rfl,.inl ⟨⟨_,h.l⟩,q _ [] (fun a ha=>absurd ha (by simp)) (yt0 h hs.nilp)⟩⟩
 |_=>cases e
def dR(f:tz2):tz3:=fun ps=>(f ps).bind qH
theorem zb1(h:QP X U l f):QIP X U tg l (dR f):=PI.imp (zb0 h) fun σ H R hh_=>by
 obtain⟨ps,ds,w,e,q⟩:=hh_
 obtain⟨d,e1,e2⟩:=bind_some e
 exact⟨ps,d,w,e1,fun v H1 fv s1 n1 nd1 r1=>xQ r1 e2 fun J Z hz k=>q J H1 Z s1 (fun a ha=>⟨n1 a (hz a ha),fun z=>by obtain⟨o,h,_⟩:=r1.own a (hz a ha);rw [z] at h;cases h⟩) k⟩
theorem zb2(h:QV X U l f):QIV X U tg l (dR f):=PI.imp (zb0 h) fun σ H R hh_=>by
 obtain⟨ps,ds,w,e,q⟩:=hh_
 obtain⟨d,e1,e2⟩:=bind_some e
 exact⟨ps,d,w,e1,fun v H1 fv s1 r1=>xQ r1 e2 fun J Z _ k=>q J H1 Z s1 k⟩
end
def eW(i:Nat)(f:tz1):List D->tz1
 |[],ps=>some (.nx,ps)
 | d::ds,ps=>(f (ps.set i (some d))).bind fun q=>match q with
   |(.nx,p)=>eW i f ds p
   |(.ct,p)=>eW i f ds p
   |(.bk,p)=>some (.nx,p)
   |(.ret d,p)=>some (.ret d,p)
section
variable{X:Cx}{φ:Fx}{pos:Pos}{body:List Stmt}{f:tz1}
theorem Frm.kept{F:Nat->List Addr}{H H':Hp}{Z:List Addr}{σ:St}{ps:PSt}(R:RS φ H σ ps F)(k:Frm F H H')(hz:∀a∈Z,∀i,a∉F i):sV Z H H':=fun a o h t=>by
 rcases t with t|⟨t1,t2⟩
 ·refine k.keep a o h (nJ t) fun i hi=> ?_
  obtain⟨o',h',_,t'⟩:=R.own hi
  rw [h] at h';cases h';rw [t] at t';cases t'
 ·exact k.keep a o h t1 (hz a t2)
def yz2(J:It)(E:Ends)(V:Nat->Nat->St->Hp->Prop)(g:TG)(tb:TS)(k m:Nat)(σ:St)(H:Hp):Prop:=
 (J.stop k H/\E.nx σ H)\/(J.go k H/\∃N:St->Hp->Prop,(∀σ' H',N σ' H'->∃m',m'<m/\V (k+1) m' σ' H')/\∀x H',J.yld k H x H'->g x σ H' fun σ2 H2=>tb {E with nx:=N,ct:=N,bk:=E.nx} σ2 H2)
def xs1(φ:Fx)(σ:St)(H:Hp)(F:Nat->List Addr)(i:Nat)(f:tz1)(ds:List D)(fl:Fl)(ps':PSt)(k m:Nat)(σ1:St)(H1:Hp):Prop:=k<=ds.length/\m=ds.length-k/\∃ps1 F1,Stp φ σ H F σ1 H1 ps1 F1/\eW i f (ds.drop k) ps1=some (fl,ps')
theorem zq9{E:Ends}{σ:St}{H:Hp}{F:Nat->List Addr}{ps ps':PSt}{fl:Fl}{ds:List D}{J:It}{Z:List Addr}{i:Nat}(R:RS φ H σ ps F)(hz:∀a∈Z,H a≠none/\∀i,a∉F i)(W:Walk φ.K φ.U J Z H ds)(hb:φ.bor i=false)(hm:φ.M i=false)
  (e:eW i f ds ps=some (fl,ps')) (q:yE φ E σ H F fl ps'):∃V:Nat->Nat->St->Hp->Prop,(∃m,V 0 m σ H)/\∀k m σ H,V k m σ H->yz2 J E V (oO i) (tS φ f) k m σ H:=by
 refine⟨xs1 φ σ H F i f ds fl ps',⟨_,Nat.zero_le _,rfl,ps,F,.refl R,by rw [List.drop_zero];exact e⟩,?_⟩
 rintro k m σ1 H1 ⟨hk,rfl,ps1,F1,s1,e1⟩
 have kp:sV Z H H1:=s1.fr.kept R fun a ha=>(hz a ha).2
 by_cases hlt:k<ds.length
 ·right
  have ed:ds[k]? =some ds[k]:=List.getElem?_eq_getElem hlt
  obtain⟨hgo,hy⟩:=W.go H1 kp k _ ed
  rw [List.drop_eq_getElem_cons hlt,eW] at e1
  obtain⟨⟨fl2,ps2⟩,e2,e3⟩:=bind_some e1
  refine⟨hgo,fun σ' H'=>∃F',Stp φ σ H F σ' H' ps2 F'/\eW i f (ds.drop (k+1)) ps2=some (fl,ps'),fun σ' H' ⟨F',s,e⟩=>⟨ds.length-(k+1),by omega,hlt,rfl,ps2,F',s,e⟩,fun x H' y=> ?_⟩
  obtain⟨rfl,rx⟩:=hy x H' y
  obtain⟨F2,s2⟩:=(Stp.refl s1.rs).set (i:=i) (fv:=[]) (v:=x) (d:=ds[k]) ⟨fun _ h=>absurd h (by simp),List.nodup_nil,fun _ _ _ h=>absurd h (by simp)⟩ s1.rs rx (.inl hb) hm
  have s12:=s1.trans s2
  refine⟨_,F2,fl2,ps2,s2.rs,e2,?_⟩
  cases fl2 with
  |nx=>exact fun σ' H' F' s=>⟨F',s12.trans s,e3⟩
  |ct=>exact fun σ' H' F' s=>⟨F',s12.trans s,e3⟩
  |bk=>cases e3;exact fun σ' H' F' s=>q σ' H' F' (s12.trans s)
  |ret d=>cases e3;exact fun v σ' H' F' fv s o r=>q v σ' H' F' fv (s12.trans s) (o.after s12) r
 ·left
  have ek:k=ds.length:=by omega
  subst ek
  rw [List.drop_length,eW] at e1
  cases e1
  exact⟨W.stop H1 kp,q _ _ F1 s1⟩
def fI(i:Nat)(fi:tz3)(f:tz1):tz1:=fun ps=>(fi ps).bind fun ds=>eW i f ds ps
theorem oG{U:tz9}{φ:F0}(i:Nat){x:Str}{px:Pos}{iter:Expr}{fi:tz3}(hp:PassesOwn (model X.prog X.w) X.A X.env X.xe)(hc:X.calm=true)(hN:X.N.Nodup)(hi:X.N[i]? =some x)(hx:Loc X.env.scope x)(hb:φ.bor i=false)(hm:φ.M i=false)
  (hit:PI X (.Name x px) iter (tIP X.K U fi)) (hbd:QSs X U φ body f) (hs:∀x,foldedSetIterable iter X.env x=pure x:=by intro _;rfl) (hf:X.fn x=true\/X.env.scope.names.lookup x=some .local:=by first|exact .inl rfl|exact .inr rfl|assumption):
  QS X U φ (.For (.Name x px) iter body [] pos) (fI i fi f):=(zp5 hp hc hit (kO hN hi hx hf) hbd hs).imp fun E σ H hh_=>by
 obtain⟨ps,F,fl,ps',R,e,q⟩:=hh_
 obtain⟨ds,e1,e2⟩:=bind_some e
 refine⟨ps,ds,R.ws,e1,fun J H1 Z s1 hz W=> ?_⟩
 have s:=Stp.same R s1
 exact zq9 s.rs (fun a ha=>⟨(hz a ha).2,fun j hj=>by obtain⟨o,h,_⟩:=R.own hj;rw [(hz a ha).1] at h;cases h⟩) W hb hm e2 (q.back s)
def xl7(g:TG)(tb:TS)(E:Ends)(σ:St):It->Hp->Prop:=fun J H1=>∃W:Nat->Nat->St->Hp->Prop,(∃m,W 0 m σ H1)/\∀i m σ H,W i m σ H->
 (J.stop i H/\E.nx σ H)\/(J.go i H/\∃N:St->Hp->Prop,(∀σ' H',N σ' H'->∃m',m'<m/\W (i+1) m' σ' H')/\∀x H',J.yld i H x H'->g x σ H' fun σ2 H2=>tb {E with nx:=N,ct:=N,bk:=E.nx} σ2 H2)
theorem qS{U:tz9}{φ:F0}(i j:Nat){x y:Str}{px py:Pos}(hp:PassesOwn (model X.prog X.w) X.A X.env X.xe)(hc:X.calm=true)(hN:X.N.Nodup)(hi:X.N[i]? =some x)(hx:Loc X.env.scope x)(hb:φ.bor i=false)(hm:φ.M i=false)(hj:φ.bor j=true)
  (hbd:QSs X U φ body f) (hNj:X.N[j]? =some y:=by rfl) (hv:Vis X.env.scope y:=by first|exact Or.inl rfl|exact Or.inr (Or.inl rfl)|exact Or.inr (Or.inr rfl)) (hd:(y==("__debug__":Str))=false:=by decide)
  (hcd:(y==("__classdict__":Str))=false:=by decide) (hs:∀x,foldedSetIterable (.Name y py) X.env x=pure x:=by intro _;rfl) (hf:X.fn x=true\/X.env.scope.names.lookup x=some .local:=by first|exact .inl rfl|exact .inr rfl|assumption):
  QS X U φ (.For (.Name x px) (.Name y py) body [] pos) (fI i (dR (aA j)) f):=(zp5 hp hc (zb0 (lS hNj hv hd hcd)) (kO hN hi hx hf) hbd hs).imp fun E σ H hh_=>by
 obtain⟨ps,F,fl,ps',R,e,q⟩:=hh_
 obtain⟨ds,e1,e2⟩:=bind_some e
 obtain⟨d,e3,e4⟩:=bind_some e1
 obtain⟨v,fp,h1,h2,_,h4⟩:=R.rep j d (join_some e3)
 refine⟨v,h1,?_⟩
 refine xQ (R:=xl7 (oO i) (tS (φ.fx X.K U) f) E σ) h2 e4 fun J Z hz W=> ?_
 exact zq9 R (fun a ha=>⟨R.bt j a (h4 hj a (hz a ha)),fun k hk=>R.nb k a hk j (h4 hj a (hz a ha))⟩) W hb hm e2 q
end
def gP(np n:Nat)(f:tz1):tz6:=fun ds=>if ds.length=np then(f (ds.map some++List.replicate n none)).bind fun r=>match r with
 |(.ret d,_)=>some d
 |(.nx,_)=>some .non
 |_=>none
 else none
def SpP(np:Nat)(K:tz0)(U:tz9)(g:tz6):Sp:=fun vs H Q _=>vs.length=np/\∃ds fp d,Reps K U H vs ds fp/\g ds=some d/\lK K U H d Q
def fxP(K:tz0)(U:tz9)(np:Nat)(B:Nat->Addr->Prop):Fx:=⟨K,U,fun i=>decide (i<np),fun _=>false,B⟩
def f0P(np:Nat)(B:Nat->Addr->Prop):F0:=⟨fun i=>decide (i<np),fun _=>false,B⟩
theorem yl6{N:List Str}{vs:List V}{i:Nat}{v:V}(h:vs[i]? =some v):(start N vs)[i]? =some (some v):=by
 unfold start
 have hi:=(List.getElem?_eq_some_iff.mp h).1
 rw [List.getElem?_append_left (by simpa using hi),List.getElem?_map,h];rfl
theorem RS.start{K:tz0}{U:tz9}{H:Hp}{N:List Str}{vs:List V}{ds:List D}{fp:List Addr}{np:Nat}(r:Reps K U H vs ds fp)(hl:vs.length=np)(hn:np<=N.length):
  RS (fxP K U np (fun _ a=>a∈fp)) H (start N vs) (ds.map some++List.replicate (N.length-np) none) (fun _=>[]):=by
 have el:=r.length
 refine⟨fun i d h=> ?_,fun i a h=>absurd h (by simp),fun i j a h=>absurd h (by simp),fun i=>List.nodup_nil,fun i a h=>absurd h (by simp),fun k a h z=> ?_,?_⟩
 ·by_cases hi:i<ds.length
  ·rw [List.getElem?_append_left (by simpa using hi),List.getElem?_map] at h
   cases e:ds[i]? with
   |none=>rw [e] at h;cases h
   |some d'=>
    rw [e] at h;cases h
    obtain⟨v,f,h1,h2,h3⟩:=r.get e
    refine⟨v,f,yl6 h1,h2,fun z=> ?_,fun _=>h3⟩
    exact absurd (of_decide_eq_false z) (by omega)
  ·rw [List.getElem?_append_right (by simpa using hi),List.getElem?_replicate] at h
   split at h<;>cases h
 ·obtain⟨o,h,_⟩:=r.own a h
  rw [z] at h;cases h
 ·unfold L2.start
  simp only [List.length_append,List.length_map,List.length_replicate]
  omega
section
variable{P:Program}{w:World}{K:tz0}{mg:tzA}{base:Heap}{U:tz9}
theorem eY{x qual:Str}{st:Stmt}{f:Addr}{fd:FuncData}{N ps:List Str}{k:Nat}{fb:tz1}(F:Fun K x qual st f fd)(S:FnScope N ps (aQ st))
  (hbody:∀(cdv:Value) (A:Around) (outer:List Env) (s:Shared) (H:Hp) (E:XK) (B:Nat->Addr->Prop),Room k (A.deeper (envOfC qual (aQ st) s.heap.objs.size f cdv))->
   QSs (eT CX0 P w K mg base N qual (aQ st) f cdv A outer s H E).nox U (f0P ps.length B) (cC st) fb):
  FnOk P w K mg base CX0 (k+1) f fd ps (SpP ps.length K U (gP ps.length (N.length-ps.length) fb)):=by
 refine F.ok S (fun vs H Q E h=>h.1) fun cdv A outer s H vs Q E hr ⟨hl,ds,fp,d,r,e,q⟩=>⟨_,hbody cdv A outer s H E (fun _ a=>a∈fp) hr,?_⟩
 have hn:ps.length<=N.length:=by have:=congrArg List.length S.pre;rw [List.length_take] at this;omega
 unfold gP at e
 obtain⟨_,e0⟩:=cN e
 obtain⟨⟨fl,ps'⟩,e1,e2⟩:=bind_some e0
 refine⟨_,fun _=>[],fl,ps',RS.start r hl hn,e1,?_⟩
 have sm:∀{H':Hp},Frm (fun _=>[]) H H'->SameK H H':=fun k=>⟨fun a o h kk=>k.keep a o h kk (fun _=>by simp),k.grow⟩
 cases fl with
 |ret d'=>
  cases e2
  exact fun v σ' H' F' fv s o rv=>q v H' fv (sm s.fr) (fun a ha=>(o.nw a ha).elim (fun⟨j,hj⟩=>absurd hj (by simp)) id) o.nd rv
 |nx=>
  cases e2
  exact fun σ' H' F' s=>q .non H' [] (sm s.fr) (fun a ha=>absurd ha (by simp)) List.nodup_nil .non
 |bk=>cases e2
 |ct=>cases e2
end
section
variable{X:Cx}{U:tz9}{e:Expr}{es:List Expr}{g:tz3}{pos p:Pos}
theorem dI{x:Str}{st:Stmt}{ps:List Str}{f:Addr}{fd:FuncData}{k np:Nat}{h:tz6}(Dd:Dn X.K X.mg x st ps f fd)(G:FnOk X.prog X.w X.K X.mg X.base CX0 k f fd ps (SpP np X.K U h))(hr:Room k X.A)(hg:Gl X x)(hnp:(e::es).length=np)(ha:QVA X U (e::es) g)
  (hlen:∀ps ds,g ps=some ds->ds.length=(e::es).length)
  (hdb:(x==("__debug__":Str))=false:=by decide) (he:starEach (e::es) X.env=(false,eval e X.env)::starEach es X.env:=by rfl) (hpl:(backTo pos (starEach es X.env)).any (·.1)=false:=by rfl):
  QP X U (.Call (.Name x p) (e::es) [] pos) (aI h g):=(zn7 Dd G hr hg ha hdb he hpl).imp fun σ H Q hh_=>by
 obtain⟨ps,d,w,e,q⟩:=hh_
 obtain⟨ds,e1,e2⟩:=bind_some e
 refine⟨ps,ds,w,e1,fun vs H1 fp s1 r1=> ?_⟩
 show SpP np X.K U h (vs++[]) H1 Q E0
 rw [List.append_nil]
 exact⟨by rw [r1.length,hlen ps ds e1,hnp],ds,fp,d,r1,e2,q.after s1⟩
theorem wB{x:Str}{st:Stmt}{ps:List Str}{f:Addr}{fd:FuncData}{k:Nat}{h:tz6}(Dd:Dn X.K X.mg x st ps f fd)(G:FnOk X.prog X.w X.K X.mg X.base CX0 k f fd ps (SpP 0 X.K U h))(hr:Room k X.A)(hg:Gl X x)
  (hdb:(x==("__debug__":Str))=false:=by decide):QP X U (.Call (.Name x p) [] [] pos) (aI h aD):=(xh1 Dd G hr hg hdb).imp fun σ H Q hh_=>by
 obtain⟨ps,d,w,e,q⟩:=hh_
 obtain⟨ds,e1,e2⟩:=bind_some e
 cases e1
 exact⟨rfl,[],[],d,.nil,e2,q⟩
theorem cI:∀(ps:PSt) (ds:List D),aD ps=some ds->ds.length=([]:List Expr).length:=fun _ _ h=>by cases h;rfl
theorem aV{f:tz2}(h:∀ps ds,g ps=some ds->ds.length=es.length):∀(ps:PSt) (ds:List D),aB f g ps=some ds->ds.length=(e::es).length:=fun ps ds q=>by
 obtain⟨d,es',_,e2,rfl⟩:=uH q
 rw [List.length_cons,List.length_cons,h ps es' e2]
end
def rS(pick:List (Option Nat))(ps:PSt):PSt:=pick.map fun o=>o.bind fun j=>(ps[j]?).join
def kM(psb:PSt)(ft:tz4)(fe:tz2):List D->Option (List D)
 |[]=>some []
 |d::ds=>(ft (psb.set 0 (some d))).bind fun b=>if b=true then(fe (psb.set 0 (some d))).bind fun r=>(kM psb ft fe ds).bind fun rs=>some (r::rs) else kM psb ft fe ds
def sM(pick:List (Option Nat))(fi:tz3)(ft:tz4)(fe:tz2):tz2:=fun ps=>(fi ps).bind fun ds=>if ds.length<=sizeLine then(kM (rS pick ps) ft fe ds).bind fun rs=>some (.lst true rs) else none
def zV:tz4:=fun _=>some true
theorem WS.sub{K:tz0}{U:tz9}{H:Hp}{σ:St}{ps:PSt}(pick:List (Option Nat))(w:WS K U H σ ps):WS K U H (qF pick σ) (rS pick ps):=fun i d h=>by
 unfold rS at h
 unfold qF
 rw [List.getElem?_map] at h|-
 cases e:pick[i]? with
 |none=>rw [e] at h;cases h
 | some o=>
  rw [e] at h
  cases o with
  |none=>cases h
  |some j=>
   have h':(ps[j]?).join=some d:=Option.some.inj h
   obtain⟨v,fp,h1,h2⟩:=w j d (join_some h')
   refine⟨v,fp,?_,h2⟩
   show some ((σ[j]?).join)=some (some v)
   rw [h1];rfl
theorem WS.set0{K:tz0}{U:tz9}{H:Hp}{σ:St}{ps:PSt}{v:V}{d:D}{fp:List Addr}(w:∀(i:Nat) (d:D),i≠0->ps[i]? =some (some d)->∃v fp,σ[i]? =some (some v)/\Rep K U H v d fp)(hl:ps.length<=σ.length)(r:Rep K U H v d fp):WS K U H (σ.set 0 (some v)) (ps.set 0 (some d)):=fun i d' h=>by
 by_cases e:i=0
 ·subst e
  by_cases hp:0<ps.length
  ·rw [List.getElem?_set_self hp] at h
   cases h
   exact⟨v,fp,by rw [List.getElem?_set_self (by omega)],r⟩
  ·rw [List.getElem?_eq_none (by simpa using hp)] at h;cases h
 ·rw [List.getElem?_set_ne (fun z=>e z.symm)] at h|-
  exact w i d' e h
section
variable{X:Cx}{U:tz9}{sc:Scope}{NX N:List Str}{pick:List (Option Nat)}{elt iter:Expr}{ifs:List Expr}{scope:Scope}{pos px:Pos}{x:Str}{fi:tz3}{ft:tz4}{fe:tz2}
theorem PTs.imp{X:Cx}{ifs:List Expr}{t t':TT}(h:PTs X ifs t)(k:∀σ H Q,t' σ H Q->t σ H Q):PTs X ifs t':=fun pins s σ H Q I q=>h pins s σ H Q I (k σ H Q q)
theorem zh3{X:Cx}:PTs X [] (tQ X.K U zV):=xh2.imp fun σ H Q ⟨ps,b,w,e,q⟩=>by cases e;exact q H (.refl H)
theorem zh4{X:Cx}{c:Expr}(h:QT X U c ft):PTs X [c] (tQ X.K U ft):=xh3 h
structure Grown(K:tz0)(U:tz9)(H1:Hp)(Dd:Addr)(H':Hp)(vs:List V)(rs:List D)(fv:List Addr):Prop where
 same:SameK H1 H'
 at_:H' Dd=some (.lst vs)
 rep:Reps K U H' vs rs fv
 new:∀a∈fv,H1 a=none
 ne:Dd∉fv
 nd:fv.Nodup
def xo5(K:tz0)(U:tz9)(J:It)(Dd:Addr)(q:Hp->Prop)(V:Nat->Nat->St->Hp->Prop)(ft:tz4)(fe:tz2)(i m:Nat)(σ':St)(H':Hp):Prop:=
  (J.stop i H'/\q H')\/(J.go i H'/\∀x H2,J.yld i H' x H2->oO 0 x σ' H2 fun σ3 H3=>tQ K U ft σ3 H3 fun b H4=>
   if b=true then tP K U fe σ3 H4 fun y H5=>∃ys,H5 Dd=some (.lst ys)/\ys.length<sizeLine/\∃m',m'<m/\V (i+1) m' σ3 (upd H5 Dd (.lst (ys++[y]))) else ∃m',m'<m/\V (i+1) m' σ3 H4)
def xs2(K:tz0)(U:tz9)(H1:Hp)(Dd:Addr)(pick:List (Option Nat))(ps:PSt)(ft:tz4)(fe:tz2)(ds rs:List D)(i m:Nat)(σ':St)(H':Hp):Prop:=i<=ds.length/\m=ds.length-i/\(∀(j:Nat) (d:D),j≠0->(rS pick ps)[j]? =some (some d)->∃v fp,σ'[j]? =some (some v)/\Rep K U H1 v d fp)/\(rS pick ps).length<=σ'.length/\
  ∃vs fv done rest,Grown K U H1 Dd H' vs done fv/\done.length<=i/\kM (rS pick ps) ft fe (ds.drop i)=some rest/\rs=done++rest
theorem yt2{pick:List (Option Nat)}{J:It}{Z:List Addr}{σ:St}{ps:PSt}{H1:Hp}{Dd:Addr}{ds rs:List D}{Q:Addr->Hp->Prop}(w:WS X.K U H1 σ ps)(hD:H1 Dd=none)(W:Walk X.K U J Z H1 ds)(hz:ds.length<=sizeLine)
  (e:kM (rS pick ps) ft fe ds=some rs) (q:∀H' vs fv,Grown X.K U H1 Dd H' vs rs fv->Q Dd H'):
  ∃V:Nat->Nat->St->Hp->Prop,(∃m,V 0 m (qF pick σ) (upd H1 Dd (.lst [])))/\∀i m σ' H',V i m σ' H'->xo5 X.K U J Dd (Q Dd) V ft fe i m σ' H':=by
 refine⟨xs2 X.K U H1 Dd pick ps ft fe ds rs,⟨_,Nat.zero_le _,rfl,fun j d _ h=>w.sub pick j d h,by simp [rS,qF],[],[],[],rs,⟨.new hD _,eM,.nil,fun _ h=>absurd h (by simp),by simp,List.nodup_nil⟩,Nat.zero_le _,by rw [List.drop_zero];exact e,rfl⟩,?_⟩
 rintro i m σ' H' ⟨hi,rfl,ws,wl,vs,fv,done,rest,G,hdn,er,ers⟩
 have kp:sV Z H1 H':=fun a o h t=>G.same.keep a o h (t.elim nJ fun t=>t.1)
 by_cases hlt:i<ds.length
 ·right
  have ed:ds[i]? =some ds[i]:=List.getElem?_eq_getElem hlt
  obtain⟨hgo,hy⟩:=W.go H' kp i _ ed
  refine⟨hgo,fun x H2 y=> ?_⟩
  obtain⟨rfl,rx⟩:=hy x H2 y
  rw [List.drop_eq_getElem_cons hlt,kM] at er
  obtain⟨b,e1,e2⟩:=bind_some er
  have wset:WS X.K U H2 (σ'.set 0 (some x)) ((rS pick ps).set 0 (some ds[i])):=WS.set0 (fun j d hj h=>by obtain⟨v,fp,h1,h2⟩:=ws j d hj h;exact⟨v,fp,h1,h2.same G.same⟩) wl rx
  refine⟨_,b,wset,e1,fun H3 s3=> ?_⟩
  have keepS:∀(j:Nat) (d:D),j≠0->(rS pick ps)[j]? =some (some d)->∃v fp,(σ'.set 0 (some x))[j]? =some (some v)/\Rep X.K U H1 v d fp:=fun j d hj h=>by
   obtain⟨v,fp,h1,h2⟩:=ws j d hj h
   exact⟨v,fp,by rw [List.getElem?_set_ne (fun z=>hj z.symm)];exact h1,h2⟩
  have Dkeep:∀{H5:Hp},SameK H2 H5->H5 Dd=some (.lst vs):=fun s=>s.keep _ _ G.at_ rfl
  cases b with
  | true=>
   dsimp only
   rw [if_pos rfl] at e2|-
   obtain⟨r,e3,e4⟩:=bind_some e2
   obtain⟨rs',e5,e6⟩:=bind_some e4
   cases e6
   refine⟨_,r,wset.same s3,e3,fun y H5 fw s5 n5 nd5 r5=> ?_⟩
   have s25:=s3.trans s5
   refine⟨vs,Dkeep s25,?_,ds.length-(i+1),by omega,hlt,rfl,keepS,by simpa using wl,vs++[y],fv++fw,done++[r],rs',?_,?_,e5,by rw [ers];simp⟩
   ·have:=G.rep.length;omega
   ·have hDw:Dd∉fw:=fun z=>by have:=s3.grow Dd (n5 Dd z);rw [G.at_] at this;cases this
    have hup:∀a,a≠Dd->upd H5 Dd (.lst (vs++[y])) a=H5 a:=fun a h=>dC h
    have tfk:∀a o,H5 a=some o->tf o=true->upd H5 Dd (.lst (vs++[y])) a=some o:=fun a o h t=>by
     rw [hup a]
     ·exact h
     ·rintro rfl;rw [Dkeep s25] at h;cases h;cases t
    have rv5:Reps X.K U H5 vs done fv:=G.rep.same s25
    refine⟨⟨fun a o h k=> ?_,fun a h=> ?_⟩,eM,Reps.append (rv5.move tfk fun a ha=>hup a fun z=>G.ne (z▸ha)) (Reps.one (r5.move tfk fun a ha=>hup a fun z=>hDw (z▸ha))),fun a ha=> ?_,fun z=> ?_,?_⟩
    ·rw [hup a (fun z=>by subst z;rw [hD] at h;cases h)]
     exact(G.same.trans s25).keep a o h k
    ·by_cases z:a=Dd
     ·subst z;rw [eM] at h;cases h
     ·rw [hup a z] at h;exact(G.same.trans s25).grow a h
    ·rcases List.mem_append.mp ha with z|z
     ·exact G.new a z
     ·exact(G.same.trans s3).grow a (n5 a z)
    ·rcases List.mem_append.mp z with z|z
     ·exact G.ne z
     ·exact hDw z
    ·rw [List.nodup_append]
     refine⟨G.nd,nd5,fun a ha b hb e=> ?_⟩
     subst e
     obtain⟨o,h,k,_⟩:=G.rep.own a ha
     have:=s3.keep a o h k
     rw [n5 a hb] at this;cases this
   ·rw [List.length_append,List.length_singleton];omega
  |false=>
   dsimp only
   rw [if_neg Bool.false_ne_true] at e2|-
   refine⟨ds.length-(i+1),by omega,hlt,rfl,keepS,by simpa using wl,vs,fv,done,rest,⟨G.same.trans s3,Dkeep s3,G.rep.same s3,G.new,G.ne,G.nd⟩,by omega,e2,ers⟩
 ·left
  have ek:i=ds.length:=by omega
  subst ek
  rw [List.drop_length,kM] at er
  cases er
  rw [List.append_nil] at ers
  subst ers
  exact⟨W.stop H' kp,q H' vs fv G⟩
theorem xR(S:CScope sc NX N pick scope)(hsc:X.env.scope=sc)(hNX:X.N=NX)(hc:X.calm=true)(hi:QIV X U (.Name x px) iter fi)
  (hg:∀cl fp s H,PG (cxB X N scope cl fp s H) (.Name x px) (oO 0)) (ht:∀cl fp s H,PTs (cxB X N scope cl fp s H) ifs (tQ X.K U ft)) (he:∀cl fp s H,PE (cxB X N scope cl fp s H) elt (tP X.K U fe))
  (hs:∀x,foldedSetIterable iter X.env x=pure x:=by intro _;rfl):QP X U (.ListComp elt [⟨.Name x px,iter,ifs,0⟩] scope pos) (sM pick fi ft fe):=
 (xa6 S hsc hNX hc hi hg ht he hs).imp fun σ H Q hh_=>by
  obtain⟨ps,d,w,e,q⟩:=hh_
  obtain⟨ds,e1,e2⟩:=bind_some e
  obtain⟨hz,e3⟩:=cN e2
  obtain⟨rs,e4,e5⟩:=bind_some e3
  cases e5
  refine⟨ps,ds,w,e1,fun J H1 Z s1 W Dd hD=> ?_⟩
  refine yt2 (Q:=fun Dd H'=>Q (.ref Dd) H') (w.same s1) hD W hz e4 fun H' vs fv G=> ?_
  refine q _ H' (Dd::fv) (s1.trans G.same) (fun a ha=> ?_) (List.nodup_cons.mpr ⟨G.ne,G.nd⟩) (.lst G.at_ G.rep)
  rcases List.mem_cons.mp ha with z|z
  ·rw [z];exact s1.grow Dd hD
  ·exact s1.grow a (G.new a z)
end
inductive Ps1 where
 |ix (n:Nat)|fld (f:Str)
def bW:List Str->Str->Option Nat
 |[],_=>none
 |n::ns,f=>if n=f then some 0 else(bW ns f).map (·+1)
def cB{α:Type}(h:D->Option (α×D)):D->List Ps1->Option (α×D)
 |d,[]=>h d
 | .lst true xs,.ix n::p=>(xs[n]?).bind fun d=>(cB h d p).bind fun r=>some (r.1,.lst true (xs.set n r.2))
 | .obj true C ns vs,.fld f::p=>(bW ns f).bind fun n=>(vs[n]?).bind fun d=>(cB h d p).bind fun r=>some (r.1,.obj true C ns (vs.set n r.2))
 |_,_=>none
def cH:D->List Ps1->Option D
 |d,[]=>some d
 | .lst true xs,.ix n::p=>(xs[n]?).bind fun d=>cH d p
 | .obj true _ ns vs,.fld f::p=>(bW ns f).bind fun n=>(vs[n]?).bind fun d=>cH d p
 |_,_=>none
def At(H:Hp):V->List Ps1->V->Prop
 |v0,[],v=>v=v0
 |v0,.ix n::p,v=>∃a vs v1,v0= .ref a/\H a=some (.lst vs)/\vs[n]? =some v1/\At H v1 p v
 |v0,.fld f::p,v=>∃a C dx fs n v1,v0= .ref a/\H a=some (.ins C dx fs)/\bW (fs.map (·.1)) f=some n/\(fs.map (·.2))[n]? =some v1/\At H v1 p v
theorem At.same{H H':Hp}(s:SameK H H'):∀{p:List Ps1} {v0 v:V},At H v0 p v->At H' v0 p v
 |[],_,_,h=>h
 | .ix n::p,_,_,⟨a,vs,v1,h1,h2,h3,h4⟩=>⟨a,vs,v1,h1,s.keep _ _ h2 rfl,h3,At.same s h4⟩
 | .fld f::p,_,_,⟨a,C,dx,fs,n,v1,h1,h2,h3,h4,h5⟩=>⟨a,C,dx,fs,n,v1,h1,s.keep _ _ h2 rfl,h3,h4,At.same s h5⟩
theorem At.snoc_ix{H:Hp}{a:Addr}{vs:List V}{n:Nat}{v:V}(h:H a=some (.lst vs))(hv:vs[n]? =some v):∀{p:List Ps1} {v0:V},At H v0 p (.ref a)->At H v0 (p++[.ix n]) v
 |[],_,e=>⟨a,vs,v,e.symm,h,hv,rfl⟩
 | .ix m::p,_,⟨b,us,v1,h1,h2,h3,h4⟩=>⟨b,us,v1,h1,h2,h3,At.snoc_ix h hv h4⟩
 | .fld f::p,_,⟨b,C,dx,fs,m,v1,h1,h2,h3,h4,h5⟩=>⟨b,C,dx,fs,m,v1,h1,h2,h3,h4,At.snoc_ix h hv h5⟩
theorem At.snoc_fld{H:Hp}{a C dx:Addr}{fs:List (Str×V)}{f:Str}{n:Nat}{v:V}(h:H a=some (.ins C dx fs))(hn:bW (fs.map (·.1)) f=some n)(hv:(fs.map (·.2))[n]? =some v):∀{p:List Ps1} {v0:V},At H v0 p (.ref a)->At H v0 (p++[.fld f]) v
 |[],_,e=>⟨a,C,dx,fs,n,v,e.symm,h,hn,hv,rfl⟩
 | .ix m::p,_,⟨b,us,v1,h1,h2,h3,h4⟩=>⟨b,us,v1,h1,h2,h3,At.snoc_fld h hn hv h4⟩
 | .fld f'::p,_,⟨b,C',dx',fs',m,v1,h1,h2,h3,h4,h5⟩=>⟨b,C',dx',fs',m,v1,h1,h2,h3,h4,At.snoc_fld h hn hv h5⟩
theorem zz4{α:Type}{h:D->Option (α×D)}{d0:D}{n:Nat}{p:List Ps1}{r:α}{d':D}(e:cB h d0 (.ix n::p)=some (r,d')):∃xs d1 d2,d0= .lst true xs/\xs[n]? =some d1/\cB h d1 p=some (r,d2)/\d'= .lst true (xs.set n d2):=by
 unfold cB at e
 split at e
 ·rename_i z;cases z
 ·rename_i z;cases z
  obtain⟨d1,h1,h2⟩:=bind_some e
  obtain⟨⟨r1,d2⟩,h3,h4⟩:=bind_some h2
  cases h4
  exact⟨_,_,_,rfl,h1,h3,rfl⟩
 ·rename_i z;cases z
 ·cases e
theorem zr0{α:Type}{h:D->Option (α×D)}{d0:D}{f:Str}{p:List Ps1}{r:α}{d':D}(e:cB h d0 (.fld f::p)=some (r,d')):∃C ns xs n d1 d2,d0= .obj true C ns xs/\bW ns f=some n/\xs[n]? =some d1/\cB h d1 p=some (r,d2)/\d'= .obj true C ns (xs.set n d2):=by
 unfold cB at e
 split at e
 ·rename_i z;cases z
 ·rename_i z;cases z
 ·rename_i z;cases z
  obtain⟨n,h0,h9⟩:=bind_some e
  obtain⟨d1,h1,h2⟩:=bind_some h9
  obtain⟨⟨r1,d2⟩,h3,h4⟩:=bind_some h2
  cases h4
  exact⟨_,_,_,_,_,_,rfl,h0,h1,h3,rfl⟩
 ·cases e
theorem zh5{d0 d:D}{n:Nat}{p:List Ps1}(e:cH d0 (.ix n::p)=some d):∃xs d1,d0= .lst true xs/\xs[n]? =some d1/\cH d1 p=some d:=by
 unfold cH at e
 split at e
 ·rename_i z;cases z
 ·rename_i z;cases z
  obtain⟨d1,h1,h2⟩:=bind_some e
  exact⟨_,_,rfl,h1,h2⟩
 ·rename_i z;cases z
 ·cases e
theorem zD{d0 d:D}{f:Str}{p:List Ps1}(e:cH d0 (.fld f::p)=some d):∃C ns xs n d1,d0= .obj true C ns xs/\bW ns f=some n/\xs[n]? =some d1/\cH d1 p=some d:=by
 unfold cH at e
 split at e
 ·rename_i z;cases z
 ·rename_i z;cases z
 ·rename_i z;cases z
  obtain⟨n,h0,h9⟩:=bind_some e
  obtain⟨d1,h1,h2⟩:=bind_some h9
  exact⟨_,_,_,_,_,rfl,h0,h1,h2⟩
 ·cases e
theorem lU{α:Type}{h:D->Option (α×D)}{r:α}{d':D}{p:List Ps1}:∀{d0:D},cB h d0 p=some (r,d')->∃d dn,cH d0 p=some d/\h d=some (r,dn):=by
 induction p generalizing d' with
 |nil=>intro d0 e;rw [cB] at e;exact⟨d0,d',by rw [cH],e⟩
 | cons s p ih=>
  intro d0 e
  cases s with
  |ix m=>
   obtain⟨xs,d1,d2,rfl,h1,h3,rfl⟩:=zz4 e
   obtain⟨d,dn,g1,g2⟩:=ih h3
   refine⟨d,dn,?_,g2⟩
   show(xs[m]?).bind _=_
   rw [h1];exact g1
  |fld f=>
   obtain⟨C,ns,xs,m,d1,d2,rfl,h0,h1,h3,rfl⟩:=zr0 e
   obtain⟨d,dn,g1,g2⟩:=ih h3
   refine⟨d,dn,?_,g2⟩
   show(bW ns f).bind _=_
   rw [h0]
   show(xs[m]?).bind _=_
   rw [h1];exact g1
section
variable{K:tz0}{U:tz9}{H:Hp}
theorem Reps.focus:∀{vs:List V} {ds:List D} {g:List Addr} {n:Nat} {d1:D} {v1:V},Reps K U H vs ds g->ds[n]? =some d1->vs[n]? =some v1->∃f1 rest,Rep K U H v1 d1 f1/\g.Perm (f1++rest)/\
  ∀(H':Hp) (d':D) (f':List Addr),(∀a o,H a=some o->tf o=true->H' a=some o)->(∀a∈rest,H' a=H a)->Rep K U H' v1 d' f'->∃g',Reps K U H' vs (ds.set n d') g'/\g'.Perm (f'++rest)
 |_,_,_,_,_,_,.nil,e,_=>by simp at e
 |_,_,_,0,_,_,.cons (f:=f) (g:=g) h hs,e,e'=>by
  simp at e e';subst e;subst e'
  exact⟨f,g,h,.refl _,fun H' d' f' t k r=>⟨f'++g,.cons r (hs.move t k),.refl _⟩⟩
 | _,_,_,n+1,_,_,.cons (f:=f) (g:=g) h hs,e,e'=>by
  obtain⟨f1,rest,h1,h2,h3⟩:=Reps.focus (n:=n) hs (by simpa using e) (by simpa using e')
  refine⟨f1,f++rest,h1,?_,fun H' d' f' t k r=> ?_⟩
  ·refine(h2.append_left f).trans ?_
   rw [<-List.append_assoc,<-List.append_assoc]
   exact List.perm_append_comm.append_right rest
  ·obtain⟨g',r1,r2⟩:=h3 H' d' f' t (fun a ha=>k a (List.mem_append_right _ ha)) r
   refine⟨f++g',.cons (h.move t fun a ha=>k a (List.mem_append_left _ ha)) r1,?_⟩
   refine(r2.append_left f).trans ?_
   rw [<-List.append_assoc,<-List.append_assoc]
   exact List.perm_append_comm.append_right rest
theorem zl2{b:Addr}{g f1 fd rest rest1:List Addr}(k2:g.Perm (f1++rest1))(m3:f1.Perm (fd++rest)):(b::g).Perm (fd++b::(rest++rest1)):=by
 refine((k2.trans (m3.append_right rest1)).cons b).trans ?_
 rw [List.append_assoc]
 exact List.perm_middle.symm
def Foc(K:tz0)(U:tz9)(H:Hp){α:Type}(h:D->Option (α×D))(r:α)(v v0:V)(d0':D)(fp:List Addr):Prop:=∃d d' fd rest,Rep K U H v d fd/\h d=some (r,d')/\fp.Perm (fd++rest)/\
  ∀(H':Hp) (f':List Addr),(∀a o,H a=some o->tf o=true->H' a=some o)->(∀a∈rest,H' a=H a)->Rep K U H' v d' f'->∃fp',Rep K U H' v0 d0' fp'/\fp'.Perm (f'++rest)
theorem focus{α:Type}{h:D->Option (α×D)}{r:α}{p:List Ps1}:∀{v0 v:V} {d0 d0':D} {fp:List Addr},Rep K U H v0 d0 fp->cB h d0 p=some (r,d0')->At H v0 p v->Foc K U H h r v v0 d0' fp:=by
 induction p with
 |nil=>
  intro v0 v d0 d0' fp R e a
  rw [cB] at e
  cases(show v=v0 from a)
  exact⟨d0,d0',fp,[],R,e,by rw [List.append_nil],fun H' f' t k r=>⟨f',r,by rw [List.append_nil]⟩⟩
 | cons s p ih=>
  intro v0 v d0 d0' fp R e a
  have deep:∀(b:Addr) (vs:List V) (xs:List D) (n:Nat) (d1 d2:D) (v1:V) (g:List Addr),fp=b::g->Reps K U H vs xs g->xs[n]? =some d1->vs[n]? =some v1->cB h d1 p=some (r,d2)->At H v1 p v->(∀(H':Hp) (g2:List Addr),H' b=H b->Reps K U H' vs (xs.set n d2) g2->Rep K U H' v0 d0' (b::g2))->
    Foc K U H h r v v0 d0' fp:=fun b vs xs n d1 d2 v1 g ef hs h1 e3 h3 e4 mk=>by
   subst ef
   obtain⟨f1,rest1,k1,k2,k3⟩:=hs.focus h1 e3
   obtain⟨d,d',fd,rest,m1,m2,m3,m4⟩:=ih k1 h3 e4
   refine⟨d,d',fd,b::(rest++rest1),m1,m2,zl2 k2 m3,fun H' f' t k rr=> ?_⟩
   obtain⟨g1,q1,q2⟩:=m4 H' f' t (fun a ha=>k a (List.mem_cons_of_mem _ (List.mem_append_left _ ha))) rr
   obtain⟨g2,q3,q4⟩:=k3 H' d2 g1 t (fun a ha=>k a (List.mem_cons_of_mem _ (List.mem_append_right _ ha))) q1
   exact⟨b::g2,mk H' g2 (k b List.mem_cons_self) q3,zl2 q4 q2⟩
  cases s with
  |ix n=>
   obtain⟨b,vs,v1,e1,e2,e3,e4⟩:=a
   subst e1
   obtain⟨xs,d1,d2,rfl,h1,h3,rfl⟩:=zz4 e
   obtain⟨_,_,g,e5,hb,hs,ef⟩:=R.lstT_inv
   cases e5
   rw [e2] at hb;cases hb
   exact deep b vs xs n d1 d2 v1 g ef hs h1 e3 h3 e4 fun H' g2 k q3=> .lst (k.trans e2) q3
  |fld f=>
   obtain⟨b,C,dx,fs,n,v1,e1,e2,e2',e3,e4⟩:=a
   subst e1
   obtain⟨C',ns,xs,n',d1,d2,rfl,h0,h1,h3,rfl⟩:=zr0 e
   obtain⟨_,_,_,g,e5,hb,hn,hs,ef⟩:=R.objT_inv
   cases e5
   rw [e2] at hb;cases hb
   subst hn
   rw [e2'] at h0;cases h0
   exact deep b _ xs n d1 d2 v1 g ef hs h1 e3 h3 e4 fun H' g2 k q3=> .obj (k.trans e2) rfl q3
end
theorem rC{φ:Fx}{α:Type}{h:D->Option (α×D)}{r:α}{H H1:Hp}{σ:St}{ps:PSt}{F:Nat->List Addr}{j:Nat}{d0 d0':D}{v0 v:V}{p:List Ps1}(R:RS φ H σ ps F)(s1:SameK H H1)(hb:φ.bor j=false)(e0:ps[j]? =some (some d0))(ev:σ[j]? =some (some v0))
  (em:cB h d0 p=some (r,d0')) (at_:At H1 v0 p v):∃d d' fd,Rep φ.K φ.U H1 v d fd/\h d=some (r,d')/\fd.Nodup/\(∀a∈fd,a∈F j)/\
  ∀(H':Hp) (fd' fr:List Addr),(∀a o,H1 a=some o->kd o=true->a∉fd->H' a=some o)->(∀a,H' a=none->H1 a=none)->Rep φ.K φ.U H' v d' fd'->(fd'++fr).Nodup->(∀a∈fd'++fr,a∈fd\/H a=none)->
   ∃F',Stp φ σ H F σ H' (ps.set j (some d0')) F'/\OwnV F H F' fr:=by
 obtain⟨v0',fp,h1,h2,h3,_⟩:=R.rep j d0 e0
 rw [ev] at h1;cases h1
 have h3:=h3 hb
 subst h3
 obtain⟨d,d',fd,rest,m1,m2,m3,m4⟩:=focus (h2.same s1) em at_
 have ndF:=R.nd j
 have ndp:(fd++rest).Nodup:=m3.nodup_iff.mp ndF
 obtain⟨nd1,nd2,nd3⟩:=List.nodup_append.mp ndp
 have inF:∀a,a∈fd\/a∈rest->a∈F j:=fun a ha=>m3.mem_iff.mpr (List.mem_append.mpr ha)
 refine⟨d,d',fd,m1,m2,nd1,fun a ha=>inF a (.inl ha),fun H' fd' fr k1 k2 k3 k4 k5=> ?_⟩
 have tfk:∀a o,H1 a=some o->tf o=true->H' a=some o:=fun a o ha t=>k1 a o ha (nJ t) fun hm=>by
  obtain⟨o',q,_,q'⟩:=m1.own a hm
  rw [ha] at q;cases q;rw [t] at q';cases q'
 have keepO:∀a,(∃i,a∈F i)->a∉fd->H' a=H1 a:=fun a ⟨i,hi⟩ hn=>by
  obtain⟨o,q,q',_⟩:=R.own hi
  have q1:=s1.keep a o q q'
  rw [q1];exact k1 a o q1 q' hn
 have notfd:∀a,a∈rest->a∉fd:=fun a hr hf=>nd3 a hf a hr rfl
 obtain⟨fp',r1,r2⟩:=m4 H' fd' tfk (fun a ha=>keepO a ⟨j,inF a (.inr ha)⟩ (notfd a ha)) k3
 obtain⟨kd1,kd2,kd3⟩:=List.nodup_append.mp k4
 have memfp:∀a,a∈fp'->a∈fd'\/a∈rest:=fun a ha=>List.mem_append.mp (r2.mem_iff.mp ha)
 have lt:j<ps.length:=(List.getElem?_eq_some_iff.mp e0).1
 have old:∀a,a∈fd'++fr->∀i,a∈F i->a∈fd:=fun a ha i hi=>(k5 a ha).elim id fun z=>by
  obtain⟨o,q,_⟩:=R.own hi
  rw [z] at q;cases q
 refine⟨sU F j fp',⟨⟨fun a o ha hk hn=> ?_,fun a ha=>s1.grow a (k2 a ha)⟩,fun i a ha=> ?_,⟨fun i d2 hi=> ?_,fun i a ha=> ?_,fun i k a ha hk=> ?_,fun i=> ?_,fun i a ha kk hB=> ?_,fun kk a hB z=>R.bt kk a hB (s1.grow a (k2 a z)),by simpa using R.len⟩,fun _ _=>rfl⟩,⟨fun a ha=> ?_,kd2,fun i a ha hr=> ?_⟩⟩
 ·exact k1 a o (s1.keep a o ha hk) hk fun hm=>hn j (inF a (.inl hm))
 ·rcases kX ha with z|z
  ·rcases memfp a z with z|z
   ·exact(k5 a (List.mem_append_left _ z)).elim (fun z=> .inl ⟨j,inF a (.inl z)⟩) .inr
   ·exact .inl ⟨j,inF a (.inr z)⟩
  ·exact .inl ⟨i,z⟩
 ·by_cases e:i=j
  ·subst e
   rw [List.getElem?_set_self lt] at hi
   cases hi
   exact⟨v0,fp',ev,r1,fun _=>fY.symm,fun z=>by rw [hb] at z;cases z⟩
  ·rw [List.getElem?_set_ne (fun z=>e z.symm)] at hi
   obtain⟨v2,f2,q1,q2,q3,q4⟩:=R.rep i d2 hi
   refine⟨v2,f2,q1,(q2.same s1).move tfk fun a ha=> ?_,fun z=>by rw [gB e];exact q3 z,q4⟩
   obtain⟨o,w1,w2,_⟩:=q2.own a ha
   have w3:=s1.keep a o w1 w2
   rw [w3]
   refine k1 a o w3 w2 fun hm=> ?_
   have hF:=inF a (.inl hm)
   cases hbi:φ.bor i with
   |true=>exact R.nb j a hF i (q4 hbi a ha)
   |false=>rw [q3 hbi] at ha;exact e (R.dis i j a ha hF)
 ·by_cases e:i=j
  ·subst e;exact⟨hb,d0',by rw [List.getElem?_set_self lt]⟩
  ·rw [gB e] at ha
   obtain⟨b1,d1,b2⟩:=R.emp i a ha
   exact⟨b1,d1,by rw [List.getElem?_set_ne (fun z=>e z.symm)];exact b2⟩
 ·have hh:∀a,a∈fp'->∀i,i≠j->a∈F i->False:=fun a ha i hij hi=>by
   rcases memfp a ha with z|z
   ·exact hij (R.dis i j a hi (inF a (.inl (old a (List.mem_append_left _ z) i hi))))
   ·exact hij (R.dis i j a hi (inF a (.inr z)))
  by_cases e1:i=j
  ·by_cases e2:k=j
   ·rw [e1,e2]
   ·subst e1;rw [fY] at ha;rw [gB e2] at hk;exact(hh a ha k e2 hk).elim
  ·by_cases e2:k=j
   ·subst e2;rw [fY] at hk;rw [gB e1] at ha;exact(hh a hk i e1 ha).elim
   ·rw [gB e1] at ha;rw [gB e2] at hk;exact R.dis i k a ha hk
 ·by_cases e:i=j
  ·subst e
   rw [fY]
   refine r2.nodup_iff.mpr (List.nodup_append.mpr ⟨kd1,nd2,fun a ha b hb' e=> ?_⟩)
   subst e
   exact notfd a hb' (old a (List.mem_append_left _ ha) i (inF a (.inr hb')))
  ·rw [gB e];exact R.nd i
 ·rcases kX ha with z|z
  ·rcases memfp a z with z|z
   ·exact R.notB ((k5 a (List.mem_append_left _ z)).elim (fun z=> .inl ⟨j,inF a (.inl z)⟩) .inr) kk hB
   ·exact R.nb j a (inF a (.inr z)) kk hB
  ·exact R.nb i a z kk hB
 ·exact(k5 a (List.mem_append_right _ ha)).elim (fun z=> .inl ⟨j,inF a (.inl z)⟩) .inr
 ·rcases kX ha with z|z
  ·rcases memfp a z with z|z
   ·exact kd3 a z a hr rfl
   ·exact notfd a z (old a (List.mem_append_right _ hr) j (inF a (.inr z)))
  ·have:=old a (List.mem_append_right _ hr) i z
   by_cases e:i=j
   ·subst e
    rw [fY] at ha
    rcases memfp a ha with w|w
    ·exact kd3 a w a hr rfl
    ·exact notfd a w this
   ·exact e (R.dis i j a z (inF a (.inl this)))
def gK(K:tz0)(U:tz9)(j:Nat)(pf:PSt->Option (List Ps1)):TE:=fun σ H Q=>∃ps p d0 d,WS K U H σ ps/\ps[j]? =some (some d0)/\pf ps=some p/\cH d0 p=some d/\∀v H' v0,SameK H H'->σ[j]? =some (some v0)->At H' v0 p v->Q v H'
theorem zE{K:tz0}{U:tz9}{H:Hp}{v0 v:V}{d0 d:D}{fp:List Addr}{p:List Ps1}(R:Rep K U H v0 d0 fp)(g:cH d0 p=some d)(a:At H v0 p v):∃fd,Rep K U H v d fd:=by
 have key:∀{p:List Ps1} {v0 v:V} {d0 d:D} {fp:List Addr},Rep K U H v0 d0 fp->cH d0 p=some d->At H v0 p v->∃fd,Rep K U H v d fd:=by
  intro p
  induction p with
  |nil=>intro v0 v d0 d fp R g a;cases g;cases(show v=v0 from a);exact⟨fp,R⟩
  | cons s p ih=>
   intro v0 v d0 d fp R g a
   cases s with
   |ix n=>
    obtain⟨b,vs,v1,e1,e2,e3,e4⟩:=a
    subst e1
    obtain⟨xs,d1,rfl,h1,h2⟩:=zh5 g
    obtain⟨_,_,_,e5,hb,hs,_⟩:=R.lstT_inv
    cases e5
    rw [e2] at hb;cases hb
    obtain⟨v',f,q1,q2,_⟩:=hs.get h1
    rw [e3] at q1;cases q1
    exact ih q2 h2 e4
   |fld f=>
    obtain⟨b,C,dx,fs,n,v1,e1,e2,e2',e3,e4⟩:=a
    subst e1
    obtain⟨C',ns,xs,n',d1,rfl,h0,h1,h2⟩:=zD g
    obtain⟨_,_,_,_,e5,hb,hn,hs,_⟩:=R.objT_inv
    cases e5
    rw [e2] at hb;cases hb
    subst hn
    rw [e2'] at h0;cases h0
    obtain⟨v',f,q1,q2,_⟩:=hs.get h1
    rw [e3] at q1;cases q1
    exact ih q2 h2 e4
 exact key R g a
def aW:PSt->Option (List Ps1):=fun _=>some []
def dP(j:Nat)(pf:PSt->Option (List Ps1))(fb:tz2):PSt->Option (List Ps1):=fun ps=>(pf ps).bind fun p=>((ps[j]?).join).bind fun d0=>(cH d0 p).bind fun d=>(fb ps).bind fun y=>match d,y with
 | .lst true xs,.int i=>(ixN xs.length i).bind fun n=>some (p++[.ix n])
 |_,_=>none
def hJ(j:Nat)(pf:PSt->Option (List Ps1))(C f:Str):PSt->Option (List Ps1):=fun ps=>(pf ps).bind fun p=>((ps[j]?).join).bind fun d0=>(cH d0 p).bind fun d=>match d with
 | .obj true C' _ _=>if C'=C then some (p++[.fld f]) else none
 |_=>none
theorem rD:∀{fs:List (Str×V)} {f:Str} {n:Nat} {v:V},bW (fs.map (·.1)) f=some n->(fs.map (·.2))[n]? =some v->fs.lookup f=some v
 |[],_,_,_,h,_=>by cases h
 | (g,u)::fs,f,n,v,h,hv=>by
  rw [List.map_cons,bW] at h
  by_cases e:g=f
  ·rw [if_pos e] at h
   cases h
   rw [List.lookup_cons]
   have:(f==g)=true:=by simp [e]
   rw [this]
   simpa using hv
  ·rw [if_neg e] at h
   cases q:bW (fs.map (·.1)) f with
   |none=>rw [q] at h;cases h
   |some m=>
    rw [q] at h;cases h
    rw [List.lookup_cons]
    have:(f==g)=false:=by simp;exact fun z=>e z.symm
    rw [this]
    exact rD q (by simpa using hv)
section
variable{X:Cx}{φ:F0}{U:tz9}{K:tz0}{o e a b:Expr}{f fb fe:tz2}{g:tz3}{pf:PSt->Option (List Ps1)}{j:Nat}{pos apos:Pos}
theorem bH(j:Nat){x:Str}(hN:X.N[j]? =some x:=by rfl)(hv:Vis X.env.scope x:=by first|exact Or.inl rfl|exact Or.inr (Or.inl rfl)|exact Or.inr (Or.inr rfl))(hd:(x==("__debug__":Str))=false:=by decide)
  (hcd:(x==("__classdict__":Str))=false:=by decide):PE X (.Name x pos) (gK K U j aW):=(lS hN hv hd hcd).imp fun σ H Q hh_=>by
 obtain⟨ps,p,d0,d,w,e0,ep,eg,q⟩:=hh_
 cases ep
 obtain⟨v,fp,h1,h2⟩:=w j d0 e0
 exact⟨v,h1,q v H v (.refl H) h1 rfl⟩
theorem jK(ha:PE X a (gK X.K U j pf))(hb:QV X U b fb)(hs:pF b:=by exact fun _ _=>rfl):PE X (.Subscript a b pos) (gK X.K U j (dP j pf fb)):=
 (zn6 zg6 ha hb hs).imp fun σ H Q hh_=>by
  obtain⟨ps,p,d0,d,w,e0,ep,eg,q⟩:=hh_
  obtain⟨p1,e1,e2⟩:=bind_some ep
  obtain⟨d0',e3,e4⟩:=bind_some e2
  have:=join_some e3
  rw [e0] at this;cases this
  obtain⟨d1,e5,e6⟩:=bind_some e4
  obtain⟨y,e7,e8⟩:=bind_some e6
  split at e8
  ·rename_i xs i
   obtain⟨n,e9,e10⟩:=bind_some e8
   cases e10
   refine⟨ps,p1,d0,_,w,e0,e1,e5,fun v H1 v0 s1 ev a1=>⟨ps,_,w.same s1,e7,fun u H2 fq s2 r2=> ?_⟩⟩
   obtain⟨v0',fp,h1,h2⟩:=w j d0 e0
   rw [ev] at h1;cases h1
   obtain⟨fd,rd⟩:=zE (h2.same (s1.trans s2)) e5 (a1.same s2)
   obtain⟨l,vs,g,rfl,hl,hr,_⟩:=rd.lstT_inv
   have ln:=hr.length
   have hn:=(xM e9).2.1
   obtain⟨v1,hv⟩:∃v1,vs[n]? =some v1:=⟨_,List.getElem?_eq_getElem (by rw [ln];exact hn)⟩
   refine⟨l,vs,i,v1,rfl,r2.is_int,.inl (.inl hl),?_,q _ H2 v0 (s1.trans s2) ev (At.snoc_ix hl hv (a1.same s2))⟩
   unfold atI
   rw [ln,e9];exact hv
  ·cases e8
theorem wC{C fn:Str}(hc:Cls X.K (U C))(hna:cW X.K (U C) fn)(ha:PE X a (gK X.K U j pf))(hb:attributeBase a fn X.env (eval a X.env)=eval a X.env:=by rfl):PE X (.Attribute a fn pos) (gK X.K U j (hJ j pf C fn)):=
 (xg1 ha hb).imp fun σ H Q hh_=>by
  obtain⟨ps,p,d0,d,w,e0,ep,eg,q⟩:=hh_
  obtain⟨p1,e1,e2⟩:=bind_some ep
  obtain⟨d0',e3,e4⟩:=bind_some e2
  have:=join_some e3
  rw [e0] at this;cases this
  obtain⟨d1,e5,e6⟩:=bind_some e4
  split at e6
  ·rename_i C' ns xs
   obtain⟨hC,e7⟩:=cN e6
   subst hC
   cases e7
   refine⟨ps,p1,d0,_,w,e0,e1,e5,fun v H1 v0 s1 ev a1=> ?_⟩
   obtain⟨v0',fp,h1,h2⟩:=w j d0 e0
   rw [ev] at h1;cases h1
   obtain⟨fd,rd⟩:=zE (h2.same s1) e5 a1
   have key:∀{p:List Ps1} {d0:D},cH d0 p=some (.obj true C' ns xs)->cH d0 (p++[.fld fn])=some d->∃n d',bW ns fn=some n/\xs[n]? =some d':=by
    intro p
    induction p with
    |nil=>
     intro d0 h1 h2
     cases h1
     obtain⟨n,k1,k2⟩:=bind_some h2
     obtain⟨d',k3,_⟩:=bind_some k2
     exact⟨n,d',k1,k3⟩
    | cons s p ih=>
     intro d0 h1 h2
     cases s with
     |ix m=>
      obtain⟨ys,x1,rfl,k1,k2⟩:=zh5 h1
      obtain⟨_,x2,z,k3,k4⟩:=zh5 h2
      cases z
      rw [k1] at k3;cases k3
      exact ih k2 k4
     |fld f'=>
      obtain⟨C2,ns2,ys,m1,x1,rfl,k0,k1,k2⟩:=zD h1
      obtain⟨_,_,_,m2,x2,z,k5,k3,k4⟩:=zD h2
      cases z
      rw [k0] at k5;cases k5
      rw [k1] at k3;cases k3
      exact ih k2 k4
   obtain⟨n,d',k1,k2⟩:=key e5 eg
   obtain⟨l,dx,fs,g,rfl,hl,hn,hr,_⟩:=rd.objT_inv
   subst hn
   obtain⟨v1,f1,k3,_⟩:=hr.get k2
   exact⟨l,U C',dx,fs,v1,rfl,hl,hc,hna,rD k1 k3,q _ H1 v0 s1 ev (At.snoc_fld hl k1 k3 a1)⟩
  ·cases e6
def bG(j:Nat)(pf:PSt->Option (List Ps1))(g:tz3)(h:List D->D->Option (D×D)):tz8:=fun ps=>((ps[j]?).join).bind fun d0=>(pf ps).bind fun p=>(g ps).bind fun ys=>(cB (h ys) d0 p).bind fun r=>some (r.1,ps.set j (some r.2))
theorem sC{h:List D->D->Option (D×D)}{ps ps':PSt}{d:D}(e:bG j pf g h ps=some (d,ps')):∃d0 p ys d0',ps[j]? =some (some d0)/\pf ps=some p/\g ps=some ys/\cB (h ys) d0 p=some (d,d0')/\ps'=ps.set j (some d0'):=by
 obtain⟨d0,e1,e2⟩:=bind_some e
 obtain⟨p,e3,e4⟩:=bind_some e2
 obtain⟨ys,e5,e6⟩:=bind_some e4
 obtain⟨⟨r,d0'⟩,e7,e8⟩:=bind_some e6
 cases e8
 exact⟨d0,p,ys,d0',join_some e1,e3,e5,e7,rfl⟩
def bC:List D->D->Option (D×D)
 |[y],.lst true xs=>if xs.length<sizeLine then some (.non,.lst true (xs++[y])) else none
 |_,_=>none
theorem wD{ys:List D}{d r d':D}(h:bC ys d=some (r,d')):∃y xs,ys=[y]/\d= .lst true xs/\xs.length<sizeLine/\r= .non/\d'= .lst true (xs++[y]):=by
 unfold bC at h
 split at h
 ·obtain⟨hc,e⟩:=cN h
  cases e
  exact⟨_,_,rfl,rfl,hc,rfl,rfl⟩
 ·cases h
theorem tL{H H1:Hp}{σ:St}{ps:PSt}{d0 d:D}{v0 v:V}{p:List Ps1}(w:WS K U H σ ps)(s1:SameK H H1)(e0:ps[j]? =some (some d0))(ev:σ[j]? =some (some v0))(g:cH d0 p=some d)(a:At H1 v0 p v):∃fd,Rep K U H1 v d fd:=by
 obtain⟨v0',fp,h1,h2⟩:=w j d0 e0
 rw [ev] at h1;cases h1
 exact zE (h2.same s1) g a
theorem fO(hb:φ.bor j=false)(ho:PE X o (gK X.K U j pf))(ha:PA X [e] (tPA X.K U g))
  (hbase:attributeBase o "append" X.env (eval o X.env)=eval o X.env:=by rfl)
  (hfew:((backTo pos (starEach [e] X.env)).all (fun x=> !x.1)&&(backToKw pos (keywordEach [] X.env)).all (fun x=>x.1.isSome)
   &&decide ([e].length+([]:List Keyword).length+(if ([]:List Keyword).isEmpty then 0 else 1)<30))=true:=by rfl)
  (hline:(apos.endLine==pos.line)=true:=by rfl) (hs:starEach [e] X.env=(false,eval e X.env)::starEach [] X.env:=by rfl) (hplain:(backTo pos (starEach [] X.env)).any (·.1)=false:=by rfl):
  QE X U φ (.Call (.Attribute o "append" apos) [e] [] pos) (bG j pf g bC):=
 (yd8 PySem.F.plainAttrs_list PySem.F.slot_list_append PySem.F.type_list_append zk6 ho ha hbase hfew hline hs hplain).imp fun σ H Q hh_=>by
  obtain⟨ps,F,d,ps',R,e,q⟩:=hh_
  obtain⟨d0,p,ys,d0',e0,ep,eg,em,rfl⟩:=sC e
  obtain⟨dd,dn,gp,hh⟩:=lU em
  refine⟨ps,p,d0,dd,R.ws,e0,ep,gp,fun v H1 v0 s1 ev a1=>⟨?_,ps,ys,R.ws.same s1,eg,fun vs H2 fy s2 n2 nd2 r2=> ?_⟩⟩
  ·obtain⟨y,xs,rfl,rfl,_⟩:=wD hh
   obtain⟨fd,rd⟩:=tL R.ws s1 e0 ev gp a1
   obtain⟨_,_,_,rfl,hl,hr,rfl⟩:=rd.lstT_inv
   exact .inl ⟨rfl,_,.inl (.inl hl)⟩
  ·obtain⟨d1,d1',fd,m1,m2,m3,m4,m5⟩:=rC R (s1.trans s2) hb e0 ev em (a1.same s2)
   obtain⟨y,xs,rfl,rfl,hz,rfl,rfl⟩:=wD m2
   obtain⟨u,rfl,ru⟩:=r2.one_inv
   obtain⟨l,us,g1,rfl,hl,hr,rfl⟩:=m1.lstT_inv
   have ln:=hr.length
   refine⟨l,us,u,rfl,rfl,hl,by omega,?_⟩
   have nl:l∉fy:=fun z=>by have:=n2 l z;have:=s1.keep l;obtain⟨o,h1,h2,_⟩:=R.own (m4 l List.mem_cons_self);have:=s1.keep l o h1 h2;rw [n2 l z] at this;cases this
   obtain⟨nl2,nd3⟩:=List.nodup_cons.mp m3
   have up:∀a,a≠l->upd H2 l (.lst (us++[u])) a=H2 a:=fun a h=>dC h
   have tfk:∀a o,H2 a=some o->tf o=true->upd H2 l (.lst (us++[u])) a=some o:=fun a o h t=>by
    rw [up a]
    ·exact h
    ·rintro rfl;rw [hl] at h;cases h;cases t
   obtain⟨F',st,ow⟩:=m5 (upd H2 l (.lst (us++[u]))) (l::(g1++fy)) [] (fun a o h _ hn=>by rw [up a (fun z=>hn (z▸List.mem_cons_self))];exact h)
    (fun a h=>by
     by_cases z:a=l
     ·subst z;rw [eM] at h;cases h
     ·rw [up a z] at h;exact h)
    (.lst eM (Reps.append (hr.move tfk fun a ha=>up a fun z=>nl2 (z▸ha)) (Reps.one (ru.move tfk fun a ha=>up a fun z=>nl (z▸ha)))))
    (by
     rw [List.append_nil,List.nodup_cons,List.nodup_append]
     refine⟨fun z=>(List.mem_append.mp z).elim nl2 nl,nd3,nd2,fun a ha b hb e=> ?_⟩
     subst e
     obtain⟨o,h1,h2,_⟩:=R.own (m4 a (List.mem_cons_of_mem _ ha))
     have:=s1.keep a o h1 h2
     rw [n2 a hb] at this;cases this)
    (fun a ha=>by
     rw [List.append_nil] at ha
     rcases List.mem_cons.mp ha with z|z
     ·exact .inl (z▸List.mem_cons_self)
     ·rcases List.mem_append.mp z with z|z
      ·exact .inl (List.mem_cons_of_mem _ z)
      ·exact .inr (s1.grow a (n2 a z)))
   exact q .non _ F' [] st ow .non
end
section
variable{K:tz0}{U:tz9}{H:Hp}{l:Addr}{o0 o:HO}
theorem yl7(hl:H l=some o0)(ht:tf o0=false):∀a u,H a=some u->tf u=true->upd H l o a=some u:=fun a u h t=>by
 rw [dC]
 ·exact h
 ·rintro rfl;rw [hl] at h;cases h;rw [ht] at t;cases t
theorem Rep.updL{v:V}{d:D}{g:List Addr}(r:Rep K U H v d g)(hl:H l=some o0)(ht:tf o0=false)(n:l∉g):Rep K U (upd H l o) v d g:=r.move (yl7 hl ht) fun a ha=>dC fun z=>n (z▸ha)
theorem Reps.updL{v:List V}{d:List D}{g:List Addr}(r:Reps K U H v d g)(hl:H l=some o0)(ht:tf o0=false)(n:l∉g):Reps K U (upd H l o) v d g:=r.move (yl7 hl ht) fun a ha=>dC fun z=>n (z▸ha)
theorem uK{a:Addr}{u:HO}{g:List Addr}(h:H a=some u)(n:a∉l::g):upd H l o a=some u:=by
 rw [dC (fun z=>n (by rw [z];exact List.mem_cons_self))];exact h
theorem uL{a:Addr}(h:upd H l o a=none):H a=none:=by
 by_cases z:a=l
 ·subst z;rw [eM] at h;cases h
 ·rw [dC z] at h;exact h
theorem Reps.pop:∀{vs:List V} {ds:List D} {g:List Addr} {d:D},Reps K U H vs ds g->ds[ds.length-1]? =some d->∃v g1 f,vs[vs.length-1]? =some v/\Rep K U H v d f/\Reps K U H vs.dropLast ds.dropLast g1/\g=g1++f
 |_,_,_,_,.nil,e=>by simp at e
 |_,[d1],_,d,.cons (f:=f) h .nil,e=>by
  have e':d1=d:=by simpa using e
  subst e'
  exact⟨_,[],f,by simp,h,.nil,by simp⟩
 |v::v2::vs,d1::d2::ds,_,d,.cons (f:=f) h (.cons (f:=f2) (g:=g2) h2 hs),e=>by
  obtain⟨w,g1,f',k1,k2,k3,k4⟩:=Reps.pop (.cons h2 hs) (d:=d) (by simpa using e)
  refine⟨w,f++g1,f',by simpa using k1,k2,?_,by rw [List.append_assoc,<-k4]⟩
  rw [List.dropLast_cons₂,List.dropLast_cons₂]
  exact .cons h k3
theorem Reps.setV:∀{vs:List V} {ds:List D} {g:List Addr} {n:Nat} {v':V} {d':D} {f':List Addr},Reps K U H vs ds g->n<ds.length->Rep K U H v' d' f'->∃f1 rest g',g.Perm (f1++rest)/\Reps K U H (vs.set n v') (ds.set n d') g'/\g'.Perm (f'++rest)
 |_,_,_,_,_,_,_,.nil,e,_=>by simp at e
 |_,_,_,0,_,_,f',.cons (f:=f) (g:=g) h hs,_,r=>⟨f,g,f'++g,.refl _,.cons r hs,.refl _⟩
 | _,_,_,n+1,_,_,f',.cons (f:=f) (g:=g) h hs,e,r=>by
  obtain⟨f1,rest,g',h1,h2,h3⟩:=Reps.setV (n:=n) hs (by simpa using e) r
  refine⟨f1,f++rest,f++g',?_,.cons h h2,?_⟩
  ·refine(h1.append_left f).trans ?_
   rw [<-List.append_assoc,<-List.append_assoc]
   exact List.perm_append_comm.append_right rest
  ·refine(h3.append_left f).trans ?_
   rw [<-List.append_assoc,<-List.append_assoc]
   exact List.perm_append_comm.append_right rest
end
section
variable{X:Cx}{φ:F0}{U:tz9}{K:tz0}{o e a b:Expr}{f fi fe:tz2}{g:tz3}{pf:PSt->Option (List Ps1)}{j:Nat}{pos apos:Pos}
def rT:List D->D->Option (D×D)
 |[],.lst true xs=>(xs[xs.length-1]?).bind fun y=>some (y,.lst true xs.dropLast)
 |_,_=>none
theorem zl3{ys:List D}{d r d':D}(h:rT ys d=some (r,d')):∃xs,ys=[]/\d= .lst true xs/\xs[xs.length-1]? =some r/\d'= .lst true xs.dropLast:=by
 unfold rT at h
 split at h
 ·obtain⟨y,h1,h2⟩:=bind_some h
  cases h2
  exact⟨_,rfl,rfl,h1,rfl⟩
 ·cases h
theorem zr1(hb:φ.bor j=false)(ho:PE X o (gK X.K U j pf))
  (hbase:attributeBase o "pop" X.env (eval o X.env)=eval o X.env:=by rfl) (hline:(apos.endLine==pos.line)=true:=by rfl):QE X U φ (.Call (.Attribute o "pop" apos) [] [] pos) (bG j pf aD rT):=
 (xg9 PySem.F.plainAttrs_list PySem.F.slot_list_pop PySem.F.type_list_pop xh0 ho hbase hline).imp fun σ H Q hh_=>by
  obtain⟨ps,F,d,ps',R,e,q⟩:=hh_
  obtain⟨d0,p,ys,d0',e0,ep,eg,em,rfl⟩:=sC e
  cases eg
  obtain⟨dd,dn,gp,hh⟩:=lU em
  refine⟨ps,p,d0,dd,R.ws,e0,ep,gp,fun v H1 v0 s1 ev a1=>⟨?_,?_⟩⟩
  ·obtain⟨xs,_,rfl,_⟩:=zl3 hh
   obtain⟨fd,rd⟩:=tL R.ws s1 e0 ev gp a1
   obtain⟨_,_,_,rfl,hl,hr,rfl⟩:=rd.lstT_inv
   exact .inl ⟨rfl,_,.inl (.inl hl)⟩
  ·obtain⟨d1,d1',fd,m1,m2,m3,m4,m5⟩:=rC R s1 hb e0 ev em a1
   obtain⟨xs,_,rfl,hx,rfl⟩:=zl3 m2
   obtain⟨l,us,g1,rfl,hl,hr,rfl⟩:=m1.lstT_inv
   obtain⟨u,g2,f2,k1,k2,k3,rfl⟩:=hr.pop hx
   obtain⟨nl,nd3⟩:=List.nodup_cons.mp m3
   have n1:l∉g2:=fun z=>nl (List.mem_append_left _ z)
   have n2:l∉f2:=fun z=>nl (List.mem_append_right _ z)
   refine⟨l,us,u,rfl,rfl,hl,k1,?_⟩
   obtain⟨F',st,ow⟩:=m5 (upd H1 l (.lst us.dropLast)) (l::g2) f2 (fun a o h _ hn=>uK h hn)
    (fun a h=>uL h)
    (.lst eM (k3.updL hl rfl n1)) (by rw [List.cons_append,List.nodup_cons];exact⟨nl,nd3⟩) (fun a ha=> .inl ha)
   exact q u _ F' f2 st ow (k2.updL hl rfl n2)
def gC:D->D->D->Option (Unit×D)
 | .int i,y,.lst true xs=>(ixN xs.length i).bind fun n=>some ((),.lst true (xs.set n y))
 |_,_,_=>none
def dS(j:Nat)(pf:PSt->Option (List Ps1))(fi fe:tz2):tz1:=fun ps=>(fe ps).bind fun y=>((ps[j]?).join).bind fun d0=>(pf ps).bind fun p=>(fi ps).bind fun i=>(cB (gC i y) d0 p).bind fun r=>some (.nx,ps.set j (some r.2))
theorem zx0{i y d d':D}{r:Unit}(h:gC i y d=some (r,d')):∃k xs n,i= .int k/\d= .lst true xs/\ixN xs.length k=some n/\d'= .lst true (xs.set n y):=by
 unfold gC at h
 split at h
 ·obtain⟨n,h1,h2⟩:=bind_some h
  cases h2
  exact⟨_,_,n,rfl,rfl,h1,rfl⟩
 ·cases h
theorem lV{i:Expr}(hb:φ.bor j=false)(he:PE X e (tP X.K U fe))(ho:PE X o (gK X.K U j pf))(hi:PE X i (tV X.K U fi))(hs:swapsWithSole [.Subscript o i apos] e pos.line X.env=pure false:=by rfl)(hw:swappedStores [.Subscript o i apos] e X.env=pure none:=by rfl)
  (h1:(assignEach [.Subscript o i apos] X.env).map (·.2)=[assign (.Subscript o i apos) X.env]:=by rfl)
  (ha:∀v,assign (.Subscript o i apos) X.env v=(do
   let ov<-holding [v] (eval o X.env)
   let iv<-holding [v,ov] (eval i X.env)
   standAt apos
   holding [v,ov,iv] (setItem ov iv v)
   release [v,ov,iv] []):=by intro _;rfl):QS X U φ (.Assign [.Subscript o i apos] e pos) (dS j pf fi fe):=
 (yj0 he (xf4 ho hi ys0 ha) hs hw h1).imp fun E σ H hh_=>by
  obtain⟨ps,F,fl,ps',R,e,q⟩:=hh_
  obtain⟨y,e1,e2⟩:=bind_some e
  obtain⟨d0,e3,e4⟩:=bind_some e2
  have e0:=join_some e3
  obtain⟨p,e5,e6⟩:=bind_some e4
  obtain⟨iv,e7,e8⟩:=bind_some e6
  obtain⟨⟨r,d0'⟩,em,e9⟩:=bind_some e8
  cases e9
  obtain⟨dd,dn,gp,hh⟩:=lU em
  refine⟨ps,y,R.ws,e1,fun v H1 fy s1 n1 nd1 ry=>⟨ps,p,d0,dd,R.ws.same s1,e0,e5,gp,fun lv H2 v0 s2 ev a2=>⟨ps,iv,(R.ws.same s1).same s2,e7,fun u H3 fu s3 r3=> ?_⟩⟩⟩
  have s13:=(s1.trans s2).trans s3
  obtain⟨d1,d1',fd,m1,m2,m3,m4,m5⟩:=rC R s13 hb e0 ev em (a2.same s3)
  obtain⟨k,xs,n,rfl,rfl,hn,rfl⟩:=zx0 m2
  obtain⟨l,us,g1,rfl,hl,hr,rfl⟩:=m1.lstT_inv
  have ln:=hr.length
  have ry3:=(ry.same s2).same s3
  obtain⟨nl,nd3⟩:=List.nodup_cons.mp m3
  have own0:∀a∈l::g1,H a≠none:=fun a ha z=>by obtain⟨o,h,_⟩:=R.own (m4 a ha);rw [z] at h;cases h
  have nl2:l∉fy:=fun z=>own0 l List.mem_cons_self (n1 l z)
  obtain⟨f1,rest,g2,k1,k2,k3⟩:=hr.setV (n:=n) (xM hn).2.1 ry3
  have mem2:∀a∈g2,a∈fy\/a∈g1:=fun a ha=>(List.mem_append.mp (k3.mem_iff.mp ha)).elim .inl fun z=> .inr (k1.mem_iff.mpr (List.mem_append_right _ z))
  have n2:l∉g2:=fun z=>(mem2 l z).elim nl2 nl
  refine⟨l,us,k,n,rfl,r3.is_int,hl,by rw [ln];exact hn,?_⟩
  obtain⟨F',st,ow⟩:=m5 (upd H3 l (.lst (us.set n v))) (l::g2) [] (fun a o h _ hn=>uK h hn)
   (fun a h=>uL h)
   (.lst eM (k2.updL hl rfl n2))
   (by
    rw [List.append_nil,List.nodup_cons]
    refine⟨n2,k3.nodup_iff.mpr (List.nodup_append.mpr ⟨nd1,?_,fun a ha b hb e=> ?_⟩)⟩
    ·exact(List.nodup_append.mp (k1.nodup_iff.mp nd3)).2.1
    ·subst e
     exact own0 a (List.mem_cons_of_mem _ (k1.mem_iff.mpr (List.mem_append_right _ hb))) (n1 a ha))
   (fun a ha=>by
    rw [List.append_nil] at ha
    rcases List.mem_cons.mp ha with z|z
    ·exact .inl (by rw [z];exact List.mem_cons_self)
    ·exact(mem2 a z).elim (fun z=> .inr (n1 a z)) fun z=> .inl (List.mem_cons_of_mem _ z))
  exact q _ _ F' st
end
section
variable{φ:Fx}{H H1:Hp}{σ σ1:St}{ps ps1:PSt}{F F1:Nat->List Addr}
theorem Stp.set'{fv:List Addr}{i:Nat}{v:V}{d:D}(s1:Stp φ σ H F σ1 H1 ps1 F1)(o:OwnV F H F1 fv)(R:RS φ H σ ps F)(r:Rep φ.K φ.U H1 v d fv)(hb:φ.bor i=false\/fv=[])(hm:φ.M i=false):
  ∃F',Stp φ σ H F (σ1.set i (some v)) H1 (ps1.set i (some d)) F'/\∀k a,a∈F' k->a∈fv\/a∈F1 k:=by
 refine⟨_,⟨s1.fr,fun j a h=> ?_,s1.rs.set r hb (fun j _=>o.dis j) o.nd fun a ha=>R.notB (o.nw a ha),fun j h=> ?_⟩,fun k a h=> ?_⟩
 ·rcases kX h with z|z
  ·by_cases k:i<ps1.length
   ·rw [if_pos k] at z;exact o.nw a z
   ·rw [if_neg k] at z;exact absurd z (by simp)
  ·exact s1.nw j a z
 ·rw [List.getElem?_set_ne (fun z=>by subst z;rw [hm] at h;cases h)]
  exact s1.msk j h
 ·rcases kX h with z|z
  ·by_cases k:i<ps1.length
   ·rw [if_pos k] at z;exact .inl z
   ·rw [if_neg k] at z;exact absurd z (by simp)
  ·exact .inr z
def setN:St->List Nat->List V->St
 |σ,i::is,v::vs=>setN (σ.set i (some v)) is vs
 |σ,_,_=>σ
def vG:PSt->List Nat->List D->PSt
 |ps,i::is,d::ds=>vG (ps.set i (some d)) is ds
 |ps,_,_=>ps
def zf1:List Nat->TGs
 |[]=>yx3
 |i::is=>yh4 (oO i) (zf1 is)
theorem wE{Q:St->Hp->Prop}:∀{is:List Nat} {vs:List V} {σ:St},vs.length=is.length->Q (setN σ is vs) H->zf1 is vs σ H Q
 |[],[],σ,_,q=>⟨rfl,q⟩
 |i::is,v::vs,σ,h,q=>⟨v,vs,rfl,wE (is:=is) (by simpa using h) q⟩
 |[],_::_,_,h,_=>by simp at h
 |_::_,[],_,h,_=>by simp at h
theorem Stp.setN(R:RS φ H σ ps F):∀{is:List Nat} {vs:List V} {ds:List D} {g:List Addr} {σ1:St} {ps1:PSt} {F1:Nat->List Addr},Stp φ σ H F σ1 H1 ps1 F1->OwnV F H F1 g->Reps φ.K φ.U H1 vs ds g->(∀i∈is,φ.bor i=false/\φ.M i=false)->
  ∃F',Stp φ σ H F (L2.setN σ1 is vs) H1 (vG ps1 is ds) F':=by
 intro is
 induction is with
 |nil=>intro vs ds g σ1 ps1 F1 s _ _ _;exact⟨F1,by simpa [L2.setN,vG] using s⟩
 | cons i is ih=>
  intro vs ds g σ1 ps1 F1 s o r hi
  cases ds with
  |nil=>cases r;exact⟨F1,by simpa [L2.setN,vG] using s⟩
  |cons d ds=>
   obtain⟨v,us,f,g',rfl,h,hs,rfl⟩:=r.split
   obtain⟨nd1,nd2,nd3⟩:=List.nodup_append.mp o.nd
   obtain⟨F2,s2,hF⟩:=s.set' (i:=i) (fv:=f) ⟨fun a ha=>o.nw a (List.mem_append_left _ ha),nd1,fun k a ha hf=>o.dis k a ha (List.mem_append_left _ hf)⟩ R h (.inl (hi i List.mem_cons_self).1) (hi i List.mem_cons_self).2
   refine ih s2 ⟨fun a ha=>o.nw a (List.mem_append_right _ ha),nd2,fun k a ha hg=> ?_⟩ hs fun k hk=>hi k (List.mem_cons_of_mem _ hk)
   rcases hF k a ha with z|z
   ·exact nd3 a z a hg rfl
   ·exact o.dis k a z (List.mem_append_right _ hg)
end
def zv5:D->Option (List D)
 | .lst _ ds=>some ds
 | .tup ds=>some ds
 |_=>none
def vH(is:List Nat)(f:tz8):tz1:=fun ps=>(f ps).bind fun r=>(zv5 r.1).bind fun ds=>if ds.length=is.length then some (.nx,vG r.2 is ds) else none
section
variable{X:Cx}{U:tz9}{φ:F0}{es:List Expr}{pos p:Pos}{k:Nat}{is:List Nat}{e:Expr}{f:tz8}
theorem xi0{t:TGs}{n:Nat}(hc:X.calm=true)(h:PGs X es t)
  (hn:(assignEach es X.env).length=n:=by rfl) (hst:(assignEach es X.env).findIdx? (·.1)=none:=by rfl):PG X (.Tuple es k pos) (fun v σ H Q=>xl5 X.K n t v σ H Q\/xk5 X.K n t v σ H Q):=by
 intro pins s σ H v u Q I r hw
 rcases hw with hw|hw
 ·exact xh6 hc h hn hst pins s σ H v u Q I r hw
 ·exact xf3 hc h hn hst pins s σ H v u Q I r hw
theorem wH(hc:X.calm=true)(hg:PGs X es (zf1 is))(he:QE X U φ e f)(hb:∀i∈is,φ.bor i=false/\φ.M i=false)(hn:(assignEach es X.env).length=is.length:=by rfl)(hst:(assignEach es X.env).findIdx? (·.1)=none:=by rfl)
  (hs:swapsWithSole [.Tuple es k p] e pos.line X.env=pure false:=by rfl) (hw:swappedStores [.Tuple es k p] e X.env=pure none:=by rfl)
  (h1:(assignEach [.Tuple es k p] X.env).map (·.2)=[assign (.Tuple es k p) X.env]:=by rfl):QS X U φ (.Assign [.Tuple es k p] e pos) (vH is f):=
 (yj0 he (xi0 (n:=is.length) hc hg hn hst) hs hw h1).imp fun E σ H hh_=>by
  obtain⟨ps,F,fl,ps',R,e,q⟩:=hh_
  obtain⟨⟨d,ps1⟩,e1,e2⟩:=bind_some e
  obtain⟨ds,e3,e4⟩:=bind_some e2
  obtain⟨hl,e5⟩:=cN e4
  cases e5
  refine⟨ps,F,d,ps1,R,e1,fun v H' F' fv s o r=> ?_⟩
  cases d with
  |lst ow xs=>
   cases e3
   obtain⟨a,vs,g,rfl,h,hs,sub⟩:=r.lst_inv
   have ln:=hs.length
   obtain⟨F2,s2⟩:=Stp.setN R s ⟨fun a ha=>o.nw a (sub.subset ha),o.nd.sublist sub,fun k a ha hg=>o.dis k a ha (sub.subset hg)⟩ hs hb
   exact .inl ⟨a,vs,rfl,.inl h,by omega,wE (by omega) (q _ _ F2 s2)⟩
  |tup xs=>
   cases e3
   obtain⟨a,vs,rfl,h,hs⟩:=r.tup_inv
   have ln:=hs.length
   obtain⟨F2,s2⟩:=Stp.setN R s ⟨fun a ha=>absurd ha (by simp),List.nodup_nil,fun k a ha hg=>absurd hg (by simp)⟩ hs hb
   exact .inr ⟨a,vs,rfl,h,by omega,wE (by omega) (q _ _ F2 s2)⟩
  |_=>cases e3
end
def fxE(K:tz0)(U:tz9)(np:Nat)(m:Nat->Bool):Fx:=⟨K,U,fun i=>decide (i<np)&& !m i,m,fun _ _=>False⟩
def f0E(np:Nat)(m:Nat->Bool):F0:=⟨fun i=>decide (i<np)&& !m i,m,fun _ _=>False⟩
def SpE(np:Nat)(K:tz0)(U:tz9)(m:Nat->Bool)(g:tz7):Sp:=fun vs H Q _=>vs.length=np/\∃ds r ds' F,ds.length=np/\RS (fxE K U np m) H (vs.map some) (ds.map some) F/\g ds=some (r,ds')/\
 ∀v H' F' fv,Stp (fxE K U np m) (vs.map some) H F (vs.map some) H' (ds'.map some) F'->OwnV F H F' fv->Rep K U H' v r fv->Q v H'
def fX(m:Nat->Bool)(ps:PSt):Nat->List D->Option (List D)
 |_,[]=>some []
 |i,d::ds=>(if m i=true then(ps[i]?).join else some d).bind fun d'=>(fX m ps (i+1) ds).bind fun ds'=>some (d'::ds')
theorem zl4{m:Nat->Bool}{ps:PSt}:∀{ds ds':List D} {i:Nat},fX m ps i ds=some ds'->ds'.length=ds.length/\∀(k:Nat) (d':D),ds'[k]? =some d'->(m (i+k)=true->ps[i+k]? =some (some d'))/\(m (i+k)=false->ds[k]? =some d')
 |[],_,_,e=>by cases e;exact⟨rfl,fun k d' h=>by simp at h⟩
 | d::ds,_,i,e=>by
  obtain⟨d1,e1,e2⟩:=bind_some e
  obtain⟨ds1,e3,e4⟩:=bind_some e2
  cases e4
  obtain⟨l,h⟩:=zl4 e3
  refine⟨by simp [l],fun k d' hk=> ?_⟩
  cases k with
  |zero=>
   simp at hk;subst hk
   refine⟨fun z=> ?_,fun z=> ?_⟩
   ·rw [Nat.add_zero] at z|-;rw [if_pos z] at e1;exact join_some e1
   ·rw [Nat.add_zero] at z;rw [if_neg (by rw [z];simp)] at e1;simpa using e1
  |succ k=>
   obtain⟨h1,h2⟩:=h k d' (by simpa using hk)
   have ea:i+(k+1)=i+1+k:=by omega
   rw [ea]
   exact⟨h1,fun z=>by simpa using h2 z⟩
def gE(np n:Nat)(m:Nat->Bool)(f:tz1):tz7:=fun ds=>if ds.length=np then(f (ds.map some++List.replicate n none)).bind fun r=>match r with
 |(.ret d,ps)=>(fX m ps 0 ds).bind fun ds'=>some (d,ds')
 |(.nx,ps)=>(fX m ps 0 ds).bind fun ds'=>some (.non,ds')
 |_=>none
 else none
theorem RS.more{φ:Fx}{H:Hp}{σ σ2:St}{ps:PSt}{F:Nat->List Addr}{n:Nat}(R:RS φ H σ ps F)(hl:ps.length=σ.length)(h2:n<=σ2.length):RS φ H (σ++σ2) (ps++List.replicate n none) F:=by
 refine⟨fun i d h=> ?_,fun i a h=> ?_,R.dis,R.nd,R.nb,R.bt,by simp [hl];omega⟩
 ·by_cases hi:i<ps.length
  ·rw [List.getElem?_append_left hi] at h
   rw [List.getElem?_append_left (by omega)]
   exact R.rep i d h
  ·rw [List.getElem?_append_right (by omega),List.getElem?_replicate] at h
   split at h<;>cases h
 ·obtain⟨b,d,e⟩:=R.emp i a h
  have hi:=(List.getElem?_eq_some_iff.mp e).1
  exact⟨b,d,by rw [List.getElem?_append_left hi];exact e⟩
theorem zr2{K:tz0}{U:tz9}{np n:Nat}{m:Nat->Bool}{H H':Hp}{vs:List V}{σ2 σ':St}{ds ds':List D}{ps':PSt}{F F':Nat->List Addr}{fv:List Addr}(hm:∀i,m i=true->i<np)(hl:vs.length=np)(hd:ds.length=np)(R:RS (fxE K U np m) H (vs.map some) (ds.map some) F)
  (s:Stp (fxE K U np m) (vs.map some++σ2) H F σ' H' ps' F') (o:OwnV F H F' fv) (e:fX m ps' 0 ds=some ds'):
  ∃F2,Stp (fxE K U np m) (vs.map some) H F (vs.map some) H' (ds'.map some) F2/\OwnV F H F2 fv:=by
 obtain⟨l,ho⟩:=zl4 e
 have sub:∀i a,a∈(if m i=true then F' i else [])->m i=true/\a∈F' i:=fun i a h=>by
  by_cases z:m i=true
  ·rw [if_pos z] at h;exact⟨z,h⟩
  ·rw [if_neg z] at h;exact absurd h (by simp)
 have tfk:∀a u,H a=some u->tf u=true->H' a=some u:=fun a u h t=>s.fr.keep a u h (nJ t) fun i hi=>by
  obtain⟨u',h',_,t'⟩:=R.own hi
  rw [h] at h';cases h';rw [t] at t';cases t'
 have mb:∀i,m i=true->(fxE K U np m).bor i=false:=fun i h=>by simp [fxE,h]
 refine⟨fun i=>if m i=true then F' i else [],⟨s.fr,fun i a h=>s.nw i a (sub i a h).2,⟨fun i d h=> ?_,fun i a h=> ?_,fun i j a h1 h2=>s.rs.dis i j a (sub i a h1).2 (sub j a h2).2,fun i=> ?_,fun i a h=>s.rs.nb i a (sub i a h).2,fun _ a h=>h.elim,by simp [l,hl,hd]⟩,fun _ _=>rfl⟩,⟨o.nw,o.nd,fun i a h=>o.dis i a (sub i a h).2⟩⟩
 ·rw [List.getElem?_map] at h
  cases q:ds'[i]? with
  |none=>rw [q] at h;cases h
  | some d1=>
   rw [q] at h;cases h
   obtain⟨h1,h2⟩:=ho i d q
   rw [Nat.zero_add] at h1 h2
   by_cases z:m i=true
   ·obtain⟨v,fp,k1,k2,k3,_⟩:=s.rs.rep i d (h1 z)
    refine⟨v,fp,?_,k2,fun _=>by rw [if_pos z];exact k3 (mb i z),fun w=>by rw [mb i z] at w;cases w⟩
    rw [<-k1]
    have:=s.msk i z
    rw [this,List.getElem?_append_left (by simp [hl];exact hm i z)]
   ·have zf:m i=false:=by simpa using z
    have hi:(ds.map some)[i]? =some (some d):=by rw [List.getElem?_map,h2 zf];rfl
    have hib:(fxE K U np m).bor i=true:=by
     have:=(List.getElem?_eq_some_iff.mp (h2 zf)).1
     simp [fxE,zf];omega
    obtain⟨v,fp,k1,k2,_,k4⟩:=R.rep i d hi
    have efp:fp=[]:=by
     cases fp with
     |nil=>rfl
     |cons a r=>exact(k4 hib a List.mem_cons_self).elim
    subst efp
    exact⟨v,[],k1,k2.move tfk (fun a ha=>absurd ha (by simp)),(fun w=>by rw [hib] at w;cases w),(fun _ a ha=>absurd ha (by simp))⟩
 ·obtain⟨z,h⟩:=sub i a h
  refine⟨mb i z,?_⟩
  have hi:i<ds'.length:=by rw [l,hd];exact hm i z
  exact⟨ds'[i],by rw [List.getElem?_map,List.getElem?_eq_getElem hi];rfl⟩
 ·by_cases z:m i=true
  ·rw [if_pos z];exact s.rs.nd i
  ·rw [if_neg z];exact List.nodup_nil
section
variable{P:Program}{w:World}{K:tz0}{mg:tzA}{base:Heap}{U:tz9}
theorem mJ{x qual:Str}{st:Stmt}{f:Addr}{fd:FuncData}{N ps:List Str}{k:Nat}{fb:tz1}{m:Nat->Bool}(F:Fun K x qual st f fd)(S:FnScope N ps (aQ st))(hm:∀i,m i=true->i<ps.length)
  (hbody:∀(cdv:Value) (A:Around) (outer:List Env) (s:Shared) (H:Hp) (E:XK),Room k (A.deeper (envOfC qual (aQ st) s.heap.objs.size f cdv))->
   QSs (eT CX0 P w K mg base N qual (aQ st) f cdv A outer s H E).nox U (f0E ps.length m) (cC st) fb):
  FnOk P w K mg base CX0 (k+1) f fd ps (SpE ps.length K U m (gE ps.length (N.length-ps.length) m fb)):=by
 refine F.ok S (fun vs H Q E h=>h.1) fun cdv A outer s H vs Q E hr ⟨hl,ds,r,ds',F0,hd,R,e,q⟩=>⟨_,hbody cdv A outer s H E hr,?_⟩
 have hn:ps.length<=N.length:=by have:=congrArg List.length S.pre;rw [List.length_take] at this;omega
 unfold gE at e
 obtain⟨_,e0⟩:=cN e
 obtain⟨⟨fl,ps'⟩,e1,e2⟩:=bind_some e0
 have R0:=R.more (σ2:=List.replicate (N.length-vs.length) none) (n:=N.length-ps.length) (by simp [hl,hd]) (by simp [hl])
 refine⟨_,F0,fl,ps',R0,e1,?_⟩
 cases fl with
 | ret d'=>
  obtain⟨ds1,e3,e4⟩:=bind_some e2
  cases e4
  exact fun v σ' H' F' fv s o rv=>by
   obtain⟨F2,s2,o2⟩:=zr2 (n:=0) hm hl hd R s o e3
   exact q v H' F2 fv s2 o2 rv
 | nx=>
  obtain⟨ds1,e3,e4⟩:=bind_some e2
  cases e4
  exact fun σ' H' F' s=>by
   obtain⟨F2,s2,o2⟩:=zr2 (n:=0) (fv:=[]) hm hl hd R s ⟨fun _ h=>absurd h (by simp),List.nodup_nil,fun _ _ _ h=>absurd h (by simp)⟩ e3
   exact q .non H' F2 [] s2 o2 .non
 |bk=>cases e2
 |ct=>cases e2
end
set_option genInjectivity true in
inductive Arg where
 |io (j:Nat)|im (f:tz2)
def bB:List Arg->tz3
 |[],_=>some []
 | .io j::as,ps=>((ps[j]?).join).bind fun d=>(bB as ps).bind fun ds=>some (d::ds)
 | .im f::as,ps=>(aY f ps).bind fun d=>(bB as ps).bind fun ds=>some (d::ds)
def lY:List Arg->Nat->Bool
 | .io _::_,0=>true
 |_::as,i+1=>lY as i
 |_,_=>false
def slots:List Arg->List Nat
 |[]=>[]
 | .io j::as=>j::slots as
 | .im _::as=>slots as
def eK:PSt->List Arg->List D->PSt
 |ps,.io j::as,d::ds=>eK (ps.set j (some d)) as ds
 |ps,.im _::as,_::ds=>eK ps as ds
 |ps,_,_=>ps
inductive ArgsAt(K:tz0)(U:tz9)(H:Hp)(σ:St)(ps:PSt):List Arg->List V->List D->Prop
 |nil:ArgsAt K U H σ ps [] [] []
 |io {j:Nat} {as:List Arg} {v:V} {vs:List V} {d:D} {ds:List D}:σ[j]? =some (some v)->ps[j]? =some (some d)->ArgsAt K U H σ ps as vs ds->ArgsAt K U H σ ps (.io j::as) (v::vs) (d::ds)
 |im {f:tz2} {as:List Arg} {v:V} {vs:List V} {d:D} {ds:List D}:Rep K U H v d []->ArgsAt K U H σ ps as vs ds->ArgsAt K U H σ ps (.im f::as) (v::vs) (d::ds)
theorem ArgsAt.len{K:tz0}{U:tz9}{H:Hp}{σ:St}{ps:PSt}:∀{as:List Arg} {vs:List V} {ds:List D},ArgsAt K U H σ ps as vs ds->vs.length=as.length/\ds.length=as.length
 |_,_,_,.nil=>⟨rfl,rfl⟩
 |_,_,_,.io _ _ h=>by have:=h.len;simp [this]
 |_,_,_,.im _ h=>by have:=h.len;simp [this]
theorem ArgsAt.get{K:tz0}{U:tz9}{H:Hp}{σ:St}{ps:PSt}:∀{as:List Arg} {vs:List V} {ds:List D} {i:Nat} {d:D},ArgsAt K U H σ ps as vs ds->ds[i]? =some d->∃v,vs[i]? =some v/\((∃j,as[i]? =some (.io j)/\lY as i=true/\σ[j]? =some (some v)/\ps[j]? =some (some d))\/(lY as i=false/\Rep K U H v d []))
 |_,_,_,_,_,.nil,e=>by simp at e
 |_,_,_,0,_,.io h1 h2 _,e=>by simp at e;subst e;exact⟨_,rfl,.inl ⟨_,rfl,rfl,h1,h2⟩⟩
 |_,_,_,0,_,.im r _,e=>by simp at e;subst e;exact⟨_,rfl,.inr ⟨rfl,r⟩⟩
 |_,_,_,i+1,_,.io _ _ h,e=>by
  obtain⟨v,h1,h2⟩:=ArgsAt.get (i:=i) h (by simpa using e)
  exact⟨v,by simpa using h1,by simpa [lY] using h2⟩
 |_,_,_,i+1,_,.im _ h,e=>by
  obtain⟨v,h1,h2⟩:=ArgsAt.get (i:=i) h (by simpa using e)
  exact⟨v,by simpa using h1,by simpa [lY] using h2⟩
theorem zh6:∀{as:List Arg} {i:Nat},lY as i=true->∃j,as[i]? =some (.io j)
 | .io j::_,0,_=>⟨j,rfl⟩
 | .im _::_,0,h=>by cases h
 | .io _::as,i+1,h=>by obtain⟨j,e⟩:=zh6 (as:=as) (i:=i) h;exact⟨j,by simpa using e⟩
 | .im _::as,i+1,h=>by obtain⟨j,e⟩:=zh6 (as:=as) (i:=i) h;exact⟨j,by simpa using e⟩
 |[],_,h=>by cases h
theorem oY:∀{as:List Arg} {i j:Nat},as[i]? =some (.io j)->lY as i=true
 | .io _::_,0,_,_=>rfl
 | .im _::_,0,_,h=>by simp at h
 | .io _::as,i+1,j,h=>oY (as:=as) (i:=i) (j:=j) (by simpa using h)
 | .im _::as,i+1,j,h=>oY (as:=as) (i:=i) (j:=j) (by simpa using h)
 |[],_,_,h=>by simp at h
theorem jY:∀{as:List Arg} {i j:Nat},as[i]? =some (.io j)->j∈slots as
 | .io _::_,0,_,h=>by simp at h;subst h;exact List.mem_cons_self
 | .im _::_,0,_,h=>by simp at h
 | .io _::as,i+1,j,h=>List.mem_cons_of_mem _ (jY (as:=as) (i:=i) (by simpa using h))
 | .im _::as,i+1,j,h=>jY (as:=as) (i:=i) (by simpa using h)
 |[],_,_,h=>by simp at h
theorem wI:∀{as:List Arg} {i k j:Nat},(slots as).Nodup->as[i]? =some (.io j)->as[k]? =some (.io j)->i=k
 |[],_,_,_,_,h,_=>by simp at h
 |a::as,0,0,_,_,_,_=>rfl
 | .io j'::as,0,k+1,j,nd,h1,h2=>by
  simp at h1;subst h1
  exact absurd (jY (as:=as) (i:=k) (by simpa using h2)) (List.nodup_cons.mp nd).1
 | .im _::as,0,k+1,j,_,h1,_=>by simp at h1
 | .io j'::as,i+1,0,j,nd,h1,h2=>by
  simp at h2;subst h2
  exact absurd (jY (as:=as) (i:=i) (by simpa using h1)) (List.nodup_cons.mp nd).1
 | .im _::as,i+1,0,j,_,_,h2=>by simp at h2
 | .io j'::as,i+1,k+1,j,nd,h1,h2=>by rw [wI (as:=as) (i:=i) (k:=k) (j:=j) (List.nodup_cons.mp nd).2 (by simpa using h1) (by simpa using h2)]
 | .im _::as,i+1,k+1,j,nd,h1,h2=>by rw [wI (as:=as) (i:=i) (k:=k) (j:=j) nd (by simpa using h1) (by simpa using h2)]
def gL:List Arg->Nat->Option Nat
 |[],_=>none
 | .io i::as,j=>if i=j then some 0 else(gL as j).map (·+1)
 | .im _::as,j=>(gL as j).map (·+1)
theorem mK:∀{as:List Arg} {j i:Nat},gL as j=some i->as[i]? =some (.io j)
 |[],_,_,h=>by cases h
 | .io k::as,j,i,h=>by
  rw [gL] at h
  by_cases z:k=j
  ·rw [if_pos z] at h;cases h;rw [z];rfl
  ·rw [if_neg z] at h
   cases q:gL as j with
   |none=>rw [q] at h;cases h
   |some n=>rw [q] at h;cases h;simpa using mK q
 | .im _::as,j,i,h=>by
  rw [gL] at h
  cases q:gL as j with
  |none=>rw [q] at h;cases h
  |some n=>rw [q] at h;cases h;simpa using mK q
theorem kY:∀{as:List Arg} {j:Nat},gL as j=none->j∉slots as
 |[],_,_=>by simp [slots]
 | .io k::as,j,h=>by
  rw [gL] at h
  by_cases z:k=j
  ·rw [if_pos z] at h;cases h
  ·rw [if_neg z] at h
   have h':gL as j=none:=by
    cases q:gL as j with
    |none=>rfl
    |some n=>rw [q] at h;cases h
   exact fun hm=>(List.mem_cons.mp hm).elim (fun e=>z e.symm) (kY h')
 | .im _::as,j,h=>by
  rw [gL] at h
  have h':gL as j=none:=by
   cases q:gL as j with
   |none=>rfl
   |some n=>rw [q] at h;cases h
  exact fun hm=>kY (as:=as) h' hm
theorem uM:∀{as:List Arg} {ds:List D} {ps:PSt},(eK ps as ds).length=ps.length
 |[],_,_=>by simp [eK]
 | .io j::as,[],_=>by simp [eK]
 | .im _::as,[],_=>by simp [eK]
 | .io j::as,d::ds,ps=>by rw [eK,uM (as:=as)];simp
 | .im _::as,d::ds,ps=>by rw [eK,uM (as:=as)]
theorem oH:∀{as:List Arg} {ds:List D} {ps:PSt} {j:Nat},j∉slots as->(eK ps as ds)[j]? =ps[j]?
 |[],_,_,_,_=>by simp [eK]
 | .io _::_,[],_,_,_=>by simp [eK]
 | .im _::_,[],_,_,_=>by simp [eK]
 | .io k::as,d::ds,ps,j,h=>by
  rw [eK,oH (as:=as) (fun z=>h (List.mem_cons_of_mem _ z)),List.getElem?_set_ne (fun z=>h (by rw [<-z];exact List.mem_cons_self))]
 | .im _::as,d::ds,ps,j,h=>by rw [eK];exact oH (as:=as) h
theorem xS:∀{as:List Arg} {ds:List D} {ps:PSt} {i j:Nat} {d:D},(slots as).Nodup->as[i]? =some (.io j)->ds[i]? =some d->j<ps.length->(eK ps as ds)[j]? =some (some d)
 |[],_,_,_,_,_,_,h,_,_=>by simp at h
 |_::_,[],_,_,_,_,_,_,h,_=>by simp at h
 | .io k::as,d1::ds,ps,0,j,d,nd,h1,h2,h3=>by
  simp at h1 h2;subst h1;subst h2
  rw [eK,oH (List.nodup_cons.mp nd).1,List.getElem?_set_self h3]
 | .im _::as,d1::ds,ps,0,j,d,_,h1,_,_=>by simp at h1
 | .io k::as,d1::ds,ps,i+1,j,d,nd,h1,h2,h3=>by
  rw [eK];exact xS (List.nodup_cons.mp nd).2 (by simpa using h1) (by simpa using h2) (by simpa using h3)
 | .im _::as,d1::ds,ps,i+1,j,d,nd,h1,h2,h3=>by
  rw [eK];exact xS (as:=as) nd (by simpa using h1) (by simpa using h2) h3
def pH(as:List Arg)(F:Nat->List Addr):Nat->List Addr:=fun i=>match as[i]? with
 |some (.io j)=>F j
 |_=>[]
theorem zz5{as:List Arg}{F:Nat->List Addr}{i j:Nat}(e:as[i]? =some (.io j)):pH as F i=F j:=by unfold pH;rw [e]
theorem zr3{as:List Arg}{F:Nat->List Addr}{i:Nat}{b:Addr}(h:b∈pH as F i):∃j,as[i]? =some (.io j)/\b∈F j:=by
 unfold pH at h
 cases q:as[i]? with
 |none=>rw [q] at h;exact absurd h (by simp)
 |some x=>
  cases x with
  |io j=>rw [q] at h;exact⟨j,rfl,h⟩
  |im _=>rw [q] at h;exact absurd h (by simp)
theorem zh7{as:List Arg}{F:Nat->List Addr}{i:Nat}(e:lY as i=false):pH as F i=[]:=by
 unfold pH
 cases q:as[i]? with
 |none=>rfl
 |some x=>cases x with
  |io j=>rw [oY q] at e;cases e
  |im _=>rfl
theorem yt3{φ:Fx}{H:Hp}{σ:St}{ps:PSt}{F:Nat->List Addr}{as:List Arg}{vs:List V}{ds:List D}(R:RS φ H σ ps F)(nd:(slots as).Nodup)(hb:∀j∈slots as,φ.bor j=false)(a:ArgsAt φ.K φ.U H σ ps as vs ds):
  RS (fxE φ.K φ.U as.length (lY as)) H (vs.map some) (ds.map some) (pH as F):=by
 obtain⟨lv,ld⟩:=a.len
 have memF:∀i b,b∈pH as F i->∃j,as[i]? =some (Arg.io j)/\b∈F j:=fun i b h=>zr3 h
 refine⟨fun i d h=> ?_,fun i b h=> ?_,fun i k b h1 h2=> ?_,fun i=> ?_,fun i b h k z=>z.elim,fun k b z=>z.elim,by simp [lv,ld]⟩
 ·rw [List.getElem?_map] at h
  cases q:ds[i]? with
  |none=>rw [q] at h;cases h
  | some d1=>
   rw [q] at h;cases h
   obtain⟨v,h1,h2⟩:=a.get q
   have hi:=(List.getElem?_eq_some_iff.mp q).1
   refine⟨v,pH as F i,by rw [List.getElem?_map,h1];rfl,?_,fun _=>rfl,fun z=> ?_⟩
   ·rcases h2 with ⟨j,e1,e2,e3,e4⟩|⟨e1,r⟩
    ·obtain⟨v',fp,k1,k2,k3,_⟩:=R.rep j d e4
     rw [e3] at k1;cases k1
     rw [zz5 e1]
     have:=k3 (hb j (jY e1))
     subst this
     exact k2
    ·rw [zh7 e1];exact r
   ·rcases h2 with ⟨j,e1,e2,_⟩|⟨e1,r⟩
    ·simp [fxE,e2] at z
    ·rw [zh7 e1];intro b hb;exact absurd hb (by simp)
 ·obtain⟨j,e,hj⟩:=memF i b h
  have hi:i<ds.length:=by rw [ld];exact(List.getElem?_eq_some_iff.mp e).1
  exact⟨by simp [fxE,oY e],ds[i],by rw [List.getElem?_map,List.getElem?_eq_getElem hi];rfl⟩
 ·obtain⟨j1,e1,m1⟩:=memF i b h1
  obtain⟨j2,e2,m2⟩:=memF k b h2
  have:=R.dis j1 j2 b m1 m2
  subst this
  exact wI nd e1 e2
 ·cases z:lY as i with
  |true=>obtain⟨j,e⟩:=zh6 z;rw [zz5 e];exact R.nd j
  |false=>rw [zh7 z];exact List.nodup_nil
def sN(as:List Arg)(F Fc:Nat->List Addr):Nat->List Addr:=fun j=>match gL as j with
 |some i=>Fc i
 |none=>F j
theorem yl8{as:List Arg}{F Fc:Nat->List Addr}{j:Nat}{b:Addr}(h:b∈sN as F Fc j):(∃i,gL as j=some i/\b∈Fc i)\/(gL as j=none/\b∈F j):=by
 unfold sN at h
 cases q:gL as j with
 |none=>rw [q] at h;exact .inr ⟨rfl,h⟩
 |some i=>rw [q] at h;exact .inl ⟨i,rfl,h⟩
theorem zb3{as:List Arg}{F Fc:Nat->List Addr}{j i:Nat}(e:gL as j=some i):sN as F Fc j=Fc i:=by unfold sN;rw [e]
theorem zb4{as:List Arg}{F Fc:Nat->List Addr}{j:Nat}(e:gL as j=none):sN as F Fc j=F j:=by unfold sN;rw [e]
theorem xb2{φ:Fx}{H H1 H':Hp}{σ:St}{ps:PSt}{F Fc':Nat->List Addr}{as:List Arg}{vs:List V}{ds ds':List D}{fv:List Addr}(R:RS φ H σ ps F)(s1:SameK H H1)(nd:(slots as).Nodup)(hb:∀j∈slots as,φ.bor j=false)(a:ArgsAt φ.K φ.U H1 σ ps as vs ds)(hl:ds'.length=as.length)
  (s:Stp (fxE φ.K φ.U as.length (lY as)) (vs.map some) H1 (pH as F) (vs.map some) H' (ds'.map some) Fc') (o:OwnV (pH as F) H1 Fc' fv):
  ∃F',Stp φ σ H F σ H' (eK ps as ds') F'/\OwnV F H F' fv:=by
 have memF:∀i b,b∈pH as F i->∃j,as[i]? =some (Arg.io j)/\b∈F j:=fun i b h=>zr3 h
 have nwA:∀b,((∃i,b∈pH as F i)\/H1 b=none)->(∃j∈slots as,b∈F j)\/H b=none:=fun b h=>by
  rcases h with ⟨i,h⟩|h
  ·obtain⟨j,e,m⟩:=memF i b h
   exact .inl ⟨j,jY e,m⟩
  ·exact .inr (s1.grow b h)
 have isDisj:∀b,((∃i,b∈Fc' i)\/b∈fv)->∀j,j∉slots as->b∉F j:=fun b h j hj hm=>by
  have h':(∃j∈slots as,b∈F j)\/H b=none:=by
   rcases h with ⟨i,h⟩|h
   ·exact nwA b (s.nw i b h)
   ·exact nwA b (o.nw b h)
  rcases h' with ⟨k,hk,hm2⟩|z
  ·exact hj (R.dis j k b hm hm2▸hk)
  ·obtain⟨u,q,_⟩:=R.own hm;rw [z] at q;cases q
 have keepN:∀b u,H b=some u->kd u=true->(∀j∈slots as,b∉F j)->H' b=some u:=fun b u h k n=>s.fr.keep b u (s1.keep b u h k) k fun i hi=>by
  obtain⟨j,e,m⟩:=memF i b hi
  exact n j (jY e) m
 have tfk:∀b u,H b=some u->tf u=true->H' b=some u:=fun b u h t=>keepN b u h (nJ t) fun j _ hm=>by
  obtain⟨u',h',_,t'⟩:=R.own hm
  rw [h] at h';cases h';rw [t] at t';cases t'
 have posmem:∀j b,b∈sN as F Fc' j->(∃i,gL as j=some i/\b∈Fc' i)\/(gL as j=none/\b∈F j):=fun j b h=>yl8 h
 refine⟨sN as F Fc',⟨⟨fun b u h k n=>keepN b u h k fun j _=>n j,fun b h=>s1.grow b (s.fr.grow b h)⟩,fun j b h=> ?_,⟨fun j d h=> ?_,fun j b h=> ?_,fun j k b h1 h2=> ?_,fun j=> ?_,fun j b h=> ?_,fun kk b hB z=>R.bt kk b hB (s1.grow b (s.fr.grow b z)),by rw [uM];exact R.len⟩,fun _ _=>rfl⟩,⟨fun b hb'=> ?_,o.nd,fun j b h hv=> ?_⟩⟩
 ·rcases posmem j b h with ⟨i,e,m⟩|⟨e,m⟩
  ·exact(nwA b (s.nw i b m)).elim (fun⟨k,_,hk⟩=> .inl ⟨k,hk⟩) .inr
  ·exact .inl ⟨j,m⟩
 ·cases q:gL as j with
  | some i=>
   have e:=mK q
   have hi:i<ds'.length:=by rw [hl];exact(List.getElem?_eq_some_iff.mp e).1
   have ei:ds'[i]? =some ds'[i]:=List.getElem?_eq_getElem hi
   have hj:j<ps.length:=by
    have:=(List.getElem?_eq_some_iff.mp h).1
    rwa [uM] at this
   rw [xS nd e ei hj] at h
   cases h
   obtain⟨v,fp,k1,k2,k3,_⟩:=s.rs.rep i ds'[i] (by rw [List.getElem?_map,ei];rfl)
   have hbi:(fxE φ.K φ.U as.length (lY as)).bor i=false:=by simp [fxE,oY e]
   have k3:=k3 hbi
   subst k3
   have hvi:i<vs.length:=by rw [a.len.1];exact(List.getElem?_eq_some_iff.mp e).1
   have hdi:i<ds.length:=by rw [a.len.2];exact(List.getElem?_eq_some_iff.mp e).1
   obtain⟨v',g1,g2⟩:=a.get (List.getElem?_eq_getElem hdi)
   rw [List.getElem?_map,g1] at k1
   cases k1
   rcases g2 with ⟨j',e1,_,e3,_⟩|⟨e1,_⟩
   ·rw [e] at e1;cases e1
    exact⟨v,Fc' i,e3,k2,(fun _=>(zb3 q).symm),(fun z=>by rw [hb j (jY e)] at z;cases z)⟩
   ·rw [oY e] at e1;cases e1
  |none=>
   have hn:=kY q
   rw [oH hn] at h
   obtain⟨v,fp,k1,k2,k3,k4⟩:=R.rep j d h
   refine⟨v,fp,k1,k2.move tfk fun b hb'=> ?_,(fun z=>by rw [zb4 q];exact k3 z),k4⟩
   obtain⟨u,q1,q2,_⟩:=k2.own b hb'
   rw [q1]
   refine keepN b u q1 q2 fun k hk hm=> ?_
   cases z:φ.bor j with
   |true=>exact R.nb k b hm j (k4 z b hb')
   |false=>rw [k3 z] at hb';exact hn (R.dis j k b hb' hm▸hk)
 ·rcases posmem j b h with ⟨i,e,m⟩|⟨e,m⟩
  ·have e':=mK e
   refine⟨hb j (jY e'),?_⟩
   have hi:i<ds'.length:=by rw [hl];exact(List.getElem?_eq_some_iff.mp e').1
   have hdi:i<ds.length:=by rw [a.len.2];exact(List.getElem?_eq_some_iff.mp e').1
   obtain⟨v',g1,g2⟩:=a.get (List.getElem?_eq_getElem hdi)
   rcases g2 with ⟨j',e1,_,_,e4⟩|⟨e1,_⟩
   ·rw [e'] at e1;cases e1
    exact⟨_,xS nd e' (List.getElem?_eq_getElem hi) (List.getElem?_eq_some_iff.mp e4).1⟩
   ·rw [oY e'] at e1;cases e1
  ·obtain⟨b1,d,b2⟩:=R.emp j b m
   exact⟨b1,d,by rw [oH (kY e)];exact b2⟩
 ·rcases posmem j b h1 with ⟨i,e,m⟩|⟨e,m⟩
  ·rcases posmem k b h2 with ⟨i',e',m'⟩|⟨e',m'⟩
   ·have:=s.rs.dis i i' b m m'
    subst this
    have q1:=mK e
    have q2:=mK e'
    rw [q1] at q2
    cases q2;rfl
   ·exact absurd m' (isDisj b (.inl ⟨i,m⟩) k (kY e'))
  ·rcases posmem k b h2 with ⟨i',e',m'⟩|⟨e',m'⟩
   ·exact absurd m (isDisj b (.inl ⟨i',m'⟩) j (kY e))
   ·exact R.dis j k b m m'
 ·cases q:gL as j with
  |some i=>rw [zb3 q];exact s.rs.nd i
  |none=>rw [zb4 q];exact R.nd j
 ·rcases posmem j b h with ⟨i,e,m⟩|⟨e,m⟩
  ·exact R.notB ((nwA b (s.nw i b m)).elim (fun⟨k,_,hk⟩=> .inl ⟨k,hk⟩) .inr)
  ·exact R.nb j b m
 ·exact(nwA b (o.nw b hb')).elim (fun⟨k,_,hk⟩=> .inl ⟨k,hk⟩) .inr
 ·rcases posmem j b h with ⟨i,e,m⟩|⟨e,m⟩
  ·exact o.dis i b m hv
  ·exact isDisj b (.inr hv) j (kY e) m
def tIO(K:tz0)(U:tz9)(as:List Arg):TA:=fun σ H Q=>∃ps ds,WS K U H σ ps/\bB as ps=some ds/\∀vs H',SameK H H'->ArgsAt K U H' σ ps as vs ds->Q vs H'
def fIO(as:List Arg)(g:tz7):tz8:=fun ps=>(bB as ps).bind fun ds=>(g ds).bind fun r=>if r.2.length=as.length then some (r.1,eK ps as r.2) else none
section
variable{X:Cx}{φ:F0}{U:tz9}{e:Expr}{es:List Expr}{as:List Arg}{f:tz2}{pos p:Pos}
theorem dA:PA X [] (tIO X.K U []):=lE.imp fun σ H Q ⟨ps,ds,w,e,q⟩=>by cases e;exact q [] H (.refl H) .nil
theorem iP(j:Nat){x:Str}(hr:PA X es (tIO X.K U as))(hN:X.N[j]? =some x:=by rfl)(hv:Vis X.env.scope x:=by first|exact Or.inl rfl|exact Or.inr (Or.inl rfl)|exact Or.inr (Or.inr rfl))(hd:(x==("__debug__":Str))=false:=by decide)
  (hcd:(x==("__classdict__":Str))=false:=by decide) (hs:starEach (.Name x pos::es) X.env=(false,eval (.Name x pos) X.env)::starEach es X.env:=by rfl):PA X (.Name x pos::es) (tIO X.K U (.io j::as)):=
 (fG (lS hN hv hd hcd) hr hs).imp fun σ H Q hh_=>by
  obtain⟨ps,ds,w,e,q⟩:=hh_
  obtain⟨d,e1,e2⟩:=bind_some e
  obtain⟨ds',e3,e4⟩:=bind_some e2
  cases e4
  have e0:=join_some e1
  obtain⟨v,fp,h1,h2⟩:=w j d e0
  exact⟨v,h1,ps,ds',w,e3,fun vs H1 s1 a1=>q (v::vs) H1 s1 (.io h1 e0 a1)⟩
theorem bI(ha:QV X U e f)(hr:PA X es (tIO X.K U as))(hs:starEach (e::es) X.env=(false,eval e X.env)::starEach es X.env:=by rfl):PA X (e::es) (tIO X.K U (.im f::as)):=
 (fG ha.p hr hs).imp fun σ H Q hh_=>by
  obtain⟨ps,ds,w,e,q⟩:=hh_
  obtain⟨d,e1,e2⟩:=bind_some e
  obtain⟨ds',e3,e4⟩:=bind_some e2
  cases e4
  refine⟨ps,d,w,e1,fun v H1 fv s1 n1 nd1 r1=>⟨ps,ds',w.same s1,e3,fun vs H2 s2 a2=>q (v::vs) H2 (s1.trans s2) (.im ?_ a2)⟩⟩
  unfold aY at e1
  obtain⟨d1,k1,k2⟩:=bind_some e1
  obtain⟨k3,k4⟩:=cN k2
  cases k4
  have:=r1.imm k3
  subst this
  exact r1.same s2
theorem jZ{x:Str}{st:Stmt}{ps:List Str}{fa:Addr}{fd:FuncData}{k np:Nat}{m:Nat->Bool}{g:tz7}(Dd:Dn X.K X.mg x st ps fa fd)(G:FnOk X.prog X.w X.K X.mg X.base CX0 k fa fd ps (SpE np X.K U m g))(hr:Room k X.A)(hg:Gl X x)(ha:PA X (e::es) (tIO X.K U as))
  (hnp:np=as.length) (hm:m=lY as) (nd:(slots as).Nodup) (hb:∀j∈slots as,φ.bor j=false)
  (hdb:(x==("__debug__":Str))=false:=by decide) (he:starEach (e::es) X.env=(false,eval e X.env)::starEach es X.env:=by rfl) (hpl:(backTo pos (starEach es X.env)).any (·.1)=false:=by rfl):
  QE X U φ (.Call (.Name x p) (e::es) [] pos) (fIO as g):=(zn7 Dd G hr hg ha hdb he hpl).imp fun σ H Q hh_=>by
 obtain⟨ps,F,d,ps',R,e,q⟩:=hh_
 obtain⟨ds,e1,e2⟩:=bind_some e
 obtain⟨⟨r,ds'⟩,e3,e4⟩:=bind_some e2
 obtain⟨hl,e5⟩:=cN e4
 cases e5
 subst hnp hm
 refine⟨ps,ds,R.ws,e1,fun vs H1 s1 a1=> ?_⟩
 show SpE _ X.K U _ g (vs++[]) H1 Q E0
 rw [List.append_nil]
 refine⟨a1.len.1,ds,r,ds',_,a1.len.2,yt3 (R.same s1) nd hb a1,e3,fun v H' F' fv s o rv=> ?_⟩
 obtain⟨F2,s2,o2⟩:=xb2 R s1 nd hb a1 hl s o
 exact q v H' F2 fv s2 o2 rv
end
inductive AreD:List Expr->List D->Prop
 |nil:AreD [] []
 |int {i:Int} {j:Nat} {pos:Pos} {es:List Expr} {ds:List D}:AreD es ds->AreD (.Constant (.int i) j pos::es) (.int i::ds)
 |str {x:Str} {j:Nat} {pos:Pos} {es:List Expr} {ds:List D}:AreD es ds->AreD (.Constant (.str x) j pos::es) (.str x::ds)
def fKs(ds:List D):tz3:=fun _=>some ds
theorem mL{X:Cx}{U:tz9}{es:List Expr}{ds:List D}(h:AreD es ds):QPA X U es (fKs ds):=by
 have key:∃vs,AreC es vs/\∀K U H,Reps K U H vs ds []:=by
  induction h with
  |nil=>exact⟨[],.nil,fun _ _ _=> .nil⟩
  |int _ ih=>obtain⟨vs,h1,h2⟩:=ih;exact⟨_,.int h1,fun K U H=> .cons (f:=[]) (g:=[]) (.int _) (h2 K U H)⟩
  |str _ ih=>obtain⟨vs,h1,h2⟩:=ih;exact⟨_,.str h1,fun K U H=> .cons (f:=[]) (g:=[]) (.str _) (h2 K U H)⟩
 obtain⟨vs,h1,h2⟩:=key
 exact(yl2 h1).imp fun σ H Q ⟨ps,ds',w,e,q⟩=>by cases e;exact q vs H [] (.refl H) (fun _ h=>absurd h (by simp)) List.nodup_nil (h2 _ _ _)
def bF(l:List Bool):Nat->Bool:=fun i=>(l[i]?).getD false
def yq6(as:List Arg):List Bool:=as.map fun a=>match a with
 | .io _=>true
 | .im _=>false
theorem fD:∀{as:List Arg} {l:List Bool},yq6 as=l->bF l=lY as:=by
 intro as l h
 subst h
 funext i
 induction as generalizing i with
 |nil=>cases i<;>rfl
 | cons a as ih=>
  cases i with
  |zero=>cases a<;>rfl
  |succ i=>
   have e:lY (a::as) (i+1)=lY as i:=by cases a<;>rfl
   rw [e,<-ih i]
   simp [bF,yq6]
theorem jL{l:List Bool}{i:Nat}(h:bF l i=true):i<l.length:=by
 unfold bF at h
 cases q:l[i]? with
 |none=>rw [q] at h;cases h
 |some b=>exact(List.getElem?_eq_some_iff.mp q).1
section
variable{P:Program}{w:World}{K:tz0}{mg:tzA}{base:Heap}{U:tz9}
theorem FnOk.noneE{f:Addr}{fd:FuncData}{ps:List Str}{k:Nat}{m:Nat->Bool}:FnOk P w K mg base CX0 k f fd ps (SpE ps.length K U m fun _=>none):=
 ⟨fun vs H Q E h=>h.1,fun A outer s H args us vs Q E _ _ _ _ ⟨_,ds,r,ds',F,_,_,e,_⟩=>by cases e⟩
end
theorem zb5:∀ys:List (Str×Tok),cD (ys.map fun p=>V.str p.1) (ys.map fun p=>Value.str p.1 p.2)
 |[]=> .nil
 |y::ys=> .cons ⟨y.2,rfl⟩ (zb5 ys)
theorem zl5{K:tz0}{U:tz9}{H:Hp}:∀ys:List (Str×Tok),Reps K U H (ys.map fun p=>V.str p.1) (ys.map fun p=>D.str p.1) []
 |[]=> .nil
 |y::ys=> .cons (f:=[]) (g:=[]) (.str _) (zl5 ys)
theorem yt4{K:tz0}{U:tz9}{a:Addr}{ys:List (Str×Tok)}{od:Option Addr}{n:Nat}{sl:Array (Option Value)}(h:K.lookup a=some ⟨.type "tuple",od,.seq (ys.map fun p=>Value.str p.1 p.2).toArray n,sl⟩)(hl:ys.length<=1000)(H:Hp):
  Rep K U H (.ref a) (.tup (ys.map fun p=>D.str p.1)) []:=
 .tup (.inr ⟨_,_,n,h,rfl,rfl,by rw [List.size_toArray,List.length_map];exact zn8 hl,zb5 ys⟩) (zl5 ys)
section
variable{X:Cx}{pins:tzB}{σ:St}{H:Hp}{s:Shared}{a C dx:Addr}{fs:List (Str×V)}{f:Str}{v:V}{A:Around}{E:Value->Shared->Prop}
theorem xi1{P:Program}{w:World}{h:Heap}(hok:HOk P w H h)(e:Rd H a (.ins C dx fs)):∃mA,ObjM h a dx C mA/\(∀f,qE (fs.lookup f) (mA f)):=by
 obtain⟨d,z,ne,ob,mA,n,r,q⟩:=(show fU P w H h a (.ins C dx fs) from e.ok hok)
 exact⟨mA,⟨ob,n,ne⟩,r⟩
theorem ye7{b:Bool}{Q:Value->Shared->Prop}(I:Inv X pins σ H s)(e:Rd H a (.ins C dx fs))(c:Cls X.K C)(n:cW X.K C f)(l:fs.lookup f=some v)
  (h:∀u s',Inv X pins σ H s'->dD v u->Q u s'):wpAny (model X.prog X.w) A (getAttr (.ref a) f b) Q E s:=by
 obtain⟨mA,O,r⟩:=xi1 I.hok e
 obtain⟨u,hu,ru⟩:=qE.some_of (v:=v) (o:=mA f) (by rw [<-l];exact r f)
 exact zy8 I.kIn O (c.get f) c.hd n hu (zk0 ru) (h u _ (I.tok _) ru)
end
def xo6(K:tz0)(ta:TE)(f:Str):TE:=fun σ H Q=>ta σ H fun x H1=>∃a C dx fs v,x= .ref a/\Rd H1 a (.ins C dx fs)/\Cls K C/\cW K C f/\fs.lookup f=some v/\Q v H1
theorem xb3{X:Cx}{e:Expr}{f:Str}{pos:Pos}{ta:TE}(he:PE X e ta)(hb:attributeBase e f X.env (eval e X.env)=eval e X.env):PE X (.Attribute e f pos) (xo6 X.K ta f):=by
 intro pins s σ H Q I h
 refine zy9 hb (thn (he pins s σ H _ I h) fun u s1 ⟨x,H1,I1,rx,a,C,dx,fs,v,ex,ea,c,n,l,q⟩=> ?_)
 subst ex
 obtain rfl:u=Value.ref a:=rx
 exact ye7 I1 ea c n l fun w' s2 I2 rw'=>⟨v,H1,I2,rw',q⟩
def jA(C f:Str):D->Option D
 | .obj _ C' ns vs=>if C'=C then(bW ns f).bind fun n=>vs[n]? else none
 |_=>none
def cZ(C f:Str)(fo:tz2):tz2:=fun ps=>(fo ps).bind (jA C f)
theorem Rep.obj_inv{K:tz0}{U:tz9}{H:Hp}{v:V}{o:Bool}{C:Str}{ns:List Str}{ds:List D}{fp:List Addr}(r:Rep K U H v (.obj o C ns ds) fp):∃a dx fs g,v= .ref a/\Rd H a (.ins (U C) dx fs)/\fs.map (·.1)=ns/\Reps K U H (fs.map (·.2)) ds g/\g.Sublist fp:=by
 cases r with
 |obj h e hs=>exact⟨_,_,_,_,rfl,.inl h,e,hs,List.sublist_cons_self _ _⟩
 |objF h e hs=>exact⟨_,_,_,_,rfl,.inr ⟨_,h⟩,e,hs,.refl _⟩
section
variable{X:Cx}{U:tz9}{o e:Expr}{C fn:Str}{fo:tz2}{pos:Pos}
theorem eJ(hc:Cls X.K (U C))(hna:cW X.K (U C) fn)(ho:QV X U o fo)(hb:attributeBase o fn X.env (eval o X.env)=eval o X.env:=by rfl):QV X U (.Attribute o fn pos) (cZ C fn fo):=
 (xb3 ho hb).imp fun σ H Q hh_=>by
  obtain⟨ps,d,w,e,q⟩:=hh_
  obtain⟨x,e1,e2⟩:=bind_some e
  refine⟨ps,x,w,e1,fun v H1 fp s1 r1=> ?_⟩
  cases x with
  |obj ow C' ns ds=>
   have e2':(if C'=C then(bW ns fn).bind fun n=>ds[n]? else none)=some d:=e2
   by_cases hC:C'=C
   case neg=>rw [if_neg hC] at e2';cases e2'
   rw [if_pos hC] at e2'
   subst hC
   obtain⟨n,e4,e5⟩:=bind_some e2'
   obtain⟨a,dx,fs,g,rfl,h,hk,hs,sub⟩:=r1.obj_inv
   subst hk
   obtain⟨u,f1,k3,k4,_⟩:=hs.get e5
   exact⟨a,U C',dx,fs,u,rfl,h,hc,hna,rD e4 k3,q u H1 f1 s1 k4⟩
  |_=>cases e2
end
theorem zz6:∀{fs:List (Str×V)} {f:Str} {n:Nat} (v:V),bW (fs.map (·.1)) f=some n->(iQ f v fs).map (·.1)=fs.map (·.1)/\(iQ f v fs).map (·.2)=(fs.map (·.2)).set n v
 |[],_,_,_,h=>by cases h
 | (g,x)::r,f,n,v,h=>by
  rw [List.map_cons,bW] at h
  by_cases z:g=f
  ·have z':(g,x).1=f:=z
   rw [if_pos z'] at h;cases h
   rw [iQ,if_pos z];exact⟨rfl,rfl⟩
  ·have z':¬(g,x).1=f:=z
   rw [if_neg z'] at h
   obtain⟨m,h1,h2⟩:=Option.map_eq_some_iff.mp h
   subst h2
   obtain⟨k1,k2⟩:=zz6 v h1
   rw [iQ,if_neg z]
   exact⟨by rw [List.map_cons,List.map_cons,k1],by rw [List.map_cons,List.map_cons,List.set_cons_succ,k2]⟩
theorem zr4:∀{fs:List (Str×V)} {f:Str} (v:V),bW (fs.map (·.1)) f=none->(iQ f v fs).map (·.1)=fs.map (·.1)++[f]/\(iQ f v fs).map (·.2)=fs.map (·.2)++[v]
 |[],_,_,_=>⟨rfl,rfl⟩
 | (g,x)::r,f,v,h=>by
  rw [List.map_cons,bW] at h
  by_cases z:g=f
  ·have z':(g,x).1=f:=z
   rw [if_pos z'] at h;cases h
  ·have z':¬(g,x).1=f:=z
   rw [if_neg z'] at h
   obtain⟨k1,k2⟩:=zr4 v (Option.map_eq_none_iff.mp h)
   rw [iQ,if_neg z]
   exact⟨by rw [List.map_cons,List.map_cons,k1];rfl,by rw [List.map_cons,List.map_cons,k2];rfl⟩
def eU(C f:Str)(y:D):D->Option (Unit×D)
 | .obj true C' ns vs=>if (C'=C/\ns.length<900) then(match bW ns f with
   |some n=>some ((),.obj true C' ns (vs.set n y))
   |none=>some ((),.obj true C' (ns++[f]) (vs++[y]))) else none
 |_=>none
theorem zr5{C f:Str}{y d d':D}{r:Unit}(h:eU C f y d=some (r,d')):∃ns vs,d= .obj true C ns vs/\ns.length<900/\((∃n,bW ns f=some n/\d'= .obj true C ns (vs.set n y))\/(bW ns f=none/\d'= .obj true C (ns++[f]) (vs++[y]))):=by
 unfold eU at h
 split at h
 ·rename_i C' ns vs
  by_cases hh:C'=C/\ns.length<900
  ·rw [if_pos hh] at h
   obtain⟨hC,hl⟩:=hh
   subst hC
   cases q:bW ns f with
   |some n=>rw [q] at h;cases h;exact⟨ns,vs,rfl,hl,.inl ⟨n,q,rfl⟩⟩
   |none=>rw [q] at h;cases h;exact⟨ns,vs,rfl,hl,.inr ⟨q,rfl⟩⟩
  ·rw [if_neg hh] at h;cases h
 ·cases h
def dO(j:Nat)(pf:PSt->Option (List Ps1))(C f:Str)(fe:tz2):tz1:=fun ps=>(fe ps).bind fun y=>((ps[j]?).join).bind fun d0=>(pf ps).bind fun p=>(cB (eU C f y) d0 p).bind fun r=>some (.nx,ps.set j (some r.2))
theorem zr6:∀{ns:List Str} {f:Str} {n:Nat},bW ns f=some n->n<ns.length
 |[],_,_,h=>by cases h
 | m::ns,f,n,h=>by
  rw [bW] at h
  by_cases z:m=f
  ·rw [if_pos z] at h;cases h;simp
  ·rw [if_neg z] at h
   obtain⟨k,h1,h2⟩:=Option.map_eq_some_iff.mp h
   subst h2
   have:=zr6 h1
   simp;omega
section
variable{X:Cx}{U:tz9}{φ:F0}{o e:Expr}{C fn:Str}{j:Nat}{pf:PSt->Option (List Ps1)}{fe:tz2}{pos pos':Pos}
theorem jE(hc:Cls X.K (U C))(hna:cW X.K (U C) fn)(hb:φ.bor j=false)(he:PE X e (tP X.K U fe))(ho:PE X o (gK X.K U j pf))(hs:swapsWith e (some (.Attribute o fn pos')) pos.line X.env=pure false:=by rfl):
  QS X U φ (.Assign [.Attribute o fn pos'] e pos) (dO j pf C fn fe):=
 (xg2 ho he hs).imp fun E σ H hh_=>by
  obtain⟨ps,F,fl,ps',R,e,q⟩:=hh_
  obtain⟨y,e1,e2⟩:=bind_some e
  obtain⟨d0,e3,e4⟩:=bind_some e2
  have e0:=join_some e3
  obtain⟨p,e5,e6⟩:=bind_some e4
  obtain⟨⟨r,d0'⟩,em,e9⟩:=bind_some e6
  cases e9
  obtain⟨dd,dn,gp,hh⟩:=lU em
  refine⟨ps,y,R.ws,e1,fun v H1 fy s1 n1 nd1 ry=>⟨ps,p,d0,dd,R.ws.same s1,e0,e5,gp,fun lv H2 v0 s2 ev a2=> ?_⟩⟩
  have s12:=s1.trans s2
  obtain⟨d1,d1',fd,m1,m2,m3,m4,m5⟩:=rC R s12 hb e0 ev em a2
  obtain⟨ns,vs,rfl,hlen,hd⟩:=zr5 m2
  obtain⟨l,dx,fs,g1,rfl,hl,hn,hr,rfl⟩:=m1.objT_inv
  subst hn
  have ry2:=ry.same s2
  obtain⟨nl,nd3⟩:=List.nodup_cons.mp m3
  have own0:∀a∈l::g1,H a≠none:=fun a ha z=>by obtain⟨o,h,_⟩:=R.own (m4 a ha);rw [z] at h;cases h
  have nl2:l∉fy:=fun z=>own0 l List.mem_cons_self (n1 l z)
  have hl9:fs.length<900:=by rw [List.length_map] at hlen;exact hlen
  refine⟨l,U C,dx,fs,rfl,hl,hc,hna,by omega,?_⟩
  have go:∀(g2:List Addr),(∀a∈g2,a∈fy\/a∈g1)->g2.Nodup->Rep X.K U (upd H2 l (.ins (U C) dx (iQ fn v fs))) (.ref l) d1' (l::g2)->∃F',Stp (φ.fx X.K U) σ H F σ (upd H2 l (.ins (U C) dx (iQ fn v fs))) (ps.set j (some d0')) F':=fun g2 mem2 nd2 rp=>by
   have n2:l∉g2:=fun z=>(mem2 l z).elim nl2 nl
   obtain⟨F',st,ow⟩:=m5 (upd H2 l (.ins (U C) dx (iQ fn v fs))) (l::g2) [] (fun a o h _ hn=>uK h hn) (fun a h=>uL h) rp
    (by rw [List.append_nil,List.nodup_cons];exact⟨n2,nd2⟩)
    (fun a ha=>by
     rw [List.append_nil] at ha
     rcases List.mem_cons.mp ha with z|z
     ·exact .inl (by rw [z];exact List.mem_cons_self)
     ·exact(mem2 a z).elim (fun z=> .inr (n1 a z)) fun z=> .inl (List.mem_cons_of_mem _ z))
   exact⟨F',st⟩
  rcases hd with ⟨n,hx,rfl⟩|⟨hx,rfl⟩
  ·obtain⟨k1,k2⟩:=zz6 v hx
   have hn':=zr6 hx
   obtain⟨f1,rest,g2,p1,p2,p3⟩:=hr.setV (n:=n) (by rw [<-hr.length,List.length_map];rw [List.length_map] at hn';exact hn') ry2
   have mem2:∀a∈g2,a∈fy\/a∈g1:=fun a ha=>(List.mem_append.mp (p3.mem_iff.mp ha)).elim .inl fun z=> .inr (p1.mem_iff.mpr (List.mem_append_right _ z))
   have n2:l∉g2:=fun z=>(mem2 l z).elim nl2 nl
   have nd2:g2.Nodup:=p3.nodup_iff.mpr (List.nodup_append.mpr ⟨nd1,(List.nodup_append.mp (p1.nodup_iff.mp nd3)).2.1,fun a ha b hb e=>by
    subst e
    exact own0 a (List.mem_cons_of_mem _ (p1.mem_iff.mpr (List.mem_append_right _ hb))) (n1 a ha)⟩)
   obtain⟨F',st⟩:=go g2 mem2 nd2 (.obj eM k1 (by rw [k2];exact p2.updL hl rfl n2))
   exact q _ _ F' st
  ·obtain⟨k1,k2⟩:=zr4 v hx
   have mem2:∀a∈g1++fy,a∈fy\/a∈g1:=fun a ha=>(List.mem_append.mp ha).elim .inr .inl
   have n2:l∉g1++fy:=fun z=>(mem2 l z).elim nl2 nl
   have nd2:(g1++fy).Nodup:=List.nodup_append.mpr ⟨nd3,nd1,fun a ha b hb e=>by
    subst e
    exact own0 a (List.mem_cons_of_mem _ ha) (n1 a hb)⟩
   obtain⟨F',st⟩:=go (g1++fy) mem2 nd2 (.obj eM k1 (by rw [k2];exact(Reps.append hr (Reps.one ry2)).updL hl rfl n2))
   exact q _ _ F' st
end
structure Mn(K:tz0)(U:tz9)(C m qual:Str)(st:Stmt)(ps:List Str)(f:Addr)(fd:FuncData):Prop where
 F:Fun K m qual st f fd
 b:mS K fd ps []
 c:Cls K (U C)
 h:Meth K (U C) m f
def fK(C m:Str)(fo:tz2):tz2:=fun ps=>(fo ps).bind fun d=>match d with
 | .obj true C' ns vs=>if (C'=C/\bW ns m=none) then some (.obj true C' ns vs) else none
 |_=>none
theorem zb6{C m:Str}{fo:tz2}{ps:PSt}{d:D}(h:fK C m fo ps=some d):∃ns vs,d= .obj true C ns vs/\fo ps=some d/\bW ns m=none:=by
 obtain⟨x,e1,e2⟩:=bind_some h
 cases x with
 | obj o C' ns vs=>cases o with
  |true=>
   have e2':(if (C'=C/\bW ns m=none) then some (D.obj true C' ns vs) else none)=some d:=e2
   obtain⟨⟨hC,hn⟩,e3⟩:=cN e2'
   subst hC;cases e3
   exact⟨ns,vs,rfl,e1,hn⟩
  |false=>cases e2
 |_=>cases e2
theorem mZ:∀{fs:List (Str×V)} {m:Str},bW (fs.map (·.1)) m=none->fs.lookup m=none
 |[],_,_=>rfl
 | (g,x)::r,m,h=>by
  rw [List.map_cons,bW] at h
  by_cases z:g=m
  ·have z':(g,x).1=m:=z
   rw [if_pos z'] at h;cases h
  ·have z':¬(g,x).1=m:=z
   rw [if_neg z'] at h
   have ih:=mZ (Option.map_eq_none_iff.mp h)
   rw [List.lookup_cons]
   have:(m==g)=false:=by
    rw [beq_eq_false_iff_ne];exact fun e=>z e.symm
   rw [this];exact ih
section
variable{X:Cx}{U:tz9}{o e:Expr}{es:List Expr}{C m qual:Str}{st:Stmt}{ps:List Str}{f:Addr}{fd:FuncData}{k np:Nat}{h:tz6}{fo:tz2}{g:tz3}{apos pos p:Pos}{pl:Sem Bool}
theorem zF(M:Mn X.K U C m qual st ps f fd)(G:FnOk X.prog X.w X.K X.mg X.base CX0 k f fd ps (SpP 1 X.K U h))(hr:Room k X.A)(ho:QV X U o fo)
  (ht:eval (.Call (.Attribute o m apos) [] [] pos) X.env=(do
   let ov<-eval o X.env
   standAt apos.atName
   let (f,first)<-holding [ov] (getMethod ov m pl)
   callWith pos f first (backTo pos (starEach [] X.env)) (backToKw pos (keywordEach [] X.env))):=by rfl):
  QP X U (.Call (.Attribute o m apos) [] [] pos) (aI h (aB (fK C m fo) aD)):=(zp7 ho M.c M.h G hr M.b .nil za7 ht).imp fun σ H Q hh_=>by
 obtain⟨ps,d,w,e,q⟩:=hh_
 obtain⟨ds,e1,e2⟩:=bind_some e
 obtain⟨x,k1,k2⟩:=bind_some e1
 obtain⟨ds',k3,k4⟩:=bind_some k2
 cases k4;cases k3
 obtain⟨ns,vs,rfl,k5,k6⟩:=zb6 k1
 refine⟨ps,_,w,k5,fun v H1 fp s1 r1=> ?_⟩
 have r1':=r1
 obtain⟨_,_,_,_,rfl,hl,hn,hs,rfl⟩:=r1.objT_inv
 subst hn
 exact⟨_,_,_,rfl,hl,mZ k6,rfl,_,_,d,Reps.one r1',e2,q.after s1⟩
end
def lA:Nat->Bool:=fun i=>decide (i=0)
def qO(fd:List Addr):Nat->List Addr:=fun i=>if i=0 then fd else []
theorem kS{fd:List Addr}{i:Nat}{a:Addr}(h:a∈qO fd i):i=0/\a∈fd:=by
 unfold qO at h
 by_cases z:i=0
 ·rw [if_pos z] at h;exact⟨z,h⟩
 ·rw [if_neg z] at h;exact absurd h (by simp)
theorem uN{K:tz0}{U:tz9}{H:Hp}{v:V}{vs:List V}{d:D}{ds:List D}{fd:List Addr}(r:Rep K U H v d fd)(nd:fd.Nodup)(rs:Reps K U H vs ds []):
  RS (fxE K U (ds.length+1) lA) H ((v::vs).map some) ((d::ds).map some) (qO fd):=by
 refine⟨fun i x hx=> ?_,fun i a ha=> ?_,fun i j a h1 h2=> ?_,fun i=> ?_,fun i a _ k z=>z.elim,fun k a z=>z.elim,by simp [rs.length]⟩
 ·cases i with
  |zero=>
   simp at hx;subst hx
   exact⟨v,fd,rfl,r,fun _=>rfl,fun z=>by simp [fxE,lA] at z⟩
  | succ i=>
   rw [List.map_cons,List.getElem?_cons_succ,List.getElem?_map] at hx
   obtain⟨y,hy,e⟩:=Option.map_eq_some_iff.mp hx
   cases e
   obtain⟨u,f1,k1,k2,k3⟩:=rs.get hy
   have ef:f1=[]:=by
    cases f1 with
    |nil=>rfl
    |cons b l=>exact absurd (k3 b List.mem_cons_self) (by simp)
   subst ef
   exact⟨u,[],by rw [List.map_cons,List.getElem?_cons_succ,List.getElem?_map,k1];rfl,k2,(fun _=>by simp [qO]),fun _ a ha=>absurd ha (by simp)⟩
 ·obtain⟨e,h⟩:=kS ha
  subst e
  exact⟨by simp [fxE,lA],d,rfl⟩
 ·rw [(kS h1).1,(kS h2).1]
 ·unfold qO;split
  ·exact nd
  ·exact List.nodup_nil
def sO:List Arg->Bool
 |[]=>true
 | .im _::as=>sO as
 | .io _::_=>false
theorem ArgsAt.reps{K:tz0}{U:tz9}{H:Hp}{σ:St}{ps:PSt}:∀{as:List Arg} {vs:List V} {ds:List D},ArgsAt K U H σ ps as vs ds->sO as=true->Reps K U H vs ds []
 |_,_,_,.nil,_=> .nil
 |_,_,_,.io _ _ _,h=>by cases h
 |_,_,_,.im r a,h=> .cons (f:=[]) (g:=[]) r (ArgsAt.reps a h)
def fE(C m:Str)(g:tz7)(ys:List D)(d:D):Option (D×D):=match d with
 | .obj true C' ns vs=>if (C'=C/\bW ns m=none) then(g (.obj true C' ns vs::ys)).bind fun r=>match r.2 with
   |d'::ds=>if ds.length=ys.length then some (r.1,d') else none
   |[]=>none
  else none
 |_=>none
theorem zb7{C m:Str}{g:tz7}{ys:List D}{d r d':D}(h:fE C m g ys d=some (r,d')):∃ns vs ds,d= .obj true C ns vs/\bW ns m=none/\g (d::ys)=some (r,d'::ds)/\ds.length=ys.length:=by
 unfold fE at h
 split at h
 ·rename_i C' ns vs
  by_cases hc:C'=C/\bW ns m=none
  ·rw [if_pos hc] at h
   obtain⟨hC,hn⟩:=hc
   subst hC
   obtain⟨⟨r1,ds⟩,e1,e2⟩:=bind_some h
   cases ds with
   |nil=>cases e2
   |cons d1 ds=>
    obtain⟨hl,e3⟩:=cN e2
    cases e3
    exact⟨ns,vs,ds,rfl,hn,e1,hl⟩
  ·rw [if_neg hc] at h;cases h
 ·cases h
section
variable{X:Cx}{U:tz9}{φ:F0}{o e:Expr}{es:List Expr}{C m qual:Str}{st:Stmt}{ps:List Str}{f:Addr}{fd:FuncData}{k np j:Nat}{mk:Nat->Bool}{g:tz7}{pf:PSt->Option (List Ps1)}{as:List Arg}{apos pos p:Pos}{pl:Sem Bool}
theorem yt5{σ:St}{H H1:Hp}{Q:VK}{ps:PSt}{F:Nat->List Addr}{d0 d0' r:D}{pp:List Ps1}{v0 v:V}{ys:List D}{us:List V}(R:RS (φ.fx X.K U) H σ ps F)(s1:SameK H H1)(hb:φ.bor j=false)(e0:ps[j]? =some (some d0))(ev:σ[j]? =some (some v0))
  (em:cB (fE C m g ys) d0 pp=some (r,d0')) (at_:At H1 v0 pp v) (ry:Reps X.K U H1 us ys []) (hnp:np=ys.length+1) (hm:mk=lA)
  (q:∀v H' F' fv,Stp (φ.fx X.K U) σ H F σ H' (ps.set j (some d0')) F'->OwnV F H F' fv->Rep X.K U H' v r fv->Q v H'):SpE np X.K U mk g (v::us) H1 Q E0:=by
 subst hnp hm
 obtain⟨d1,d1',fd,m1,m2,m3,m4,m5⟩:=rC R s1 hb e0 ev em at_
 obtain⟨ns,vs,ds,rfl,hn,eg,hl⟩:=zb7 m2
 refine⟨by rw [List.length_cons,ry.length],_,r,d1'::ds,qO fd,by simp,uN m1 m3 ry,eg,fun u H' F' fv s o rv=> ?_⟩
 obtain⟨v2,fp2,k1,k2,k3,_⟩:=s.rs.rep 0 d1' rfl
 have ek:v2=v:=by
  have:(List.map some (v::us))[0]? =some (some v2):=k1
  simp at this;exact this.symm
 subst ek
 have k3':=k3 (by simp [fxE,lA])
 subst k3'
 have old:∀a,((∃i,a∈qO fd i)\/H1 a=none)->a∈fd\/H a=none:=fun a h=>h.elim (fun⟨i,hi⟩=> .inl (kS hi).2) fun z=> .inr (s1.grow a z)
 obtain⟨F2,st2,ow2⟩:=m5 H' (F' 0) fv (fun a o h k hn=>s.fr.keep a o h k fun i hi=>hn (kS hi).2) (fun a h=>s.fr.grow a h) k2
  (List.nodup_append.mpr ⟨s.rs.nd 0,o.nd,fun a ha b hb e=>by subst e;exact o.dis 0 a ha hb⟩)
  (fun a ha=>(List.mem_append.mp ha).elim (fun z=>old a (s.nw 0 a z)) fun z=>old a (o.nw a z))
 exact q u H' F2 fv st2 ow2 rv
theorem yt6{σ:St}{H H1:Hp}{ps:PSt}{F:Nat->List Addr}{d0 d0' r:D}{pp:List Ps1}{v0 v:V}{ys:List D}(R:RS (φ.fx X.K U) H σ ps F)(s1:SameK H H1)(e0:ps[j]? =some (some d0))(ev:σ[j]? =some (some v0))
  (em:cB (fE C m g ys) d0 pp=some (r,d0')) (at_:At H1 v0 pp v):∃a dx fs,v= .ref a/\H1 a=some (.ins (U C) dx fs)/\fs.lookup m=none:=by
 obtain⟨dd,dn,gp,hh⟩:=lU em
 obtain⟨ns,vs,ds,rfl,hn,_⟩:=zb7 hh
 obtain⟨fd,rd⟩:=tL R.ws s1 e0 ev gp at_
 obtain⟨_,_,_,_,rfl,hl,hk,hs,rfl⟩:=rd.objT_inv
 subst hk;exact⟨_,_,_,rfl,hl,mZ hn⟩
theorem kQ(M:Mn X.K U C m qual st ps f fd)(G:FnOk X.prog X.w X.K X.mg X.base CX0 k f fd ps (SpE np X.K U mk g))(hr:Room k X.A)(hb:φ.bor j=false)(ho:PE X o (gK X.K U j pf))(ha:PA X (e::es) (tIO X.K U as))(has:sO as=true)(hnp:np=as.length+1)(hm:mk=lA)
  (hst:starEach (e::es) X.env=(false,eval e X.env)::starEach es X.env:=by rfl) (hpl:(backTo pos (starEach es X.env)).any (·.1)=false:=by rfl)
  (ht:eval (.Call (.Attribute o m apos) (e::es) [] pos) X.env=(do
   let ov<-eval o X.env
   standAt apos.atName
   let (f,first)<-holding [ov] (getMethod ov m pl)
   callWith pos f first (backTo pos (starEach (e::es) X.env)) (backToKw pos (keywordEach [] X.env))):=by rfl):
  QE X U φ (.Call (.Attribute o m apos) (e::es) [] pos) (bG j pf (bB as) (fE C m g)):=(zz0 ho M.c M.h G hr M.b .nil za7 ha hst hpl ht).imp fun σ H Q hh_=>by
 obtain⟨ps,F,d,ps',R,e,q⟩:=hh_
 obtain⟨d0,pp,ys,d0',e0,ep,eg,em,rfl⟩:=sC e
 obtain⟨dd,dn,gp,hh⟩:=lU em
 refine⟨ps,pp,d0,dd,R.ws,e0,ep,gp,fun v H1 v0 s1 ev a1=> ?_⟩
 obtain⟨a,dx,fs,rfl,hl,hn⟩:=yt6 R s1 e0 ev em a1
 refine⟨a,dx,fs,rfl,hl,hn,ps,ys,R.ws.same s1,eg,fun us H2 s2 a2=> ?_⟩
 show SpE np X.K U mk g (_::(us++[])) H2 Q E0
 rw [List.append_nil]
 exact yt5 R (s1.trans s2) hb e0 ev em (a1.same s2) (a2.reps has) (by rw [hnp,a2.len.2]) hm q
end
structure Kn(K:tz0)(mg:tzA)(U:tz9)(C qual:Str)(st:Stmt)(ps:List Str)(f:Addr)(fd:FuncData):Prop where
 F:Fun K "__init__" qual st f fd
 b:mS K fd ps []
 M:Mk K (U C) f
 m:mg C=some (.ref (U C))
def eL(C:Str)(ga:tz3)(g:tz7):tz2:=fun ps=>(ga ps).bind fun ys=>(g (.obj true C [] []::ys)).bind fun r=>match r with
 |(.non,d'::_)=>some d'
 |_=>none
theorem ye8{C:Str}{ga:tz3}{g:tz7}{ps:PSt}{d:D}(h:eL C ga g ps=some d):∃ys ds,ga ps=some ys/\g (.obj true C [] []::ys)=some (.non,d::ds):=by
 obtain⟨ys,e1,e2⟩:=bind_some h
 obtain⟨⟨r,ds⟩,e3,e4⟩:=bind_some e2
 cases r with
 |non=>cases ds with
  |nil=>cases e4
  |cons d1 ds=>cases e4;exact⟨ys,ds,e1,e3⟩
 |_=>cases e4
section
variable{X:Cx}{U:tz9}{e:Expr}{es:List Expr}{C qual:Str}{st:Stmt}{ps:List Str}{f:Addr}{fd:FuncData}{k np:Nat}{mk:Nat->Bool}{g:tz7}{as:List Arg}{pos p:Pos}
theorem xb4{H H1:Hp}{Q:VK}{d:D}{ys ds:List D}{us:List V}{x dx:Addr}(s1:SameK H H1)(hx:H1 x=none)(hdx:H1 dx=none)(hne:dx≠x)(ry:Reps X.K U H1 us ys [])(hnp:np=ys.length+1)(hm:mk=lA)(eg:g (.obj true C [] []::ys)=some (.non,d::ds))(q:lK X.K U H d Q):
  SpE np X.K U mk g (.ref x::us) (upd (upd H1 dx (.own x)) x (.ins (U C) dx [])) (fun v H2=>v= .non/\Q (.ref x) H2) E0:=by
 subst hnp hm
 have ne:∀a o,H1 a=some o->a≠x/\a≠dx:=fun a o h=>⟨fun z=>(by rw [z,hx] at h;cases h),fun z=>(by rw [z,hdx] at h;cases h)⟩
 have up:∀a o,H1 a=some o->upd (upd H1 dx (.own x)) x (.ins (U C) dx []) a=some o:=fun a o h=>by rw [dC (ne a o h).1,dC (ne a o h).2];exact h
 have gr:∀a,upd (upd H1 dx (.own x)) x (.ins (U C) dx []) a=none->H1 a=none:=fun a h=>by
  by_cases z:a=x
  ·rw [z];exact hx
  ·rw [dC z] at h
   by_cases z2:a=dx
   ·rw [z2];exact hdx
   ·rwa [dC z2] at h
 have s2:SameK H1 (upd (upd H1 dx (.own x)) x (.ins (U C) dx [])):=⟨fun a o h _=>up a o h,gr⟩
 have r0:Rep X.K U (upd (upd H1 dx (.own x)) x (.ins (U C) dx [])) (.ref x) (.obj true C [] []) [x]:= .obj (fs:=[]) eM rfl .nil
 have ry2:Reps X.K U (upd (upd H1 dx (.own x)) x (.ins (U C) dx [])) us ys []:=ry.move (fun a o h _=>up a o h) fun a ha=>absurd ha (by simp)
 refine⟨by rw [List.length_cons,ry.length],_,.non,d::ds,qO [x],by simp,uN r0 (by simp) ry2,eg,fun u H' F' fv s o rv=>⟨by cases rv;rfl,?_⟩⟩
 obtain⟨v2,fp2,k1,k2,k3,_⟩:=s.rs.rep 0 d rfl
 have ek:v2= .ref x:=by
  have:(List.map some (V.ref x::us))[0]? =some (some v2):=k1
  simp at this;exact this.symm
 subst ek
 have k3':=k3 (by simp [fxE,lA])
 subst k3'
 refine q (.ref x) H' (F' 0) ⟨fun a o h hk=> ?_,fun a h=>s1.grow a (gr a (s.fr.grow a h))⟩ (fun a ha=> ?_) (s.rs.nd 0) k2
 ·have h1:=s1.keep a o h hk
  refine s.fr.keep a o (up a o h1) hk fun i hi=> ?_
  have:=(kS hi).2
  simp at this
  exact(ne a o h1).1 this
 ·rcases s.nw 0 a ha with ⟨i,hi⟩|z
  ·have:=(kS hi).2
   simp at this
   subst this
   exact s1.grow a hx
  ·exact s1.grow a (gr a z)
theorem oZ(Kd:Kn X.K X.mg U C qual st ps f fd)(G:FnOk X.prog X.w X.K X.mg X.base CX0 k f fd ps (SpE np X.K U mk g))(hr:Room (k+1) X.A)(hg:Gl X C)(ha:PA X (e::es) (tIO X.K U as))(has:sO as=true)(hnp:np=as.length+1)(hm:mk=lA)
  (hdb:(C==("__debug__":Str))=false:=by decide) (he:starEach (e::es) X.env=(false,eval e X.env)::starEach es X.env:=by rfl) (hpl:(backTo pos (starEach es X.env)).any (·.1)=false:=by rfl):
  QP X U (.Call (.Name C p) (e::es) [] pos) (eL C (bB as) g):=(xa1 Kd.M G hr hg Kd.m Kd.b .nil za7 ha hdb he hpl).imp fun σ H Q hh_=>by
 obtain⟨ps,d,w,e,q⟩:=hh_
 obtain⟨ys,ds,e1,e2⟩:=ye8 e
 refine⟨ps,ys,w,e1,fun us H1 s1 a1 x dx hx hdx hne=> ?_⟩
 show SpE np X.K U mk g (_::(us++[])) _ _ E0
 rw [List.append_nil]
 exact xb4 s1 hx hdx hne (a1.reps has) (by rw [hnp,a1.len.2]) hm e2 q
end
section
variable{X:Cx}{U:tz9}
theorem yl9:MtR X "str.startswith" (fun x xs H Q=>∃z y,x= .str z/\xs=[.str y]/\Q (.bl (Txt.startswith z y)) H):=by
 intro pins s σ H x xs v us Q I rx r h
 obtain⟨z,y,rfl,rfl,q⟩:=h
 obtain⟨t,rfl⟩:=rx
 obtain⟨u,rfl,t',rfl⟩:=oB r
 exact SC.startswith ⟨.bl _,H,I.tok _,rfl,q⟩
def nB:D->tz6
 | .str z,[.str y]=>some (.bl (Txt.startswith z y))
 |_,_=>none
theorem rE:MtR X "str.startswith" (PMt X.K U nB):=by
 rintro pins s σ H x vs v us Q I rx r ⟨dx,ds,fx,fp,d,r1,rs,e,q⟩
 unfold nB at e
 split at e
 ·cases e
  obtain⟨w,rfl,r2⟩:=rs.one_inv
  exact yl9 pins s σ H x _ v us Q I rx r ⟨_,_,r1.is_str,by rw [r2.is_str],q.now (.bl _)⟩
 ·cases e
end
theorem dX(n:Nat):bF (true::List.replicate n false)=lA:=by
 funext i
 unfold bF lA
 cases i with
 |zero=>rfl
 |succ i=>
  rw [List.getElem?_cons_succ,List.getElem?_replicate]
  split<;>simp
def kap:List (Str×Addr)->tz9
 |[],_=>mainGlobals
 |(x,a)::r,y=>if x=y then a else kap r y
section
variable{X:Cx}{pins:tzB}{σ:St}{H:Hp}{s:Shared}{a C dx:Addr}{fs:List (Str×V)}
theorem Inv.freeze(I:Inv X pins σ H s)(h:H a=some (.ins C dx fs)):Inv X pins σ (upd H a (.frz (PySem.W.instObj C dx) (.ins C dx fs))) s:=by
 have ne:∀b,H b=none->b≠a:=fun b hb z=>by rw [z,h] at hb;cases hb
 have nt:∀b o,H b=some o->(∀C' dx' fs',o≠ .ins C' dx' fs')->b≠a:=fun b o hb ho z=>by
  rw [z,h] at hb
  cases hb
  exact ho _ _ _ rfl
 refine⟨I.ok,I.os,I.bare,⟨I.base.keep,I.base.slot,fun b o h1 h2 h3=> ?_,I.base.there,fun b xs h1=> ?_,fun b o u h1=> ?_,fun b ps h1=> ?_⟩,I.loc,I.cell,?_,fun x c e=> ?_,fun p hp=> ?_,fun b o e=> ?_,I.len⟩
 ·have:=I.base.free b o h1 h2 h3
  rw [dC (ne b this)];exact this
 ·have:=I.base.tups b xs h1
  rw [dC (nt b _ this fun _ _ _ z=>by cases z)];exact this
 ·have:=I.base.frzs b o u h1
  rw [dC (nt b _ this fun _ _ _ z=>by cases z)];exact this
 ·obtain⟨more,this⟩:=I.base.tbls b ps h1
  exact⟨more,by rw [dC (nt b _ this fun _ _ _ z=>by cases z)];exact this⟩
 ·rw [dC (ne _ I.free)];exact I.free
 ·have:=I.freeC x c e
  rw [dC (ne _ this)];exact this
 ·obtain⟨p1,p2,p3⟩:=I.pin p hp
  exact⟨p1,by rw [dC (ne _ p2)];exact p2,p3⟩
 ·have st:∀{b o},fU X.prog X.w H s.heap b o->fU X.prog X.w (upd H a (.frz (PySem.W.instObj C dx) (.ins C dx fs))) s.heap b o:=fun x=>
   x.stay (fun _ _ _ q=>q) (fun b' hb=>by rw [dC (nt b' _ hb fun _ _ _ z=>by cases z)];exact hb) fun b' xs hb=>by rw [dC (nt b' _ hb fun _ _ _ z=>by cases z)];exact hb
  by_cases z:b=a
  ·subst z
   rw [eM] at e
   cases e
   have x:=I.hok b _ h
   obtain⟨_,_,_,ob,_⟩:=(show fU X.prog X.w H s.heap b (.ins C dx fs) from x)
   exact⟨ob,st x⟩
  ·rw [dC z] at e
   exact st (I.hok b o e)
end
theorem PE.frz{X:Cx}{e:Expr}{t:TE}(h:PE X e t):PE X e (fun σ H Q=>t σ H fun x H'=>∃a C dx fs,x= .ref a/\H' a=some (.ins C dx fs)/\Q x (upd H' a (.frz (PySem.W.instObj C dx) (.ins C dx fs)))):=by
 intro pins s σ H Q I q
 exact thn (h pins s σ H _ I q) fun v s1 ⟨x,H1,I1,rx,a,C,dx,fs,ex,ea,q1⟩=>⟨x,_,I1.freeze ea,rx,q1⟩
def pI(f:tz2):tz2:=fun ps=>(f ps).bind fun d=>match d with
 | .obj true C ns vs=>if D.imms vs=true then some (.obj false C ns vs) else none
 |_=>none
theorem wJ{X:Cx}{U:tz9}{e:Expr}{f:tz2}(h:QP X U e f):QP X U e (pI f):=
 (PE.frz h).imp fun σ H Q hh_=>by
  obtain⟨ps,d,w,e,q⟩:=hh_
  obtain⟨d0,e1,e2⟩:=bind_some e
  refine⟨ps,d0,w,e1,fun v H1 fv s1 n1 nd1 r1=> ?_⟩
  cases d0 with
  | obj o C ns vs=>cases o with
   | true=>
    have e2':(if D.imms vs=true then some (D.obj false C ns vs) else none)=some d:=e2
    obtain⟨hi,e3⟩:=cN e2'
    cases e3
    obtain⟨l,dx,fs,g,rfl,hl,hn,hs,rfl⟩:=r1.objT_inv
    have eg:=hs.imm hi
    subst eg
    have hln:=n1 l List.mem_cons_self
    have up:∀b o,H b=some o->b≠l:=fun b o hb z=>by rw [z,hln] at hb;cases hb
    refine⟨l,U C,dx,fs,rfl,hl,q (.ref l) _ [] ⟨fun b o hb hk=> ?_,fun b hb=> ?_⟩ (fun _ h=>absurd h (by simp)) List.nodup_nil (.objF eM hn (hs.move (fun b o hb ht=> ?_) fun _ h=>absurd h (by simp)))⟩
    ·rw [dC (up b o hb)];exact s1.keep b o hb hk
    ·by_cases z:b=l
     ·rw [z,eM] at hb;cases hb
     ·rw [dC z] at hb;exact s1.grow b hb
    ·by_cases z:b=l
     ·rw [z,hl] at hb;cases hb;cases ht
     ·rw [dC z];exact hb
   |false=>cases e2
  |_=>cases e2
section
variable{X:Cx}{U:tz9}
theorem yt7:MtR X "str.rfind" (fun x xs H Q=>∃z y,x= .str z/\xs=[.str y]/\Q (.int (Txt.rfind z y)) H):=by
 intro pins s σ H x xs v us Q I rx r h
 obtain⟨z,y,rfl,rfl,q⟩:=h
 obtain⟨t,rfl⟩:=rx
 obtain⟨u,rfl,t',rfl⟩:=oB r
 exact SC.rfind ⟨.int _,H,I.tok _,⟨_,rfl⟩,q⟩
def wZ:D->tz6
 | .str z,[.str y]=>some (.int (Txt.rfind z y))
 |_,_=>none
theorem zh8:MtR X "str.rfind" (PMt X.K U wZ):=by
 rintro pins s σ H x vs v us Q I rx r ⟨dx,ds,fx,fp,d,r1,rs,e,q⟩
 unfold wZ at e
 split at e
 ·cases e
  obtain⟨w,rfl,r2⟩:=rs.one_inv
  exact yt7 pins s σ H x _ v us Q I rx r ⟨_,_,r1.is_str,by rw [r2.is_str],q.now (.int _)⟩
 ·cases e
end
def nF(f:PSt->Option (Bool×PSt)):PSt->Option (Bool×PSt):=fun ps=>(f ps).bind fun r=>some (!r.1,r.2)
def fTE(f:tz8):PSt->Option (Bool×PSt):=fun ps=>(f ps).bind fun r=>(cP r.1).bind fun b=>some (b,r.2)
def fE2(g:D->D->Option D)(fa:tz8)(fb:tz2):tz8:=fun ps=>(fa ps).bind fun r=>(fb r.2).bind fun y=>(g r.1 y).bind fun d=>some (d,r.2)
section
variable{X:Cx}{U:tz9}{φ:F0}{a b:Expr}{pos:Pos}
theorem tM{f:PSt->Option (Bool×PSt)}(h:QTE X U φ a f):QTE X U φ (.UnaryOp .Not a pos) (nF f):=(zZ h).imp fun σ H Q hh_=>by
 obtain⟨ps,F,c,ps',R,e,q⟩:=hh_
 obtain⟨⟨c1,p1⟩,e1,e2⟩:=bind_some e
 cases e2
 exact⟨ps,F,c1,p1,R,e1,fun H' F' s=>q H' F' s⟩
theorem qT{f:tz8}(h:QE X U φ a f)(he:∀whole,isTrue a X.env whole=(do let v<-whole;standAt a.pos;holding [v] (truthy v)):=by intro _;rfl):QTE X U φ a (fTE f):=(zp6 h he).imp fun σ H Q hh_=>by
 obtain⟨ps,F,c,ps',R,e,q⟩:=hh_
 obtain⟨⟨d,p1⟩,e1,e2⟩:=bind_some e
 obtain⟨c1,e3,e4⟩:=bind_some e2
 cases e4
 exact⟨ps,F,d,p1,R,e1,fun v H' F' fv s o r=>⟨_,zz2 r e3,q H' F' s⟩⟩
theorem zb8{op:CmpOp}{g:D->D->Option D}{fa:tz8}{fb:tz2}(ho:OpR X (compareOp op) (POp X.K U g))(ha:QE X U φ a fa)(hb:QV X U b fb)(hm:behindInMarks op b=false):QE X U φ (.Compare a [op] [b] pos) (fE2 g fa fb):=
 (zy6 ho ha hb hm).imp fun σ H Q hh_=>by
  obtain⟨ps,F,d,ps',R,e,q⟩:=hh_
  obtain⟨⟨dx,p1⟩,e1,e2⟩:=bind_some e
  obtain⟨y,e3,e4⟩:=bind_some e2
  obtain⟨d1,e5,e6⟩:=bind_some e4
  cases e6
  refine⟨ps,F,dx,p1,R,e1,fun v H1 F1 fv s1 o1 r1=>⟨p1,y,s1.rs.ws,e3,fun u H2 fu s2 r2=>⟨dx,y,_,fv,fu,r1.same s2,r2,e5,fun w H3 fw s3 n3 nd3 r3=> ?_⟩⟩⟩
  exact q w H3 F1 fw (s1.trans (.same s1.rs (s2.trans s3))) (OwnV.after s1 (OwnV.new s1.rs (fun a ha=>s2.grow a (n3 a ha)) nd3)) r3
end
theorem Reps.cons_inv{K:tz0}{U:tz9}{H:Hp}{vs:List V}{d:D}{ds:List D}{fp:List Addr}(r:Reps K U H vs (d::ds) fp):∃v vs' f g,vs=v::vs'/\Rep K U H v d f/\Reps K U H vs' ds g/\fp=f++g:=by
 cases r with
 |cons h hs=>exact⟨_,_,_,_,rfl,h,hs,rfl⟩
theorem Reps.nil_inv{K:tz0}{U:tz9}{H:Hp}{vs:List V}{fp:List Addr}(r:Reps K U H vs [] fp):vs=[]/\fp=[]:=by
 cases r with
 |nil=>exact⟨rfl,rfl⟩
section
variable{X:Cx}{U:tz9}{φ:F0}{a b o e:Expr}{es rest:List Expr}{pos apos p:Pos}{j:Nat}{pf:PSt->Option (List Ps1)}
def vI:List D->D->Option (D×D)
 |[.int 0],.lst true (y::ys)=>some (y,.lst true ys)
 |_,_=>none
theorem zb9{ys:List D}{d r d':D}(h:vI ys d=some (r,d')):∃xs,ys=[.int 0]/\d= .lst true (r::xs)/\d'= .lst true xs:=by
 unfold vI at h
 split at h
 ·cases h;exact⟨_,rfl,rfl,rfl⟩
 ·cases h
theorem xT{g:tz3}(hb:φ.bor j=false)(ho:PE X o (gK X.K U j pf))(ha:PA X [e] (tVA X.K U g))
  (hbase:attributeBase o "pop" X.env (eval o X.env)=eval o X.env:=by rfl)
  (hfew:((backTo pos (starEach [e] X.env)).all (fun x=> !x.1)&&(backToKw pos (keywordEach [] X.env)).all (fun x=>x.1.isSome)
   &&decide ([e].length+([]:List Keyword).length+(if ([]:List Keyword).isEmpty then 0 else 1)<30))=true:=by rfl)
  (hline:(apos.endLine==pos.line)=true:=by rfl) (hs:starEach [e] X.env=(false,eval e X.env)::starEach [] X.env:=by rfl) (hplain:(backTo pos (starEach [] X.env)).any (·.1)=false:=by rfl):
  QE X U φ (.Call (.Attribute o "pop" apos) [e] [] pos) (bG j pf g vI):=
 (yd8 PySem.F.plainAttrs_list PySem.F.slot_list_pop PySem.F.type_list_pop ys1 ho ha hbase hfew hline hs hplain).imp fun σ H Q hh_=>by
  obtain⟨ps,F,d,ps',R,e,q⟩:=hh_
  obtain⟨d0,p,ys,d0',e0,ep,eg,em,rfl⟩:=sC e
  obtain⟨dd,dn,gp,hh⟩:=lU em
  refine⟨ps,p,d0,dd,R.ws,e0,ep,gp,fun v H1 v0 s1 ev a1=>⟨?_,ps,ys,R.ws.same s1,eg,fun vs H2 fy s2 r2=> ?_⟩⟩
  ·obtain⟨xs,_,rfl,_⟩:=zb9 hh
   obtain⟨fd,rd⟩:=tL R.ws s1 e0 ev gp a1
   obtain⟨_,_,_,rfl,hl,hr,rfl⟩:=rd.lstT_inv
   exact .inl ⟨rfl,_,.inl (.inl hl)⟩
  ·obtain⟨d1,d1',fd,m1,m2,m3,m4,m5⟩:=rC R (s1.trans s2) hb e0 ev em (a1.same s2)
   obtain⟨xs,rfl,rfl,rfl⟩:=zb9 m2
   obtain⟨u0,rfl,ru0⟩:=r2.one_inv
   obtain⟨l,us,g1,rfl,hl,hr,rfl⟩:=m1.lstT_inv
   obtain⟨u,us',f2,g2,rfl,k2,k3,rfl⟩:=hr.cons_inv
   obtain⟨nl,nd3⟩:=List.nodup_cons.mp m3
   have n1:l∉g2:=fun z=>nl (List.mem_append_right _ z)
   have n2:l∉f2:=fun z=>nl (List.mem_append_left _ z)
   refine⟨l,u::us',0,0,u,rfl,by rw [ru0.is_int],hl,by decide,by decide,?_,rfl,?_⟩
   ·simp [seqIndex?]
   obtain⟨F',st,ow⟩:=m5 (upd H2 l (.lst us')) (l::g2) f2 (fun a o h _ hn=>uK h hn)
    (fun a h=>uL h)
    (.lst eM (k3.updL hl rfl n1)) (by
     rw [List.cons_append,List.nodup_cons]
     exact⟨fun z=>nl (List.mem_append.mpr ((List.mem_append.mp z).symm)),(List.perm_append_comm.nodup_iff).mp nd3⟩) (fun a ha=> .inl (by
     rcases List.mem_append.mp ha with z|z
     ·rcases List.mem_cons.mp z with z|z
      ·exact z▸List.mem_cons_self
      ·exact List.mem_cons_of_mem _ (List.mem_append_right _ z)
     ·exact List.mem_cons_of_mem _ (List.mem_append_left _ z)))
   exact q u _ F' f2 st ow (k2.updL hl rfl n2)
def vJ(np:Nat):Nat->Bool:=fun i=>decide (i+1=np)
theorem ye9(n:Nat):bF (List.replicate n false++[true])=vJ (n+1):=by
 funext i
 unfold bF vJ
 by_cases h:i<n
 ·rw [List.getElem?_append_left (by simpa using h),List.getElem?_replicate,if_pos h]
  simp;omega
 ·by_cases h2:i=n
  ·subst h2;simp
  ·rw [List.getElem?_eq_none (by simp;omega)]
   simp;omega
theorem Reps.lastOnly{K:tz0}{H:Hp}:∀{ds:List D} {vs:List V} {fp:List Addr},Reps K U H vs ds fp->D.imms ds.dropLast=true->∀{i:Nat} {d:D},ds[i]? =some d->∃v,vs[i]? =some v/\Rep K U H v d (if i+1=ds.length then fp else [])
 |[],_,_,_,_,i,d,h=>by simp at h
 | d1::ds,vs,fp,r,hi,i,d,h=>by
  obtain⟨v,vs',f,g,rfl,h1,h2,rfl⟩:=r.cons_inv
  cases ds with
  |nil=>
   obtain⟨rfl,rfl⟩:=h2.nil_inv
   cases i with
   |zero=>simp at h;subst h;exact⟨v,rfl,by simpa using h1⟩
   |succ i=>simp at h
  | cons d2 ds=>
   have hi':(d1.imm&&D.imms (d2::ds).dropLast)=true:=hi
   obtain⟨i1,i2⟩:=Bool.and_eq_true_iff.mp hi'
   have:=h1.imm i1
   subst this
   cases i with
   |zero=>simp at h;subst h;exact⟨v,rfl,by simpa using h1⟩
   |succ i=>
    obtain⟨w,k1,k2⟩:=Reps.lastOnly h2 i2 (i:=i) (d:=d) (by simpa using h)
    refine⟨w,by simpa using k1,?_⟩
    simpa using k2
def xA(h:tz7)(g:tz3):tz2:=fun ps=>(g ps).bind fun ds=>if D.imms ds.dropLast=true then(h ds).bind fun r=>some r.1 else none
theorem zr7{x:Str}{st:Stmt}{ps:List Str}{fa:Addr}{fd:FuncData}{k np:Nat}{m:Nat->Bool}{h:tz7}{g:tz3}(Dd:Dn X.K X.mg x st ps fa fd)(G:FnOk X.prog X.w X.K X.mg X.base CX0 k fa fd ps (SpE np X.K U m h))(hr:Room k X.A)(hg:Gl X x)(hm:m=vJ np)(hnp:(e::es).length=np)(ha:QPA X U (e::es) g)
  (hlen:∀ps ds,g ps=some ds->ds.length=(e::es).length)
  (hdb:(x==("__debug__":Str))=false:=by decide) (he:starEach (e::es) X.env=(false,eval e X.env)::starEach es X.env:=by rfl) (hpl:(backTo pos (starEach es X.env)).any (·.1)=false:=by rfl):
  QP X U (.Call (.Name x p) (e::es) [] pos) (xA h g):=(zn7 Dd G hr hg ha hdb he hpl).imp fun σ H Q hh_=>by
 obtain⟨ps,d,w,e,q⟩:=hh_
 obtain⟨ds,e1,e2⟩:=bind_some e
 obtain⟨hi,e3⟩:=cN e2
 obtain⟨⟨r,ds'⟩,e4,e5⟩:=bind_some e3
 cases e5
 subst hm
 have ln:ds.length=np:=by rw [hlen ps ds e1,hnp]
 refine⟨ps,ds,w,e1,fun vs H1 fp s1 n1 nd1 r1=> ?_⟩
 show SpE np X.K U (vJ np) h (vs++[]) H1 Q E0
 rw [List.append_nil]
 have mem:∀{i:Nat} {a:Addr},a∈(if i+1=np then fp else [])->i+1=np/\a∈fp:=fun {i a} ha=>by
  by_cases z:i+1=np
  ·rw [if_pos z] at ha;exact⟨z,ha⟩
  ·rw [if_neg z] at ha;exact absurd ha (by simp)
 have hbor:∀{i:Nat},i+1=np->(fxE X.K U np (vJ np)).bor i=false:=fun {i} z=>by simp [fxE,vJ,z]
 refine⟨by rw [r1.length,ln],ds,r,ds',fun i=>if i+1=np then fp else [],ln,⟨fun i d h=> ?_,fun i a ha=> ?_,fun i j a h1 h2=>by have:=(mem h1).1;have:=(mem h2).1;omega,fun i=> ?_,fun i a _ k z=>z.elim,fun k a z=>z.elim,by simp [r1.length]⟩,e4,fun v H' F' fv s o rv=> ?_⟩
 ·rw [List.getElem?_map] at h
  cases q:ds[i]? with
  |none=>rw [q] at h;cases h
  |some d1=>
   rw [q] at h;cases h
   obtain⟨v,k1,k2⟩:=r1.lastOnly hi q
   rw [ln] at k2
   refine⟨v,_,by rw [List.getElem?_map,k1];rfl,k2,fun _=>rfl,fun z=>fun a ha=> ?_⟩
   rw [hbor (mem ha).1] at z
   cases z
 ·obtain⟨z,_⟩:=mem ha
  refine⟨hbor z,ds[i]'(by omega),?_⟩
  rw [List.getElem?_map,List.getElem?_eq_getElem];rfl
 ·show(if i+1=np then fp else []).Nodup
  split
  ·exact nd1
  ·exact List.nodup_nil
 ·refine q v H' fv ⟨fun a o h k=>s.fr.keep a o (s1.keep a o h k) k fun i hi=> ?_,fun a h=>s1.grow a (s.fr.grow a h)⟩ (fun a ha=> ?_) o.nd rv
  ·rw [n1 a (mem hi).2] at h;cases h
  ·rcases o.nw a ha with ⟨i,hi⟩|z
   ·exact n1 a (mem hi).2
   ·exact s1.grow a z
end
section
variable{X:Cx}{U:tz9}
theorem yt8:MtR X "str.ljust" (fun x xs H Q=>∃z i,x= .str z/\xs=[.int i]/\PadOk i=true/\Q (.str (Txt.ljust z i)) H):=by
 intro pins s σ H x xs v us Q I rx r h
 obtain⟨z,i,rfl,rfl,hp,q⟩:=h
 obtain⟨t,rfl⟩:=rx
 obtain⟨u,rfl,t',rfl⟩:=oB r
 exact SC.ljust hp fun t' k=>⟨.str _,H,I.tok k,⟨_,rfl⟩,q⟩
def pX:D->tz6
 | .str z,[.int i]=>if PadOk i=true then some (.str (Txt.ljust z i)) else none
 |_,_=>none
theorem zh9:MtR X "str.ljust" (PMt X.K U pX):=by
 rintro pins s σ H x vs v us Q I rx r ⟨dx,ds,fx,fp,d,r1,rs,e,q⟩
 unfold pX at e
 split at e
 ·obtain⟨hp,e⟩:=cN e
  cases e
  obtain⟨w,rfl,r2⟩:=rs.one_inv
  exact yt8 pins s σ H x _ v us Q I rx r ⟨_,_,r1.is_str,by rw [r2.is_int],hp,q.now (.str _)⟩
 ·cases e
end
theorem fU.get{P:Program}{w:World}{H:Hp}{h:Heap}{a:Addr}{o:HO}(x:fU P w H h a o):∃u,h.get? a=some u:=by
 cases o with
 |lst xs=>obtain⟨_,_,_,_,e⟩:=x;exact⟨_,e⟩
 |tup xs=>obtain⟨_,_,_,_,e,_⟩:=x;exact⟨_,e⟩
 |dK kvs=>obtain⟨_,_,_,_,o,_,_,e,_⟩:=x;exact⟨_,e⟩
 |dT kvs=>obtain⟨_,_,_,_,o,_,_,e,_⟩:=x;exact⟨_,e⟩
 |set S n=>obtain⟨o,_,_,_,e,_⟩:=x;exact⟨_,e⟩
 |ins C dx fs=>obtain⟨_,_,_,e,_⟩:=x;exact⟨_,e⟩
 |own y=>exact x
 |xd fs=>obtain⟨_,⟨_,_,_,e,_⟩,_⟩:=x;exact⟨_,e⟩
 |rng lo hi=>obtain⟨_,_,_,e⟩:=x;exact⟨_,e⟩
 |frz ob u=>obtain⟨e,_⟩:=x;exact⟨_,e⟩
 |tbl ps=>exact⟨_,(show h.get? a=some _ from x)⟩
 |met f y=>exact⟨_,(show h.get? a=some _ from x)⟩
 |ext φ=>obtain⟨_,e,_⟩:=x;exact e
theorem HOk.none_of{P:Program}{w:World}{H:Hp}{h:Heap}(x:HOk P w H h){a:Addr}(e:h.get? a=none):H a=none:=by
 cases q:H a with
 |none=>rfl
 |some o=>obtain⟨u,z⟩:=(x a o q).get;rw [e] at z;cases z
theorem HOk.but{P:Program}{w:World}{H:Hp}{h h':Heap}(x:HOk P w H h)(k:∀b o u,H b=some o->h.get? b=some u->h'.get? b=some u):HOk P w H h':=fun a o e=>
 (x a o e).stay (fun b u hb q=>by
  rcases hb with rfl|hb
  ·exact k _ _ _ e q
  ·exact k _ _ _ hb q) (fun _ q=>q) fun _ _ q=>q
theorem zl6{h:Heap}{as:List Addr}{b:Addr}(e:(PySem.W.hideAll h as).get? b=none):b∈as\/h.get? b=none:=by
 cases q:h.get? b with
 |none=>exact .inr rfl
 |some o=>
  by_cases m:b∈as
  ·exact .inl m
  ·rw [PySem.W.hideAll_get as q m] at e;cases e
theorem zz7{l:List Env}{env:Env}{a:Addr}(h:env∈l)(e:env.frame=some a):a∈frs l:=List.mem_filterMap.mpr ⟨env,h,e⟩
structure Fly(base:Heap)(C:Addr)(l:List Env)(H:Hp)(h0:Heap)(e T:Addr)(a0:Value)(h:Heap):Prop where
 ne:h0.get? e=none
 nT:h0.get? T=none
 He:H e=none
 HT:H T=none
 st:base.StaysIn h
 be:base.get? e=none
 bT:base.get? T=none
 fr:h.FunFrames base l
 tr:∃oe vs oT ts,h.get? e=some oe/\(oe.cls= .ref C/\vs[0]? =some a0)/\oe.data= .fields vs/\vs[1]? =some (.ref T)/\T≠e/\h.get? T=some oT/\oT.data= .fields ts/\ts[3]? =some .none
abbrev yx7(h:Heap)(l:List Env)(e T:Addr):Heap:=PySem.W.hideAll h (e::T::frs l)
section
variable{base h0 h:Heap}{C e T:Addr}{l:List Env}{H:Hp}{a0:Value}
theorem Fly.flying(x:Fly base C l H h0 e T a0 h):Heap.FlyingW (yx7 h l e T) l e (.ref C) a0 h:=by
 obtain⟨oe,vs,oT,ts,h1,h2,h3,h4,h5,h6,h7,h8⟩:=x.tr
 refine⟨fun b o q=>PySem.W.of_hideAll _ q,PySem.W.hideAll_none _ List.mem_cons_self,PySem.W.funFrames_hide x.fr fun env m a q=>List.mem_cons_of_mem _ (List.mem_cons_of_mem _ (zz7 m q)),?_⟩
 exact⟨oe,vs,T,oT,ts,h1,h2,h3,h4,PySem.W.hideAll_none _ (List.mem_cons_of_mem _ List.mem_cons_self),h5,h6,h7,h8⟩
theorem Fly.base_in(x:Fly base C l H h0 e T a0 h):base.StaysIn (yx7 h l e T):=fun b o q=>by
 refine PySem.W.hideAll_get _ (x.st b o q) fun m=> ?_
 rcases List.mem_cons.mp m with z|m
 ·rw [z,x.be] at q;cases q
 ·rcases List.mem_cons.mp m with z|m
  ·rw [z,x.bT] at q;cases q
  ·rw [(x.fr.mem m).1] at q;cases q
theorem Fly.next{P:Program}{w:World}(x:Fly base C l H h0 e T a0 h)(ok:HOk P w H h)(th:∀b o,h0.get? b=some o->∃o',h.get? b=some o'){h':Heap}{l':List Env}(ups:h.UpToSlots h')(f:Heap.FlyingW (yx7 h l e T) l' e (.ref C) a0 h'):∃T',Fly base C l' H h0 e T' a0 h':=by
 obtain⟨k1,k2,k3,oe,vs,T',oT,ts,h1,h2,h3,h4,h5,h6,h7,h8,h9⟩:=f
 have hT:T'=T\/h.get? T'=none:=by
  rcases zl6 h5 with m|m
  ·rcases List.mem_cons.mp m with z|m
   ·exact absurd z h6
   ·rcases List.mem_cons.mp m with z|m
    ·exact .inl z
    ·obtain⟨_,o,q1,q2⟩:=x.fr.mem m
     obtain⟨sl,q3⟩:=ups T' o q1 q2
     rw [h7] at q3;cases q3
     exact absurd h8 (q2 _)
  ·exact .inr m
 refine⟨T',x.ne,?_,x.He,?_,fun b o q=>k1 b o (x.base_in b o q),x.be,?_,PySem.W.funFrames_base x.base_in k3,oe,vs,oT,ts,h1,h2,h3,h4,h6,h7,h8,h9⟩
 ·rcases hT with z|z
  ·rw [z];exact x.nT
  ·cases q:h0.get? T' with
   |none=>rfl
   |some o=>obtain⟨o',q'⟩:=th _ _ q;rw [z] at q';cases q'
 ·rcases hT with z|z
  ·rw [z];exact x.HT
  ·exact ok.none_of z
 ·cases q:base.get? T' with
  |none=>rfl
  |some o=>have:=x.base_in T' o q;rw [h5] at this;cases this
end
theorem zi0{base h h':Heap}{H:Hp}{S:List Addr}{l:List Env}(fr:h.FunFrames base l)(ups:h.UpToSlots h')(st:(PySem.W.hideAll h (S++frs l)).StaysIn h'):Un (frs l) S H H h h':=by
 have kp:∀b o,h.get? b=some o->b∉frs l->b∉S->h'.get? b=some o:=fun b o q n1 n2=>st b o (PySem.W.hideAll_get _ q fun m=>(List.mem_append.mp m).elim n2 n1)
 have sl:∀b o,h.get? b=some o->b∈frs l->∃s,h'.get? b=some {o with slots:=s}:=fun b o q m=>by
  obtain⟨_,o',q1,q2⟩:=fr.mem m
  rw [q] at q1;cases q1
  exact ups b o q q2
 refine⟨fun b o q _ hb hx=>kp b o q hb hx,fun b o q _ hb _=>sl b o q hb,fun _ _ _ n _=>n,fun b o q hx=> ?_,fun _ _ q=>q,fun _ _ _ q=>q,fun _ ps q=>⟨#[],by rw [q];simp⟩⟩
 by_cases hb:b∈frs l
 ·obtain⟨s,e⟩:=sl b o q hb;exact⟨_,e⟩
 ·exact⟨o,kp b o q hb hx⟩
theorem zi1{fs fs' ex':List Addr}{H H':Hp}{h h':Heap}(u:Un fs' ex' H H' h h')(hx:∀b o,h.get? b=some o->b∉ex')(hf:∀b o,h.get? b=some o->b∈fs'->b∈fs):Un fs [] H H' h h':=
 ⟨fun b o q n hb _=>u.keep b o q n (fun z=>hb (hf b o q z)) (hx b o q),fun b o q n _ _=>u.any q n (hx b o q),fun b o q n _=>u.free b o q n (hx b o q),fun b o q _=>u.there b o q (hx b o q),u.tups,u.frzs,u.tbls⟩
theorem zG{P:Program}{w:World}{h h':Heap}{H:Hp}{S:List Addr}{l:List Env}(ok:HOk P w H h)(hS:∀b∈S,H b=none)(hF:∀b∈frs l,H b=none)(st:(PySem.W.hideAll h (S++frs l)).StaysIn h'):HOk P w H h':=
 ok.but fun b o u e q=>st b u (PySem.W.hideAll_get _ q fun m=>by
  rcases List.mem_append.mp m with m|m
  ·rw [hS b m] at e;cases e
  ·rw [hF b m] at e;cases e)
def CXn(P:Program)(w:World)(base:Heap)(C:Addr):CXT:=fun outer H s E e s'=>∃ea T a0 H',e= .ref ea/\s'.os=s.os/\AllBare s'.gens/\Un (frs outer) [] H H' s.heap s'.heap/\HOk P w H' s'.heap/\Fly base C outer H' s.heap ea T a0 s'.heap/\E (.ref C) none H'
theorem Fly.down{base h0 h1 h:Heap}{C e T:Addr}{l:List Env}{H:Hp}{a0:Value}(x:Fly base C l H h1 e T a0 h)(th:∀b o,h0.get? b=some o->∃o',h1.get? b=some o'):Fly base C l H h0 e T a0 h:=by
 have none:∀{b:Addr},h1.get? b=none->h0.get? b=none:=fun {b} z=>by
  cases q:h0.get? b with
  |none=>rfl
  |some o=>obtain⟨o',q'⟩:=th _ _ q;rw [z] at q';cases q'
 exact⟨none x.ne,none x.nT,x.He,x.HT,x.st,x.be,x.bT,x.fr,x.tr⟩
section
variable{P:Program}{w:World}{K:tz0}{mg:tzA}{base:Heap}{N:List Str}{qual:Str}{scope:Scope}{f C:Addr}{cd:Value}{A:Around}{outer:List Env}{s:Shared}{H:Hp}{E:XK}
theorem xU:frs (envOfC qual scope s.heap.objs.size f cd::outer)=s.heap.objs.size::frs outer:=rfl
theorem yy2:oP (CXn P w base C) (eT (CXn P w base C) P w K mg base N qual scope f cd A outer s H E) E:=by
 intro pins σ H1 s1 e s2 I h
 obtain⟨ea,T,a0,H2,rfl,os,bare,un,hok,fly,q⟩:=h
 have stk:∀b∈frs (envOfC qual scope s.heap.objs.size f cd::outer),H2 b=none:=fun b m=>by
  obtain⟨_,o,q1,_⟩:=(show s1.heap.FunFrames base (envOfC qual scope s.heap.objs.size f cd::outer) from I.stack).mem m
  exact un.free b o q1 (I.stkFree b m) (by simp)
 have th1:∀b o,s1.heap.get? b=some o->∃o',s2.heap.get? b=some o':=fun b o q=>un.there b o q (by simp)
 have th0:∀b o,s.heap.get? b=some o->∃o',s1.heap.get? b=some o':=fun b o q=>I.base.there b o q (by show b∉([]:List Addr);simp)
 show wpAny (model P w) (A.deeper (envOfC qual scope s.heap.objs.size f cd)) (leaving (envOfC qual scope s.heap.objs.size f cd) (.ref ea)) (fun _ s''=>CXn P w base C outer H s E (.ref ea) s'') (fun e' s''=>CXn P w base C outer H s E e' s'') s2
 refine wpAny_leaves_onW (L:=s.heap.objs.size) I.ok.frames rfl fly.flying fun h' fl ups=> ?_
 obtain⟨T',fly'⟩:=fly.next hok th1 ups fl
 have st:(PySem.W.hideAll s2.heap ([ea,T]++frs (envOfC qual scope s.heap.objs.size f cd::outer))).StaysIn h':=fl.1
 have u1:Un (frs (envOfC qual scope s.heap.objs.size f cd::outer)) [ea,T] H H1 s.heap s1.heap:=(show Un (frs outer) [] H H1 s.heap s1.heap from I.base).mono (fun b m=>by rw [xU];exact List.mem_cons_of_mem _ m) (fun b m=>absurd m (by simp))
 have u2:=un.mono (fs':=frs (envOfC qual scope s.heap.objs.size f cd::outer)) (ex':=[ea,T]) (fun b m=>m) (fun b m=>absurd m (by simp))
 have u3:Un (frs (envOfC qual scope s.heap.objs.size f cd::outer)) [ea,T] H2 H2 s2.heap h':=zi0 fly.fr ups st
 refine⟨ea,T',a0,H2,rfl,os.trans (show s1.os=s.os from I.os),bare,zi1 ((u1.trans u2).trans u3) (fun b o q m=> ?_) (fun b o q m=> ?_),zG hok (fun b m=> ?_) stk st,fly'.down th0,q⟩
 ·obtain⟨o',q'⟩:=th0 b o q
  rcases List.mem_cons.mp m with z|m
  ·rw [z,fly.ne] at q';cases q'
  ·rw [List.mem_singleton.mp m,fly.nT] at q';cases q'
 ·rw [xU] at m
  rcases List.mem_cons.mp m with z|m
  ·exact absurd (Heap.lt_size q) (by rw [z];exact Nat.lt_irrefl _)
  ·exact m
 ·rcases List.mem_cons.mp m with z|m
  ·rw [z];exact fly.He
  ·rw [List.mem_singleton.mp m];exact fly.HT
theorem zl7{pins:tzB}{σ:St}{H1:Hp}{s1:Shared}{h':Heap}{e:Addr}{vs:List Value}(I:Inv (eT (CXn P w base C) P w K mg base N qual scope f cd A outer s H E) pins σ H1 s1)(mk:Heap.MadeExcOf s1.heap h' e (.ref C) vs)(q:E (.ref C) none H1):
  (eT (CXn P w base C) P w K mg base N qual scope f cd A outer s H E).xe (.ref e) {s1 with heap:=h'}:=by
 obtain⟨t,he,ht,_⟩:=mk.there
 have fr0:s1.heap.FunFrames base (envOfC qual scope s.heap.objs.size f cd::outer):=I.stack
 have fr1:h'.FunFrames base (envOfC qual scope s.heap.objs.size f cd::outer):=fr0.of_keeps fun b o q _=>⟨o,mk.keeps b o q,rfl⟩
 have nf:∀b∈frs (envOfC qual scope s.heap.objs.size f cd::outer),base.get? b=none:=fun b m=>(fr0.mem m).1
 have th0:∀b o,s.heap.get? b=some o->∃o',s1.heap.get? b=some o':=fun b o q=>I.base.there b o q (by show b∉([]:List Addr);simp)
 have bin:base.StaysIn (PySem.W.hideAll h' ([e]++frs (envOfC qual scope s.heap.objs.size f cd::outer))):=fun b o q=>by
  have q1:=I.bk b o q
  refine PySem.W.hideAll_get _ (mk.keeps b o q1) fun m=> ?_
  rcases List.mem_append.mp m with m|m
  ·rw [List.mem_singleton.mp m,mk.new] at q1;cases q1
  ·rw [nf b m] at q;cases q
 show wpAny (model P w) (A.deeper (envOfC qual scope s.heap.objs.size f cd)) (leaving (envOfC qual scope s.heap.objs.size f cd) (.ref e)) (fun _ s''=>CXn P w base C outer H s E (.ref e) s'') (fun e' s''=>CXn P w base C outer H s E e' s'') {s1 with heap:=h'}
 refine wpAny_leaving_firstW (base:=PySem.W.hideAll h' ([e]++frs (envOfC qual scope s.heap.objs.size f cd::outer))) (L:=s.heap.objs.size) (a0:= .ref t) I.ok.frames (PySem.W.funFrames_hide fr1 fun env m a q=>List.mem_append_right _ (zz7 m q)) rfl he (fun b o q=>PySem.W.of_hideAll _ q) (PySem.W.hideAll_none _ (List.mem_append_left _ (List.mem_singleton_self e))) rfl rfl rfl fun h'' hL=> ?_
 obtain⟨st,fr2,⟨oe,vs2,T,oT,ts,h1,h2,h3,h4,h5,h6,h7,h8,h9⟩,ups⟩:=hL
 have hT:h'.get? T=none:=by
  rcases zl6 h5 with m|m
  ·rcases List.mem_append.mp m with m|m
   ·exact absurd (List.mem_singleton.mp m) h6
   ·obtain⟨_,o,q1,q2⟩:=fr1.mem m
    obtain⟨sl,q3⟩:=ups T o q1 q2
    rw [h7] at q3;cases q3
    exact absurd h8 (q2 _)
  ·exact m
 have hT1:s1.heap.get? T=none:=by
  cases z:s1.heap.get? T with
  |none=>rfl
  |some o=>have:=mk.keeps T o z;rw [hT] at this;cases this
 have u1:Un (frs (envOfC qual scope s.heap.objs.size f cd::outer)) [e] H H1 s.heap s1.heap:=(show Un (frs outer) [] H H1 s.heap s1.heap from I.base).mono (fun b m=>by rw [xU];exact List.mem_cons_of_mem _ m) (fun b m=>absurd m (by simp))
 have u2:Un (frs (envOfC qual scope s.heap.objs.size f cd::outer)) [e] H1 H1 s1.heap h':=Un.kept mk.keeps
 have u3:Un (frs (envOfC qual scope s.heap.objs.size f cd::outer)) [e] H1 H1 h' h'':=zi0 fr1 ups st
 have He:H1 e=none:=I.hok.none_of mk.new
 have fly:Fly base C outer H1 s1.heap e T (.ref t) h'':=by
  refine⟨mk.new,hT1,He,I.hok.none_of hT1,fun b o q=>st b o (bin b o q),?_,?_,PySem.W.funFrames_base bin fr2.2.2,oe,vs2,oT,ts,h1,h2,h3,h4,h6,h7,h8,h9⟩
  ·cases z:base.get? e with
   |none=>rfl
   |some o=>have:=I.bk e o z;rw [mk.new] at this;cases this
  ·cases z:base.get? T with
   |none=>rfl
   |some o=>have:=I.bk T o z;rw [hT1] at this;cases this
 refine⟨e,T,.ref t,H1,rfl,(show s1.os=s.os from I.os),I.bare,zi1 ((u1.trans u2).trans u3) (fun b o q m=> ?_) (fun b o q m=> ?_),zG (I.hok.kept mk.keeps) (fun b m=> ?_) I.stkFree st,fly.down th0,q⟩
 ·obtain⟨o',q'⟩:=th0 b o q
  rw [List.mem_singleton.mp m,mk.new] at q';cases q'
 ·rw [xU] at m
  rcases List.mem_cons.mp m with z|m
  ·exact absurd (Heap.lt_size q) (by rw [z];exact Nat.lt_irrefl _)
  ·exact m
 ·rw [List.mem_singleton.mp m];exact He
theorem ym0{x z:Str}{np cpos pos p1:Pos}{j:Nat}{B newId initId:String}{bmB:List Value}(O:OwnCls x C bmB newId mg base)(FB:ExcBaseFacts B newId initId bmB)(hg:Gl (eT (CXn P w base C) P w K mg base N qual scope f cd A outer s H E) x)
  (hd:(x==("__debug__":Str))=false:=by decide) (hs:starEach [.Constant (.str z) j p1] (envOfC qual scope s.heap.objs.size f cd)=[(false,eval (.Constant (.str z) j p1) (envOfC qual scope s.heap.objs.size f cd))]:=by rfl):
  PS (eT (CXn P w base C) P w K mg base N qual scope f cd A outer s H E) (.Raise (some (.Call (.Name x np) [.Constant (.str z) j p1] [] cpos)) none pos) (fun _ _ H'=>E (.ref C) none H'):=by
 intro pins s1 σ H1 D I h
 obtain⟨tl,N',nm,q,bs,hdct,sn,sub,ab,col,dd,k0,k1,k2,k3,k5,mN,hC,hN,hni,T⟩:=O.obj
 refine wpAny_Raise_call_subT (C:=C) (nm:=nm) (q:=q) (N:=N') (bs:=bs) (bm:=tl) (hdct:=hdct) (sn:=sn) (sub:=sub) (ab:=ab) (col:=col) (dd:=dd) (k0:=k0) (k1:=k1) (k2:=k2) (k3:=k3) (k5:=k5)
  FB (mN:=mN) (T.hasType FB.hasBase) (I.ok.hd rfl) (by show(backTo cpos (starEach [.Constant (.str z) j p1] (envOfC qual scope s.heap.objs.size f cd))).any (·.1)=false;rw [hs];rfl) hni (oW I hg O.bound ⟨rfl,?_⟩ hd)
 show wpAny (model P w) (A.deeper (envOfC qual scope s.heap.objs.size f cd)) (evalArgs (.ref C) true (backTo cpos (starEach [.Constant (.str z) j p1] (envOfC qual scope s.heap.objs.size f cd))) []) _ _ s1
 rw [hs]
 refine Calls.evalArgs_plain (Calls.spliced_cons (Calls.Constant_str (k:=j) (pos:=p1) (Calls.spliced_nil ?_)))
 have kp:∀b o,base.get? b=some o->s1.heap.get? b=some o:=I.bk
 refine⟨rfl,(show 1<=sizeLine from Nat.le_trans (by decide) (pV (n:=1) (by decide))),kp _ _ hC,hN.keeps kp,T.keeps kp,fun h' e mk=> ?_⟩
 exact zl7 (I.tok (s1.toks+1)) mk h
end
def tX(φ:Fx)(fx:tz5)(Ex:Hp->Prop):TS:=fun _ σ H=>∃ps F,RS φ H σ ps F/\fx ps=true/\∀H',Frm F H H'->Ex H'
def sW(np:Nat)(K:tz0)(U:tz9)(C:Addr)(g:List D->Bool):Sp:=fun vs H _ E=>vs.length=np/\∃ds fp,Reps K U H vs ds fp/\g ds=true/\∀H',SameK H H'->E (.ref C) none H'
def gX(np n:Nat)(fx:tz5):List D->Bool:=fun ds=>decide (ds.length=np)&&fx (ds.map some++List.replicate n none)
def jU(f:tz1)(fx:tz5):tz5:=fun ps=>match f ps with
 |some (.nx,p)=>fx p
 |_=>false
def sX(ft:tz4)(fx:tz5):tz5:=fun ps=>match ft ps with
 |some true=>fx ps
 |_=>false
def zf2:tz5:=fun _=>true
def yH(C m:Str)(fo:tz2)(g:List D->Bool):tz5:=fun ps=>match fK C m fo ps with
 |some d=>g [d]
 |none=>false
abbrev QX(X:Cx)(U:tz9)(φ:F0)(Ex:Hp->Prop)(st:Stmt)(fx:tz5):Prop:=PS X st (tX (φ.fx X.K U) fx Ex)
abbrev QXs(X:Cx)(U:tz9)(φ:F0)(Ex:Hp->Prop)(st:List Stmt)(fx:tz5):Prop:=PSs X st (tX (φ.fx X.K U) fx Ex)
theorem PS.nox{X:Cx}{st:Stmt}{t:TS}(h:PS X.nox st t):PS X st t:=fun pins s σ H D I hw=>
 wpAny_mono (h pins s σ H D (I.wish _) hw) (fun _ _ q=>q.unwish) fun _ _ z=>False.elim z
theorem ym1{H H':Hp}(k:Frm (fun _=>[]) H H'):SameK H H':=⟨fun a o h kk=>k.keep a o h kk (fun _=>by simp),k.grow⟩
section
variable{P:Program}{w:World}{K:tz0}{mg:tzA}{base:Heap}{U:tz9}{C:Addr}
theorem sE{x qual:Str}{st:Stmt}{f:Addr}{fd:FuncData}{N ps:List Str}{k:Nat}{fx:tz5}(F:Fun K x qual st f fd)(S:FnScope N ps (aQ st))
  (hbody:∀(cdv:Value) (A:Around) (outer:List Env) (s:Shared) (H:Hp) (E:XK) (B:Nat->Addr->Prop),Room k (A.deeper (envOfC qual (aQ st) s.heap.objs.size f cdv))->
   QXs (eT (CXn P w base C) P w K mg base N qual (aQ st) f cdv A outer s H E) U (f0P ps.length B) (E (.ref C) none) (cC st) fx):
  FnOk P w K mg base (CXn P w base C) (k+1) f fd ps (sW ps.length K U C (gX ps.length (N.length-ps.length) fx)):=by
 obtain⟨oc,od,kV,doc,pm,an,cdv,ct,osl,rfl,lk,hcd⟩:=F.ex
 refine yd4 lk hcd S (fun vs H Q E h=>h.1) fun A outer s H vs Q E hr hsp=> ?_
 obtain⟨hl,ds,fp,r,e,q⟩:=hsp
 have hn:ps.length<=N.length:=by have:=congrArg List.length S.pre;rw [List.length_take] at this;omega
 refine⟨_,hbody cdv A outer s H E (fun _ a=>a∈fp) hr,_,fun _=>[],RS.start r hl hn,?_,fun H' fr=>q H' (ym1 fr)⟩
 unfold gX at e
 exact(Bool.and_eq_true_iff.mp e).2
end
section
variable{X:Cx}{U:tz9}{φ:F0}{Ex:Hp->Prop}{fx:tz5}{st:Stmt}{rest:List Stmt}{pos:Pos}
theorem wK:PSs X rest (fun _ _ _=>False):=fun _ _ _ _ _ _ h=>h.elim
theorem mM{f:tz1}(h1:QS X.nox U φ st f)(h2:QXs X U φ Ex rest fx):QXs X U φ Ex (st::rest) (jU f fx):=
 (kF (PS.nox h1) h2).imp fun D σ H hh_=>by
  obtain⟨ps,F,R,e,q⟩:=hh_
  unfold jU at e
  split at e
  ·rename_i p he
   refine⟨ps,F,.nx,p,R,he,fun σ' H' F' s=>⟨p,F',s.rs,e,fun H'' fr=>q H'' ⟨fun a o h k n=>fr.keep a o (s.fr.keep a o h k n) k fun i m=> ?_,fun a z=>s.fr.grow a (fr.grow a z)⟩⟩⟩
   rcases s.nw i a m with ⟨j,z⟩|z
   ·exact n j z
   ·rw [z] at h;cases h
  ·cases e
theorem gI(h1:QX X U φ Ex st fx):QXs X U φ Ex (st::rest) fx:=(kF h1 wK).imp fun D σ H h=>h
theorem uO{c:Expr}{a b:List Stmt}{ft:tz4}(hc:QT X.nox U c ft)(ha:QXs X U φ Ex a fx):QX X U φ Ex (.If c a b pos) (sX ft fx):=
 (za0 (PT.nox hc) ha wK).imp fun D σ H hh_=>by
  obtain⟨ps,F,R,e,q⟩:=hh_
  unfold sX at e
  split at e
  ·rename_i he
   refine⟨ps,true,R.ws,he,fun H' s=> ?_⟩
   show(if true=true then tX (φ.fx X.K U) fx Ex D σ H' else _)
   rw [if_pos rfl]
   exact⟨ps,F,R.same s,e,fun H'' fr=>q H'' ⟨fun a o h k n=>fr.keep a o (s.keep a o h k) k n,fun a z=>s.grow a (fr.grow a z)⟩⟩
  ·cases e
end
section
variable{P:Program}{w:World}{K:tz0}{mg:tzA}{base:Heap}{N:List Str}{qual:Str}{scope:Scope}{f C:Addr}{cd:Value}{A:Around}{outer:List Env}{s:Shared}{H:Hp}{E:XK}{U:tz9}{φ:F0}
theorem rF{x z:Str}{np cpos pos p1:Pos}{j:Nat}{B newId initId:String}{bmB:List Value}(O:OwnCls x C bmB newId mg base)(FB:ExcBaseFacts B newId initId bmB)(hg:Gl (eT (CXn P w base C) P w K mg base N qual scope f cd A outer s H E) x)
  (hd:(x==("__debug__":Str))=false:=by decide) (hs:starEach [.Constant (.str z) j p1] (envOfC qual scope s.heap.objs.size f cd)=[(false,eval (.Constant (.str z) j p1) (envOfC qual scope s.heap.objs.size f cd))]:=by rfl):
  QX (eT (CXn P w base C) P w K mg base N qual scope f cd A outer s H E) U φ (E (.ref C) none) (.Raise (some (.Call (.Name x np) [.Constant (.str z) j p1] [] cpos)) none pos) zf2:=
 (ym0 O FB hg hd hs).imp fun D σ H' hh_=>by
  obtain⟨ps,F,R,e,q⟩:=hh_
  exact q H' ⟨fun a o h _ _=>h,fun a h=>h⟩
theorem zi2{Cn m qual':Str}{st:Stmt}{ps:List Str}{fm:Addr}{fd:FuncData}{k:Nat}{g:List D->Bool}{o:Expr}{fo:tz2}{apos pos pos':Pos}{pl:Sem Bool}(M:Mn K U Cn m qual' st ps fm fd)(G:FnOk P w K mg base (CXn P w base C) k fm fd ps (sW 1 K U C g))
  (hr:Room k (A.deeper (envOfC qual scope s.heap.objs.size f cd))) (ho:QV (eT (CXn P w base C) P w K mg base N qual scope f cd A outer s H E).nox U o fo)
  (ht:eval (.Call (.Attribute o m apos) [] [] pos) (envOfC qual scope s.heap.objs.size f cd)=(do
   let ov<-eval o (envOfC qual scope s.heap.objs.size f cd)
   standAt apos.atName
   let (f',first)<-holding [ov] (getMethod ov m pl)
   callWith pos f' first (backTo pos (starEach [] (envOfC qual scope s.heap.objs.size f cd))) (backToKw pos (keywordEach [] (envOfC qual scope s.heap.objs.size f cd)))):=by rfl):
  QX (eT (CXn P w base C) P w K mg base N qual scope f cd A outer s H E) U φ (E (.ref C) none) (.Return (some (.Call (.Attribute o m apos) [] [] pos)) pos') (yH Cn m fo g):=
 (qW (zp7 (X:=eT (CXn P w base C) P w K mg base N qual scope f cd A outer s H E) (PE.nox ho) M.c M.h G hr M.b .nil yy2 ht)).imp fun D σ H1 hh_=>by
  obtain⟨ps,F,R,e,q⟩:=hh_
  unfold yH at e
  split at e
  ·rename_i d he
   obtain⟨ns,vs,rfl,k5,k6⟩:=zb6 he
   refine⟨ps,_,R.ws,k5,fun v H2 fp s1 r1=> ?_⟩
   have r1':=r1
   obtain⟨_,_,_,_,rfl,hl,hn,hs,rfl⟩:=r1.objT_inv
   subst hn
   exact⟨_,_,_,rfl,hl,mZ k6,rfl,_,_,Reps.one r1',e,fun H' s2=>q H' ⟨fun a o h kk _=>(s1.trans s2).keep a o h kk,(s1.trans s2).grow⟩⟩
  ·cases e
end
theorem PA.nox{X:Cx}{es:List Expr}{t:TA}(h:PA X.nox es t):PA X es t:=fun pos pins s σ H Q I hw=>
 wpAny_mono (h pos pins s σ H Q (I.wish _) hw) (fun _ _ q=>by obtain⟨vs,H',I',r,q⟩:=q;exact⟨vs,H',I'.unwish,r,q⟩) fun _ _ z=>False.elim z
def zv6(g:List D->Bool)(fa:tz3):tz1:=fun ps=>(fa ps).bind fun ds=>if g ds=true then some (.ret (.bl true),ps) else none
abbrev bmV:List Value:=[.type "ValueError",.type "Exception",.type "BaseException",.type "object"]
theorem zz8{K:tz0}{h:Heap}{C:Addr}{bm:List Value}{nid:String}(X:K.In h)(q:PySem.W.excIn K C bm nid=true):
  ∃bm' N nm qn bs hd sn sub ab col dd k0 k1 k2 k3 k5 mN,h.get? C=some (excClassObj nm qn C N bs bm' hd sn sub ab col dd k0 k1 k2 k3 k5 nid)/\h.Ns N mN/\mN "__init__"=none/\OwnTail h bm bm':=by
 unfold PySem.W.excIn at q
 split at q
 case h_2=>cases q
 rename_i dd c sl look
 split at q
 case h_2=>cases q
 rename_i C1 bm1 a0 a1 a2 a3 n1 a5 em es
 rw [Bool.and_eq_true,Bool.and_eq_true,Bool.and_eq_true,Bool.and_eq_true,Bool.and_eq_true] at q
 obtain⟨⟨⟨⟨⟨q1,q2⟩,q3⟩,q4⟩,q5⟩,q6⟩:=q
 have z1:=eq_of_beq q1
 have z2:=eq_of_beq q2
 have z6:=eq_of_beq q6
 subst z1 z2
 cases c with
 | mk nm bs mro ns qn hd sn sub ab col del=>
  dsimp only at em q3 q5 z6
  have z3:del=false:=by cases del<;>first|rfl|cases q3
  subst em z3
  have zs:sl= #[a0,a1,a2,a3,some (.builtin n1),a5]:=by
   cases sl
   dsimp only at es
   rw [es]
  subst zs
  exact⟨bm1,ns,nm,qn,bs,hd,sn,sub,ab,col,dd,a0,a1,a2,a3,a5,_,X _ _ look,.of_isNs (PySem.W.isNs_of_in X q5),PySem.W.nsMap_none_of_in X q5 z6,PySem.W.tail_of_in X q4⟩
def tXe(φ:Fx)(fx:tz5)(Ex:Hp->Prop):TE:=fun σ H _=>∃ps F,RS φ H σ ps F/\fx ps=true/\∀H',Frm F H H'->Ex H'
def mX(np:Nat)(K:tz0)(U:tz9)(m:Nat->Bool)(C:Addr)(g:List D->Bool):Sp:=fun vs H _ E=>vs.length=np/\∃ds F,ds.length=np/\RS (fxE K U np m) H (vs.map some) (ds.map some) F/\g ds=true/\∀H',Frm F H H'->E (.ref C) none H'
abbrev QXe(X:Cx)(U:tz9)(φ:F0)(Ex:Hp->Prop)(e:Expr)(fx:tz5):Prop:=PE X e (tXe (φ.fx X.K U) fx Ex)
def lH(C m:Str)(g:List D->Bool)(ys:List D):D->Bool:=fun d=>match d with
 | .obj true C' ns vs=>decide (C'=C/\bW ns m=none)&&g (.obj true C' ns vs::ys)
 |_=>false
def vK(h:List D->D->Bool)(ys:List D):D->Option (Unit×D):=fun d=>if h ys d=true then some ((),d) else none
def mU(j:Nat)(pf:PSt->Option (List Ps1))(ga:tz3)(h:List D->D->Bool):tz5:=fun ps=>match (ps[j]?).join with
 | some d0=>match pf ps with
  |some p=>match ga ps with
   |some ys=>(cB (vK h ys) d0 p).isSome
   |none=>false
  |none=>false
 |none=>false
def qP(ft:tz4)(fa fb:tz5):tz5:=fun ps=>match ft ps with
 |some true=>fa ps
 |some false=>fb ps
 |none=>false
def sY(f g:tz5):tz5:=fun ps=>f ps||g ps
def jO(i:Nat)(f:tz1)(fx:tz5):List D->tz5
 |[],_=>false
 | d::ds,ps=>fx (ps.set i (some d))||(match f (ps.set i (some d)) with
   |some (.nx,p)=>jO i f fx ds p
   |some (.ct,p)=>jO i f fx ds p
   |_=>false)
def zo7(i:Nat)(fi:tz3)(f:tz1)(fx:tz5):tz5:=fun ps=>match fi ps with
 |some ds=>jO i f fx ds ps
 |none=>false
theorem yV{C m:Str}{g:List D->Bool}{ys:List D}{d d':D}{r:Unit}(h:vK (lH C m g) ys d=some (r,d')):∃ns vs,d= .obj true C ns vs/\bW ns m=none/\g (d::ys)=true:=by
 obtain⟨h1,_⟩:=cN h
 unfold lH at h1
 split at h1
 ·obtain⟨h2,h3⟩:=Bool.and_eq_true_iff.mp h1
  obtain⟨rfl,h4⟩:=of_decide_eq_true h2
  exact⟨_,_,rfl,h4,h3⟩
 ·cases h1
theorem yf0{j:Nat}{pf:PSt->Option (List Ps1)}{ga:tz3}{h:List D->D->Bool}{ps:PSt}(e:mU j pf ga h ps=true):∃d0 p ys r,ps[j]? =some (some d0)/\pf ps=some p/\ga ps=some ys/\cB (vK h ys) d0 p=some r:=by
 unfold mU at e
 split at e
 ·rename_i d0 h0
  split at e
  ·rename_i p hp
   split at e
   ·rename_i ys hy
    obtain⟨r,hr⟩:=Option.isSome_iff_exists.mp e
    exact⟨d0,p,ys,r,join_some h0,hp,hy,hr⟩
   ·cases e
  ·cases e
 ·cases e
theorem Stp.frm{φ:Fx}{σ σ1:St}{H H1 H2:Hp}{F F1:Nat->List Addr}{ps1:PSt}(s:Stp φ σ H F σ1 H1 ps1 F1)(fr:Frm F1 H1 H2):Frm F H H2:=
 ⟨fun a o h k n=>fr.keep a o (s.fr.keep a o h k n) k fun i m=>by
  exact(s.nw i a m).elim (fun⟨j,z⟩=>n j z) (fun z=>by rw [z] at h;cases h),fun a z=>s.fr.grow a (fr.grow a z)⟩
theorem xi2{X:Cx}{l:List Stmt}{t u:TS}(h1:PSs X l t)(h2:PSs X l u):PSs X l (fun D σ H=>t D σ H\/u D σ H):=fun pins s σ H D I h=>h.elim (h1 pins s σ H D I) (h2 pins s σ H D I)
section
variable{P:Program}{w:World}{K:tz0}{mg:tzA}{base:Heap}{U:tz9}{C:Addr}
theorem nS{x qual:Str}{st:Stmt}{f:Addr}{fd:FuncData}{N ps:List Str}{k:Nat}{fx:tz5}{m:Nat->Bool}(F:Fun K x qual st f fd)(S:FnScope N ps (aQ st))
  (hbody:∀(cdv:Value) (A:Around) (outer:List Env) (s:Shared) (H:Hp) (E:XK),Room k (A.deeper (envOfC qual (aQ st) s.heap.objs.size f cdv))->
   QXs (eT (CXn P w base C) P w K mg base N qual (aQ st) f cdv A outer s H E) U (f0E ps.length m) (E (.ref C) none) (cC st) fx):
  FnOk P w K mg base (CXn P w base C) (k+1) f fd ps (mX ps.length K U m C (gX ps.length (N.length-ps.length) fx)):=by
 obtain⟨oc,od,kV,doc,pm,an,cdv,ct,osl,rfl,lk,hcd⟩:=F.ex
 refine yd4 lk hcd S (fun vs H Q E h=>h.1) fun A outer s H vs Q E hr hsp=> ?_
 obtain⟨hl,ds,F0,hd,R,e,q⟩:=hsp
 have hn:ps.length<=N.length:=by have:=congrArg List.length S.pre;rw [List.length_take] at this;omega
 have R0:=R.more (σ2:=List.replicate (N.length-vs.length) none) (n:=N.length-ps.length) (by simp [hl,hd]) (by simp [hl])
 refine⟨_,hbody cdv A outer s H E hr,_,F0,R0,?_,q⟩
 unfold gX at e
 exact(Bool.and_eq_true_iff.mp e).2
theorem FnOk.noneXE{f:Addr}{fd:FuncData}{ps:List Str}{k:Nat}{m:Nat->Bool}:FnOk P w K mg base (CXn P w base C) k f fd ps (mX ps.length K U m C fun _=>false):=
 ⟨fun vs H Q E h=>h.1,fun A outer s H args us vs Q E _ _ _ _ h=>by obtain⟨_,ds,F,_,_,e,_⟩:=h;cases e⟩
end
section
variable{X:Cx}{U:tz9}{φ:F0}{Ex:Hp->Prop}{fx fy:tz5}{st:Stmt}{rest l:List Stmt}{pos:Pos}
theorem xi3(h1:QXs X U φ Ex l fx)(h2:QXs X U φ Ex l fy):QXs X U φ Ex l (sY fx fy):=fun pins s σ H D I h=>by
 obtain⟨ps,F,R,e,q⟩:=h
 rcases Bool.or_eq_true_iff.mp e with e|e
 ·exact h1 pins s σ H D I ⟨ps,F,R,e,q⟩
 ·exact h2 pins s σ H D I ⟨ps,F,R,e,q⟩
theorem rG{f:tz1}(h1:QX X U φ Ex st fx)(hs:QS X.nox U φ st f)(h2:QXs X U φ Ex rest fy):QXs X U φ Ex (st::rest) (sY fx (jU f fy)):=xi3 (gI h1) (mM hs h2)
theorem zr8{c:Expr}{a b:List Stmt}{ft:tz4}(hc:QT X.nox U c ft)(ha:QXs X U φ Ex a fx)(hb:QXs X U φ Ex b fy):QX X U φ Ex (.If c a b pos) (qP ft fx fy):=
 (za0 (PT.nox hc) ha hb).imp fun D σ H hh_=>by
  obtain⟨ps,F,R,e,q⟩:=hh_
  unfold qP at e
  have fin:∀{g:tz5} {H':Hp},g ps=true->SameK H H'->tX (φ.fx X.K U) g Ex D σ H':=fun e s=>⟨ps,F,R.same s,e,fun H'' fr=>q H'' ⟨fun a o h k n=>fr.keep a o (s.keep a o h k) k n,fun a z=>s.grow a (fr.grow a z)⟩⟩
  split at e
  ·rename_i he
   exact⟨ps,true,R.ws,he,fun H' s=>by show(if true=true then tX (φ.fx X.K U) fx Ex D σ H' else _);rw [if_pos rfl];exact fin e s⟩
  ·rename_i he
   exact⟨ps,false,R.ws,he,fun H' s=>by show(if false=true then _ else tX (φ.fx X.K U) fy Ex D σ H');rw [if_neg Bool.false_ne_true];exact fin e s⟩
  ·cases e
theorem qU{e:Expr}(he:QXe X U φ Ex e fx)(hs:swapsWith e none pos.line X.env=pure false:=by rfl):QX X U φ Ex (.Expr e pos) fx:=(zy1 he hs).imp fun _ _ _ h=>h
theorem zr9(i:Nat){x:Str}{e:Expr}{pos':Pos}(hN:X.N.Nodup)(hi:X.N[i]? =some x)(hx:Loc X.env.scope x)(he:QXe X U φ Ex e fx)(hs:swapsWith e (some (.Name x pos')) pos.line X.env=pure false:=by rfl)(hf:X.fn x=true\/X.env.scope.names.lookup x=some .local:=by first|exact .inl rfl|exact .inr rfl|assumption):
  QX X U φ Ex (.Assign [.Name x pos'] e pos) fx:=(qX hN hi hx he hs hf).imp fun _ _ _ h=>h
def xo7(φ:Fx)(σ:St)(H:Hp)(F:Nat->List Addr)(i:Nat)(f:tz1)(fx:tz5)(ds:List D)(k m:Nat)(σ1:St)(H1:Hp):Prop:=k<=ds.length/\m=ds.length-k/\∃ps1 F1,Stp φ σ H F σ1 H1 ps1 F1/\jO i f fx (ds.drop k) ps1=true
theorem ym2{φ:Fx}{f:tz1}{E:Ends}{σ:St}{H:Hp}{F:Nat->List Addr}{ps:PSt}{ds:List D}{J:It}{Z:List Addr}{i:Nat}(R:RS φ H σ ps F)(hz:∀a∈Z,H a≠none/\∀i,a∉F i)(W:Walk φ.K φ.U J Z H ds)(hb:φ.bor i=false)(hm:φ.M i=false)
  (e:jO i f fx ds ps=true) (q:∀H',Frm F H H'->Ex H'):∃V:Nat->Nat->St->Hp->Prop,(∃m,V 0 m σ H)/\∀k m σ H,V k m σ H->yz2 J E V (oO i) (fun D σ H=>tS φ f D σ H\/tX φ fx Ex D σ H) k m σ H:=by
 refine⟨xo7 φ σ H F i f fx ds,⟨_,Nat.zero_le _,rfl,ps,F,.refl R,by rw [List.drop_zero];exact e⟩,?_⟩
 rintro k m σ1 H1 ⟨hk,rfl,ps1,F1,s1,e1⟩
 have kp:sV Z H H1:=s1.fr.kept R fun a ha=>(hz a ha).2
 by_cases hlt:k<ds.length
 ·right
  have ed:ds[k]? =some ds[k]:=List.getElem?_eq_getElem hlt
  obtain⟨hgo,hy⟩:=W.go H1 kp k _ ed
  rw [List.drop_eq_getElem_cons hlt,jO] at e1
  have set1:∀x H',J.yld k H1 x H'->∃F2,Stp φ σ H F (σ1.set i (some x)) H' (ps1.set i (some ds[k])) F2:=fun x H' y=>by
   obtain⟨rfl,rx⟩:=hy x H' y
   obtain⟨F2,s2⟩:=(Stp.refl s1.rs).set (i:=i) (fv:=[]) (v:=x) (d:=ds[k]) ⟨fun _ h=>absurd h (by simp),List.nodup_nil,fun _ _ _ h=>absurd h (by simp)⟩ s1.rs rx (.inl hb) hm
   exact⟨F2,s1.trans s2⟩
  rcases Bool.or_eq_true_iff.mp e1 with e1|e1
  ·refine⟨hgo,fun _ _=>False,fun _ _ h=>h.elim,fun x H' y=> ?_⟩
   obtain⟨F2,s12⟩:=set1 x H' y
   exact .inr ⟨_,F2,s12.rs,e1,fun H'' fr=>q H'' (s12.frm fr)⟩
  ·split at e1
   ·rename_i p2 e2
    refine⟨hgo,fun σ' H'=>∃F',Stp φ σ H F σ' H' p2 F'/\jO i f fx (ds.drop (k+1)) p2=true,fun σ' H' ⟨F',s,e⟩=>⟨ds.length-(k+1),by omega,hlt,rfl,p2,F',s,e⟩,fun x H' y=> ?_⟩
    obtain⟨F2,s12⟩:=set1 x H' y
    exact .inl ⟨_,F2,.nx,p2,s12.rs,e2,fun σ' H' F' s=>⟨F',s12.trans s,e1⟩⟩
   ·rename_i p2 e2
    refine⟨hgo,fun σ' H'=>∃F',Stp φ σ H F σ' H' p2 F'/\jO i f fx (ds.drop (k+1)) p2=true,fun σ' H' ⟨F',s,e⟩=>⟨ds.length-(k+1),by omega,hlt,rfl,p2,F',s,e⟩,fun x H' y=> ?_⟩
    obtain⟨F2,s12⟩:=set1 x H' y
    exact .inl ⟨_,F2,.ct,p2,s12.rs,e2,fun σ' H' F' s=>⟨F',s12.trans s,e1⟩⟩
   ·cases e1
 ·rw [List.drop_eq_nil_of_le (Nat.le_of_not_lt hlt),jO] at e1
  cases e1
theorem zi3(i j:Nat){body:List Stmt}{f:tz1}{x y:Str}{px py:Pos}(hp:PassesOwn (model X.prog X.w) X.A X.env X.xe)(hc:X.calm=true)(hN:X.N.Nodup)(hi:X.N[i]? =some x)(hx:Loc X.env.scope x)(hb:φ.bor i=false)(hm:φ.M i=false)(hj:φ.bor j=true)
  (hbd:QSs X.nox U φ body f) (hbx:QXs X U φ Ex body fx) (hNj:X.N[j]? =some y:=by rfl) (hv:Vis X.env.scope y:=by first|exact Or.inl rfl|exact Or.inr (Or.inl rfl)|exact Or.inr (Or.inr rfl)) (hd:(y==("__debug__":Str))=false:=by decide)
  (hcd:(y==("__classdict__":Str))=false:=by decide) (hs:∀x,foldedSetIterable (.Name y py) X.env x=pure x:=by intro _;rfl) (hf:X.fn x=true\/X.env.scope.names.lookup x=some .local:=by first|exact .inl rfl|exact .inr rfl|assumption):
  QX X U φ Ex (.For (.Name x px) (.Name y py) body [] pos) (zo7 i (dR (aA j)) f fx):=
 (zp5 hp hc (zb0 (lS hNj hv hd hcd)) (kO hN hi hx hf) (xi2 (t:=tS (φ.fx X.K U) f) (PSs.nox hbd) hbx) hs).imp fun E σ H hh_=>by
 obtain⟨ps,F,R,e,q⟩:=hh_
 unfold zo7 at e
 split at e
 ·rename_i ds e1
  obtain⟨d,e3,e4⟩:=bind_some e1
  obtain⟨v,fp,h1,h2,_,h4⟩:=R.rep j d (join_some e3)
  refine⟨v,h1,?_⟩
  refine xQ (R:=xl7 (oO i) (fun D σ H=>tS (φ.fx X.K U) f D σ H\/tX (φ.fx X.K U) fx Ex D σ H) E σ) h2 e4 fun J Z hz W=> ?_
  exact ym2 R (fun a ha=>⟨R.bt j a (h4 hj a (hz a ha)),fun k hk=>R.nb k a hk j (h4 hj a (hz a ha))⟩) W hb hm e q
 ·cases e
end
section
variable{P:Program}{w:World}{K:tz0}{mg:tzA}{base:Heap}{N:List Str}{qual:Str}{scope:Scope}{f C:Addr}{cd:Value}{A:Around}{outer:List Env}{s:Shared}{H:Hp}{E:XK}{U:tz9}{φ:F0}
theorem pA{Cn m qual':Str}{st:Stmt}{ps:List Str}{fm:Addr}{fd:FuncData}{k np j:Nat}{mk:Nat->Bool}{g:List D->Bool}{o e:Expr}{es:List Expr}{as:List Arg}{pf:PSt->Option (List Ps1)}{apos pos:Pos}{pl:Sem Bool}(M:Mn K U Cn m qual' st ps fm fd)(G:FnOk P w K mg base (CXn P w base C) k fm fd ps (mX np K U mk C g))
  (hr:Room k (A.deeper (envOfC qual scope s.heap.objs.size f cd))) (hb:φ.bor j=false) (ho:PE (eT (CXn P w base C) P w K mg base N qual scope f cd A outer s H E).nox o (gK K U j pf)) (ha:PA (eT (CXn P w base C) P w K mg base N qual scope f cd A outer s H E).nox (e::es) (tIO K U as)) (has:sO as=true) (hnp:np=as.length+1) (hm:mk=lA)
  (hst:starEach (e::es) (envOfC qual scope s.heap.objs.size f cd)=(false,eval e (envOfC qual scope s.heap.objs.size f cd))::starEach es (envOfC qual scope s.heap.objs.size f cd):=by rfl) (hpl:(backTo pos (starEach es (envOfC qual scope s.heap.objs.size f cd))).any (·.1)=false:=by rfl)
  (ht:eval (.Call (.Attribute o m apos) (e::es) [] pos) (envOfC qual scope s.heap.objs.size f cd)=(do
   let ov<-eval o (envOfC qual scope s.heap.objs.size f cd)
   standAt apos.atName
   let (f',first)<-holding [ov] (getMethod ov m pl)
   callWith pos f' first (backTo pos (starEach (e::es) (envOfC qual scope s.heap.objs.size f cd))) (backToKw pos (keywordEach [] (envOfC qual scope s.heap.objs.size f cd)))):=by rfl):
  QXe (eT (CXn P w base C) P w K mg base N qual scope f cd A outer s H E) U φ (E (.ref C) none) (.Call (.Attribute o m apos) (e::es) [] pos) (mU j pf (bB as) (lH Cn m g)):=
 (zz0 (X:=eT (CXn P w base C) P w K mg base N qual scope f cd A outer s H E) (PE.nox ho) M.c M.h G hr M.b .nil yy2 (PA.nox ha) hst hpl ht).imp fun σ H0 Q hh_=>by
 obtain⟨ps,F,R,e,q⟩:=hh_
 obtain⟨d0,pp,ys,⟨r,d0'⟩,e0,ep,eg,em⟩:=yf0 e
 obtain⟨dd,dn,gp,hh⟩:=lU em
 refine⟨ps,pp,d0,dd,R.ws,e0,ep,gp,fun v H1 v0 s1 ev a1=> ?_⟩
 obtain⟨ns,vs,rfl,hn,_⟩:=yV hh
 obtain⟨fdd,rd⟩:=tL R.ws s1 e0 ev gp a1
 obtain⟨_,_,_,_,rfl,hl,hk,hs,rfl⟩:=rd.objT_inv
 subst hk
 refine⟨_,_,_,rfl,hl,mZ hn,ps,ys,R.ws.same s1,eg,fun us H2 s2 a2=> ?_⟩
 show mX np K U mk C g (_::(us++[])) H2 Q E
 rw [List.append_nil]
 have ry:=a2.reps has
 have hly:np=ys.length+1:=by rw [hnp,a2.len.2]
 subst hly hm
 obtain⟨d1,d1',fd1,m1,m2,m3,m4,_⟩:=rC R (s1.trans s2) hb e0 ev em (a1.same s2)
 obtain⟨_,_,_,_,eg1⟩:=yV m2
 refine⟨by rw [List.length_cons,ry.length],_,qO fd1,by simp,uN m1 m3 ry,eg1,fun H' fr=>q H' ⟨fun a o h kk n=>fr.keep a o ((s1.trans s2).keep a o h kk) kk fun i hi=>n j (m4 a (kS hi).2),fun a z=>(s1.trans s2).grow a (fr.grow a z)⟩⟩
end
def yz3(d:D):Bool:=match d with
 | .int a=>decide (a.natAbs.log2<1920)
 |_=>false
def zf3:List (tz2)->tz5
 |[],_=>true
 | f::fs,ps=>(match f ps with
   |some d=>yz3 d
   |none=>false)&&zf3 fs ps
def PJ(X:Cx)(U:tz9)(es:List Expr)(fs:List (tz2)):Prop:=∀(pins:tzB) (s:Shared) (σ:St) (H:Hp) (ps:PSt) (out:Str) (Q:Value->Shared->Prop),Inv X pins σ H s->WS X.K U H σ ps->zf3 fs ps=true->out.length+2000*es.length<=sizeLine->
 (∀v s' H',Inv X pins σ H' s'->SameK H H'->Q v s')->wpAny (model X.prog X.w) X.A (joinParts out (evalEach es X.env)) Q X.xe s
section
variable{X:Cx}{U:tz9}{es:List Expr}{fs:List (tz2)}
theorem PJ.nox(h:PJ X.nox U es fs):PJ X U es fs:=fun pins s σ H ps out Q I w e hl q=>
 wpAny_mono (h pins s σ H ps out Q (I.wish _) w e hl fun v s' H' I' sm=>q v s' H' I'.unwish sm) (fun _ _ x=>x) fun _ _ z=>False.elim z
theorem xi4:PJ X U [] []:=fun pins s σ H ps out Q I _ _ hl q=>joinParts_nil (q _ _ H (I.tok _) (.refl H)) (by simpa using hl)
theorem zs0{z:Str}{j:Nat}{p:Pos}(hr:PJ X U es fs)(hz:decide (z.length<=2000)=true:=by decide+kernel):PJ X U (.Constant (.str z) j p::es) fs:=fun pins s σ H ps out Q I w e hl q=>by
 show wpAny _ _ (joinParts out (eval (.Constant (.str z) j p) X.env::evalEach es X.env)) Q X.xe s
 have hz':=of_decide_eq_true hz
 rw [List.length_cons] at hl
 have hl2:(out++z).length+2000*es.length<=sizeLine:=by rw [strLen_append];omega
 refine joinParts_cons (Calls.Constant_str (k:=j) (pos:=p) ⟨by omega,?_⟩)
 exact hr pins _ σ H ps (out++z) Q (I.tok _) w e hl2 q
theorem zc0{a:Expr}{f:tz2}{p:Pos}(ha:PE X a (tV X.K U f))(hr:PJ X U es fs):PJ X U (.FormattedValue a (-1) none p::es) (f::fs):=fun pins s σ H ps out Q I w e hl q=>by
 show wpAny _ _ (joinParts out (eval (.FormattedValue a (-1) none p) X.env::evalEach es X.env)) Q X.xe s
 obtain⟨e1,e2⟩:=Bool.and_eq_true_iff.mp e
 split at e1
 ·rename_i d hd
  unfold yz3 at e1
  split at e1
  ·rename_i i
   have hi:=of_decide_eq_true e1
   refine joinParts_cons (FormattedValue_plain (thn (ha pins s σ H (fun v H'=>SameK H H'/\v= .int i) I ⟨ps,_,w,hd,fun v H' fp sm r=>⟨sm,r.is_int⟩⟩) fun u s1 hu=> ?_))
   obtain⟨x,H1,I1,r1,sm,rfl⟩:=hu
   obtain⟨t,rfl⟩:=r1
   refine formatField_int_small hi ?_
   rw [List.length_cons] at hl
   have hs:(toString i).length<=1920+1:=int_text_length_le (by decide) hi
   have hs2:(Str.ofString (toString i)).length<=1921:=by rw [PySem.ofString_length];exact hs
   have hl2:(out++Str.ofString (toString i)).length+2000*es.length<=sizeLine:=by rw [strLen_append];omega
   exact⟨by omega,hr pins _ σ H1 ps _ Q (I1.tok _) (w.same sm) e2 hl2 fun v s' H' I' sm'=>q v s' H' I' (sm.trans sm')⟩
  ·cases e1
 ·cases e1
end
section
variable{P:Program}{w:World}{K:tz0}{mg:tzA}{base:Heap}{N:List Str}{qual:Str}{scope:Scope}{f C:Addr}{cd:Value}{A:Around}{outer:List Env}{s:Shared}{H:Hp}{E:XK}{U:tz9}{φ:F0}
theorem wL{x:Str}{np cpos pos p1:Pos}{v1 v2:Expr}{rest:List Expr}{fs:List (tz2)}{B newId initId:String}{bmB:List Value}(O:OwnCls x C bmB newId mg base)(FB:ExcBaseFacts B newId initId bmB)(hg:Gl (eT (CXn P w base C) P w K mg base N qual scope f cd A outer s H E) x)
  (hj:PJ (eT (CXn P w base C) P w K mg base N qual scope f cd A outer s H E).nox U (v1::v2::rest) fs) (hln:decide ((v1::v2::rest).length<=100)=true:=by decide+kernel)
  (hd:(x==("__debug__":Str))=false:=by decide) (hs:starEach [.JoinedStr (v1::v2::rest) p1] (envOfC qual scope s.heap.objs.size f cd)=[(false,eval (.JoinedStr (v1::v2::rest) p1) (envOfC qual scope s.heap.objs.size f cd))]:=by rfl):
  QX (eT (CXn P w base C) P w K mg base N qual scope f cd A outer s H E) U φ (E (.ref C) none) (.Raise (some (.Call (.Name x np) [.JoinedStr (v1::v2::rest) p1] [] cpos)) none pos) (zf3 fs):=by
 intro pins s1 σ H1 D I h
 obtain⟨ps,F,R,ef,q0⟩:=h
 obtain⟨tl,N',nm,q,bs,hdct,sn,sub,ab,col,dd,k0,k1,k2,k3,k5,mN,hC,hN,hni,T⟩:=O.obj
 refine wpAny_Raise_call_subT (C:=C) (nm:=nm) (q:=q) (N:=N') (bs:=bs) (bm:=tl) (hdct:=hdct) (sn:=sn) (sub:=sub) (ab:=ab) (col:=col) (dd:=dd) (k0:=k0) (k1:=k1) (k2:=k2) (k3:=k3) (k5:=k5)
  FB (mN:=mN) (T.hasType FB.hasBase) (I.ok.hd rfl) (by show(backTo cpos (starEach [.JoinedStr (v1::v2::rest) p1] (envOfC qual scope s.heap.objs.size f cd))).any (·.1)=false;rw [hs];rfl) hni (oW I hg O.bound ⟨rfl,?_⟩ hd)
 show wpAny (model P w) (A.deeper (envOfC qual scope s.heap.objs.size f cd)) (evalArgs (.ref C) true (backTo cpos (starEach [.JoinedStr (v1::v2::rest) p1] (envOfC qual scope s.heap.objs.size f cd))) []) _ _ s1
 rw [hs]
 have hz:(Str.empty).length+2000*(v1::v2::rest).length<=sizeLine:=by
  have:=of_decide_eq_true hln
  have hs:sizeLine=16777216:=sizeLine_eq
  have h0:Str.empty.length=0:=rfl
  omega
 refine Calls.evalArgs_plain (Calls.spliced_cons (JoinedStr_many (pos:=p1) (hj.nox pins s1 σ H1 ps Str.empty _ I R.ws ef hz fun v s2 H2 I2 sm=>Calls.spliced_nil ?_)))
 have kp:∀b o,base.get? b=some o->s2.heap.get? b=some o:=I2.bk
 refine⟨rfl,(show 1<=sizeLine from Nat.le_trans (by decide) (pV (n:=1) (by decide))),kp _ _ hC,hN.keeps kp,T.keeps kp,fun h' e mk=> ?_⟩
 exact zl7 I2 mk (q0 H2 ⟨fun a o h k _=>sm.keep a o h k,sm.grow⟩)
end
end L2
namespace L2
section
open PySem PySem.W PySem.Calls PyProof.Rows Builtin Builtin.ObjectAttr Builtin.Getset_descriptor
def zo8(x D:Addr)(h:Heap):Prop:=∃o,h.get? x=some o/\o.cls= .ref D
variable{prog:Program}{w:World}{A:Around}{E:Value->Shared->Prop}{s:Shared}{K:tz0}{x D:Addr}{name:Str}
theorem uP{M:Model}{h:Heap}(I:zo8 x D h):Looks M h (typeOf (.ref x)) (.ref D):=by
 obtain⟨o,h1,h2⟩:=I
 exact h2▸(Looks.ld h1).andThen .now
theorem zx1{M:Model}{h:Heap}(X:K.In h){a g:Value}(ha:findIn K (.ref D) name=some (some a))(hg:specialIn K a "__get__"=some (some g))(ht:takesIn K a=some true):
  Looks M h (find (.ref x) (.ref D) name) (.bind g a):=
 (looks_findIn (M:=M) X ha).andThen ((looks_specialIn X hg).andThen ((show Looks M h (dataDescriptor? (some a) (some g)) (some (g,a)) from(looks_takesIn (M:=M) X ht).andThen .now).andThen (Looks.tag .now)))
theorem yf1{tp:Value}{R:Result->Shared->Prop}(X:K.In s.heap)(I:zo8 x D s.heap)(hm:mroIn K D (.type "object")=some true)(h:R (.ok (.ret (.ref D))) s):
  codeAny (model prog w) A (.call (.builtin "getset_descriptor.__get__") ⟨[.builtin "object.__class__",.ref x,tp],[]⟩) R s:=by
 obtain⟨h1,g1,d1,t1,o1⟩:=s;have L0:=uP (M:=model prog w) I;have L1:=looks_mroIn (M:=model prog w) X hm
 refine codeAny_call_builtin KF.slot_gs.plain KF.entry_gs (KF.slot_gs.check _ _ _ _ _ _ _ _ KF.type_class (KF.args_gs _ _ _) ?_);unfold Builtin.«getset_descriptor.__get__» descrGet;rw [dga_obj]
 refine wpAny_bind (wpAny_pure ?_);unfold descrGetter descrCheckInstance descrNameAndClass isInstance;simp only [KF.owner_class];repeat lk
 refine⟨Code.quiet_builtin _ (by decide+kernel),codeAny_builtin KF.entry_class ?_⟩;unfold Builtin.«object.__class__» shownTypeOf;repeat lk
 exact h
theorem yf2{Q:Option Value->Shared->Prop}(hga:findIn K (.ref D) "__getattribute__"=some (some (.builtin "BaseException.__getattribute__")))(hgt:findIn K (.ref D) "__getattr__"=some none)(ha:findIn K (.ref D) "__class__"=some (some (.builtin "object.__class__")))
 (hn:specialIn K (.builtin "object.__class__") "__get__"=some (some (.builtin "getset_descriptor.__get__"))) (htk:takesIn K (.builtin "object.__class__")=some true) (hm:mroIn K D (.type "object")=some true) (hb:mroIn K D (.type "BaseException")=some true)
 (X:K.In s.heap) (I:zo8 x D s.heap) (h:Q (some (.ref D)) {s with toks:=s.toks+1}):wpAny (model prog w) A (getAttr? (.ref x) "__class__") Q E s:=by
 obtain⟨h1,g1,d1,t1,o1⟩:=s;have L0:=uP (M:=model prog w) I;have L1:=looks_findIn (M:=model prog w) X hga
 have L3:=zx1 (M:=model prog w) (x:=x) X ha hn htk;have L4:=looks_findIn (M:=model prog w) X hgt
 have FB:=PySem.F.excAttr_ValueError
 have f3:=FB.ga.bind (.ref x)
 have hx2:(Value.builtin "BaseException.__getattribute__"==Value.builtin "object.__getattribute__")=false:=by decide+kernel
 have hx1:(onTheHeap (Value.ref D)&&Value.builtin "BaseException.__getattribute__"==Value.builtin "object.__getattribute__")=false:=by rw [hx2];rfl
 unfold getAttr? getAttrBy? getAttrBy
 repeat (any_goals (first|assumption|with_reducible refine Looks.at L0 ?_|with_reducible refine Looks.at L1 ?_|with_reducible refine Looks.at L4 ?_|wp_step))
 refine codeAny_call_builtin FB.ga.plain F.entry_bexc_ga ?_
 have hk:builtinKind "BaseException.__getattribute__"=some .slot:=by decide+kernel
 have hsplit:splitId "BaseException.__getattribute__"=some ("BaseException","__getattribute__"):=by decide+kernel
 have LB:=looks_mroIn (M:=model prog w) X hb
 have ha2:=F.args_bexc_ga (.ref x) (.str "__class__" t1)
 simp only [checkBuiltinCall,hk,hsplit]
 refine wpAny_bind ?_
 unfold isInstance
 have L5:=looks_findIn (M:=model prog w) X ha
 have L6:Looks (model prog w) h1 (getOf (some (.builtin "object.__class__"))) (some (.builtin "getset_descriptor.__get__")):=looks_specialIn X hn
 have L7:Looks (model prog w) h1 (dataDescriptor? (some (.builtin "object.__class__")) (some (.builtin "getset_descriptor.__get__"))) (some (.builtin "getset_descriptor.__get__",.builtin "object.__class__")):=(looks_takesIn (M:=model prog w) X htk).andThen .now
 repeat (first|with_reducible refine Looks.at L0 ?_|with_reducible refine Looks.at LB ?_|with_reducible refine Looks.at L3 ?_|with_reducible refine Looks.at L5 ?_|with_reducible refine Looks.at L6 ?_|with_reducible refine Looks.at L7 ?_|wp_step)
 refine yf1 X I hm ?_
 repeat (any_goals (first|assumption|wp_step))
theorem zs1(hga:findIn K (.ref D) "__getattribute__"=some (some (.builtin "BaseException.__getattribute__")))(hgt:findIn K (.ref D) "__getattr__"=some none)(ha:findIn K (.ref D) "__class__"=some (some (.builtin "object.__class__")))
  (hn:specialIn K (.builtin "object.__class__") "__get__"=some (some (.builtin "getset_descriptor.__get__"))) (htk:takesIn K (.builtin "object.__class__")=some true) (hm:mroIn K D (.type "object")=some true) (hb:mroIn K D (.type "BaseException")=some true) (hC:(clsIn K D).isSome=true):KitX K (.ref x) (.ref D) (zo8 x D):=by
 obtain⟨cd,hcD⟩:=Option.isSome_iff_exists.mp hC
 have ho:∃c' d' sl',K.lookup D=some ⟨c',d',.cls cd,sl'⟩:=by
  unfold clsIn at hcD
  split at hcD
  ·rename_i c' d' cd' sl' ho;cases hcD;exact⟨_,_,_,ho⟩
  ·cases hcD
 obtain⟨c',d',sl',ho⟩:=ho
 refine⟨fun _ _ _ I=>uP I,fun _ _ X _=> ?_,fun h tp dd its n sl X htp=> ?_,fun X I k=>yf2 hga hgt ha hn htk hm hb X I k⟩
 ·intro A' Q' E' s' k q
  unfold isType loadHead;exact wpAny_bind (wpAny_loadPart (k _ _ (X _ _ ho)) (wpAny_pure q))
 ·refine Bool.eq_false_iff.mpr fun q=> ?_
  have e:D=tp:=Value.ref.inj (beq_iff_eq.mp q)
  subst e
  have z:=(X _ _ ho).symm.trans htp;cases z
end
end L2
namespace L2
open PySem.Spec PySem PyProof.Rows
section
variable{X:Cx}{pins:tzB}{σ:St}{H:Hp}{s:Shared}
theorem Inv.swap{h':Heap}{t':Nat}{σ':St}{m':tzA}(I:Inv X pins σ H s)(hs:Heap.SameBut X.env.locals s.heap h')(hn:h'.Ns X.env.locals m')(hl:σ'.length=X.N.length)
  (hv:∀(i:Nat) (x:Str) (v:V),X.N[i]? =some x->σ'[i]? =some (some v)->Vis X.env.scope x->∃u,dD v u/\xk1 X.env h' m' x u):Inv X pins σ' H {s with heap:=h',toks:=t'}:=by
 have ne:∀b o,X.s₀.heap.get? b=some o->b≠X.env.locals:=fun b o e=>Nat.ne_of_lt (Nat.lt_of_lt_of_le (Heap.lt_size e) I.ok.above)
 have cell:∀{c:Addr} {v:Option Value},c≠X.env.locals->s.heap.IsCell c v->h'.IsCell c v:=fun {c v} n ⟨o,q1,q2⟩=>⟨o,(hs.2 c n).trans q1,q2⟩
 refine⟨I.ok,I.os,I.bare,⟨fun b o e n hb hx=>(hs.2 b (ne b o e)).trans (I.base.keep b o e n hb hx),fun b o e n hb hx=> ?_,I.base.free,fun b o e hx=> ?_,I.base.tups,I.base.frzs,I.base.tbls⟩,⟨m',hn,hv⟩,fun y c e=> ?_,I.free,I.freeC,fun p hp=> ?_,I.hok.but fun b o u e q=> ?_,hl⟩
 ·exact(I.base.slot b o e n hb hx).imp fun sl z=>(hs.2 b (ne b o e)).trans z
 ·exact(I.base.there b o e hx).imp fun o' z=>(hs.2 b (ne b o e)).trans z
 ·exact(I.cell y c e).imp fun v z=>cell (I.cne y c e) z
 ·obtain⟨q1,q2,q3,q4⟩:=I.pin p hp
  exact⟨(hs.2 p.1 q3).trans q1,q2,q3,q4⟩
 ·refine(hs.2 b fun z=> ?_).trans q
  rw [z,I.free] at e;cases e
theorem xb5{M:Model}{A:Around}{E:Value->Shared->Prop}{i:Nat}{x:Str}{pos:Pos}{Q:Unit->Shared->Prop}(I:Inv X pins σ H s)(hN:X.N.Nodup)(hi:X.N[i]? =some x)(hk:X.env.kindOf x=some .local)
  (h:∀s',Inv X pins (σ.set i none) H s'->Q () s'):wpAny M A (do bindName X.env x .none;unbindBehindTheSuite X.env x pos) Q E s:=by
 obtain⟨m,hn,hl⟩:=id I.loc
 refine wpAny_nameGoes_keeps hk hn (by rw [I.ok.kind];rfl) fun h' v hn' hs=>h _ (I.swap hs hn' (by rw [List.length_set];exact I.len) fun j y u e1 e2 e3=> ?_)
 have hji:j≠i:=fun z=>by
  subst z
  have:(σ.set j none)[j]? =some (some u):=e2
  rw [List.getElem?_set] at this
  simp at this
 rw [List.getElem?_set_ne (Ne.symm hji)] at e2
 obtain⟨u',r,l⟩:=hl j y u e1 e2 e3
 have hyx:y≠x:=fun z=>by
  subst z
  exact hji ((List.getElem?_inj (List.getElem?_eq_some_iff.mp e1).1 hN).mp (e1.trans hi.symm))
 refine⟨u',r,?_⟩
 rcases l with ⟨hk',hm⟩|⟨hk',c,hc,o,q1,q2⟩
 ·exact .inl ⟨hk',by show(if y=x then v else m y)=_;rw [if_neg hyx];exact hm⟩
 ·exact .inr ⟨hk',c,hc,o,(hs.2 c (I.cne y c hc)).trans q1,q2⟩
end
theorem xb6{K:tz0}{h:Heap}{nm qn:Str}{C N:Addr}{bs bm:List Value}{hdct:Bool}{sn:List Str}{sub:List Value}{ab:Bool}{col:Option Bool}{dd:Option Addr}{k0 k1 k2 k3 k5:Option Value}{newId:String}{v:Value}(X:K.In h)
  (hC:h.get? C=some (excClassObj nm qn C N bs bm hdct sn sub ab col dd k0 k1 k2 k3 k5 newId)) (e:PySem.W.mroIn K C v=some true):(Value.ref C::bm).contains v=true:=by
 unfold PySem.W.mroIn at e
 obtain⟨cd,hc,e⟩:=Option.bind_eq_some_iff.mp e
 unfold PySem.W.clsIn at hc
 split at hc
 ·rename_i ho
  cases hc
  have z:=X _ _ ho
  rw [hC] at z
  cases z
  split at e
  ·cases e
  ·exact Option.some.inj e
 ·cases hc
section
variable{M:Model}{A:Around}{E:Value->Shared->Prop}
theorem zn0{h:Heap}{g:Array GenState}{d:Drawn}{t:Nat}{os:OsState}{e:Addr}{oe:Obj}{Q:Bool->Shared->Prop}
  {nm qn:Str} {C N:Addr} {bs bm:List Value} {hdct:Bool} {sn:List Str} {sub:List Value} {ab:Bool} {col:Option Bool} {dd:Option Addr} {k0 k1 k2 k3 k5:Option Value} {newId:String}
  {nm2 qn2:Str} {C2 N2:Addr} {bs2 bm2:List Value} {hdct2:Bool} {sn2:List Str} {sub2:List Value} {ab2:Bool} {col2:Option Bool} {dd2:Option Addr} {j0 j1 j2 j3 j5:Option Value} {newId2:String}
  (hC:h.get? C=some (excClassObj nm qn C N bs bm hdct sn sub ab col dd k0 k1 k2 k3 k5 newId)) (hC2:h.get? C2=some (excClassObj nm2 qn2 C2 N2 bs2 bm2 hdct2 sn2 sub2 ab2 col2 dd2 j0 j1 j2 j3 j5 newId2))
  (he:h.get? e=some oe) (hcls:oe.cls= .ref C) (hbase:bm2.contains (.type "BaseException")=true) (hup:(Value.ref C::bm).contains (.ref C2)=true)
  (hq:Q true ⟨h,g,d,t,os⟩):wpAny M A (excMatches (.ref e) (.ref C2)) Q E ⟨h,g,d,t,os⟩:=by
 have hcB:(Value.ref C2::bm2).contains (.type "BaseException")=true:=by rw [List.contains_cons,hbase,Bool.or_true]
 have f:=tc_notTuple
 unfold excMatches
 repeat (first|(with_reducible refine wpAny_loadPart_at he ?_;rw [hcls])|with_reducible refine wpAny_loadPart_at hC2 ?_|(with_reducible refine wpAny_isSubtype_exc hC2 ?_;rw [hcB])|(with_reducible refine wpAny_isSubtype_exc hC ?_;rw [hup])|wp_step)
 exact hq
end
section
variable{X:Cx}{C C2:Addr}{pins:tzB}{σ:St}{H1:Hp}{s1 s2:Shared}{E1:XK}{e:Value}
theorem xb7{x x0 n bad:Str}{i j:Nat}{np bp np2 ap p5:Pos}{bmB bmB2:List Value}{newId newId2:String}{Q:Flow->Shared->Prop}{E:Value->Shared->Prop}(I:Inv X pins σ H1 s1)(hstk:X.stack=X.env::X.outer)(hf:X.env.frame=some X.env.locals)
  (O:OwnCls x0 C bmB newId X.mg X.base) (O2:OwnCls x C2 bmB2 newId2 X.mg X.base) (up:PySem.W.mroIn X.K C (.ref C2)=some true) (hbase:bmB2.contains (.type "BaseException")=true) (hg:Gl X x)
  (h:CXn X.prog X.w X.base C X.stack H1 s1 E1 e s2) (hN:X.N.Nodup) (hi:X.N[i]? =some n) (hj:X.N[j]? =some bad) (hij:i≠j) (hkn:X.env.kindOf n=some .local) (hkb:X.env.kindOf bad=some .local)
  (k:∀ea oe s' H',E1 (.ref C) none H'->oe.cls= .ref C->Inv X (pins++[(ea,oe)]) (((σ.set i (some (.ref ea))).set j (some (.ref ea))).set i none) H' s'->Q .next s')
  (hd:(x==("__debug__":Str))=false:=by decide) (hdn:(n==("__debug__":Str))=false:=by decide) (hsw:swapsWith (.Name n np2) (some (.Name bad bp)) ap.line X.env=pure false:=by rfl):
  wpAny (model X.prog X.w) X.A (noteFrame e X.env) (fun _ s3=>wpAny (model X.prog X.w) X.A (setFlight e none) (fun _ s4=>wpAny (model X.prog X.w) X.A (handleBy e X.env [.ExceptHandler (some (.Name x np)) (some n) [.Assign [.Name bad bp] (.Name n np2) ap] p5]) Q E s4) E s3) E s2:=by
 obtain⟨ea,T,a0,H2,rfl,os,bare,un,hok,fly,q0⟩:=h
 rw [hstk] at un fly
 have hfr:X.A.frames=some (X.env::X.outer):=by rw [<-hstk];exact I.ok.frames
 refine wpAny_looks_onW (L:=X.env.locals) hfr hf fly.flying fun h4 held4 ups4=> ?_
 refine wpAny_landsW held4 fun h5 held ups5=> ?_
 have kp5:∀b o,X.base.get? b=some o->h5.get? b=some o:=fun b o z=>held.1 b o (fly.base_in b o z)
 obtain⟨ob,hob,hobc⟩:=held.there
 obtain⟨bm,N,nm,qn,bs,hdct,sn,sub,ab,col,dd,k0,k1,k2,k3,k5,mN,hC,hN',hni,TL⟩:=(O.keeps kp5).obj
 obtain⟨bm2,N2,nm2,qn2,bs2,hdct2,sn2,sub2,ab2,col2,dd2,j0,j1,j2,j3,j5,mN2,hC2,hN2',hni2,TL2⟩:=(O2.keeps kp5).obj
 refine wpAny_handleBy_cons (codeAny_handlers_test (Calls.Name_function_global I.ok.kind hg (Calls.loadGlobal_global (by rw [I.ok.glob];exact I.ok.mod.glob.keeps kp5) O2.bound ?_) hd)) (by intro q;cases q)
 refine zn0 hC hC2 hob hobc (TL2.hasType hbase) (xb6 (I.ok.mod.kin.keeps kp5) hC up) (codeAny_handlers_suite_as ?_)
 refine lands_againW held fun h6 fl6 ups6=> ?_
 have ups:s2.heap.UpToSlots h6:=(ups4.trans ups5).trans ups6
 have st:(PySem.W.hideAll s2.heap ([ea,T]++frs (X.env::X.outer))).StaysIn h6:=fl6.1
 have stk:∀b∈frs (X.env::X.outer),H2 b=none:=fun b m=>by
  have m':b∈frs X.stack:=by rw [hstk];exact m
  obtain⟨_,o,q1,_⟩:=I.stack.mem m'
  exact un.free b o q1 (I.stkFree b m') (by simp)
 have u2:=un.mono (fs':=frs (X.env::X.outer)) (ex':=[ea,T]) (fun b m=>m) (fun b m=>absurd m (by simp))
 have u3:Un (frs (X.env::X.outer)) [ea,T] H2 H2 s2.heap h6:=zi0 fly.fr ups st
 have u6:Un (frs X.stack) [] H1 H2 s1.heap h6:=by
  rw [hstk]
  refine zi1 (u2.trans u3) (fun b o z m=> ?_) (fun _ _ _ m=>m)
  rcases List.mem_cons.mp m with y|m
  ·rw [y,fly.ne] at z;cases z
  ·rw [List.mem_singleton.mp m,fly.nT] at z;cases z
 have hok6:HOk X.prog X.w H2 h6:=zG hok (fun b m=>by
  rcases List.mem_cons.mp m with z|m
  ·rw [z];exact fly.He
  ·rw [List.mem_singleton.mp m];exact fly.HT) stk st
 have I6:Inv X pins σ H2 {s2 with heap:=h6}:=I.call' (s':={s2 with heap:=h6}) os u6 hok6 bare (fun _ m=>absurd m (by simp))
 obtain⟨oe,ws,hoe,hoec,hoed,hoe0⟩:=fl6.first
 have nl:ea≠X.env.locals:=fun z=>by
  have:=I.lt
  obtain⟨m,⟨o,_,_,q,_⟩,_⟩:=I.loc
  rw [<-z,fly.ne] at q;cases q
 have nf:ea∉X.fs:=fun z=>by
  obtain⟨_,o,q,_⟩:=I.funs.mem z
  rw [fly.ne] at q;cases q
 have I7:Inv X (pins++[(ea,oe)]) σ H2 {s2 with heap:=h6}:=I6.pins_of fun p hp=>(List.mem_append.mp hp).elim (fun z=>I6.pin p (List.mem_append_right _ z)) fun z=>by
  rw [List.mem_singleton.mp z]
  exact⟨hoe,fly.He,nl,nf,fun v q=>by rw [hoed] at q;cases q⟩
 refine uD I7 hN hi (.inl hkn) (v:= .ref ea) rfl (fun s7 I8=> ?_) (.inr hkn)
 have hil:i<σ.length:=by rw [I.len];exact(List.getElem?_eq_some_iff.mp hi).1
 have en:(σ.set i (some (.ref ea)))[i]? =some (some (.ref ea)):=List.getElem?_set_self hil
 obtain⟨m8,hn8,hl8⟩:=id I8.loc
 obtain⟨u8,r8,l8⟩:=hl8 i n _ hi en (.inl hkn)
 have eu:u8= .ref ea:=r8
 subst eu
 have hm8:m8 n=some (.ref ea):=by
  rcases l8 with ⟨_,q⟩|⟨q,_⟩
  ·exact q
  ·rw [hkn] at q;rcases q with q|q<;>cases q
 refine wpAny_execs_cons (wpAny_Assign_Name (wpAny_Name (wpAny_loadName_local I.ok.kind hkn hn8 hm8 ?_) hdn) hsw)
 refine uD I8 hN hj (.inl hkb) (v:= .ref ea) rfl (fun s9 I9=> ?_) (.inr hkb)
 refine wpAny_execs_nil ?_
 exact xb5 I9 hN hi hkn fun s10 I10=>k ea oe s10 H2 q0 hoec I10
end
structure KExc(K:tz0)(C:Addr):Prop where
 ga:PySem.W.findIn K (.ref C) "__getattribute__"=some (some (.builtin "BaseException.__getattribute__"))
 gt:PySem.W.findIn K (.ref C) "__getattr__"=some none
 a:PySem.W.findIn K (.ref C) "__class__"=some (some (.builtin "object.__class__"))
 n:PySem.W.specialIn K (.builtin "object.__class__") "__get__"=some (some (.builtin "getset_descriptor.__get__"))
 t:PySem.W.takesIn K (.builtin "object.__class__")=some true
 m:PySem.W.mroIn K C (.type "object")=some true
 b:PySem.W.mroIn K C (.type "BaseException")=some true
 c:(PySem.W.clsIn K C).isSome=true
section
variable{X:Cx}{C ea:Addr}{oe:Obj}
theorem ym3(hp:(ea,oe)∈X.pn)(hc:oe.cls= .ref C)(k:KExc X.K C):fV X (.builtin "isinstance") (fun xs H Q=>∃c b,xs=[.ref ea,c]/\(∀u,dD c u->PySem.W.kitOne X.K (.ref C) u=some b)/\Q (.bl b) H):=by
 intro pins s σ H xs us Q I r h
 obtain⟨c,b,rfl,e,q⟩:=h
 cases r with
 | cons r1 r2=>cases r2 with
  | cons r3 r4=>cases r4 with
   |nil=>
    cases r1
    exact PySem.W.kia_one (zs1 k.ga k.gt k.a k.n k.t k.m k.b k.c) I.kIn ⟨oe,(I.pin (ea,oe) (List.mem_append_left _ hp)).1,hc⟩ (e _ r3) (by intro z;cases z) fun tk=>⟨.bl b,H,I.tok tk,rfl,q⟩
theorem ym4(hp:(ea,oe)∈X.pn)(hc:oe.cls= .ref C)(k:KExc X.K C):fV X (.builtin "isinstance") (fun xs H Q=>∃tp its b,xs=[.ref ea,.ref tp]/\H tp=some (.tup its)/\(∀us,cD its us->PySem.W.kitAny X.K (.ref C) us=some b)/\Q (.bl b) H):=by
 intro pins s σ H xs us Q I r h
 obtain⟨tp,its,b,rfl,ht,e,q⟩:=h
 cases r with
 | cons r1 r2=>cases r2 with
  | cons r3 r4=>cases r4 with
   |nil=>
    cases r1;cases r3
    obtain⟨_,vs,rv,o,h1,h2,n,h3⟩:=(show fU X.prog X.w H s.heap tp (.tup its) from I.hok tp _ ht)
    obtain⟨c1,d1,e1,s1⟩:=o
    cases h2;cases h3
    exact PySem.W.kia_tup (zs1 k.ga k.gt k.a k.n k.t k.m k.b k.c) I.kIn ⟨oe,(I.pin (ea,oe) (List.mem_append_left _ hp)).1,hc⟩ h1 (e _ rv) (by intro z;cases z) fun tk=>⟨.bl b,H,I.tok tk,rfl,q⟩
end
def Cx.pinned(X:Cx)(ea:Addr)(oe:Obj):Cx:={X with pn:=X.pn++[(ea,oe)]}
section
variable{X:Cx}{pins:tzB}{σ:St}{H:Hp}{s:Shared}{ea:Addr}{oe:Obj}
theorem Inv.toPin(I:Inv X (pins++[(ea,oe)]) σ H s):Inv (X.pinned ea oe) pins σ H s:=
 ⟨⟨I.ok.mod,I.ok.kind,I.ok.glob,I.ok.blt,I.ok.above,I.ok.inj,I.ok.has,I.ok.cab,I.ok.hd,I.ok.frames,I.ok.stk,I.ok.exf,I.ok.bs,I.ok.bsz,I.ok.noex,I.ok.exfs,I.ok.funs,I.ok.frf⟩,I.os,I.bare,I.base,I.loc,I.cell,I.free,I.freeC,fun p hp=>I.pin p (by
  rcases List.mem_append.mp hp with h|h
  ·rcases List.mem_append.mp h with h|h
   ·exact List.mem_append_left _ h
   ·exact List.mem_append_right _ (List.mem_append_right _ h)
  ·exact List.mem_append_right _ (List.mem_append_left _ h)),I.hok,I.len⟩
theorem Inv.ofPin(I:Inv (X.pinned ea oe) pins σ H s):Inv X pins σ H s:=
 ⟨⟨I.ok.mod,I.ok.kind,I.ok.glob,I.ok.blt,I.ok.above,I.ok.inj,I.ok.has,I.ok.cab,I.ok.hd,I.ok.frames,I.ok.stk,I.ok.exf,I.ok.bs,I.ok.bsz,I.ok.noex,I.ok.exfs,I.ok.funs,I.ok.frf⟩,I.os,I.bare,I.base,I.loc,I.cell,I.free,I.freeC,fun p hp=>I.pin p (by
  rcases List.mem_append.mp hp with h|h
  ·exact List.mem_append_left _ (List.mem_append_left _ h)
  ·exact List.mem_append_right _ h),I.hok,I.len⟩
theorem SP.ofPin{D:Ends}{f:Flow}(h:SP (X.pinned ea oe) pins D f s):SP X pins D f s:=by
 cases f with
 |next=>obtain⟨σ',H',I,q⟩:=h;exact⟨σ',H',I.ofPin,q⟩
 |brk=>obtain⟨σ',H',I,q⟩:=h;exact⟨σ',H',I.ofPin,q⟩
 |cont=>obtain⟨σ',H',I,q⟩:=h;exact⟨σ',H',I.ofPin,q⟩
 |ret u=>obtain⟨v,σ',H',I,r,q⟩:=h;exact⟨v,σ',H',I.ofPin,r,q⟩
end
def yh8(j:Nat)(ea:Addr):TS:=fun D σ H=>σ[j]? =some (some (.ref ea))/\∀H',SameK H H'->D.rt (.bl true) H'
section
variable{X:Cx}{C C2:Addr}{U:tz9}{φ:F0}
theorem zH{x x0 cx n bad:Str}{i j:Nat}{st:Stmt}{rest:List Stmt}{ps:List Str}{fa:Addr}{fd:FuncData}{k np:Nat}{g:List D->Bool}{e:Expr}{es:List Expr}{ga:tz3}{p pos pos2 np' bp np2 ap p5 pos6:Pos}{bmB bmB2:List Value}{newId newId2:String}
  (Dd:Dn X.K X.mg x st ps fa fd) (G:FnOk X.prog X.w X.K X.mg X.base (CXn X.prog X.w X.base C) k fa fd ps (sW np X.K U C g)) (O:OwnCls x0 C bmB newId X.mg X.base) (O2:OwnCls cx C2 bmB2 newId2 X.mg X.base) (up:PySem.W.mroIn X.K C (.ref C2)=some true) (hbase:bmB2.contains (.type "BaseException")=true)
  (hr:Room k X.A) (hg:Gl X x) (hgc:Gl X cx) (hnp:(e::es).length=np) (ha:QVA X.nox U (e::es) ga) (hlen:∀ps ds,ga ps=some ds->ds.length=(e::es).length) (hstk:X.stack=X.env::X.outer) (hf:X.env.frame=some X.env.locals)
  (hN:X.N.Nodup) (hi:X.N[i]? =some n) (hj:X.N[j]? =some bad) (hij:i≠j) (hkn:X.env.kindOf n=some .local) (hkb:X.env.kindOf bad=some .local)
  (hrest:∀ea oe,oe.cls= .ref C->PSs (X.nox.pinned ea oe) rest (yh8 j ea))
  (hdb:(x==("__debug__":Str))=false:=by decide) (hdc:(cx==("__debug__":Str))=false:=by decide) (hdn:(n==("__debug__":Str))=false:=by decide) (he:starEach (e::es) X.env=(false,eval e X.env)::starEach es X.env:=by rfl) (hpl:(backTo pos (starEach es X.env)).any (·.1)=false:=by rfl)
  (hs:swapsWith (.Call (.Name x p) (e::es) [] pos) none pos2.line X.env=pure false:=by rfl) (hsw:swapsWith (.Name n np2) (some (.Name bad bp)) ap.line X.env=pure false:=by rfl):
  QSs X.nox U φ (.Try [.Expr (.Call (.Name x p) (e::es) [] pos) pos2] [.ExceptHandler (some (.Name cx np')) (some n) [.Assign [.Name bad bp] (.Name n np2) ap] p5] [] [] pos6::rest) (zv6 g ga):=by
 intro pins s σ H D I hh_
 obtain⟨pp,F,fl,ps',R,e1,q⟩:=hh_
 obtain⟨ds,e2,e3⟩:=bind_some e1
 obtain⟨hgd,e4⟩:=cN e3
 cases e4
 have J:Inv X pins σ H s:=I.unwish
 refine wpAny_execs_cons (wpAny_Try_except ?_)
 show wpAny (model X.prog X.w) X.A (execs [.Expr (.Call (.Name x p) (e::es) [] pos) pos2] X.env) _ _ s
 refine wpAny_execs_cons (wpAny_Expr_any ?_ J.quiet hs)
 refine wpAny_Call_Name_kw (oW J hg Dd.m ?_ hdb)
 refine PySem.W.callWith_K (h₀:=X.base) J.ok.mod.kin Dd.F.kp (wpAny_mono (ha pos pins s σ H (fun vs H1=>SameK H H1/\∃fp,Reps X.K U H1 vs ds fp) I ⟨pp,ds,R.ws,e2,fun vs H1 fp s1 r1=>⟨s1,fp,r1⟩⟩) (fun us s1 hu=> ?_) fun _ _ z=>z.elim) he hpl
 obtain⟨vs,H1,I1,r,sm,fp,rs⟩:=hu
 have J1:Inv X pins σ H1 s1:=I1.unwish
 refine⟨J1.kIn,?_⟩
 have hl:vs.length=np:=by rw [rs.length,hlen pp ds e2,hnp]
 have hps:ps.length=np:=(G.len vs H1 (fun _ _=>False) (fun _ _ _=>True) ⟨hl,ds,fp,rs,hgd,fun _ _=>trivial⟩).symm.trans hl
 have hlu:(us++([]:List Value)).length=ps.length:=by rw [List.append_nil,hps,<-hl,r.length]
 have hjl:j<σ.length:=by rw [I.len];exact(List.getElem?_eq_some_iff.mp hj).1
 refine wpAny_call (codeAny_mono (G.run X.A X.stack s1 H1 ⟨us,[]⟩ us vs (fun _ _=>False) (fun _ _ H'=>∀H'',SameK H' H''->D.rt (.bl true) H'') hr J1.env0 (by have:=Dd.b s1 us J1.kIn hlu;rwa [List.append_nil] at this) r ⟨hl,ds,fp,rs,hgd,fun H' s2 H'' s3=> ?_⟩) fun rr s' hq=> ?_)
 ·exact q (.bl true) σ H'' F [] (Stp.same R ((sm.trans s2).trans s3)) (OwnV.new R (fun _ h=>absurd h (by simp)) List.nodup_nil) (.bl true)
 ·cases rr with
  |error ee=>
   refine xb7 (X:=X.nox) (E1:=fun _ _ H'=>∀H'',SameK H' H''->D.rt (.bl true) H'') I1 hstk hf O O2 up hbase hgc hq hN hi hj hij hkn hkb (fun ea oe s4 H4 hE hc I4=> ?_) hdc hdn hsw
   refine wpAny_mono (hrest ea oe hc pins s4 _ H4 D I4.toPin ⟨?_,hE⟩) (fun f s5 z=>z.ofPin) fun _ _ z=>z
   rw [List.getElem?_set_ne hij,List.getElem?_set_self (by rw [List.length_set];exact hjl)]
  |ok f2=>
   cases f2 with
   |ret u=>obtain⟨_,_,_,_,_,_,_,z⟩:=hq;exact z.elim
   |next=>exact hq.elim
   |brk=>exact hq.elim
   |cont=>exact hq.elim
end
def sZ(j:Nat)(ea:Addr)(b:Bool):TE:=fun σ H Q=>σ[j]? =some (some (.ref ea))/\∀H',SameK H H'->Q (.bl b) H'
theorem zi4{X:Cx}{ea:Addr}{oe:Obj}:(ea,oe)∈(X.pinned ea oe).pn:=List.mem_append_right _ (List.mem_singleton.mpr rfl)
section
variable{Y:Cx}{C ea:Addr}{oe:Obj}{j:Nat}{bad:Str}{p bp pos:Pos}{b:Bool}
theorem xV{c:Expr}{cv:V}(hp:(ea,oe)∈Y.pn)(hc:oe.cls= .ref C)(k:KExc Y.K C)(hgi:Gl Y "isinstance")(hmi:Y.mg "isinstance"=none)(hN:Y.N[j]? =some bad)(hv:Vis Y.env.scope bad)(hcl:PE Y c (tC cv))(ho:∀u,dD cv u->PySem.W.kitOne Y.K (.ref C) u=some b)
  (hd:(bad==("__debug__":Str))=false:=by decide) (hcd:(bad==("__classdict__":Str))=false:=by decide)
  (he:starEach [.Name bad bp,c] Y.env=(false,eval (.Name bad bp) Y.env)::starEach [c] Y.env:=by rfl) (he2:starEach [c] Y.env=(false,eval c Y.env)::starEach [] Y.env:=by rfl) (hpl:(backTo pos (starEach [c] Y.env)).any (·.1)=false:=by rfl):
  PE Y (.Call (.Name "isinstance" p) [.Name bad bp,c] [] pos) (sZ j ea b):=
 (nI (ym3 hp hc k) hgi hmi rfl (fG (lS hN hv hd hcd) (fG hcl lE he2) he) (by decide) (by decide) he hpl).imp fun σ H Q h=>⟨.ref ea,h.1,cv,b,rfl,ho,h.2 H (.refl H)⟩
theorem zI{c1 c2:Expr}{v1 v2:V}{tp:Pos}{ctx:Nat}(hp:(ea,oe)∈Y.pn)(hc:oe.cls= .ref C)(k:KExc Y.K C)(hgi:Gl Y "isinstance")(hmi:Y.mg "isinstance"=none)(hN:Y.N[j]? =some bad)(hv:Vis Y.env.scope bad)(h1:PE Y c1 (tC v1))(h2:PE Y c2 (tC v2))(ho:∀us,cD [v1,v2] us->PySem.W.kitAny Y.K (.ref C) us=some b)
  (hd:(bad==("__debug__":Str))=false:=by decide) (hcd:(bad==("__classdict__":Str))=false:=by decide)
  (he:starEach [.Name bad bp,.Tuple [c1,c2] ctx tp] Y.env=(false,eval (.Name bad bp) Y.env)::starEach [.Tuple [c1,c2] ctx tp] Y.env:=by rfl) (he2:starEach [.Tuple [c1,c2] ctx tp] Y.env=(false,eval (.Tuple [c1,c2] ctx tp) Y.env)::starEach [] Y.env:=by rfl)
  (he3:starEach [c1,c2] Y.env=(false,eval c1 Y.env)::starEach [c2] Y.env:=by rfl) (he4:starEach [c2] Y.env=(false,eval c2 Y.env)::starEach [] Y.env:=by rfl) (hpl:(backTo pos (starEach [.Tuple [c1,c2] ctx tp] Y.env)).any (·.1)=false:=by rfl):
  PE Y (.Call (.Name "isinstance" p) [.Name bad bp,.Tuple [c1,c2] ctx tp] [] pos) (sZ j ea b):=
 (nI (ym4 hp hc k) hgi hmi rfl (fG (lS hN hv hd hcd) (fG (yk0 (fG h1 (fG h2 lE he4) he3)) lE he2) he) (by decide) (by decide) he hpl).imp fun σ H Q h=>
  ⟨.ref ea,h.1,⟨show 2<=sizeLine from Nat.le_trans (by decide) (pV (n:=2) (by decide)),fun a ha=>⟨a,[v1,v2],b,rfl,by unfold upd;rw [if_pos rfl],ho,h.2 _ (.new ha _)⟩⟩⟩
theorem zJ{f1 f2 f3:Expr}{a1 a2 a3:List Expr}{thn_:List Stmt}{j0:Nat}{p0 np cp cp1 cp2 cp3 n1 n2 n3 op ip rp:Pos}(hN:Y.N[j]? =some bad)(hv:Vis Y.env.scope bad)
  (h1:PE Y (.Call f1 a1 [] cp1) (sZ j ea true)) (h2:PE Y (.Call f2 a2 [] cp2) (sZ j ea true)) (h3:PE Y (.Call f3 a3 [] cp3) (sZ j ea false)) (hd:(bad==("__debug__":Str))=false:=by decide) (hcd:(bad==("__classdict__":Str))=false:=by decide):
  PSs Y [.If (.BoolOp .Or [.Compare (.Name bad np) [.Is] [.Constant .none j0 p0] cp,.UnaryOp .Not (.Call f1 a1 [] cp1) n1,.UnaryOp .Not (.Call f2 a2 [] cp2) n2] op) thn_ [] ip,.Return (some (.UnaryOp .Not (.Call f3 a3 [] cp3) n3)) rp] (yh8 j ea):=
 (kF (za0 (PW.pt (yc0 (xe8 (xe7 (lS hN hv hd hcd))) (yc0 (zZ (yi8 h1)) (yi9 (zZ (yi8 h2)))))) wK zg4) (tG (qW (xf2 h3)))).imp fun D σ H h=>by
  obtain⟨hσ,q⟩:=h
  refine⟨.ref ea,hσ,false,rfl,?_⟩
  refine⟨hσ,fun H1 s1=>⟨true,rfl,?_⟩⟩
  refine⟨hσ,fun H2 s2=>⟨true,rfl,?_⟩⟩
  exact⟨hσ,fun H3 s3=>⟨false,rfl,q H3 ((s1.trans s2).trans s3)⟩⟩
end
theorem yf3{K:tz0}{C:Addr}{bm:List Value}{nid:String}(q:PySem.W.excIn K C bm nid=true):(PySem.W.clsIn K C).isSome=true:=by
 unfold PySem.W.excIn at q
 unfold PySem.W.clsIn
 split at q
 ·rename_i ho
  rw [ho];rfl
 ·cases q
def vL(k:Nat)(g:D->D->Option D)(fb:tz8):tz8:=fun ps=>((ps[k]?).join).bind fun _=>(fb ps).bind fun r=>((r.2[k]?).join).bind fun x=>(g x r.1).bind fun d=>some (d,r.2)
section
variable{X:Cx}{U:tz9}{φ:F0}{b:Expr}{pos:Pos}
theorem tN(k:Nat){x:Str}{p0:Pos}{op:Operator}{g:D->D->Option D}{fb:tz8}(ho:OpR X (binaryOp op) (POp X.K U g))(hb:QE X U φ b fb)(hN:X.N[k]? =some x:=by rfl)(hv:Vis X.env.scope x:=by first|exact Or.inl rfl|exact Or.inr (Or.inl rfl)|exact Or.inr (Or.inr rfl))
  (hd:(x==("__debug__":Str))=false:=by decide) (hcd:(x==("__classdict__":Str))=false:=by decide):QE X U φ (.BinOp (.Name x p0) op b pos) (vL k g fb):=
 (gY ho (lS hN hv hd hcd) hb).imp fun σ H Q hh_=>by
  obtain⟨ps,F,d,ps',R,e,q⟩:=hh_
  obtain⟨x0,e0,e1⟩:=bind_some e
  obtain⟨⟨y,p1⟩,e3,e4⟩:=bind_some e1
  obtain⟨x1,e5,e6⟩:=bind_some e4
  obtain⟨d1,e7,e8⟩:=bind_some e6
  cases e8
  obtain⟨v,fv,h1,h2,_⟩:=R.rep k x0 (join_some e0)
  refine⟨v,h1,ps,F,y,p1,R,e3,fun u H2 F2 fu s2 o2 r2=> ?_⟩
  obtain⟨v',fv',k1,k2,_⟩:=s2.rs.rep k x1 (join_some e5)
  have ev:v'=v:=by rw [h1] at k1;cases k1;rfl
  subst ev
  refine⟨x1,y,_,fv',fu,k2,r2,e7,fun w H3 fw s3 n3 nd3 r3=> ?_⟩
  exact q w H3 F2 fw (s2.trans (.same s2.rs s3)) (OwnV.after s2 (OwnV.new s2.rs n3 nd3)) r3
end
end L2
namespace L3
open PySem PySem.Spec PyProof.Rows L2
@[irreducible] def PE:= @L2.PE
@[irreducible] def PT:= @L2.PT
@[irreducible] def PW:= @L2.PW
@[irreducible] def PA:= @L2.PA
@[irreducible] def PS:= @L2.PS
@[irreducible] def PSs:= @L2.PSs
@[irreducible] def PI:= @L2.PI
@[irreducible] def PG:= @L2.PG
@[irreducible] def PGs:= @L2.PGs
@[irreducible] def PTs:= @L2.PTs
@[irreducible] def PO:= @L2.PO
@[irreducible] def OpR:= @L2.OpR
@[irreducible] def fV:= @L2.fV
@[irreducible] def MtR:= @L2.MtR
abbrev QV(X:Cx)(U:tz9)(e:Expr)(f:tz2):Prop:=PE X e (tV X.K U f)
abbrev QP(X:Cx)(U:tz9)(e:Expr)(f:tz2):Prop:=PE X e (tP X.K U f)
abbrev QT(X:Cx)(U:tz9)(e:Expr)(f:tz4):Prop:=PT X e (tQ X.K U f)
abbrev QW(X:Cx)(U:tz9)(e:Expr)(f:tz4):Prop:=PW X e (tQ X.K U f)
abbrev QVA(X:Cx)(U:tz9)(es:List Expr)(f:tz3):Prop:=PA X es (tVA X.K U f)
abbrev QPA(X:Cx)(U:tz9)(es:List Expr)(f:tz3):Prop:=PA X es (tPA X.K U f)
abbrev QO(X:Cx)(U:tz9)(e:Option Expr)(f:PSt->Option (Option Int)):Prop:=PO X e (tO X.K U f)
abbrev QS(X:Cx)(U:tz9)(φ:F0)(st:Stmt)(f:tz1):Prop:=PS X st (tS (φ.fx X.K U) f)
abbrev QSs(X:Cx)(U:tz9)(φ:F0)(st:List Stmt)(f:tz1):Prop:=PSs X st (tS (φ.fx X.K U) f)
abbrev QE(X:Cx)(U:tz9)(φ:F0)(e:Expr)(f:tz8):Prop:=PE X e (tE (φ.fx X.K U) f)
abbrev QTE(X:Cx)(U:tz9)(φ:F0)(e:Expr)(f:PSt->Option (Bool×PSt)):Prop:=PT X e (tTE (φ.fx X.K U) f)
abbrev QIV(X:Cx)(U:tz9)(tg iter:Expr)(f:tz3):Prop:=PI X tg iter (tIV X.K U f)
abbrev QIP(X:Cx)(U:tz9)(tg iter:Expr)(f:tz3):Prop:=PI X tg iter (tIP X.K U f)
abbrev QX(X:Cx)(U:tz9)(φ:F0)(Ex:Hp->Prop)(st:Stmt)(fx:tz5):Prop:=PS X st (tX (φ.fx X.K U) fx Ex)
abbrev QXs(X:Cx)(U:tz9)(φ:F0)(Ex:Hp->Prop)(st:List Stmt)(fx:tz5):Prop:=PSs X st (tX (φ.fx X.K U) fx Ex)
abbrev QXe(X:Cx)(U:tz9)(φ:F0)(Ex:Hp->Prop)(e:Expr)(fx:tz5):Prop:=PE X e (tXe (φ.fx X.K U) fx Ex)
section
variable{X:Cx}
theorem qQ{x:Str}{v:V}{u:Value}{pos:Pos}(hg:Gl X x)(hm:X.mg x=some u)(r:dD v u)(hd:(x==("__debug__":Str))=false:=by decide):PE X (.Name x pos) (tC v):=by with_unfolding_all exact L2.qQ hg hm r hd
theorem xK{x:Str}{v:V}{u:Value}{pos:Pos}(hg:Gl X x)(hm:X.mg x=none)(hv:bootBuiltins x=some u)(r:dD v u)(hn:x≠"__name__":=by decide)(hd:(x==("__debug__":Str))=false:=by decide):PE X (.Name x pos) (tC v):=by with_unfolding_all exact L2.xK hg hm hv r hn hd
end
section
variable{X:Cx}{pos:Pos}
theorem kO{i:Nat}{x:Str}(hN:X.N.Nodup)(hi:X.N[i]? =some x)(hx:Loc X.env.scope x)(hf:X.fn x=true\/X.env.scope.names.lookup x=some .local:=by first|exact .inl rfl|exact .inr rfl|assumption):PG X (.Name x pos) (oO i):=by with_unfolding_all exact L2.kO hN hi hx hf
theorem zg5:PGs X [] yx3:=by with_unfolding_all exact L2.zg5
theorem oX{e:Expr}{es:List Expr}{t:TG}{u:TGs}(h1:PG X e t)(h2:PGs X es u)
  (hs:(assignEach (e::es) X.env).map (·.2)=assign e X.env::(assignEach es X.env).map (·.2):=by rfl):PGs X (e::es) (yh4 t u):=by with_unfolding_all exact L2.oX h1 h2 hs
end
section
variable{X:Cx}{U:tz9}{e a b:Expr}{f fa fb:tz2}
theorem QP.v(h:QP X U e f):QV X U e f:=by with_unfolding_all exact L2.QP.v h
theorem QV.p(h:QV X U e f):QP X U e (aY f):=by with_unfolding_all exact L2.QV.p h
theorem aC(i:Nat){x:Str}{pos:Pos}(hN:X.N[i]? =some x:=by rfl)(hv:Vis X.env.scope x:=by first|exact Or.inl rfl|exact Or.inr (Or.inl rfl)|exact Or.inr (Or.inr rfl))(hd:(x==("__debug__":Str))=false:=by decide)
  (hcd:(x==("__classdict__":Str))=false:=by decide):QV X U (.Name x pos) (aA i):=by with_unfolding_all exact L2.aC i hN hv hd hcd
theorem aG{i j pos}:QP X U (.Constant (.int i) j pos) (fC (.int i)):=by with_unfolding_all exact L2.aG
theorem bS{x j pos}:QP X U (.Constant (.str x) j pos) (fC (.str x)):=by with_unfolding_all exact L2.bS
theorem iI{b j pos}:QP X U (.Constant (.bool b) j pos) (fC (.bl b)):=by with_unfolding_all exact L2.iI
theorem oC{j pos}:QP X U (.Constant .none j pos) (fC .non):=by with_unfolding_all exact L2.oC
theorem zg8{x:Str}{v:V}{u:Value}{d:D}{pos:Pos}(hg:Gl X x)(hm:X.mg x=some u)(r:dD v u)(hd:∀H,Rep X.K U H v d [])(hdb:(x==("__debug__":Str))=false:=by decide):QP X U (.Name x pos) (fC d):=by with_unfolding_all exact L2.zg8 hg hm r hd hdb
theorem zn9{x:Str}{n:String}{pos:Pos}(hg:Gl X x)(hm:X.mg x=none)(hv:bootBuiltins x=some (.type n))(hn:x≠"__name__":=by decide)(hd:(x==("__debug__":Str))=false:=by decide):QP X U (.Name x pos) (fC (.ty n)):=by with_unfolding_all exact L2.zn9 hg hm hv hn hd
theorem bM{op:Operator}{g:D->D->Option D}{pos:Pos}(ho:OpR X (binaryOp op) (POp X.K U g))(ha:QV X U a fa)(hb:QV X U b fb):QP X U (.BinOp a op b pos) (f2 g fa fb):=by with_unfolding_all exact L2.bM ho ha hb
theorem qZ{op:CmpOp}{g:D->D->Option D}{pos:Pos}(ho:OpR X (compareOp op) (POp X.K U g))(ha:QV X U a fa)(hb:QV X U b fb)(hm:behindInMarks op b=false):QP X U (.Compare a [op] [b] pos) (f2 g fa fb):=by with_unfolding_all exact L2.qZ ho ha hb hm
theorem bU{op:CmpOp}{g:D->D->Option D}{pos:Pos}(ho:OpR X (compareOp op) (POp X.K U g))(ha:QV X U a fa)(hb:QV X U b fb)(hm:behindInMarks op b=false):QT X U (.Compare a [op] [b] pos) (fB (f2 g fa fb)):=by with_unfolding_all exact L2.bU ho ha hb hm
theorem fF(ha:QV X U a fa)(he:∀whole,isTrue a X.env whole=(do let v<-whole;standAt a.pos;holding [v] (truthy v)):=by intro _;rfl):QT X U a (fT fa):=by with_unfolding_all exact L2.fF ha he
variable{pos:Pos}{rest:List Expr}{ta tb:tz4}
theorem gH(ha:QT X U a ta):QW X U (.BoolOp .And [a] pos) ta:=by with_unfolding_all exact L2.gH ha
end
section
variable{X:Cx}{U:tz9}{e a b:Expr}{f fa fb:tz2}
variable{pos:Pos}{rest:List Expr}{ta tb:tz4}
theorem rA(ha:QT X U a ta):QW X U (.BoolOp .Or [a] pos) ta:=by with_unfolding_all exact L2.rA ha
end
section
variable{X:Cx}{U:tz9}{e a b:Expr}{f fa fb:tz2}
variable{pos:Pos}{rest:List Expr}{ta tb:tz4}
theorem hZ(ha:QT X U a ta)(hb:QW X U (.BoolOp .And (b::rest) pos) tb):QW X U (.BoolOp .And (a::b::rest) pos) (cF ta tb):=by with_unfolding_all exact L2.hZ ha hb
end
section
variable{X:Cx}{U:tz9}{e a b:Expr}{f fa fb:tz2}
variable{pos:Pos}{rest:List Expr}{ta tb:tz4}
theorem uF(ha:QT X U a ta)(hb:QW X U (.BoolOp .Or (b::rest) pos) tb):QW X U (.BoolOp .Or (a::b::rest) pos) (eH ta tb):=by with_unfolding_all exact L2.uF ha hb
end
section
variable{X:Cx}{U:tz9}{e a b:Expr}{f fa fb:tz2}
variable{pos:Pos}{rest:List Expr}{ta tb:tz4}
theorem jW(h:QW X U a ta):QT X U a ta:=by with_unfolding_all exact L2.jW h
end
section
variable{X:Cx}{U:tz9}{e a b:Expr}{f fa fb:tz2}
variable{pos:Pos}{rest:List Expr}{ta tb:tz4}
theorem jX(ha:QT X U a ta):QT X U (.UnaryOp .Not a pos) (dE ta):=by with_unfolding_all exact L2.jX ha
end
section
variable{X:Cx}{U:tz9}{e a b:Expr}{f fa fb:tz2}
variable{pos:Pos}{rest:List Expr}{ta tb:tz4}
theorem vZ{op}(h:QP X U a fa):QP X U (.BoolOp op [a] pos) fa:=by with_unfolding_all exact L2.vZ h
end
section
variable{X:Cx}{U:tz9}{e a b:Expr}{f fa fb:tz2}
variable{pos:Pos}{rest:List Expr}{ta tb:tz4}
theorem za8(ha:QP X U a fa)(hb:QP X U (.BoolOp .And (b::rest) pos) fb):QP X U (.BoolOp .And (a::b::rest) pos) (qG fa fb):=by with_unfolding_all exact L2.za8 ha hb
end
section
variable{X:Cx}{U:tz9}{e a b:Expr}{f fa fb:tz2}
variable{pos:Pos}{rest:List Expr}{ta tb:tz4}
theorem ye3(ha:QP X U a fa)(hb:QP X U (.BoolOp .Or (b::rest) pos) fb):QP X U (.BoolOp .Or (a::b::rest) pos) (fOr fa fb):=by with_unfolding_all exact L2.ye3 ha hb
end
section
variable{X:Cx}{U:tz9}{e a b:Expr}{f fa fb:tz2}
variable{pos:Pos}{rest:List Expr}{ta tb:tz4}
theorem lT(ha:QV X U a fa):QP X U (.UnaryOp .USub a pos) (eO fa):=by with_unfolding_all exact L2.lT ha
end
section
variable{X:Cx}{U:tz9}
theorem eP:OpR X (binaryOp .Add) (POp X.K U bE):=by with_unfolding_all exact L2.eP
theorem sA:OpR X (binaryOp .Sub) (POp X.K U fQ):=by with_unfolding_all exact L2.sA
theorem sB:OpR X (binaryOp .Mult) (POp X.K U jN):=by with_unfolding_all exact L2.sB
theorem fA:OpR X (binaryOp .Mod) (POp X.K U cU):=by with_unfolding_all exact L2.fA
theorem lM:OpR X (binaryOp .FloorDiv) (POp X.K U gM):=by with_unfolding_all exact L2.lM
theorem ye5:OpR X (binaryOp .Pow) (POp X.K U yh7):=by with_unfolding_all exact L2.ye5
theorem oF(hu:X.A.units<cLine):OpR X (compareOp .Lt) (POp X.K U dLt):=by with_unfolding_all exact L2.oF hu
theorem zq3:OpR X (compareOp .LtE) (POp X.K U dLe):=by with_unfolding_all exact L2.zq3
theorem uG:OpR X (compareOp .Gt) (POp X.K U dGt):=by with_unfolding_all exact L2.uG
theorem zA:OpR X (compareOp .GtE) (POp X.K U dGe):=by with_unfolding_all exact L2.zA
theorem eX(hu:X.A.units+64<cLine):OpR X (compareOp .Eq) (POp X.K U dEq):=by with_unfolding_all exact L2.eX hu
theorem ys7(hu:X.A.units+64<cLine):OpR X (compareOp .NotEq) (POp X.K U dNe):=by with_unfolding_all exact L2.ys7 hu
theorem zq5:OpR X (compareOp .Is) (POp X.K U dIs):=by with_unfolding_all exact L2.zq5
theorem zh1:OpR X (compareOp .IsNot) (POp X.K U wY):=by with_unfolding_all exact L2.zh1
theorem ys8:OpR X (compareOp .In) (POp X.K U dIn):=by with_unfolding_all exact L2.ys8
end
section
variable{X:Cx}{U:tz9}{e a b:Expr}{es:List Expr}{f fa fb:tz2}{g:tz3}{pos p2:Pos}
theorem aX:QVA X U [] aD:=by with_unfolding_all exact L2.aX
theorem aJ(ha:QV X U e f)(hr:QVA X U es g)(hs:starEach (e::es) X.env=(false,eval e X.env)::starEach es X.env:=by rfl):QVA X U (e::es) (aB f g):=by with_unfolding_all exact L2.aJ ha hr hs
theorem bD:QPA X U [] aD:=by with_unfolding_all exact L2.bD
theorem aN(ha:QP X U e f)(hr:QPA X U es g)(hs:starEach (e::es) X.env=(false,eval e X.env)::starEach es X.env:=by rfl):QPA X U (e::es) (aB f g):=by with_unfolding_all exact L2.aN ha hr hs
theorem dQ{x1}(h:QPA X U es g):QP X U (.Tuple es x1 pos) (cE g):=by with_unfolding_all exact L2.dQ h
theorem eB(h:QPA X U es g):QP X U (.List es pos) (cA g):=by with_unfolding_all exact L2.eB h
theorem bK(ha:QV X U a fa)(hb:QV X U b fb)(hs:pF b:=by exact fun _ _=>rfl):QV X U (.Subscript a b pos) (f2 dIx fa fb):=by with_unfolding_all exact L2.bK ha hb hs
theorem pN(ha:QP X U a fa)(hb:QV X U b fb)(hs:pF b:=by exact fun _ _=>rfl):QP X U (.Subscript a b pos) (f2 dIx fa fb):=by with_unfolding_all exact L2.pN ha hb hs
theorem tI:QO X U none jI:=by with_unfolding_all exact L2.tI
theorem tJ(h:QV X U e f):QO X U (some e) (mT f):=by with_unfolding_all exact L2.tJ h
theorem rB{lo hi:Option Expr}{fl fh:PSt->Option (Option Int)}(he:QV X U e f)(hl:QO X U lo fl)(hh:QO X U hi fh):QP X U (.Subscript e (.Slice lo hi none p2) pos) (fSl f fl fh):=by with_unfolding_all exact L2.rB he hl hh
theorem dJ{x:Str}{id:String}{p:Pos}{h:tz6}(hc:fV X (.builtin id) (PCl X.K U h))(hg:Gl X x)(hm:X.mg x=none)(hv:bootBuiltins x=some (.builtin id))(ha:QVA X U (e::es) g)(hn:x≠"__name__":=by decide)(hdb:(x==("__debug__":Str))=false:=by decide)
  (hs:starEach (e::es) X.env=(false,eval e X.env)::starEach es X.env:=by rfl) (hpl:(backTo pos (starEach es X.env)).any (·.1)=false:=by rfl):QP X U (.Call (.Name x p) (e::es) [] pos) (aI h g):=by with_unfolding_all exact L2.dJ hc hg hm hv ha hn hdb hs hpl
theorem iO{x:Str}{T:String}{p:Pos}{h:tz6}(hc:fV X (.type T) (PCl X.K U h))(hg:Gl X x)(hm:X.mg x=none)(hv:bootBuiltins x=some (.type T))(ha:QVA X U (e::es) g)(hn:x≠"__name__":=by decide)(hdb:(x==("__debug__":Str))=false:=by decide)
  (hs:starEach (e::es) X.env=(false,eval e X.env)::starEach es X.env:=by rfl) (hpl:(backTo pos (starEach es X.env)).any (·.1)=false:=by rfl):QP X U (.Call (.Name x p) (e::es) [] pos) (aI h g):=by with_unfolding_all exact L2.iO hc hg hm hv ha hn hdb hs hpl
theorem gD:fV X (.builtin "len") (PCl X.K U bV):=by with_unfolding_all exact L2.gD
theorem zo0:fV X (.builtin "isinstance") (PCl X.K U vF):=by with_unfolding_all exact L2.zo0
theorem zq7:fV X (.type "list") (PCl X.K U zf0):=by with_unfolding_all exact L2.zq7
theorem mI:fV X (.type "tuple") (PCl X.K U dG):=by with_unfolding_all exact L2.mI
theorem ye6:fV X (.type "int") (PCl X.K U oQ):=by with_unfolding_all exact L2.ye6
theorem uI{name:Str}{id:String}{apos:Pos}{h:D->tz6}(slot:Slot "str" name id)(hty:typeOf (.builtin id)=pure (.type "method_descriptor"))(hm:MtR X id (PMt X.K U h))(ho:QV X U a fa)(ha:QVA X U (e::es) g)
  (hbase:attributeBase a name X.env (eval a X.env)=eval a X.env:=by rfl)
  (hfew:((backTo pos (starEach (e::es) X.env)).all (fun x=> !x.1)&&(backToKw pos (keywordEach [] X.env)).all (fun x=>x.1.isSome)
   &&decide ((e::es).length+([]:List Keyword).length+(if ([]:List Keyword).isEmpty then 0 else 1)<30))=true:=by rfl)
  (hline:(apos.endLine==pos.line)=true:=by rfl) (hs:starEach (e::es) X.env=(false,eval e X.env)::starEach es X.env:=by rfl) (hplain:(backTo pos (starEach es X.env)).any (·.1)=false:=by rfl):
  QP X U (.Call (.Attribute a name apos) (e::es) [] pos) (fMt h fa g):=by with_unfolding_all exact L2.uI slot hty hm ho ha hbase hfew hline hs hplain
theorem zh2:MtR X "str.split" (PMt X.K U uB):=by with_unfolding_all exact L2.zh2
theorem zq8:MtR X "str.join" (PMt X.K U yD):=by with_unfolding_all exact L2.zq8
end
section
variable{X:Cx}{U:tz9}{φ:F0}{st:Stmt}{rest:List Stmt}{f g:tz1}{pos:Pos}
theorem bX:QSs X U φ [] aZ:=by with_unfolding_all exact L2.bX
theorem aR(h:QS X U φ st f):QSs X U φ [st] f:=by with_unfolding_all exact L2.aR h
theorem aM(h1:QS X U φ st f)(h2:QSs X U φ rest g):QSs X U φ (st::rest) (aO f g):=by with_unfolding_all exact L2.aM h1 h2
theorem nK:QS X U φ st rR:=by with_unfolding_all exact L2.nK
theorem QP.e{e:Expr}{f:tz2}(h:PE X e (tP X.K U f)):QE X U φ e (aH f):=by with_unfolding_all exact L2.QP.e h
theorem QT.e{e:Expr}{f:tz4}(h:PT X e (tQ X.K U f)):QTE X U φ e (aL f):=by with_unfolding_all exact L2.QT.e h
theorem bN(i:Nat){x:Str}{e:Expr}{pos':Pos}{f:tz8}(hN:X.N.Nodup)(hi:X.N[i]? =some x)(hx:Loc X.env.scope x)(hb:φ.bor i=false)(hm:φ.M i=false)(he:QE X U φ e f)(hs:swapsWith e (some (.Name x pos')) pos.line X.env=pure false:=by rfl)(hf:X.fn x=true\/X.env.scope.names.lookup x=some .local:=by first|exact .inl rfl|exact .inr rfl|assumption):
  QS X U φ (.Assign [.Name x pos'] e pos) (aS i f):=by with_unfolding_all exact L2.bN i hN hi hx hb hm he hs hf
theorem dW{e:Expr}{f:tz8}(he:QE X U φ e f)(hs:swapsWith e none pos.line X.env=pure false:=by rfl):QS X U φ (.Expr e pos) (bA f):=by with_unfolding_all exact L2.dW he hs
theorem cO{e:Expr}{f:tz8}(he:QE X U φ e f):QS X U φ (.Return (some e) pos) (bQ f):=by with_unfolding_all exact L2.cO he
theorem qR(i:Nat){x:Str}{p:Pos}(hb:φ.bor i=false)(hN:X.N[i]? =some x:=by rfl)(hv:Vis X.env.scope x:=by first|exact Or.inl rfl|exact Or.inr (Or.inl rfl)|exact Or.inr (Or.inr rfl))(hd:(x==("__debug__":Str))=false:=by decide)
  (hcd:(x==("__classdict__":Str))=false:=by decide):QS X U φ (.Return (some (.Name x p)) pos) (fJ i):=by with_unfolding_all exact L2.qR i hb hN hv hd hcd
theorem cG{c:Expr}{a b:List Stmt}{tc:PSt->Option (Bool×PSt)}(hc:QTE X U φ c tc)(ha:QSs X U φ a f)(hb:QSs X U φ b g):QS X U φ (.If c a b pos) (fIf tc f g):=by with_unfolding_all exact L2.cG hc ha hb
end
section
variable{X:Cx}{φ:Fx}{pos:Pos}{body:List Stmt}{f:tz1}
theorem zC{U:tz9}{φ:F0}(n:Nat){c:Expr}{tc:PSt->Option (Bool×PSt)}(hp:PassesOwn (model X.prog X.w) X.A X.env X.xe)(hc:QTE X U φ c tc)(hb:QSs X U φ body f):QS X U φ (.While c body [] pos) (lG tc f n):=by with_unfolding_all exact L2.zC n hp hc hb
end
section
variable{X:Cx}{U:tz9}{tg l a b:Expr}{f:tz2}{g:tz3}{p pos:Pos}
theorem nR(hg:Gl X "range")(hm:X.mg "range"=none)(ha:QVA X U [a] g)(hs:starEach [a] X.env=[(false,eval a X.env)]:=by rfl):QIP X U tg (.Call (.Name "range" p) [a] [] pos) (kC g):=by with_unfolding_all exact L2.nR hg hm ha hs
theorem wA(hg:Gl X "range")(hm:X.mg "range"=none)(ha:QVA X U [a,b] g)(hs:starEach [a,b] X.env=[(false,eval a X.env),(false,eval b X.env)]:=by rfl)(hs2:starEach [b] X.env=[(false,eval b X.env)]:=by rfl):QIP X U tg (.Call (.Name "range" p) [a,b] [] pos) (yG g):=by with_unfolding_all exact L2.wA hg hm ha hs hs2
theorem zb1(h:QP X U l f):QIP X U tg l (dR f):=by with_unfolding_all exact L2.zb1 h
theorem zb2(h:QV X U l f):QIV X U tg l (dR f):=by with_unfolding_all exact L2.zb2 h
end
section
variable{X:Cx}{φ:Fx}{pos:Pos}{body:List Stmt}{f:tz1}
theorem oG{U:tz9}{φ:F0}(i:Nat){x:Str}{px:Pos}{iter:Expr}{fi:tz3}(hp:PassesOwn (model X.prog X.w) X.A X.env X.xe)(hc:X.calm=true)(hN:X.N.Nodup)(hi:X.N[i]? =some x)(hx:Loc X.env.scope x)(hb:φ.bor i=false)(hm:φ.M i=false)
  (hit:PI X (.Name x px) iter (tIP X.K U fi)) (hbd:QSs X U φ body f) (hs:∀x,foldedSetIterable iter X.env x=pure x:=by intro _;rfl) (hf:X.fn x=true\/X.env.scope.names.lookup x=some .local:=by first|exact .inl rfl|exact .inr rfl|assumption):
  QS X U φ (.For (.Name x px) iter body [] pos) (fI i fi f):=by with_unfolding_all exact L2.oG i hp hc hN hi hx hb hm hit hbd hs hf
theorem qS{U:tz9}{φ:F0}(i j:Nat){x y:Str}{px py:Pos}(hp:PassesOwn (model X.prog X.w) X.A X.env X.xe)(hc:X.calm=true)(hN:X.N.Nodup)(hi:X.N[i]? =some x)(hx:Loc X.env.scope x)(hb:φ.bor i=false)(hm:φ.M i=false)(hj:φ.bor j=true)
  (hbd:QSs X U φ body f) (hNj:X.N[j]? =some y:=by rfl) (hv:Vis X.env.scope y:=by first|exact Or.inl rfl|exact Or.inr (Or.inl rfl)|exact Or.inr (Or.inr rfl)) (hd:(y==("__debug__":Str))=false:=by decide)
  (hcd:(y==("__classdict__":Str))=false:=by decide) (hs:∀x,foldedSetIterable (.Name y py) X.env x=pure x:=by intro _;rfl) (hf:X.fn x=true\/X.env.scope.names.lookup x=some .local:=by first|exact .inl rfl|exact .inr rfl|assumption):
  QS X U φ (.For (.Name x px) (.Name y py) body [] pos) (fI i (dR (aA j)) f):=by with_unfolding_all exact L2.qS i j hp hc hN hi hx hb hm hj hbd hNj hv hd hcd hs hf
end
section
variable{P:Program}{w:World}{K:tz0}{mg:tzA}{base:Heap}{U:tz9}
theorem eY{x qual:Str}{st:Stmt}{f:Addr}{fd:FuncData}{N ps:List Str}{k:Nat}{fb:tz1}(F:Fun K x qual st f fd)(S:FnScope N ps (aQ st))
  (hbody:∀(cdv:Value) (A:Around) (outer:List Env) (s:Shared) (H:Hp) (E:XK) (B:Nat->Addr->Prop),Room k (A.deeper (envOfC qual (aQ st) s.heap.objs.size f cdv))->
   QSs (eT CX0 P w K mg base N qual (aQ st) f cdv A outer s H E).nox U (f0P ps.length B) (cC st) fb):
  FnOk P w K mg base CX0 (k+1) f fd ps (SpP ps.length K U (gP ps.length (N.length-ps.length) fb)):=by with_unfolding_all exact L2.eY F S hbody
end
section
variable{X:Cx}{U:tz9}{e:Expr}{es:List Expr}{g:tz3}{pos p:Pos}
theorem dI{x:Str}{st:Stmt}{ps:List Str}{f:Addr}{fd:FuncData}{k np:Nat}{h:tz6}(Dd:Dn X.K X.mg x st ps f fd)(G:FnOk X.prog X.w X.K X.mg X.base CX0 k f fd ps (SpP np X.K U h))(hr:Room k X.A)(hg:Gl X x)(hnp:(e::es).length=np)(ha:QVA X U (e::es) g)
  (hlen:∀ps ds,g ps=some ds->ds.length=(e::es).length)
  (hdb:(x==("__debug__":Str))=false:=by decide) (he:starEach (e::es) X.env=(false,eval e X.env)::starEach es X.env:=by rfl) (hpl:(backTo pos (starEach es X.env)).any (·.1)=false:=by rfl):
  QP X U (.Call (.Name x p) (e::es) [] pos) (aI h g):=by with_unfolding_all exact L2.dI Dd G hr hg hnp ha hlen hdb he hpl
theorem wB{x:Str}{st:Stmt}{ps:List Str}{f:Addr}{fd:FuncData}{k:Nat}{h:tz6}(Dd:Dn X.K X.mg x st ps f fd)(G:FnOk X.prog X.w X.K X.mg X.base CX0 k f fd ps (SpP 0 X.K U h))(hr:Room k X.A)(hg:Gl X x)
  (hdb:(x==("__debug__":Str))=false:=by decide):QP X U (.Call (.Name x p) [] [] pos) (aI h aD):=by with_unfolding_all exact L2.wB Dd G hr hg hdb
end
section
variable{X:Cx}{U:tz9}{sc:Scope}{NX N:List Str}{pick:List (Option Nat)}{elt iter:Expr}{ifs:List Expr}{scope:Scope}{pos px:Pos}{x:Str}{fi:tz3}{ft:tz4}{fe:tz2}
theorem zh3{X:Cx}:PTs X [] (tQ X.K U zV):=by with_unfolding_all exact L2.zh3
theorem zh4{X:Cx}{c:Expr}(h:QT X U c ft):PTs X [c] (tQ X.K U ft):=by with_unfolding_all exact L2.zh4 h
theorem xR(S:CScope sc NX N pick scope)(hsc:X.env.scope=sc)(hNX:X.N=NX)(hc:X.calm=true)(hi:QIV X U (.Name x px) iter fi)
  (hg:∀cl fp s H,PG (cxB X N scope cl fp s H) (.Name x px) (oO 0)) (ht:∀cl fp s H,PTs (cxB X N scope cl fp s H) ifs (tQ X.K U ft)) (he:∀cl fp s H,PE (cxB X N scope cl fp s H) elt (tP X.K U fe))
  (hs:∀x,foldedSetIterable iter X.env x=pure x:=by intro _;rfl):QP X U (.ListComp elt [⟨.Name x px,iter,ifs,0⟩] scope pos) (sM pick fi ft fe):=by with_unfolding_all exact L2.xR S hsc hNX hc hi hg ht he hs
end
section
variable{X:Cx}{φ:F0}{U:tz9}{K:tz0}{o e a b:Expr}{f fb fe:tz2}{g:tz3}{pf:PSt->Option (List Ps1)}{j:Nat}{pos apos:Pos}
theorem bH(j:Nat){x:Str}(hN:X.N[j]? =some x:=by rfl)(hv:Vis X.env.scope x:=by first|exact Or.inl rfl|exact Or.inr (Or.inl rfl)|exact Or.inr (Or.inr rfl))(hd:(x==("__debug__":Str))=false:=by decide)
  (hcd:(x==("__classdict__":Str))=false:=by decide):PE X (.Name x pos) (gK K U j aW):=by with_unfolding_all exact L2.bH j hN hv hd hcd
theorem jK(ha:PE X a (gK X.K U j pf))(hb:QV X U b fb)(hs:pF b:=by exact fun _ _=>rfl):PE X (.Subscript a b pos) (gK X.K U j (dP j pf fb)):=by with_unfolding_all exact L2.jK ha hb hs
theorem wC{C fn:Str}(hc:Cls X.K (U C))(hna:cW X.K (U C) fn)(ha:PE X a (gK X.K U j pf))(hb:attributeBase a fn X.env (eval a X.env)=eval a X.env:=by rfl):PE X (.Attribute a fn pos) (gK X.K U j (hJ j pf C fn)):=by with_unfolding_all exact L2.wC hc hna ha hb
theorem fO(hb:φ.bor j=false)(ho:PE X o (gK X.K U j pf))(ha:PA X [e] (tPA X.K U g))
  (hbase:attributeBase o "append" X.env (eval o X.env)=eval o X.env:=by rfl)
  (hfew:((backTo pos (starEach [e] X.env)).all (fun x=> !x.1)&&(backToKw pos (keywordEach [] X.env)).all (fun x=>x.1.isSome)
   &&decide ([e].length+([]:List Keyword).length+(if ([]:List Keyword).isEmpty then 0 else 1)<30))=true:=by rfl)
  (hline:(apos.endLine==pos.line)=true:=by rfl) (hs:starEach [e] X.env=(false,eval e X.env)::starEach [] X.env:=by rfl) (hplain:(backTo pos (starEach [] X.env)).any (·.1)=false:=by rfl):
  QE X U φ (.Call (.Attribute o "append" apos) [e] [] pos) (bG j pf g bC):=by with_unfolding_all exact L2.fO hb ho ha hbase hfew hline hs hplain
end
section
variable{X:Cx}{φ:F0}{U:tz9}{K:tz0}{o e a b:Expr}{f fi fe:tz2}{g:tz3}{pf:PSt->Option (List Ps1)}{j:Nat}{pos apos:Pos}
theorem zr1(hb:φ.bor j=false)(ho:PE X o (gK X.K U j pf))
  (hbase:attributeBase o "pop" X.env (eval o X.env)=eval o X.env:=by rfl) (hline:(apos.endLine==pos.line)=true:=by rfl):QE X U φ (.Call (.Attribute o "pop" apos) [] [] pos) (bG j pf aD rT):=by with_unfolding_all exact L2.zr1 hb ho hbase hline
theorem lV{i:Expr}(hb:φ.bor j=false)(he:PE X e (tP X.K U fe))(ho:PE X o (gK X.K U j pf))(hi:PE X i (tV X.K U fi))(hs:swapsWithSole [.Subscript o i apos] e pos.line X.env=pure false:=by rfl)(hw:swappedStores [.Subscript o i apos] e X.env=pure none:=by rfl)
  (h1:(assignEach [.Subscript o i apos] X.env).map (·.2)=[assign (.Subscript o i apos) X.env]:=by rfl)
  (ha:∀v,assign (.Subscript o i apos) X.env v=(do
   let ov<-holding [v] (eval o X.env)
   let iv<-holding [v,ov] (eval i X.env)
   standAt apos
   holding [v,ov,iv] (setItem ov iv v)
   release [v,ov,iv] []):=by intro _;rfl):QS X U φ (.Assign [.Subscript o i apos] e pos) (dS j pf fi fe):=by with_unfolding_all exact L2.lV hb he ho hi hs hw h1 ha
end
section
variable{X:Cx}{U:tz9}{φ:F0}{es:List Expr}{pos p:Pos}{k:Nat}{is:List Nat}{e:Expr}{f:tz8}
theorem wH(hc:X.calm=true)(hg:PGs X es (zf1 is))(he:QE X U φ e f)(hb:∀i∈is,φ.bor i=false/\φ.M i=false)(hn:(assignEach es X.env).length=is.length:=by rfl)(hst:(assignEach es X.env).findIdx? (·.1)=none:=by rfl)
  (hs:swapsWithSole [.Tuple es k p] e pos.line X.env=pure false:=by rfl) (hw:swappedStores [.Tuple es k p] e X.env=pure none:=by rfl)
  (h1:(assignEach [.Tuple es k p] X.env).map (·.2)=[assign (.Tuple es k p) X.env]:=by rfl):QS X U φ (.Assign [.Tuple es k p] e pos) (vH is f):=by with_unfolding_all exact L2.wH hc hg he hb hn hst hs hw h1
end
section
variable{P:Program}{w:World}{K:tz0}{mg:tzA}{base:Heap}{U:tz9}
theorem mJ{x qual:Str}{st:Stmt}{f:Addr}{fd:FuncData}{N ps:List Str}{k:Nat}{fb:tz1}{m:Nat->Bool}(F:Fun K x qual st f fd)(S:FnScope N ps (aQ st))(hm:∀i,m i=true->i<ps.length)
  (hbody:∀(cdv:Value) (A:Around) (outer:List Env) (s:Shared) (H:Hp) (E:XK),Room k (A.deeper (envOfC qual (aQ st) s.heap.objs.size f cdv))->
   QSs (eT CX0 P w K mg base N qual (aQ st) f cdv A outer s H E).nox U (f0E ps.length m) (cC st) fb):
  FnOk P w K mg base CX0 (k+1) f fd ps (SpE ps.length K U m (gE ps.length (N.length-ps.length) m fb)):=by with_unfolding_all exact L2.mJ F S hm hbody
end
section
variable{X:Cx}{φ:F0}{U:tz9}{e:Expr}{es:List Expr}{as:List L2.Arg}{f:tz2}{pos p:Pos}
theorem dA:PA X [] (tIO X.K U []):=by with_unfolding_all exact L2.dA
theorem iP(j:Nat){x:Str}(hr:PA X es (tIO X.K U as))(hN:X.N[j]? =some x:=by rfl)(hv:Vis X.env.scope x:=by first|exact Or.inl rfl|exact Or.inr (Or.inl rfl)|exact Or.inr (Or.inr rfl))(hd:(x==("__debug__":Str))=false:=by decide)
  (hcd:(x==("__classdict__":Str))=false:=by decide) (hs:starEach (.Name x pos::es) X.env=(false,eval (.Name x pos) X.env)::starEach es X.env:=by rfl):PA X (.Name x pos::es) (tIO X.K U (.io j::as)):=by with_unfolding_all exact L2.iP j hr hN hv hd hcd hs
theorem bI(ha:QV X U e f)(hr:PA X es (tIO X.K U as))(hs:starEach (e::es) X.env=(false,eval e X.env)::starEach es X.env:=by rfl):PA X (e::es) (tIO X.K U (.im f::as)):=by with_unfolding_all exact L2.bI ha hr hs
theorem jZ{x:Str}{st:Stmt}{ps:List Str}{fa:Addr}{fd:FuncData}{k np:Nat}{m:Nat->Bool}{g:tz7}(Dd:Dn X.K X.mg x st ps fa fd)(G:FnOk X.prog X.w X.K X.mg X.base CX0 k fa fd ps (SpE np X.K U m g))(hr:Room k X.A)(hg:Gl X x)(ha:PA X (e::es) (tIO X.K U as))
  (hnp:np=as.length) (hm:m=lY as) (nd:(slots as).Nodup) (hb:∀j∈slots as,φ.bor j=false)
  (hdb:(x==("__debug__":Str))=false:=by decide) (he:starEach (e::es) X.env=(false,eval e X.env)::starEach es X.env:=by rfl) (hpl:(backTo pos (starEach es X.env)).any (·.1)=false:=by rfl):
  QE X U φ (.Call (.Name x p) (e::es) [] pos) (fIO as g):=by with_unfolding_all exact L2.jZ Dd G hr hg ha hnp hm nd hb hdb he hpl
end
section
theorem mL{X:Cx}{U:tz9}{es:List Expr}{ds:List D}(h:AreD es ds):QPA X U es (fKs ds):=by with_unfolding_all exact L2.mL h
end
section
variable{X:Cx}{U:tz9}{o e:Expr}{C fn:Str}{fo:tz2}{pos:Pos}
theorem eJ(hc:Cls X.K (U C))(hna:cW X.K (U C) fn)(ho:QV X U o fo)(hb:attributeBase o fn X.env (eval o X.env)=eval o X.env:=by rfl):QV X U (.Attribute o fn pos) (cZ C fn fo):=by with_unfolding_all exact L2.eJ hc hna ho hb
end
section
variable{X:Cx}{U:tz9}{φ:F0}{o e:Expr}{C fn:Str}{j:Nat}{pf:PSt->Option (List Ps1)}{fe:tz2}{pos pos':Pos}
theorem jE(hc:Cls X.K (U C))(hna:cW X.K (U C) fn)(hb:φ.bor j=false)(he:PE X e (tP X.K U fe))(ho:PE X o (gK X.K U j pf))(hs:swapsWith e (some (.Attribute o fn pos')) pos.line X.env=pure false:=by rfl):
  QS X U φ (.Assign [.Attribute o fn pos'] e pos) (dO j pf C fn fe):=by with_unfolding_all exact L2.jE hc hna hb he ho hs
end
section
variable{X:Cx}{U:tz9}{o e:Expr}{es:List Expr}{C m qual:Str}{st:Stmt}{ps:List Str}{f:Addr}{fd:FuncData}{k np:Nat}{h:tz6}{fo:tz2}{g:tz3}{apos pos p:Pos}{pl:Sem Bool}
theorem zF(M:Mn X.K U C m qual st ps f fd)(G:FnOk X.prog X.w X.K X.mg X.base CX0 k f fd ps (SpP 1 X.K U h))(hr:Room k X.A)(ho:QV X U o fo)
  (ht:eval (.Call (.Attribute o m apos) [] [] pos) X.env=(do
   let ov<-eval o X.env
   standAt apos.atName
   let (f,first)<-holding [ov] (getMethod ov m pl)
   callWith pos f first (backTo pos (starEach [] X.env)) (backToKw pos (keywordEach [] X.env))):=by rfl):
  QP X U (.Call (.Attribute o m apos) [] [] pos) (aI h (aB (fK C m fo) aD)):=by with_unfolding_all exact L2.zF M G hr ho ht
end
section
variable{X:Cx}{U:tz9}{φ:F0}{o e:Expr}{es:List Expr}{C m qual:Str}{st:Stmt}{ps:List Str}{f:Addr}{fd:FuncData}{k np j:Nat}{mk:Nat->Bool}{g:tz7}{pf:PSt->Option (List Ps1)}{as:List L2.Arg}{apos pos p:Pos}{pl:Sem Bool}
theorem kQ(M:Mn X.K U C m qual st ps f fd)(G:FnOk X.prog X.w X.K X.mg X.base CX0 k f fd ps (SpE np X.K U mk g))(hr:Room k X.A)(hb:φ.bor j=false)(ho:PE X o (gK X.K U j pf))(ha:PA X (e::es) (tIO X.K U as))(has:sO as=true)(hnp:np=as.length+1)(hm:mk=lA)
  (hst:starEach (e::es) X.env=(false,eval e X.env)::starEach es X.env:=by rfl) (hpl:(backTo pos (starEach es X.env)).any (·.1)=false:=by rfl)
  (ht:eval (.Call (.Attribute o m apos) (e::es) [] pos) X.env=(do
   let ov<-eval o X.env
   standAt apos.atName
   let (f,first)<-holding [ov] (getMethod ov m pl)
   callWith pos f first (backTo pos (starEach (e::es) X.env)) (backToKw pos (keywordEach [] X.env))):=by rfl):
  QE X U φ (.Call (.Attribute o m apos) (e::es) [] pos) (bG j pf (bB as) (fE C m g)):=by with_unfolding_all exact L2.kQ M G hr hb ho ha has hnp hm hst hpl ht
end
section
variable{X:Cx}{U:tz9}{e:Expr}{es:List Expr}{C qual:Str}{st:Stmt}{ps:List Str}{f:Addr}{fd:FuncData}{k np:Nat}{mk:Nat->Bool}{g:tz7}{as:List L2.Arg}{pos p:Pos}
theorem oZ(Kd:Kn X.K X.mg U C qual st ps f fd)(G:FnOk X.prog X.w X.K X.mg X.base CX0 k f fd ps (SpE np X.K U mk g))(hr:Room (k+1) X.A)(hg:Gl X C)(ha:PA X (e::es) (tIO X.K U as))(has:sO as=true)(hnp:np=as.length+1)(hm:mk=lA)
  (hdb:(C==("__debug__":Str))=false:=by decide) (he:starEach (e::es) X.env=(false,eval e X.env)::starEach es X.env:=by rfl) (hpl:(backTo pos (starEach es X.env)).any (·.1)=false:=by rfl):
  QP X U (.Call (.Name C p) (e::es) [] pos) (eL C (bB as) g):=by with_unfolding_all exact L2.oZ Kd G hr hg ha has hnp hm hdb he hpl
end
section
variable{X:Cx}{U:tz9}
theorem rE:MtR X "str.startswith" (PMt X.K U nB):=by with_unfolding_all exact L2.rE
end
section
theorem wJ{X:Cx}{U:tz9}{e:Expr}{f:tz2}(h:QP X U e f):QP X U e (pI f):=by with_unfolding_all exact L2.wJ h
end
section
variable{X:Cx}{U:tz9}
theorem zh8:MtR X "str.rfind" (PMt X.K U wZ):=by with_unfolding_all exact L2.zh8
end
section
variable{X:Cx}{U:tz9}{φ:F0}{a b:Expr}{pos:Pos}
theorem tM{f:PSt->Option (Bool×PSt)}(h:QTE X U φ a f):QTE X U φ (.UnaryOp .Not a pos) (nF f):=by with_unfolding_all exact L2.tM h
theorem qT{f:tz8}(h:QE X U φ a f)(he:∀whole,isTrue a X.env whole=(do let v<-whole;standAt a.pos;holding [v] (truthy v)):=by intro _;rfl):QTE X U φ a (fTE f):=by with_unfolding_all exact L2.qT h he
theorem zb8{op:CmpOp}{g:D->D->Option D}{fa:tz8}{fb:tz2}(ho:OpR X (compareOp op) (POp X.K U g))(ha:QE X U φ a fa)(hb:QV X U b fb)(hm:behindInMarks op b=false):QE X U φ (.Compare a [op] [b] pos) (fE2 g fa fb):=by with_unfolding_all exact L2.zb8 ho ha hb hm
end
section
variable{X:Cx}{U:tz9}{φ:F0}{a b o e:Expr}{es rest:List Expr}{pos apos p:Pos}{j:Nat}{pf:PSt->Option (List Ps1)}
theorem xT{g:tz3}(hb:φ.bor j=false)(ho:PE X o (gK X.K U j pf))(ha:PA X [e] (tVA X.K U g))
  (hbase:attributeBase o "pop" X.env (eval o X.env)=eval o X.env:=by rfl)
  (hfew:((backTo pos (starEach [e] X.env)).all (fun x=> !x.1)&&(backToKw pos (keywordEach [] X.env)).all (fun x=>x.1.isSome)
   &&decide ([e].length+([]:List Keyword).length+(if ([]:List Keyword).isEmpty then 0 else 1)<30))=true:=by rfl)
  (hline:(apos.endLine==pos.line)=true:=by rfl) (hs:starEach [e] X.env=(false,eval e X.env)::starEach [] X.env:=by rfl) (hplain:(backTo pos (starEach [] X.env)).any (·.1)=false:=by rfl):
  QE X U φ (.Call (.Attribute o "pop" apos) [e] [] pos) (bG j pf g vI):=by with_unfolding_all exact L2.xT hb ho ha hbase hfew hline hs hplain
theorem zr7{x:Str}{st:Stmt}{ps:List Str}{fa:Addr}{fd:FuncData}{k np:Nat}{m:Nat->Bool}{h:tz7}{g:tz3}(Dd:Dn X.K X.mg x st ps fa fd)(G:FnOk X.prog X.w X.K X.mg X.base CX0 k fa fd ps (SpE np X.K U m h))(hr:Room k X.A)(hg:Gl X x)(hm:m=vJ np)(hnp:(e::es).length=np)(ha:QPA X U (e::es) g)
  (hlen:∀ps ds,g ps=some ds->ds.length=(e::es).length)
  (hdb:(x==("__debug__":Str))=false:=by decide) (he:starEach (e::es) X.env=(false,eval e X.env)::starEach es X.env:=by rfl) (hpl:(backTo pos (starEach es X.env)).any (·.1)=false:=by rfl):
  QP X U (.Call (.Name x p) (e::es) [] pos) (xA h g):=by with_unfolding_all exact L2.zr7 Dd G hr hg hm hnp ha hlen hdb he hpl
end
section
variable{X:Cx}{U:tz9}
theorem zh9:MtR X "str.ljust" (PMt X.K U pX):=by with_unfolding_all exact L2.zh9
end
section
variable{P:Program}{w:World}{K:tz0}{mg:tzA}{base:Heap}{U:tz9}{C:Addr}
theorem sE{x qual:Str}{st:Stmt}{f:Addr}{fd:FuncData}{N ps:List Str}{k:Nat}{fx:tz5}(F:Fun K x qual st f fd)(S:FnScope N ps (aQ st))
  (hbody:∀(cdv:Value) (A:Around) (outer:List Env) (s:Shared) (H:Hp) (E:XK) (B:Nat->Addr->Prop),Room k (A.deeper (envOfC qual (aQ st) s.heap.objs.size f cdv))->
   QXs (eT (CXn P w base C) P w K mg base N qual (aQ st) f cdv A outer s H E) U (f0P ps.length B) (E (.ref C) none) (cC st) fx):
  FnOk P w K mg base (CXn P w base C) (k+1) f fd ps (sW ps.length K U C (gX ps.length (N.length-ps.length) fx)):=by with_unfolding_all exact L2.sE F S hbody
end
section
variable{X:Cx}{U:tz9}{φ:F0}{Ex:Hp->Prop}{fx:tz5}{st:Stmt}{rest:List Stmt}{pos:Pos}
theorem mM{f:tz1}(h1:QS X.nox U φ st f)(h2:QXs X U φ Ex rest fx):QXs X U φ Ex (st::rest) (jU f fx):=by with_unfolding_all exact L2.mM h1 h2
theorem gI(h1:QX X U φ Ex st fx):QXs X U φ Ex (st::rest) fx:=by with_unfolding_all exact L2.gI h1
theorem uO{c:Expr}{a b:List Stmt}{ft:tz4}(hc:QT X.nox U c ft)(ha:QXs X U φ Ex a fx):QX X U φ Ex (.If c a b pos) (sX ft fx):=by with_unfolding_all exact L2.uO hc ha
end
section
variable{P:Program}{w:World}{K:tz0}{mg:tzA}{base:Heap}{N:List Str}{qual:Str}{scope:Scope}{f C:Addr}{cd:Value}{A:Around}{outer:List Env}{s:Shared}{H:Hp}{E:XK}{U:tz9}{φ:F0}
theorem rF{x z:Str}{np cpos pos p1:Pos}{j:Nat}{B newId initId:String}{bmB:List Value}(O:OwnCls x C bmB newId mg base)(FB:ExcBaseFacts B newId initId bmB)(hg:Gl (eT (CXn P w base C) P w K mg base N qual scope f cd A outer s H E) x)
  (hd:(x==("__debug__":Str))=false:=by decide) (hs:starEach [.Constant (.str z) j p1] (envOfC qual scope s.heap.objs.size f cd)=[(false,eval (.Constant (.str z) j p1) (envOfC qual scope s.heap.objs.size f cd))]:=by rfl):
  QX (eT (CXn P w base C) P w K mg base N qual scope f cd A outer s H E) U φ (E (.ref C) none) (.Raise (some (.Call (.Name x np) [.Constant (.str z) j p1] [] cpos)) none pos) zf2:=by with_unfolding_all exact L2.rF O FB hg hd hs
theorem zi2{Cn m qual':Str}{st:Stmt}{ps:List Str}{fm:Addr}{fd:FuncData}{k:Nat}{g:List D->Bool}{o:Expr}{fo:tz2}{apos pos pos':Pos}{pl:Sem Bool}(M:Mn K U Cn m qual' st ps fm fd)(G:FnOk P w K mg base (CXn P w base C) k fm fd ps (sW 1 K U C g))
  (hr:Room k (A.deeper (envOfC qual scope s.heap.objs.size f cd))) (ho:QV (eT (CXn P w base C) P w K mg base N qual scope f cd A outer s H E).nox U o fo)
  (ht:eval (.Call (.Attribute o m apos) [] [] pos) (envOfC qual scope s.heap.objs.size f cd)=(do
   let ov<-eval o (envOfC qual scope s.heap.objs.size f cd)
   standAt apos.atName
   let (f',first)<-holding [ov] (getMethod ov m pl)
   callWith pos f' first (backTo pos (starEach [] (envOfC qual scope s.heap.objs.size f cd))) (backToKw pos (keywordEach [] (envOfC qual scope s.heap.objs.size f cd)))):=by rfl):
  QX (eT (CXn P w base C) P w K mg base N qual scope f cd A outer s H E) U φ (E (.ref C) none) (.Return (some (.Call (.Attribute o m apos) [] [] pos)) pos') (yH Cn m fo g):=by with_unfolding_all exact L2.zi2 M G hr ho ht
end
section
variable{P:Program}{w:World}{K:tz0}{mg:tzA}{base:Heap}{U:tz9}{C:Addr}
theorem nS{x qual:Str}{st:Stmt}{f:Addr}{fd:FuncData}{N ps:List Str}{k:Nat}{fx:tz5}{m:Nat->Bool}(F:Fun K x qual st f fd)(S:FnScope N ps (aQ st))
  (hbody:∀(cdv:Value) (A:Around) (outer:List Env) (s:Shared) (H:Hp) (E:XK),Room k (A.deeper (envOfC qual (aQ st) s.heap.objs.size f cdv))->
   QXs (eT (CXn P w base C) P w K mg base N qual (aQ st) f cdv A outer s H E) U (f0E ps.length m) (E (.ref C) none) (cC st) fx):
  FnOk P w K mg base (CXn P w base C) (k+1) f fd ps (mX ps.length K U m C (gX ps.length (N.length-ps.length) fx)):=by with_unfolding_all exact L2.nS F S hbody
end
section
variable{X:Cx}{U:tz9}{φ:F0}{Ex:Hp->Prop}{fx fy:tz5}{st:Stmt}{rest l:List Stmt}{pos:Pos}
theorem rG{f:tz1}(h1:QX X U φ Ex st fx)(hs:QS X.nox U φ st f)(h2:QXs X U φ Ex rest fy):QXs X U φ Ex (st::rest) (sY fx (jU f fy)):=by with_unfolding_all exact L2.rG h1 hs h2
theorem zr8{c:Expr}{a b:List Stmt}{ft:tz4}(hc:QT X.nox U c ft)(ha:QXs X U φ Ex a fx)(hb:QXs X U φ Ex b fy):QX X U φ Ex (.If c a b pos) (qP ft fx fy):=by with_unfolding_all exact L2.zr8 hc ha hb
theorem qU{e:Expr}(he:QXe X U φ Ex e fx)(hs:swapsWith e none pos.line X.env=pure false:=by rfl):QX X U φ Ex (.Expr e pos) fx:=by with_unfolding_all exact L2.qU he hs
theorem zr9(i:Nat){x:Str}{e:Expr}{pos':Pos}(hN:X.N.Nodup)(hi:X.N[i]? =some x)(hx:Loc X.env.scope x)(he:QXe X U φ Ex e fx)(hs:swapsWith e (some (.Name x pos')) pos.line X.env=pure false:=by rfl)(hf:X.fn x=true\/X.env.scope.names.lookup x=some .local:=by first|exact .inl rfl|exact .inr rfl|assumption):
  QX X U φ Ex (.Assign [.Name x pos'] e pos) fx:=by with_unfolding_all exact L2.zr9 i hN hi hx he hs hf
theorem zi3(i j:Nat){body:List Stmt}{f:tz1}{x y:Str}{px py:Pos}(hp:PassesOwn (model X.prog X.w) X.A X.env X.xe)(hc:X.calm=true)(hN:X.N.Nodup)(hi:X.N[i]? =some x)(hx:Loc X.env.scope x)(hb:φ.bor i=false)(hm:φ.M i=false)(hj:φ.bor j=true)
  (hbd:QSs X.nox U φ body f) (hbx:QXs X U φ Ex body fx) (hNj:X.N[j]? =some y:=by rfl) (hv:Vis X.env.scope y:=by first|exact Or.inl rfl|exact Or.inr (Or.inl rfl)|exact Or.inr (Or.inr rfl)) (hd:(y==("__debug__":Str))=false:=by decide)
  (hcd:(y==("__classdict__":Str))=false:=by decide) (hs:∀x,foldedSetIterable (.Name y py) X.env x=pure x:=by intro _;rfl) (hf:X.fn x=true\/X.env.scope.names.lookup x=some .local:=by first|exact .inl rfl|exact .inr rfl|assumption):
  QX X U φ Ex (.For (.Name x px) (.Name y py) body [] pos) (zo7 i (dR (aA j)) f fx):=by with_unfolding_all exact L2.zi3 i j hp hc hN hi hx hb hm hj hbd hbx hNj hv hd hcd hs hf
end
section
variable{P:Program}{w:World}{K:tz0}{mg:tzA}{base:Heap}{N:List Str}{qual:Str}{scope:Scope}{f C:Addr}{cd:Value}{A:Around}{outer:List Env}{s:Shared}{H:Hp}{E:XK}{U:tz9}{φ:F0}
theorem pA{Cn m qual':Str}{st:Stmt}{ps:List Str}{fm:Addr}{fd:FuncData}{k np j:Nat}{mk:Nat->Bool}{g:List D->Bool}{o e:Expr}{es:List Expr}{as:List L2.Arg}{pf:PSt->Option (List Ps1)}{apos pos:Pos}{pl:Sem Bool}(M:Mn K U Cn m qual' st ps fm fd)(G:FnOk P w K mg base (CXn P w base C) k fm fd ps (mX np K U mk C g))
  (hr:Room k (A.deeper (envOfC qual scope s.heap.objs.size f cd))) (hb:φ.bor j=false) (ho:PE (eT (CXn P w base C) P w K mg base N qual scope f cd A outer s H E).nox o (gK K U j pf)) (ha:PA (eT (CXn P w base C) P w K mg base N qual scope f cd A outer s H E).nox (e::es) (tIO K U as)) (has:sO as=true) (hnp:np=as.length+1) (hm:mk=lA)
  (hst:starEach (e::es) (envOfC qual scope s.heap.objs.size f cd)=(false,eval e (envOfC qual scope s.heap.objs.size f cd))::starEach es (envOfC qual scope s.heap.objs.size f cd):=by rfl) (hpl:(backTo pos (starEach es (envOfC qual scope s.heap.objs.size f cd))).any (·.1)=false:=by rfl)
  (ht:eval (.Call (.Attribute o m apos) (e::es) [] pos) (envOfC qual scope s.heap.objs.size f cd)=(do
   let ov<-eval o (envOfC qual scope s.heap.objs.size f cd)
   standAt apos.atName
   let (f',first)<-holding [ov] (getMethod ov m pl)
   callWith pos f' first (backTo pos (starEach (e::es) (envOfC qual scope s.heap.objs.size f cd))) (backToKw pos (keywordEach [] (envOfC qual scope s.heap.objs.size f cd)))):=by rfl):
  QXe (eT (CXn P w base C) P w K mg base N qual scope f cd A outer s H E) U φ (E (.ref C) none) (.Call (.Attribute o m apos) (e::es) [] pos) (mU j pf (bB as) (lH Cn m g)):=by with_unfolding_all exact L2.pA M G hr hb ho ha has hnp hm hst hpl ht
end
section
variable{X:Cx}{U:tz9}{es:List Expr}{fs:List (tz2)}
theorem zc0{a:Expr}{f:tz2}{p:Pos}(ha:PE X a (tV X.K U f))(hr:PJ X U es fs):PJ X U (.FormattedValue a (-1) none p::es) (f::fs):=by with_unfolding_all exact L2.zc0 ha hr
end
section
variable{P:Program}{w:World}{K:tz0}{mg:tzA}{base:Heap}{N:List Str}{qual:Str}{scope:Scope}{f C:Addr}{cd:Value}{A:Around}{outer:List Env}{s:Shared}{H:Hp}{E:XK}{U:tz9}{φ:F0}
theorem wL{x:Str}{np cpos pos p1:Pos}{v1 v2:Expr}{rest:List Expr}{fs:List (tz2)}{B newId initId:String}{bmB:List Value}(O:OwnCls x C bmB newId mg base)(FB:ExcBaseFacts B newId initId bmB)(hg:Gl (eT (CXn P w base C) P w K mg base N qual scope f cd A outer s H E) x)
  (hj:PJ (eT (CXn P w base C) P w K mg base N qual scope f cd A outer s H E).nox U (v1::v2::rest) fs) (hln:decide ((v1::v2::rest).length<=100)=true:=by decide+kernel)
  (hd:(x==("__debug__":Str))=false:=by decide) (hs:starEach [.JoinedStr (v1::v2::rest) p1] (envOfC qual scope s.heap.objs.size f cd)=[(false,eval (.JoinedStr (v1::v2::rest) p1) (envOfC qual scope s.heap.objs.size f cd))]:=by rfl):
  QX (eT (CXn P w base C) P w K mg base N qual scope f cd A outer s H E) U φ (E (.ref C) none) (.Raise (some (.Call (.Name x np) [.JoinedStr (v1::v2::rest) p1] [] cpos)) none pos) (zf3 fs):=by with_unfolding_all exact L2.wL O FB hg hj hln hd hs
end
section
variable{X:Cx}{C C2:Addr}{U:tz9}{φ:F0}
theorem zH{x x0 cx n bad:Str}{i j:Nat}{st:Stmt}{rest:List Stmt}{ps:List Str}{fa:Addr}{fd:FuncData}{k np:Nat}{g:List D->Bool}{e:Expr}{es:List Expr}{ga:tz3}{p pos pos2 np' bp np2 ap p5 pos6:Pos}{bmB bmB2:List Value}{newId newId2:String}
  (Dd:Dn X.K X.mg x st ps fa fd) (G:FnOk X.prog X.w X.K X.mg X.base (CXn X.prog X.w X.base C) k fa fd ps (sW np X.K U C g)) (O:OwnCls x0 C bmB newId X.mg X.base) (O2:OwnCls cx C2 bmB2 newId2 X.mg X.base) (up:PySem.W.mroIn X.K C (.ref C2)=some true) (hbase:bmB2.contains (.type "BaseException")=true)
  (hr:Room k X.A) (hg:Gl X x) (hgc:Gl X cx) (hnp:(e::es).length=np) (ha:QVA X.nox U (e::es) ga) (hlen:∀ps ds,ga ps=some ds->ds.length=(e::es).length) (hstk:X.stack=X.env::X.outer) (hf:X.env.frame=some X.env.locals)
  (hN:X.N.Nodup) (hi:X.N[i]? =some n) (hj:X.N[j]? =some bad) (hij:i≠j) (hkn:X.env.kindOf n=some .local) (hkb:X.env.kindOf bad=some .local)
  (hrest:∀ea oe,oe.cls= .ref C->PSs (X.nox.pinned ea oe) rest (yh8 j ea))
  (hdb:(x==("__debug__":Str))=false:=by decide) (hdc:(cx==("__debug__":Str))=false:=by decide) (hdn:(n==("__debug__":Str))=false:=by decide) (he:starEach (e::es) X.env=(false,eval e X.env)::starEach es X.env:=by rfl) (hpl:(backTo pos (starEach es X.env)).any (·.1)=false:=by rfl)
  (hs:swapsWith (.Call (.Name x p) (e::es) [] pos) none pos2.line X.env=pure false:=by rfl) (hsw:swapsWith (.Name n np2) (some (.Name bad bp)) ap.line X.env=pure false:=by rfl):
  QSs X.nox U φ (.Try [.Expr (.Call (.Name x p) (e::es) [] pos) pos2] [.ExceptHandler (some (.Name cx np')) (some n) [.Assign [.Name bad bp] (.Name n np2) ap] p5] [] [] pos6::rest) (zv6 g ga):=by with_unfolding_all exact L2.zH Dd G O O2 up hbase hr hg hgc hnp ha hlen hstk hf hN hi hj hij hkn hkb hrest hdb hdc hdn he hpl hs hsw
end
section
variable{Y:Cx}{C ea:Addr}{oe:Obj}{j:Nat}{bad:Str}{p bp pos:Pos}{b:Bool}
theorem xV{c:Expr}{cv:V}(hp:(ea,oe)∈Y.pn)(hc:oe.cls= .ref C)(k:KExc Y.K C)(hgi:Gl Y "isinstance")(hmi:Y.mg "isinstance"=none)(hN:Y.N[j]? =some bad)(hv:Vis Y.env.scope bad)(hcl:PE Y c (tC cv))(ho:∀u,dD cv u->PySem.W.kitOne Y.K (.ref C) u=some b)
  (hd:(bad==("__debug__":Str))=false:=by decide) (hcd:(bad==("__classdict__":Str))=false:=by decide)
  (he:starEach [.Name bad bp,c] Y.env=(false,eval (.Name bad bp) Y.env)::starEach [c] Y.env:=by rfl) (he2:starEach [c] Y.env=(false,eval c Y.env)::starEach [] Y.env:=by rfl) (hpl:(backTo pos (starEach [c] Y.env)).any (·.1)=false:=by rfl):
  PE Y (.Call (.Name "isinstance" p) [.Name bad bp,c] [] pos) (sZ j ea b):=by with_unfolding_all exact L2.xV hp hc k hgi hmi hN hv hcl ho hd hcd he he2 hpl
theorem zI{c1 c2:Expr}{v1 v2:V}{tp:Pos}{ctx:Nat}(hp:(ea,oe)∈Y.pn)(hc:oe.cls= .ref C)(k:KExc Y.K C)(hgi:Gl Y "isinstance")(hmi:Y.mg "isinstance"=none)(hN:Y.N[j]? =some bad)(hv:Vis Y.env.scope bad)(h1:PE Y c1 (tC v1))(h2:PE Y c2 (tC v2))(ho:∀us,cD [v1,v2] us->PySem.W.kitAny Y.K (.ref C) us=some b)
  (hd:(bad==("__debug__":Str))=false:=by decide) (hcd:(bad==("__classdict__":Str))=false:=by decide)
  (he:starEach [.Name bad bp,.Tuple [c1,c2] ctx tp] Y.env=(false,eval (.Name bad bp) Y.env)::starEach [.Tuple [c1,c2] ctx tp] Y.env:=by rfl) (he2:starEach [.Tuple [c1,c2] ctx tp] Y.env=(false,eval (.Tuple [c1,c2] ctx tp) Y.env)::starEach [] Y.env:=by rfl)
  (he3:starEach [c1,c2] Y.env=(false,eval c1 Y.env)::starEach [c2] Y.env:=by rfl) (he4:starEach [c2] Y.env=(false,eval c2 Y.env)::starEach [] Y.env:=by rfl) (hpl:(backTo pos (starEach [.Tuple [c1,c2] ctx tp] Y.env)).any (·.1)=false:=by rfl):
  PE Y (.Call (.Name "isinstance" p) [.Name bad bp,.Tuple [c1,c2] ctx tp] [] pos) (sZ j ea b):=by with_unfolding_all exact L2.zI hp hc k hgi hmi hN hv h1 h2 ho hd hcd he he2 he3 he4 hpl
theorem zJ{f1 f2 f3:Expr}{a1 a2 a3:List Expr}{thn_:List Stmt}{j0:Nat}{p0 np cp cp1 cp2 cp3 n1 n2 n3 op ip rp:Pos}(hN:Y.N[j]? =some bad)(hv:Vis Y.env.scope bad)
  (h1:PE Y (.Call f1 a1 [] cp1) (sZ j ea true)) (h2:PE Y (.Call f2 a2 [] cp2) (sZ j ea true)) (h3:PE Y (.Call f3 a3 [] cp3) (sZ j ea false)) (hd:(bad==("__debug__":Str))=false:=by decide) (hcd:(bad==("__classdict__":Str))=false:=by decide):
  PSs Y [.If (.BoolOp .Or [.Compare (.Name bad np) [.Is] [.Constant .none j0 p0] cp,.UnaryOp .Not (.Call f1 a1 [] cp1) n1,.UnaryOp .Not (.Call f2 a2 [] cp2) n2] op) thn_ [] ip,.Return (some (.UnaryOp .Not (.Call f3 a3 [] cp3) n3)) rp] (yh8 j ea):=by with_unfolding_all exact L2.zJ hN hv h1 h2 h3 hd hcd
end
section
variable{X:Cx}{U:tz9}{φ:F0}{b:Expr}{pos:Pos}
theorem tN(k:Nat){x:Str}{p0:Pos}{op:Operator}{g:D->D->Option D}{fb:tz8}(ho:OpR X (binaryOp op) (POp X.K U g))(hb:QE X U φ b fb)(hN:X.N[k]? =some x:=by rfl)(hv:Vis X.env.scope x:=by first|exact Or.inl rfl|exact Or.inr (Or.inl rfl)|exact Or.inr (Or.inr rfl))
  (hd:(x==("__debug__":Str))=false:=by decide) (hcd:(x==("__classdict__":Str))=false:=by decide):QE X U φ (.BinOp (.Name x p0) op b pos) (vL k g fb):=by with_unfolding_all exact L2.tN k ho hb hN hv hd hcd
end
end L3
namespace L3
open PySem PySem.Spec PyProof.Rows L2
def top(i:Nat):Stmt:=PySem.Challenge.pw_linepress_k12_choices_refused.main.body.getD i (.Pass ⟨0,0,0,0⟩)
end L3
namespace My
open PySem PySem.Spec PyProof.Rows L2 L3
variable{P:Program}{w:World}{K:tz0}{mg:tzA}{base:Heap}{U:tz9}
inductive Leaf where
 |word (x:Str)|gap (x:Str)|stop (c:Int)|fin
inductive Tk where
 |leaf (l:Leaf)|opn|cls|hng (n:Int)|bck|eit|orr|don
inductive Pc where
 |leaf (l:Leaf)|group (r:List Pc)|hang (n:Int) (r:List Pc)|either (rs:List (List Pc))
mutual
def cX:Pc->List Tk
 | .leaf l=>[.leaf l]
 | .group r=> .opn::(bR r++[.cls])
 | .hang n r=> .hng n::(bR r++[.bck])
 | .either rs=> .eit::(nO rs++[.don])
def bR:List Pc->List Tk
 |[]=>[]
 |p::r=>cX p++bR r
def nO:List (List Pc)->List Tk
 |[]=>[]
 |r::rs=>bR r++eV rs
def eV:List (List Pc)->List Tk
 |[]=>[]
 |r::rs=> .orr::(bR r++eV rs)
end
theorem rH:∀r s:List Pc,bR (r++s)=bR r++bR s
 |[],s=>rfl
 |p::r,s=>by
  show cX p++bR (r++s)=(cX p++bR r)++bR s
  rw [rH r s,List.append_assoc]
theorem ym5(p:Pc):bR [p]=cX p:=by
 show cX p++[]=cX p
 rw [List.append_nil]
structure Fm where
 op:Option Tk
 full:List (List Pc)
 parts:List Pc
mutual
def fM:Pc->Nat
 | .leaf _=>0
 | .group r=>cV r+1
 | .hang _ r=>cV r+1
 | .either rs=>lO rs+1
def cV:List Pc->Nat
 |[]=>0
 |p::r=>max (fM p) (cV r)
def lO:List (List Pc)->Nat
 |[]=>0
 |r::rs=>max (cV r) (lO rs)
end
theorem wM:∀(r:List Pc) (p:Pc),cV (r++[p])=max (cV r) (fM p)
 |[],p=>by
  exact Nat.max_comm (fM p) 0
 |q::r,p=>by
  show max (fM q) (cV (r++[p]))=max (max (fM q) (cV r)) (fM p)
  rw [wM r p,Nat.max_assoc]
theorem uQ:∀(rs:List (List Pc)) (r:List Pc),lO (rs++[r])=max (lO rs) (cV r)
 |[],r=>by
  exact Nat.max_comm (cV r) 0
 |q::rs,r=>by
  show max (cV q) (lO (rs++[r]))=max (max (cV q) (lO rs)) (cV r)
  rw [uQ rs r,Nat.max_assoc]
def yI(c:Nat):Bool:=decide (33<=c)&&decide (c<=126)
def zv7(z:Str):Prop:=1<=z.length/\z.length<=12/\z.cps.toList.all yI=true
def fL:Leaf->Prop
 | .word x=>zv7 x
 | .gap x=>x=""\/x=" "
 | .stop c=>0<=c/\c<=40
 | .fin=>True
end My
namespace My
open PySem PySem.Spec PyProof.Rows L2 L3
variable{P:Program}{w:World}{K:tz0}{mg:tzA}{base:Heap}{U:tz9}
def pY(ns:List Int)(k:Int):Int:=ns.getD (k % (ns.length:Int)).toNat 0
def zf4(ns:List Int)(k:Int):Int:=k/(if (ns.length:Int)>1 then(ns.length:Int) else 1)
def xl8(ns:List Int)(k salt:Int):Int:=PySem.Builtin.bitAnd (pY ns k) 2147483647+1009*k*k+7919*salt*salt+12
def yJ(ns:List Int)(k salt:Int):Int:=xl8 ns k salt*48271 % 2147483647
def yz4(ns:List Int)(k salt:Int):Int:=yJ ns k salt*yJ ns k salt % 2147483629
def vM(ns:List Int)(k salt:Int):Int:=PySem.Builtin.bitAnd (pY ns k/2^(31*(salt+128*zf4 ns k)).toNat+yz4 ns k salt) 2147483647
theorem zx2(ns:List Int)(k salt:Int):0<=vM ns k salt/\vM ns k salt<2147483648:=by
 have e:vM ns k salt=(pY ns k/2^(31*(salt+128*zf4 ns k)).toNat+yz4 ns k salt) % 2147483648:=PySem.W.kbt_mask _ 31
 rw [e]
 exact⟨Int.emod_nonneg _ (by decide),Int.emod_lt_of_pos _ (by decide)⟩
def zv8(K:tz0):Sp:=fun vs H Q _=>∃(a:Addr) (ns:List Int) (k:Int),vs=[.ref a,.int k]/\SqL K H a (ns.map V.int)/\Q (.int (pY ns k)) H
def yb7(K:tz0):Sp:=fun vs H Q _=>∃(a:Addr) (ns:List Int) (k salt:Int),vs=[.ref a,.int k,.int salt]/\SqL K H a (ns.map V.int)/\ns.length<=63/\(0<=k/\k<1000000)/\(0<=salt/\salt<1000000)/\Q (.int (vM ns k salt)) H
abbrev gQ:Stmt:=top 20
theorem zs2:FnScope ["_law_script","_law_k"] ["_law_script","_law_k"] (aQ gQ):=⟨rfl,rfl,rfl,by decide+kernel,rfl,by decide+kernel,by decide+kernel⟩
theorem zs3{n:Nat}{f:Addr}{fd:FuncData}(D:Dn K mg "_law_cell_at" gQ ["_law_script","_law_k"] f fd)(af:mg "len"=none):
  FnOk P w K mg base CX0 (n+1) f fd ["_law_script","_law_k"] (zv8 K):=by
 refine D.F.ok zs2 (fun vs H Q E h=> ?_) (fun cdv A outer s H vs Q E hr h=> ?_)
 ·obtain⟨a,ns,k,rfl,_⟩:=h
  rfl
 obtain⟨a,ns,k,rfl,hS,q⟩:=h
 refine⟨_,(kF (za0 (zy7 yc6 (nI kP rfl af boot_len (fG (pv 0) lE)) jJ (bL _)) (tG (qW jJ)) zg4)
  (tG (qW (zn6 zg6 (pv 0) (gY za1 (pv 1) (nI kP rfl af boot_len (fG (pv 0) lE))) (fun _ _=>rfl))))),?_⟩
 have hl:(ns.map V.int).length=ns.length:=List.length_map _
 refine⟨_,rfl,a,_,rfl,.inl hS,rfl,_,rfl,?_⟩
 refine xo8 (fun c=> ?_) (fun c=> ?_)
 ·have e:(((ns.map V.int).length:Nat):Int)=0:=by simpa using c
  have e':ns=[]:=by
   rw [hl] at e
   exact List.eq_nil_of_length_eq_zero (by omega)
  subst e'
  exact q
 ·have e:¬(((ns.map V.int).length:Nat):Int)=0:=by simpa using c
  rw [hl] at e
  have hp:(0:Int)<((ns.map V.int).length:Nat):=by rw [hl];omega
  refine⟨_,rfl,_,rfl,_,rfl,a,_,rfl,.inl hS,_,_,rfl,rfl,hp,a,_,_,_,rfl,rfl,hS,?_,q⟩
  rw [hl]
  have h0:=Int.emod_nonneg k e
  have h1:=Int.emod_lt_of_pos k (show(0:Int)<ns.length by omega)
  have ek:k % (ns.length:Int)=(((k % (ns.length:Int)).toNat:Nat):Int):=by omega
  rw [ek]
  refine xN ?_
  rw [List.getElem?_map,List.getElem?_eq_getElem (by omega)]
  unfold pY
  rw [List.getD_eq_getElem?_getD,List.getElem?_eq_getElem (by omega)]
  rfl
abbrev gR:Stmt:=top 21
theorem mO:FnScope ["_law_script","_law_k","_law_salt","_law_cell","_law_lap","_law_near"] ["_law_script","_law_k","_law_salt"] (aQ gR):=⟨rfl,rfl,rfl,by decide+kernel,rfl,by decide+kernel,by decide+kernel⟩
theorem yf4{n:Nat}{f f1:Addr}{fd fd1:FuncData}(D:Dn K mg "_law_mixed" gR ["_law_script","_law_k","_law_salt"] f fd)(ck:Dn K mg "_law_cell_at" gQ ["_law_script","_law_k"] f1 fd1)
  (dw:FnOk P w K mg base CX0 n f1 fd1 ["_law_script","_law_k"] (zv8 K)) (af:mg "len"=none) (t4:mg "max"=none):
  FnOk P w K mg base CX0 (n+1) f fd ["_law_script","_law_k","_law_salt"] (yb7 K):=by
 refine D.F.ok mO (fun vs H Q E h=> ?_) (fun cdv A outer s H vs Q E hr h=> ?_)
 ·obtain⟨a,ns,k,salt,rfl,_⟩:=h
  rfl
 obtain⟨a,ns,k,salt,rfl,hS,h63,⟨hk0,hk1⟩,⟨hs0,hs1⟩,q⟩:=h
 refine⟨_,(kF (qX (i:=3) mO.nd rfl (.inl rfl) (zn7 ck dw hr rfl (fG (pv 0) (fG (pv 1) lE))))
  (kF (qX (i:=4) mO.nd rfl (.inl rfl) (gY zy2 (pv 1) (nI (yj7 rfl) rfl t4 boot_max (fG jJ (fG (nI kP rfl af boot_len (fG (pv 0) lE)) lE)))))
  (kF (qX (i:=5) mO.nd rfl (.inl rfl) (gY tH (gY tH (gY tH (gY yj5 (pv 3) jJ) (gY oA (gY oA jJ (pv 1)) (pv 1))) (gY oA (gY oA jJ (pv 2)) (pv 2))) jJ))
  (kF (qX (i:=5) mO.nd rfl (.inl rfl) (gY za1 (gY oA (pv 5) jJ) jJ))
  (kF (qX (i:=5) mO.nd rfl (.inl rfl) (gY za1 (gY oA (pv 5) (pv 5)) jJ))
  (tG (qW (gY yj5 (gY tH (gY xf7 (pv 3) (gY oA jJ (gY tH (pv 2) (gY oA jJ (pv 4))))) (pv 5)) jJ)))))))),?_⟩
 have hl:(ns.map V.int).length=ns.length:=List.length_map _
 have hlap:0<=zf4 ns k:=by unfold zf4;exact Int.ediv_nonneg hk0 (by split<;>omega)
 have hn1:0<=yJ ns k salt/\yJ ns k salt<2147483647:=⟨Int.emod_nonneg _ (by decide),Int.emod_lt_of_pos _ (by decide)⟩
 refine⟨_,rfl,_,rfl,a,ns,k,rfl,hS,?_⟩
 refine⟨_,rfl,_,rfl,a,_,rfl,.inl hS,_,_,rfl,_,_,rfl,rfl,?_,?_⟩
 ·rw [hl];constructor
  ·split<;>omega
  ·split<;>omega
 rw [hl]
 refine⟨_,rfl,_,_,rfl,rfl,_,rfl,_,_,rfl,rfl,.inl ⟨by decide,by decide⟩,_,rfl,_,_,rfl,rfl,.inr ⟨by omega,by omega⟩,_,_,rfl,rfl,_,rfl,_,_,rfl,rfl,.inl ⟨by decide,by decide⟩,_,rfl,_,_,rfl,rfl,.inr ⟨by omega,by omega⟩,_,_,rfl,rfl,_,_,rfl,rfl,?_⟩
 refine⟨_,rfl,_,_,rfl,rfl,.inr ⟨by decide,by decide⟩,_,_,rfl,rfl,(by show(0:Int)<2147483647;decide),?_⟩
 refine⟨_,rfl,_,rfl,_,_,rfl,rfl,.inl ⟨by show-(2^64)<yJ ns k salt;omega,by show yJ ns k salt<2^64;omega⟩,_,_,rfl,rfl,(by show(0:Int)<2147483629;decide),?_⟩
 refine⟨_,rfl,_,rfl,_,rfl,_,_,rfl,rfl,.inl ⟨by decide,by decide⟩,_,_,rfl,rfl,_,_,rfl,rfl,.inl ⟨by decide,by decide⟩,_,_,rfl,rfl,?_,_,rfl,_,_,rfl,rfl,_,_,rfl,rfl,q⟩
 show 0<=31*(salt+128*zf4 ns k)
 omega
end My
namespace L3
open PySem PySem.Spec PyProof.Rows L2 My
variable{P:Program}{w:World}{K:tz0}{mg:tzA}{base:Heap}{U:tz9}
def rV(ce:(tz7)):tz1:=
 (bQ (aH (pI (eL "Place" (bB [.im (fC (.bl true)),.im (fC (.int 0))]) ce))))
abbrev fR:Stmt:=top 8
theorem zK:FnScope [] [] (aQ fR):=⟨rfl,rfl,rfl,by decide+kernel,rfl,by decide+kernel,by decide+kernel⟩
theorem zL{n:Nat}{f:Addr}{fd:FuncData}{ce:(tz7)}{b6:Addr}{g4:FuncData}(bj:Dn K mg "first_place" fR [] f fd)
  (g5:Kn K mg U "Place" "Place.__init__" gW ["self","broken","margin"] b6 g4) (eh:FnOk P w K mg base CX0 n b6 g4 ["self","broken","margin"] (SpE 3 K U (bF [true,false,false]) ce)):
  FnOk P w K mg base CX0 ((n+1)+1) f fd [] (SpP 0 K U (gP 0 0 (rV ce))):=
 eY bj.F zK fun cdv A outer s H E B hr=>
 (aR (cO (QP.e (wJ (oZ g5 eh hr rfl (bI (QP.v iI) (bI (QP.v aG) dA)) rfl rfl (dX 2))))))
def sP:tz1:=
 (bQ (aH (f2 dIn (f2 dIx (aA 0) (fC (.int 0))) (fC (.tup [(.str "group"),(.str "hang"),(.str "either")])))))
abbrev gA:Stmt:=top 9
theorem zc1:FnScope ["piece"] ["piece"] (aQ gA):=⟨rfl,rfl,rfl,by decide+kernel,rfl,by decide+kernel,by decide+kernel⟩
theorem zc2{n:Nat}{f:Addr}{fd:FuncData}{a_HOLDERS:Addr}(bu:Dn K mg "holds_rows" gA ["piece"] f fd)
  (nn:mg "HOLDERS"=some (.ref a_HOLDERS)) (k_HOLDERS:∀H,Rep K U H (.ref a_HOLDERS) (.tup [(.str "group"),(.str "hang"),(.str "either")]) []):
  FnOk P w K mg base CX0 (n+1) f fd ["piece"] (SpP 1 K U (gP 1 0 (sP))):=
 eY bu.F zc1 fun cdv A outer s H E B hr=>
 (aR (cO (QP.e (qZ ys8 (bK (aC 0) (QP.v aG)) (QP.v (zg8 (v:= .ref a_HOLDERS) (d:=(.tup [(.str "group"),(.str "hang"),(.str "either")])) rfl nn rfl k_HOLDERS)) (by with_unfolding_all rfl)))))
def qJ:tz1:=
 (bQ (aH (fOr (f2 dEq (f2 dIx (aA 0) (fC (.int 0))) (fC (.str "either"))) (qG (f2 dEq (f2 dIx (aA 0) (fC (.int 0))) (fC (.str "group"))) (aY (cZ "Place" "broken" (aA 1)))))))
abbrev fH:Stmt:=top 10
theorem yQ:FnScope ["piece","place"] ["piece","place"] (aQ fH):=⟨rfl,rfl,rfl,by decide+kernel,rfl,by decide+kernel,by decide+kernel⟩
theorem yR{n:Nat}{f:Addr}{fd:FuncData}(ay:Dn K mg "takes_choice" fH ["piece","place"] f fd)
  (bx:Cls K (U "Place"))
  (ca:cW K (U "Place") "broken"):
  FnOk P w K mg base CX0 (n+1) f fd ["piece","place"] (SpP 2 K U (gP 2 0 (qJ))):=
 eY ay.F yQ fun cdv A outer s H E B hr=>
 (aR (cO (QP.e (ye3 (qZ (eX (Room.units hr)) (bK (aC 0) (QP.v aG)) (QP.v bS) (bL _)) (vZ (za8 (qZ (eX (Room.units hr)) (bK (aC 0) (QP.v aG)) (QP.v bS) (bL _)) (vZ (QV.p (eJ (C:="Place") bx ca (aC 1))))))))))
def lZ(ce:(tz7)):tz1:=
 (aO (aS 2 (aH (aY (f2 dIx (aA 0) (fC (.int 0))))))
 (aO (fIf (aL (fB (f2 dEq (aA 2) (fC (.str "hang")))))
  (bQ (aH (cA (aB (cE (aB (aY (f2 dIx (aA 0) (fC (.int 2)))) (aB (pI (eL "Place" (bB [.im (cZ "Place" "broken" (aA 1)),.im (f2 bE (cZ "Place" "margin" (aA 1)) (f2 dIx (aA 0) (fC (.int 1))))]) ce)) aD))) aD))))
  aZ)
 (aO (fIf (aL (fB (f2 dEq (aA 2) (fC (.str "either")))))
  (bQ (aH (sM [none,some 1] (dR (f2 dIx (aA 0) (fC (.int 1)))) zV (cE (aB (aY (aA 0)) (aB (aY (aA 1)) aD))))))
  aZ)
 (aO (aS 3 (aH (cE (aB (aY (f2 dIx (aA 0) (fC (.int 1)))) (aB (pI (eL "Place" (bB [.im (fC (.bl false)),.im (cZ "Place" "margin" (aA 1))]) ce)) aD)))))
 (aO (fIf (aL (fT (cZ "Place" "broken" (aA 1))))
  (bQ (aH (cA (aB (aY (aA 3)) (aB (cE (aB (aY (f2 dIx (aA 0) (fC (.int 1)))) (aB (aY (aA 1)) aD))) aD)))))
  aZ)
 (bQ (aH (cA (aB (aY (aA 3)) aD)))))))))
abbrev kD:Stmt:=top 11
theorem wN:FnScope ["piece","place","kind","on_one_line"] ["piece","place"] (aQ kD):=⟨rfl,rfl,rfl,by decide+kernel,rfl,by decide+kernel,by decide+kernel⟩
theorem ym6{n:Nat}{f:Addr}{fd:FuncData}{ce:(tz7)}{b6:Addr}{g4:FuncData}(gd:Dn K mg "ways" kD ["piece","place"] f fd)
  (g5:Kn K mg U "Place" "Place.__init__" gW ["self","broken","margin"] b6 g4) (eh:FnOk P w K mg base CX0 n b6 g4 ["self","broken","margin"] (SpE 3 K U (bF [true,false,false]) ce))
  (bx:Cls K (U "Place"))
  (ca:cW K (U "Place") "broken")
  (d7:cW K (U "Place") "margin"):
  FnOk P w K mg base CX0 ((n+1)+1) f fd ["piece","place"] (SpP 2 K U (gP 2 2 (lZ ce))):=
 eY gd.F wN fun cdv A outer s H E B hr=>
 (aM (bN 2 wN.nd rfl (.inl rfl) rfl rfl (QP.e (QV.p (bK (aC 0) (QP.v aG)))))
 (aM (cG (QT.e (bU (eX (Room.units hr)) (aC 2) (QP.v bS) (bL _)))
  (aR (cO (QP.e (eB (aN (dQ (aN (QV.p (bK (aC 0) (QP.v aG))) (aN (wJ (oZ g5 eh hr rfl (bI (eJ (C:="Place") bx ca (aC 1)) (bI (QP.v (bM eP (eJ (C:="Place") bx d7 (aC 1)) (bK (aC 0) (QP.v aG)))) dA)) rfl rfl (dX 2))) bD))) bD)))))
  bX)
 (aM (cG (QT.e (bU (eX (Room.units hr)) (aC 2) (QP.v bS) (bL _)))
  (aR (cO (QP.e (xR (sc:=aQ kD) (NX:=["piece","place","kind","on_one_line"]) (N:=["row","place"]) (pick:=[none,some 1]) ⟨rfl,by decide+kernel,by decide+kernel,by decide+kernel,by decide+kernel,by decide,rfl⟩ rfl rfl rfl (zb2 (bK (aC 0) (QP.v aG))) (fun _ _ _ _=>(kO (i:=0) (show(["row","place"]:List Str).Nodup by decide) rfl (.inl rfl))) (fun _ _ _ _=>zh3) (fun _ _ _ _=>(dQ (aN (QV.p (aC 0)) (aN (QV.p (aC 1)) bD))))))))
  bX)
 (aM (bN 3 wN.nd rfl (.inl rfl) rfl rfl (QP.e (dQ (aN (QV.p (bK (aC 0) (QP.v aG))) (aN (wJ (oZ g5 eh hr rfl (bI (QP.v iI) (bI (eJ (C:="Place") bx d7 (aC 1)) dA)) rfl rfl (dX 2))) bD)))))
 (aM (cG (QT.e (fF (eJ (C:="Place") bx ca (aC 1))))
  (aR (cO (QP.e (eB (aN (QV.p (aC 3)) (aN (dQ (aN (QV.p (bK (aC 0) (QP.v aG))) (aN (QV.p (aC 1)) bD))) bD))))))
  bX)
 (aR (cO (QP.e (eB (aN (QV.p (aC 3)) bD))))))))))
def vS:tz1:=
 (bQ (aH (f2 bE (fC (.str "\n")) (f2 jN (fC (.str " ")) (aA 0)))))
abbrev iV:Stmt:=top 12
theorem zn1:FnScope ["blanks"] ["blanks"] (aQ iV):=⟨rfl,rfl,rfl,by decide+kernel,rfl,by decide+kernel,by decide+kernel⟩
theorem zn2{n:Nat}{f:Addr}{fd:FuncData}(ej:Dn K mg "new_line" iV ["blanks"] f fd)
     :
  FnOk P w K mg base CX0 (n+1) f fd ["blanks"] (SpP 1 K U (gP 1 0 (vS))):=
 eY ej.F zn1 fun cdv A outer s H E B hr=>
 (aR (cO (QP.e (bM eP (QP.v bS) (QP.v (bM sB (QP.v bS) (aC 0)))))))
def oR(ic:(tz6)):tz1:=
 (aO (aS 3 (aH (aY (f2 dIx (aA 0) (fC (.int 0))))))
 (aO (fIf (aL (fB (f2 dEq (aA 3) (fC (.str "word")))))
  (bQ (aH (aY (f2 dIx (aA 0) (fC (.int 1))))))
  aZ)
 (aO (fIf (aL (cF (fB (f2 dEq (aA 3) (fC (.str "gap")))) (dE (fT (cZ "Place" "broken" (aA 1))))))
  (bQ (aH (aY (f2 dIx (aA 0) (fC (.int 1))))))
  aZ)
 (aO (fIf (aL (cF (fB (f2 dEq (aA 3) (fC (.str "stop")))) (fB (f2 dLe (aA 2) (f2 dIx (aA 0) (fC (.int 1)))))))
  (bQ (aH (f2 jN (fC (.str " ")) (f2 fQ (f2 dIx (aA 0) (fC (.int 1))) (aA 2)))))
  aZ)
 (aO (fIf (aL (dE (fT (cZ "Place" "broken" (aA 1)))))
  (bQ (aH (fC .non)))
  aZ)
 (aO (fIf (aL (fB (f2 dEq (aA 3) (fC (.str "stop")))))
  (bQ (aH (aI ic (aB (f2 dIx (aA 0) (fC (.int 1))) aD))))
  aZ)
 (bQ (aH (aI ic (aB (cZ "Place" "margin" (aA 1)) aD))))))))))
abbrev iR:Stmt:=top 13
theorem wO:FnScope ["piece","place","column","kind"] ["piece","place","column"] (aQ iR):=⟨rfl,rfl,rfl,by decide+kernel,rfl,by decide+kernel,by decide+kernel⟩
theorem zs4{n:Nat}{f:Addr}{fd:FuncData}{ic:(tz6)}{no:Addr}{m9:FuncData}(de:Dn K mg "writing" iR ["piece","place","column"] f fd)
  (ej:Dn K mg "new_line" iV ["blanks"] no m9) (jf:FnOk P w K mg base CX0 n no m9 ["blanks"] (SpP 1 K U ic))
  (bx:Cls K (U "Place"))
  (ca:cW K (U "Place") "broken")
  (d7:cW K (U "Place") "margin"):
  FnOk P w K mg base CX0 (n+1) f fd ["piece","place","column"] (SpP 3 K U (gP 3 1 (oR ic))):=
 eY de.F wO fun cdv A outer s H E B hr=>
 (aM (bN 3 wO.nd rfl (.inl rfl) rfl rfl (QP.e (QV.p (bK (aC 0) (QP.v aG)))))
 (aM (cG (QT.e (bU (eX (Room.units hr)) (aC 3) (QP.v bS) (bL _)))
  (aR (cO (QP.e (QV.p (bK (aC 0) (QP.v aG))))))
  bX)
 (aM (cG (QT.e (jW (hZ (bU (eX (Room.units hr)) (aC 3) (QP.v bS) (bL _)) (gH (jX (fF (eJ (C:="Place") bx ca (aC 1))))))))
  (aR (cO (QP.e (QV.p (bK (aC 0) (QP.v aG))))))
  bX)
 (aM (cG (QT.e (jW (hZ (bU (eX (Room.units hr)) (aC 3) (QP.v bS) (bL _)) (gH (bU zq3 (aC 2) (bK (aC 0) (QP.v aG)) (bL _))))))
  (aR (cO (QP.e (bM sB (QP.v bS) (QP.v (bM sA (bK (aC 0) (QP.v aG)) (aC 2)))))))
  bX)
 (aM (cG (QT.e (jX (fF (eJ (C:="Place") bx ca (aC 1)))))
  (aR (cO (QP.e oC)))
  bX)
 (aM (cG (QT.e (bU (eX (Room.units hr)) (aC 3) (QP.v bS) (bL _)))
  (aR (cO (QP.e (dI ej jf hr rfl rfl (aJ (bK (aC 0) (QP.v aG)) aX) (aV cI)))))
  bX)
 (aR (cO (QP.e (dI ej jf hr rfl rfl (aJ (eJ (C:="Place") bx d7 (aC 1)) aX) (aV cI)))))))))))
def pJ:tz1:=
 (bQ (aH (fMt nB (aA 0) (aB (fC (.str "\n")) aD))))
abbrev iF:Stmt:=top 14
theorem zi5:FnScope ["wrote"] ["wrote"] (aQ iF):=⟨rfl,rfl,rfl,by decide+kernel,rfl,by decide+kernel,by decide+kernel⟩
theorem zi6{n:Nat}{f:Addr}{fd:FuncData}(ff:Dn K mg "ends_line" iF ["wrote"] f fd)
     :
  FnOk P w K mg base CX0 (n+1) f fd ["wrote"] (SpP 1 K U (gP 1 0 (pJ))):=
 eY ff.F zi5 fun cdv A outer s H E B hr=>
 (aR (cO (QP.e (uI PySem.F.slot_str_startswith PySem.F.type_str_startswith rE (aC 0) (aJ (QP.v bS) aX)))))
def iS(i7:(tz6)):tz1:=
 (aO (fIf (aL (fT (aI i7 (aB (aA 1) aD))))
  (bQ (aH (f2 fQ (aI bV (aB (aA 1) aD)) (fC (.int 1)))))
  aZ)
 (bQ (aH (f2 bE (aA 0) (aI bV (aB (aA 1) aD))))))
abbrev fS:Stmt:=top 15
theorem wP:FnScope ["column","wrote"] ["column","wrote"] (aQ fS):=⟨rfl,rfl,rfl,by decide+kernel,rfl,by decide+kernel,by decide+kernel⟩
theorem wQ{n:Nat}{f:Addr}{fd:FuncData}{i7:(tz6)}{na:Addr}{me:FuncData}(cu:Dn K mg "column_behind" fS ["column","wrote"] f fd)
  (ff:Dn K mg "ends_line" iF ["wrote"] na me) (jz:FnOk P w K mg base CX0 n na me ["wrote"] (SpP 1 K U i7))
  (af:mg "len"=none):
  FnOk P w K mg base CX0 (n+1) f fd ["column","wrote"] (SpP 2 K U (gP 2 0 (iS i7))):=
 eY cu.F wP fun cdv A outer s H E B hr=>
 (aM (cG (QT.e (fF (QP.v (dI ff jz hr rfl rfl (aJ (aC 1) aX) (aV cI)))))
  (aR (cO (QP.e (bM sA (QP.v (dJ gD rfl af boot_len (aJ (aC 1) aX))) (QP.v aG)))))
  bX)
 (aR (cO (QP.e (bM eP (aC 0) (QP.v (dJ gD rfl af boot_len (aJ (aC 1) aX))))))))
def tD(ci:(tz7))(ao:(tz7))(bn:(tz6))(ez:(tz6)):tz1:=
 (aO (aS 2 (aH (eL "Setter" (bB [.im (aA 1)]) ci)))
 (aO (bA (bG 2 aW (bB [.im (aA 0),.im (aI bn aD)]) (fE "Setter" "set_row" ao)))
 (bQ (aH (aI ez (aB (fK "Setter" "whole_text" (aA 2)) aD))))))
abbrev iL:Stmt:=top 18
theorem pO:FnScope ["row","choices","setter"] ["row","choices"] (aQ iL):=⟨rfl,rfl,rfl,by decide+kernel,rfl,by decide+kernel,by decide+kernel⟩
theorem zx3{n:Nat}{f:Addr}{fd:FuncData}{ci:(tz7)}{bq:Addr}{gj:FuncData}{ao:(tz7)}{ag:Addr}{av:FuncData}{bn:(tz6)}{fz:Addr}{eo:FuncData}{ez:(tz6)}{au:Addr}{cm:FuncData}(bz:Dn K mg "set_by" iL ["row","choices"] f fd)
  (gn:Kn K mg U "Setter" "Setter.__init__" gJ ["self","choices"] bq gj) (fg:FnOk P w K mg base CX0 n bq gj ["self","choices"] (SpE 2 K U (bF [true,false]) ci))
  (ad:Mn K U "Setter" "set_row" "Setter.set_row" dU ["self","row","place"] ag av) (b7:FnOk P w K mg base CX0 (n+1) ag av ["self","row","place"] (SpE 3 K U (bF [true,false,false]) ao))
  (bj:Dn K mg "first_place" fR [] fz eo) (cn:FnOk P w K mg base CX0 (n+1) fz eo [] (SpP 0 K U bn))
  (al:Mn K U "Setter" "whole_text" "Setter.whole_text" dZ ["self"] au cm) (g8:FnOk P w K mg base CX0 (n+1) au cm ["self"] (SpP 1 K U ez)):
  FnOk P w K mg base CX0 ((n+1)+1) f fd ["row","choices"] (SpP 2 K U (gP 2 1 (tD ci ao bn ez))):=
 eY bz.F pO fun cdv A outer s H E B hr=>
 (aM (bN 2 pO.nd rfl (.inl rfl) rfl rfl (QP.e (oZ gn fg hr rfl (bI (aC 1) dA) rfl rfl (dX 1))))
 (aM (dW (kQ ad b7 hr rfl (bH 2) (bI (aC 0) (bI (QP.v (wB bj cn hr rfl)) dA)) rfl rfl (dX 2)))
 (aR (cO (QP.e (zF al g8 hr (aC 2)))))))
def xB(ci:(tz7))(ao:(tz7))(bh:(List D->Bool))(bn:(tz6))(dq:(List D->Bool)):tz5:=
 (jU (aS 2 (aH (eL "Setter" (bB [.im (aA 1)]) ci)))
 (sY (mU 2 aW (bB [.im (aA 0),.im (aI bn aD)]) (lH "Setter" "set_row" bh)) (jU (bA (bG 2 aW (bB [.im (aA 0),.im (aI bn aD)]) (fE "Setter" "set_row" ao)))
 (yH "Setter" "whole_text" (aA 2) dq))))
theorem zs5{n:Nat}{f:Addr}{fd:FuncData}{ci:(tz7)}{bq:Addr}{gj:FuncData}{ao:(tz7)}{ag:Addr}{av:FuncData}{bh:(List D->Bool)}{bn:(tz6)}{fz:Addr}{eo:FuncData}{dq:(List D->Bool)}{au:Addr}{cm:FuncData}{aa:Addr}(bz:Dn K mg "set_by" iL ["row","choices"] f fd)
  (gn:Kn K mg U "Setter" "Setter.__init__" gJ ["self","choices"] bq gj) (fg:FnOk P w K mg base CX0 n bq gj ["self","choices"] (SpE 2 K U (bF [true,false]) ci))
  (ad:Mn K U "Setter" "set_row" "Setter.set_row" dU ["self","row","place"] ag av) (b7:FnOk P w K mg base CX0 (n+1) ag av ["self","row","place"] (SpE 3 K U (bF [true,false,false]) ao))
   (dk:FnOk P w K mg base (CXn P w base aa) (n+1) ag av ["self","row","place"] (mX 3 K U (bF [true,false,false]) aa bh))
  (bj:Dn K mg "first_place" fR [] fz eo) (cn:FnOk P w K mg base CX0 (n+1) fz eo [] (SpP 0 K U bn))
  (al:Mn K U "Setter" "whole_text" "Setter.whole_text" dZ ["self"] au cm) (gq:FnOk P w K mg base (CXn P w base aa) (n+1) au cm ["self"] (sW 1 K U aa dq))
  (aw:OwnCls "NoChoice" aa bmV "ValueError.__new__" mg base):
  FnOk P w K mg base (CXn P w base aa) ((n+1)+1) f fd ["row","choices"] (sW 2 K U aa (gX 2 1 (xB ci ao bh bn dq))):=
 sE bz.F pO fun cdv A outer s H E B hr=>
 (mM (bN 2 pO.nd rfl (.inl rfl) rfl rfl (QP.e (oZ gn fg hr rfl (bI (aC 1) dA) rfl rfl (dX 1))))
 (rG (qU (pA ad dk hr rfl (bH 2) (bI (aC 0) (bI (QP.v (wB bj cn hr rfl)) dA)) rfl rfl (dX 2))) (dW (kQ ad b7 hr rfl (bH 2) (bI (aC 0) (bI (QP.v (wB bj cn hr rfl)) dA)) rfl rfl (dX 2)))
 (gI (zi2 al gq hr (aC 2)))))
def zm9:tz1:=
 (aO (aS 1 (aH (fC (.str "abcdefghijklmnopqrstuvwxyzABCDEFGHIJKLMNOPQRSTUVWXYZ0123456789"))))
 (aO (aS 1 (aH (f2 bE (aA 1) (fC (.str "!\"#$&'()*+,-./:;<=>?\x40[\\]^_`{|}~")))))
 (aO (aS 2 (aH (f2 dIx (cA (fKs [.int 1,.int 2,.int 3,.int 4,.int 5,.int 6,.int 7,.int 8,.int 10,.int 11,.int 9,.int 12])) (f2 cU (aA 0) (fC (.int 12))))))
 (aO (aS 3 (aH (fC (.str ""))))
 (aO (fI 4 (kC (aB (aA 2) aD))
  (aO (aS 5 (aH (f2 bE (f2 gM (aA 0) (fC (.int 12))) (f2 jN (aA 4) (f2 cU (f2 gM (aA 0) (fC (.int 9000))) (fC (.int 93)))))))
 (aS 3 (aH (f2 bE (aA 3) (f2 dIx (aA 1) (f2 cU (aA 5) (fC (.int 93)))))))))
 (fJ 3))))))
abbrev kW:Stmt:=top 22
theorem kT:FnScope ["_law_number","_law_signs","_law_size","_law_word_here","_law_j","_law_at"] ["_law_number"] (aQ kW):=⟨rfl,rfl,rfl,by decide+kernel,rfl,by decide+kernel,by decide+kernel⟩
theorem ym7{n:Nat}{f:Addr}{fd:FuncData}(gs:Dn K mg "_law_word" kW ["_law_number"] f fd)
  (d9:mg "range"=none):
  FnOk P w K mg base CX0 (n+1) f fd ["_law_number"] (SpP 1 K U (gP 1 5 (zm9))):=
 eY gs.F kT fun cdv A outer s H E B hr=>
 (aM (bN 1 kT.nd rfl (.inl rfl) rfl rfl (QP.e bS))
 (aM (bN 1 kT.nd rfl (.inl rfl) rfl rfl (QP.e (bM eP (aC 1) (QP.v bS))))
 (aM (bN 2 kT.nd rfl (.inl rfl) rfl rfl (QP.e (pN (eB (mL (.int (.int (.int (.int (.int (.int (.int (.int (.int (.int (.int (.int .nil)))))))))))))) (QP.v (bM fA (aC 0) (QP.v aG))))))
 (aM (bN 3 kT.nd rfl (.inl rfl) rfl rfl (QP.e bS))
 (aM (oG 4 PassesOwn.never rfl kT.nd rfl (.inl rfl) rfl rfl (nR rfl d9 (aJ (aC 2) aX))
  (aM (bN 5 kT.nd rfl (.inl rfl) rfl rfl (QP.e (bM eP (QP.v (bM lM (aC 0) (QP.v aG))) (QP.v (bM sB (aC 4) (QP.v (bM fA (QP.v (bM lM (aC 0) (QP.v aG))) (QP.v aG))))))))
 (aR (bN 3 kT.nd rfl (.inl rfl) rfl rfl (QP.e (bM eP (aC 3) (bK (aC 1) (QP.v (bM fA (aC 5) (QP.v aG))))))))))
 (aR (qR 3 rfl)))))))
def xC(gu:(tz6)):tz1:=
 (aO (aS 1 (aH (f2 gM (aA 0) (fC (.int 16)))))
 (aO (fIf (aL (fB (f2 dLt (f2 cU (aA 0) (fC (.int 16))) (fC (.int 8)))))
  (bQ (aH (cE (aB (fC (.str "word")) (aB (aI gu (aB (aA 1) aD)) aD)))))
  aZ)
 (aO (fIf (aL (fB (f2 dLt (f2 cU (aA 0) (fC (.int 16))) (fC (.int 13)))))
  (bQ (aH (cE (aB (fC (.str "gap")) (aB (f2 dIx (cA (fKs [.str " ",.str " ",.str " ",.str ""])) (f2 cU (aA 1) (fC (.int 4)))) aD)))))
  aZ)
 (aO (fIf (aL (fB (f2 dEq (f2 cU (aA 0) (fC (.int 16))) (fC (.int 13)))))
  (bQ (aH (cE (aB (fC (.str "end")) aD))))
  aZ)
 (bQ (aH (cE (aB (fC (.str "stop")) (aB (f2 dIx (cA (aB (f2 cU (f2 gM (aA 1) (fC (.int 2))) (fC (.int 10))) (aB (f2 cU (f2 gM (aA 1) (fC (.int 2))) (fC (.int 41))) aD))) (f2 cU (aA 1) (fC (.int 2)))) aD)))))))))
abbrev mB:Stmt:=top 23
theorem zl8:FnScope ["_law_number","_law_some"] ["_law_number"] (aQ mB):=⟨rfl,rfl,rfl,by decide+kernel,rfl,by decide+kernel,by decide+kernel⟩
theorem ym8{n:Nat}{f:Addr}{fd:FuncData}{gu:(tz6)}{kh:Addr}{jw:FuncData}(jr:Dn K mg "_law_leaf" mB ["_law_number"] f fd)
  (gs:Dn K mg "_law_word" kW ["_law_number"] kh jw) (js:FnOk P w K mg base CX0 n kh jw ["_law_number"] (SpP 1 K U gu)):
  FnOk P w K mg base CX0 (n+1) f fd ["_law_number"] (SpP 1 K U (gP 1 1 (xC gu))):=
 eY jr.F zl8 fun cdv A outer s H E B hr=>
 (aM (bN 1 zl8.nd rfl (.inl rfl) rfl rfl (QP.e (bM lM (aC 0) (QP.v aG))))
 (aM (cG (QT.e (bU (oF (Room.units0 hr)) (QP.v (bM fA (aC 0) (QP.v aG))) (QP.v aG) (bL _)))
  (aR (cO (QP.e (dQ (aN bS (aN (dI gs js hr rfl rfl (aJ (aC 1) aX) (aV cI)) bD))))))
  bX)
 (aM (cG (QT.e (bU (oF (Room.units0 hr)) (QP.v (bM fA (aC 0) (QP.v aG))) (QP.v aG) (bL _)))
  (aR (cO (QP.e (dQ (aN bS (aN (pN (eB (mL (.str (.str (.str (.str .nil)))))) (QP.v (bM fA (aC 1) (QP.v aG)))) bD))))))
  bX)
 (aM (cG (QT.e (bU (eX (Room.units hr)) (QP.v (bM fA (aC 0) (QP.v aG))) (QP.v aG) (bL _)))
  (aR (cO (QP.e (dQ (aN bS bD)))))
  bX)
 (aR (cO (QP.e (dQ (aN bS (aN (pN (eB (aN (bM fA (QP.v (bM lM (aC 1) (QP.v aG))) (QP.v aG)) (aN (bM fA (QP.v (bM lM (aC 1) (QP.v aG))) (QP.v aG)) bD))) (QP.v (bM fA (aC 1) (QP.v aG)))) bD))))))))))
def pZ:tz1:=
 (aO (vH [1,2,3,4] (bG 0 aW aD rT))
 (aO (aS 3 (aH (f2 bE (aA 3) (cA (aB (aI dG (aB (aA 4) aD)) aD)))))
 (aO (fIf (aL (cF (fB (f2 dEq (aA 1) (fC (.str "either")))) (fB (f2 dLt (aI bV (aB (aA 3) aD)) (fC (.int 2))))))
  (aS 3 (aH (f2 bE (aA 3) (cA (aB (cE (aB (cE (aB (fC (.str "word")) (aB (fC (.str "or")) aD))) aD)) aD)))))
  aZ)
 (aO (aS 5 (aH (cE (aB (fC (.str "group")) (aB (aY (f2 dIx (aA 3) (fC (.int 0)))) aD)))))
 (aO (fIf (aL (fB (f2 dEq (aA 1) (fC (.str "hang")))))
  (aS 5 (aH (cE (aB (fC (.str "hang")) (aB (aY (aA 2)) (aB (aY (f2 dIx (aA 3) (fC (.int 0)))) aD))))))
  aZ)
 (aO (fIf (aL (fB (f2 dEq (aA 1) (fC (.str "either")))))
  (aS 5 (aH (cE (aB (fC (.str "either")) (aB (aI dG (aB (aA 3) aD)) aD)))))
  aZ)
 (bA (bG 0 (dP 0 (dP 0 aW (eO (fC (.int 1)))) (fC (.int 3))) (aB (aY (aA 5)) aD) bC))))))))
abbrev mC:Stmt:=top 24
theorem jF:FnScope ["_law_frames","_law_kind","_law_n","_law_full","_law_parts","_law_piece"] ["_law_frames"] (aQ mC):=⟨rfl,rfl,rfl,by decide+kernel,rfl,by decide+kernel,by decide+kernel⟩
theorem ym9{n:Nat}{f:Addr}{fd:FuncData}(i8:Dn K mg "_law_shut" mC ["_law_frames"] f fd)
  (cz:mg "tuple"=none)
  (af:mg "len"=none):
  FnOk P w K mg base CX0 (n+1) f fd ["_law_frames"] (SpE 1 K U (bF [true]) (gE 1 5 (bF [true]) (pZ))):=
 mJ i8.F jF (fun i hi=>jL hi) fun cdv A outer s H E hr=>
 (aM (wH (is:=[1,2,3,4]) rfl (oX (kO (i:=1) jF.nd rfl (.inl rfl)) (oX (kO (i:=2) jF.nd rfl (.inl rfl)) (oX (kO (i:=3) jF.nd rfl (.inl rfl)) (oX (kO (i:=4) jF.nd rfl (.inl rfl)) zg5)))) (zr1 (j:=0) rfl (bH 0)) (fun j hj=>by simp only [List.mem_cons,List.not_mem_nil,or_false] at hj;rcases hj with rfl|rfl|rfl|rfl<;>exact⟨rfl,rfl⟩))
 (aM (bN 3 jF.nd rfl (.inl rfl) rfl rfl (QP.e (bM eP (aC 3) (QP.v (eB (aN (iO mI rfl cz boot_tuple (aJ (aC 4) aX)) bD))))))
 (aM (cG (QT.e (jW (hZ (bU (eX (Room.units hr)) (aC 1) (QP.v bS) (bL _)) (gH (bU (oF (Room.units0 hr)) (QP.v (dJ gD rfl af boot_len (aJ (aC 3) aX))) (QP.v aG) (bL _))))))
  (aR (bN 3 jF.nd rfl (.inl rfl) rfl rfl (QP.e (bM eP (aC 3) (QP.v (eB (aN (dQ (aN (dQ (aN bS (aN bS bD))) bD)) bD)))))))
  bX)
 (aM (bN 5 jF.nd rfl (.inl rfl) rfl rfl (QP.e (dQ (aN bS (aN (QV.p (bK (aC 3) (QP.v aG))) bD)))))
 (aM (cG (QT.e (bU (eX (Room.units hr)) (aC 1) (QP.v bS) (bL _)))
  (aR (bN 5 jF.nd rfl (.inl rfl) rfl rfl (QP.e (dQ (aN bS (aN (QV.p (aC 2)) (aN (QV.p (bK (aC 3) (QP.v aG))) bD)))))))
  bX)
 (aM (cG (QT.e (bU (eX (Room.units hr)) (aC 1) (QP.v bS) (bL _)))
  (aR (bN 5 jF.nd rfl (.inl rfl) rfl rfl (QP.e (dQ (aN bS (aN (iO mI rfl cz boot_tuple (aJ (aC 3) aX)) bD))))))
  bX)
 (aR (dW (fO (j:=0) rfl (jK (jK (bH 0) (QP.v (lT (QP.v aG)))) (QP.v aG)) (aN (QV.p (aC 5)) bD))))))))))
def zv9(aj:(tz6))(ki:(tz7))(mj:(tz6)):tz1:=
 (aO (aS 4 (aH (cA (aB (cA (aB (fC (.str "top")) (aB (fC (.int 0)) (aB (cA aD) (aB (cA aD) aD))))) aD))))
 (aO (fI 5 (yG (aB (aA 1) (aB (f2 bE (aA 1) (aA 2)) aD)))
  (aO (aS 6 (aH (aI aj (aB (aA 0) (aB (aA 5) (aB (fC (.int 31)) aD))))))
 (aO (aS 7 (aH (f2 cU (aA 6) (fC (.int 13)))))
 (aO (aS 8 (aH (aY (f2 dIx (f2 dIx (aA 4) (eO (fC (.int 1)))) (fC (.int 0))))))
 (fIf (aL (cF (fB (f2 dLt (aA 7) (fC (.int 4)))) (fB (f2 dLe (aI bV (aB (aA 4) aD)) (aA 3)))))
  (aO (aS 9 (aH (f2 dIx (cA (fKs [.str "group",.str "group",.str "hang",.str "either"])) (aA 7))))
 (bA (bG 4 aW (aB (cA (aB (aY (aA 9)) (aB (f2 dIx (cA (aB (fC (.int 1)) (aB (fC (.int 2)) (aB (fC (.int 4)) (aB (f2 cU (f2 gM (aA 6) (fC (.int 13))) (fC (.int 13))) aD))))) (f2 cU (f2 gM (aA 6) (fC (.int 169))) (fC (.int 4)))) (aB (cA aD) (aB (cA aD) aD))))) aD) bC)))
  (fIf (aL (cF (fB (f2 dEq (aA 7) (fC (.int 4)))) (fB (f2 dGt (aI bV (aB (aA 4) aD)) (fC (.int 1))))))
  (bA (fIO [.io 4] ki))
  (fIf (aL (cF (fB (f2 dLt (aA 7) (fC (.int 7)))) (cF (fB (f2 dEq (aA 8) (fC (.str "either")))) (fB (f2 dLt (aI bV (aB (f2 dIx (f2 dIx (aA 4) (eO (fC (.int 1)))) (fC (.int 2))) aD)) (fC (.int 3)))))))
  (aO (bA (bG 4 (dP 4 (dP 4 aW (eO (fC (.int 1)))) (fC (.int 2))) (aB (aI dG (aB (f2 dIx (f2 dIx (aA 4) (eO (fC (.int 1)))) (fC (.int 3))) aD)) aD) bC))
 (dS 4 (dP 4 aW (eO (fC (.int 1)))) (fC (.int 3)) (cA aD)))
  (bA (bG 4 (dP 4 (dP 4 aW (eO (fC (.int 1)))) (fC (.int 3))) (aB (aI mj (aB (aI aj (aB (aA 0) (aB (aA 5) (aB (fC (.int 32)) aD)))) aD)) aD) bC)))))))))
 (aO (lG (aL (fB (f2 dGt (aI bV (aB (aA 4) aD)) (fC (.int 1)))))
  (bA (fIO [.io 4] ki)) 400)
 (bQ (aH (aI dG (aB (f2 dIx (f2 dIx (aA 4) (fC (.int 0))) (fC (.int 3))) aD)))))))
abbrev nP:Stmt:=top 25
theorem nL:FnScope ["_law_script","_law_at","_law_many","_law_nest","_law_frames","_law_k","_law_number","_law_way","_law_kind","_law_new"] ["_law_script","_law_at","_law_many","_law_nest"] (aQ nP):=⟨rfl,rfl,rfl,by decide+kernel,rfl,by decide+kernel,by decide+kernel⟩
theorem yt9{n:Nat}{f:Addr}{fd:FuncData}{aj:(tz6)}{cb:Addr}{b0:FuncData}{ki:(tz7)}{qv:Addr}{p9:FuncData}{mj:(tz6)}{qw:Addr}{qe:FuncData}(kg:Dn K mg "_law_row" nP ["_law_script","_law_at","_law_many","_law_nest"] f fd)
  (bc:Dn K mg "_law_mixed" gR ["_law_script","_law_k","_law_salt"] cb b0) (bg:FnOk P w K mg base CX0 n cb b0 ["_law_script","_law_k","_law_salt"] (SpP 3 K U aj))
  (i8:Dn K mg "_law_shut" mC ["_law_frames"] qv p9) (ml:FnOk P w K mg base CX0 n qv p9 ["_law_frames"] (SpE 1 K U (bF [true]) ki))
  (jr:Dn K mg "_law_leaf" mB ["_law_number"] qw qe) (on:FnOk P w K mg base CX0 n qw qe ["_law_number"] (SpP 1 K U mj))
  (d9:mg "range"=none)
  (cz:mg "tuple"=none)
  (af:mg "len"=none):
  FnOk P w K mg base CX0 (n+1) f fd ["_law_script","_law_at","_law_many","_law_nest"] (SpP 4 K U (gP 4 6 (zv9 aj ki mj))):=
 eY kg.F nL fun cdv A outer s H E B hr=>
 (aM (bN 4 nL.nd rfl (.inl rfl) rfl rfl (QP.e (eB (aN (eB (aN bS (aN aG (aN (eB bD) (aN (eB bD) bD))))) bD))))
 (aM (oG 5 PassesOwn.never rfl nL.nd rfl (.inl rfl) rfl rfl (wA rfl d9 (aJ (aC 1) (aJ (QP.v (bM eP (aC 1) (aC 2))) aX)))
  (aM (bN 6 nL.nd rfl (.inl rfl) rfl rfl (QP.e (dI bc bg hr rfl rfl (aJ (aC 0) (aJ (aC 5) (aJ (QP.v aG) aX))) (aV (aV (aV cI))))))
 (aM (bN 7 nL.nd rfl (.inl rfl) rfl rfl (QP.e (bM fA (aC 6) (QP.v aG))))
 (aM (bN 8 nL.nd rfl (.inl rfl) rfl rfl (QP.e (QV.p (bK (bK (aC 4) (QP.v (lT (QP.v aG)))) (QP.v aG)))))
 (aR (cG (QT.e (jW (hZ (bU (oF (Room.units0 hr)) (aC 7) (QP.v aG) (bL _)) (gH (bU zq3 (QP.v (dJ gD rfl af boot_len (aJ (aC 4) aX))) (aC 3) (bL _))))))
  (aM (bN 9 nL.nd rfl (.inl rfl) rfl rfl (QP.e (pN (eB (mL (.str (.str (.str (.str .nil)))))) (aC 7))))
 (aR (dW (fO (j:=4) rfl (bH 4) (aN (eB (aN (QV.p (aC 9)) (aN (pN (eB (aN aG (aN aG (aN aG (aN (bM fA (QP.v (bM lM (aC 6) (QP.v aG))) (QP.v aG)) bD))))) (QP.v (bM fA (QP.v (bM lM (aC 6) (QP.v aG))) (QP.v aG)))) (aN (eB bD) (aN (eB bD) bD))))) bD)))))
  (aR (cG (QT.e (jW (hZ (bU (eX (Room.units hr)) (aC 7) (QP.v aG) (bL _)) (gH (bU uG (QP.v (dJ gD rfl af boot_len (aJ (aC 4) aX))) (QP.v aG) (bL _))))))
  (aR (dW (jZ i8 ml hr rfl (iP 4 dA) rfl (fD rfl) (show List.Nodup ([4]:List Nat) by decide) (fun j hj=>by have h:j∈([4]:List Nat):=hj;simp only [List.mem_cons,List.not_mem_nil,or_false] at h;rcases h with rfl<;>rfl))))
  (aR (cG (QT.e (jW (hZ (bU (oF (Room.units0 hr)) (aC 7) (QP.v aG) (bL _)) (hZ (bU (eX (Room.units hr)) (aC 8) (QP.v bS) (bL _)) (gH (bU (oF (Room.units0 hr)) (QP.v (dJ gD rfl af boot_len (aJ (bK (bK (aC 4) (QP.v (lT (QP.v aG)))) (QP.v aG)) aX))) (QP.v aG) (bL _)))))))
  (aM (dW (fO (j:=4) rfl (jK (jK (bH 4) (QP.v (lT (QP.v aG)))) (QP.v aG)) (aN (iO mI rfl cz boot_tuple (aJ (bK (bK (aC 4) (QP.v (lT (QP.v aG)))) (QP.v aG)) aX)) bD)))
 (aR (lV (j:=4) rfl (eB bD) (jK (bH 4) (QP.v (lT (QP.v aG)))) (QP.v aG))))
  (aR (dW (fO (j:=4) rfl (jK (jK (bH 4) (QP.v (lT (QP.v aG)))) (QP.v aG)) (aN (dI jr on hr rfl rfl (aJ (QP.v (dI bc bg hr rfl rfl (aJ (aC 0) (aJ (aC 5) (aJ (QP.v aG) aX))) (aV (aV (aV cI))))) aX) (aV cI)) bD))))))))))))))
 (aM (zC 400 PassesOwn.never (QT.e (bU uG (QP.v (dJ gD rfl af boot_len (aJ (aC 4) aX))) (QP.v aG) (bL _)))
  (aR (dW (jZ i8 ml hr rfl (iP 4 dA) rfl (fD rfl) (show List.Nodup ([4]:List Nat) by decide) (fun j hj=>by have h:j∈([4]:List Nat):=hj;simp only [List.mem_cons,List.not_mem_nil,or_false] at h;rcases h with rfl<;>rfl)))))
 (aR (cO (QP.e (iO mI rfl cz boot_tuple (aJ (bK (bK (aC 4) (QP.v aG)) (QP.v aG)) aX))))))))
def sQ(aj:(tz6))(df:(tz6)):tz1:=
 (aO (aS 4 (aH (aI aj (aB (aA 0) (aB (f2 bE (f2 dIx (aA 1) (fC (.int 2))) (fC (.int 40))) (aB (aA 2) aD))))))
 (aO (fIf (aL (fB (f2 dEq (aA 2) (fC (.int 1)))))
  (aO (aS 5 (aH (f2 dIx (cA (fKs [.int 1,.int 12,.int 144,.int 1728,.int 20736,.int 248832,.int 2985984,.int 35831808])) (f2 cU (f2 dIx (aA 1) (fC (.int 2))) (fC (.int 8))))))
 (aS 4 (aH (f2 gM (aI df (aB (aA 0) (aB (f2 bE (fC (.int 40)) (f2 gM (f2 dIx (aA 1) (fC (.int 2))) (fC (.int 8)))) aD))) (aA 5)))))
  aZ)
 (aO (dS 1 aW (fC (.int 2)) (f2 bE (f2 dIx (aA 1) (fC (.int 2))) (fC (.int 1))))
 (aO (bA (bG 1 (dP 1 aW (fC (.int 1))) (aB (f2 cU (aA 4) (aA 3)) aD) bC))
 (bQ (aH (f2 cU (aA 4) (aA 3))))))))
abbrev mD:Stmt:=top 26
theorem sF:FnScope ["_law_script","_law_state","_law_salt","_law_many","_law_number","_law_share"] ["_law_script","_law_state","_law_salt","_law_many"] (aQ mD):=⟨rfl,rfl,rfl,by decide+kernel,rfl,by decide+kernel,by decide+kernel⟩
theorem yn0{n:Nat}{f:Addr}{fd:FuncData}{aj:(tz6)}{cb:Addr}{b0:FuncData}{df:(tz6)}{iw:Addr}{ie:FuncData}(i9:Dn K mg "_law_next" mD ["_law_script","_law_state","_law_salt","_law_many"] f fd)
  (bc:Dn K mg "_law_mixed" gR ["_law_script","_law_k","_law_salt"] cb b0) (bg:FnOk P w K mg base CX0 n cb b0 ["_law_script","_law_k","_law_salt"] (SpP 3 K U aj))
  (ck:Dn K mg "_law_cell_at" gQ ["_law_script","_law_k"] iw ie) (dw:FnOk P w K mg base CX0 n iw ie ["_law_script","_law_k"] (SpP 2 K U df)):
  FnOk P w K mg base CX0 (n+1) f fd ["_law_script","_law_state","_law_salt","_law_many"] (SpE 4 K U (bF [false,true,false,false]) (gE 4 2 (bF [false,true,false,false]) (sQ aj df))):=
 mJ i9.F sF (fun i hi=>jL hi) fun cdv A outer s H E hr=>
 (aM (bN 4 sF.nd rfl (.inl rfl) rfl rfl (QP.e (dI bc bg hr rfl rfl (aJ (aC 0) (aJ (QP.v (bM eP (bK (aC 1) (QP.v aG)) (QP.v aG))) (aJ (aC 2) aX))) (aV (aV (aV cI))))))
 (aM (cG (QT.e (bU (eX (Room.units hr)) (aC 2) (QP.v aG) (bL _)))
  (aM (bN 5 sF.nd rfl (.inl rfl) rfl rfl (QP.e (pN (eB (mL (.int (.int (.int (.int (.int (.int (.int (.int .nil)))))))))) (QP.v (bM fA (bK (aC 1) (QP.v aG)) (QP.v aG))))))
 (aR (bN 4 sF.nd rfl (.inl rfl) rfl rfl (QP.e (bM lM (QP.v (dI ck dw hr rfl rfl (aJ (aC 0) (aJ (QP.v (bM eP (QP.v aG) (QP.v (bM lM (bK (aC 1) (QP.v aG)) (QP.v aG))))) aX)) (aV (aV cI)))) (aC 5))))))
  bX)
 (aM (lV (j:=1) rfl (bM eP (bK (aC 1) (QP.v aG)) (QP.v aG)) (bH 1) (QP.v aG))
 (aM (dW (fO (j:=1) rfl (jK (bH 1) (QP.v aG)) (aN (bM fA (aC 4) (aC 3)) bD)))
 (aR (cO (QP.e (bM fA (aC 4) (aC 3)))))))))
def xD:tz1:=
 (dS 0 aW (fC (.int 0)) (f2 bE (f2 bE (f2 dIx (aA 0) (fC (.int 0))) (fC (.str "\n"))) (f2 jN (fC (.str " ")) (aA 1))))
abbrev mE:Stmt:=top 27
theorem yn1:FnScope ["_law_state","_law_blanks"] ["_law_state","_law_blanks"] (aQ mE):=⟨rfl,rfl,rfl,by decide+kernel,rfl,by decide+kernel,by decide+kernel⟩
theorem yn2{n:Nat}{f:Addr}{fd:FuncData}(ig:Dn K mg "_law_line" mE ["_law_state","_law_blanks"] f fd)
     :
  FnOk P w K mg base CX0 (n+1) f fd ["_law_state","_law_blanks"] (SpE 2 K U (bF [true,false]) (gE 2 0 (bF [true,false]) (xD))):=
 mJ ig.F yn1 (fun i hi=>jL hi) fun cdv A outer s H E hr=>
 (aR (lV (j:=0) rfl (bM eP (QP.v (bM eP (bK (aC 0) (QP.v aG)) (QP.v bS))) (QP.v (bM sB (QP.v bS) (aC 1)))) (bH 0) (QP.v aG)))
def tF:tz1:=
 (bQ (aH (f2 fQ (f2 fQ (aI bV (aB (f2 dIx (aA 0) (fC (.int 0))) aD)) (fC (.int 1))) (fMt wZ (f2 dIx (aA 0) (fC (.int 0))) (aB (fC (.str "\n")) aD)))))
abbrev kG:Stmt:=top 28
theorem zx4:FnScope ["_law_state"] ["_law_state"] (aQ kG):=⟨rfl,rfl,rfl,by decide+kernel,rfl,by decide+kernel,by decide+kernel⟩
theorem zx5{n:Nat}{f:Addr}{fd:FuncData}(gb:Dn K mg "_law_column" kG ["_law_state"] f fd)
  (af:mg "len"=none):
  FnOk P w K mg base CX0 (n+1) f fd ["_law_state"] (SpP 1 K U (gP 1 0 (tF))):=
 eY gb.F zx4 fun cdv A outer s H E B hr=>
 (aR (cO (QP.e (bM sA (QP.v (bM sA (QP.v (dJ gD rfl af boot_len (aJ (bK (aC 0) (QP.v aG)) aX))) (QP.v aG))) (QP.v (uI PySem.F.slot_str_rfind PySem.F.type_str_rfind zh8 (bK (aC 0) (QP.v aG)) (aJ (QP.v bS) aX)))))))
def vN(jt:(tz7))(ik:(tz6))(kj:(tz7))(fj:(tz7)):tz1:=
 (aO (fI 6 (dR (aA 1))
  (aO (fIf (aL (fB (f2 dEq (f2 dIx (aA 6) (fC (.int 0))) (fC (.str "word")))))
  (dS 4 aW (fC (.int 0)) (f2 bE (f2 dIx (aA 4) (fC (.int 0))) (f2 dIx (aA 6) (fC (.int 1)))))
  aZ)
 (aO (fIf (aL (cF (fB (f2 dEq (f2 dIx (aA 6) (fC (.int 0))) (fC (.str "gap")))) (fT (aA 2))))
  (dS 4 aW (fC (.int 0)) (f2 bE (f2 dIx (aA 4) (fC (.int 0))) (f2 dIx (aA 6) (fC (.int 1)))))
  aZ)
 (aO (fIf (aL (cF (fB (f2 dEq (f2 dIx (aA 6) (fC (.int 0))) (fC (.str "gap")))) (dE (fT (aA 2)))))
  (bA (fIO [.io 4,.im (aA 3)] jt))
  aZ)
 (aO (fIf (aL (fB (f2 dEq (f2 dIx (aA 6) (fC (.int 0))) (fC (.str "end")))))
  (bA (fIO [.io 4,.im (aA 3)] jt))
  aZ)
 (aO (fIf (aL (fB (f2 dEq (f2 dIx (aA 6) (fC (.int 0))) (fC (.str "stop")))))
  (aO (fIf (aL (cF (fT (aA 2)) (fB (f2 dGt (aI ik (aB (aA 4) aD)) (f2 dIx (aA 6) (fC (.int 1)))))))
  (bQ (aH (fC (.bl false))))
  aZ)
 (aO (fIf (aL (fB (f2 dGt (aI ik (aB (aA 4) aD)) (f2 dIx (aA 6) (fC (.int 1))))))
  (bA (fIO [.io 4,.im (fC (.int 0))] jt))
  aZ)
 (dS 4 aW (fC (.int 0)) (f2 bE (f2 dIx (aA 4) (fC (.int 0))) (f2 jN (fC (.str " ")) (f2 fQ (f2 dIx (aA 6) (fC (.int 1))) (aI ik (aB (aA 4) aD))))))))
  aZ)
 (aO (fIf (aL (cF (fB (f2 dEq (f2 dIx (aA 6) (fC (.int 0))) (fC (.str "end")))) (fT (aA 2))))
  (bQ (aH (fC (.bl false))))
  aZ)
 (aO (fIf (aL (fB (f2 dEq (f2 dIx (aA 6) (fC (.int 0))) (fC (.str "group")))))
  (aO (aS 7 (aH (aY (aA 2))))
 (aO (fIf (aL (cF (dE (fT (aA 2))) (fB (f2 dGt (aA 5) (fC (.int 0))))))
  (aS 7 (fE2 dEq (fIO [.im (aA 0),.io 4,.im (aA 5),.im (fC (.int 2))] kj) (fC (.int 0))))
  (fIf (aL (dE (fT (aA 2))))
  (bA (bG 4 (dP 4 aW (fC (.int 1))) (aB (fC (.int 1)) aD) bC))
  aZ))
 (fIf (nF (fTE (fIO [.im (aA 0),.im (f2 dIx (aA 6) (fC (.int 1))),.im (aA 7),.im (aA 3),.io 4,.im (aA 5)] fj)))
  (bQ (aH (fC (.bl false))))
  aZ)))
  aZ)
 (aO (fIf (aL (fB (f2 dEq (f2 dIx (aA 6) (fC (.int 0))) (fC (.str "hang")))))
  (aO (aS 8 (aH (f2 bE (aA 3) (f2 dIx (aA 6) (fC (.int 1))))))
 (fIf (nF (fTE (fIO [.im (aA 0),.im (f2 dIx (aA 6) (fC (.int 2))),.im (aA 2),.im (aA 8),.io 4,.im (aA 5)] fj)))
  (bQ (aH (fC (.bl false))))
  aZ))
  aZ)
 (fIf (aL (fB (f2 dEq (f2 dIx (aA 6) (fC (.int 0))) (fC (.str "either")))))
  (aO (aS 9 (fIO [.im (aA 0),.io 4,.im (f2 bE (aA 5) (f2 jN (fC (.int 9)) (aI oQ (aB (f2 dEq (aA 5) (fC (.int 0))) aD)))),.im (aI bV (aB (f2 dIx (aA 6) (fC (.int 1))) aD))] kj))
 (fIf (nF (fTE (fIO [.im (aA 0),.im (f2 dIx (f2 dIx (aA 6) (fC (.int 1))) (aA 9)),.im (aA 2),.im (aA 3),.io 4,.im (aA 5)] fj)))
  (bQ (aH (fC (.bl false))))
  aZ))
  aZ))))))))))
 (bQ (aH (fC (.bl true)))))
abbrev nQ:Stmt:=top 29
theorem pB:FnScope ["_law_script","_law_row_here","_law_flat","_law_hang","_law_state","_law_salt","_law_piece","_law_inner","_law_blanks","_law_at"] ["_law_script","_law_row_here","_law_flat","_law_hang","_law_state","_law_salt"] (aQ nQ):=⟨rfl,rfl,rfl,by decide+kernel,rfl,by decide+kernel,by decide+kernel⟩
theorem yu0{n:Nat}{f:Addr}{fd:FuncData}{jt:(tz7)}{qy:Addr}{qh:FuncData}{ik:(tz6)}{oz:Addr}{oi:FuncData}{kj:(tz7)}{re:Addr}{qi:FuncData}{fj:(tz7)}(g6:Dn K mg "_law_set" nQ ["_law_script","_law_row_here","_law_flat","_law_hang","_law_state","_law_salt"] f fd)
  (ig:Dn K mg "_law_line" mE ["_law_state","_law_blanks"] qy qh) (kl:FnOk P w K mg base CX0 n qy qh ["_law_state","_law_blanks"] (SpE 2 K U (bF [true,false]) jt))
  (gb:Dn K mg "_law_column" kG ["_law_state"] oz oi) (jg:FnOk P w K mg base CX0 n oz oi ["_law_state"] (SpP 1 K U ik))
  (i9:Dn K mg "_law_next" mD ["_law_script","_law_state","_law_salt","_law_many"] re qi) (mm:FnOk P w K mg base CX0 n re qi ["_law_script","_law_state","_law_salt","_law_many"] (SpE 4 K U (bF [false,true,false,false]) kj))
  (jb:FnOk P w K mg base CX0 n f fd ["_law_script","_law_row_here","_law_flat","_law_hang","_law_state","_law_salt"] (SpE 6 K U (bF [false,false,false,false,true,false]) fj))
  (af:mg "len"=none)
  (t5:mg "int"=none):
  FnOk P w K mg base CX0 (n+1) f fd ["_law_script","_law_row_here","_law_flat","_law_hang","_law_state","_law_salt"] (SpE 6 K U (bF [false,false,false,false,true,false]) (gE 6 4 (bF [false,false,false,false,true,false]) (vN jt ik kj fj))):=
 mJ g6.F pB (fun i hi=>jL hi) fun cdv A outer s H E hr=>
 (aM (qS 6 1 PassesOwn.never rfl pB.nd rfl (.inl rfl) rfl rfl rfl
  (aM (cG (QT.e (bU (eX (Room.units hr)) (bK (aC 6) (QP.v aG)) (QP.v bS) (bL _)))
  (aR (lV (j:=4) rfl (bM eP (bK (aC 4) (QP.v aG)) (bK (aC 6) (QP.v aG))) (bH 4) (QP.v aG)))
  bX)
 (aM (cG (QT.e (jW (hZ (bU (eX (Room.units hr)) (bK (aC 6) (QP.v aG)) (QP.v bS) (bL _)) (gH (fF (aC 2))))))
  (aR (lV (j:=4) rfl (bM eP (bK (aC 4) (QP.v aG)) (bK (aC 6) (QP.v aG))) (bH 4) (QP.v aG)))
  bX)
 (aM (cG (QT.e (jW (hZ (bU (eX (Room.units hr)) (bK (aC 6) (QP.v aG)) (QP.v bS) (bL _)) (gH (jX (fF (aC 2)))))))
  (aR (dW (jZ ig kl hr rfl (iP 4 (bI (aC 3) dA)) rfl (fD rfl) (show List.Nodup ([4]:List Nat) by decide) (fun j hj=>by have h:j∈([4]:List Nat):=hj;simp only [List.mem_cons,List.not_mem_nil,or_false] at h;rcases h with rfl<;>rfl))))
  bX)
 (aM (cG (QT.e (bU (eX (Room.units hr)) (bK (aC 6) (QP.v aG)) (QP.v bS) (bL _)))
  (aR (dW (jZ ig kl hr rfl (iP 4 (bI (aC 3) dA)) rfl (fD rfl) (show List.Nodup ([4]:List Nat) by decide) (fun j hj=>by have h:j∈([4]:List Nat):=hj;simp only [List.mem_cons,List.not_mem_nil,or_false] at h;rcases h with rfl<;>rfl))))
  bX)
 (aM (cG (QT.e (bU (eX (Room.units hr)) (bK (aC 6) (QP.v aG)) (QP.v bS) (bL _)))
  (aM (cG (QT.e (jW (hZ (fF (aC 2)) (gH (bU uG (QP.v (dI gb jg hr rfl rfl (aJ (aC 4) aX) (aV cI))) (bK (aC 6) (QP.v aG)) (bL _))))))
  (aR (cO (QP.e iI)))
  bX)
 (aM (cG (QT.e (bU uG (QP.v (dI gb jg hr rfl rfl (aJ (aC 4) aX) (aV cI))) (bK (aC 6) (QP.v aG)) (bL _)))
  (aR (dW (jZ ig kl hr rfl (iP 4 (bI (QP.v aG) dA)) rfl (fD rfl) (show List.Nodup ([4]:List Nat) by decide) (fun j hj=>by have h:j∈([4]:List Nat):=hj;simp only [List.mem_cons,List.not_mem_nil,or_false] at h;rcases h with rfl<;>rfl))))
  bX)
 (aR (lV (j:=4) rfl (bM eP (bK (aC 4) (QP.v aG)) (QP.v (bM sB (QP.v bS) (QP.v (bM sA (bK (aC 6) (QP.v aG)) (QP.v (dI gb jg hr rfl rfl (aJ (aC 4) aX) (aV cI)))))))) (bH 4) (QP.v aG)))))
  bX)
 (aM (cG (QT.e (jW (hZ (bU (eX (Room.units hr)) (bK (aC 6) (QP.v aG)) (QP.v bS) (bL _)) (gH (fF (aC 2))))))
  (aR (cO (QP.e iI)))
  bX)
 (aM (cG (QT.e (bU (eX (Room.units hr)) (bK (aC 6) (QP.v aG)) (QP.v bS) (bL _)))
  (aM (bN 7 pB.nd rfl (.inl rfl) rfl rfl (QP.e (QV.p (aC 2))))
 (aM (cG (QT.e (jW (hZ (jX (fF (aC 2))) (gH (bU uG (aC 5) (QP.v aG) (bL _))))))
  (aR (bN 7 pB.nd rfl (.inl rfl) rfl rfl (zb8 (eX (Room.units hr)) (jZ i9 mm hr rfl (bI (aC 0) (iP 4 (bI (aC 5) (bI (QP.v aG) dA)))) rfl (fD rfl) (show List.Nodup ([4]:List Nat) by decide) (fun j hj=>by have h:j∈([4]:List Nat):=hj;simp only [List.mem_cons,List.not_mem_nil,or_false] at h;rcases h with rfl<;>rfl)) (QP.v aG) (bL _))))
  (aR (cG (QT.e (jX (fF (aC 2))))
  (aR (dW (fO (j:=4) rfl (jK (bH 4) (QP.v aG)) (aN aG bD))))
  bX)))
 (aR (cG (tM (qT (jZ g6 jb hr rfl (bI (aC 0) (bI (bK (aC 6) (QP.v aG)) (bI (aC 7) (bI (aC 3) (iP 4 (bI (aC 5) dA)))))) rfl (fD rfl) (show List.Nodup ([4]:List Nat) by decide) (fun j hj=>by have h:j∈([4]:List Nat):=hj;simp only [List.mem_cons,List.not_mem_nil,or_false] at h;rcases h with rfl<;>rfl))))
  (aR (cO (QP.e iI)))
  bX))))
  bX)
 (aM (cG (QT.e (bU (eX (Room.units hr)) (bK (aC 6) (QP.v aG)) (QP.v bS) (bL _)))
  (aM (bN 8 pB.nd rfl (.inl rfl) rfl rfl (QP.e (bM eP (aC 3) (bK (aC 6) (QP.v aG)))))
 (aR (cG (tM (qT (jZ g6 jb hr rfl (bI (aC 0) (bI (bK (aC 6) (QP.v aG)) (bI (aC 2) (bI (aC 8) (iP 4 (bI (aC 5) dA)))))) rfl (fD rfl) (show List.Nodup ([4]:List Nat) by decide) (fun j hj=>by have h:j∈([4]:List Nat):=hj;simp only [List.mem_cons,List.not_mem_nil,or_false] at h;rcases h with rfl<;>rfl))))
  (aR (cO (QP.e iI)))
  bX)))
  bX)
 (aR (cG (QT.e (bU (eX (Room.units hr)) (bK (aC 6) (QP.v aG)) (QP.v bS) (bL _)))
  (aM (bN 9 pB.nd rfl (.inl rfl) rfl rfl (jZ i9 mm hr rfl (bI (aC 0) (iP 4 (bI (QP.v (bM eP (aC 5) (QP.v (bM sB (QP.v aG) (QP.v (iO ye6 rfl t5 boot_int (aJ (QP.v (qZ (eX (Room.units hr)) (aC 5) (QP.v aG) (bL _))) aX))))))) (bI (QP.v (dJ gD rfl af boot_len (aJ (bK (aC 6) (QP.v aG)) aX))) dA)))) rfl (fD rfl) (show List.Nodup ([4]:List Nat) by decide) (fun j hj=>by have h:j∈([4]:List Nat):=hj;simp only [List.mem_cons,List.not_mem_nil,or_false] at h;rcases h with rfl<;>rfl)))
 (aR (cG (tM (qT (jZ g6 jb hr rfl (bI (aC 0) (bI (bK (bK (aC 6) (QP.v aG)) (aC 9)) (bI (aC 2) (bI (aC 3) (iP 4 (bI (aC 5) dA)))))) rfl (fD rfl) (show List.Nodup ([4]:List Nat) by decide) (fun j hj=>by have h:j∈([4]:List Nat):=hj;simp only [List.mem_cons,List.not_mem_nil,or_false] at h;rcases h with rfl<;>rfl))))
  (aR (cO (QP.e iI)))
  bX)))
  bX)))))))))))
 (aR (cO (QP.e iI))))
def zf5(fj:(tz7)):tz1:=
 (aO (aS 3 (aH (cA (aB (fC (.str "")) (aB (cA aD) (aB (fC (.int 0)) aD))))))
 (aO (fIf (fTE (fIO [.im (aA 0),.im (aA 1),.im (fC (.bl false)),.im (fC (.int 0)),.io 3,.im (aA 2)] fj))
  (bQ (aH (cE (aB (aY (f2 dIx (aA 3) (fC (.int 0)))) (aB (aI dG (aB (f2 dIx (aA 3) (fC (.int 1))) aD)) aD)))))
  aZ)
 (aO (aS 3 (aH (cA (aB (fC (.str "")) (aB (cA aD) (aB (fC (.int 0)) aD))))))
 (aO (bA (fIO [.im (aA 0),.im (aA 1),.im (fC (.bl false)),.im (fC (.int 0)),.io 3,.im (fC (.int 0))] fj))
 (bQ (aH (cE (aB (aY (f2 dIx (aA 3) (fC (.int 0)))) (aB (aI dG (aB (f2 dIx (aA 3) (fC (.int 1))) aD)) aD)))))))))
abbrev lB:Stmt:=top 30
theorem uR:FnScope ["_law_script","_law_row_here","_law_salt","_law_state"] ["_law_script","_law_row_here","_law_salt"] (aQ lB):=⟨rfl,rfl,rfl,by decide+kernel,rfl,by decide+kernel,by decide+kernel⟩
theorem yf5{n:Nat}{f:Addr}{fd:FuncData}{fj:(tz7)}{tz:Addr}{rf:FuncData}(jc:Dn K mg "_law_drawn" lB ["_law_script","_law_row_here","_law_salt"] f fd)
  (g6:Dn K mg "_law_set" nQ ["_law_script","_law_row_here","_law_flat","_law_hang","_law_state","_law_salt"] tz rf) (jb:FnOk P w K mg base CX0 n tz rf ["_law_script","_law_row_here","_law_flat","_law_hang","_law_state","_law_salt"] (SpE 6 K U (bF [false,false,false,false,true,false]) fj))
  (cz:mg "tuple"=none):
  FnOk P w K mg base CX0 (n+1) f fd ["_law_script","_law_row_here","_law_salt"] (SpP 3 K U (gP 3 1 (zf5 fj))):=
 eY jc.F uR fun cdv A outer s H E B hr=>
 (aM (bN 3 uR.nd rfl (.inl rfl) rfl rfl (QP.e (eB (aN bS (aN (eB bD) (aN aG bD))))))
 (aM (cG (qT (jZ g6 jb hr rfl (bI (aC 0) (bI (aC 1) (bI (QP.v iI) (bI (QP.v aG) (iP 3 (bI (aC 2) dA)))))) rfl (fD rfl) (show List.Nodup ([3]:List Nat) by decide) (fun j hj=>by have h:j∈([3]:List Nat):=hj;simp only [List.mem_cons,List.not_mem_nil,or_false] at h;rcases h with rfl<;>rfl)))
  (aR (cO (QP.e (dQ (aN (QV.p (bK (aC 3) (QP.v aG))) (aN (iO mI rfl cz boot_tuple (aJ (bK (aC 3) (QP.v aG)) aX)) bD))))))
  bX)
 (aM (bN 3 uR.nd rfl (.inl rfl) rfl rfl (QP.e (eB (aN bS (aN (eB bD) (aN aG bD))))))
 (aM (dW (jZ g6 jb hr rfl (bI (aC 0) (bI (aC 1) (bI (QP.v iI) (bI (QP.v aG) (iP 3 (bI (QP.v aG) dA)))))) rfl (fD rfl) (show List.Nodup ([3]:List Nat) by decide) (fun j hj=>by have h:j∈([3]:List Nat):=hj;simp only [List.mem_cons,List.not_mem_nil,or_false] at h;rcases h with rfl<;>rfl)))
 (aR (cO (QP.e (dQ (aN (QV.p (bK (aC 3) (QP.v aG))) (aN (iO mI rfl cz boot_tuple (aJ (bK (aC 3) (QP.v aG)) aX)) bD))))))))))
def xE(jv:(List D->Bool)):tz1:=
 (aO (aS 2 (aH (fC .non)))
 (zv6 jv (aB (aA 0) (aB (aA 1) aD))))
abbrev iT:Stmt:=top 31
theorem rJ:FnScope ["_law_row_here","_law_choices","_law_bad","e"] ["_law_row_here","_law_choices"] (aQ iT):=⟨rfl,rfl,rfl,by decide+kernel,rfl,by decide+kernel,by decide+kernel⟩
theorem zs6{n:Nat}{f:Addr}{fd:FuncData}{jv:(List D->Bool)}{jh:Addr}{iy:FuncData}{ge:Addr}{aa:Addr}{jd:Addr}{ju:Addr}(cf:Dn K mg "_law_refused" iT ["_law_row_here","_law_choices"] f fd)
  (bz:Dn K mg "set_by" iL ["row","choices"] jh iy) (lm:FnOk P w K mg base (CXn P w base aa) n jh iy ["row","choices"] (sW 2 K U aa jv))
  (lq:OwnCls "LineError" ge bmV "ValueError.__new__" mg base)
  (aw:OwnCls "NoChoice" aa bmV "ValueError.__new__" mg base)
  (gk:PySem.W.mroIn K aa (.ref ge)=some true)
  (iz:KExc K aa)
  (nq:mg "NoPiece"=some (.ref jd))
  (oo:mg "NoRoom"=some (.ref ju))
  (dj:PySem.W.kitAny K (.ref aa) [.ref jd,.ref ju]=some false)
  (gv:PySem.W.kitOne K (.ref aa) (.ref aa)=some true)
  (gf:PySem.W.kitOne K (.ref aa) (.type "ValueError")=some true)
  (cq:mg "isinstance"=none)
  (km:mg "ValueError"=none):
  FnOk P w K mg base CX0 (n+1) f fd ["_law_row_here","_law_choices"] (SpP 2 K U (gP 2 2 (xE jv))):=
 eY cf.F rJ fun cdv A outer s H E B hr=>
 (aM (bN 2 rJ.nd rfl (.inl rfl) rfl rfl (QP.e oC))
 (zH bz lm aw lq gk rfl hr rfl rfl rfl (aJ (aC 0) (aJ (aC 1) aX)) (aV (aV cI)) rfl rfl rJ.nd rfl rfl (by decide) rfl rfl (i:=3) (j:=2) (fun ea oe hc=>(zJ rfl (Or.inl rfl) (xV zi4 hc iz rfl cq rfl (Or.inl rfl) (qQ (v:= .ref aa) rfl aw.bound rfl) (fun u h=>by cases h;exact gv)) (xV zi4 hc iz rfl cq rfl (Or.inl rfl) (xK rfl km rfl (v:= .ty "ValueError") rfl) (fun u h=>by cases h;exact gf)) (zI zi4 hc iz rfl cq rfl (Or.inl rfl) (qQ (v:= .ref jd) rfl nq rfl) (qQ (v:= .ref ju) rfl oo rfl) (fun us h=>by cases h with|cons h1 h2=>cases h2 with|cons h3 h4=>cases h4;cases h1;cases h3;exact dj))))))
def pQ(cr:(tz7)):tz1:=
 (aO (aS 3 (aH (cA aD)))
 (aO (fI 4 (dR (aA 0))
  (aO (fIf (aL (fB (f2 dEq (f2 dIx (aA 4) (fC (.int 0))) (fC (.str "hang")))))
  (aS 3 (vL 3 bE (fIO [.im (f2 dIx (aA 4) (fC (.int 2))),.im (aA 1),.io 2] cr)))
  aZ)
 (aO (fIf (aL (fB (f2 dEq (f2 dIx (aA 4) (fC (.int 0))) (fC (.str "group")))))
  (aO (aS 5 (aH (aY (aA 1))))
 (aO (fIf (aL (dE (fT (aA 1))))
  (aO (aS 5 (fE2 dEq (bG 2 aW (aB (fC (.int 0)) aD) vI) (fC (.int 0))))
 (bA (bG 3 aW (aB (fC (.int 2)) aD) bC)))
  aZ)
 (aS 3 (vL 3 bE (fIO [.im (f2 dIx (aA 4) (fC (.int 1))),.im (aA 5),.io 2] cr)))))
  aZ)
 (fIf (aL (fB (f2 dEq (f2 dIx (aA 4) (fC (.int 0))) (fC (.str "either")))))
  (aO (aS 6 (bG 2 aW (aB (fC (.int 0)) aD) vI))
 (aO (bA (bG 3 aW (aB (aI bV (aB (f2 dIx (aA 4) (fC (.int 1))) aD)) aD) bC))
 (aS 3 (vL 3 bE (fIO [.im (f2 dIx (f2 dIx (aA 4) (fC (.int 1))) (aA 6)),.im (aA 1),.io 2] cr)))))
  aZ))))
 (fJ 3)))
abbrev kH:Stmt:=top 32
theorem iJ:FnScope ["_law_row_here","_law_flat","_law_choices","_law_wanted_here","_law_piece","_law_inner","_law_at"] ["_law_row_here","_law_flat","_law_choices"] (aQ kH):=⟨rfl,rfl,rfl,by decide+kernel,rfl,by decide+kernel,by decide+kernel⟩
theorem zx6{n:Nat}{f:Addr}{fd:FuncData}{cr:(tz7)}(dt:Dn K mg "_law_wanted" kH ["_law_row_here","_law_flat","_law_choices"] f fd)
  (gw:FnOk P w K mg base CX0 n f fd ["_law_row_here","_law_flat","_law_choices"] (SpE 3 K U (bF [false,false,true]) cr))
  (af:mg "len"=none):
  FnOk P w K mg base CX0 (n+1) f fd ["_law_row_here","_law_flat","_law_choices"] (SpE 3 K U (bF [false,false,true]) (gE 3 4 (bF [false,false,true]) (pQ cr))):=
 mJ dt.F iJ (fun i hi=>jL hi) fun cdv A outer s H E hr=>
 (aM (bN 3 iJ.nd rfl (.inl rfl) rfl rfl (QP.e (eB bD)))
 (aM (qS 4 0 PassesOwn.never rfl iJ.nd rfl (.inl rfl) rfl rfl rfl
  (aM (cG (QT.e (bU (eX (Room.units hr)) (bK (aC 4) (QP.v aG)) (QP.v bS) (bL _)))
  (aR (bN 3 iJ.nd rfl (.inl rfl) rfl rfl (tN 3 eP (jZ dt gw hr rfl (bI (bK (aC 4) (QP.v aG)) (bI (aC 1) (iP 2 dA))) rfl (fD rfl) (show List.Nodup ([2]:List Nat) by decide) (fun j hj=>by have h:j∈([2]:List Nat):=hj;simp only [List.mem_cons,List.not_mem_nil,or_false] at h;rcases h with rfl<;>rfl)))))
  bX)
 (aM (cG (QT.e (bU (eX (Room.units hr)) (bK (aC 4) (QP.v aG)) (QP.v bS) (bL _)))
  (aM (bN 5 iJ.nd rfl (.inl rfl) rfl rfl (QP.e (QV.p (aC 1))))
 (aM (cG (QT.e (jX (fF (aC 1))))
  (aM (bN 5 iJ.nd rfl (.inl rfl) rfl rfl (zb8 (eX (Room.units hr)) (xT (j:=2) rfl (bH 2) (aJ (QP.v aG) aX)) (QP.v aG) (bL _)))
 (aR (dW (fO (j:=3) rfl (bH 3) (aN aG bD)))))
  bX)
 (aR (bN 3 iJ.nd rfl (.inl rfl) rfl rfl (tN 3 eP (jZ dt gw hr rfl (bI (bK (aC 4) (QP.v aG)) (bI (aC 5) (iP 2 dA))) rfl (fD rfl) (show List.Nodup ([2]:List Nat) by decide) (fun j hj=>by have h:j∈([2]:List Nat):=hj;simp only [List.mem_cons,List.not_mem_nil,or_false] at h;rcases h with rfl<;>rfl)))))))
  bX)
 (aR (cG (QT.e (bU (eX (Room.units hr)) (bK (aC 4) (QP.v aG)) (QP.v bS) (bL _)))
  (aM (bN 6 iJ.nd rfl (.inl rfl) rfl rfl (xT (j:=2) rfl (bH 2) (aJ (QP.v aG) aX)))
 (aM (dW (fO (j:=3) rfl (bH 3) (aN (dJ gD rfl af boot_len (aJ (bK (aC 4) (QP.v aG)) aX)) bD)))
 (aR (bN 3 iJ.nd rfl (.inl rfl) rfl rfl (tN 3 eP (jZ dt gw hr rfl (bI (bK (bK (aC 4) (QP.v aG)) (aC 6)) (bI (aC 1) (iP 2 dA))) rfl (fD rfl) (show List.Nodup ([2]:List Nat) by decide) (fun j hj=>by have h:j∈([2]:List Nat):=hj;simp only [List.mem_cons,List.not_mem_nil,or_false] at h;rcases h with rfl<;>rfl)))))))
  bX)))))
 (aR (qR 3 rfl))))
def yX(aj:(tz6))(cg:(tz6))(cr:(tz7))(df:(tz6)):tz1:=
 (aO (aS 3 (aH (aI aj (aB (aA 0) (aB (fC (.int 1)) (aB (fC (.int 60)) aD))))))
 (aO (fI 4 (kC (aB (aI bV (aB (aA 2) aD)) aD))
  (fIf (aL (dE (fT (aI cg (aB (aA 1) (aB (fSl (aA 2) jI (mT (aA 4))) aD))))))
  (bQ (aH (fC (.bl false))))
  aZ))
 (aO (fI 5 (dR (cA (aB (cE (aB (fC (.int 0)) aD)) (aB (cE (aB (f2 cU (aA 3) (fC (.int 4))) (aB (fC (.int 1)) aD))) (aB (cE (aB (fC (.int 1)) (aB (fC (.int 0)) (aB (f2 cU (aA 3) (fC (.int 3))) aD)))) aD)))))
  (fIf (aL (dE (fT (aI cg (aB (aA 1) (aB (f2 bE (aA 2) (aA 5)) aD))))))
  (bQ (aH (fC (.bl false))))
  aZ))
 (aO (aS 6 (aH (xA cr (aB (aY (aA 1)) (aB (fC (.bl false)) (aB (aI zf0 (aB (aA 2) aD)) aD))))))
 (aO (aS 7 (aH (f2 cU (aI df (aB (aA 0) (aB (fC (.int 1)) aD))) (f2 yh7 (fC (.int 10)) (fC (.int 30))))))
 (aO (fI 8 (kC (aB (aI bV (aB (aA 2) aD)) aD))
  (fI 9 (dR (cA (aB (aY (f2 dIx (aA 6) (aA 8))) (aB (fC (.int 4)) (aB (eO (fC (.int 1))) (aB (f2 dIx (cA (aB (f2 fQ (eO (fC (.int 1))) (aA 7)) (aB (f2 bE (fC (.int 4)) (aA 7)) aD))) (f2 cU (aA 8) (fC (.int 2)))) aD))))))
  (fIf (aL (dE (fT (aI cg (aB (aA 1) (aB (f2 bE (f2 bE (fSl (aA 2) jI (mT (aA 8))) (cE (aB (aY (aA 9)) aD))) (fSl (aA 2) (mT (f2 bE (aA 8) (fC (.int 1)))) jI)) aD))))))
  (bQ (aH (fC (.bl false))))
  aZ)))
 (bQ (aH (fC (.bl true))))))))))
abbrev kI:Stmt:=top 33
theorem jG:FnScope ["_law_script","_law_row_here","_law_choices","_law_number","_law_many","_law_more","_law_wanted_here","_law_far","_law_at","_law_bad"] ["_law_script","_law_row_here","_law_choices"] (aQ kI):=⟨rfl,rfl,rfl,by decide+kernel,rfl,by decide+kernel,by decide+kernel⟩
theorem zx7{n:Nat}{f:Addr}{fd:FuncData}{aj:(tz6)}{cb:Addr}{b0:FuncData}{cg:(tz6)}{i3:Addr}{ii:FuncData}{cr:(tz7)}{o4:Addr}{oj:FuncData}{df:(tz6)}{iw:Addr}{ie:FuncData}(il:Dn K mg "_law_spoilt" kI ["_law_script","_law_row_here","_law_choices"] f fd)
  (bc:Dn K mg "_law_mixed" gR ["_law_script","_law_k","_law_salt"] cb b0) (bg:FnOk P w K mg base CX0 n cb b0 ["_law_script","_law_k","_law_salt"] (SpP 3 K U aj))
  (cf:Dn K mg "_law_refused" iT ["_law_row_here","_law_choices"] i3 ii) (d8:FnOk P w K mg base CX0 n i3 ii ["_law_row_here","_law_choices"] (SpP 2 K U cg))
  (dt:Dn K mg "_law_wanted" kH ["_law_row_here","_law_flat","_law_choices"] o4 oj) (gw:FnOk P w K mg base CX0 n o4 oj ["_law_row_here","_law_flat","_law_choices"] (SpE 3 K U (bF [false,false,true]) cr))
  (ck:Dn K mg "_law_cell_at" gQ ["_law_script","_law_k"] iw ie) (dw:FnOk P w K mg base CX0 n iw ie ["_law_script","_law_k"] (SpP 2 K U df))
  (d9:mg "range"=none)
  (af:mg "len"=none)
  (rg:mg "list"=none):
  FnOk P w K mg base CX0 (n+1) f fd ["_law_script","_law_row_here","_law_choices"] (SpP 3 K U (gP 3 7 (yX aj cg cr df))):=
 eY il.F jG fun cdv A outer s H E B hr=>
 (aM (bN 3 jG.nd rfl (.inl rfl) rfl rfl (QP.e (dI bc bg hr rfl rfl (aJ (aC 0) (aJ (QP.v aG) (aJ (QP.v aG) aX))) (aV (aV (aV cI))))))
 (aM (oG 4 PassesOwn.never rfl jG.nd rfl (.inl rfl) rfl rfl (nR rfl d9 (aJ (QP.v (dJ gD rfl af boot_len (aJ (aC 2) aX))) aX))
  (aR (cG (QT.e (jX (fF (QP.v (dI cf d8 hr rfl rfl (aJ (aC 1) (aJ (QP.v (rB (aC 2) tI (tJ (aC 4)))) aX)) (aV (aV cI)))))))
  (aR (cO (QP.e iI)))
  bX)))
 (aM (oG 5 PassesOwn.never rfl jG.nd rfl (.inl rfl) rfl rfl (zb1 (eB (aN (dQ (aN aG bD)) (aN (dQ (aN (bM fA (aC 3) (QP.v aG)) (aN aG bD))) (aN (dQ (aN aG (aN aG (aN (bM fA (aC 3) (QP.v aG)) bD)))) bD)))))
  (aR (cG (QT.e (jX (fF (QP.v (dI cf d8 hr rfl rfl (aJ (aC 1) (aJ (QP.v (bM eP (aC 2) (aC 5))) aX)) (aV (aV cI)))))))
  (aR (cO (QP.e iI)))
  bX)))
 (aM (bN 6 jG.nd rfl (.inl rfl) rfl rfl (QP.e (zr7 dt gw hr rfl (ye9 2) rfl (aN (QV.p (aC 1)) (aN iI (aN (iO zq7 rfl rg boot_list (aJ (aC 2) aX)) bD))) (aV (aV (aV cI))))))
 (aM (bN 7 jG.nd rfl (.inl rfl) rfl rfl (QP.e (bM fA (QP.v (dI ck dw hr rfl rfl (aJ (aC 0) (aJ (QP.v aG) aX)) (aV (aV cI)))) (QP.v (bM ye5 (QP.v aG) (QP.v aG))))))
 (aM (oG 8 PassesOwn.never rfl jG.nd rfl (.inl rfl) rfl rfl (nR rfl d9 (aJ (QP.v (dJ gD rfl af boot_len (aJ (aC 2) aX))) aX))
  (aR (oG 9 PassesOwn.never rfl jG.nd rfl (.inl rfl) rfl rfl (zb1 (eB (aN (QV.p (bK (aC 6) (aC 8))) (aN aG (aN (lT (QP.v aG)) (aN (pN (eB (aN (bM sA (QP.v (lT (QP.v aG))) (aC 7)) (aN (bM eP (QP.v aG) (aC 7)) bD))) (QP.v (bM fA (aC 8) (QP.v aG)))) bD))))))
  (aR (cG (QT.e (jX (fF (QP.v (dI cf d8 hr rfl rfl (aJ (aC 1) (aJ (QP.v (bM eP (QP.v (bM eP (QP.v (rB (aC 2) tI (tJ (aC 8)))) (QP.v (dQ (aN (QV.p (aC 9)) bD))))) (QP.v (rB (aC 2) (tJ (QP.v (bM eP (aC 8) (QP.v aG)))) tI)))) aX)) (aV (aV cI)))))))
  (aR (cO (QP.e iI)))
  bX)))))
 (aR (cO (QP.e iI)))))))))
def vT:tz1:=
 (aO (aS 1 (aH (fC (.str ""))))
 (aO (fI 2 (dR (aA 0))
  (aO (fIf (aL (eH (fB (f2 dEq (f2 dIx (aA 2) (fC (.int 0))) (fC (.str "end")))) (cF (fB (f2 dEq (f2 dIx (aA 2) (fC (.int 0))) (fC (.str "stop")))) (fB (f2 dGt (aI bV (aB (aA 1) aD)) (f2 dIx (aA 2) (fC (.int 1))))))))
  (bQ (aH (fC .non)))
  aZ)
 (fIf (aL (fB (f2 dEq (f2 dIx (aA 2) (fC (.int 0))) (fC (.str "stop")))))
  (aS 1 (aH (fMt pX (aA 1) (aB (f2 dIx (aA 2) (fC (.int 1))) aD))))
  (aS 1 (aH (f2 bE (aA 1) (f2 dIx (aA 2) (fC (.int 1)))))))))
 (fJ 1)))
abbrev iW:Stmt:=top 34
theorem lF:FnScope ["_law_row_here","_law_text","_law_piece"] ["_law_row_here"] (aQ iW):=⟨rfl,rfl,rfl,by decide+kernel,rfl,by decide+kernel,by decide+kernel⟩
theorem zn3{n:Nat}{f:Addr}{fd:FuncData}(gl:Dn K mg "_law_one_line" iW ["_law_row_here"] f fd)
  (af:mg "len"=none):
  FnOk P w K mg base CX0 (n+1) f fd ["_law_row_here"] (SpP 1 K U (gP 1 2 (vT))):=
 eY gl.F lF fun cdv A outer s H E B hr=>
 (aM (bN 1 lF.nd rfl (.inl rfl) rfl rfl (QP.e bS))
 (aM (qS 2 0 PassesOwn.never rfl lF.nd rfl (.inl rfl) rfl rfl rfl
  (aM (cG (QT.e (jW (uF (bU (eX (Room.units hr)) (bK (aC 2) (QP.v aG)) (QP.v bS) (bL _)) (rA (jW (hZ (bU (eX (Room.units hr)) (bK (aC 2) (QP.v aG)) (QP.v bS) (bL _)) (gH (bU uG (QP.v (dJ gD rfl af boot_len (aJ (aC 1) aX))) (bK (aC 2) (QP.v aG)) (bL _)))))))))
  (aR (cO (QP.e oC)))
  bX)
 (aR (cG (QT.e (bU (eX (Room.units hr)) (bK (aC 2) (QP.v aG)) (QP.v bS) (bL _)))
  (aR (bN 1 lF.nd rfl (.inl rfl) rfl rfl (QP.e (uI PySem.F.slot_str_ljust PySem.F.type_str_ljust zh9 (aC 1) (aJ (bK (aC 2) (QP.v aG)) aX)))))
  (aR (bN 1 lF.nd rfl (.inl rfl) rfl rfl (QP.e (bM eP (aC 1) (bK (aC 2) (QP.v aG))))))))))
 (aR (qR 1 rfl))))
def zf6(aj:(tz6))(gu:(tz6)):tz1:=
 (aO (aS 1 (aH (cA aD)))
 (aO (fI 2 (kC (aB (f2 bE (fC (.int 1)) (f2 cU (aI aj (aB (aA 0) (aB (fC (.int 2)) (aB (fC (.int 61)) aD)))) (fC (.int 8)))) aD))
  (aO (aS 3 (aH (aI aj (aB (aA 0) (aB (f2 bE (fC (.int 2)) (aA 2)) (aB (fC (.int 62)) aD))))))
 (fIf (aL (fB (f2 dLt (f2 cU (aA 3) (fC (.int 10))) (fC (.int 5)))))
  (bA (bG 1 aW (aB (cE (aB (fC (.str "word")) (aB (aI gu (aB (f2 gM (aA 3) (fC (.int 10))) aD)) aD))) aD) bC))
  (fIf (aL (fB (f2 dLt (f2 cU (aA 3) (fC (.int 10))) (fC (.int 7)))))
  (bA (bG 1 aW (aB (cE (aB (fC (.str "gap")) (aB (f2 dIx (cA (aB (fC (.str " ")) (aB (fC (.str "")) aD))) (f2 cU (aA 3) (fC (.int 2)))) aD))) aD) bC))
  (fIf (aL (cF (fB (f2 dEq (f2 cU (aA 3) (fC (.int 10))) (fC (.int 7)))) (fB (f2 dGt (f2 cU (f2 gM (aA 3) (fC (.int 10))) (fC (.int 3))) (fC (.int 0))))))
  (bA (bG 1 aW (aB (cE (aB (fC (.str "end")) aD)) aD) bC))
  (bA (bG 1 aW (aB (cE (aB (fC (.str "stop")) (aB (f2 cU (f2 gM (aA 3) (fC (.int 30))) (fC (.int 41))) aD))) aD) bC)))))))
 (bQ (aH (aI dG (aB (aA 1) aD))))))
abbrev lC:Stmt:=top 35
theorem qL:FnScope ["_law_script","_law_row_here","_law_k","_law_number"] ["_law_script"] (aQ lC):=⟨rfl,rfl,rfl,by decide+kernel,rfl,by decide+kernel,by decide+kernel⟩
theorem yf6{n:Nat}{f:Addr}{fd:FuncData}{aj:(tz6)}{cb:Addr}{b0:FuncData}{gu:(tz6)}{kh:Addr}{jw:FuncData}(je:Dn K mg "_law_group" lC ["_law_script"] f fd)
  (bc:Dn K mg "_law_mixed" gR ["_law_script","_law_k","_law_salt"] cb b0) (bg:FnOk P w K mg base CX0 n cb b0 ["_law_script","_law_k","_law_salt"] (SpP 3 K U aj))
  (gs:Dn K mg "_law_word" kW ["_law_number"] kh jw) (js:FnOk P w K mg base CX0 n kh jw ["_law_number"] (SpP 1 K U gu))
  (d9:mg "range"=none)
  (cz:mg "tuple"=none):
  FnOk P w K mg base CX0 (n+1) f fd ["_law_script"] (SpP 1 K U (gP 1 3 (zf6 aj gu))):=
 eY je.F qL fun cdv A outer s H E B hr=>
 (aM (bN 1 qL.nd rfl (.inl rfl) rfl rfl (QP.e (eB bD)))
 (aM (oG 2 PassesOwn.never rfl qL.nd rfl (.inl rfl) rfl rfl (nR rfl d9 (aJ (QP.v (bM eP (QP.v aG) (QP.v (bM fA (QP.v (dI bc bg hr rfl rfl (aJ (aC 0) (aJ (QP.v aG) (aJ (QP.v aG) aX))) (aV (aV (aV cI))))) (QP.v aG))))) aX))
  (aM (bN 3 qL.nd rfl (.inl rfl) rfl rfl (QP.e (dI bc bg hr rfl rfl (aJ (aC 0) (aJ (QP.v (bM eP (QP.v aG) (aC 2))) (aJ (QP.v aG) aX))) (aV (aV (aV cI))))))
 (aR (cG (QT.e (bU (oF (Room.units0 hr)) (QP.v (bM fA (aC 3) (QP.v aG))) (QP.v aG) (bL _)))
  (aR (dW (fO (j:=1) rfl (bH 1) (aN (dQ (aN bS (aN (dI gs js hr rfl rfl (aJ (QP.v (bM lM (aC 3) (QP.v aG))) aX) (aV cI)) bD))) bD))))
  (aR (cG (QT.e (bU (oF (Room.units0 hr)) (QP.v (bM fA (aC 3) (QP.v aG))) (QP.v aG) (bL _)))
  (aR (dW (fO (j:=1) rfl (bH 1) (aN (dQ (aN bS (aN (pN (eB (aN bS (aN bS bD))) (QP.v (bM fA (aC 3) (QP.v aG)))) bD))) bD))))
  (aR (cG (QT.e (jW (hZ (bU (eX (Room.units hr)) (QP.v (bM fA (aC 3) (QP.v aG))) (QP.v aG) (bL _)) (gH (bU uG (QP.v (bM fA (QP.v (bM lM (aC 3) (QP.v aG))) (QP.v aG))) (QP.v aG) (bL _))))))
  (aR (dW (fO (j:=1) rfl (bH 1) (aN (dQ (aN bS bD)) bD))))
  (aR (dW (fO (j:=1) rfl (bH 1) (aN (dQ (aN bS (aN (bM fA (QP.v (bM lM (aC 3) (QP.v aG))) (QP.v aG)) bD))) bD))))))))))))
 (aR (cO (QP.e (iO mI rfl cz boot_tuple (aJ (aC 1) aX)))))))
def zw0(ny:(tz6))(aj:(tz6))(li:(tz6))(j8:(tz6))(ll:(tz6))(ji:(tz6))(cg:(tz6))(iq:(tz6)):tz1:=
 (aO (aS 1 (aH (aI ny (aB (aA 0) (aB (fC (.int 3)) (aB (f2 bE (fC (.int 3)) (f2 cU (aI aj (aB (aA 0) (aB (fC (.int 0)) (aB (fC (.int 40)) aD)))) (fC (.int 28)))) (aB (fC (.int 3)) aD)))))))
 (aO (aS 2 (aH (aI li (aB (aA 0) (aB (aA 1) (aB (fC (.int 1)) aD))))))
 (aO (fIf (aL (dE (fT (aI j8 (aB (aA 0) (aB (aA 1) (aB (f2 dIx (aA 2) (fC (.int 1))) aD)))))))
  (bQ (aH (fC (.bl false))))
  aZ)
 (aO (aS 3 (aH (aI ll (aB (aA 0) aD))))
 (aO (aS 4 (aH (aI ji (aB (aA 3) aD))))
 (aO (aS 5 (aH (cE (aB (cE (aB (fC (.str "group")) (aB (aY (aA 3)) aD))) aD))))
 (aO (fIf (aL (fB (f2 dEq (f2 cU (aI aj (aB (aA 0) (aB (fC (.int 1)) (aB (fC (.int 63)) aD)))) (fC (.int 3))) (fC (.int 0)))))
  (aS 5 (aH (cE (aB (cE (aB (fC (.str "group")) (aB (cE (aB (cE (aB (fC (.str "hang")) (aB (fC (.int 4)) (aB (aY (aA 3)) aD)))) aD)) aD))) aD))))
  aZ)
 (aO (fIf (aL (cF (fB (f2 dIs (aA 4) (fC .non))) (dE (fT (aI cg (aB (aA 5) (aB (cE (aB (fC (.int 0)) aD)) aD)))))))
  (bQ (aH (fC (.bl false))))
  aZ)
 (aO (fIf (aL (cF (fB (f2 wY (aA 4) (fC .non))) (fB (f2 dNe (aI iq (aB (aA 5) (aB (cE (aB (fC (.int 0)) aD)) aD))) (aA 4)))))
  (bQ (aH (fC (.bl false))))
  aZ)
 (aO (aS 6 (aH (aI bV (aB (sM [none] (dR (aA 3)) (eH (fB (f2 dEq (f2 dIx (aA 0) (fC (.int 0))) (fC (.str "gap")))) (fB (f2 dEq (f2 dIx (aA 0) (fC (.int 0))) (fC (.str "end"))))) (aY (aA 0))) aD))))
 (aO (aS 7 (aH (aI iq (aB (aA 5) (aB (cE (aB (fC (.int 1)) aD)) aD)))))
 (aO (fIf (aL (eH (dE (fT (aI vF (aB (aA 7) (aB (fC (.ty "str")) aD))))) (fB (f2 dLe (aI bV (aB (fMt uB (aA 7) (aB (fC (.str "\n")) aD)) aD)) (aA 6)))))
  (bQ (aH (fC (.bl false))))
  aZ)
 (aO (aS 8 (aH (aI iq (aB (aA 1) (aB (f2 dIx (aA 2) (fC (.int 1))) aD)))))
 (bQ (aH (qG (aI vF (aB (aA 8) (aB (fC (.ty "str")) aD))) (f2 dEq (aA 8) (f2 dIx (aA 2) (fC (.int 0))))))))))))))))))))
abbrev nC:Stmt:=top 36
theorem nA:FnScope ["_law_script","_law_row_here","_law_drawn_here","_law_inner","_law_due","_law_whole","_law_lines","_law_broken","_law_found"] ["_law_script"] (aQ nC):=⟨rfl,rfl,rfl,by decide+kernel,rfl,by decide+kernel,by decide+kernel⟩
theorem xi5{n:Nat}{f:Addr}{fd:FuncData}{ny:(tz6)}{t3:Addr}{rh:FuncData}{aj:(tz6)}{cb:Addr}{b0:FuncData}{li:(tz6)}{qj:Addr}{o5:FuncData}{j8:(tz6)}{o6:Addr}{ol:FuncData}{ll:(tz6)}{qk:Addr}{o7:FuncData}{ji:(tz6)}{nr:Addr}{nc:FuncData}{cg:(tz6)}{i3:Addr}{ii:FuncData}{iq:(tz6)}{jh:Addr}{iy:FuncData}(t6:Dn K mg "law" nC ["_law_script"] f fd)
  (kg:Dn K mg "_law_row" nP ["_law_script","_law_at","_law_many","_law_nest"] t3 rh) (pw:FnOk P w K mg base CX0 n t3 rh ["_law_script","_law_at","_law_many","_law_nest"] (SpP 4 K U ny))
  (bc:Dn K mg "_law_mixed" gR ["_law_script","_law_k","_law_salt"] cb b0) (bg:FnOk P w K mg base CX0 n cb b0 ["_law_script","_law_k","_law_salt"] (SpP 3 K U aj))
  (jc:Dn K mg "_law_drawn" lB ["_law_script","_law_row_here","_law_salt"] qj o5) (nu:FnOk P w K mg base CX0 n qj o5 ["_law_script","_law_row_here","_law_salt"] (SpP 3 K U li))
  (il:Dn K mg "_law_spoilt" kI ["_law_script","_law_row_here","_law_choices"] o6 ol) (mn:FnOk P w K mg base CX0 n o6 ol ["_law_script","_law_row_here","_law_choices"] (SpP 3 K U j8))
  (je:Dn K mg "_law_group" lC ["_law_script"] qk o7) (nv:FnOk P w K mg base CX0 n qk o7 ["_law_script"] (SpP 1 K U ll))
  (gl:Dn K mg "_law_one_line" iW ["_law_row_here"] nr nc) (kn:FnOk P w K mg base CX0 n nr nc ["_law_row_here"] (SpP 1 K U ji))
  (cf:Dn K mg "_law_refused" iT ["_law_row_here","_law_choices"] i3 ii) (d8:FnOk P w K mg base CX0 n i3 ii ["_law_row_here","_law_choices"] (SpP 2 K U cg))
  (bz:Dn K mg "set_by" iL ["row","choices"] jh iy) (jj:FnOk P w K mg base CX0 n jh iy ["row","choices"] (SpP 2 K U iq))
  (af:mg "len"=none)
  (cq:mg "isinstance"=none)
  (qu:mg "str"=none):
  FnOk P w K mg base CX0 (n+1) f fd ["_law_script"] (SpP 1 K U (gP 1 8 (zw0 ny aj li j8 ll ji cg iq))):=
 eY t6.F nA fun cdv A outer s H E B hr=>
 (aM (bN 1 nA.nd rfl (.inl rfl) rfl rfl (QP.e (dI kg pw hr rfl rfl (aJ (aC 0) (aJ (QP.v aG) (aJ (QP.v (bM eP (QP.v aG) (QP.v (bM fA (QP.v (dI bc bg hr rfl rfl (aJ (aC 0) (aJ (QP.v aG) (aJ (QP.v aG) aX))) (aV (aV (aV cI))))) (QP.v aG))))) (aJ (QP.v aG) aX)))) (aV (aV (aV (aV cI)))))))
 (aM (bN 2 nA.nd rfl (.inl rfl) rfl rfl (QP.e (dI jc nu hr rfl rfl (aJ (aC 0) (aJ (aC 1) (aJ (QP.v aG) aX))) (aV (aV (aV cI))))))
 (aM (cG (QT.e (jX (fF (QP.v (dI il mn hr rfl rfl (aJ (aC 0) (aJ (aC 1) (aJ (bK (aC 2) (QP.v aG)) aX))) (aV (aV (aV cI))))))))
  (aR (cO (QP.e iI)))
  bX)
 (aM (bN 3 nA.nd rfl (.inl rfl) rfl rfl (QP.e (dI je nv hr rfl rfl (aJ (aC 0) aX) (aV cI))))
 (aM (bN 4 nA.nd rfl (.inl rfl) rfl rfl (QP.e (dI gl kn hr rfl rfl (aJ (aC 3) aX) (aV cI))))
 (aM (bN 5 nA.nd rfl (.inl rfl) rfl rfl (QP.e (dQ (aN (dQ (aN bS (aN (QV.p (aC 3)) bD))) bD))))
 (aM (cG (QT.e (bU (eX (Room.units hr)) (QP.v (bM fA (QP.v (dI bc bg hr rfl rfl (aJ (aC 0) (aJ (QP.v aG) (aJ (QP.v aG) aX))) (aV (aV (aV cI))))) (QP.v aG))) (QP.v aG) (bL _)))
  (aR (bN 5 nA.nd rfl (.inl rfl) rfl rfl (QP.e (dQ (aN (dQ (aN bS (aN (dQ (aN (dQ (aN bS (aN aG (aN (QV.p (aC 3)) bD)))) bD)) bD))) bD)))))
  bX)
 (aM (cG (QT.e (jW (hZ (bU zq5 (aC 4) (QP.v oC) (bL _)) (gH (jX (fF (QP.v (dI cf d8 hr rfl rfl (aJ (aC 5) (aJ (QP.v (dQ (aN aG bD))) aX)) (aV (aV cI))))))))))
  (aR (cO (QP.e iI)))
  bX)
 (aM (cG (QT.e (jW (hZ (bU zh1 (aC 4) (QP.v oC) (bL _)) (gH (bU (ys7 (Room.units hr)) (QP.v (dI bz jj hr rfl rfl (aJ (aC 5) (aJ (QP.v (dQ (aN aG bD))) aX)) (aV (aV cI)))) (aC 4) (bL _))))))
  (aR (cO (QP.e iI)))
  bX)
 (aM (bN 6 nA.nd rfl (.inl rfl) rfl rfl (QP.e (dJ gD rfl af boot_len (aJ (QP.v (xR (sc:=aQ nC) (NX:=["_law_script","_law_row_here","_law_drawn_here","_law_inner","_law_due","_law_whole","_law_lines","_law_broken","_law_found"]) (N:=["_law_piece"]) (pick:=[none]) ⟨rfl,by decide+kernel,by decide+kernel,by decide+kernel,by decide+kernel,by decide,rfl⟩ rfl rfl rfl (zb2 (aC 3)) (fun _ _ _ _=>(kO (i:=0) (show(["_law_piece"]:List Str).Nodup by decide) rfl (.inl rfl))) (fun _ _ _ _=>(zh4 (jW (uF (bU (eX (Room.units hr)) (bK (aC 0) (QP.v aG)) (QP.v bS) (bL _)) (rA (bU (eX (Room.units hr)) (bK (aC 0) (QP.v aG)) (QP.v bS) (bL _))))))) (fun _ _ _ _=>(QV.p (aC 0))))) aX))))
 (aM (bN 7 nA.nd rfl (.inl rfl) rfl rfl (QP.e (dI bz jj hr rfl rfl (aJ (aC 5) (aJ (QP.v (dQ (aN aG bD))) aX)) (aV (aV cI)))))
 (aM (cG (QT.e (jW (uF (jX (fF (QP.v (dJ zo0 rfl cq boot_isinstance (aJ (aC 7) (aJ (QP.v (zn9 rfl qu boot_str)) aX)))))) (rA (bU zq3 (QP.v (dJ gD rfl af boot_len (aJ (QP.v (uI PySem.F.slot_str_split PySem.F.type_str_split zh2 (aC 7) (aJ (QP.v bS) aX))) aX))) (aC 6) (bL _))))))
  (aR (cO (QP.e iI)))
  bX)
 (aM (bN 8 nA.nd rfl (.inl rfl) rfl rfl (QP.e (dI bz jj hr rfl rfl (aJ (aC 1) (aJ (bK (aC 2) (QP.v aG)) aX)) (aV (aV cI)))))
 (aR (cO (QP.e (za8 (dJ zo0 rfl cq boot_isinstance (aJ (aC 8) (aJ (QP.v (zn9 rfl qu boot_str)) aX))) (vZ (qZ (eX (Room.units hr)) (aC 8) (bK (aC 2) (QP.v aG)) (bL _))))))))))))))))))))
def vU:tz1:=
 (aO (dO 0 aW "Place" "broken" (aY (aA 1)))
 (dO 0 aW "Place" "margin" (aY (aA 2))))
abbrev gW:Stmt:=pG (top 7) 0
theorem zn4:FnScope ["self","broken","margin"] ["self","broken","margin"] (aQ gW):=⟨rfl,rfl,rfl,by decide+kernel,rfl,by decide+kernel,by decide+kernel⟩
theorem zn5{n:Nat}{f:Addr}{fd:FuncData}(g5:Kn K mg U "Place" "Place.__init__" gW ["self","broken","margin"] f fd)
  (bx:Cls K (U "Place"))
  (ca:cW K (U "Place") "broken")
  (d7:cW K (U "Place") "margin"):
  FnOk P w K mg base CX0 (n+1) f fd ["self","broken","margin"] (SpE 3 K U (bF [true,false,false]) (gE 3 0 (bF [true,false,false]) (vU))):=
 mJ g5.F zn4 (fun i hi=>jL hi) fun cdv A outer s H E hr=>
 (aM (jE (C:="Place") bx ca rfl (QV.p (aC 1)) (bH 0))
 (aR (jE (C:="Place") bx d7 rfl (QV.p (aC 2)) (bH 0))))
def pK:tz1:=
 (aO (dO 0 aW "Setter" "choices" (aY (aA 1)))
 (aO (dO 0 aW "Setter" "used" (fC (.int 0)))
 (aO (dO 0 aW "Setter" "column" (fC (.int 0)))
 (dO 0 aW "Setter" "parts" (cA aD)))))
abbrev gJ:Stmt:=pG (top 17) 0
theorem zi7:FnScope ["self","choices"] ["self","choices"] (aQ gJ):=⟨rfl,rfl,rfl,by decide+kernel,rfl,by decide+kernel,by decide+kernel⟩
theorem zi8{n:Nat}{f:Addr}{fd:FuncData}(gn:Kn K mg U "Setter" "Setter.__init__" gJ ["self","choices"] f fd)
  (ac:Cls K (U "Setter"))
  (az:cW K (U "Setter") "choices")
  (b5:cW K (U "Setter") "used")
  (di:cW K (U "Setter") "column")
  (da:cW K (U "Setter") "parts"):
  FnOk P w K mg base CX0 (n+1) f fd ["self","choices"] (SpE 2 K U (bF [true,false]) (gE 2 0 (bF [true,false]) (pK))):=
 mJ gn.F zi7 (fun i hi=>jL hi) fun cdv A outer s H E hr=>
 (aM (jE (C:="Setter") ac az rfl (QV.p (aC 1)) (bH 0))
 (aM (jE (C:="Setter") ac b5 rfl aG (bH 0))
 (aM (jE (C:="Setter") ac di rfl aG (bH 0))
 (aR (jE (C:="Setter") ac da rfl (eB bD) (bH 0))))))
def kJ:tz1:=
 (aO (fIf (aL (fB (f2 dGe (cZ "Setter" "used" (aA 0)) (aI bV (aB (cZ "Setter" "choices" (aA 0)) aD)))))
  rR
  aZ)
 (aO (aS 2 (aH (aY (f2 dIx (cZ "Setter" "choices" (aA 0)) (cZ "Setter" "used" (aA 0))))))
 (aO (fIf (aL (eH (fB (f2 dLt (aA 2) (fC (.int 0)))) (fB (f2 dGe (aA 2) (aA 1)))))
  rR
  aZ)
 (aO (dO 0 aW "Setter" "used" (f2 bE (cZ "Setter" "used" (aA 0)) (fC (.int 1))))
 (fJ 2)))))
abbrev dN:Stmt:=pG (top 17) 1
theorem iK:FnScope ["self","count","number"] ["self","count"] (aQ dN):=⟨rfl,rfl,rfl,by decide+kernel,rfl,by decide+kernel,by decide+kernel⟩
theorem sT{n:Nat}{f:Addr}{fd:FuncData}(ae:Mn K U "Setter" "choice_below" "Setter.choice_below" dN ["self","count"] f fd)
  (ac:Cls K (U "Setter"))
  (b5:cW K (U "Setter") "used")
  (az:cW K (U "Setter") "choices")
  (af:mg "len"=none):
  FnOk P w K mg base CX0 (n+1) f fd ["self","count"] (SpE 2 K U (bF [true,false]) (gE 2 1 (bF [true,false]) (kJ))):=
 mJ ae.F iK (fun i hi=>jL hi) fun cdv A outer s H E hr=>
 (aM (cG (QT.e (bU zA (eJ (C:="Setter") ac b5 (aC 0)) (QP.v (dJ gD rfl af boot_len (aJ (eJ (C:="Setter") ac az (aC 0)) aX))) (bL _)))
  (aR nK)
  bX)
 (aM (bN 2 iK.nd rfl (.inl rfl) rfl rfl (QP.e (QV.p (bK (eJ (C:="Setter") ac az (aC 0)) (eJ (C:="Setter") ac b5 (aC 0))))))
 (aM (cG (QT.e (jW (uF (bU (oF (Room.units0 hr)) (aC 2) (QP.v aG) (bL _)) (rA (bU zA (aC 2) (aC 1) (bL _))))))
  (aR nK)
  bX)
 (aM (jE (C:="Setter") ac b5 rfl (bM eP (eJ (C:="Setter") ac b5 (aC 0)) (QP.v aG)) (bH 0))
 (aR (qR 2 rfl))))))
def mW:tz5:=
 (sY (sX (fB (f2 dGe (cZ "Setter" "used" (aA 0)) (aI bV (aB (cZ "Setter" "choices" (aA 0)) aD)))) zf2) (jU (fIf (aL (fB (f2 dGe (cZ "Setter" "used" (aA 0)) (aI bV (aB (cZ "Setter" "choices" (aA 0)) aD)))))
  rR
  aZ)
 (jU (aS 2 (aH (aY (f2 dIx (cZ "Setter" "choices" (aA 0)) (cZ "Setter" "used" (aA 0))))))
 (sX (eH (fB (f2 dLt (aA 2) (fC (.int 0)))) (fB (f2 dGe (aA 2) (aA 1)))) (zf3 [(aA 2),(aA 1)])))))
theorem rY{n:Nat}{f:Addr}{fd:FuncData}{aa:Addr}(ae:Mn K U "Setter" "choice_below" "Setter.choice_below" dN ["self","count"] f fd)
  (aw:OwnCls "NoChoice" aa bmV "ValueError.__new__" mg base)
  (ac:Cls K (U "Setter"))
  (b5:cW K (U "Setter") "used")
  (az:cW K (U "Setter") "choices")
  (af:mg "len"=none):
  FnOk P w K mg base (CXn P w base aa) (n+1) f fd ["self","count"] (mX 2 K U (bF [true,false]) aa (gX 2 1 (mW))):=
 nS ae.F iK fun cdv A outer s H E hr=>
 (rG (uO (bU zA (eJ (C:="Setter") ac b5 (aC 0)) (QP.v (dJ gD rfl af boot_len (aJ (eJ (C:="Setter") ac az (aC 0)) aX))) (bL _)) (gI (rF aw PySem.F.excBase_ValueError rfl))) (cG (QT.e (bU zA (eJ (C:="Setter") ac b5 (aC 0)) (QP.v (dJ gD rfl af boot_len (aJ (eJ (C:="Setter") ac az (aC 0)) aX))) (bL _)))
  (aR nK)
  bX)
 (mM (bN 2 iK.nd rfl (.inl rfl) rfl rfl (QP.e (QV.p (bK (eJ (C:="Setter") ac az (aC 0)) (eJ (C:="Setter") ac b5 (aC 0))))))
 (gI (uO (jW (uF (bU (oF (Room.units0 hr)) (aC 2) (QP.v aG) (bL _)) (rA (bU zA (aC 2) (aC 1) (bL _))))) (gI (wL aw PySem.F.excBase_ValueError rfl (zs0 (zc0 (aC 2) (zs0 (zc0 (aC 1) xi4))))))))))
def jV(dg:(tz6))(gi:(tz6)):tz1:=
 (aO (aS 3 (aH (aI dg (aB (aA 1) (aB (aA 2) (aB (cZ "Setter" "column" (aA 0)) aD))))))
 (aO (fIf (aL (fB (f2 dIs (aA 3) (fC .non))))
  rR
  aZ)
 (aO (bA (bG 0 (hJ 0 aW "Setter" "parts") (aB (aY (aA 3)) aD) bC))
 (dO 0 aW "Setter" "column" (aI gi (aB (cZ "Setter" "column" (aA 0)) (aB (aA 3) aD)))))))
abbrev eE:Stmt:=pG (top 17) 2
theorem jR:FnScope ["self","piece","place","wrote"] ["self","piece","place"] (aQ eE):=⟨rfl,rfl,rfl,by decide+kernel,rfl,by decide+kernel,by decide+kernel⟩
theorem vV{n:Nat}{f:Addr}{fd:FuncData}{dg:(tz6)}{i4:Addr}{ij:FuncData}{gi:(tz6)}{j4:Addr}{jx:FuncData}(ak:Mn K U "Setter" "set_plain" "Setter.set_plain" eE ["self","piece","place"] f fd)
  (de:Dn K mg "writing" iR ["piece","place","column"] i4 ij) (g7:FnOk P w K mg base CX0 n i4 ij ["piece","place","column"] (SpP 3 K U dg))
  (cu:Dn K mg "column_behind" fS ["column","wrote"] j4 jx) (ir:FnOk P w K mg base CX0 n j4 jx ["column","wrote"] (SpP 2 K U gi))
  (ac:Cls K (U "Setter"))
  (di:cW K (U "Setter") "column")
  (da:cW K (U "Setter") "parts"):
  FnOk P w K mg base CX0 (n+1) f fd ["self","piece","place"] (SpE 3 K U (bF [true,false,false]) (gE 3 1 (bF [true,false,false]) (jV dg gi))):=
 mJ ak.F jR (fun i hi=>jL hi) fun cdv A outer s H E hr=>
 (aM (bN 3 jR.nd rfl (.inl rfl) rfl rfl (QP.e (dI de g7 hr rfl rfl (aJ (aC 1) (aJ (aC 2) (aJ (eJ (C:="Setter") ac di (aC 0)) aX))) (aV (aV (aV cI))))))
 (aM (cG (QT.e (bU zq5 (aC 3) (QP.v oC) (bL _)))
  (aR nK)
  bX)
 (aM (dW (fO (j:=0) rfl (wC (C:="Setter") ac da (bH 0)) (aN (QV.p (aC 3)) bD)))
 (aR (jE (C:="Setter") ac di rfl (dI cu ir hr rfl rfl (aJ (eJ (C:="Setter") ac di (aC 0)) (aJ (aC 3) aX)) (aV (aV cI))) (bH 0))))))
def oS(dg:(tz6)):tz5:=
 (jU (aS 3 (aH (aI dg (aB (aA 1) (aB (aA 2) (aB (cZ "Setter" "column" (aA 0)) aD))))))
 (sX (fB (f2 dIs (aA 3) (fC .non))) zf2))
theorem uS{n:Nat}{f:Addr}{fd:FuncData}{dg:(tz6)}{i4:Addr}{ij:FuncData}{aa:Addr}(ak:Mn K U "Setter" "set_plain" "Setter.set_plain" eE ["self","piece","place"] f fd)
  (de:Dn K mg "writing" iR ["piece","place","column"] i4 ij) (g7:FnOk P w K mg base CX0 n i4 ij ["piece","place","column"] (SpP 3 K U dg))
  (aw:OwnCls "NoChoice" aa bmV "ValueError.__new__" mg base)
  (ac:Cls K (U "Setter"))
  (di:cW K (U "Setter") "column")
  (da:cW K (U "Setter") "parts"):
  FnOk P w K mg base (CXn P w base aa) (n+1) f fd ["self","piece","place"] (mX 3 K U (bF [true,false,false]) aa (gX 3 1 (oS dg))):=
 nS ak.F jR fun cdv A outer s H E hr=>
 (mM (bN 3 jR.nd rfl (.inl rfl) rfl rfl (QP.e (dI de g7 hr rfl rfl (aJ (aC 1) (aJ (aC 2) (aJ (eJ (C:="Setter") ac di (aC 0)) aX))) (aV (aV (aV cI))))))
 (gI (uO (bU zq5 (aC 3) (QP.v oC) (bL _)) (gI (rF aw PySem.F.excBase_ValueError rfl)))))
def jB(gx:(tz6))(bf:(tz6))(ax:(tz7))(ao:(tz7)):tz1:=
 (aO (aS 3 (aH (aI gx (aB (aA 1) (aB (aA 2) aD)))))
 (aO (aS 4 (aH (fC (.int 0))))
 (aO (fIf (aL (fT (aI bf (aB (aA 1) (aB (aA 2) aD)))))
  (aS 4 (bG 0 aW (bB [.im (aI bV (aB (aA 3) aD))]) (fE "Setter" "choice_below" ax)))
  aZ)
 (aO (aS 5 (aH (aY (f2 dIx (aA 3) (aA 4)))))
 (bA (bG 0 aW (bB [.im (f2 dIx (aA 5) (fC (.int 0))),.im (f2 dIx (aA 5) (fC (.int 1)))]) (fE "Setter" "set_row" ao)))))))
abbrev dY:Stmt:=pG (top 17) 3
theorem dF:FnScope ["self","piece","place","found","number","way"] ["self","piece","place"] (aQ dY):=⟨rfl,rfl,rfl,by decide+kernel,rfl,by decide+kernel,by decide+kernel⟩
theorem oI{n:Nat}{f:Addr}{fd:FuncData}{gx:(tz6)}{ko:Addr}{jy:FuncData}{bf:(tz6)}{et:Addr}{dm:FuncData}{ax:(tz7)}{ai:Addr}{bv:FuncData}{ao:(tz7)}{ag:Addr}{av:FuncData}(ah:Mn K U "Setter" "set_holder" "Setter.set_holder" dY ["self","piece","place"] f fd)
  (gd:Dn K mg "ways" kD ["piece","place"] ko jy) (ja:FnOk P w K mg base CX0 n ko jy ["piece","place"] (SpP 2 K U gx))
  (ay:Dn K mg "takes_choice" fH ["piece","place"] et dm) (b8:FnOk P w K mg base CX0 n et dm ["piece","place"] (SpP 2 K U bf))
  (ae:Mn K U "Setter" "choice_below" "Setter.choice_below" dN ["self","count"] ai bv) (bi:FnOk P w K mg base CX0 n ai bv ["self","count"] (SpE 2 K U (bF [true,false]) ax))
  (ad:Mn K U "Setter" "set_row" "Setter.set_row" dU ["self","row","place"] ag av) (b7:FnOk P w K mg base CX0 n ag av ["self","row","place"] (SpE 3 K U (bF [true,false,false]) ao))
  (af:mg "len"=none):
  FnOk P w K mg base CX0 (n+1) f fd ["self","piece","place"] (SpE 3 K U (bF [true,false,false]) (gE 3 3 (bF [true,false,false]) (jB gx bf ax ao))):=
 mJ ah.F dF (fun i hi=>jL hi) fun cdv A outer s H E hr=>
 (aM (bN 3 dF.nd rfl (.inl rfl) rfl rfl (QP.e (dI gd ja hr rfl rfl (aJ (aC 1) (aJ (aC 2) aX)) (aV (aV cI)))))
 (aM (bN 4 dF.nd rfl (.inl rfl) rfl rfl (QP.e aG))
 (aM (cG (QT.e (fF (QP.v (dI ay b8 hr rfl rfl (aJ (aC 1) (aJ (aC 2) aX)) (aV (aV cI))))))
  (aR (bN 4 dF.nd rfl (.inl rfl) rfl rfl (kQ ae bi hr rfl (bH 0) (bI (QP.v (dJ gD rfl af boot_len (aJ (aC 3) aX))) dA) rfl rfl (dX 1))))
  bX)
 (aM (bN 5 dF.nd rfl (.inl rfl) rfl rfl (QP.e (QV.p (bK (aC 3) (aC 4)))))
 (aR (dW (kQ ad b7 hr rfl (bH 0) (bI (bK (aC 5) (QP.v aG)) (bI (bK (aC 5) (QP.v aG)) dA)) rfl rfl (dX 2))))))))
def nY(gx:(tz6))(bf:(tz6))(ax:(tz7))(dh:(List D->Bool))(bh:(List D->Bool)):tz5:=
 (jU (aS 3 (aH (aI gx (aB (aA 1) (aB (aA 2) aD)))))
 (jU (aS 4 (aH (fC (.int 0))))
 (sY (sX (fT (aI bf (aB (aA 1) (aB (aA 2) aD)))) (mU 0 aW (bB [.im (aI bV (aB (aA 3) aD))]) (lH "Setter" "choice_below" dh))) (jU (fIf (aL (fT (aI bf (aB (aA 1) (aB (aA 2) aD)))))
  (aS 4 (bG 0 aW (bB [.im (aI bV (aB (aA 3) aD))]) (fE "Setter" "choice_below" ax)))
  aZ)
 (jU (aS 5 (aH (aY (f2 dIx (aA 3) (aA 4)))))
 (mU 0 aW (bB [.im (f2 dIx (aA 5) (fC (.int 0))),.im (f2 dIx (aA 5) (fC (.int 1)))]) (lH "Setter" "set_row" bh)))))))
theorem tR{n:Nat}{f:Addr}{fd:FuncData}{gx:(tz6)}{ko:Addr}{jy:FuncData}{bf:(tz6)}{et:Addr}{dm:FuncData}{ax:(tz7)}{ai:Addr}{bv:FuncData}{dh:(List D->Bool)}{bh:(List D->Bool)}{ag:Addr}{av:FuncData}{aa:Addr}(ah:Mn K U "Setter" "set_holder" "Setter.set_holder" dY ["self","piece","place"] f fd)
  (gd:Dn K mg "ways" kD ["piece","place"] ko jy) (ja:FnOk P w K mg base CX0 n ko jy ["piece","place"] (SpP 2 K U gx))
  (ay:Dn K mg "takes_choice" fH ["piece","place"] et dm) (b8:FnOk P w K mg base CX0 n et dm ["piece","place"] (SpP 2 K U bf))
  (ae:Mn K U "Setter" "choice_below" "Setter.choice_below" dN ["self","count"] ai bv) (bi:FnOk P w K mg base CX0 n ai bv ["self","count"] (SpE 2 K U (bF [true,false]) ax))
   (gg:FnOk P w K mg base (CXn P w base aa) n ai bv ["self","count"] (mX 2 K U (bF [true,false]) aa dh))
  (ad:Mn K U "Setter" "set_row" "Setter.set_row" dU ["self","row","place"] ag av) (dk:FnOk P w K mg base (CXn P w base aa) n ag av ["self","row","place"] (mX 3 K U (bF [true,false,false]) aa bh))
  (aw:OwnCls "NoChoice" aa bmV "ValueError.__new__" mg base)
  (af:mg "len"=none):
  FnOk P w K mg base (CXn P w base aa) (n+1) f fd ["self","piece","place"] (mX 3 K U (bF [true,false,false]) aa (gX 3 3 (nY gx bf ax dh bh))):=
 nS ah.F dF fun cdv A outer s H E hr=>
 (mM (bN 3 dF.nd rfl (.inl rfl) rfl rfl (QP.e (dI gd ja hr rfl rfl (aJ (aC 1) (aJ (aC 2) aX)) (aV (aV cI)))))
 (mM (bN 4 dF.nd rfl (.inl rfl) rfl rfl (QP.e aG))
 (rG (uO (fF (QP.v (dI ay b8 hr rfl rfl (aJ (aC 1) (aJ (aC 2) aX)) (aV (aV cI))))) (gI (zr9 4 dF.nd rfl (.inl rfl) (pA ae gg hr rfl (bH 0) (bI (QP.v (dJ gD rfl af boot_len (aJ (aC 3) aX))) dA) rfl rfl (dX 1))))) (cG (QT.e (fF (QP.v (dI ay b8 hr rfl rfl (aJ (aC 1) (aJ (aC 2) aX)) (aV (aV cI))))))
  (aR (bN 4 dF.nd rfl (.inl rfl) rfl rfl (kQ ae bi hr rfl (bH 0) (bI (QP.v (dJ gD rfl af boot_len (aJ (aC 3) aX))) dA) rfl rfl (dX 1))))
  bX)
 (mM (bN 5 dF.nd rfl (.inl rfl) rfl rfl (QP.e (QV.p (bK (aC 3) (aC 4)))))
 (gI (qU (pA ad dk hr rfl (bH 0) (bI (bK (aC 5) (QP.v aG)) (bI (bK (aC 5) (QP.v aG)) dA)) rfl rfl (dX 2))))))))
def kN(bw:(tz6))(ba:(tz7))(bd:(tz7)):tz1:=
 (fI 3 (dR (aA 1))
  (fIf (aL (fT (aI bw (aB (aA 3) aD))))
  (bA (bG 0 aW (bB [.im (aA 3),.im (aA 2)]) (fE "Setter" "set_holder" ba)))
  (bA (bG 0 aW (bB [.im (aA 3),.im (aA 2)]) (fE "Setter" "set_plain" bd)))))
abbrev dU:Stmt:=pG (top 17) 4
theorem kL:FnScope ["self","row","place","piece"] ["self","row","place"] (aQ dU):=⟨rfl,rfl,rfl,by decide+kernel,rfl,by decide+kernel,by decide+kernel⟩
theorem yS{n:Nat}{f:Addr}{fd:FuncData}{bw:(tz6)}{gm:Addr}{gc:FuncData}{ba:(tz7)}{am:Addr}{b9:FuncData}{bd:(tz7)}{aq:Addr}{cc:FuncData}(ad:Mn K U "Setter" "set_row" "Setter.set_row" dU ["self","row","place"] f fd)
  (bu:Dn K mg "holds_rows" gA ["piece"] gm gc) (db:FnOk P w K mg base CX0 n gm gc ["piece"] (SpP 1 K U bw))
  (ah:Mn K U "Setter" "set_holder" "Setter.set_holder" dY ["self","piece","place"] am b9) (g9:FnOk P w K mg base CX0 n am b9 ["self","piece","place"] (SpE 3 K U (bF [true,false,false]) ba))
  (ak:Mn K U "Setter" "set_plain" "Setter.set_plain" eE ["self","piece","place"] aq cc) (cj:FnOk P w K mg base CX0 n aq cc ["self","piece","place"] (SpE 3 K U (bF [true,false,false]) bd)):
  FnOk P w K mg base CX0 (n+1) f fd ["self","row","place"] (SpE 3 K U (bF [true,false,false]) (gE 3 1 (bF [true,false,false]) (kN bw ba bd))):=
 mJ ad.F kL (fun i hi=>jL hi) fun cdv A outer s H E hr=>
 (aR (qS 3 1 PassesOwn.never rfl kL.nd rfl (.inl rfl) rfl rfl rfl
  (aR (cG (QT.e (fF (QP.v (dI bu db hr rfl rfl (aJ (aC 3) aX) (aV cI)))))
  (aR (dW (kQ ah g9 hr rfl (bH 0) (bI (aC 3) (bI (aC 2) dA)) rfl rfl (dX 2))))
  (aR (dW (kQ ak cj hr rfl (bH 0) (bI (aC 3) (bI (aC 2) dA)) rfl rfl (dX 2))))))))
def qA(bw:(tz6))(ba:(tz7))(du:(List D->Bool))(bd:(tz7))(fc:(List D->Bool)):tz5:=
 (zo7 3 (dR (aA 1))
  (fIf (aL (fT (aI bw (aB (aA 3) aD))))
  (bA (bG 0 aW (bB [.im (aA 3),.im (aA 2)]) (fE "Setter" "set_holder" ba)))
  (bA (bG 0 aW (bB [.im (aA 3),.im (aA 2)]) (fE "Setter" "set_plain" bd))))
  (qP (fT (aI bw (aB (aA 3) aD)))
  (mU 0 aW (bB [.im (aA 3),.im (aA 2)]) (lH "Setter" "set_holder" du))
  (mU 0 aW (bB [.im (aA 3),.im (aA 2)]) (lH "Setter" "set_plain" fc))))
theorem wR{n:Nat}{f:Addr}{fd:FuncData}{bw:(tz6)}{gm:Addr}{gc:FuncData}{ba:(tz7)}{am:Addr}{b9:FuncData}{du:(List D->Bool)}{bd:(tz7)}{aq:Addr}{cc:FuncData}{fc:(List D->Bool)}{aa:Addr}(ad:Mn K U "Setter" "set_row" "Setter.set_row" dU ["self","row","place"] f fd)
  (bu:Dn K mg "holds_rows" gA ["piece"] gm gc) (db:FnOk P w K mg base CX0 n gm gc ["piece"] (SpP 1 K U bw))
  (ah:Mn K U "Setter" "set_holder" "Setter.set_holder" dY ["self","piece","place"] am b9) (g9:FnOk P w K mg base CX0 n am b9 ["self","piece","place"] (SpE 3 K U (bF [true,false,false]) ba))
   (mo:FnOk P w K mg base (CXn P w base aa) n am b9 ["self","piece","place"] (mX 3 K U (bF [true,false,false]) aa du))
  (ak:Mn K U "Setter" "set_plain" "Setter.set_plain" eE ["self","piece","place"] aq cc) (cj:FnOk P w K mg base CX0 n aq cc ["self","piece","place"] (SpE 3 K U (bF [true,false,false]) bd))
   (ia:FnOk P w K mg base (CXn P w base aa) n aq cc ["self","piece","place"] (mX 3 K U (bF [true,false,false]) aa fc))
  (aw:OwnCls "NoChoice" aa bmV "ValueError.__new__" mg base):
  FnOk P w K mg base (CXn P w base aa) (n+1) f fd ["self","row","place"] (mX 3 K U (bF [true,false,false]) aa (gX 3 1 (qA bw ba du bd fc))):=
 nS ad.F kL fun cdv A outer s H E hr=>
 (gI (zi3 3 1 PassesOwn.leaving rfl kL.nd rfl (.inl rfl) rfl rfl rfl
  (aR (cG (QT.e (fF (QP.v (dI bu db hr rfl rfl (aJ (aC 3) aX) (aV cI)))))
  (aR (dW (kQ ah g9 hr rfl (bH 0) (bI (aC 3) (bI (aC 2) dA)) rfl rfl (dX 2))))
  (aR (dW (kQ ak cj hr rfl (bH 0) (bI (aC 3) (bI (aC 2) dA)) rfl rfl (dX 2))))))
  (gI (zr8 (fF (QP.v (dI bu db hr rfl rfl (aJ (aC 3) aX) (aV cI))))
  (gI (qU (pA ah mo hr rfl (bH 0) (bI (aC 3) (bI (aC 2) dA)) rfl rfl (dX 2))))
  (gI (qU (pA ak ia hr rfl (bH 0) (bI (aC 3) (bI (aC 2) dA)) rfl rfl (dX 2))))))))
def lD:tz1:=
 (aO (fIf (aL (fB (f2 dLt (cZ "Setter" "used" (aA 0)) (aI bV (aB (cZ "Setter" "choices" (aA 0)) aD)))))
  rR
  aZ)
 (bQ (aH (fMt yD (fC (.str "")) (aB (cZ "Setter" "parts" (aA 0)) aD)))))
abbrev dZ:Stmt:=pG (top 17) 5
theorem oJ:FnScope ["self"] ["self"] (aQ dZ):=⟨rfl,rfl,rfl,by decide+kernel,rfl,by decide+kernel,by decide+kernel⟩
theorem uT{n:Nat}{f:Addr}{fd:FuncData}(al:Mn K U "Setter" "whole_text" "Setter.whole_text" dZ ["self"] f fd)
  (ac:Cls K (U "Setter"))
  (b5:cW K (U "Setter") "used")
  (da:cW K (U "Setter") "parts")
  (az:cW K (U "Setter") "choices")
  (af:mg "len"=none):
  FnOk P w K mg base CX0 (n+1) f fd ["self"] (SpP 1 K U (gP 1 0 (lD))):=
 eY al.F oJ fun cdv A outer s H E B hr=>
 (aM (cG (QT.e (bU (oF (Room.units0 hr)) (eJ (C:="Setter") ac b5 (aC 0)) (QP.v (dJ gD rfl af boot_len (aJ (eJ (C:="Setter") ac az (aC 0)) aX))) (bL _)))
  (aR nK)
  bX)
 (aR (cO (QP.e (uI PySem.F.slot_str_join PySem.F.type_str_join zq8 (QP.v bS) (aJ (eJ (C:="Setter") ac da (aC 0)) aX))))))
def nZ:tz5:=
 (sX (fB (f2 dLt (cZ "Setter" "used" (aA 0)) (aI bV (aB (cZ "Setter" "choices" (aA 0)) aD)))) zf2)
theorem tT{n:Nat}{f:Addr}{fd:FuncData}{aa:Addr}(al:Mn K U "Setter" "whole_text" "Setter.whole_text" dZ ["self"] f fd)
  (aw:OwnCls "NoChoice" aa bmV "ValueError.__new__" mg base)
  (ac:Cls K (U "Setter"))
  (b5:cW K (U "Setter") "used")
  (da:cW K (U "Setter") "parts")
  (az:cW K (U "Setter") "choices")
  (af:mg "len"=none):
  FnOk P w K mg base (CXn P w base aa) (n+1) f fd ["self"] (sW 1 K U aa (gX 1 0 (nZ))):=
 sE al.F oJ fun cdv A outer s H E B hr=>
 (gI (uO (bU (oF (Room.units0 hr)) (eJ (C:="Setter") ac b5 (aC 0)) (QP.v (dJ gD rfl af boot_len (aJ (eJ (C:="Setter") ac az (aC 0)) aX))) (bL _)) (gI (rF aw PySem.F.excBase_ValueError rfl))))
end L3
namespace My
open PySem PySem.Spec PyProof.Rows L2 L3
def cJ:Leaf->D
 | .word x=> .tup [.str "word",.str x]
 | .gap x=> .tup [.str "gap",.str x]
 | .stop c=> .tup [.str "stop",.int c]
 | .fin=> .tup [.str "end"]
mutual
def pcD:Pc->D
 | .leaf l=>cJ l
 | .group r=> .tup [.str "group",.tup (aK r)]
 | .hang n r=> .tup [.str "hang",.int n,.tup (aK r)]
 | .either rs=> .tup [.str "either",.tup (cK rs)]
def aK:List Pc->List D
 |[]=>[]
 |p::r=>pcD p::aK r
def cK:List (List Pc)->List D
 |[]=>[]
 |r::rs=> .tup (aK r)::cK rs
end
theorem zM(l:Leaf):(cJ l).imm=true:=by cases l<;>rfl
mutual
theorem pW:∀p:Pc,(pcD p).imm=true
 | .leaf l=>zM l
 | .group r=>by show(D.imm (.str "group")&&(D.imm (.tup (aK r))&&D.imms []))=true;rw [show D.imm (.tup (aK r))=D.imms (aK r) from rfl,dL r];rfl
 | .hang n r=>by show(D.imm (.str "hang")&&(D.imm (.int n)&&(D.imm (.tup (aK r))&&D.imms [])))=true;rw [show D.imm (.tup (aK r))=D.imms (aK r) from rfl,dL r];rfl
 | .either rs=>by show(D.imm (.str "either")&&(D.imm (.tup (cK rs))&&D.imms []))=true;rw [show D.imm (.tup (cK rs))=D.imms (cK rs) from rfl,nM rs];rfl
theorem dL:∀r:List Pc,D.imms (aK r)=true
 |[]=>rfl
 |p::r=>by show(D.imm (pcD p)&&D.imms (aK r))=true;rw [pW p,dL r];rfl
theorem nM:∀rs:List (List Pc),D.imms (cK rs)=true
 |[]=>rfl
 |r::rs=>by show(D.imm (.tup (aK r))&&D.imms (cK rs))=true;rw [show D.imm (.tup (aK r))=D.imms (aK r) from rfl,dL r,nM rs];rfl
end
theorem uU:∀a b:List Pc,aK (a++b)=aK a++aK b
 |[],b=>rfl
 |p::a,b=>by show pcD p::aK (a++b)=pcD p::(aK a++aK b);rw [uU a b]
theorem wT:∀a b:List (List Pc),cK (a++b)=cK a++cK b
 |[],b=>rfl
 |p::a,b=>by show D.tup (aK p)::cK (a++b)=D.tup (aK p)::(cK a++cK b);rw [wT a b]
theorem zN:∀a:List Pc,(aK a).length=a.length
 |[]=>rfl
 |p::a=>by show(aK a).length+1=a.length+1;rw [zN a]
theorem kA:∀a:List (List Pc),(cK a).length=a.length
 |[]=>rfl
 |p::a=>by show(cK a).length+1=a.length+1;rw [kA a]
theorem zz9{α β:Type}(f:α->β)(hf:∀a b,f a=f b->a=b):∀{l m:List α},l.map f=m.map f->l=m
 |[],[],_=>rfl
 |[],_::_,h=>by simp at h
 |_::_,[],h=>by simp at h
 |a::l,b::m,h=>by
  simp only [List.map_cons,List.cons.injEq] at h
  rw [hf a b h.1,zz9 f hf h.2]
theorem bP(a b:String):(Str.ofString a=Str.ofString b)=(a=b):=by
 refine propext ⟨fun h=> ?_,fun h=>by rw [h]⟩
 rw [Str.ofString_eq_toList,Str.ofString_eq_toList] at h
 have h1:(a.toList.map Char.toNat).toArray=(b.toList.map Char.toNat).toArray:=(Str.mk.inj h)
 have h2:a.toList.map Char.toNat=b.toList.map Char.toNat:=by simpa using congrArg Array.toList h1
 have h3:a.toList=b.toList:=zz9 _ (fun x y e=>by
  have:Char.ofNat x.toNat=Char.ofNat y.toNat:=by rw [e]
  simpa using this) h2
 exact String.toList_inj.mp h3
theorem dM{α:Type}(a:α)(l:List α):atI (a::l) 0=some a:=by simp [atI,ixN]
theorem cR{α:Type}(a b:α)(l:List α):atI (a::b::l) 1=some b:=by
 have h:ixN (a::b::l).length 1=some 1:=by unfold ixN;rw [if_pos (by decide),if_pos (by simp only [List.length_cons];omega)];rfl
 simp only [atI,h];rfl
theorem fW{α:Type}(a b c:α)(l:List α):atI (a::b::c::l) 2=some c:=by
 have h:ixN (a::b::c::l).length 2=some 2:=by unfold ixN;rw [if_pos (by decide),if_pos (by simp only [List.length_cons];omega)];rfl
 simp only [atI,h];rfl
theorem sz{n:Nat}(h:n<=1000):n<=sizeLine:=zn8 h
theorem sz1{n:Nat}(h:n<=1000):n<sizeLine:=pV h
theorem zx8{rs:List (List Pc)}{r:List Pc}(h:r∈rs):(bR r).length<=(eV rs).length:=by
 induction rs with
 |nil=>simp at h
 |cons q rs ih=>
  show _<=(Tk.orr::(bR q++eV rs)).length
  rw [List.length_cons,List.length_append]
  rcases List.mem_cons.mp h with e|e
  ·subst e;omega
  ·have:=ih e;omega
theorem pP{rs:List (List Pc)}{r:List Pc}(h:r∈rs):(bR r).length<=(nO rs).length:=by
 cases rs with
 |nil=>simp at h
 |cons q rs=>
  show _<=(bR q++eV rs).length
  rw [List.length_append]
  rcases List.mem_cons.mp h with e|e
  ·subst e;omega
  ·have:=zx8 e;omega
theorem iD(n:Nat):ixN (n+1) (-1)=some n:=by
 unfold ixN
 rw [if_neg (by decide),if_pos (by omega)]
 congr 1
 omega
theorem iE{α:Type}(l:List α)(a b:α):(l++[a]).set l.length b=l++[b]:=by
 induction l with
 |nil=>rfl
 |cons x l ih=>show x::(l++[a]).set l.length b=_;rw [ih];rfl
theorem qD(n:Nat):ixN (n+1) 0=some 0:=by unfold ixN;rw [if_pos (by decide),if_pos (by omega)];rfl
theorem zc3:ixN 3 1=some 1:=by decide
theorem zo1:ixN 3 2=some 2:=by decide
theorem cS(i j:Int):cU (.int i) (.int j)=if 0<j then some (.int (i % j)) else none:=by simp [cU,dII]
theorem eG(i j:Int):gM (.int i) (.int j)=if 0<j/\j<1073741824 then some (.int (i/j)) else none:=by simp [gM,dII]
theorem cY(x y:Str):(x++y).cps.toList=x.cps.toList++y.cps.toList:=by
 show(x.cps++y.cps).toList=_
 simp
theorem eD(x y:Str):(x++y).length=x.length+y.length:=by
 show(x.cps++y.cps).size=x.cps.size+y.cps.size
 simp
def sg:Str:=("abcdefghijklmnopqrstuvwxyzABCDEFGHIJKLMNOPQRSTUVWXYZ0123456789":Str)++("!\"#$&'()*+,-./:;<=>?\x40[\\]^_`{|}~":Str)
theorem yn3:sg.cps.toList.length=93:=by decide+kernel
theorem xb8:sg.cps.toList.all yI=true:=by decide+kernel
theorem xb9:sg.length<=sizeLine:=by
 have e:sg.length=sg.cps.toList.length:=by simp [Str.length]
 rw [e,yn3];exact sz (by decide)
theorem nU{α:Type}(xs:List α)(i:Int)(h0:0<=i)(h1:i<xs.length):∃v∈xs,atI xs i=some v:=by
 have hn:i.toNat<xs.length:=by omega
 obtain⟨v,hv⟩:∃v,xs[i.toNat]? =some v:=⟨_,List.getElem?_eq_getElem hn⟩
 refine⟨v,List.mem_of_getElem? hv,?_⟩
 have e:i=((i.toNat:Nat):Int):=by omega
 rw [e]
 exact xN hv
theorem xm7(i:Int)(h0:0<=i)(h1:i<93):∃c,atI sg.cps.toList i=some c/\yI c=true:=by
 obtain⟨c,hc,e⟩:=nU sg.cps.toList i h0 (by rw [yn3];omega)
 exact⟨c,e,List.all_eq_true.mp xb8 c hc⟩
theorem xi6(n:Nat):gZ 0 n=((List.range n).map fun(k:Nat)=>(k:Int)).map .int:=by
 unfold gZ
 rw [List.map_map]
 refine List.map_congr_left fun k _=> ?_
 show D.int (0+(k:Int))=D.int (k:Int)
 rw [Int.zero_add]
theorem xc0(m:Int):∃s:Int,atI [D.int 1,.int 2,.int 3,.int 4,.int 5,.int 6,.int 7,.int 8,.int 10,.int 11,.int 9,.int 12] (m % 12)=some (.int s)/\1<=s/\s<=12:=by
 have h0:=Int.emod_nonneg m (show(12:Int)≠0 by decide)
 have h1:=Int.emod_lt_of_pos m (show(0:Int)<12 by decide)
 obtain⟨d,hd,e⟩:=nU [D.int 1,.int 2,.int 3,.int 4,.int 5,.int 6,.int 7,.int 8,.int 10,.int 11,.int 9,.int 12] (m % 12) h0 (by simpa using h1)
 simp only [List.mem_cons,List.not_mem_nil,or_false] at hd
 rcases hd with rfl|rfl|rfl|rfl|rfl|rfl|rfl|rfl|rfl|rfl|rfl|rfl<;>exact⟨_,e,by decide,by decide⟩
theorem xi7(k:Int):∃x:Str,atI [D.str (Str.ofString " "),.str (Str.ofString " "),.str (Str.ofString " "),.str (Str.ofString "")] (k % 4)=some (.str x)/\(x=""\/x=" "):=by
 have h0:=Int.emod_nonneg k (show(4:Int)≠0 by decide)
 have h1:=Int.emod_lt_of_pos k (show(0:Int)<4 by decide)
 obtain⟨d,hd,e⟩:=nU [D.str (Str.ofString " "),.str (Str.ofString " "),.str (Str.ofString " "),.str (Str.ofString "")] (k % 4) h0 (by simpa using h1)
 simp only [List.mem_cons,List.not_mem_nil,or_false] at hd
 rcases hd with rfl|rfl|rfl|rfl
 ·exact⟨_,e,.inr rfl⟩
 ·exact⟨_,e,.inr rfl⟩
 ·exact⟨_,e,.inr rfl⟩
 ·exact⟨_,e,.inl rfl⟩
theorem xc1(a b k:Int)(ha:0<=a/\a<=40)(hb:0<=b/\b<=40):∃c:Int,atI [D.int a,.int b] (k % 2)=some (.int c)/\0<=c/\c<=40:=by
 have h0:=Int.emod_nonneg k (show(2:Int)≠0 by decide)
 have h1:=Int.emod_lt_of_pos k (show(0:Int)<2 by decide)
 obtain⟨d,hd,e⟩:=nU [D.int a,.int b] (k % 2) h0 (by simpa using h1)
 simp only [List.mem_cons,List.not_mem_nil,or_false] at hd
 rcases hd with rfl|rfl
 ·exact⟨_,e,ha⟩
 ·exact⟨_,e,hb⟩
theorem xo9{α:Type}(a b c d:α):atI [a,b,c,d] 3=some d:=rfl
theorem xc2{i j:Int}(h1: -1000000<=i)(h2:i<=1000000)(h3: -1000000<=j)(h4:j<=1000000):zo6 [.int i,.int j]=some (gZ i (j-i).toNat):=by
 rw [zo6]
 exact if_pos ⟨by omega,by omega,by omega,by omega⟩
theorem ya0{j:Int}(h3: -1000000<=j)(h4:j<=1000000):yF [.int j]=some (gZ 0 j.toNat):=by
 rw [yF]
 exact if_pos ⟨by omega,by omega⟩
theorem zs7(a:Int)(n:Nat):gZ a n=((List.range n).map fun(k:Nat)=>a+(k:Int)).map .int:=by
 unfold gZ
 rw [List.map_map];rfl
theorem aF{f g:tz1}{p p':PSt}(h:f p=some (.nx,p')):aO f g p=g p':=by unfold aO;rw [h];rfl
theorem eN{f g:tz1}{p p':PSt}{d:D}(h:f p=some (.ret d,p')):aO f g p=some (.ret d,p'):=by unfold aO;rw [h];rfl
theorem zc4{c:PSt->Option (Bool×PSt)}{f g:tz1}{p p':PSt}(h:c p=some (true,p')):fIf c f g p=f p':=by unfold fIf;rw [h];rfl
theorem jS{c:PSt->Option (Bool×PSt)}{f g:tz1}{p p':PSt}(h:c p=some (false,p')):fIf c f g p=g p':=by unfold fIf;rw [h];rfl
theorem bZ{i:Nat}{f:tz2}{p:PSt}{d:D}(h:f p=some d):aS i (aH f) p=some (.nx,p.set i (some d)):=by unfold aS aH;rw [h];rfl
theorem eI{f:tz2}{p:PSt}{d:D}(h:f p=some d):bQ (aH f) p=some (.ret d,p):=by unfold bQ aH;rw [h];rfl
theorem iA{np n:Nat}{f:tz1}{ds:List D}{d:D}{p:PSt}(hl:ds.length=np)(h:f (ds.map some++List.replicate n none)=some (.ret d,p)):gP np n f ds=some d:=by
 unfold gP;rw [if_pos hl,h];rfl
theorem aT{g:D->D->Option D}{fa fb:tz2}{p:PSt}{x y d:D}(h1:fa p=some x)(h2:fb p=some y)(h3:g x y=some d):f2 g fa fb p=some d:=by unfold f2;rw [h1,h2];exact h3
theorem bJ{h:tz6}{g:tz3}{p:PSt}{ds:List D}{d:D}(h1:g p=some ds)(h2:h ds=some d):aI h g p=some d:=by unfold aI;rw [h1];exact h2
theorem zs8{o o':Bool}{ys zs:List D}(h1:D.imms ys=true)(h2:D.imms zs=true)(h:ys.length+zs.length<=1000):bE (.lst o ys) (.lst o' zs)=some (.lst true (ys++zs)):=by
 rw [bE]
 exact if_pos (by rw [h1,h2];simpa using sz h)
theorem aE{f:tz2}{g:tz3}{p:PSt}{d:D}{ds:List D}(h1:f p=some d)(h2:g p=some ds):aB f g p=some (d::ds):=by unfold aB;rw [h1,h2];rfl
def gO(ws:List Str):List D:=ws.map .str
theorem yn4(a b:List Str):gO (a++b)=gO a++gO b:=by simp [gO]
theorem yn5(a:List Str):(gO a).length=a.length:=by simp [gO]
theorem fN{g:tz3}{p:PSt}{ds:List D}(h:g p=some ds)(hl:ds.length<=1000):cA g p=some (.lst true ds):=by unfold cA;rw [h];exact if_pos hl
theorem ya1(a:Int)(b c:Nat)(hc:0<c):∃n:Nat,(b:Int)+a % (c:Int)=(n:Int)/\n<b+c:=by
 have h1:=Int.emod_nonneg a (show(c:Int)≠0 by omega)
 have h2:=Int.emod_lt_of_pos a (show(0:Int)<c by omega)
 exact⟨(b+a % c).toNat,by omega,by omega⟩
theorem yf7(k:Nat)(n:Nat):gZ (k:Int) (n+1)= .int k::gZ ((k+1:Nat):Int) n:=by
 unfold gZ
 rw [List.range_succ_eq_map,List.map_cons,List.map_map]
 congr 1
 ·simp
  intro j _
  omega
theorem yu1{n:Nat}(h:n<=1000):yF [.int (n:Int)]=some (gZ ((0:Nat):Int) n):=ya0 (j:=(n:Int)) (by omega) (by omega)
theorem eZ{g:tz3}{p:PSt}{ds:List D}(h:g p=some ds)(hi:D.imms ds=true)(hl:ds.length<=1000):cE g p=some (.tup ds):=by
 unfold cE
 rw [h]
 exact if_pos (by rw [hi];simpa using hl)
theorem gU{i:Nat}{p:PSt}{d:D}(h:p[i]? =some (some d)):aA i p=some d:=by unfold aA;rw [h];rfl
theorem gG{f:tz4}{p:PSt}{b:Bool}(h:f p=some b):aL f p=some (b,p):=by unfold aL;rw [h];rfl
theorem eS{f:tz2}{p:PSt}{b:Bool}(h:f p=some (.bl b)):fB f p=some b:=by unfold fB;rw [h];rfl
theorem qM{f:tz2}{p:PSt}{b:Bool}(h:f p=some (.bl b)):fT f p=some b:=by unfold fT;rw [h];rfl
theorem jM{f g:tz4}{p:PSt}(h:f p=some false):cF f g p=some false:=by unfold cF;rw [h];rfl
theorem iB{f g:tz4}{p:PSt}{b:Bool}(h:f p=some true)(h2:g p=some b):cF f g p=some b:=by unfold cF;rw [h];exact h2
theorem yf8{f g:tz4}{p:PSt}(h:f p=some true):eH f g p=some true:=by unfold eH;rw [h];rfl
theorem sG{f g:tz4}{p:PSt}{b:Bool}(h:f p=some false)(h2:g p=some b):eH f g p=some b:=by unfold eH;rw [h];exact h2
theorem kR{f:tz4}{p:PSt}{b:Bool}(h:f p=some b):dE f p=some (!b):=by unfold dE;rw [h];rfl
theorem bO{c:tz4}{F:tz1}{p:PSt}(h:c p=some false):fIf (aL c) F aZ p=some (.nx,p):=(jS (gG h)).trans rfl
theorem cT{c:tz4}{F G:tz1}{p:PSt}(h:c p=some true):fIf (aL c) F G p=F p:=zc4 (gG h)
def kdT(i:Nat)(w:String):tz4:=fB (f2 dEq (f2 dIx (aA i) (fC (.int 0))) (fC (.str w)))
theorem fP{i:Nat}{p:PSt}{k w:String}{ds:List D}{b:Bool}(hp:p[i]? =some (some (.tup (.str k::ds))))(h:decide (k=w)=b):kdT i w p=some b:=by
 refine eS (aT (aT (gU hp) rfl (dM _ _)) rfl ?_)
 show some (D.bl (decide ((k:Str)=(w:Str))))=_
 rw [<-h]
 congr 2
 exact decide_eq_decide.mpr (by rw [bP])
theorem lW{f:tz8}{p p':PSt}{d:D}(h:f p=some (d,p')):bA f p=some (.nx,p'):=by unfold bA;rw [h];rfl
theorem tU{as:List L2.Arg}{g:tz7}{p:PSt}{ds ds':List D}{d:D}(h1:bB as p=some ds)(h2:g ds=some (d,ds'))(h3:ds'.length=as.length):fIO as g p=some (d,eK p as ds'):=by unfold fIO;rw [h1,Option.bind_some,h2,Option.bind_some,if_pos h3]
theorem eQ{f:tz2}{p:PSt}{d:D}(h:f p=some d)(hi:d.imm=true):aY f p=some d:=by unfold aY;rw [h];exact if_pos hi
theorem gN{p:PSt}:bB [] p=some []:=rfl
theorem eC{f:tz2}{as:List L2.Arg}{p:PSt}{d:D}{ds:List D}(h:f p=some d)(hi:d.imm=true)(h2:bB as p=some ds):bB (.im f::as) p=some (d::ds):=by
 show(aY f p).bind _=_
 rw [eQ h hi,Option.bind_some,h2];rfl
theorem qV{j:Nat}{as:List L2.Arg}{p:PSt}{d:D}{ds:List D}(h:p[j]? =some (some d))(h2:bB as p=some ds):bB (.io j::as) p=some (d::ds):=by
 show((p[j]?).join).bind _=_
 rw [h,Option.join_some,Option.bind_some,h2];rfl
theorem xi8{f:tz8}{p p':PSt}{b:Bool}(h:f p=some (.bl b,p')):fTE f p=some (b,p'):=by unfold fTE;rw [h];rfl
theorem yu2{f:PSt->Option (Bool×PSt)}{p p':PSt}{b:Bool}(h:f p=some (b,p')):nF f p=some (!b,p'):=by unfold nF;rw [h];rfl
theorem yy3(t:Str):vF [.str t,.ty "str"]=some (.bl true):=by
 unfold vF
 show(if "str"∈["bool","int","str","list","tuple","dict"] then some (D.bl (ze8 "str" "str")) else none)=_
 rw [if_pos (by simp)]
 rfl
theorem zc5:("\n":Str)=⟨#[10]⟩:=by decide+kernel
theorem yy4:(" ":Str)=⟨#[32]⟩:=by decide+kernel
theorem zs9:("":Str)=⟨#[]⟩:=by decide+kernel
theorem lX{x y:Str}(h:x.cps.toList=y.cps.toList):x=y:=by
 cases x;cases y
 simp only at h
 rw [Array.toList_inj.mp h]
theorem nN(x:Str):x.length=x.cps.toList.length:=by simp [Str.length]
theorem zl9:∀(n:Nat) (a b:Array Nat),((List.replicate n a).foldl (·++·) b).toList=b.toList++(List.replicate n a.toList).flatten
 |0,a,b=>by simp
 |n+1,a,b=>by
  rw [List.replicate_succ,List.foldl_cons,zl9 n a (b++a),List.replicate_succ,List.flatten_cons]
  simp
theorem uV(n:Int):(Txt.mul " " n).cps.toList=List.replicate n.toNat 32:=by
 rw [yy4]
 unfold Txt.mul
 by_cases h:n<1
 ·rw [if_pos h,show n.toNat=0 by omega];rfl
 ·rw [if_neg h]
  by_cases h1:n=1
  ·subst h1;rfl
  ·rw [if_neg]
   ·show((List.replicate n.toNat #[32]).foldl (·++·) #[]).toList=_
    rw [zl9]
    simp
   ·simp [h1,Str.length]
theorem mP(n:Int):(Txt.mul " " n).length=n.toNat:=by rw [nN,uV,List.length_replicate]
theorem zc6(n:Int):(10:Nat)∉(Txt.mul " " n).cps.toList:=by rw [uV];simp
def col(t:Str):Nat:=(t.cps.toList.reverse.takeWhile (· !=10)).length
theorem yn6{l:List Nat}(h:(10:Nat)∉l):∀a∈l,(a !=10)=true:=fun a ha=>by
 simp only [bne_iff_ne,ne_eq]
 intro e;subst e;exact h ha
theorem zi9{t w:Str}(h:(10:Nat)∉w.cps.toList):col (t++w)=col t+w.length:=by
 unfold col
 rw [cY,List.reverse_append,List.takeWhile_append_of_pos (yn6 (by simpa using h)),List.length_append,List.length_reverse,nN]
 omega
theorem zt0{t w:Str}(h:(10:Nat)∉w.cps.toList):col (t++((⟨#[10]⟩:Str)++w))=w.length:=by
 unfold col
 rw [cY,cY,List.reverse_append,List.reverse_append,List.append_assoc,List.takeWhile_append_of_pos (yn6 (by simpa using h)),List.length_append,List.length_reverse,nN]
 simp
theorem yn7(t:Str):col t<=t.length:=by
 unfold col
 rw [nN,<-List.length_reverse (as:=t.cps.toList)]
 exact(List.takeWhile_sublist _).length_le
theorem zo2{t:Str}{i:Nat}:StrLaws.At t ⟨#[10]⟩ t.length i↔t.cps.toList[i]? =some 10:=by
 unfold StrLaws.At Builtin.Str.subAt
 show i+1<=t.length/\(t.cps.extract i (i+1)== #[10])=true↔_
 rw [beq_iff_eq,<-Array.toList_inj]
 have e:(t.cps.extract i (i+1)).toList=(t.cps.toList.drop i).take 1:=by simp [Array.toList_extract,List.extract]
 rw [e,nN]
 constructor
 ·intro ⟨h1,h2⟩
  rw [List.getElem?_eq_getElem (by omega)]
  rw [List.drop_eq_getElem_cons (by omega)] at h2
  simpa using h2
 ·intro h
  obtain⟨hi,h2⟩:=List.getElem?_eq_some_iff.mp h
  refine⟨by omega,?_⟩
  rw [List.drop_eq_getElem_cons hi,h2]
  rfl
theorem yn8(t:Str):(t.length:Int)-1-Txt.rfind t ⟨#[10]⟩=(col t:Int):=by
 rcases rfind_whole t ⟨#[10]⟩ with ⟨e,h⟩|⟨i,e,h1,h2⟩
 ·have hn:(10:Nat)∉t.cps.toList:=fun hm=>by
   obtain⟨i,hi⟩:=List.getElem?_of_mem hm
   exact h i (zo2.mpr hi)
  have:=zi9 (t:=⟨#[]⟩) hn
  have e0:(⟨#[]⟩:Str)++t=t:=lX (by rw [cY];rfl)
  rw [e0,show col ⟨#[]⟩=0 from rfl] at this
  rw [e,this];omega
 ·rw [zo2] at h1
  obtain⟨hi,h3⟩:=List.getElem?_eq_some_iff.mp h1
  have hs:t.cps.toList=t.cps.toList.take i++10::t.cps.toList.drop (i+1):=by
   rw [<-h3,<-List.drop_eq_getElem_cons hi,List.take_append_drop]
  have hn:(10:Nat)∉t.cps.toList.drop (i+1):=fun hm=>by
   obtain⟨j,hj⟩:=List.getElem?_of_mem hm
   rw [List.getElem?_drop] at hj
   exact h2 (i+1+j) (by omega) (zo2.mpr hj)
  have e1:t=(⟨(t.cps.toList.take i).toArray⟩:Str)++((⟨#[10]⟩:Str)++(⟨(t.cps.toList.drop (i+1)).toArray⟩:Str)):=lX (by
   rw [cY,cY]
   exact hs)
  have e2:=zt0 (t:=⟨(t.cps.toList.take i).toArray⟩) (w:=⟨(t.cps.toList.drop (i+1)).toArray⟩) hn
  rw [<-e1] at e2
  rw [e,e2,nN,nN]
  show((t.cps.toList.length:Nat):Int)-1-(i:Int)=(((t.cps.toList.drop (i+1)).length:Nat):Int)
  rw [List.length_drop]
  omega
def nlw(m:Int):Str:=(⟨#[10]⟩:Str)++Txt.mul " " m
def wr(b:Bool)(m:Int)(k:Nat):Leaf->Option Str
 | .word x=>some x
 | .gap x=>if b then some (nlw m) else some x
 | .stop c=>if (k:Int)<=c then some (Txt.mul " " (c-k)) else if b then some (nlw c) else none
 | .fin=>if b then some (nlw m) else none
def Wr(w:Str):Prop:=(10:Nat)∉w.cps.toList\/∃m:Int,w=nlw m
theorem ya2{x:Str}(h:zv7 x):(10:Nat)∉x.cps.toList:=fun hm=>by
 have:=List.all_eq_true.mp h.2.2 _ hm
 simp [yI] at this
theorem yn9{x:Str}(h:x=""\/x=" "):(10:Nat)∉x.cps.toList:=by
 rcases h with rfl|rfl
 ·simp [show("":Str)=⟨#[]⟩ from by decide+kernel]
 ·simp [yy4]
theorem yf9{b:Bool}{m:Int}{k:Nat}{l:Leaf}{w:Str}(hl:fL l)(h0:0<=m)(h1:m<=200)(h:wr b m k l=some w):Wr w/\w.length<=201:=by
 have nl:∀c:Int,0<=c->c<=200->Wr (nlw c)/\(nlw c).length<=201:=fun c c0 c1=>⟨.inr ⟨c,rfl⟩,by unfold nlw;rw [eD,mP];show 1+_<=_;omega⟩
 cases l with
 |word x=>cases h;exact⟨.inl (ya2 hl),by have:=hl.2.1;omega⟩
 | gap x=>
  cases b with
  |true=>cases h;exact nl m h0 h1
  |false=>
   have e:x=w:=by simpa [wr] using h
   subst e
   have hl':x=""\/x=" ":=hl
   refine⟨.inl (yn9 hl'),?_⟩
   rcases hl' with e|e<;>subst e
   ·show(0:Nat)<=201;decide
   ·show(1:Nat)<=201;decide
 | stop c=>
  have hc:0<=c/\c<=40:=hl
  change (if (k:Int)<=c then some (Txt.mul " " (c-k)) else if b=true then some (nlw c) else none)=some w at h
  by_cases hk:(k:Int)<=c
  ·rw [if_pos hk] at h;cases h
   exact⟨.inl (zc6 _),by rw [mP];omega⟩
  ·rw [if_neg hk] at h
   cases b with
   |true=>cases h;exact nl c hc.1 (by omega)
   |false=>cases h
 |fin=>
  cases b with
  |true=>cases h;exact nl m h0 h1
  |false=>cases h
mutual
def cQ:Bool->Int->Pc->List Int->Str->Option (List Int×Str)
 |b,m,.leaf l,cs,t=>(wr b m (col t) l).map fun w=>(cs,t++w)
 | b,m,.group r,cs,t=>if b=true then(match cs with
   |[]=>none
   |c::cs=>if c=0 then bY false m r cs t else if c=1 then bY true m r cs t else none) else bY false m r cs t
 |b,m,.hang n r,cs,t=>bY b (m+n) r cs t
 | b,m,.either rs,cs,t=>match cs with
   |[]=>none
   |c::cs=>if 0<=c then hX b m rs c.toNat cs t else none
def bY:Bool->Int->List Pc->List Int->Str->Option (List Int×Str)
 |_,_,[],cs,t=>some (cs,t)
 |b,m,p::r,cs,t=>(cQ b m p cs t).bind fun s=>bY b m r s.1 s.2
def hX:Bool->Int->List (List Pc)->Nat->List Int->Str->Option (List Int×Str)
 |_,_,[],_,_,_=>none
 |b,m,r::_,0,cs,t=>bY b m r cs t
 |b,m,_::rs,i+1,cs,t=>hX b m rs i cs t
end
theorem sH:∀{rs:List (List Pc)} {i:Nat} {b:Bool} {m:Int} {cs:List Int} {t:Str} {r:List Pc},rs[i]? =some r->hX b m rs i cs t=bY b m r cs t
 |[],i,_,_,_,_,_,h=>by simp at h
 |q::rs,0,_,_,_,_,_,h=>by simp at h;subst h;rw [hX]
 |q::rs,i+1,_,_,_,_,_,h=>by rw [hX];exact sH (by simpa using h)
theorem uW:∀{rs:List (List Pc)} {i:Nat} {b:Bool} {m:Int} {cs:List Int} {t:Str},rs[i]? =none->hX b m rs i cs t=none
 |[],i,_,_,_,_,h=>by rw [hX]
 |q::rs,0,_,_,_,_,h=>by simp at h
 |q::rs,i+1,_,_,_,_,h=>by rw [hX];exact uW (by simpa using h)
mutual
theorem yo0:∀{p:Pc} {b:Bool} {m:Int} {cs cs':List Int} {t t':Str} (x:List Int),cQ b m p cs t=some (cs',t')->cQ b m p (cs++x) t=some (cs'++x,t')
 | .leaf l,b,m,cs,cs',t,t',x,h=>by
  rw [cQ] at h|-
  cases e:wr b m (col t) l with
  |none=>rw [e] at h;cases h
  |some w=>rw [e] at h;cases h;rfl
 | .group r,b,m,cs,cs',t,t',x,h=>by
  rw [cQ.eq_def] at h|-
  simp only at h|-
  cases b with
  |false=>simp only [Bool.false_eq_true,if_false] at h|-;exact kU x h
  | true=>
   cases cs with
   |nil=>simp at h
   | cons c cs=>
    simp only [if_true,List.cons_append] at h|-
    by_cases c0:c=0
    ·simp only [c0,if_true] at h|-;exact kU x h
    ·by_cases c1:c=1
     ·simp only [c1,if_true] at h|-;exact kU x h
     ·simp [c0,c1] at h
 | .hang n r,b,m,cs,cs',t,t',x,h=>by rw [cQ] at h|-;exact kU x h
 | .either rs,b,m,cs,cs',t,t',x,h=>by
  rw [cQ.eq_def] at h|-
  cases cs with
  |nil=>cases h
  |cons c cs=>
   simp only [List.cons_append] at h|-
   by_cases c0:0<=c
   ·simp only [c0,if_true] at h|-;exact zc7 x h
   ·simp [c0] at h
theorem kU:∀{r:List Pc} {b:Bool} {m:Int} {cs cs':List Int} {t t':Str} (x:List Int),bY b m r cs t=some (cs',t')->bY b m r (cs++x) t=some (cs'++x,t')
 |[],b,m,cs,cs',t,t',x,h=>by rw [bY] at h|-;cases h;rfl
 | p::r,b,m,cs,cs',t,t',x,h=>by
  rw [bY] at h|-
  cases e:cQ b m p cs t with
  |none=>rw [e] at h;cases h
  |some s=>
   obtain⟨c1,t1⟩:=s
   rw [e] at h
   rw [yo0 x e]
   exact kU x h
theorem zc7:∀{rs:List (List Pc)} {i:Nat} {b:Bool} {m:Int} {cs cs':List Int} {t t':Str} (x:List Int),hX b m rs i cs t=some (cs',t')->hX b m rs i (cs++x) t=some (cs'++x,t')
 |[],i,b,m,cs,cs',t,t',x,h=>by rw [hX] at h;cases h
 |r::rs,0,b,m,cs,cs',t,t',x,h=>by rw [hX] at h|-;exact kU x h
 |r::rs,i+1,b,m,cs,cs',t,t',x,h=>by rw [hX] at h|-;exact zc7 x h
end
abbrev nsP:List Str:=["broken","margin"]
def aU(b:Bool)(m:Int):D:= .obj false "Place" nsP [.bl b,.int m]
abbrev jC:tz7:=gE 3 0 (bF [true,false,false]) vU
theorem yg0(b:Bool)(m:Int):jC [.obj true "Place" [] [],.bl b,.int m]=some (.non,[.obj true "Place" nsP [.bl b,.int m],.bl b,.int m]):=by
 kernel_rfl
abbrev qB:tz6:=gP 0 0 (rV jC)
abbrev nD:tz6:=gP 1 0 sP
def mF:Pc->Bool
 | .leaf _=>false
 |_=>true
theorem uX(p:Pc):nD [pcD p]=some (.bl (mF p)):=by
 cases p with
 |leaf l=>cases l<;>kernel_rfl
 |_=>kernel_rfl
abbrev nE:tz6:=gP 2 0 qJ
def qC(b:Bool):Pc->Bool
 | .either _=>true
 | .group _=>b
 |_=>false
theorem zt1(p:Pc)(b:Bool)(m:Int)(hp:mF p=true):nE [pcD p,aU b m]=some (.bl (qC b p)):=by
 cases p with
 |leaf l=>cases hp
 |group r=>cases b<;>kernel_rfl
 |_=>kernel_rfl
def jD(b:Bool)(m:Int):Pc->List (List Pc×Bool×Int)
 | .leaf _=>[]
 | .group r=>if b=true then [(r,false,m),(r,true,m)] else [(r,false,m)]
 | .hang n r=>[(r,b,m+n)]
 | .either rs=>rs.map fun r=>(r,b,m)
def gS(x:List Pc×Bool×Int):D:= .tup [.tup (aK x.1),aU x.2.1 x.2.2]
abbrev vO:tz6:=gP 2 2 (lZ jC)
theorem kB(b:Bool)(m:Int):(aU b m).imm=true:=rfl
theorem xW(x:List Pc×Bool×Int):(gS x).imm=true:=by
 show(D.imm (.tup (aK x.1))&&(D.imm (aU x.2.1 x.2.2)&&D.imms []))=true
 rw [show D.imm (.tup (aK x.1))=D.imms (aK x.1) from rfl,dL];rfl
theorem zm0(b:Bool)(m:Int):∀(rs:List (List Pc)) (x:Option D),kM [x,some (aU b m)] zV (cE (aB (aY (aA 0)) (aB (aY (aA 1)) aD))) (cK rs)=some ((rs.map fun r=>(r,b,m)).map gS)
 |[],_=>rfl
 | r::rs,x=>by
  have ih:=zm0 b m rs x
  have hi:=kB b m
  have hp:=dL r
  show kM _ _ _ (.tup (aK r)::cK rs)=_
  rw [kM]
  show(zV [some (.tup (aK r)),some (aU b m)]).bind _=_
  rw [List.map_cons,List.map_cons]
  have e:cE (aB (aY (aA 0)) (aB (aY (aA 1)) aD)) [some (.tup (aK r)),some (aU b m)]=some (gS (r,b,m)):=by
   unfold gS
   generalize aU b m=q at hi|-
   simp [gP,gE,aO,aZ,aS,aH,fIf,aL,fB,f2,aA,fC,aY,bQ,bA,bG,aW,cB,cH,aB,aD,cA,cE,aI,dEq,dNe,eqB,dB,dIx,bV,bC,D.imm,D.imms,bE,fQ,fT,cP,bP,dM,cR,fW,dP,dIn,inB,qN,D.flat,D.flats,inV,eqV,dE,cF,eH,qG,fOr,bB,hJ,dO,eU,bW,jA,cZ,fK,eL,pI,fX,bF,dLe,dLt,dGe,dIs,gF,fMt,dR,qH,hp,hi]
  show((cE (aB (aY (aA 0)) (aB (aY (aA 1)) aD)) [some (.tup (aK r)),some (aU b m)]).bind _)=_
  rw [e,Option.bind_some,ih];rfl
def lP:Pc->Nat
 | .either rs=>rs.length
 |_=>0
theorem kd2{p:PSt}{k w:String}{b:Bool}(hp:p[2]? =some (some (.str k)))(h:decide (k=w)=b):fB (f2 dEq (aA 2) (fC (.str w))) p=some b:=by
 refine eS (aT (gU hp) rfl ?_)
 show some (D.bl (decide ((k:Str)=(w:Str))))=_
 rw [<-h]
 congr 2
 exact decide_eq_decide.mpr (by rw [bP])
theorem zO{p:PSt}{f g:tz2}{b:Bool}{m:Int}(h1:f p=some (.bl b))(h2:g p=some (.int m)):pI (eL "Place" (bB [.im f,.im g]) jC) p=some (aU b m):=by
 have q:=yg0 b m
 have e:eL "Place" (bB [.im f,.im g]) jC p=some (.obj true "Place" nsP [.bl b,.int m]):=by
  unfold eL
  rw [eC h1 rfl (eC h2 rfl gN),Option.bind_some,q];rfl
 unfold pI
 rw [e];rfl
theorem zt2:qB []=some (aU true 0):=iA (p:=[]) rfl (eI (zO rfl rfl))
theorem zj0{p:PSt}{f g:tz2}{r:List Pc}{b:Bool}{m:Int}(h1:f p=some (.tup (aK r)))(h2:g p=some (aU b m)):cE (aB f (aB g aD)) p=some (gS (r,b,m)):=by
 unfold cE
 rw [aE h1 (aE h2 rfl)]
 refine(if_pos ?_).trans rfl
 have:=xW (r,b,m)
 rw [show D.imms [.tup (aK r),aU b m]=true from this];rfl
theorem ya3(p:Pc)(b:Bool)(m:Int)(hp:mF p=true)(hl:lP p<=1000):vO [pcD p,aU b m]=some (.lst true ((jD b m p).map gS)):=by
 show gP 2 2 (lZ jC) _=_
 cases p with
 |leaf l=>cases hp
 | group r=>
  have s1:aS 2 (aH (aY (f2 dIx (aA 0) (fC (.int 0))))) [some (pcD (.group r)),some (aU b m),none,none]=some (.nx,[some (pcD (.group r)),some (aU b m),some (.str "group"),none]):=bZ (eQ (aT rfl rfl (dM _ _)) rfl)
  have s4:aS 3 (aH (cE (aB (aY (f2 dIx (aA 0) (fC (.int 1)))) (aB (pI (eL "Place" (bB [.im (fC (.bl false)),.im (cZ "Place" "margin" (aA 1))]) jC)) aD)))) [some (pcD (.group r)),some (aU b m),some (.str "group"),none]=some (.nx,[some (pcD (.group r)),some (aU b m),some (.str "group"),some (gS (r,false,m))]):=bZ (zj0 (eQ (aT rfl rfl (cR _ _ _)) (dL r)) (zO rfl (by kernel_rfl)))
  have w3:aY (aA 3) [some (pcD (.group r)),some (aU b m),some (.str "group"),some (gS (r,false,m))]=some (gS (r,false,m)):=eQ rfl (xW _)
  have br:fT (cZ "Place" "broken" (aA 1)) [some (pcD (.group r)),some (aU b m),some (.str "group"),some (gS (r,false,m))]=some b:=qM (by kernel_rfl)
  suffices h:∃q,lZ jC [some (pcD (.group r)),some (aU b m),none,none]=some (.ret (.lst true ((jD b m (.group r)).map gS)),q) from by
   obtain⟨q,hq⟩:=h;exact iA rfl hq
  unfold lZ
  rw [aF s1,aF (bO (kd2 rfl (by decide))),aF (bO (kd2 rfl (by decide))),aF s4]
  cases b with
  |true=>exact⟨_,eN ((cT br).trans (eI (fN (aE w3 (aE (zj0 (eQ (aT rfl rfl (cR _ _ _)) (dL r)) (eQ rfl rfl)) rfl)) (Nat.le_of_ble_eq_true rfl))))⟩
  |false=>exact⟨_,(aF (bO br)).trans (eI (fN (aE w3 rfl) (Nat.le_of_ble_eq_true rfl)))⟩
 |hang n r=>
  have s1:aS 2 (aH (aY (f2 dIx (aA 0) (fC (.int 0))))) [some (pcD (.hang n r)),some (aU b m),none,none]=some (.nx,[some (pcD (.hang n r)),some (aU b m),some (.str "hang"),none]):=bZ (eQ (aT rfl rfl (dM _ _)) rfl)
  refine iA (p:=[some (pcD (.hang n r)),some (aU b m),some (.str "hang"),none]) rfl ?_
  unfold lZ
  exact(aF s1).trans (eN ((cT (kd2 rfl (by decide))).trans (eI (fN (aE (zj0 (eQ (aT rfl rfl (fW _ _ _ _)) (dL r)) (zO (by kernel_rfl) (aT (x:= .int m) (by kernel_rfl) (aT rfl rfl (cR _ _ _)) rfl))) rfl) (Nat.le_of_ble_eq_true rfl)))))
 | either rs=>
  generalize jC=G
  have hz:(cK rs).length<=sizeLine:=by rw [kA];exact sz hl
  have e:=zm0 b m rs none
  have e2:sM [none,some 1] (dR (f2 dIx (aA 0) (fC (.int 1)))) zV (cE (aB (aY (aA 0)) (aB (aY (aA 1)) aD))) [some (pcD (.either rs)),some (aU b m),some (.str "either"),none]=some (.lst true ((jD b m (.either rs)).map gS)):=by
   unfold sM
   have e3:dR (f2 dIx (aA 0) (fC (.int 1))) [some (pcD (.either rs)),some (aU b m),some (.str "either"),none]=some (cK rs):=by simp [gP,gE,aO,aZ,aS,aH,fIf,aL,fB,f2,aA,fC,aY,bQ,bA,bG,aW,cB,cH,aB,aD,cA,cE,aI,dEq,dNe,eqB,dB,dIx,bV,bC,D.imm,D.imms,bE,fQ,fT,cP,bP,dM,cR,fW,dP,dIn,inB,qN,D.flat,D.flats,inV,eqV,dE,cF,eH,qG,fOr,bB,hJ,dO,eU,bW,jA,cZ,fK,eL,pI,fX,bF,dLe,dLt,dGe,dIs,gF,fMt,dR,qH,pcD]
   rw [e3,Option.bind_some,if_pos hz]
   have e4:kM (rS [none,some 1] [some (pcD (.either rs)),some (aU b m),some (.str "either"),none]) zV (cE (aB (aY (aA 0)) (aB (aY (aA 1)) aD))) (cK rs)=some ((rs.map fun r=>(r,b,m)).map gS):=e
   rw [e4];rfl
  have s1:aS 2 (aH (aY (f2 dIx (aA 0) (fC (.int 0))))) [some (pcD (.either rs)),some (aU b m),none,none]=some (.nx,[some (pcD (.either rs)),some (aU b m),some (.str "either"),none]):=by simp [gP,gE,aO,aZ,aS,aH,fIf,aL,fB,f2,aA,fC,aY,bQ,bA,bG,aW,cB,cH,aB,aD,cA,cE,aI,dEq,dNe,eqB,dB,dIx,bV,bC,D.imm,D.imms,bE,fQ,fT,cP,bP,dM,cR,fW,dP,dIn,inB,qN,D.flat,D.flats,inV,eqV,dE,cF,eH,qG,fOr,bB,hJ,dO,eU,bW,jA,cZ,fK,eL,pI,fX,bF,dLe,dLt,dGe,dIs,gF,fMt,dR,qH,pcD]
  have s2:∀F:tz1,fIf (aL (fB (f2 dEq (aA 2) (fC (.str "hang"))))) F aZ [some (pcD (.either rs)),some (aU b m),some (.str "either"),none]=some (.nx,[some (pcD (.either rs)),some (aU b m),some (.str "either"),none]):=fun F=>by simp [gP,gE,aO,aZ,aS,aH,fIf,aL,fB,f2,aA,fC,aY,bQ,bA,bG,aW,cB,cH,aB,aD,cA,cE,aI,dEq,dNe,eqB,dB,dIx,bV,bC,D.imm,D.imms,bE,fQ,fT,cP,bP,dM,cR,fW,dP,dIn,inB,qN,D.flat,D.flats,inV,eqV,dE,cF,eH,qG,fOr,bB,hJ,dO,eU,bW,jA,cZ,fK,eL,pI,fX,bF,dLe,dLt,dGe,dIs,gF,fMt,dR,qH]
  have s3:∀F:tz1,fIf (aL (fB (f2 dEq (aA 2) (fC (.str "either"))))) F aZ [some (pcD (.either rs)),some (aU b m),some (.str "either"),none]=F [some (pcD (.either rs)),some (aU b m),some (.str "either"),none]:=fun F=>by simp [gP,gE,aO,aZ,aS,aH,fIf,aL,fB,f2,aA,fC,aY,bQ,bA,bG,aW,cB,cH,aB,aD,cA,cE,aI,dEq,dNe,eqB,dB,dIx,bV,bC,D.imm,D.imms,bE,fQ,fT,cP,bP,dM,cR,fW,dP,dIn,inB,qN,D.flat,D.flats,inV,eqV,dE,cF,eH,qG,fOr,bB,hJ,dO,eU,bW,jA,cZ,fK,eL,pI,fX,bF,dLe,dLt,dGe,dIs,gF,fMt,dR,qH]
  refine iA rfl ?_ (p:=[some (pcD (.either rs)),some (aU b m),some (.str "either"),none])
  unfold lZ
  exact(aF s1).trans ((aF (s2 _)).trans (eN ((s3 _).trans (eI e2))))
abbrev gNl:tz6:=gP 1 0 vS
theorem zo3(m:Int)(h0: -1000<=m)(h1:m<=1000):jN (.str " ") (.int m)=some (.str (Txt.mul " " m)):=by
 rw [jN,if_pos]
 simp only [Bool.and_eq_true,decide_eq_true_eq]
 exact⟨⟨by decide+kernel,by omega⟩,by omega⟩
theorem yy5(m:Int)(h0:0<=m)(h1:m<=200):gNl [.int m]=some (.str (nlw m)):=by
 have q:=zo3 m (by omega) (by omega)
 have hl:1+(Txt.mul " " m).length<=sizeLine:=by rw [mP];exact sz (by omega)
 have e:((⟨#[10]⟩:Str)++Txt.mul " " m)=nlw m:=rfl
 have e1:bE (.str "\n") (.str (Txt.mul " " m))=some (.str (nlw m)):=by
  rw [zc5,bE,if_pos (by exact hl)];rfl
 exact iA rfl (eI (aT rfl (aT rfl rfl q) e1))
abbrev rW:tz6:=gP 3 1 (oR gNl)
def wrD:Option Str->D
 |some w=> .str w
 |none=> .non
theorem kd3{p:PSt}{k w:String}{b:Bool}(hp:p[3]? =some (some (.str k)))(h:decide (k=w)=b):fB (f2 dEq (aA 3) (fC (.str w))) p=some b:=by
 refine eS (aT (gU hp) rfl ?_)
 show some (D.bl (decide ((k:Str)=(w:Str))))=_
 rw [<-h]
 congr 2
 exact decide_eq_decide.mpr (by rw [bP])
theorem zc8(l:Leaf)(b:Bool)(m:Int)(k:Nat)(hl:fL l)(h0:0<=m)(h1:m<=200)(hk:k<=1000000):rW [cJ l,aU b m,.int k]=some (wrD (wr b m k l)):=by
 suffices h:∃q,oR gNl [some (cJ l),some (aU b m),some (.int k),none]=some (.ret (wrD (wr b m k l)),q) from by
  obtain⟨q,hq⟩:=h;exact iA rfl hq
 have br:∀d x,fT (cZ "Place" "broken" (aA 1)) [some d,some (aU b m),some (.int k),x]=some b:=fun d x=>qM (by kernel_rfl)
 have mg:∀d x,aI gNl (aB (cZ "Place" "margin" (aA 1)) aD) [some d,some (aU b m),some (.int k),x]=some (.str (nlw m)):=fun d x=>bJ (ds:=[.int m]) (aE (by kernel_rfl) rfl) (yy5 m h0 h1)
 have s1:∀(w:String) (ds:List D),aS 3 (aH (aY (f2 dIx (aA 0) (fC (.int 0))))) [some (.tup (.str w::ds)),some (aU b m),some (.int k),none]=some (.nx,[some (.tup (.str w::ds)),some (aU b m),some (.int k),some (.str w)]):=fun w ds=>bZ (eQ (aT rfl rfl (dM _ _)) rfl)
 unfold oR
 cases l with
 |word x=>exact⟨_,(aF (s1 "word" [.str x])).trans (eN ((cT (kd3 rfl (by decide))).trans (eI (eQ (aT rfl rfl (cR _ _ _)) rfl))))⟩
 |gap x=>
  show ∃q,aO _ _ [some (.tup [.str "gap",.str x]),some (aU b m),some (.int k),none]=_
  rw [aF (s1 "gap" [.str x]),aF (bO (kd3 rfl (by decide)))]
  cases b with
  |false=>exact⟨_,eN ((cT (iB (kd3 rfl (by decide)) (kR (br _ _)))).trans (eI (eQ (aT rfl rfl (cR _ _ _)) rfl)))⟩
  |true=>exact⟨_,(aF (bO (iB (kd3 rfl (by decide)) (kR (br _ _))))).trans ((aF (bO (jM (kd3 rfl (by decide))))).trans ((aF (bO (kR (br _ _)))).trans ((aF (bO (kd3 rfl (by decide)))).trans (eI (mg _ _)))))⟩
 |fin=>
  show ∃q,aO _ _ [some (.tup [.str "end"]),some (aU b m),some (.int k),none]=_
  rw [aF (s1 "end" []),aF (bO (kd3 rfl (by decide))),aF (bO (jM (kd3 rfl (by decide)))),aF (bO (jM (kd3 rfl (by decide))))]
  cases b with
  |false=>exact⟨_,eN ((cT (kR (br _ _))).trans (eI rfl))⟩
  |true=>exact⟨_,(aF (bO (kR (br _ _)))).trans ((aF (bO (kd3 rfl (by decide)))).trans (eI (mg _ _)))⟩
 | stop c=>
  have hc:0<=c/\c<=40:=hl
  show ∃q,aO _ _ [some (.tup [.str "stop",.int c]),some (aU b m),some (.int k),none]=_
  have le:fB (f2 dLe (aA 2) (f2 dIx (aA 0) (fC (.int 1)))) [some (.tup [.str "stop",.int c]),some (aU b m),some (.int k),some (.str "stop")]=some (decide ((k:Int)<=c)):=eS (aT rfl (aT rfl rfl (cR _ _ _)) rfl)
  rw [aF (s1 "stop" [.int c]),aF (bO (kd3 rfl (by decide))),aF (bO (jM (kd3 rfl (by decide))))]
  by_cases hkc:(k:Int)<=c
  ·rw [decide_eq_true hkc] at le
   rw [show wr b m k (.stop c)=some (Txt.mul " " (c-k)) from if_pos hkc]
   exact⟨_,eN ((cT (iB (kd3 rfl (by decide)) le)).trans (eI (aT rfl (aT (aT rfl rfl (cR _ _ _)) rfl rfl) (zo3 (c-k) (by omega) (by omega)))))⟩
  ·rw [decide_eq_false hkc] at le
   rw [aF (bO (iB (kd3 rfl (by decide)) le))]
   cases b with
   |false=>
    rw [show wr false m k (.stop c)=none from(if_neg hkc).trans rfl]
    exact⟨_,eN ((cT (kR (br _ _))).trans (eI rfl))⟩
   |true=>
    rw [show wr true m k (.stop c)=some (nlw c) from(if_neg hkc).trans rfl]
    exact⟨_,(aF (bO (kR (br _ _)))).trans (eN ((cT (kd3 rfl (by decide))).trans (eI (bJ (aE (aT rfl rfl (cR _ _ _)) rfl) (yy5 c hc.1 (by omega))))))⟩
theorem yo1{w:Str}:Txt.startswith w ⟨#[10]⟩=decide (w.cps.toList[0]? =some 10):=by
 rw [Bool.eq_iff_iff,decide_eq_true_eq,<-zo2 (t:=w) (i:=0)]
 unfold Txt.startswith StrLaws.At
 simp only [Bool.and_eq_true,decide_eq_true_eq]
abbrev zf7:tz6:=gP 1 0 pJ
theorem xc3(w:Str):zf7 [.str w]=some (.bl (decide (w.cps.toList[0]? =some 10))):=by
 rw [<-yo1,<-zc5]
 simp [gP,gE,aO,aZ,aS,aH,fIf,aL,fB,f2,aA,fC,aY,bQ,bA,bG,aW,cB,cH,aB,aD,aI,dIx,bV,bC,D.imm,D.imms,bE,fQ,fT,cP,bP,dM,cR,eH,bB,hJ,dO,eU,bW,jA,cZ,fK,eL,fX,bF,dLt,dGe,dIs,gF,fMt,fB,dB,fJ,pJ,nB,sL]
abbrev yK:tz6:=gP 2 0 (iS zf7)
theorem yo2{t w:Str}(hw:Wr w)(hz:w.length<=1000):yK [.int (col t),.str w]=some (.int (col (t++w))):=by
 have q:=xc3 w
 have hz':w.length<=sizeLine:=sz hz
 show gP 2 0 (iS zf7) _=_
 rcases hw with h|⟨m,rfl⟩
 ·have e:decide (w.cps.toList[0]? =some 10)=false:=decide_eq_false fun h'=>h (List.mem_of_getElem? h')
  rw [e] at q
  rw [zi9 h]
  generalize zf7=G at q|-
  simp [gP,gE,aO,aZ,aS,aH,fIf,aL,fB,f2,aA,fC,aY,bQ,bA,bG,aW,cB,cH,aB,aD,aI,dIx,bV,bC,D.imm,D.imms,bE,fQ,fT,cP,bP,dM,cR,eH,bB,hJ,dO,eU,bW,jA,cZ,fK,eL,fX,bF,dLt,dGe,dIs,gF,fMt,fB,dB,fJ,iS,q,hz']
 ·have e:decide ((nlw m).cps.toList[0]? =some 10)=true:=decide_eq_true (by unfold nlw;rw [cY];rfl)
  rw [e] at q
  have e2:col (t++nlw m)=(nlw m).length-1:=by
   unfold nlw
   rw [zt0 (zc6 m),eD];show _=1+_-1;omega
  have e3:1<=(nlw m).length:=by unfold nlw;rw [eD];show 1<=1+_;omega
  rw [e2]
  generalize zf7=G at q|-
  generalize nlw m=w at hz' q e3|-
  simp [gP,gE,aO,aZ,aS,aH,fIf,aL,fB,f2,aA,fC,aY,bQ,bA,bG,aW,cB,cH,aB,aD,aI,dIx,bV,bC,D.imm,D.imms,bE,fQ,fT,cP,bP,dM,cR,eH,bB,hJ,dO,eU,bW,jA,cZ,fK,eL,fX,bF,dLt,dGe,dIs,gF,fMt,fB,dB,fJ,iS,q,hz']
  omega
def cat:List Str->Str
 |[]=>⟨#[]⟩
 |x::xs=>x++cat xs
theorem zj1(t:Str):t++(⟨#[]⟩:Str)=t:=lX (by rw [cY];simp [gP,gE,aO,aZ,aS,aH,fIf,aL,fB,f2,aA,fC,aY,bQ,bA,bG,aW,cB,cH,aB,aD,aI,dIx,bV,bC,D.imm,D.imms,bE,fQ,fT,cP,bP,dM,cR,eH,bB,hJ,dO,eU,bW,jA,cZ,fK,eL,fX,bF,dLt,dGe,dIs,gF,fMt,fB,dB,fJ])
theorem xc4(t:Str):(⟨#[]⟩:Str)++t=t:=lX (by rw [cY];simp [gP,gE,aO,aZ,aS,aH,fIf,aL,fB,f2,aA,fC,aY,bQ,bA,bG,aW,cB,cH,aB,aD,aI,dIx,bV,bC,D.imm,D.imms,bE,fQ,fT,cP,bP,dM,cR,eH,bB,hJ,dO,eU,bW,jA,cZ,fK,eL,fX,bF,dLt,dGe,dIs,gF,fMt,fB,dB,fJ])
theorem ya4(a b c:Str):(a++b)++c=a++(b++c):=lX (by simp only [cY,List.append_assoc])
theorem uY:∀(ps:List Str) (w:Str),cat (ps++[w])=cat ps++w
 |[],w=>by show w++(⟨#[]⟩:Str)=(⟨#[]⟩:Str)++w;rw [zj1,xc4]
 |x::ps,w=>by show x++cat (ps++[w])=(x++cat ps)++w;rw [uY ps w,ya4]
abbrev nsS:List Str:=["choices","used","column","parts"]
def aP(C:List Int):List D:=C.map .int
theorem zm1(a b:List Int):aP (a++b)=aP a++aP b:=by simp [gP,gE,aO,aZ,aS,aH,fIf,aL,fB,f2,aA,fC,aY,bQ,bA,bG,aW,cB,cH,aB,aD,aI,dIx,bV,bC,D.imm,D.imms,bE,fQ,fT,cP,bP,dM,cR,eH,bB,hJ,dO,eU,bW,jA,cZ,fK,eL,fX,bF,dLt,dGe,dIs,gF,fMt,fB,dB,fJ,aP]
theorem wU(a:List Int):(aP a).length=a.length:=by simp [gP,gE,aO,aZ,aS,aH,fIf,aL,fB,f2,aA,fC,aY,bQ,bA,bG,aW,cB,cH,aB,aD,aI,dIx,bV,bC,D.imm,D.imms,bE,fQ,fT,cP,bP,dM,cR,eH,bB,hJ,dO,eU,bW,jA,cZ,fK,eL,fX,bF,dLt,dGe,dIs,gF,fMt,fB,dB,fJ,aP]
def stD(C:List Int)(u:Nat)(ps:List Str):D:= .obj true "Setter" nsS [.tup (aP C),.int u,.int (col (cat ps)),.lst true (gO ps)]
theorem nV:∀C,D.imms (aP C)=true
 |[]=>rfl
 |c::C=>by show(D.imm (.int c)&&D.imms (aP C))=true;rw [nV C];rfl
abbrev iC:tz7:=gE 3 1 (bF [true,false,false]) (jV rW yK)
theorem yu3{C:List Int}{u:Nat}{ps:List Str}{l:Leaf}{b:Bool}{m:Int}{w:Str}(hl:fL l)(h0:0<=m)(h1:m<=200)(hw:wr b m (col (cat ps)) l=some w)(hp:ps.length<=900)(hc:(cat ps).length<=1000000):
  iC [stD C u ps,cJ l,aU b m]=some (.non,[stD C u (ps++[w]),cJ l,aU b m]):=by
 obtain⟨hW,hz⟩:=yf9 hl h0 h1 hw
 have q1:=zc8 l b m (col (cat ps)) hl h0 h1 (Nat.le_trans (yn7 _) hc)
 rw [hw] at q1
 have q2:=yo2 (t:=cat ps) hW (by omega)
 have hi:(gO ps).length<sizeLine:=by rw [yn5];exact sz1 (by omega)
 have es:gO (ps++[w])=gO ps++[.str w]:=by rw [yn4];rfl
 show gE 3 1 _ (jV rW yK) _=_
 unfold stD
 rw [uY,es]
 generalize cJ l=dl at q1|-
 generalize aU b m=dp at q1|-
 generalize rW=G1 at q1|-
 generalize yK=G2 at q2|-
 simp only [wrD] at q1
 simp [gP,gE,aO,aZ,aS,aH,fIf,aL,fB,f2,aA,fC,aY,bQ,bA,bG,aW,cB,cH,aB,aD,aI,dIx,bV,bC,D.imm,D.imms,bE,fQ,fT,cP,bP,dM,cR,eH,bB,hJ,dO,eU,bW,jA,cZ,fK,eL,fX,bF,dLt,dGe,dIs,gF,fMt,fB,dB,fJ,jV,q1,q2,hi]
abbrev jP:tz7:=gE 2 1 (bF [true,false]) kJ
theorem lI{α:Type}{xs:List α}{n:Nat}{v:α}(h:xs[n]? =some v):atI xs (n:Int)=some v:=xN h
theorem zt3{C:List Int}{u n:Nat}{c:Int}{ps:List Str}(hc:C[u]? =some c)(h0:0<=c)(h1:c<n):jP [stD C u ps,.int n]=some (.int c,[stD C (u+1) ps,.int n]):=by
 obtain⟨hu,_⟩:=List.getElem?_eq_some_iff.mp hc
 have hl:(aP C).length=C.length:=List.length_map _
 have e:atI (aP C) (u:Int)=some (.int c):=lI (by unfold aP;rw [List.getElem?_map,hc];rfl)
 have g1:¬((C.length:Int)<=(u:Int)):=by omega
 have g2:¬(c<0):=by omega
 have g3:¬((n:Int)<=c):=by omega
 unfold stD
 simp [gP,gE,aO,aZ,aS,aH,fIf,aL,fB,f2,aA,fC,aY,bQ,bA,bG,aW,cB,cH,aB,aD,aI,dIx,bV,bC,D.imm,D.imms,bE,fQ,fT,cP,bP,dM,cR,eH,bB,hJ,dO,eU,bW,jA,cZ,fK,eL,fX,bF,dLt,dGe,dIs,gF,fMt,fB,dB,fJ,kJ,hl,e,g1,g2,g3]
abbrev mV(GR:tz7):tz7:=gE 3 3 (bF [true,false,false]) (jB vO nE jP GR)
theorem xX{GR:tz7}{p:Pc}{b:Bool}{m:Int}{C:List Int}{u u1 i:Nat}{ps:List Str}{x:List Pc×Bool×Int}{N:D}(hp:mF p=true)(hn:lP p<=1000)(hi:(jD b m p)[i]? =some x)
  (hc:(qC b p=true/\C[u]? =some (i:Int)/\u1=u+1)\/(qC b p=false/\i=0/\u1=u)) (hR:GR [stD C u1 ps,.tup (aK x.1),aU x.2.1 x.2.2]=some (.non,[N,.tup (aK x.1),aU x.2.1 x.2.2])):
  mV GR [stD C u ps,pcD p,aU b m]=some (.non,[N,pcD p,aU b m]):=by
 have q1:=ya3 p b m hp hn
 have q2:=zt1 p b m hp
 have hil:i<((jD b m p).map gS).length:=by rw [List.length_map];exact(List.getElem?_eq_some_iff.mp hi).1
 have e1:atI ((jD b m p).map gS) (i:Int)=some (gS x):=lI (by rw [List.getElem?_map,hi];rfl)
 have hw:=xW x
 have p1:=dL x.1
 have p2:=kB x.2.1 x.2.2
 generalize hW:(jD b m p).map gS=W at q1 hil e1
 have st1:∀v ps',stD C v ps'= .obj true "Setter" nsS [.tup (aP C),.int v,.int (col (cat ps')),.lst true (gO ps')]:=fun _ _=>rfl
 have hm:∀v,fE "Setter" "set_row" GR [.tup (aK x.1),aU x.2.1 x.2.2] (stD C v ps)=(GR [stD C v ps,.tup (aK x.1),aU x.2.1 x.2.2]).bind fun r=>match r.2 with
   |d'::ds=>if ds.length=2 then some (r.1,d') else none
   |[]=>none:=fun v=>by
  rw [st1]
  show(if (("Setter":Str)="Setter"/\bW nsS "set_row"=none) then _ else none)=_
  exact if_pos ⟨rfl,by simp [gP,gE,aO,aZ,aS,aH,fIf,aL,fB,f2,aA,fC,aY,bQ,bA,bG,aW,cB,cH,aB,aD,aI,dIx,bV,bC,D.imm,D.imms,bE,fQ,fT,cP,bP,dM,cR,eH,bB,hJ,dO,eU,bW,jA,cZ,fK,eL,fX,bF,dLt,dGe,dIs,gF,fMt,fB,dB,fJ]⟩
 have hm1:fE "Setter" "set_row" GR [.tup (aK x.1),aU x.2.1 x.2.2] (stD C u1 ps)=some (.non,N):=by rw [hm,hR];rfl
 have body:∀f4:Int,aO (aS 5 (aH (aY (f2 dIx (aA 3) (aA 4))))) (bA (bG 0 aW (bB [.im (f2 dIx (aA 5) (fC (.int 0))),.im (f2 dIx (aA 5) (fC (.int 1)))]) (fE "Setter" "set_row" GR))) [some (stD C u1 ps),some (pcD p),some (aU b m),some (.lst true W),some (.int (i:Int)),none]=some (.nx,[some N,some (pcD p),some (aU b m),some (.lst true W),some (.int (i:Int)),some (gS x)]):=fun _=>by
  have s1:aS 5 (aH (aY (f2 dIx (aA 3) (aA 4)))) [some (stD C u1 ps),some (pcD p),some (aU b m),some (.lst true W),some (.int (i:Int)),none]=some (.nx,[some (stD C u1 ps),some (pcD p),some (aU b m),some (.lst true W),some (.int (i:Int)),some (gS x)]):=by
   refine bZ ?_
   simp [gP,gE,aO,aZ,aS,aH,fIf,aL,fB,f2,aA,fC,aY,bQ,bA,bG,aW,cB,cH,aB,aD,aI,dIx,bV,bC,D.imm,D.imms,bE,fQ,fT,cP,bP,dM,cR,eH,bB,hJ,dO,eU,bW,jA,cZ,fK,eL,fX,bF,dLt,dGe,dIs,gF,fMt,fB,dB,fJ,e1,hw]
  refine(aF s1).trans ?_
  unfold gS at*
  generalize aU x.2.1 x.2.2=PX at*
  generalize stD C u1 ps=ST at*
  simp [gP,gE,aO,aZ,aS,aH,fIf,aL,fB,f2,aA,fC,aY,bQ,bA,bG,aW,cB,cH,aB,aD,aI,dIx,bV,bC,D.imm,D.imms,bE,fQ,fT,cP,bP,dM,cR,eH,bB,hJ,dO,eU,bW,jA,cZ,fK,eL,fX,bF,dLt,dGe,dIs,gF,fMt,fB,dB,fJ,p1,p2,hm1]
 show gE 3 3 _ (jB vO nE jP GR) _=_
 have s1:aS 3 (aH (aI vO (aB (aA 1) (aB (aA 2) aD)))) [some (stD C u ps),some (pcD p),some (aU b m),none,none,none]=some (.nx,[some (stD C u ps),some (pcD p),some (aU b m),some (.lst true W),none,none]):=bZ (bJ (aE rfl (aE rfl rfl)) q1)
 have s2:aS 4 (aH (fC (.int 0))) [some (stD C u ps),some (pcD p),some (aU b m),some (.lst true W),none,none]=some (.nx,[some (stD C u ps),some (pcD p),some (aU b m),some (.lst true W),some (.int 0),none]):=rfl
 have t1:∀B,qC b p=B->aL (fT (aI nE (aB (aA 1) (aB (aA 2) aD)))) [some (stD C u ps),some (pcD p),some (aU b m),some (.lst true W),some (.int 0),none]=some (B,[some (stD C u ps),some (pcD p),some (aU b m),some (.lst true W),some (.int 0),none]):=fun B hB=>by
  have e:aI nE (aB (aA 1) (aB (aA 2) aD)) [some (stD C u ps),some (pcD p),some (aU b m),some (.lst true W),some (.int 0),none]=some (.bl B):=bJ (aE rfl (aE rfl rfl)) (hB▸q2)
  unfold aL fT
  rw [e];rfl
 have s3:fIf (aL (fT (aI nE (aB (aA 1) (aB (aA 2) aD))))) (aS 4 (bG 0 aW (bB [.im (aI bV (aB (aA 3) aD))]) (fE "Setter" "choice_below" jP))) aZ [some (stD C u ps),some (pcD p),some (aU b m),some (.lst true W),some (.int 0),none]=some (.nx,[some (stD C u1 ps),some (pcD p),some (aU b m),some (.lst true W),some (.int (i:Int)),none]):=by
  rcases hc with ⟨hT,hC,rfl⟩|⟨hT,rfl,rfl⟩
  ·refine(zc4 (t1 _ hT)).trans ?_
   have qb:=zt3 (ps:=ps) hC (by omega) (show(i:Int)<(W.length:Nat) by omega)
   have hb:fE "Setter" "choice_below" jP [.int (W.length:Nat)] (stD C u ps)=some (.int (i:Int),stD C (u+1) ps):=by
    have e:fE "Setter" "choice_below" jP [.int (W.length:Nat)] (stD C u ps)=(jP [stD C u ps,.int (W.length:Nat)]).bind fun r=>match r.2 with
      |d'::ds=>if ds.length=1 then some (r.1,d') else none
      |[]=>none:=by
     rw [st1]
     show(if (("Setter":Str)="Setter"/\bW nsS "choice_below"=none) then _ else none)=_
     exact if_pos ⟨rfl,by simp [gP,gE,aO,aZ,aS,aH,fIf,aL,fB,f2,aA,fC,aY,bQ,bA,bG,aW,cB,cH,aB,aD,aI,dIx,bV,bC,D.imm,D.imms,bE,fQ,fT,cP,bP,dM,cR,eH,bB,hJ,dO,eU,bW,jA,cZ,fK,eL,fX,bF,dLt,dGe,dIs,gF,fMt,fB,dB,fJ]⟩
    rw [e,qb];rfl
   generalize jP=G at hb|-
   generalize stD C u ps=S0 at hb|-
   generalize stD C (u+1) ps=S1 at hb|-
   generalize pcD p=d1
   generalize aU b m=d2
   simp [gP,gE,aO,aZ,aS,aH,fIf,aL,fB,f2,aA,fC,aY,bQ,bA,bG,aW,cB,cH,aB,aD,aI,dIx,bV,bC,D.imm,D.imms,bE,fQ,fT,cP,bP,dM,cR,eH,bB,hJ,dO,eU,bW,jA,cZ,fK,eL,fX,bF,dLt,dGe,dIs,gF,fMt,fB,dB,fJ,hb]
  ·exact(jS (t1 _ hT)).trans rfl
 have z:=(aF s1).trans ((aF s2).trans ((aF s3).trans (body 0)))
 unfold gE
 refine(if_pos rfl).trans ?_
 have z':jB vO nE jP GR ([stD C u ps,pcD p,aU b m].map some++List.replicate 3 none)=some (.nx,[some N,some (pcD p),some (aU b m),some (.lst true W),some (.int (i:Int)),some (gS x)]):=z
 rw [z']
 rfl
structure Gm where
 kd:Nat
 n:Int
 full:List (List Pc)
 parts:List Pc
def kdS:Nat->String
 |0=>"top"
 |1=>"group"
 |2=>"hang"
 |_=>"either"
def gmD(f:Gm):D:= .lst true [.str (kdS f.kd),.int f.n,.lst true (cK f.full),.lst true (aK f.parts)]
def cM:List Gm->List D
 |[]=>[]
 |f::fs=>cM fs++[gmD f]
theorem pC:∀fs,(cM fs).length=fs.length
 |[]=>rfl
 |f::fs=>by rw [cM,List.length_append,pC fs];rfl
def sR:List Pc:=[.leaf (.word "or")]
def pR(f:Gm):List (List Pc):=if f.full=[] then [f.parts,sR] else f.full++[f.parts]
def iM(f:Gm):Pc:=match f.kd with
 |1=> .group f.parts
 |2=> .hang f.n f.parts
 |_=> .either (pR f)
def lL(g:Gm)(p:Pc):Gm:={g with parts:=g.parts++[p]}
mutual
def okP:Pc->Prop
 | .leaf l=>fL l
 | .group r=>okR r
 | .hang n r=>(0<=n/\n<=12)/\okR r
 | .either rs=>(2<=rs.length/\rs.length<=4)/\iG rs
def okR:List Pc->Prop
 |[]=>True
 |p::r=>okP p/\okR r
def iG:List (List Pc)->Prop
 |[]=>True
 |r::rs=>okR r/\iG rs
end
theorem zj2:∀a b:List Pc,okR (a++b)↔okR a/\okR b
 |[],b=>by simp [okR]
 |p::a,b=>by rw [List.cons_append,okR,okR,zj2 a b,and_assoc]
theorem zP:∀a b:List (List Pc),iG (a++b)↔iG a/\iG b
 |[],b=>by simp [iG]
 |p::a,b=>by rw [List.cons_append,iG,iG,zP a b,and_assoc]
theorem ya5(p:Pc):okR [p]↔okP p:=by simp [okR]
theorem zt4(r:List Pc):iG [r]↔okR r:=by simp [iG]
theorem rK:∀a b:List (List Pc),eV (a++b)=eV a++eV b
 |[],b=>rfl
 |r::a,b=>by
  show Tk.orr::(bR r++eV (a++b))=(Tk.orr::(bR r++eV a))++eV b
  rw [rK a b];simp
def wF(f:Gm):Nat:=(eV f.full).length+(bR f.parts).length+4
def wG:List Gm->Nat
 |[]=>0
 |f::fs=>wF f+wG fs
def xl9(f:Gm):Prop:=iG f.full/\okR f.parts/\f.full.length<=3/\(f.kd≠3->f.full=[])/\0<=f.n/\f.n<=12
def zw1:List Gm->Prop
 |[]=>False
 |[f]=>f.kd=0
 |f::g::fs=>(1<=f.kd/\f.kd<=3)/\zw1 (g::fs)
def yz5(m:Nat):List Gm->Prop
 |[]=>True
 |f::fs=>cV f.parts+fs.length<=m/\lO f.full+fs.length<=m/\yz5 m fs
structure GInv(nest k:Nat)(fs:List Gm):Prop where
 len:fs.length<=nest+1
 wt:wG fs<=4*k+4
 each:∀f∈fs,xl9 f
 kinds:zw1 fs
 deep:yz5 nest fs
theorem yg1{f:Gm}(h:f.kd≠3->f.full=[])(hk:1<=f.kd/\f.kd<=3):(cX (iM f)).length<=wF f:=by
 have e:f.kd=1\/f.kd=2\/f.kd=3:=by omega
 unfold wF iM
 rcases e with e|e|e
 ·rw [e];show(Tk.opn::(bR f.parts++[.cls])).length<=_;rw [List.length_cons,List.length_append];simp;omega
 ·rw [e];show(Tk.hng f.n::(bR f.parts++[.bck])).length<=_;rw [List.length_cons,List.length_append];simp;omega
 ·rw [e]
  show(Tk.eit::(nO (pR f)++[.don])).length<=_
  rw [List.length_cons,List.length_append]
  unfold pR
  cases hf:f.full with
  |nil=>
   rw [if_pos rfl]
   show(bR f.parts++(Tk.orr::(bR sR++[]))).length+1+1<=_
   simp [sR,bR,cX,eV]
  |cons r rs=>
   rw [if_neg (by simp)]
   show(bR r++eV (rs++[f.parts])).length+1+1<=(Tk.orr::(bR r++eV rs)).length+_+4
   rw [rK]
   simp [eV];omega
theorem yu4{f:Gm}(h:xl9 f)(hk:1<=f.kd/\f.kd<=3):okP (iM f):=by
 obtain⟨h1,h2,h3,h4,h5,h6⟩:=h
 have e:f.kd=1\/f.kd=2\/f.kd=3:=by omega
 unfold iM
 rcases e with e|e|e
 ·rw [e];exact h2
 ·rw [e];exact⟨⟨h5,h6⟩,h2⟩
 ·rw [e]
  show(2<=(pR f).length/\(pR f).length<=4)/\iG (pR f)
  unfold pR
  by_cases c:f.full=[]
  ·rw [if_pos c]
   refine⟨⟨by simp,by simp⟩,h2,?_,trivial⟩
   exact⟨⟨by decide+kernel,by decide+kernel,by decide+kernel⟩,trivial⟩
  ·rw [if_neg c]
   have hp:1<=f.full.length:=by cases hf:f.full with|nil=>exact absurd hf c|cons a l=>simp
   refine⟨⟨by rw [List.length_append];simp;omega,by rw [List.length_append];simp;omega⟩,?_⟩
   rw [zP,zt4];exact⟨h1,h2⟩
theorem yo3{f:Gm}{m k:Nat}(h1:cV f.parts+(k+1)<=m)(h2:lO f.full+(k+1)<=m):fM (iM f)+k<=m:=by
 unfold iM
 split
 ·show cV f.parts+1+k<=m;omega
 ·show cV f.parts+1+k<=m;omega
 ·show lO (pR f)+1+k<=m
  unfold pR
  split
  ·show max (cV f.parts) (max (cV sR) 0)+1+k<=m
   have:cV sR=0:=rfl
   omega
  ·rw [uQ];omega
theorem GInv.leaf{nest k:Nat}{f:Gm}{fs:List Gm}{l:Leaf}(h:GInv nest k (f::fs))(hl:fL l):GInv nest (k+1) (lL f (.leaf l)::fs):=by
 obtain⟨h1,h2,h3,h4,h5⟩:=h
 have hf:=h3 f List.mem_cons_self
 refine⟨h1,?_,?_,?_,?_⟩
 ·have h2':wF f+wG fs<=4*k+4:=h2
  show(eV f.full).length+(bR (f.parts++[.leaf l])).length+4+wG fs<=_
  rw [rH,List.length_append]
  unfold wF at h2'
  show _+(_+1)+4+_<=_
  omega
 ·intro x hx
  rcases List.mem_cons.mp hx with rfl|hx
  ·obtain⟨a1,a2,a3,a4,a5⟩:=hf
   exact⟨a1,(zj2 _ _).mpr ⟨a2,(ya5 _).mpr hl⟩,a3,a4,a5⟩
  ·exact h3 x (List.mem_cons_of_mem _ hx)
 ·cases fs with
  |nil=>exact h4
  |cons g fs=>exact⟨h4.1,h4.2⟩
 ·refine⟨?_,h5.2.1,h5.2.2⟩
  show cV (f.parts++[.leaf l])+fs.length<=nest
  rw [wM]
  have:=h5.1
  show max _ 0+_<=_
  omega
theorem GInv.opener{nest k:Nat}{fs:List Gm}{kd:Nat}{n:Int}(h:GInv nest k fs)(hk:1<=kd/\kd<=3)(hn:0<=n/\n<=12)(hl:fs.length<=nest):GInv nest (k+1) (⟨kd,n,[],[]⟩::fs):=by
 obtain⟨h1,h2,h3,h4,h5⟩:=h
 refine⟨by simp;omega,?_,?_,?_,?_⟩
 ·show 0+0+4+wG fs<=_;omega
 ·intro x hx
  rcases List.mem_cons.mp hx with rfl|hx
  ·exact⟨trivial,trivial,Nat.zero_le _,fun _=>rfl,hn⟩
  ·exact h3 x hx
 ·cases fs with
  |nil=>exact h4.elim
  |cons g fs=>exact⟨hk,h4⟩
 ·exact⟨by show 0+_<=_;omega,by show 0+_<=_;omega,h5⟩
theorem GInv.orr{nest k:Nat}{f:Gm}{fs:List Gm}(h:GInv nest k (f::fs))(hf3:f.full.length<3)(hk:f.kd=3):GInv nest (k+1) ({f with full:=f.full++[f.parts],parts:=[]}::fs):=by
 obtain⟨h1,h2,h3,h4,h5⟩:=h
 have hf:=h3 f List.mem_cons_self
 refine⟨h1,?_,?_,?_,?_⟩
 ·have h2':wF f+wG fs<=4*k+4:=h2
  show(eV (f.full++[f.parts])).length+0+4+wG fs<=_
  rw [rK,List.length_append]
  unfold wF at h2'
  simp [eV];omega
 ·intro x hx
  rcases List.mem_cons.mp hx with rfl|hx
  ·obtain⟨a1,a2,a3,a4,a5⟩:=hf
   exact⟨(zP _ _).mpr ⟨a1,(zt4 _).mpr a2⟩,trivial,by show(f.full++[f.parts]).length<=3;rw [List.length_append];simp;omega,fun z=>absurd hk z,a5⟩
  ·exact h3 x (List.mem_cons_of_mem _ hx)
 ·cases fs with
  |nil=>exact h4
  |cons g fs=>exact⟨h4.1,h4.2⟩
 ·refine⟨?_,?_,h5.2.2⟩
  ·show 0+_<=_
   have:=h5.1;omega
  ·show lO (f.full++[f.parts])+fs.length<=nest
   rw [uQ]
   have a1:=h5.1;have a2:=h5.2.1
   omega
theorem GInv.shut{nest k:Nat}{f g:Gm}{fs:List Gm}(h:GInv nest k (f::g::fs)):GInv nest k (lL g (iM f)::fs):=by
 obtain⟨h1,h2,h3,h4,h5⟩:=h
 have hf:=h3 f List.mem_cons_self
 have hg:=h3 g (List.mem_cons_of_mem _ List.mem_cons_self)
 have hk:=h4.1
 refine⟨by simp at h1|-;omega,?_,?_,?_,?_⟩
 ·have h2':wF f+(wF g+wG fs)<=4*k+4:=h2
  have t:=yg1 hf.2.2.2.1 hk
  show(eV g.full).length+(bR (g.parts++[iM f])).length+4+wG fs<=_
  rw [rH,List.length_append,ym5]
  unfold wF at h2' t
  omega
 ·intro x hx
  rcases List.mem_cons.mp hx with rfl|hx
  ·obtain⟨a1,a2,a3,a4,a5⟩:=hg
   exact⟨a1,(zj2 _ _).mpr ⟨a2,(ya5 _).mpr (yu4 hf hk)⟩,a3,a4,a5⟩
  ·exact h3 x (List.mem_cons_of_mem _ (List.mem_cons_of_mem _ hx))
 ·cases fs with
  |nil=>exact h4.2
  |cons g' fs=>exact⟨h4.2.1,h4.2.2⟩
 ·obtain⟨d1,d2,d3,d4,d5⟩:=h5
  refine⟨?_,d4,d5⟩
  show cV (g.parts++[iM f])+fs.length<=nest
  rw [wM]
  have:=yo3 (f:=f) (m:=nest) (k:=fs.length) d1 d2
  omega
theorem GInv.more{nest k k':Nat}{fs:List Gm}(h:GInv nest k fs)(hk:k<=k'):GInv nest k' fs:=⟨h.len,by have:=h.wt;omega,h.each,h.kinds,h.deep⟩
theorem yo4:∀{fs:List Gm} {f:Gm},f∈fs->wF f<=wG fs
 |[],_,h=>by simp at h
 |g::fs,f,h=>by
  show wF f<=wF g+wG fs
  rcases List.mem_cons.mp h with rfl|h
  ·omega
  ·have:=yo4 h;omega
theorem yg2(p:Pc):1<=(cX p).length:=by cases p<;>simp [cX]
theorem zc9:∀r:List Pc,r.length<=(bR r).length
 |[]=>Nat.le_refl _
 |p::r=>by
  show r.length+1<=(cX p++bR r).length
  rw [List.length_append]
  have:=zc9 r;have:=yg2 p;omega
theorem GInv.parts{nest k:Nat}{fs:List Gm}{f:Gm}(h:GInv nest k fs)(hf:f∈fs):f.parts.length<=4*k+4:=by
 have h1:=yo4 hf;have h2:=h.wt;have h3:=zc9 f.parts
 unfold wF at h1;omega
theorem oK:ixN 4 3=some 3:=by decide
theorem oM:ixN 4 2=some 2:=by decide
theorem jT{α:Type}(a b c d:α):atI [a,b,c,d] 3=some d:=rfl
abbrev zf8:tz7:=gE 1 5 (bF [true]) pZ
theorem xp0{N:List D}{a b c d:D}:vH [1,2,3,4] (bG 0 aW aD rT) [some (.lst true (N++[.lst true [a,b,c,d]])),none,none,none,none,none]=some (.nx,[some (.lst true N),some a,some b,some c,some d,none]):=by
 simp [gP,aO,aZ,aS,aH,fIf,aL,fB,f2,aA,fC,aY,bQ,fJ,bA,bG,aW,cB,cH,aB,aD,cA,cE,fKs,aI,dEq,dNe,eqB,dB,dIx,bV,bC,rT,dR,qH,mT,jI,fSl,D.imm,D.imms,dG,bE,fT,cP,bP,dM,cR,fW,dP,dS,gC,eO,vH,zv5,vG,cF,eH,dE,dLt,dLe,dGt,dGe,gE,fX,bF,fIO,bB,eK,cS,eG,iD,iE,qD,L2.iU,oK,oM,jT]
theorem kd1{p:PSt}{k w:String}{b:Bool}(hp:p[1]? =some (some (.str k)))(h:decide (k=w)=b):fB (f2 dEq (aA 1) (fC (.str w))) p=some b:=by
 refine eS (aT (gU hp) rfl ?_)
 show some (D.bl (decide ((k:Str)=(w:Str))))=_
 rw [<-h]
 congr 2
 exact decide_eq_decide.mpr (by rw [bP])
theorem yu5{f g:Gm}{fs:List Gm}(hk:1<=f.kd/\f.kd<=3)(hf:f.kd≠3->f.full=[])(hfl:f.full.length<=3)(hg:g.parts.length<=900):zf8 [.lst true (cM (f::g::fs))]=some (.non,[.lst true (cM (lL g (iM f)::fs))]):=by
 obtain⟨kd,n,full,parts⟩:=f
 have hfl':full.length<=3:=hfl
 have hz:(aK g.parts).length<sizeLine:=by rw [zN];exact sz1 (by omega)
 have s2:∀K x0,aS 3 (aH (f2 bE (aA 3) (cA (aB (aI dG (aB (aA 4) aD)) aD)))) [x0,some K,some (.int n),some (.lst true (cK full)),some (.lst true (aK parts)),none]=some (.nx,[x0,some K,some (.int n),some (.lst true (cK (full++[parts]))),some (.lst true (aK parts)),none]):=fun K x0=>by
  refine bZ (aT rfl (fN (aE (bJ (aE rfl rfl) (if_pos (dL parts))) rfl) (Nat.le_of_ble_eq_true rfl)) ?_)
  rw [wT]
  refine zs8 (nM full) (nM [parts]) ?_
  rw [kA];show full.length+1<=1000;omega
 have s4:∀K x0 x4 (r0:List Pc) rs,aS 5 (aH (cE (aB (fC (.str "group")) (aB (aY (f2 dIx (aA 3) (fC (.int 0)))) aD)))) [x0,some K,some (.int n),some (.lst true (cK (r0::rs))),x4,none]=some (.nx,[x0,some K,some (.int n),some (.lst true (cK (r0::rs))),x4,some (pcD (.group r0))]):=fun K x0 x4 r0 rs=>
  bZ (eZ (aE rfl (aE (eQ (aT rfl rfl (dM _ _)) (dL r0)) rfl)) (pW (.group r0)) (Nat.le_of_ble_eq_true rfl))
 have s7:∀(pc:Pc) K x3 x4,bA (bG 0 (dP 0 (dP 0 aW (eO (fC (.int 1)))) (fC (.int 3))) (aB (aY (aA 5)) aD) bC) [some (.lst true (cM fs++[gmD g])),K,some (.int n),x3,x4,some (pcD pc)]=some (.nx,[some (.lst true (cM fs++[gmD (lL g pc)])),K,some (.int n),x3,x4,some (pcD pc)]):=fun pc K x3 x4=>by
  have hi:=pW pc
  have e:gmD (lL g pc)= .lst true [.str (kdS g.kd),.int g.n,.lst true (cK g.full),.lst true (aK g.parts++[pcD pc])]:=by unfold gmD lL;rw [uU];rfl
  rw [e]
  unfold gmD
  generalize pcD pc=d at hi|-
  simp [gP,aO,aZ,aS,aH,fIf,aL,fB,f2,aA,fC,aY,bQ,fJ,bA,bG,aW,cB,cH,aB,aD,cA,cE,fKs,aI,dEq,dNe,eqB,dB,dIx,bV,bC,rT,dR,qH,mT,jI,fSl,D.imm,D.imms,dG,bE,fT,cP,bP,dM,cR,fW,dP,dS,gC,eO,vH,zv5,vG,cF,eH,dE,dLt,dLe,dGt,dGe,gE,fX,bF,fIO,bB,eK,cS,eG,iD,iE,qD,L2.iU,oK,oM,jT,hi,hz]
 suffices h:∃q1 q2 q3 q4 q5,pZ [some (.lst true (cM (⟨kd,n,full,parts⟩::g::fs))),none,none,none,none,none]=some (.nx,[some (.lst true (cM fs++[gmD (lL g (iM ⟨kd,n,full,parts⟩))])),q1,q2,q3,q4,q5]) from by
  obtain⟨q1,q2,q3,q4,q5,hq⟩:=h
  unfold zf8 gE
  refine(if_pos rfl).trans ?_
  show(pZ [some (.lst true (cM (⟨kd,n,full,parts⟩::g::fs))),none,none,none,none,none]).bind _=_
  rw [hq];rfl
 have s1:vH [1,2,3,4] (bG 0 aW aD rT) [some (.lst true (cM (⟨kd,n,full,parts⟩::g::fs))),none,none,none,none,none]=_:=xp0
 have e:kd=1\/kd=2\/kd=3:=by have:1<=kd/\kd<=3:=hk;omega
 unfold pZ
 rw [aF s1,aF (s2 _ _)]
 rcases e with rfl|rfl|rfl
 ·have e1:full=[]:=hf (by simp [gP,aO,aZ,aS,aH,fIf,aL,fB,f2,aA,fC,aY,bQ,fJ,bA,bG,aW,cB,cH,aB,aD,cA,cE,fKs,aI,dEq,dNe,eqB,dB,dIx,bV,bC,rT,dR,qH,mT,jI,fSl,D.imm,D.imms,dG,bE,fT,cP,bP,dM,cR,fW,dP,dS,gC,eO,vH,zv5,vG,cF,eH,dE,dLt,dLe,dGt,dGe,gE,fX,bF,fIO,bB,eK,cS,eG,iD,iE,qD,L2.iU,oK,oM,jT])
  subst e1
  exact⟨_,_,_,_,_,(aF (bO (jM (kd1 (k:="group") rfl (by decide))))).trans ((aF (s4 _ _ _ parts [])).trans ((aF (bO (kd1 (k:="group") rfl (by decide)))).trans ((aF (bO (kd1 (k:="group") rfl (by decide)))).trans (s7 _ _ _ _))))⟩
 ·have e1:full=[]:=hf (by simp [gP,aO,aZ,aS,aH,fIf,aL,fB,f2,aA,fC,aY,bQ,fJ,bA,bG,aW,cB,cH,aB,aD,cA,cE,fKs,aI,dEq,dNe,eqB,dB,dIx,bV,bC,rT,dR,qH,mT,jI,fSl,D.imm,D.imms,dG,bE,fT,cP,bP,dM,cR,fW,dP,dS,gC,eO,vH,zv5,vG,cF,eH,dE,dLt,dLe,dGt,dGe,gE,fX,bF,fIO,bB,eK,cS,eG,iD,iE,qD,L2.iU,oK,oM,jT])
  subst e1
  exact⟨_,_,_,_,_,(aF (bO (jM (kd1 (k:="hang") rfl (by decide))))).trans ((aF (s4 _ _ _ parts [])).trans ((aF ((cT (kd1 (k:="hang") rfl (by decide))).trans (bZ (eZ (aE rfl (aE (eQ rfl rfl) (aE (eQ (d:= .tup (aK parts)) (aT rfl rfl (dM _ _)) (dL parts)) rfl))) (pW (.hang n parts)) (Nat.le_of_ble_eq_true rfl))))).trans ((aF (bO (kd1 (k:="hang") rfl (by decide)))).trans (s7 (.hang n parts) _ _ _))))⟩
 ·have fin:∀(r0:List Pc) (rs:List (List Pc)),pR ⟨3,n,full,parts⟩=r0::rs->∃q1 q2 q3 q4 q5,aO (aS 5 (aH (cE (aB (fC (.str "group")) (aB (aY (f2 dIx (aA 3) (fC (.int 0)))) aD))))) (aO (fIf (aL (fB (f2 dEq (aA 1) (fC (.str "hang"))))) (aS 5 (aH (cE (aB (fC (.str "hang")) (aB (aY (aA 2)) (aB (aY (f2 dIx (aA 3) (fC (.int 0)))) aD)))))) aZ)
    (aO (fIf (aL (fB (f2 dEq (aA 1) (fC (.str "either"))))) (aS 5 (aH (cE (aB (fC (.str "either")) (aB (aI dG (aB (aA 3) aD)) aD))))) aZ) (bA (bG 0 (dP 0 (dP 0 aW (eO (fC (.int 1)))) (fC (.int 3))) (aB (aY (aA 5)) aD) bC)))) [some (.lst true (cM fs++[gmD g])),some (.str "either"),some (.int n),some (.lst true (cK (r0::rs))),some (.lst true (aK parts)),none]=some (.nx,[some (.lst true (cM fs++[gmD (lL g (iM ⟨3,n,full,parts⟩))])),q1,q2,q3,q4,q5]):=fun r0 rs he=>by
   have hs:iM ⟨3,n,full,parts⟩= .either (r0::rs):=by rw [<-he];rfl
   rw [hs]
   exact⟨_,_,_,_,_,(aF (s4 _ _ _ r0 rs)).trans ((aF (bO (kd1 rfl (by decide)))).trans ((aF ((cT (kd1 rfl (by decide))).trans (bZ (eZ (aE rfl (aE (bJ (aE rfl rfl) (if_pos (nM (r0::rs)))) rfl)) (pW (.either (r0::rs))) (Nat.le_of_ble_eq_true rfl))))).trans (s7 (.either (r0::rs)) _ _ _)))⟩
  have lt:∀x0 x4,fB (f2 dLt (aI bV (aB (aA 3) aD)) (fC (.int 2))) [x0,some (.str "either"),some (.int n),some (.lst true (cK (full++[parts]))),x4,none]=some (decide ((((full++[parts]).length:Nat):Int)<2)):=fun x0 x4=>by
   refine eS (aT (bJ (aE rfl rfl) rfl) rfl ?_)
   show some (D.bl (decide ((((cK (full++[parts])).length:Nat):Int)<2)))=_
   rw [kA]
  cases full with
  | nil=>
   have s3:∀x0 x4,fIf (aL (cF (fB (f2 dEq (aA 1) (fC (.str "either")))) (fB (f2 dLt (aI bV (aB (aA 3) aD)) (fC (.int 2)))))) (aS 3 (aH (f2 bE (aA 3) (cA (aB (cE (aB (cE (aB (fC (.str "word")) (aB (fC (.str "or")) aD))) aD)) aD))))) aZ [x0,some (.str "either"),some (.int n),some (.lst true (cK ([]++[parts]))),x4,none]=some (.nx,[x0,some (.str "either"),some (.int n),some (.lst true (cK [parts,sR])),x4,none]):=fun x0 x4=>
    (cT (iB (kd1 rfl (by decide)) (lt _ _))).trans (bZ (aT rfl (fN (aE (eZ (aE (eZ (aE rfl (aE rfl rfl)) rfl (Nat.le_of_ble_eq_true rfl)) rfl) rfl (Nat.le_of_ble_eq_true rfl)) rfl) (Nat.le_of_ble_eq_true rfl)) (zs8 (nM [parts]) (nM [sR]) (Nat.le_of_ble_eq_true rfl))))
   show ∃q1 q2 q3 q4 q5,aO _ _ [some (.lst true (cM fs++[gmD g])),some (.str "either"),some (.int n),some (.lst true (cK ([]++[parts]))),some (.lst true (aK parts)),none]=_
   rw [aF (s3 _ _)]
   exact fin parts [sR] rfl
  |cons r rs=>
   have lt':=lt (some (.lst true (cM fs++[gmD g]))) (some (.lst true (aK parts)))
   rw [decide_eq_false (by simp;omega)] at lt'
   show ∃q1 q2 q3 q4 q5,aO _ _ [some (.lst true (cM fs++[gmD g])),some (.str "either"),some (.int n),some (.lst true (cK (r::rs++[parts]))),some (.lst true (aK parts)),none]=_
   rw [aF (bO (iB (kd1 rfl (by decide)) lt'))]
   exact fin r (rs++[parts]) rfl
def nG(GH GPl:tz7):tz1:=
   (fIf (aL (fT (aI nD (aB (aA 3) aD))))
   (bA (bG 0 aW (bB [.im (aA 3),.im (aA 2)]) (fE "Setter" "set_holder" GH)))
   (bA (bG 0 aW (bB [.im (aA 3),.im (aA 2)]) (fE "Setter" "set_plain" GPl))))
theorem xY{g:tz7}{m:Str}{C:List Int}{u:Nat}{ps:List Str}{d1 d2 N v:D}(hm:bW nsS m=none)(h:g [stD C u ps,d1,d2]=some (v,[N,d1,d2])):fE "Setter" m g [d1,d2] (stD C u ps)=some (v,N):=by
 show(if (("Setter":Str)="Setter"/\bW nsS m=none) then(g [stD C u ps,d1,d2]).bind _ else none)=_
 rw [if_pos ⟨rfl,hm⟩,h];rfl
theorem xZ{GH:tz7}{C:List Int}{u:Nat}{ps:List Str}{p:Pc}{b:Bool}{m:Int}{R:Option D}{N:D}(hp:mF p=true)(h:GH [stD C u ps,pcD p,aU b m]=some (.non,[N,pcD p,aU b m])):
  nG GH iC [some (stD C u ps),R,some (aU b m),some (pcD p)]=some (.nx,[some N,R,some (aU b m),some (pcD p)]):=by
 have q:=uX p
 rw [hp] at q
 have hm:=xY (m:="set_holder") (by simp [bA,bG,aW,cB,cH,bB,aY,aA,aH,fT,cP,aL,D.imm,D.imms,aB,aD,aI,bW,bP]) h
 have i1:=pW p
 have i2:=kB b m
 unfold nG
 generalize nD=G1 at q|-
 generalize iC=G2
 generalize stD C u ps=S at hm|-
 generalize pcD p=d1 at*
 generalize aU b m=d2 at*
 refine(zc4 (p':=[some S,R,some d2,some d1]) (by simp [bA,bG,aW,cB,cH,bB,aY,aA,aH,fT,cP,aL,D.imm,D.imms,aB,aD,aI,q])).trans ?_
 simp [bA,bG,aW,cB,cH,bB,aY,aA,aH,fT,cP,aL,D.imm,D.imms,aB,aD,aI,i1,i2,hm]
theorem yu6{GH:tz7}{C:List Int}{u:Nat}{ps:List Str}{l:Leaf}{b:Bool}{m:Int}{R:Option D}{N:D}(h:iC [stD C u ps,cJ l,aU b m]=some (.non,[N,cJ l,aU b m])):
  nG GH iC [some (stD C u ps),R,some (aU b m),some (cJ l)]=some (.nx,[some N,R,some (aU b m),some (cJ l)]):=by
 have q:nD [cJ l]=some (.bl false):=uX (.leaf l)
 have hm:=xY (m:="set_plain") (by simp [bA,bG,aW,cB,cH,bB,aY,aA,aH,fT,cP,aL,D.imm,D.imms,aB,aD,aI,bW,bP]) h
 have i1:=zM l
 have i2:=kB b m
 unfold nG
 generalize nD=G1 at q|-
 generalize iC=G2 at hm|-
 generalize stD C u ps=S at hm|-
 generalize cJ l=d1 at*
 generalize aU b m=d2 at*
 refine(jS (p':=[some S,R,some d2,some d1]) (by simp [bA,bG,aW,cB,cH,bB,aY,aA,aH,fT,cP,aL,D.imm,D.imms,aB,aD,aI,q])).trans ?_
 simp [bA,bG,aW,cB,cH,bB,aY,aA,aH,fT,cP,aL,D.imm,D.imms,aB,aD,aI,i1,i2,hm]
def lQ:Nat->tz7
 |0=>fun _=>none
 |n+1=>gE 3 1 (bF [true,false,false]) (kN nD (mV (lQ n)) iC)
def qI(a l w:Nat):Prop:=a+w<=900/\l+201*w<=1000000
def lR(a a' l l' w:Nat):Prop:=a'<=a+w/\l'<=l+201*w
theorem mQ{a l w w':Nat}(h:qI a l w)(hw:w'<=w):qI a l w':=by unfold qI at*;omega
theorem uZ{a a' l l' w w':Nat}(h:lR a a' l l' w)(hw:w<=w'):lR a a' l l' w':=by unfold lR at*;omega
theorem zm2{a a' l l' v w:Nat}(h:qI a l (v+w))(g:lR a a' l l' v):qI a' l' w:=by unfold qI lR at*;omega
theorem zx9{a a1 a2 l l1 l2 v w:Nat}(g:lR a a1 l l1 v)(h:lR a1 a2 l1 l2 w):lR a a2 l l2 (v+w):=by unfold lR at*;omega
theorem zd0{m:Int}{x:Nat}(h:m+12*((x+1:Nat):Int)<=200):m+12*(x:Int)<=200:=by omega
theorem pD{m:Int}{x y:Nat}(h:m+12*(y:Int)<=200)(hx:x<=y):m+12*(x:Int)<=200:=by omega
theorem yo5{m k:Int}{x:Nat}(h:m+12*((x+1:Nat):Int)<=200)(hk:k<=12):m+k+12*(x:Int)<=200:=by omega
theorem yu7{ps:List Str}{w:Str}(hw:w.length<=201):lR ps.length (ps++[w]).length (cat ps).length (cat (ps++[w])).length 1:=by
 rw [uY,eD,List.length_append]
 unfold lR
 show _+1<=_/\_
 omega
def zo9(GR:tz7)(r:List Pc):Prop:=∀(b:Bool) (m:Int) (C:List Int) (u:Nat) (ps:List Str) (cs':List Int) (t':Str),0<=m->m+12*cV r<=200->bY b m r (C.drop u) (cat ps)=some (cs',t')->u<=C.length->
 qI ps.length (cat ps).length (bR r).length->
 ∃u' ps',GR [stD C u ps,.tup (aK r),aU b m]=some (.non,[stD C u' ps',.tup (aK r),aU b m])/\C.drop u'=cs'/\cat ps'=t'/\u'<=C.length/\lR ps.length ps'.length (cat ps).length (cat ps').length (bR r).length
theorem sI{C:List Int}{u:Nat}{c:Int}{cs:List Int}(h:C.drop u=c::cs):C[u]? =some c/\C.drop (u+1)=cs/\u+1<=C.length:=by
 have hu:u<C.length:=by
  rcases Nat.lt_or_ge u C.length with h1|h1
  ·exact h1
  ·rw [List.drop_eq_nil_of_le h1] at h;cases h
 rw [List.drop_eq_getElem_cons hu] at h
 cases h
 exact⟨List.getElem?_eq_getElem hu,rfl,hu⟩
theorem nW:∀{rs:List (List Pc)} {i:Nat} {r:List Pc},rs[i]? =some r->cV r<=lO rs
 |[],i,_,h=>by simp [bA,bG,aW,cB,cH,bB,aY,aA,aH,fT,cP,aL,D.imm,D.imms,aB,aD,aI] at h
 |q::rs,0,_,h=>by simp [bA,bG,aW,cB,cH,bB,aY,aA,aH,fT,cP,aL,D.imm,D.imms,aB,aD,aI] at h;subst h;rw [lO];omega
 |q::rs,i+1,_,h=>by have:=nW (rs:=rs) (i:=i) (by simpa using h);rw [lO];omega
theorem rL:∀{rs:List (List Pc)} {i:Nat} {r:List Pc},iG rs->rs[i]? =some r->okR r
 |[],i,_,_,h=>by simp [bA,bG,aW,cB,cH,bB,aY,aA,aH,fT,cP,aL,D.imm,D.imms,aB,aD,aI] at h
 |q::rs,0,_,o,h=>by simp [bA,bG,aW,cB,cH,bB,aY,aA,aH,fT,cP,aL,D.imm,D.imms,aB,aD,aI] at h;subst h;rw [iG] at o;exact o.1
 |q::rs,i+1,_,o,h=>by rw [iG] at o;exact rL (rs:=rs) (i:=i) o.2 (by simpa using h)
def zW(GR:tz7)(p:Pc)(b:Bool)(m:Int)(C:List Int)(u:Nat)(ps:List Str)(cs':List Int)(t':Str)(R:Option D):Prop:=∃u' ps',nG (mV GR) iC [some (stD C u ps),R,some (aU b m),some (pcD p)]=some (.nx,[some (stD C u' ps'),R,some (aU b m),some (pcD p)])/\C.drop u'=cs'/\cat ps'=t'/\u'<=C.length/\lR ps.length ps'.length (cat ps).length (cat ps').length (cX p).length
theorem zm3{GR:tz7}{p:Pc}{k:Nat}(hG:∀r,cV r<k->okR r->zo9 GR r)(hd:fM p<=k)(ho:okP p){b:Bool}{m:Int}{C:List Int}{u:Nat}{ps:List Str}{cs':List Int}{t':Str}{R:Option D}(h0:0<=m)(h1:m+12*fM p<=200)
  (h:cQ b m p (C.drop u) (cat ps)=some (cs',t')) (hu:u<=C.length) (hp:qI ps.length (cat ps).length (cX p).length):zW GR p b m C u ps cs' t' R:=by
 cases p with
 | leaf l=>
  rw [cQ] at h
  cases e:wr b m (col (cat ps)) l with
  |none=>rw [e] at h;cases h
  |some w=>
   rw [e] at h
   cases h
   have hl:fL l:=ho
   have h1':m<=200:=by rw [fM] at h1;omega
   obtain⟨_,hz⟩:=yf9 hl h0 h1' e
   rw [show(cX (.leaf l)).length=1 from rfl] at hp
   have q:=yu3 (C:=C) (u:=u) hl h0 h1' e (by have:=hp.1;omega) (by have:=hp.2;omega)
   delta zW
   exact⟨u,ps++[w],yu6 q,rfl,uY ps w,hu,(show(cX (.leaf l)).length=1 from rfl)▸yu7 hz⟩
 | group r=>
  have ho':okR r:=ho
  rw [fM] at hd h1
  have hd':cV r<k:=hd
  have h1':m+12*cV r<=200:=zd0 h1
  have ht:(cX (.group r)).length=(bR r).length+2:=by simp [bA,bG,aW,cB,cH,bB,aY,aA,aH,fT,cP,aL,D.imm,D.imms,aB,aD,aI,cX]
  rw [ht] at hp
  have hp':=mQ hp (Nat.le_add_right _ 2)
  rw [cQ.eq_def] at h
  simp only at h
  cases b with
  |false=>
   simp only [Bool.false_eq_true,if_false] at h
   obtain⟨u',ps',q,e1,e2,e3,e4⟩:=hG r hd' ho' false m C u ps cs' t' h0 h1' h hu hp'
   delta zW
   exact⟨u',ps',xZ rfl (xX (i:=0) (x:=(r,false,m)) rfl (by simp [bA,bG,aW,cB,cH,bB,aY,aA,aH,fT,cP,aL,D.imm,D.imms,aB,aD,aI,lP]) rfl (.inr ⟨rfl,rfl,rfl⟩) q),e1,e2,e3,ht▸uZ e4 (Nat.le_add_right _ 2)⟩
  | true=>
   cases hC:C.drop u with
   |nil=>rw [hC] at h;simp [bA,bG,aW,cB,cH,bB,aY,aA,aH,fT,cP,aL,D.imm,D.imms,aB,aD,aI] at h
   | cons c cs=>
    obtain⟨g1,g2,g3⟩:=sI hC
    rw [hC] at h
    simp only [if_true] at h
    have go:∀(i:Nat) (bb:Bool),(i:Int)=c->(jD true m (.group r))[i]? =some (r,bb,m)->bY bb m r cs (cat ps)=some (cs',t')->zW GR (.group r) true m C u ps cs' t' R:=fun i bb hi hw hs=>by
     rw [<-g2] at hs
     obtain⟨u',ps',q,e1,e2,e3,e4⟩:=hG r hd' ho' bb m C (u+1) ps cs' t' h0 h1' hs g3 hp'
     delta zW
     exact⟨u',ps',xZ rfl (xX (i:=i) (x:=(r,bb,m)) rfl (by simp [bA,bG,aW,cB,cH,bB,aY,aA,aH,fT,cP,aL,D.imm,D.imms,aB,aD,aI,lP]) hw (.inl ⟨rfl,by rw [hi];exact g1,rfl⟩) q),e1,e2,e3,ht▸uZ e4 (Nat.le_add_right _ 2)⟩
    by_cases c0:c=0
    ·subst c0
     rw [if_pos rfl] at h
     exact go 0 false rfl rfl h
    ·rw [if_neg c0] at h
     by_cases c1:c=1
     ·subst c1
      rw [if_pos rfl] at h
      exact go 1 true rfl rfl h
     ·rw [if_neg c1] at h;cases h
 |hang n r=>
  have ho':(0<=n/\n<=12)/\okR r:=ho
  rw [fM] at hd h1
  have ht:(cX (.hang n r)).length=(bR r).length+2:=by simp [bA,bG,aW,cB,cH,bB,aY,aA,aH,fT,cP,aL,D.imm,D.imms,aB,aD,aI,cX]
  rw [ht] at hp
  rw [cQ] at h
  obtain⟨u',ps',q,e1,e2,e3,e4⟩:=hG r hd ho'.2 b (m+n) C u ps cs' t' (Int.add_nonneg h0 ho'.1.1) (yo5 h1 ho'.1.2) h hu (mQ hp (Nat.le_add_right _ 2))
  delta zW
  exact⟨u',ps',xZ rfl (xX (i:=0) (x:=(r,b,m+n)) rfl (by simp [bA,bG,aW,cB,cH,bB,aY,aA,aH,fT,cP,aL,D.imm,D.imms,aB,aD,aI,lP]) rfl (.inr ⟨rfl,rfl,rfl⟩) q),e1,e2,e3,ht▸uZ e4 (Nat.le_add_right _ 2)⟩
 | either rs=>
  have ho':(2<=rs.length/\rs.length<=4)/\iG rs:=ho
  rw [cQ.eq_def] at h
  simp only at h
  cases hC:C.drop u with
  |nil=>rw [hC] at h;cases h
  | cons c cs=>
   obtain⟨g1,g2,g3⟩:=sI hC
   rw [hC] at h
   simp only at h
   by_cases c0:0<=c
   ·rw [if_pos c0] at h
    cases hr:rs[c.toNat]? with
    |none=>rw [uW hr] at h;cases h
    |some r=>
     rw [sH hr,<-g2] at h
     have hdr:=nW hr
     have hor:=rL ho'.2 hr
     have htr:=pP (List.mem_of_getElem? hr)
     have ht:(cX (.either rs)).length=(nO rs).length+2:=by simp [bA,bG,aW,cB,cH,bB,aY,aA,aH,fT,cP,aL,D.imm,D.imms,aB,aD,aI,cX]
     rw [fM] at hd h1
     rw [ht] at hp
     obtain⟨u',ps',q,e1,e2,e3,e4⟩:=hG r (Nat.lt_of_le_of_lt hdr hd) hor b m C (u+1) ps cs' t' h0 (pD (zd0 h1) hdr) h g3 (mQ hp (Nat.le_trans htr (Nat.le_add_right _ 2)))
     delta zW
     refine⟨u',ps',xZ rfl (xX (i:=c.toNat) (x:=(r,b,m)) rfl (Nat.le_trans ho'.1.2 (by decide)) (by show(rs.map _)[c.toNat]? =_;rw [List.getElem?_map,hr];rfl) (.inl ⟨rfl,by rw [Int.toNat_of_nonneg c0];exact g1,rfl⟩) q),e1,e2,e3,ht▸uZ e4 (Nat.le_trans htr (Nat.le_add_right _ 2))⟩
   ·rw [if_neg c0] at h;cases h
theorem zt5{GR:tz7}{k:Nat}(hG:∀r,cV r<k->okR r->zo9 GR r){b:Bool}{m:Int}{C:List Int}{R:Option D}(h0:0<=m):∀(r:List Pc) (u:Nat) (ps:List Str) (cs':List Int) (t':Str) (x:Option D),cV r<=k->okR r->m+12*cV r<=200->
  bY b m r (C.drop u) (cat ps)=some (cs',t')->u<=C.length->qI ps.length (cat ps).length (bR r).length->
  ∃u' ps' y,eW 3 (nG (mV GR) iC) (aK r) [some (stD C u ps),R,some (aU b m),x]=some (.nx,[some (stD C u' ps'),R,some (aU b m),y])/\C.drop u'=cs'/\cat ps'=t'/\u'<=C.length/\lR ps.length ps'.length (cat ps).length (cat ps').length (bR r).length
 |[],u,ps,cs',t',x,_,_,_,h,hu,_=>by
  rw [bY] at h;cases h
  exact⟨u,ps,x,rfl,rfl,rfl,hu,⟨Nat.le_refl _,Nat.le_refl _⟩⟩
 | p::r,u,ps,cs',t',x,hd,ho,h1,h,hu,hp=>by
  rw [okR] at ho
  rw [cV] at hd h1
  have ht:(bR (p::r)).length=(cX p).length+(bR r).length:=by rw [bR,List.length_append]
  rw [ht] at hp|-
  rw [bY] at h
  cases e:cQ b m p (C.drop u) (cat ps) with
  |none=>rw [e] at h;cases h
  |some s=>
   obtain⟨c1,t1⟩:=s
   rw [e] at h
   obtain⟨u1,ps1,q1,a1,a2,a3,a4⟩:=zm3 (R:=R) hG (Nat.le_trans (Nat.le_max_left _ _) hd) ho.1 h0 (pD h1 (Nat.le_max_left _ _)) e hu (mQ hp (Nat.le_add_right _ _))
   have h':bY b m r (C.drop u1) (cat ps1)=some (cs',t'):=by rw [a1,a2];exact h
   obtain⟨u2,ps2,y,q2,b1,b2,b3,b4⟩:=zt5 hG h0 r u1 ps1 cs' t' (some (pcD p)) (Nat.le_trans (Nat.le_max_right _ _) hd) ho.2 (pD h1 (Nat.le_max_right _ _)) h' a3 (zm2 hp a4)
   refine⟨u2,ps2,y,?_,b1,b2,b3,zx9 a4 b4⟩
   show eW 3 _ (pcD p::aK r) _=_
   rw [eW]
   show((nG (mV GR) iC [some (stD C u ps),R,some (aU b m),some (pcD p)]).bind _)=_
   rw [q1];exact q2
theorem yA:∀(n:Nat) (r:List Pc),cV r<n->okR r->zo9 (lQ n) r
 |0,_,h,_=>absurd h (Nat.not_lt_zero _)
 |n+1,r,hd,ho=>fun b m C u ps cs' t' h0 h1 h hu hp=>by
  obtain⟨u',ps',y,q,e1,e2,e3,e4⟩:=zt5 (GR:=lQ n) (k:=n) (R:=some (.tup (aK r))) (fun s hs hk=>yA n s hs hk) h0 r u ps cs' t' none (Nat.le_of_lt_succ hd) ho h1 h hu hp
  refine⟨u',ps',?_,e1,e2,e3,e4⟩
  show gE 3 1 _ (kN nD (mV (lQ n)) iC) _=_
  unfold gE
  refine(if_pos rfl).trans ?_
  have z:kN nD (mV (lQ n)) iC ([stD C u ps,.tup (aK r),aU b m].map some++List.replicate 1 none)=some (.nx,[some (stD C u' ps'),some (.tup (aK r)),some (aU b m),y]):=q
  rw [z];rfl
abbrev zf9:tz6:=gP 1 0 lD
theorem zt6:∀ps:List Str,(Str.join "" ps)=cat ps
 |[]=>by decide+kernel
 |[x]=>by show x=x++(⟨#[]⟩:Str);rw [zj1]
 |x::y::r=>by
  have ih:=zt6 (y::r)
  show(x++("":Str))++Str.join "" (y::r)=x++cat (y::r)
  rw [ih,show("":Str)=⟨#[]⟩ from by decide+kernel,zj1]
theorem ya6:∀ps:List Str,(ps.map (·.length)).sum=(cat ps).length
 |[]=>rfl
 |x::ps=>by rw [List.map_cons,List.sum_cons,ya6 ps];show _=(x++cat ps).length;rw [eD]
theorem tK:∀ps:List Str,D.strs (gO ps)=some ps
 |[]=>rfl
 |x::ps=>by show D.strs (.str x::gO ps)=_;rw [D.strs,tK ps];rfl
theorem yu8{C:List Int}{u:Nat}{ps:List Str}(hu:C.length<=u)(hp:ps.length<=1000)(hc:(cat ps).length<=1000000):zf9 [stD C u ps]=some (.str (cat ps)):=by
 have hl:(aP C).length=C.length:=List.length_map _
 have g:¬((u:Int)<(C.length:Int)):=by omega
 have e:yD (.str "") [.lst true (gO ps)]=some (.str (cat ps)):=by
  rw [yD,tK,Option.bind_some,if_pos]
  ·rw [show Txt.join ("":Str) ps=Str.join "" ps from StrLaws.glued_eq_join _ _,zt6]
  ·rw [ya6]
   exact⟨by decide+kernel,by omega⟩
 unfold stD
 simp [bA,bG,aW,cB,cH,bB,aY,aA,aH,fT,cP,aL,D.imm,D.imms,aB,aD,aI,gP,lD,aO,fIf,fB,f2,cZ,jA,bW,bP,dLt,bV,hl,g,dB,aZ,bQ,fMt,fC,e,sL]
abbrev rX:tz7:=gE 2 0 (bF [true,false]) pK
theorem yo6(C:List Int):rX [.obj true "Setter" [] [],.tup (aP C)]=some (.non,[stD C 0 [],.tup (aP C)]):=by
 have hi:=nV C
 have e:stD C 0 []= .obj true "Setter" nsS [.tup (aP C),.int 0,.int 0,.lst true []]:=rfl
 rw [e]
 simp [bA,bG,aW,cB,cH,bB,aY,aA,aH,fT,cP,aL,D.imm,D.imms,aB,aD,aI,gE,pK,aO,dO,eU,bW,bP,hi,fC,cA,fX,bF]
abbrev xF(n:Nat):tz6:=gP 2 1 (tD rX (lQ n) qB zf9)
theorem wV{n:Nat}{r:List Pc}{C:List Int}{t:Str}(hd:cV r<n)(h8:cV r<=16)(ho:okR r)(hl:(bR r).length<=800)(h:bY true 0 r C ⟨#[]⟩=some ([],t)):xF n [.tup (aK r),.tup (aP C)]=some (.str t):=by
 obtain⟨u',ps',q,e1,e2,e3,e4,e5⟩:=yA n r hd ho true 0 C 0 [] [] t (Int.le_refl _) (by omega) h (Nat.zero_le _) ⟨by show 0+_<=_;omega,by show 0+_<=_;omega⟩
 have e5':(cat ps').length<=0+201*(bR r).length:=e5
 have e4':ps'.length<=0+(bR r).length:=e4
 have hu:C.length<=u':=by
  have:=congrArg List.length e1
  rw [List.length_drop] at this
  simp [bA,bG,aW,cB,cH,bB,aY,aA,aH,fT,cP,aL,D.imm,D.imms,aB,aD,aI] at this;omega
 have w:=yu8 (C:=C) (ps:=ps') hu (by omega) (by omega)
 rw [e2] at w
 have i:=yo6 C
 have f:=zt2
 have hm:=xY (m:="set_row") (by simp [bA,bG,aW,cB,cH,bB,aY,aA,aH,fT,cP,aL,D.imm,D.imms,aB,aD,aI,bW,bP]) q
 have p1:=dL r
 have p2:=nV C
 have p3:=kB true 0
 have w':fK "Setter" "whole_text" (aA 2) [some (.tup (aK r)),some (.tup (aP C)),some (stD C u' ps')]=some (stD C u' ps'):=by
  unfold stD
  simp [bA,bG,aW,cB,cH,bB,aY,aA,aH,fT,cP,aL,D.imm,D.imms,aB,aD,aI,fK,bW,bP]
 show gP 2 1 (tD rX (lQ n) qB zf9) _=_
 generalize rX=G1 at i|-
 generalize lQ n=G2 at hm|-
 generalize qB=G3 at f|-
 generalize zf9=G4 at w|-
 generalize stD C u' ps'=S1 at*
 generalize stD C 0 []=S0 at*
 generalize aU true 0=pl at*
 have s1:aS 2 (aH (eL "Setter" (bB [.im (aA 1)]) G1)) [some (.tup (aK r)),some (.tup (aP C)),none]=some (.nx,[some (.tup (aK r)),some (.tup (aP C)),some S0]):=by
  refine bZ ?_
  simp [bA,bG,aW,cB,cH,bB,aY,aA,aH,fT,cP,aL,D.imm,D.imms,aB,aD,aI,eL,p2,i]
 have s2:bA (bG 2 aW (bB [.im (aA 0),.im (aI G3 aD)]) (fE "Setter" "set_row" G2)) [some (.tup (aK r)),some (.tup (aP C)),some S0]=some (.nx,[some (.tup (aK r)),some (.tup (aP C)),some S1]):=by
  simp [bA,bG,aW,cB,cH,bB,aY,aA,aH,fT,cP,aL,D.imm,D.imms,aB,aD,aI,p1,p3,f,hm]
 exact iA rfl ((aF s1).trans ((aF s2).trans (eI (bJ (aE w' rfl) w))))
def sD(t:Str)(cs:List Int)(n:Nat):D:= .lst true [.str t,.lst true (aP cs),.int n]
theorem xm8:ixN 3 0=some 0:=by decide
abbrev kE:tz7:=gE 2 0 (bF [true,false]) xD
theorem xc5{t:Str}{cs:List Int}{n:Nat}{m:Int}(h0:0<=m)(h1:m<=100)(ht:t.length<=1000000):kE [sD t cs n,.int m]=some (.non,[sD (t++nlw m) cs n,.int m]):=by
 have q:=zo3 m (by omega) (by omega)
 have hs:sizeLine=16777216:=sizeLine_eq
 have e1:bE (.str t) (.str "\n")=some (.str (t++(⟨#[10]⟩:Str))):=by
  rw [zc5,bE,if_pos]
  show t.length+1<=_;omega
 have e2:bE (.str (t++(⟨#[10]⟩:Str))) (.str (Txt.mul " " m))=some (.str (t++nlw m)):=by
  rw [bE,if_pos,ya4];rfl
  rw [eD,mP];show t.length+1+_<=_;omega
 have i0:=xm8
 simp only [gE,xD,sD]
 simp only [List.length_cons,List.length_nil,if_pos,List.map_cons,List.map_nil,List.cons_append,List.nil_append,List.replicate_zero,dS,f2,aA,fC,dIx,dM,Option.bind_some,List.getElem?_cons_zero,List.getElem?_cons_succ,Option.join_some,e1,q,e2]
 simp [gP,gE,aO,aZ,aS,aH,fIf,aL,fB,f2,aA,fC,aY,bQ,bA,bG,aW,cB,cH,aB,aD,cA,fKs,aI,dEq,eqB,dB,dIx,bV,bC,D.imm,D.imms,bE,fQ,fT,cP,bP,dM,cR,fW,dP,dE,cF,bB,fX,bF,fMt,sL,dS,gC,zc3,zo1,cS,eG,fIO,eK,fE2,fTE,nF,dGt,oQ,fJ,i0]
abbrev kK:tz6:=gP 1 0 tF
theorem zm4{t:Str}{cs:List Int}{n:Nat}(ht:t.length<=1000000):kK [sD t cs n]=some (.int (col t)):=by
 have hs:sizeLine=16777216:=sizeLine_eq
 have hz:t.length<=sizeLine:=by omega
 have e:=yn8 t
 rw [<-zc5] at e
 simp [gP,gE,aO,aZ,aS,aH,fIf,aL,fB,f2,aA,fC,aY,bQ,bA,bG,aW,cB,cH,aB,aD,cA,fKs,aI,dEq,eqB,dB,dIx,bV,bC,D.imm,D.imms,bE,fQ,fT,cP,bP,dM,cR,fW,dP,dE,cF,bB,fX,bF,fMt,sL,dS,gC,zc3,zo1,cS,eG,fIO,eK,fE2,fTE,nF,dGt,oQ,fJ,tF,sD,hz,wZ,e]
theorem yu9(n:Nat):∃s:Int,atI [D.int 1,.int 12,.int 144,.int 1728,.int 20736,.int 248832,.int 2985984,.int 35831808] ((n:Int) % 8)=some (.int s)/\0<s/\s<1073741824:=by
 have h0:=Int.emod_nonneg (n:Int) (show(8:Int)≠0 by decide)
 have h1:=Int.emod_lt_of_pos (n:Int) (show(0:Int)<8 by decide)
 obtain⟨d,hd,e⟩:=nU [D.int 1,.int 12,.int 144,.int 1728,.int 20736,.int 248832,.int 2985984,.int 35831808] ((n:Int) % 8) h0 (by simpa using h1)
 simp only [List.mem_cons,List.not_mem_nil,or_false] at hd
 rcases hd with rfl|rfl|rfl|rfl|rfl|rfl|rfl|rfl<;>exact⟨_,e,by decide,by decide⟩
abbrev sS(GM GC:tz6):tz7:=gE 4 2 (bF [false,true,false,false]) (sQ GM GC)
section
variable{GM GC:tz6}{S:D}
theorem xc6{t:Str}{cs:List Int}{n many:Nat}{salt:Int}(hM:∀j s:Int,0<=j->j<1000->0<=s->s<1000->∃a,GM [S,.int j,.int s]=some (.int a)/\0<=a)(hC:∀j:Int,0<=j->j<1000->∃a,GC [S,.int j]=some (.int a))(hn:n<=900)(h0:0<=salt)(h1:salt<1000)(hm:0<many)(hl:cs.length<=900):
  ∃d:Int,sS GM GC [S,sD t cs n,.int salt,.int many]=some (.int d,[S,sD t (cs++[d]) (n+1),.int salt,.int many])/\0<=d/\d<many:=by
 obtain⟨a,qa,ha⟩:=hM ((n:Int)+40) salt (by omega) (by omega) h0 h1
 obtain⟨b,qb⟩:=hC (40+(n:Int)/8) (by omega) (by omega)
 obtain⟨s,qs,s0,s1⟩:=yu9 n
 have hm':(0:Int)<(many:Int):=by omega
 have hz:(aP cs).length<sizeLine:=by rw [wU];exact sz1 (by omega)
 have r:=fun x:Int=>And.intro (Int.emod_nonneg x (show(many:Int)≠0 by omega)) (Int.emod_lt_of_pos x hm')
 have i1:∀d:Int,aP [d]=[.int d]:=fun _=>rfl
 have v2:∀x4 x5,f2 dIx (aA 1) (fC (.int 2)) [some S,some (sD t cs n),some (.int salt),some (.int many),x4,x5]=some (.int n):=fun _ _=>aT rfl rfl (fW _ _ _ _)
 have s1':aS 4 (aH (aI GM (aB (aA 0) (aB (f2 bE (f2 dIx (aA 1) (fC (.int 2))) (fC (.int 40))) (aB (aA 2) aD))))) [some S,some (sD t cs n),some (.int salt),some (.int many),none,none]=some (.nx,[some S,some (sD t cs n),some (.int salt),some (.int many),some (.int a),none]):=bZ (bJ (aE rfl (aE (aT (v2 _ _) rfl rfl) (aE rfl rfl))) qa)
 have fin:∀(x:Int) (x5:Option D),∃q,aO (dS 1 aW (fC (.int 2)) (f2 bE (f2 dIx (aA 1) (fC (.int 2))) (fC (.int 1)))) (aO (bA (bG 1 (dP 1 aW (fC (.int 1))) (aB (f2 cU (aA 4) (aA 3)) aD) bC)) (bQ (aH (f2 cU (aA 4) (aA 3))))) [some S,some (sD t cs n),some (.int salt),some (.int many),some (.int x),x5]=some (.ret (.int (x % many)),[some S,some (sD t (cs++[x % many]) (n+1)),some (.int salt),some (.int many),some (.int x),x5])/\q=x5:=fun x x5=>by
  have md:∀s,f2 cU (aA 4) (aA 3) [some S,s,some (.int salt),some (.int many),some (.int x),x5]=some (.int (x % many)):=fun s=>aT rfl rfl ((cS _ _).trans (if_pos hm'))
  have a1:dS 1 aW (fC (.int 2)) (f2 bE (f2 dIx (aA 1) (fC (.int 2))) (fC (.int 1))) [some S,some (sD t cs n),some (.int salt),some (.int many),some (.int x),x5]=some (.nx,[some S,some (sD t cs (n+1)),some (.int salt),some (.int many),some (.int x),x5]):=by
   unfold dS
   rw [aT (v2 _ _) rfl rfl]
   rfl
  have a2:bA (bG 1 (dP 1 aW (fC (.int 1))) (aB (f2 cU (aA 4) (aA 3)) aD) bC) [some S,some (sD t cs (n+1)),some (.int salt),some (.int many),some (.int x),x5]=some (.nx,[some S,some (sD t (cs++[x % many]) (n+1)),some (.int salt),some (.int many),some (.int x),x5]):=by
   refine lW (d:= .non) ?_
   unfold bG
   rw [aE (md _) rfl]
   show((cB (bC [.int (x % many)]) (sD t cs (n+1)) [.ix 1]).bind _)=_
   have e:cB (bC [.int (x % many)]) (sD t cs (n+1)) [.ix 1]=some (.non,sD t (cs++[x % many]) (n+1)):=by
    show((bC [.int (x % many)] (.lst true (aP cs))).bind _)=_
    rw [show bC [.int (x % many)] (.lst true (aP cs))=some (.non,.lst true (aP cs++[.int (x % many)])) from if_pos hz]
    unfold sD
    rw [zm1,i1];rfl
   rw [e];rfl
  exact⟨_,(aF a1).trans ((aF a2).trans (eI (md _))),rfl⟩
 have out:∀(d:Int) (p4 p5:Option D),sQ GM GC [some S,some (sD t cs n),some (.int salt),some (.int many),none,none]=some (.ret (.int d),[some S,some (sD t (cs++[d]) (n+1)),some (.int salt),some (.int many),p4,p5])->sS GM GC [S,sD t cs n,.int salt,.int many]=some (.int d,[S,sD t (cs++[d]) (n+1),.int salt,.int many]):=fun d p4 p5 h=>by
  unfold sS gE
  refine(if_pos rfl).trans ?_
  show(sQ GM GC [some S,some (sD t cs n),some (.int salt),some (.int many),none,none]).bind _=_
  rw [h];rfl
 have t1:fB (f2 dEq (aA 2) (fC (.int 1))) [some S,some (sD t cs n),some (.int salt),some (.int many),some (.int a),none]=some (decide (salt=1)):=eS (aT rfl rfl rfl)
 by_cases c:salt=1
 ·refine⟨(b/s) % many,out _ (some (.int (b/s))) (some (.int s)) ?_,(r _).1,(r _).2⟩
  rw [decide_eq_true c] at t1
  have s2:aS 5 (aH (f2 dIx (cA (fKs [.int 1,.int 12,.int 144,.int 1728,.int 20736,.int 248832,.int 2985984,.int 35831808])) (f2 cU (f2 dIx (aA 1) (fC (.int 2))) (fC (.int 8))))) [some S,some (sD t cs n),some (.int salt),some (.int many),some (.int a),none]=some (.nx,[some S,some (sD t cs n),some (.int salt),some (.int many),some (.int a),some (.int s)]):=bZ (aT (fN rfl (Nat.le_of_ble_eq_true rfl)) (aT (v2 _ _) rfl ((cS _ _).trans (if_pos (by decide)))) qs)
  have s3:aS 4 (aH (f2 gM (aI GC (aB (aA 0) (aB (f2 bE (fC (.int 40)) (f2 gM (f2 dIx (aA 1) (fC (.int 2))) (fC (.int 8)))) aD))) (aA 5))) [some S,some (sD t cs n),some (.int salt),some (.int many),some (.int a),some (.int s)]=some (.nx,[some S,some (sD t cs n),some (.int salt),some (.int many),some (.int (b/s)),some (.int s)]):=bZ (aT (bJ (aE rfl (aE (aT rfl (aT (v2 _ _) rfl ((eG _ _).trans (if_pos (by decide)))) rfl) rfl)) qb) rfl ((eG _ _).trans (if_pos ⟨s0,s1⟩)))
  obtain⟨_,f,_⟩:=fin (b/s) (some (.int s))
  exact(aF s1').trans ((aF ((cT t1).trans ((aF s2).trans s3))).trans f)
 ·refine⟨a % many,out _ (some (.int a)) none ?_,(r _).1,(r _).2⟩
  rw [decide_eq_false c] at t1
  obtain⟨_,f,_⟩:=fin a none
  exact(aF s1').trans ((aF (bO t1)).trans f)
end
abbrev kIf(w:String)(F:tz1):tz1:=fIf (aL (kdT 6 w)) F aZ
abbrev zX(w:String)(c:tz4)(F:tz1):tz1:=fIf (aL (cF (kdT 6 w) c)) F aZ
abbrev wrB:tz1:=dS 4 aW (fC (.int 0)) (f2 bE (f2 dIx (aA 4) (fC (.int 0))) (f2 dIx (aA 6) (fC (.int 1))))
abbrev lnB(GL:tz7)(f:tz2):tz1:=bA (fIO [.io 4,.im f] GL)
abbrev noB:tz1:=bQ (aH (fC (.bl false)))
abbrev yL(GC:tz6):tz4:=fB (f2 dGt (aI GC (aB (aA 4) aD)) (f2 dIx (aA 6) (fC (.int 1))))
abbrev blB(GC:tz6):tz1:=dS 4 aW (fC (.int 0)) (f2 bE (f2 dIx (aA 4) (fC (.int 0))) (f2 jN (fC (.str " ")) (f2 fQ (f2 dIx (aA 6) (fC (.int 1))) (aI GC (aB (aA 4) aD)))))
abbrev yh9(f1 f2 f3:tz2)(GS:tz7):tz1:=fIf (nF (fTE (fIO [.im (aA 0),.im f1,.im f2,.im f3,.io 4,.im (aA 5)] GS))) noB aZ
abbrev grB(GN GS:tz7):tz1:=aO (aS 7 (aH (aY (aA 2))))
 (aO (fIf (aL (cF (dE (fT (aA 2))) (fB (f2 dGt (aA 5) (fC (.int 0))))))
  (aS 7 (fE2 dEq (fIO [.im (aA 0),.io 4,.im (aA 5),.im (fC (.int 2))] GN) (fC (.int 0))))
  (fIf (aL (dE (fT (aA 2)))) (bA (bG 4 (dP 4 aW (fC (.int 1))) (aB (fC (.int 1)) aD) bC)) aZ))
 (yh9 (f2 dIx (aA 6) (fC (.int 1))) (aA 7) (aA 3) GS))
abbrev haB(GS:tz7):tz1:=aO (aS 8 (aH (f2 bE (aA 3) (f2 dIx (aA 6) (fC (.int 1)))))) (yh9 (f2 dIx (aA 6) (fC (.int 2))) (aA 2) (aA 8) GS)
abbrev eiB(GN GS:tz7):tz1:=aO (aS 9 (fIO [.im (aA 0),.io 4,.im (f2 bE (aA 5) (f2 jN (fC (.int 9)) (aI oQ (aB (f2 dEq (aA 5) (fC (.int 0))) aD)))),.im (aI bV (aB (f2 dIx (aA 6) (fC (.int 1))) aD))] GN))
 (yh9 (f2 dIx (f2 dIx (aA 6) (fC (.int 1))) (aA 9)) (aA 2) (aA 3) GS)
def nH(GL:tz7)(GC:tz6)(GN GS:tz7):tz1:=
 aO (kIf "word" wrB) (aO (zX "gap" (fT (aA 2)) wrB) (aO (zX "gap" (dE (fT (aA 2))) (lnB GL (aA 3))) (aO (kIf "end" (lnB GL (aA 3)))
  (aO (kIf "stop" (aO (fIf (aL (cF (fT (aA 2)) (yL GC))) noB aZ) (aO (fIf (aL (yL GC)) (lnB GL (fC (.int 0))) aZ) (blB GC))))
  (aO (zX "end" (fT (aA 2)) noB) (aO (kIf "group" (grB GN GS)) (aO (kIf "hang" (haB GS)) (kIf "either" (eiB GN GS)))))))))
section
variable{w k:String}{F:tz1}{c:tz4}{p:PSt}{ds:List D}
theorem eR(hp:p[6]? =some (some (.tup (.str k::ds))))(h:decide (k=w)=false):kIf w F p=some (.nx,p):=bO (fP hp h)
theorem mR(hp:p[6]? =some (some (.tup (.str k::ds))))(h:decide (k=w)=true):kIf w F p=F p:=cT (fP hp h)
theorem jH(hp:p[6]? =some (some (.tup (.str k::ds))))(h:decide (k=w)=false):zX w c F p=some (.nx,p):=bO (jM (fP hp h))
theorem zQ(hp:p[6]? =some (some (.tup (.str k::ds))))(h:decide (k=w)=true)(hc:c p=some true):zX w c F p=F p:=cT (iB (fP hp h) hc)
theorem zR(hp:p[6]? =some (some (.tup (.str k::ds))))(h:decide (k=w)=true)(hc:c p=some false):zX w c F p=some (.nx,p):=bO (iB (fP hp h) hc)
theorem yo7{fe:tz2}{y a:D}{l:List D}(h:fe p=some y)(hp:p[4]? =some (some (.lst true (a::l)))):dS 4 aW (fC (.int 0)) fe p=some (.nx,p.set 4 (some (.lst true (y::l)))):=by
 have e:ixN (l.length+1) 0=some 0:=qD _
 simp [gP,gE,aO,aZ,aS,aH,fIf,aL,fB,f2,aA,fC,aY,bQ,bA,bG,aW,cB,cH,aB,aD,cA,fKs,aI,dEq,eqB,dB,dIx,bV,bC,D.imm,D.imms,bE,fQ,fT,cP,bP,dM,cR,fW,dP,dE,cF,bB,fX,bF,fMt,sL,dS,gC,zc3,zo1,cS,eG,fIO,eK,fE2,fTE,nF,dGt,oQ,fJ,dS,h,hp,aW,fC,cB,gC,e]
end
section
variable{GL GN GS:tz7}{GC:tz6}{k:String}{ds:List D}{p:PSt}
theorem zd1(hp:p[6]? =some (some (.tup (.str k::ds))))(h1:decide (k="group")=false)(h2:decide (k="hang")=false)(h3:decide (k="either")=false):aO (kIf "group" (grB GN GS)) (aO (kIf "hang" (haB GS)) (kIf "either" (eiB GN GS))) p=some (.nx,p):=
 (aF (eR hp h1)).trans ((aF (eR hp h2)).trans (eR hp h3))
theorem zd2(hp:p[6]? =some (some (.tup (.str k::ds))))(h1:decide (k="word")=false)(h2:decide (k="gap")=false)(h3:decide (k="end")=false)(h4:decide (k="stop")=false):nH GL GC GN GS p=aO (kIf "group" (grB GN GS)) (aO (kIf "hang" (haB GS)) (kIf "either" (eiB GN GS))) p:=
 (aF (eR hp h1)).trans ((aF (jH hp h2)).trans ((aF (jH hp h2)).trans ((aF (eR hp h3)).trans ((aF (eR hp h4)).trans (aF (jH hp h3))))))
end
section
variable{GN GS:tz7}{S:D}{R:Option D}
def xG(GN GS:tz7)(S:D)(R:Option D)(t:Str)(cs:List Int)(n:Nat)(m salt:Int)(flat:Bool)(l:Leaf)(x7 x8 x9:Option D):Prop:=∃ok t',nH kE kK GN GS [some S,R,some (.bl flat),some (.int m),some (sD t cs n),some (.int salt),some (cJ l),x7,x8,x9]=some (if ok=true then .nx else .ret (.bl false),[some S,R,some (.bl flat),some (.int m),some (sD t' cs n),some (.int salt),some (cJ l),x7,x8,x9])/\
   (ok=true->∃w,wr (!flat) m (col t) l=some w/\t'=t++w)/\(ok=false->wr (!flat) m (col t) l=none/\flat=true)/\t'.length<=t.length+101
theorem yv0{t:Str}{cs:List Int}{n:Nat}{m salt:Int}{flat:Bool}{l:Leaf}(x7 x8 x9:Option D)(hl:fL l)(h0:0<=m)(h1:m<=100)(ht:t.length<=900000):xG GN GS S R t cs n m salt flat l x7 x8 x9:=by
 have hs:sizeLine=16777216:=sizeLine_eq
 have hnl:∀c:Int,0<=c->c<=100->(t++nlw c).length<=t.length+101:=fun c c0 c1=>by
  unfold nlw
  rw [eD,eD,mP];show _+(1+_)<=_;omega
 have add:∀x:Str,x.length<=1000->bE (.str t) (.str x)=some (.str (t++x)):=fun x hx=>by rw [bE,if_pos];omega
 have line:∀(l:Leaf) (f:tz2) (c:Int),0<=c->c<=100->f [some S,R,some (.bl flat),some (.int m),some (sD t cs n),some (.int salt),some (cJ l),x7,x8,x9]=some (.int c)->lnB kE f [some S,R,some (.bl flat),some (.int m),some (sD t cs n),some (.int salt),some (cJ l),x7,x8,x9]=some (.nx,[some S,R,some (.bl flat),some (.int m),some (sD (t++nlw c) cs n),some (.int salt),some (cJ l),x7,x8,x9]):=fun l f c c0 c1 hf=>
  lW (tU (qV rfl (eC hf rfl gN)) (xc5 c0 c1 (by omega)) rfl)
 have wrote:∀(l:Leaf) (x:Str),x.length<=1000->f2 dIx (aA 6) (fC (.int 1)) [some S,R,some (.bl flat),some (.int m),some (sD t cs n),some (.int salt),some (cJ l),x7,x8,x9]=some (.str x)->wrB [some S,R,some (.bl flat),some (.int m),some (sD t cs n),some (.int salt),some (cJ l),x7,x8,x9]=some (.nx,[some S,R,some (.bl flat),some (.int m),some (sD (t++x) cs n),some (.int salt),some (cJ l),x7,x8,x9]):=fun l x hx h=>
  yo7 (aT (aT rfl rfl (dM _ _)) h (add x hx)) rfl
 cases l with
 |word x=>
  have hx:x.length<=12:=hl.2.1
  delta xG
  refine⟨true,t++x,?_,fun _=>⟨x,rfl,rfl⟩,(nomatch ·),by rw [eD];omega⟩
  exact(aF ((mR rfl (by decide)).trans (wrote (.word x) x (by omega) (aT rfl rfl (cR _ _ _))))).trans ((aF (jH rfl (by decide))).trans ((aF (jH rfl (by decide))).trans ((aF (eR rfl (by decide))).trans ((aF (eR rfl (by decide))).trans ((aF (jH rfl (by decide))).trans (zd1 rfl (by decide) (by decide) (by decide)))))))
 | gap x=>
  have hx:x.length<=1:=by
   rcases(hl:x=""\/x=" ") with rfl|rfl
   ·show(0:Nat)<=1;decide
   ·show(1:Nat)<=1;decide
  cases flat with
  |true=>
   delta xG
   refine⟨true,t++x,?_,fun _=>⟨x,rfl,rfl⟩,(nomatch ·),by rw [eD];omega⟩
   exact(aF (eR rfl (by decide))).trans ((aF ((zQ rfl (by decide) rfl).trans (wrote (.gap x) x (by omega) (aT rfl rfl (cR _ _ _))))).trans ((aF (zR rfl (by decide) rfl)).trans ((aF (eR rfl (by decide))).trans ((aF (eR rfl (by decide))).trans ((aF (jH rfl (by decide))).trans (zd1 rfl (by decide) (by decide) (by decide)))))))
  |false=>
   delta xG
   refine⟨true,t++nlw m,?_,fun _=>⟨_,rfl,rfl⟩,(nomatch ·),hnl m h0 h1⟩
   exact(aF (eR rfl (by decide))).trans ((aF (zR rfl (by decide) rfl)).trans ((aF ((zQ rfl (by decide) rfl).trans (line _ _ m h0 h1 rfl))).trans ((aF (eR rfl (by decide))).trans ((aF (eR rfl (by decide))).trans ((aF (jH rfl (by decide))).trans (zd1 rfl (by decide) (by decide) (by decide)))))))
 | fin=>
  have z:∀{Z},aO (zX "end" (fT (aA 2)) noB) (aO (kIf "group" (grB GN GS)) (aO (kIf "hang" (haB GS)) (kIf "either" (eiB GN GS)))) [some S,R,some (.bl flat),some (.int m),some (sD (t++nlw m) cs n),some (.int salt),some (cJ .fin),x7,x8,x9]=Z->nH kE kK GN GS [some S,R,some (.bl flat),some (.int m),some (sD t cs n),some (.int salt),some (cJ .fin),x7,x8,x9]=Z:=fun h=>
   (aF (eR rfl (by decide))).trans ((aF (jH rfl (by decide))).trans ((aF (jH rfl (by decide))).trans ((aF ((mR rfl (by decide)).trans (line _ _ m h0 h1 rfl))).trans ((aF (eR rfl (by decide))).trans h))))
  delta xG
  refine⟨!flat,t++nlw m,?_,fun h=>⟨nlw m,(by cases flat<;>first|rfl|cases h),rfl⟩,fun h=>(by cases flat<;>first|exact⟨rfl,rfl⟩|cases h),hnl m h0 h1⟩
  cases flat with
  |true=>exact z (eN (zQ rfl (by decide) rfl))
  |false=>exact z ((aF (zR rfl (by decide) rfl)).trans (zd1 rfl (by decide) (by decide) (by decide)))
 | stop c=>
  have hc:0<=c/\c<=40:=hl
  have past:∀t':Str,t'.length<=1000000->yL kK [some S,R,some (.bl flat),some (.int m),some (sD t' cs n),some (.int salt),some (cJ (.stop c)),x7,x8,x9]=some (decide (c<(col t':Int))):=fun t' h=>eS (aT (bJ (aE rfl rfl) (zm4 h)) (aT rfl rfl (cR _ _ _)) rfl)
  have bl:∀t':Str,t'.length<=1000000->(col t':Int)<=c->blB kK [some S,R,some (.bl flat),some (.int m),some (sD t' cs n),some (.int salt),some (cJ (.stop c)),x7,x8,x9]=some (.nx,[some S,R,some (.bl flat),some (.int m),some (sD (t'++Txt.mul " " (c-(col t':Int))) cs n),some (.int salt),some (cJ (.stop c)),x7,x8,x9]):=fun t' h hk=>
   yo7 (aT (aT rfl rfl (dM _ _)) (aT rfl (aT (aT rfl rfl (cR _ _ _)) (bJ (aE rfl rfl) (zm4 h)) rfl) (zo3 _ (by omega) (by omega))) (by rw [bE,if_pos];rw [mP];omega)) rfl
  have z:∀{Z F t'},F=aO (fIf (aL (cF (fT (aA 2)) (yL kK))) noB aZ) (aO (fIf (aL (yL kK)) (lnB kE (fC (.int 0))) aZ) (blB kK))->(F [some S,R,some (.bl flat),some (.int m),some (sD t cs n),some (.int salt),some (cJ (.stop c)),x7,x8,x9]=some (.nx,[some S,R,some (.bl flat),some (.int m),some (sD t' cs n),some (.int salt),some (cJ (.stop c)),x7,x8,x9])/\Z=some (.nx,[some S,R,some (.bl flat),some (.int m),some (sD t' cs n),some (.int salt),some (cJ (.stop c)),x7,x8,x9]))\/(∃d q,F [some S,R,some (.bl flat),some (.int m),some (sD t cs n),some (.int salt),some (cJ (.stop c)),x7,x8,x9]=some (.ret d,q)/\Z=some (.ret d,q))->
    nH kE kK GN GS [some S,R,some (.bl flat),some (.int m),some (sD t cs n),some (.int salt),some (cJ (.stop c)),x7,x8,x9]=Z:=fun hF h=>by
   subst hF
   refine(aF (eR rfl (by decide))).trans ((aF (jH rfl (by decide))).trans ((aF (jH rfl (by decide))).trans ((aF (eR rfl (by decide))).trans ?_)))
   rcases h with ⟨h,rfl⟩|⟨d,q,h,rfl⟩
   ·exact(aF ((mR rfl (by decide)).trans h)).trans ((aF (jH rfl (by decide))).trans (zd1 rfl (by decide) (by decide) (by decide)))
   ·exact eN ((mR rfl (by decide)).trans h)
  have p0:=past t (by omega)
  by_cases hk:(col t:Int)<=c
  ·rw [decide_eq_false (by omega)] at p0
   delta xG
   refine⟨true,t++Txt.mul " " (c-(col t:Int)),?_,fun _=>⟨_,if_pos hk,rfl⟩,(nomatch ·),by rw [eD,mP];omega⟩
   have pa:cF (fT (aA 2)) (yL kK) [some S,R,some (.bl flat),some (.int m),some (sD t cs n),some (.int salt),some (cJ (.stop c)),x7,x8,x9]=some false:=by
    cases flat with
    |true=>exact iB rfl p0
    |false=>exact jM rfl
   exact z rfl (.inl ⟨(aF (bO pa)).trans ((aF (bO p0)).trans (bl t (by omega) hk)),rfl⟩)
  ·rw [decide_eq_true (by omega)] at p0
   cases flat with
   |true=>
    delta xG
    exact⟨false,t,z (t':=t) rfl (.inr ⟨_,_,eN (cT (iB rfl p0)),rfl⟩),(nomatch ·),fun _=>⟨(if_neg hk).trans rfl,rfl⟩,by omega⟩
   | false=>
    have l0:=hnl 0 (by omega) (by omega)
    have c0:col (t++nlw 0)=0:=by
     unfold nlw
     rw [zt0 (zc6 0),mP];rfl
    have q:=bl (t++nlw 0) (by omega) (by rw [c0];exact hc.1)
    have e:t++nlw c=(t++nlw 0)++Txt.mul " " (c-((0:Nat):Int)):=by
     refine lX ?_
     unfold nlw
     simp only [cY,uV]
     simp [gP,gE,aO,aZ,aS,aH,fIf,aL,fB,f2,aA,fC,aY,bQ,bA,bG,aW,cB,cH,aB,aD,cA,fKs,aI,dEq,eqB,dB,dIx,bV,bC,D.imm,D.imms,bE,fQ,fT,cP,bP,dM,cR,fW,dP,dE,cF,bB,fX,bF,fMt,sL,dS,gC,zc3,zo1,cS,eG,fIO,eK,fE2,fTE,nF,dGt,oQ,fJ]
    rw [c0,<-e] at q
    delta xG
    exact⟨true,t++nlw c,z rfl (.inl ⟨(aF (bO (jM rfl))).trans ((aF ((cT p0).trans (line _ _ 0 (Int.le_refl _) (by decide) rfl))).trans q),rfl⟩),fun _=>⟨nlw c,(if_neg hk).trans rfl,rfl⟩,(nomatch ·),hnl c hc.1 (by omega)⟩
end
section
variable{GM GC:tz6}{S:D}
def Fit(n c l w:Nat):Prop:=n+w<=900/\c+w<=900/\l+101*w<=900000
def pL(n n' l l':Nat)(ds:List Int)(w:Nat):Prop:=(n'<=n+w/\l'<=l+101*w/\ds.length<=w)/\∀d∈ds,0<=d/\d<4
theorem zd3{n c l w w':Nat}(h:Fit n c l w)(hw:w'<=w):Fit n c l w':=by unfold Fit at*;omega
theorem yB{n n' l l' w w':Nat}{ds:List Int}(h:pL n n' l l' ds w)(hw:w<=w'):pL n n' l l' ds w':=⟨by have:=h.1;omega,h.2⟩
theorem xc7{n l w:Nat}{cs:List Int}(h:Fit n cs.length l (w+2))(d:Int):Fit n (cs++[d]).length l w:=by
 rw [List.length_append]
 unfold Fit at*
 show _/\_+1+_<=_/\_
 omega
theorem zt7{n l w:Nat}{cs:List Int}(h:Fit n cs.length l (w+2))(d:Int):Fit (n+1) (cs++[d]).length l w:=by
 rw [List.length_append]
 unfold Fit at*
 show _/\_+1+_<=_/\_
 omega
theorem zd4{n c l w:Nat}(h:Fit n c l w):n<=900/\c<=900:=by unfold Fit at h;omega
theorem yv1{n n' l l' w:Nat}{ds:List Int}(g:pL n n' l l' ds w)(d:Int)(hd:0<=d/\d<4):pL n n' l l' (d::ds) (w+2):=⟨by have:=g.1;rw [List.length_cons];omega,List.forall_mem_cons.mpr ⟨hd,g.2⟩⟩
theorem zm5{n n' l l' w:Nat}{ds:List Int}(g:pL (n+1) n' l l' ds w)(d:Int)(hd:0<=d/\d<4):pL n n' l l' (d::ds) (w+2):=⟨by have:=g.1;rw [List.length_cons];omega,List.forall_mem_cons.mpr ⟨hd,g.2⟩⟩
theorem yv2{n n1 l l1 a b:Nat}{cs ds:List Int}(h:Fit n cs.length l (a+b))(g:pL n n1 l l1 ds a):Fit n1 (cs++ds).length l1 b:=by
 have:=g.1
 rw [List.length_append]
 unfold Fit at*
 omega
theorem yg3{n n1 n2 l l1 l2 a b:Nat}{ds es:List Int}(g:pL n n1 l l1 ds a)(h:pL n1 n2 l1 l2 es b):pL n n2 l l2 (ds++es) (a+b):=
 ⟨by have:=g.1;have:=h.1;rw [List.length_append];omega,fun d hd=>(List.mem_append.mp hd).elim (g.2 d) (h.2 d)⟩
theorem zo4{m:Int}{x:Nat}(h:m+12*((x+1:Nat):Int)<=100):m+12*(x:Int)<=100:=by omega
theorem zt8{m:Int}{x y:Nat}(h:m+12*(y:Int)<=100)(hx:x<=y):m+12*(x:Int)<=100:=by omega
def xH(S:D)(GS:tz7)(r:List Pc):Prop:=∀(flat:Bool) (m:Int) (t:Str) (cs:List Int) (n:Nat) (salt:Int),0<=m->m+12*cV r<=100->0<=salt->salt<=900->Fit n cs.length t.length (bR r).length->
 ∃ok t' ds n',GS [S,.tup (aK r),.bl flat,.int m,sD t cs n,.int salt]=some (.bl ok,[S,.tup (aK r),.bl flat,.int m,sD t' (cs++ds) n',.int salt])/\(ok=true->∀x,bY (!flat) m r (ds++x) t=some (x,t'))/\(ok=false->∀x,bY (!flat) m r (ds++x) t=none)/\(salt=0->flat=false->ok=true)/\pL n n' t.length t'.length ds (bR r).length
def zY(S:D)(GN GS:tz7)(p:Pc)(R:Option D)(flat:Bool)(m:Int)(t:Str)(cs:List Int)(n:Nat)(salt:Int)(x7 x8 x9:Option D):Prop:=∃ok t' ds n' y7 y8 y9,nH kE kK GN GS [some S,R,some (.bl flat),some (.int m),some (sD t cs n),some (.int salt),some (pcD p),x7,x8,x9]=some (if ok=true then .nx else .ret (.bl false),[some S,R,some (.bl flat),some (.int m),some (sD t' (cs++ds) n'),some (.int salt),some (pcD p),y7,y8,y9])/\
  (ok=true->∀x,cQ (!flat) m p (ds++x) t=some (x,t'))/\(ok=false->∀x,cQ (!flat) m p (ds++x) t=none)/\(salt=0->flat=false->ok=true)/\pL n n' t.length t'.length ds (cX p).length
def zw2(S:D)(GN GS:tz7)(p:Pc):Prop:=∀(R:Option D) (flat:Bool) (m:Int) (t:Str) (cs:List Int) (n:Nat) (salt:Int) (x7 x8 x9:Option D),0<=m->m+12*fM p<=100->0<=salt->salt<=900->Fit n cs.length t.length (cX p).length->zY S GN GS p R flat m t cs n salt x7 x8 x9
def yM(S:D)(GN:tz7):Prop:=∀(t:Str) (cs:List Int) (n many:Nat) (salt:Int),n<=900->0<=salt->salt<1000->0<many->cs.length<=900->∃d:Int,GN [S,sD t cs n,.int salt,.int many]=some (.int d,[S,sD t (cs++[d]) (n+1),.int salt,.int many])/\0<=d/\d<many
theorem yv3(cs ds:List Int)(d:Int):cs++[d]++ds=cs++(d::ds):=by simp
theorem tW{GS:tz7}{r:List Pc}{b flat ok:Bool}{m m' salt:Int}{s0 s1 d6:D}{R x7 x8 x9:Option D}{f1 f2 f3:tz2}(hS:S.imm=true)(e1:f1 [some S,R,some (.bl flat),some (.int m),some s0,some (.int salt),some d6,x7,x8,x9]=some (.tup (aK r)))(e2:f2 [some S,R,some (.bl flat),some (.int m),some s0,some (.int salt),some d6,x7,x8,x9]=some (.bl b))(e3:f3 [some S,R,some (.bl flat),some (.int m),some s0,some (.int salt),some d6,x7,x8,x9]=some (.int m'))
  (q:GS [S,.tup (aK r),.bl b,.int m',s0,.int salt]=some (.bl ok,[S,.tup (aK r),.bl b,.int m',s1,.int salt])):
  yh9 f1 f2 f3 GS [some S,R,some (.bl flat),some (.int m),some s0,some (.int salt),some d6,x7,x8,x9]=some (if ok=true then .nx else .ret (.bl false),[some S,R,some (.bl flat),some (.int m),some s1,some (.int salt),some d6,x7,x8,x9]):=by
 have c:=yu2 (xi8 (tU (eC (f:=aA 0) rfl hS (eC e1 (dL r) (eC e2 rfl (eC e3 rfl (qV (j:=4) rfl (eC (f:=aA 5) rfl rfl gN)))))) q rfl))
 cases ok with
 |true=>exact(jS c).trans rfl
 |false=>exact(zc4 c).trans rfl
theorem zd5{F G:tz1}{ok:Bool}{p q:PSt}(h:F p=some (if ok=true then .nx else .ret (.bl false),q))(hG:G q=some (.nx,q)):aO F G p=some (if ok=true then .nx else .ret (.bl false),q):=by
 cases ok with
 |true=>exact(aF h).trans hG
 |false=>exact eN h
theorem bit{d:Int}(h0:0<=d)(h1:d<((2:Nat):Int)):d=0\/d=1:=by omega
theorem yo8{GN GS:tz7}{r:List Pc}(hS:S.imm=true)(hN:yM S GN)(hr:xH S GS r):zw2 S GN GS (.group r):=by
 intro R flat m t cs n salt x7 x8 x9 h0 h1 hs0 hs1 hft
 have hd:fM (.group r)=cV r+1:=by rw [fM]
 have htk:(cX (.group r)).length=(bR r).length+2:=by simp [cX]
 have pi:=dL r
 rw [hd] at h1
 rw [htk] at hft
 have set_eq:∀cs' t0,cQ true m (.group r) cs' t0=(match cs' with|[]=>none|c::cs=>if c=0 then bY false m r cs t0 else if c=1 then bY true m r cs t0 else none):=fun cs' t0=>by rw [cQ.eq_def];cases cs'<;>simp
 cases flat with
 |true=>
  obtain⟨ok,t',ds,n',q,e1,e2,e3,e4⟩:=hr true m t cs n salt h0 (zo4 h1) hs0 hs1 (zd3 hft (Nat.le_add_right _ 2))
  have se:∀cs' t0,cQ (!true) m (.group r) cs' t0=bY (!true) m r cs' t0:=fun cs' t0=>by rw [cQ.eq_def];simp
  delta zY
  rw [htk]
  refine⟨ok,t',ds,n',some (.bl true),x8,x9,?_,fun h x=>by rw [se];exact e1 h x,fun h x=>by rw [se];exact e2 h x,fun _ h=>(by cases h),yB e4 (Nat.le_add_right _ 2)⟩
  refine(zd2 rfl (by decide) (by decide) (by decide) (by decide)).trans (zd5 ((mR rfl (by decide)).trans ?_) ((aF (eR rfl (by decide))).trans (eR rfl (by decide))))
  exact(aF (bZ (eQ rfl rfl))).trans ((aF ((jS (gG (jM rfl))).trans (bO rfl))).trans (tW hS (aT rfl rfl (cR _ _ _)) rfl rfl q))
 | false=>
  by_cases hz:salt=0
  ·subst hz
   obtain⟨ok,t',ds,n',q,e1,e2,e3,e4⟩:=hr false m t (cs++[1]) n 0 h0 (zo4 h1) hs0 hs1 (xc7 hft 1)
   have hok:=e3 rfl rfl
   subst hok
   delta zY
   rw [htk]
   refine⟨true,t',1::ds,n',some (.bl false),x8,x9,?_,fun _ x=>by rw [show(!false)=true from rfl,set_eq];simpa using e1 rfl x,(nomatch ·),fun _ _=>rfl,yv1 e4 1 (by decide)⟩
   rw [yv3] at q
   have hl:(aP cs).length<sizeLine:=by rw [wU];exact sz1 (Nat.le_trans (zd4 hft).2 (by decide))
   have ei:aP (cs++[1])=aP cs++[.int 1]:=by rw [zm1];rfl
   have ap:bA (bG 4 (dP 4 aW (fC (.int 1))) (aB (fC (.int 1)) aD) bC) [some S,R,some (.bl false),some (.int m),some (sD t cs n),some (.int 0),some (pcD (.group r)),some (.bl false),x8,x9]=some (.nx,[some S,R,some (.bl false),some (.int m),some (sD t (cs++[1]) n),some (.int 0),some (pcD (.group r)),some (.bl false),x8,x9]):=by
    unfold sD
    rw [ei]
    simp [bA,bG,dP,aW,fC,cH,zc3,aB,aD,cB,bC,hl]
   refine(zd2 rfl (by decide) (by decide) (by decide) (by decide)).trans (zd5 (ok:=true) ((mR rfl (by decide)).trans ?_) ((aF (eR rfl (by decide))).trans (eR rfl (by decide))))
   exact(aF (bZ (eQ rfl rfl))).trans ((aF ((jS (gG (iB rfl rfl))).trans ((cT rfl).trans ap))).trans (tW hS (aT rfl rfl (cR _ _ _)) rfl rfl q))
  ·have hp:0<salt:=by omega
   obtain⟨d,qd,d0,d1⟩:=hN t cs n 2 salt (zd4 hft).1 hs0 (Int.lt_of_le_of_lt hs1 (by decide)) (by decide) (zd4 hft).2
   obtain⟨ok,t',ds,n',q,e1,e2,e3,e4⟩:=hr (decide (d=0)) m t (cs++[d]) (n+1) salt h0 (zo4 h1) hs0 hs1 (zt7 hft d)
   have se:∀x,cQ (!false) m (.group r) (d::ds++x) t=bY (!decide (d=0)) m r (ds++x) t:=fun x=>by
    rw [show(!false)=true from rfl,set_eq]
    rcases(bit d0 d1) with rfl|rfl<;>simp
   delta zY
   rw [htk]
   refine⟨ok,t',d::ds,n',some (.bl (decide (d=0))),x8,x9,?_,fun h x=>by rw [se];exact e1 h x,fun h x=>by rw [se];exact e2 h x,fun h=>absurd h hz,zm5 e4 d ⟨d0,Int.lt_trans d1 (by decide)⟩⟩
   rw [yv3] at q
   have qd':GN [S,sD t cs n,.int salt,.int 2]=some (.int d,[S,sD t (cs++[d]) (n+1),.int salt,.int 2]):=qd
   have dr:aS 7 (fE2 dEq (fIO [.im (aA 0),.io 4,.im (aA 5),.im (fC (.int 2))] GN) (fC (.int 0))) [some S,R,some (.bl false),some (.int m),some (sD t cs n),some (.int salt),some (pcD (.group r)),some (.bl false),x8,x9]=some (.nx,[some S,R,some (.bl false),some (.int m),some (sD t (cs++[d]) (n+1)),some (.int salt),some (pcD (.group r)),some (.bl (decide (d=0))),x8,x9]):=by
    unfold aS fE2
    rw [tU (eC (f:=aA 0) rfl hS (qV (j:=4) rfl (eC (f:=aA 5) rfl rfl (eC (f:=fC (.int 2)) rfl rfl gN)))) qd' rfl]
    rfl
   have gt:cF (dE (fT (aA 2))) (fB (f2 dGt (aA 5) (fC (.int 0)))) [some S,R,some (.bl false),some (.int m),some (sD t cs n),some (.int salt),some (pcD (.group r)),some (.bl false),x8,x9]=some true:=iB rfl (eS (aT rfl rfl (show some (D.bl (decide (0<salt)))=_ by rw [decide_eq_true hp])))
   refine(zd2 rfl (by decide) (by decide) (by decide) (by decide)).trans (zd5 ((mR rfl (by decide)).trans ?_) ((aF (eR rfl (by decide))).trans (eR rfl (by decide))))
   exact(aF (bZ (eQ rfl rfl))).trans ((aF ((cT gt).trans dr)).trans (tW hS (aT rfl rfl (cR _ _ _)) rfl rfl q))
theorem xm9{m k:Int}{x:Nat}(h:m+12*((x+1:Nat):Int)<=100)(hk:k<=12):m+k+12*(x:Int)<=100:=by omega
theorem yv4{GN GS:tz7}{k:Int}{r:List Pc}(hS:S.imm=true)(hk:0<=k/\k<=12)(hr:xH S GS r):zw2 S GN GS (.hang k r):=by
 intro R flat m t cs n salt x7 x8 x9 h0 h1 hs0 hs1 hft
 have hd:fM (.hang k r)=cV r+1:=by rw [fM]
 have htk:(cX (.hang k r)).length=(bR r).length+2:=by simp [cX]
 have pi:=dL r
 rw [hd] at h1
 rw [htk] at hft
 obtain⟨ok,t',ds,n',q,e1,e2,e3,e4⟩:=hr flat (m+k) t cs n salt (Int.add_nonneg h0 hk.1) (xm9 h1 hk.2) hs0 hs1 (zd3 hft (Nat.le_add_right _ 2))
 have se:∀cs' t0,cQ (!flat) m (.hang k r) cs' t0=bY (!flat) (m+k) r cs' t0:=fun cs' t0=>by rw [cQ]
 delta zY
 rw [htk]
 refine⟨ok,t',ds,n',x7,some (.int (m+k)),x9,?_,fun h x=>by rw [se];exact e1 h x,fun h x=>by rw [se];exact e2 h x,e3,yB e4 (Nat.le_add_right _ 2)⟩
 refine(zd2 rfl (by decide) (by decide) (by decide) (by decide)).trans ((aF (eR rfl (by decide))).trans (zd5 ((mR rfl (by decide)).trans ?_) (eR rfl (by decide))))
 exact(aF (bZ (aT rfl (aT rfl rfl (cR _ _ _)) rfl))).trans (tW hS (aT rfl rfl (fW _ _ _ _)) rfl rfl q)
theorem zS:∀{rs:List (List Pc)} {i:Nat} {r:List Pc},rs[i]? =some r->(cK rs)[i]? =some (.tup (aK r))
 |[],i,_,h=>by simp at h
 |q::rs,0,_,h=>by simp at h;subst h;rfl
 |q::rs,i+1,_,h=>by show(cK rs)[i]? =_;exact zS (by simpa using h)
theorem yg4{GN GS:tz7}{rs:List (List Pc)}(hS:S.imm=true)(hN:yM S GN)(hl:0<rs.length/\rs.length<=4)(hr:∀r∈rs,xH S GS r):zw2 S GN GS (.either rs):=by
 intro R flat m t cs n salt x7 x8 x9 h0 h1 hs0 hs1 hft
 have hd:fM (.either rs)=lO rs+1:=by rw [fM]
 have htk:(cX (.either rs)).length=(nO rs).length+2:=by simp [cX]
 rw [hd] at h1
 rw [htk] at hft
 obtain⟨s',hs',hs2,hs3⟩:∃s':Int,salt+9*(if decide (salt=0)=true then 1 else 0)=s'/\0<=s'/\s'<1000:=by
  refine⟨_,rfl,?_,?_⟩<;>by_cases h:salt=0<;>simp [h]<;>omega
 obtain⟨d,qd,d0,d1⟩:=hN t cs n rs.length s' (zd4 hft).1 hs2 hs3 hl.1 (zd4 hft).2
 obtain⟨r,hg⟩:∃r,rs[d.toNat]? =some r:=⟨_,List.getElem?_eq_getElem (by omega)⟩
 have hdr:=nW hg
 have htr:=pP (List.mem_of_getElem? hg)
 have pi:=dL r
 obtain⟨ok,t',ds,n',q,e1,e2,e3,e4⟩:=hr r (List.mem_of_getElem? hg) flat m t (cs++[d]) (n+1) salt h0 (zt8 (zo4 h1) hdr) hs0 hs1 (zd3 (zt7 hft d) htr)
 have se:∀x,cQ (!flat) m (.either rs) (d::ds++x) t=bY (!flat) m r (ds++x) t:=fun x=>by
  rw [cQ.eq_def]
  simp only [List.cons_append]
  rw [if_pos d0,sH hg]
 delta zY
 rw [htk]
 refine⟨ok,t',d::ds,n',x7,x8,some (.int d),?_,fun h x=>by rw [se];exact e1 h x,fun h x=>by rw [se];exact e2 h x,e3,zm5 (yB e4 htr) d ⟨d0,Int.lt_of_lt_of_le d1 (Int.ofNat_le.mpr hl.2)⟩⟩
 rw [yv3] at q
 have qx:atI (cK rs) d=some (.tup (aK r)):=by
  have:=lI (zS hg)
  rwa [Int.toNat_of_nonneg d0] at this
 have hrl:(cK rs).length=rs.length:=kA rs
 have hmul:wX 9 (if decide (salt=0)=true then 1 else 0)=true:=by by_cases h:salt=0<;>simp [h]<;>decide
 have hmul':jN (.int 9) (.int (if decide (salt=0)=true then 1 else 0))=some (.int (9*(if decide (salt=0)=true then 1 else 0))):=by rw [jN,if_pos hmul]
 have hm2:f2 bE (aA 5) (f2 jN (fC (.int 9)) (aI oQ (aB (f2 dEq (aA 5) (fC (.int 0))) aD))) [some S,R,some (.bl flat),some (.int m),some (sD t cs n),some (.int salt),some (.tup [.str "either",.tup (cK rs)]),x7,x8,x9]=some (.int s'):=by
  rw [<-hs']
  refine aT rfl (aT rfl (d:= .int (9*(if decide (salt=0)=true then 1 else 0))) ?_ hmul') rfl
  exact bJ (aE (aT rfl rfl rfl) rfl) rfl
 have ln:aI bV (aB (f2 dIx (aA 6) (fC (.int 1))) aD) [some S,R,some (.bl flat),some (.int m),some (sD t cs n),some (.int salt),some (.tup [.str "either",.tup (cK rs)]),x7,x8,x9]=some (.int rs.length):=by
  rw [<-hrl]
  exact bJ (aE (aT rfl rfl (cR _ _ _)) rfl) rfl
 have dr:aS 9 (fIO [.im (aA 0),.io 4,.im (f2 bE (aA 5) (f2 jN (fC (.int 9)) (aI oQ (aB (f2 dEq (aA 5) (fC (.int 0))) aD)))),.im (aI bV (aB (f2 dIx (aA 6) (fC (.int 1))) aD))] GN) [some S,R,some (.bl flat),some (.int m),some (sD t cs n),some (.int salt),some (.tup [.str "either",.tup (cK rs)]),x7,x8,x9]=some (.nx,[some S,R,some (.bl flat),some (.int m),some (sD t (cs++[d]) (n+1)),some (.int salt),some (.tup [.str "either",.tup (cK rs)]),x7,x8,some (.int d)]):=by
  unfold aS
  rw [tU (eC (f:=aA 0) rfl hS (qV (j:=4) rfl (eC hm2 rfl (eC ln rfl gN)))) qd rfl]
  rfl
 refine(zd2 (ds:=[.tup (cK rs)]) rfl (by decide) (by decide) (by decide) (by decide)).trans ((aF (eR (ds:=[.tup (cK rs)]) rfl (by decide))).trans ((aF (eR (ds:=[.tup (cK rs)]) rfl (by decide))).trans ((mR (ds:=[.tup (cK rs)]) rfl (by decide)).trans ?_)))
 exact(aF dr).trans (tW hS (aT (aT rfl rfl (cR _ _ _)) rfl qx) rfl rfl q)
theorem yo9{GN GS:tz7}{l:Leaf}(hl:fL l):zw2 S GN GS (.leaf l):=by
 intro R flat m t cs n salt x7 x8 x9 h0 h1 hs0 hs1 hft
 have hd:fM (.leaf l)=0:=by rw [fM]
 have htk:(cX (.leaf l)).length=1:=by simp [cX]
 rw [hd] at h1
 rw [htk] at hft
 obtain⟨ok,t',q,e1,e2,e3⟩:=yv0 (GN:=GN) (GS:=GS) (S:=S) (R:=R) (cs:=cs) (n:=n) (salt:=salt) (flat:=flat) x7 x8 x9 hl h0 (by omega) (Nat.le_trans (Nat.le_add_right _ _) hft.2.2)
 delta zY
 rw [htk]
 refine⟨ok,t',[],n,x7,x8,x9,by rw [List.append_nil];exact q,fun h x=> ?_,fun h x=> ?_,fun _ hf=> ?_,⟨⟨Nat.le_add_right _ _,e3,Nat.zero_le _⟩,fun _ h=>absurd h (List.not_mem_nil)⟩⟩
 ·obtain⟨w,hw,rfl⟩:=e1 h
  rw [cQ,hw];rfl
 ·rw [cQ,(e2 h).1];rfl
 ·cases ok with
  |true=>rfl
  |false=>have:=(e2 rfl).2;rw [hf] at this;cases this
theorem yp0{GN GS:tz7}{k:Nat}(hS:S.imm=true)(hN:yM S GN)(hG:∀r,cV r<k->okR r->xH S GS r){p:Pc}(hd:fM p<=k)(ho:okP p):zw2 S GN GS p:=by
 cases p with
 |leaf l=>exact yo9 ho
 |group r=>rw [fM] at hd;exact yo8 hS hN (hG r (by omega) ho)
 |hang n r=>rw [fM] at hd;exact yv4 hS ho.1 (hG r (by omega) ho.2)
 |either rs=>
  rw [fM] at hd
  have ho':(2<=rs.length/\rs.length<=4)/\iG rs:=ho
  refine yg4 hS hN ⟨by omega,ho'.1.2⟩ fun r hr=> ?_
  obtain⟨i,hi⟩:=List.getElem?_of_mem hr
  have:=nW hi
  exact hG r (by omega) (rL ho'.2 hi)
def zw3(S:D)(GN GS:tz7)(R:Option D)(flat:Bool)(m salt:Int)(r:List Pc)(t:Str)(cs:List Int)(n:Nat)(x6 x7 x8 x9:Option D):Prop:=∃ok t' ds n' y6 y7 y8 y9,eW 6 (nH kE kK GN GS) (aK r) [some S,R,some (.bl flat),some (.int m),some (sD t cs n),some (.int salt),x6,x7,x8,x9]=some (if ok=true then .nx else .ret (.bl false),[some S,R,some (.bl flat),some (.int m),some (sD t' (cs++ds) n'),some (.int salt),y6,y7,y8,y9])/\
   (ok=true->∀x,bY (!flat) m r (ds++x) t=some (x,t'))/\(ok=false->∀x,bY (!flat) m r (ds++x) t=none)/\(salt=0->flat=false->ok=true)/\pL n n' t.length t'.length ds (bR r).length
theorem zt9{GN GS:tz7}{k:Nat}{R:Option D}{flat:Bool}{m salt:Int}(hS:S.imm=true)(hN:yM S GN)(hG:∀r,cV r<k->okR r->xH S GS r)(h0:0<=m)(hs0:0<=salt)(hs1:salt<=900):∀(r:List Pc) (t:Str) (cs:List Int) (n:Nat) (x6 x7 x8 x9:Option D),cV r<=k->okR r->
  m+12*cV r<=100->Fit n cs.length t.length (bR r).length->zw3 S GN GS R flat m salt r t cs n x6 x7 x8 x9
 |[],t,cs,n,x6,x7,x8,x9,_,_,_,_=>show zw3 S GN GS R flat m salt [] t cs n x6 x7 x8 x9 by delta zw3;exact⟨true,t,[],n,x6,x7,x8,x9,by rw [List.append_nil];rfl,fun _ x=>by rw [bY];rfl,(nomatch ·),fun _ _=>rfl,⟨⟨Nat.le_refl _,Nat.le_refl _,Nat.le_refl _⟩,fun _ h=>absurd h (List.not_mem_nil)⟩⟩
 | p::r,t,cs,n,x6,x7,x8,x9,hd,ho,h1,hft=>by
  rw [okR] at ho
  rw [cV] at hd h1
  have htk:(bR (p::r)).length=(cX p).length+(bR r).length:=by rw [bR,List.length_append]
  rw [htk] at hft
  obtain⟨ok,t1,d1,n1,y7,y8,y9,q,e1,e2,e3,e4⟩:=yp0 hS hN hG (p:=p) (Nat.le_trans (Nat.le_max_left _ _) hd) ho.1 R flat m t cs n salt x7 x8 x9 h0 (zt8 h1 (Nat.le_max_left _ _)) hs0 hs1 (zd3 hft (Nat.le_add_right _ _))
  have st:∀(Y:Fl×PSt),nH kE kK GN GS [some S,R,some (.bl flat),some (.int m),some (sD t cs n),some (.int salt),some (pcD p),x7,x8,x9]=some Y->eW 6 (nH kE kK GN GS) (aK (p::r)) [some S,R,some (.bl flat),some (.int m),some (sD t cs n),some (.int salt),x6,x7,x8,x9]=(match Y with
    |(.nx,p)=>eW 6 (nH kE kK GN GS) (aK r) p
    |(.ct,p)=>eW 6 (nH kE kK GN GS) (aK r) p
    |(.bk,p)=>some (.nx,p)
    |(.ret d,p)=>some (.ret d,p)):=fun Y hY=>by
   show eW 6 _ (pcD p::aK r) _=_
   rw [eW]
   show((nH kE kK GN GS [some S,R,some (.bl flat),some (.int m),some (sD t cs n),some (.int salt),some (pcD p),x7,x8,x9]).bind _)=_
   rw [hY];rfl
  cases ok with
  |false=>
   delta zw3
   rw [htk]
   refine⟨false,t1,d1,n1,_,y7,y8,y9,st _ q,(nomatch ·),fun _ x=>by rw [bY,e2 rfl x];rfl,fun a b=>(by have:=e3 a b;cases this),yB e4 (Nat.le_add_right _ _)⟩
  |true=>
   obtain⟨ok,t2,d2,n2,z6,z7,z8,z9,q2,f1,f2,f3,f4⟩:=zt9 (R:=R) (flat:=flat) hS hN hG h0 hs0 hs1 r t1 (cs++d1) n1 (some (pcD p)) y7 y8 y9 (Nat.le_trans (Nat.le_max_right _ _) hd) ho.2 (zt8 h1 (Nat.le_max_right _ _)) (yv2 hft e4)
   rw [List.append_assoc] at q2
   delta zw3
   rw [htk]
   refine⟨ok,t2,d1++d2,n2,z6,z7,z8,z9,(st _ q).trans q2,fun h x=> ?_,fun h x=> ?_,f3,yg3 e4 f4⟩
   ·rw [bY,List.append_assoc,e1 rfl];exact f1 h x
   ·rw [bY,List.append_assoc,e1 rfl];exact f2 h x
def pS(GN:tz7):Nat->tz7
 |0=>fun _=>none
 |n+1=>gE 6 4 (bF [false,false,false,false,true,false]) (vN kE kK GN (pS GN n))
theorem ya7{GN:tz7}(hS:S.imm=true)(hN:yM S GN):∀(k:Nat) (r:List Pc),cV r<k->okR r->xH S (pS GN k) r
 |0,_,h,_=>absurd h (Nat.not_lt_zero _)
 | k+1,r,hd,ho=>fun flat m t cs n salt h0 h1 hs0 hs1 hft=>by
  obtain⟨ok,t',ds,n',y6,y7,y8,y9,q,e⟩:=zt9 (GS:=pS GN k) (k:=k) (R:=some (.tup (aK r))) (flat:=flat) hS hN (fun s hs hk=>ya7 hS hN k s hs hk) h0 hs0 hs1 r t cs n none none none none (Nat.le_of_lt_succ hd) ho h1 hft
  refine⟨ok,t',ds,n',?_,e⟩
  show gE 6 4 _ (vN kE kK GN (pS GN k)) _=_
  have s1:fI 6 (dR (aA 1)) (nH kE kK GN (pS GN k)) [some S,some (.tup (aK r)),some (.bl flat),some (.int m),some (sD t cs n),some (.int salt),none,none,none,none]=_:=q
  have z:vN kE kK GN (pS GN k) ([S,.tup (aK r),.bl flat,.int m,sD t cs n,.int salt].map some++List.replicate 4 none)=some (.ret (.bl ok),[some S,some (.tup (aK r)),some (.bl flat),some (.int m),some (sD t' (cs++ds) n'),some (.int salt),y6,y7,y8,y9]):=by
   cases ok with
   |true=>exact(aF s1).trans rfl
   |false=>exact eN s1
  unfold gE
  refine(if_pos rfl).trans ?_
  rw [z];rfl
end
section
variable{S:D}{GN:tz7}
abbrev zw4(GS:tz7):tz6:=gP 3 1 (zf5 GS)
theorem yv5{GS:tz7}{r:List Pc}{salt:Int}(hS:S.imm=true)(hL:xH S GS r)(hd:cV r<=8)(hl:(bR r).length<=800)(h0:0<=salt)(h1:salt<=900):
  ∃C t,zw4 GS [S,.tup (aK r),.int salt]=some (.tup [.str t,.tup (aP C)])/\bY true 0 r C ⟨#[]⟩=some ([],t)/\C.length<=(bR r).length/\t.length<=900000/\∀c∈C,0<=c/\c<4:=by
 have pi:=dL r
 have run:∀s:Int,0<=s->s<=900->∃ok t' ds n',GS [S,.tup (aK r),.bl false,.int 0,sD ⟨#[]⟩ [] 0,.int s]=some (.bl ok,[S,.tup (aK r),.bl false,.int 0,sD t' ds n',.int s])/\(ok=true->bY true 0 r ds ⟨#[]⟩=some ([],t'))/\(s=0->ok=true)/\ds.length<=(bR r).length/\t'.length<=900000/\∀c∈ds,0<=c/\c<4:=fun s s0 s1=>by
  obtain⟨ok,t',ds,n',q,e1,e2,e3,⟨_,e5,e6⟩,e7⟩:=hL false 0 ⟨#[]⟩ [] 0 s (Int.le_refl _) (by omega) s0 s1 ⟨by omega,by show 0+_<=_;omega,by show 0+_<=_;omega⟩
  exact⟨ok,t',ds,n',q,fun h=>by have:=e1 h [];rwa [List.append_nil] at this,fun h=>e3 h rfl,e6,(by have e5':t'.length<=0+101*(bR r).length:=e5;omega),e7⟩
 have st0:cA (aB (fC (.str "")) (aB (cA aD) (aB (fC (.int 0)) aD)))=fun _=>some (sD ⟨#[]⟩ [] 0):=by
  funext p
  refine fN (aE rfl (aE (d:= .lst true []) rfl (aE rfl rfl))) (by simp)|>.trans ?_
  rw [zs9];rfl
 have fin:∀(t':Str) (ds:List Int) (n':Nat),bQ (aH (cE (aB (aY (f2 dIx (aA 3) (fC (.int 0)))) (aB (aI dG (aB (f2 dIx (aA 3) (fC (.int 1))) aD)) aD)))) [some S,some (.tup (aK r)),some (.int salt),some (sD t' ds n')]=some (.ret (.tup [.str t',.tup (aP ds)]),[some S,some (.tup (aK r)),some (.int salt),some (sD t' ds n')]):=fun t' ds n'=>by
  have hi:=nV ds
  refine eI ?_
  simp [cE,aB,aD,aY,f2,dIx,aA,fC,sD,dM,cR,aI,dG,hi,D.imm,D.imms]
 have call:∀(s:Int) (f5:tz2) (ok:Bool) (t':Str) (ds:List Int) (n':Nat),f5 [some S,some (.tup (aK r)),some (.int salt),some (sD ⟨#[]⟩ [] 0)]=some (.int s)->GS [S,.tup (aK r),.bl false,.int 0,sD ⟨#[]⟩ [] 0,.int s]=some (.bl ok,[S,.tup (aK r),.bl false,.int 0,sD t' ds n',.int s])->
   fIO [.im (aA 0),.im (aA 1),.im (fC (.bl false)),.im (fC (.int 0)),.io 3,.im f5] GS [some S,some (.tup (aK r)),some (.int salt),some (sD ⟨#[]⟩ [] 0)]=some (.bl ok,[some S,some (.tup (aK r)),some (.int salt),some (sD t' ds n')]):=fun s f5 ok t' ds n' h5 q=>by
  generalize sD ⟨#[]⟩ [] 0=s0 at h5 q|-
  generalize sD t' ds n'=s1 at q|-
  simp [fIO,bB,aY,aA,fC,hS,pi,D.imm,D.imms,h5,q,eK]
 obtain⟨ok,t',ds,n',q,e1,_,e6⟩:=run salt h0 h1
 have s0:∀x,aS 3 (aH (cA (aB (fC (.str "")) (aB (cA aD) (aB (fC (.int 0)) aD))))) [some S,some (.tup (aK r)),some (.int salt),x]=some (.nx,[some S,some (.tup (aK r)),some (.int salt),some (sD ⟨#[]⟩ [] 0)]):=fun x=>by rw [st0];rfl
 have c1:fTE (fIO [.im (aA 0),.im (aA 1),.im (fC (.bl false)),.im (fC (.int 0)),.io 3,.im (aA 2)] GS) [some S,some (.tup (aK r)),some (.int salt),some (sD ⟨#[]⟩ [] 0)]=some (ok,[some S,some (.tup (aK r)),some (.int salt),some (sD t' ds n')]):=by
  unfold fTE
  rw [call salt (aA 2) ok t' ds n' rfl q];rfl
 cases ok with
 |true=>exact⟨ds,t',iA rfl ((aF (s0 _)).trans (eN ((zc4 c1).trans (fin t' ds n')))),e1 rfl,e6⟩
 | false=>
  obtain⟨ok2,t2,d2,n2,q2,f1,f2,f6⟩:=run 0 (Int.le_refl _) (by decide)
  have hok:=f2 rfl
  subst hok
  have c2:bA (fIO [.im (aA 0),.im (aA 1),.im (fC (.bl false)),.im (fC (.int 0)),.io 3,.im (fC (.int 0))] GS) [some S,some (.tup (aK r)),some (.int salt),some (sD ⟨#[]⟩ [] 0)]=some (.nx,[some S,some (.tup (aK r)),some (.int salt),some (sD t2 d2 n2)]):=by
   unfold bA
   rw [call 0 (fC (.int 0)) true t2 d2 n2 rfl q2];rfl
  exact⟨d2,t2,iA rfl ((aF (s0 _)).trans ((aF ((jS c1).trans rfl)).trans ((aF (s0 _)).trans ((aF c2).trans (fin t2 d2 n2))))),f1 rfl,f6⟩
end
def ifR(GM:tz6)(GS:tz7)(GL:tz6):tz1:=
 (fIf (aL (cF (fB (f2 dLt (aA 7) (fC (.int 4)))) (fB (f2 dLe (aI bV (aB (aA 4) aD)) (aA 3)))))
  (aO (aS 9 (aH (f2 dIx (cA (fKs [.str "group",.str "group",.str "hang",.str "either"])) (aA 7))))
 (bA (bG 4 aW (aB (cA (aB (aY (aA 9)) (aB (f2 dIx (cA (aB (fC (.int 1)) (aB (fC (.int 2)) (aB (fC (.int 4)) (aB (f2 cU (f2 gM (aA 6) (fC (.int 13))) (fC (.int 13))) aD))))) (f2 cU (f2 gM (aA 6) (fC (.int 169))) (fC (.int 4)))) (aB (cA aD) (aB (cA aD) aD))))) aD) bC)))
  (fIf (aL (cF (fB (f2 dEq (aA 7) (fC (.int 4)))) (fB (f2 dGt (aI bV (aB (aA 4) aD)) (fC (.int 1))))))
  (bA (fIO [.io 4] GS))
  (fIf (aL (cF (fB (f2 dLt (aA 7) (fC (.int 7)))) (cF (fB (f2 dEq (aA 8) (fC (.str "either")))) (fB (f2 dLt (aI bV (aB (f2 dIx (f2 dIx (aA 4) (eO (fC (.int 1)))) (fC (.int 2))) aD)) (fC (.int 3)))))))
  (aO (bA (bG 4 (dP 4 (dP 4 aW (eO (fC (.int 1)))) (fC (.int 2))) (aB (aI dG (aB (f2 dIx (f2 dIx (aA 4) (eO (fC (.int 1)))) (fC (.int 3))) aD)) aD) bC))
 (dS 4 (dP 4 aW (eO (fC (.int 1)))) (fC (.int 3)) (cA aD)))
  (bA (bG 4 (dP 4 (dP 4 aW (eO (fC (.int 1)))) (fC (.int 3))) (aB (aI GL (aB (aI GM (aB (aA 0) (aB (aA 5) (aB (fC (.int 32)) aD)))) aD)) aD) bC)))))
def vP(GM:tz6)(GS:tz7)(GL:tz6):tz1:=
   (aO (aS 6 (aH (aI GM (aB (aA 0) (aB (aA 5) (aB (fC (.int 31)) aD))))))
 (aO (aS 7 (aH (f2 cU (aA 6) (fC (.int 13)))))
 (aO (aS 8 (aH (aY (f2 dIx (f2 dIx (aA 4) (eO (fC (.int 1)))) (fC (.int 0))))))
 (ifR GM GS GL))))
section
variable{GM:tz6}{GS:tz7}{GL:tz6}{S:D}{x1 x2 x6 x7 x8 x9:Option D}{nest:Nat}{f:Gm}{fs:List Gm}{i m:Int}
theorem yp1(hm:GM [S,.int i,.int 31]=some (.int m)):vP GM GS GL [some S,x1,x2,some (.int nest),some (.lst true (cM (f::fs))),some (.int i),x6,x7,x8,x9]
  =ifR GM GS GL [some S,x1,x2,some (.int nest),some (.lst true (cM (f::fs))),some (.int i),some (.int m),some (.int (m % 13)),some (.str (kdS f.kd)),x9]:=by
 unfold vP
 refine(aF (bZ (bJ rfl hm))).trans ?_
 refine(aF (bZ (d:= .int (m % 13)) (by simp [aO,aZ,aS,aH,fIf,aL,fB,f2,aA,fC,aY,bQ,bA,bG,aW,cB,cH,aB,aD,cA,cE,fKs,aI,dEq,dNe,eqB,dB,dIx,bV,bC,D.imm,D.imms,dG,bE,fT,cP,bP,dM,cR,fW,dP,dS,gC,eO,cF,eH,dE,dLt,dLe,dGt,dGe,fIO,bB,eK,cS,eG,iD,iE,qD,L2.iU,oK,oM,jT]))).trans ?_
 exact aF (bZ (d:= .str (kdS f.kd)) (by simp [aO,aZ,aS,aH,fIf,aL,fB,f2,aA,fC,aY,bQ,bA,bG,aW,cB,cH,aB,aD,cA,cE,fKs,aI,dEq,dNe,eqB,dB,dIx,bV,bC,D.imm,D.imms,dG,bE,fT,cP,bP,dM,cR,fW,dP,dS,gC,eO,cF,eH,dE,dLt,dLe,dGt,dGe,fIO,bB,eK,cS,eG,iD,iE,qD,L2.iU,oK,oM,jT,cM,gmD]))
theorem xi9(a k:Int)(ha:0<=a/\a<=12):∃n:Int,atI [D.int 1,.int 2,.int 4,.int a] (k % 4)=some (.int n)/\0<=n/\n<=12:=by
 have h0:=Int.emod_nonneg k (show(4:Int)≠0 by decide)
 have h1:=Int.emod_lt_of_pos k (show(0:Int)<4 by decide)
 obtain⟨d,hd,e⟩:=nU [D.int 1,.int 2,.int 4,.int a] (k % 4) h0 (by simpa using h1)
 simp only [List.mem_cons,List.not_mem_nil,or_false] at hd
 rcases hd with rfl|rfl|rfl|rfl
 ·exact⟨_,e,by decide,by decide⟩
 ·exact⟨_,e,by decide,by decide⟩
 ·exact⟨_,e,by decide,by decide⟩
 ·exact⟨_,e,ha⟩
theorem xc8(m:Int)(h0:0<=m % 13)(h:m % 13<4):∃kd:Nat,atI [D.str (Str.ofString "group"),.str (Str.ofString "group"),.str (Str.ofString "hang"),.str (Str.ofString "either")] (m % 13)=some (.str (kdS kd))/\1<=kd/\kd<=3:=by
 have hn:m % 13=0\/m % 13=1\/m % 13=2\/m % 13=3:=by omega
 rcases hn with e|e|e|e<;>rw [e]
 ·exact⟨1,rfl,by decide,by decide⟩
 ·exact⟨1,rfl,by decide,by decide⟩
 ·exact⟨2,rfl,by decide,by decide⟩
 ·exact⟨3,rfl,by decide,by decide⟩
theorem zd6{a b:Prop}[Decidable a][Decidable b](h:¬(a/\b)):(decide a&&decide b)=false:=by
 by_cases ha:a
 ·rw [decide_eq_false (fun hb=>h ⟨ha,hb⟩),Bool.and_false]
 ·rw [decide_eq_false ha,Bool.false_and]
theorem ya8{a b:Prop}[Decidable a][Decidable b](ha:a)(hb:b):(decide a&&decide b)=true:=by rw [decide_eq_true ha,decide_eq_true hb];rfl
theorem zd7{f g:tz4}{p:PSt}{a b:Bool}(h1:f p=some a)(h2:g p=some b):cF f g p=some (a&&b):=by
 cases a with
 |true=>exact iB h1 h2
 |false=>exact jM h1
theorem yg5{N:List D}{w:Int}{x0 x5 x6:Option D}:cF (fB (f2 dLt (aA 7) (fC (.int 4)))) (fB (f2 dLe (aI bV (aB (aA 4) aD)) (aA 3))) [x0,x1,x2,some (.int nest),some (.lst true N),x5,x6,some (.int w),x8,x9]=some (decide (w<4)&&decide ((N.length:Int)<=(nest:Int))):=
 zd7 (eS (aT rfl rfl rfl)) (eS (aT (bJ (aE rfl rfl) rfl) rfl rfl))
theorem yy6{N:List D}{w:Int}{x0 x3 x5 x6:Option D}:cF (fB (f2 dEq (aA 7) (fC (.int 4)))) (fB (f2 dGt (aI bV (aB (aA 4) aD)) (fC (.int 1)))) [x0,x1,x2,x3,some (.lst true N),x5,x6,some (.int w),x8,x9]=some (decide (w=4)&&decide ((1:Int)<(N.length:Int))):=
 zd7 (eS (aT rfl rfl rfl)) (eS (aT (bJ (aE rfl rfl) rfl) rfl rfl))
theorem ya9{p:PSt}{j:Nat}{M:List D}{d:D}(hp:p[j]? =some (some (.lst true (M++[d])))):f2 dIx (aA j) (eO (fC (.int 1))) p=some d:=aT (gU hp) rfl (show atI (M++[d]) (-1)=_ from L2.iU _ _)
theorem yy7{M R:List D}{w:Int}{k:String}{a b c:D}{x0 x3 x5 x6:Option D}:cF (fB (f2 dLt (aA 7) (fC (.int 7)))) (cF (fB (f2 dEq (aA 8) (fC (.str "either")))) (fB (f2 dLt (aI bV (aB (f2 dIx (f2 dIx (aA 4) (eO (fC (.int 1)))) (fC (.int 2))) aD)) (fC (.int 3))))) [x0,x1,x2,x3,some (.lst true (M++[.lst true [a,b,.lst true R,c]])),x5,x6,some (.int w),some (.str k),x9]=some (decide (w<7)&&(decide (k="either")&&decide ((R.length:Int)<3))):=by
 refine zd7 (eS (aT rfl rfl rfl)) (zd7 (eS (aT rfl rfl ?_)) (eS (aT (bJ (aE (aT (ya9 (j:=4) rfl) rfl (fW _ _ _ _)) rfl) rfl) rfl rfl)))
 show some (D.bl (decide ((k:Str)=(("either":String):Str))))=_
 congr 2
 exact decide_eq_decide.mpr (by rw [bP])
theorem yp2{p:PSt}{j:Nat}{M:List D}{k n:Nat}{l:List D}(hp:p[j]? =some (some (.lst true (M++[.lst true l]))))(hk:ixN l.length (k:Int)=some n):dP j (dP j aW (eO (fC (.int 1)))) (fC (.int (k:Int))) p=some [.ix M.length,.ix n]:=by
 have e1:ixN (M++[D.lst true l]).length (-1)=some M.length:=by rw [List.length_append];exact iD _
 have e2:(M++[D.lst true l])[M.length]? =some (.lst true l):=by simp [aO,aZ,aS,aH,fIf,aL,fB,f2,aA,fC,aY,bQ,bA,bG,aW,cB,cH,aB,aD,cA,cE,fKs,aI,dEq,dNe,eqB,dB,dIx,bV,bC,D.imm,D.imms,dG,bE,fT,cP,bP,dM,cR,fW,dP,dS,gC,eO,cF,eH,dE,dLt,dLe,dGt,dGe,fIO,bB,eK,cS,eG,iD,iE,qD,L2.iU,oK,oM,jT]
 simp [aO,aZ,aS,aH,fIf,aL,fB,f2,aA,fC,aY,bQ,bA,bG,aW,cB,cH,aB,aD,cA,cE,fKs,aI,dEq,dNe,eqB,dB,dIx,bV,bC,D.imm,D.imms,dG,bE,fT,cP,bP,dM,cR,fW,dP,dS,gC,eO,cF,eH,dE,dLt,dLe,dGt,dGe,fIO,bB,eK,cS,eG,iD,iE,qD,L2.iU,oK,oM,jT,dP,aW,hp,cH,e1,e2,hk,eO,fC]
theorem yv6{α:Type}{h:D->Option (α×D)}{M l:List D}{n:Nat}{d d':D}{r:α}(hl:l[n]? =some d)(e:h d=some (r,d')):cB h (.lst true (M++[.lst true l])) [.ix M.length,.ix n]=some (r,.lst true (M++[.lst true (l.set n d')])):=by
 have e2:(M++[D.lst true l])[M.length]? =some (.lst true l):=by simp [aO,aZ,aS,aH,fIf,aL,fB,f2,aA,fC,aY,bQ,bA,bG,aW,cB,cH,aB,aD,cA,cE,fKs,aI,dEq,dNe,eqB,dB,dIx,bV,bC,D.imm,D.imms,dG,bE,fT,cP,bP,dM,cR,fW,dP,dS,gC,eO,cF,eH,dE,dLt,dLe,dGt,dGe,fIO,bB,eK,cS,eG,iD,iE,qD,L2.iU,oK,oM,jT]
 show(((M++[D.lst true l])[M.length]?).bind _)=_
 rw [e2,Option.bind_some]
 show(((l[n]?).bind _).bind _)=_
 rw [hl,Option.bind_some]
 show(((h d).bind _).bind _)=_
 rw [e]
 show some (r,D.lst true ((M++[D.lst true l]).set M.length _))=_
 rw [iE]
theorem zu0{p:PSt}{j k n:Nat}{M l xs:List D}{fe:tz2}{y:D}(hp:p[j]? =some (some (.lst true (M++[.lst true l]))))(hk:ixN l.length (k:Int)=some n)(hl:l[n]? =some (.lst true xs))(h:fe p=some y)(hz:xs.length<sizeLine):bA (bG j (dP j (dP j aW (eO (fC (.int 1)))) (fC (.int (k:Int)))) (aB fe aD) bC) p=some (.nx,p.set j (some (.lst true (M++[.lst true (l.set n (.lst true (xs++[y])))])))):=by
 refine lW (d:= .non) ?_
 unfold bG
 rw [hp,Option.join_some,Option.bind_some,yp2 hp hk,Option.bind_some,aE h rfl,Option.bind_some,yv6 hl (show bC [y] (.lst true xs)=_ from if_pos hz)]
 rfl
theorem yg6{p:PSt}{j k n:Nat}{M l:List D}{fe:tz2}{y:D}(hp:p[j]? =some (some (.lst true (M++[.lst true l]))))(hk:ixN l.length (k:Int)=some n)(h:fe p=some y):dS j (dP j aW (eO (fC (.int 1)))) (fC (.int (k:Int))) fe p=some (.nx,p.set j (some (.lst true (M++[.lst true (l.set n y)])))):=by
 have e1:ixN (M++[D.lst true l]).length (-1)=some M.length:=by rw [List.length_append];exact iD _
 have e2:(M++[D.lst true l])[M.length]? =some (.lst true l):=by simp [aO,aZ,aS,aH,fIf,aL,fB,f2,aA,fC,aY,bQ,bA,bG,aW,cB,cH,aB,aD,cA,cE,fKs,aI,dEq,dNe,eqB,dB,dIx,bV,bC,D.imm,D.imms,dG,bE,fT,cP,bP,dM,cR,fW,dP,dS,gC,eO,cF,eH,dE,dLt,dLe,dGt,dGe,fIO,bB,eK,cS,eG,iD,iE,qD,L2.iU,oK,oM,jT]
 have ep:dP j aW (eO (fC (.int 1))) p=some [.ix M.length]:=by simp [aO,aZ,aS,aH,fIf,aL,fB,f2,aA,fC,aY,bQ,bA,bG,aW,cB,cH,aB,aD,cA,cE,fKs,aI,dEq,dNe,eqB,dB,dIx,bV,bC,D.imm,D.imms,dG,bE,fT,cP,bP,dM,cR,fW,dP,dS,gC,eO,cF,eH,dE,dLt,dLe,dGt,dGe,fIO,bB,eK,cS,eG,iD,iE,qD,L2.iU,oK,oM,jT,dP,aW,hp,cH,e1,eO,fC]
 unfold dS
 rw [h,Option.bind_some,hp,Option.join_some,Option.bind_some,ep,Option.bind_some]
 show((cB (gC (.int (k:Int)) y) (.lst true (M++[.lst true l])) [.ix M.length]).bind _)=_
 have em:cB (gC (.int (k:Int)) y) (.lst true (M++[.lst true l])) [.ix M.length]=some ((),.lst true (M++[.lst true (l.set n y)])):=by
  show(((M++[D.lst true l])[M.length]?).bind _)=_
  rw [e2,Option.bind_some]
  show(((ixN l.length (k:Int)).bind _).bind _)=_
  rw [hk]
  show some ((),D.lst true ((M++[D.lst true l]).set M.length _))=_
  rw [iE]
 rw [em];rfl
theorem yp3(hw:m % 13<4)(hl:(f::fs).length<=nest)(hz:(f::fs).length<=900):∃kd n y9,ifR GM GS GL [some S,x1,x2,some (.int nest),some (.lst true (cM (f::fs))),some (.int i),some (.int m),some (.int (m % 13)),x8,x9]
  =some (.nx,[some S,x1,x2,some (.int nest),some (.lst true (cM (⟨kd,n,[],[]⟩::f::fs))),some (.int i),some (.int m),some (.int (m % 13)),x8,y9])/\(1<=kd/\kd<=3)/\0<=n/\n<=12:=by
 have h0:=Int.emod_nonneg m (show(13:Int)≠0 by decide)
 have d0:=Int.emod_nonneg (m/13) (show(13:Int)≠0 by decide)
 have d1:=Int.emod_lt_of_pos (m/13) (show(0:Int)<13 by decide)
 obtain⟨kd,q1,hk1,hk2⟩:=xc8 m h0 hw
 obtain⟨n,q2,hn1,hn2⟩:=xi9 (m/13 % 13) (m/169) ⟨d0,Int.le_of_lt_add_one d1⟩
 have hz':(cM (f::fs)).length<sizeLine:=by rw [pC];exact sz1 (by omega)
 have hl':((cM (f::fs)).length:Int)<=(nest:Int):=by rw [pC];exact Int.ofNat_le.mpr hl
 refine⟨kd,n,some (.str (kdS kd)),?_,⟨hk1,hk2⟩,hn1,hn2⟩
 have e:cM (⟨kd,n,[],[]⟩::f::fs)=cM (f::fs)++[.lst true [.str (kdS kd),.int n,.lst true [],.lst true []]]:=rfl
 rw [e]
 generalize cM (f::fs)=N at hz' hl'|-
 unfold ifR
 refine(cT (yg5.trans (by rw [ya8 hw hl']))).trans ((aF (bZ (aT (fN rfl (Nat.le_of_ble_eq_true rfl)) rfl q1))).trans ?_)
 refine lW (d:= .non) ?_
 unfold bG
 rw [aE (fN (aE (eQ (d:= .str (kdS kd)) rfl rfl) (aE (aT (fN (aE rfl (aE rfl (aE rfl (aE (aT (aT rfl rfl ((eG _ _).trans (if_pos (by decide)))) rfl ((cS _ _).trans (if_pos (by decide)))) rfl)))) (Nat.le_of_ble_eq_true rfl)) (aT (aT rfl rfl ((eG _ _).trans (if_pos (by decide)))) rfl ((cS _ _).trans (if_pos (by decide)))) q2) (aE (fN rfl (Nat.le_of_ble_eq_true rfl)) (aE (fN rfl (Nat.le_of_ble_eq_true rfl)) rfl)))) (Nat.le_of_ble_eq_true rfl)) rfl]
 show((bC [.lst true [.str (kdS kd),.int n,.lst true [],.lst true []]] (.lst true N)).bind _)=_
 rw [show bC [.lst true [.str (kdS kd),.int n,.lst true [],.lst true []]] (.lst true N)=_ from if_pos hz']
 rfl
theorem yp4{g:Gm}(q:GS [.lst true (cM (f::g::fs))]=some (.non,[.lst true (cM (lL g (iM f)::fs))]))(hw:m % 13=4):
  ifR GM GS GL [some S,x1,x2,some (.int nest),some (.lst true (cM (f::g::fs))),some (.int i),some (.int m),some (.int (m % 13)),x8,x9]
  =some (.nx,[some S,x1,x2,some (.int nest),some (.lst true (cM (lL g (iM f)::fs))),some (.int i),some (.int m),some (.int (m % 13)),x8,x9]):=by
 have hl:(1:Int)<((cM (f::g::fs)).length:Int):=by rw [pC];simp;omega
 unfold ifR
 exact(jS (gG (yg5.trans (by rw [zd6 (fun z=>by omega)])))).trans ((cT (yy6.trans (by rw [ya8 hw hl]))).trans (lW (tU (qV rfl gN) q rfl)))
theorem yb0(hw:¬(m % 13<4/\(f::fs).length<=nest))(hw4:¬(m % 13=4/\fs≠[])){F1 F2 F3:tz1}:fIf (aL (cF (fB (f2 dLt (aA 7) (fC (.int 4)))) (fB (f2 dLe (aI bV (aB (aA 4) aD)) (aA 3))))) F1 (fIf (aL (cF (fB (f2 dEq (aA 7) (fC (.int 4)))) (fB (f2 dGt (aI bV (aB (aA 4) aD)) (fC (.int 1)))))) F2 F3) [some S,x1,x2,some (.int nest),some (.lst true (cM (f::fs))),some (.int i),some (.int m),some (.int (m % 13)),x8,x9]
  =F3 [some S,x1,x2,some (.int nest),some (.lst true (cM (f::fs))),some (.int i),some (.int m),some (.int (m % 13)),x8,x9]:=by
 have hl:(cM (f::fs)).length=(f::fs).length:=pC _
 have hn:¬(m % 13=4/\(1:Int)<((f::fs).length:Int)):=fun z=>hw4 ⟨z.1,fun e=>by rw [e] at z;exact absurd z.2 (Int.lt_irrefl 1)⟩
 exact(jS (gG (yg5.trans (by rw [hl,zd6 (fun z=>hw ⟨z.1,Int.ofNat_le.mp z.2⟩)])))).trans (jS (gG (yy6.trans (by rw [hl,zd6 hn]))))
theorem xc9(hw:¬(m % 13<4/\(f::fs).length<=nest))(hw4:¬(m % 13=4/\fs≠[]))(hw7:m % 13<7)(hk:f.kd=3)(hf:f.full.length<3):
  ifR GM GS GL [some S,x1,x2,some (.int nest),some (.lst true (cM (f::fs))),some (.int i),some (.int m),some (.int (m % 13)),some (.str (kdS f.kd)),x9]
  =some (.nx,[some S,x1,x2,some (.int nest),some (.lst true (cM ({f with full:=f.full++[f.parts],parts:=[]}::fs))),some (.int i),some (.int m),some (.int (m % 13)),some (.str (kdS f.kd)),x9]):=by
 unfold ifR
 refine(yb0 hw hw4).trans ?_
 obtain⟨kd,n,full,parts⟩:=f
 have hk':kd=3:=hk
 subst hk'
 have hz:(cK full).length<sizeLine:=by rw [kA];exact sz1 (by have:full.length<3:=hf;omega)
 have hf':((cK full).length:Int)<3:=by rw [kA];exact Int.ofNat_lt.mpr hf
 have er:cK (full++[parts])=cK full++[.tup (aK parts)]:=by rw [wT];rfl
 have b3:(decide (m % 13<7)&&(decide (kdS 3="either")&&decide (((cK full).length:Int)<3)))=true:=by rw [decide_eq_true hw7,decide_eq_true hf'];rfl
 have s1:=zu0 (p:=[some S,x1,x2,some (.int nest),some (.lst true (cM (⟨3,n,full,parts⟩::fs))),some (.int i),some (.int m),some (.int (m % 13)),some (.str (kdS 3)),x9]) (j:=4) (k:=2) (n:=2) (M:=cM fs) (fe:=aI dG (aB (f2 dIx (f2 dIx (aA 4) (eO (fC (.int 1)))) (fC (.int 3))) aD)) rfl rfl rfl (bJ (aE (aT (ya9 (M:=cM fs) rfl) rfl (xo9 _ _ _ _)) rfl) (if_pos (dL parts))) hz
 rw [<-er] at s1
 have s2:=yg6 (p:=[some S,x1,x2,some (.int nest),some (.lst true (cM fs++[.lst true [.str (kdS 3),.int n,.lst true (cK (full++[parts])),.lst true (aK parts)]])),some (.int i),some (.int m),some (.int (m % 13)),some (.str (kdS 3)),x9]) (j:=4) (k:=3) (n:=3) (M:=cM fs) (fe:=cA aD) (y:= .lst true []) rfl rfl (fN rfl (Nat.le_of_ble_eq_true rfl))
 exact(cT (yy7.trans (congrArg some b3))).trans ((aF s1).trans s2)
theorem yp5{l:Leaf}{m2:Int}(hm2:GM [S,.int i,.int 32]=some (.int m2))(hL:GL [.int m2]=some (cJ l))(hz:f.parts.length<=900)
  (hw:¬(m % 13<4/\(f::fs).length<=nest)) (hw4:¬(m % 13=4/\fs≠[])) (h3:¬(m % 13<7/\f.kd=3/\f.full.length<3)) (hkd:f.kd<=3):
  ifR GM GS GL [some S,x1,x2,some (.int nest),some (.lst true (cM (f::fs))),some (.int i),some (.int m),some (.int (m % 13)),some (.str (kdS f.kd)),x9]
  =some (.nx,[some S,x1,x2,some (.int nest),some (.lst true (cM (lL f (.leaf l)::fs))),some (.int i),some (.int m),some (.int (m % 13)),some (.str (kdS f.kd)),x9]):=by
 have hz':(aK f.parts).length<sizeLine:=by rw [zN];exact sz1 (by omega)
 have ep:aK (f.parts++[.leaf l])=aK f.parts++[cJ l]:=by rw [uU];rfl
 have b3:(decide (m % 13<7)&&(decide (kdS f.kd="either")&&decide (((cK f.full).length:Int)<3)))=false:=by
  by_cases a1:m % 13<7
  ·rw [zd6,Bool.and_false]
   intro ⟨z1,z2⟩
   rw [kA] at z2
   have hk:f.kd=0\/f.kd=1\/f.kd=2\/f.kd=3:=by omega
   rcases hk with e|e|e|e
   ·rw [e] at z1;exact absurd z1 (by decide)
   ·rw [e] at z1;exact absurd z1 (by decide)
   ·rw [e] at z1;exact absurd z1 (by decide)
   ·exact h3 ⟨a1,e,Int.ofNat_lt.mp z2⟩
  ·rw [decide_eq_false a1,Bool.false_and]
 unfold ifR
 refine(yb0 hw hw4).trans ((jS (gG (yy7.trans (by rw [b3])))).trans ?_)
 have e:cM (lL f (.leaf l)::fs)=cM fs++[.lst true [.str (kdS f.kd),.int f.n,.lst true (cK f.full),.lst true (aK f.parts++[cJ l])]]:=by rw [<-ep];rfl
 rw [e]
 have s1:=zu0 (p:=[some S,x1,x2,some (.int nest),some (.lst true (cM (f::fs))),some (.int i),some (.int m),some (.int (m % 13)),some (.str (kdS f.kd)),x9]) (j:=4) (k:=3) (n:=3) (M:=cM fs) (fe:=aI GL (aB (aI GM (aB (aA 0) (aB (aA 5) (aB (fC (.int 32)) aD)))) aD)) rfl rfl rfl (bJ (aE (bJ (aE rfl (aE rfl (aE rfl rfl))) hm2) rfl) hL) hz'
 exact s1
end
section
variable{GM:tz6}{GS:tz7}{GL:tz6}{S:D}{x1 x2 x6 x7 x8 x9:Option D}{nest k:Nat}{fs:List Gm}{i:Int}
theorem yg7{f:Gm}{fs:List Gm}(h:zw1 (f::fs)):f.kd<=3:=by
 cases fs with
 |nil=>have:f.kd=0:=h;omega
 |cons g fs=>exact h.1.2
theorem xd0(hS:∀(f g:Gm) (fs:List Gm),(1<=f.kd/\f.kd<=3)->(f.kd≠3->f.full=[])->f.full.length<=3->g.parts.length<=900->GS [.lst true (cM (f::g::fs))]=some (.non,[.lst true (cM (lL g (iM f)::fs))]))
  (hL:∀m,0<=m->∃l,GL [.int m]=some (cJ l)/\fL l) (hM:∀s:Int,s=31\/s=32->∃m,GM [S,.int i,.int s]=some (.int m)/\0<=m) (h:GInv nest k fs) (hk:4*k+4<=800) (hn:nest<=100):
  ∃fs' y6 y7 y8 y9,vP GM GS GL [some S,x1,x2,some (.int nest),some (.lst true (cM fs)),some (.int i),x6,x7,x8,x9]=some (.nx,[some S,x1,x2,some (.int nest),some (.lst true (cM fs')),some (.int i),y6,y7,y8,y9])/\GInv nest (k+1) fs':=by
 obtain⟨m,hm,hm0⟩:=hM 31 (.inl rfl)
 obtain⟨m2,hm2,hm20⟩:=hM 32 (.inr rfl)
 have hln:=h.len
 cases fs with
 |nil=>exact h.kinds.elim
 | cons f fs=>
  have hd:=yp1 (GS:=GS) (GL:=GL) (x1:=x1) (x2:=x2) (x6:=x6) (x7:=x7) (x8:=x8) (x9:=x9) (nest:=nest) (f:=f) (fs:=fs) hm
  by_cases c1:m % 13<4/\(f::fs).length<=nest
  ·obtain⟨kd,n,y9,q,h1,h2⟩:=yp3 (GM:=GM) (GS:=GS) (GL:=GL) (S:=S) (x1:=x1) (x2:=x2) (x8:=some (.str (kdS f.kd))) (x9:=x9) (i:=i) c1.1 c1.2 (by omega)
   exact⟨_,_,_,_,y9,hd.trans q,h.opener h1 h2 c1.2⟩
  ·by_cases c2:m % 13=4/\fs≠[]
   ·cases fs with
    |nil=>exact absurd rfl c2.2
    |cons g fs=>
     have hf:=h.each f List.mem_cons_self
     have hg:=h.parts (f:=g) (List.mem_cons_of_mem _ List.mem_cons_self)
     have q:=yp4 (GM:=GM) (GL:=GL) (S:=S) (x1:=x1) (x2:=x2) (x8:=some (.str (kdS f.kd))) (x9:=x9) (nest:=nest) (i:=i) (hS f g fs h.kinds.1 hf.2.2.2.1 hf.2.2.1 (by omega)) c2.1
     exact⟨_,_,_,_,_,hd.trans q,h.shut.more (by omega)⟩
   ·by_cases c3:m % 13<7/\f.kd=3/\f.full.length<3
    ·have q:=xc9 (GM:=GM) (GS:=GS) (GL:=GL) (S:=S) (x1:=x1) (x2:=x2) (x9:=x9) (i:=i) c1 c2 c3.1 c3.2.1 c3.2.2
     exact⟨_,_,_,_,_,hd.trans q,h.orr c3.2.2 c3.2.1⟩
    ·obtain⟨l,hl,hlk⟩:=hL m2 hm20
     have q:=yp5 (GM:=GM) (GS:=GS) (GL:=GL) (S:=S) (x1:=x1) (x2:=x2) (x9:=x9) (i:=i) hm2 hl (by have:=h.parts (f:=f) List.mem_cons_self;omega) c1 c2 c3 (yg7 h.kinds)
     exact⟨_,_,_,_,_,hd.trans q,h.leaf hlk⟩
theorem yb1(hS:∀(f g:Gm) (fs:List Gm),(1<=f.kd/\f.kd<=3)->(f.kd≠3->f.full=[])->f.full.length<=3->g.parts.length<=900->GS [.lst true (cM (f::g::fs))]=some (.non,[.lst true (cM (lL g (iM f)::fs))]))
  (hL:∀m,0<=m->∃l,GL [.int m]=some (cJ l)/\fL l) (hn:nest<=100):∀(l:List Int) (fs:List Gm) (k:Nat) (x5 x6 x7 x8 x9:Option D),(∀j∈l,∀s:Int,s=31\/s=32->∃m,GM [S,.int j,.int s]=some (.int m)/\0<=m)->GInv nest k fs->4*(k+l.length)+4<=800->
  ∃fs' y5 y6 y7 y8 y9,eW 5 (vP GM GS GL) (l.map .int) [some S,x1,x2,some (.int nest),some (.lst true (cM fs)),x5,x6,x7,x8,x9]=some (.nx,[some S,x1,x2,some (.int nest),some (.lst true (cM fs')),y5,y6,y7,y8,y9])/\GInv nest (k+l.length) fs'
 |[],fs,k,x5,x6,x7,x8,x9,_,h,_=>⟨fs,x5,x6,x7,x8,x9,by simp [aO,aZ,aS,aH,fIf,aL,fB,f2,aA,fC,aY,bQ,bA,aB,aD,cA,aI,dB,dIx,bV,dGt,D.imm,D.imms,dG,bE,fT,cP,dM,cR,fW,fIO,bB,eK,jT,eW],h⟩
 |j::l,fs,k,x5,x6,x7,x8,x9,hM,h,hk=>by
  rw [List.length_cons] at hk
  obtain⟨fs1,y6,y7,y8,y9,q,h1⟩:=xd0 (x1:=x1) (x2:=x2) (x6:=x6) (x7:=x7) (x8:=x8) (x9:=x9) hS hL (hM j List.mem_cons_self) h (by omega) hn
  obtain⟨fs2,z5,z6,z7,z8,z9,q2,h2⟩:=yb1 hS hL hn l fs1 (k+1) (some (.int j)) y6 y7 y8 y9 (fun i hi=>hM i (List.mem_cons_of_mem _ hi)) h1 (by omega)
  refine⟨fs2,z5,z6,z7,z8,z9,?_,(show k+1+l.length=k+(j::l).length by rw [List.length_cons];omega)▸h2⟩
  rw [<-q2]
  show(vP GM GS GL [some S,x1,x2,some (.int nest),some (.lst true (cM fs)),some (.int j),x6,x7,x8,x9]).bind _=_
  rw [q];rfl
def zg0(GS:tz7)(n:Nat):tz1:=lG (aL (fB (f2 dGt (aI bV (aB (aA 4) aD)) (fC (.int 1))))) (bA (fIO [.io 4] GS)) n
theorem yb2{x0 x3 x5:Option D}(hS:∀(f g:Gm) (fs:List Gm),(1<=f.kd/\f.kd<=3)->(f.kd≠3->f.full=[])->f.full.length<=3->g.parts.length<=900->GS [.lst true (cM (f::g::fs))]=some (.non,[.lst true (cM (lL g (iM f)::fs))]))(hk:4*k+4<=800):
  ∀(n:Nat) (fs:List Gm),fs.length<=n->GInv nest k fs->∃f,zg0 GS n [x0,x1,x2,x3,some (.lst true (cM fs)),x5,x6,x7,x8,x9]=some (.nx,[x0,x1,x2,x3,some (.lst true (cM [f])),x5,x6,x7,x8,x9])/\GInv nest k [f]
 |0,[],_,h=>h.kinds.elim
 |0,_::_,hl,_=>by simp [aO,aZ,aS,aH,fIf,aL,fB,f2,aA,fC,aY,bQ,bA,aB,aD,cA,aI,dB,dIx,bV,dGt,D.imm,D.imms,dG,bE,fT,cP,dM,cR,fW,fIO,bB,eK,jT] at hl
 |n+1,[],_,h=>h.kinds.elim
 |n+1,[f],_,h=>by
  refine⟨f,?_,h⟩
  unfold zg0
  rw [lG]
  have hl:(cM [f]).length=1:=rfl
  generalize cM [f]=N at hl|-
  simp [aO,aZ,aS,aH,fIf,aL,fB,f2,aA,fC,aY,bQ,bA,aB,aD,cA,aI,dB,dIx,bV,dGt,D.imm,D.imms,dG,bE,fT,cP,dM,cR,fW,fIO,bB,eK,jT,hl]
 |n+1,f::g::fs,hl,h=>by
  have hf:=h.each f List.mem_cons_self
  have hg:=h.parts (f:=g) (List.mem_cons_of_mem _ List.mem_cons_self)
  have q:=hS f g fs h.kinds.1 hf.2.2.2.1 hf.2.2.1 (by omega)
  obtain⟨f',w,h'⟩:=yb2 (x0:=x0) (x3:=x3) (x5:=x5) hS hk n (lL g (iM f)::fs) (by simp [aO,aZ,aS,aH,fIf,aL,fB,f2,aA,fC,aY,bQ,bA,aB,aD,cA,aI,dB,dIx,bV,dGt,D.imm,D.imms,dG,bE,fT,cP,dM,cR,fW,fIO,bB,eK,jT] at hl|-;omega) h.shut
  refine⟨f',?_,h'⟩
  rw [<-w]
  have hl2:(cM (f::g::fs)).length=fs.length+1+1:=by rw [pC];rfl
  have hpos:(1:Int)<((fs.length:Int)+1+1):=by omega
  show lG _ _ (n+1) _=_
  rw [lG]
  generalize cM (f::g::fs)=N at q hl2|-
  generalize cM (lL g (iM f)::fs)=M at q|-
  simp [aO,aZ,aS,aH,fIf,aL,fB,f2,aA,fC,aY,bQ,bA,aB,aD,cA,aI,dB,dIx,bV,dGt,D.imm,D.imms,dG,bE,fT,cP,dM,cR,fW,fIO,bB,eK,jT,hl2,hpos,q,zg0]
def xs3(n:Nat)(GM:tz6)(GS:tz7)(GL:tz6):tz1:=
 aO (aS 4 (aH (cA (aB (cA (aB (fC (.str "top")) (aB (fC (.int 0)) (aB (cA aD) (aB (cA aD) aD))))) aD)))) (aO (fI 5 (yG (aB (aA 1) (aB (f2 bE (aA 1) (aA 2)) aD))) (vP GM GS GL)) (aO (zg0 GS n) (bQ (aH (aI dG (aB (f2 dIx (f2 dIx (aA 4) (fC (.int 0))) (fC (.int 3))) aD))))))
structure RowOk(nest w:Nat)(r:List Pc):Prop where
 ok:okR r
 dep:cV r<=nest
 len:(bR r).length<=w
theorem xn0{a many n:Nat}(hS:∀(f g:Gm) (fs:List Gm),(1<=f.kd/\f.kd<=3)->(f.kd≠3->f.full=[])->f.full.length<=3->g.parts.length<=900->GS [.lst true (cM (f::g::fs))]=some (.non,[.lst true (cM (lL g (iM f)::fs))]))
  (hL:∀m,0<=m->∃l,GL [.int m]=some (cJ l)/\fL l) (hM:∀j s:Int,(a:Int)<=j/\j<a+many->s=31\/s=32->∃m,GM [S,.int j,.int s]=some (.int m)/\0<=m) (hn:nest<=100) (hmany:many<=90) (ha:a<=1000) (hnn:nest<n):
  ∃r,gP 4 6 (xs3 n GM GS GL) [S,.int a,.int many,.int nest]=some (.tup (aK r))/\RowOk nest (4*many) r:=by
 have i0:GInv nest 0 [⟨0,0,[],[]⟩]:=⟨by simp [aO,aZ,aS,aH,fIf,aL,fB,f2,aA,fC,aY,bQ,bA,aB,aD,cA,aI,dB,dIx,bV,dGt,D.imm,D.imms,dG,bE,fT,cP,dM,cR,fW,fIO,bB,eK,jT],by decide,fun f hf=>by rw [List.mem_singleton.mp hf];exact⟨trivial,trivial,Nat.zero_le _,fun _=>rfl,Int.le_refl _,by decide⟩,rfl,⟨Nat.zero_le _,Nat.zero_le _,trivial⟩⟩
 obtain⟨fs1,y5,y6,y7,y8,y9,q,h1⟩:=yb1 (GM:=GM) (GS:=GS) (GL:=GL) (S:=S) (x1:=some (.int a)) (x2:=some (.int many)) hS hL hn ((List.range many).map fun(k:Nat)=>(a:Int)+(k:Int)) [⟨0,0,[],[]⟩] 0 none none none none none
  (fun j hj s hs=>by obtain⟨k,hk,rfl⟩:=List.mem_map.mp hj;have:=List.mem_range.mp hk;exact hM _ s (by omega) hs) i0 (by simp;omega)
 rw [<-zs7] at q
 rw [List.length_map,List.length_range,Nat.zero_add] at h1
 have hln:=h1.len
 obtain⟨f,w,h2⟩:=yb2 (GS:=GS) (x0:=some S) (x1:=some (.int a)) (x2:=some (.int many)) (x3:=some (.int nest)) (x5:=y5) (x6:=y6) (x7:=y7) (x8:=y8) (x9:=y9) hS (by omega) n fs1 (by omega) h1
 have hf:=h2.each f List.mem_cons_self
 have hd:=h2.deep.1
 have hwt:wF f+0<=4*many+4:=h2.wt
 refine⟨f.parts,?_,hf.2.1,by simpa using hd,by unfold wF at hwt;omega⟩
 have e:((a:Int)+(many:Int)-(a:Int)).toNat=many:=by omega
 have s0:aS 4 (aH (cA (aB (cA (aB (fC (.str "top")) (aB (fC (.int 0)) (aB (cA aD) (aB (cA aD) aD))))) aD))) [some S,some (.int a),some (.int many),some (.int nest),none,none,none,none,none,none]=some (.nx,[some S,some (.int a),some (.int many),some (.int nest),some (.lst true (cM [⟨0,0,[],[]⟩])),none,none,none,none,none]):=bZ rfl
 have s1:fI 5 (yG (aB (aA 1) (aB (f2 bE (aA 1) (aA 2)) aD))) (vP GM GS GL) [some S,some (.int a),some (.int many),some (.int nest),some (.lst true (cM [⟨0,0,[],[]⟩])),none,none,none,none,none]=some (.nx,[some S,some (.int a),some (.int many),some (.int nest),some (.lst true (cM fs1)),y5,y6,y7,y8,y9]):=by
  have e1:aB (aA 1) (aB (f2 bE (aA 1) (aA 2)) aD) [some S,some (.int a),some (.int many),some (.int nest),some (.lst true (cM [⟨0,0,[],[]⟩])),none,none,none,none,none]=some [.int a,.int ((a:Int)+(many:Int))]:=rfl
  unfold fI yG
  rw [e1,Option.bind_some,xc2 (by omega) (by omega) (by omega) (by omega),e]
  exact q
 have s3:aI dG (aB (f2 dIx (f2 dIx (aA 4) (fC (.int 0))) (fC (.int 3))) aD) [some S,some (.int a),some (.int many),some (.int nest),some (.lst true (cM [f])),y5,y6,y7,y8,y9]=some (.tup (aK f.parts)):=by
  show aI dG (aB (f2 dIx (f2 dIx (aA 4) (fC (.int 0))) (fC (.int 3))) aD) [some S,some (.int a),some (.int many),some (.int nest),some (.lst true [.lst true [.str (kdS f.kd),.int f.n,.lst true (cK f.full),.lst true (aK f.parts)]]),y5,y6,y7,y8,y9]=_
  simp [aO,aZ,aS,aH,fIf,aL,fB,f2,aA,fC,aY,bQ,bA,aB,aD,cA,aI,dB,dIx,bV,dGt,D.imm,D.imms,dG,bE,fT,cP,dM,cR,fW,fIO,bB,eK,jT,dL]
 have z:=(aF s0).trans ((aF s1).trans ((aF w).trans (eI s3)))
 exact iA rfl z
end
abbrev yx8(GM GL:tz6):tz6:=gP 4 6 (zv9 GM zf8 GL)
theorem xj0{GM GL:tz6}{S:D}{nest a many:Nat}(hL:∀m,0<=m->∃l,GL [.int m]=some (cJ l)/\fL l)(hM:∀j s:Int,(a:Int)<=j/\j<a+many->s=31\/s=32->∃m,GM [S,.int j,.int s]=some (.int m)/\0<=m)(hn:nest<=100)(hmany:many<=90)(ha:a<=1000):
  ∃r,yx8 GM GL [S,.int a,.int many,.int nest]=some (.tup (aK r))/\RowOk nest (4*many) r:=by
 obtain⟨r,h1,h2⟩:=xn0 (n:=400) (GS:=zf8) (fun f g fs h1 h2 h3 h4=>yu5 h1 h2 h3 h4) hL hM hn hmany ha (Nat.lt_of_le_of_lt hn (by decide))
 exact⟨r,h1,h2⟩
theorem xj1{j k:Int}(h0:0<=j)(h1:j<100):jN (.int j) (.int k)=some (.int (j*k)):=by
 rw [jN,if_pos]
 unfold wX
 rw [decide_eq_true (by omega),decide_eq_true (by omega)];rfl
theorem xp1{k:Int}{c:Nat}(h:atI sg.cps.toList k=some c):dIx (.str sg) (.int k)=some (.str ⟨#[c]⟩):=by
 rw [dIx,if_pos xb9,h];rfl
theorem zu1{m:Int}:∀(l:List Int) (w:Str) (x2 x4 x5:Option D),(∀j∈l,0<=j/\j<100)->w.length+l.length<=100->w.cps.toList.all yI=true->
  ∃w' x4' x5',eW 4 (aO (aS 5 (aH (f2 bE (f2 gM (aA 0) (fC (.int 12))) (f2 jN (aA 4) (f2 cU (f2 gM (aA 0) (fC (.int 9000))) (fC (.int 93))))))) (aS 3 (aH (f2 bE (aA 3) (f2 dIx (aA 1) (f2 cU (aA 5) (fC (.int 93)))))))) (l.map .int) [some (.int m),some (.str sg),x2,some (.str w),x4,x5]
   =some (.nx,[some (.int m),some (.str sg),x2,some (.str w'),x4',x5'])/\w'.length=w.length+l.length/\w'.cps.toList.all yI=true
 |[],w,x2,x4,x5,_,_,hw=>⟨w,x4,x5,rfl,rfl,hw⟩
 | j::l,w,x2,x4,x5,hj,hl,hw=>by
  rw [List.length_cons] at hl
  have hj0:=hj j List.mem_cons_self
  obtain⟨c,hc,hg⟩:=xm7 ((m/12+j*(m/9000 % 93)) % 93) (Int.emod_nonneg _ (by decide)) (Int.emod_lt_of_pos _ (by decide))
  have hw1:(w++(⟨#[c]⟩:Str)).length=w.length+1:=by rw [eD];rfl
  obtain⟨w',x4',x5',q1,q2,q3⟩:=zu1 (m:=m) l (w++⟨#[c]⟩) x2 (some (.int j)) (some (.int (m/12+j*(m/9000 % 93)))) (fun i hi=>hj i (List.mem_cons_of_mem _ hi)) (by rw [hw1];omega) (by rw [cY,List.all_append,hw];simp [gP,aO,aZ,aS,aH,fIf,aL,fB,f2,aA,fC,aY,bQ,fJ,aB,aD,cA,cE,fKs,aI,dEq,dNe,eqB,dB,dIx,bV,fI,qH,D.imm,D.imms,dG,bE,jN,fT,cP,bP,dM,cR,fW,dLt,dLe,dGt,dGe,cS,eG,kC,yF,D.flat,wX,hg])
  refine⟨w',x4',x5',?_,by rw [q2,hw1,List.length_cons];omega,q3⟩
  rw [<-q1]
  have hz:w.length+(⟨#[c]⟩:Str).length<=sizeLine:=sz (by show w.length+1<=1000;omega)
  have s1:aS 5 (aH (f2 bE (f2 gM (aA 0) (fC (.int 12))) (f2 jN (aA 4) (f2 cU (f2 gM (aA 0) (fC (.int 9000))) (fC (.int 93)))))) [some (.int m),some (.str sg),x2,some (.str w),some (.int j),x5]=some (.nx,[some (.int m),some (.str sg),x2,some (.str w),some (.int j),some (.int (m/12+j*(m/9000 % 93)))]):=
   bZ (aT (aT rfl rfl ((eG _ _).trans (if_pos (by decide)))) (aT rfl (aT (aT rfl rfl ((eG _ _).trans (if_pos (by decide)))) rfl ((cS _ _).trans (if_pos (by decide)))) (xj1 hj0.1 hj0.2)) rfl)
  have s2:aS 3 (aH (f2 bE (aA 3) (f2 dIx (aA 1) (f2 cU (aA 5) (fC (.int 93)))))) [some (.int m),some (.str sg),x2,some (.str w),some (.int j),some (.int (m/12+j*(m/9000 % 93)))]=some (.nx,[some (.int m),some (.str sg),x2,some (.str (w++⟨#[c]⟩)),some (.int j),some (.int (m/12+j*(m/9000 % 93)))]):=by
   refine bZ (aT rfl (aT rfl (aT rfl rfl ((cS _ _).trans (if_pos (by decide)))) (xp1 hc)) ?_)
   show(if w.length+(⟨#[c]⟩:Str).length<=sizeLine then some (D.str (w++⟨#[c]⟩)) else none)=_
   exact if_pos hz
  show((aO _ _ [some (.int m),some (.str sg),x2,some (.str w),some (.int j),x5]).bind _)=_
  rw [(aF s1).trans s2];rfl
abbrev zg1:tz6:=gP 1 5 zm9
theorem yb3{m:Int}(hm:0<=m):∃z,zg1 [.int m]=some (.str z)/\zv7 z:=by
 obtain⟨s,hs,h1,h2⟩:=xc0 m
 obtain⟨w,x4,x5,q1,q2,q3⟩:=zu1 (m:=m) ((List.range s.toNat).map fun(k:Nat)=>(k:Int)) "" (some (.int s)) none none
  (fun j hj=>by obtain⟨k,hk,rfl⟩:=List.mem_map.mp hj;have:=List.mem_range.mp hk;omega) (by rw [List.length_map,List.length_range];show 0+_<=100;omega) (by decide+kernel)
 rw [<-xi6] at q1
 rw [List.length_map,List.length_range] at q2
 have q2':w.length=s.toNat:=by rw [q2];show 0+_=_;omega
 refine⟨w,?_,by omega,by omega,q3⟩
 have hz:(Str.ofString "abcdefghijklmnopqrstuvwxyzABCDEFGHIJKLMNOPQRSTUVWXYZ0123456789").length+(Str.ofString "!\"#$&'()*+,-./:;<=>?\x40[\\]^_`{|}~").length<=sizeLine:=by decide+kernel
 have e1:Str.ofString "abcdefghijklmnopqrstuvwxyzABCDEFGHIJKLMNOPQRSTUVWXYZ0123456789"++Str.ofString "!\"#$&'()*+,-./:;<=>?\x40[\\]^_`{|}~"=sg:=rfl
 have s2:aS 1 (aH (f2 bE (aA 1) (fC (.str "!\"#$&'()*+,-./:;<=>?\x40[\\]^_`{|}~")))) [some (.int m),some (.str "abcdefghijklmnopqrstuvwxyzABCDEFGHIJKLMNOPQRSTUVWXYZ0123456789"),none,none,none,none]=some (.nx,[some (.int m),some (.str sg),none,none,none,none]):=by
  refine bZ (aT rfl rfl ?_)
  rw [<-e1]
  exact if_pos (e:=none) hz
 have s3:aS 2 (aH (f2 dIx (cA (fKs [.int 1,.int 2,.int 3,.int 4,.int 5,.int 6,.int 7,.int 8,.int 10,.int 11,.int 9,.int 12])) (f2 cU (aA 0) (fC (.int 12))))) [some (.int m),some (.str sg),none,none,none,none]=some (.nx,[some (.int m),some (.str sg),some (.int s),none,none,none]):=bZ (aT (fN rfl (Nat.le_of_ble_eq_true rfl)) (aT rfl rfl ((cS _ _).trans (if_pos (by decide)))) hs)
 have s5:fI 4 (kC (aB (aA 2) aD)) (aO (aS 5 (aH (f2 bE (f2 gM (aA 0) (fC (.int 12))) (f2 jN (aA 4) (f2 cU (f2 gM (aA 0) (fC (.int 9000))) (fC (.int 93))))))) (aS 3 (aH (f2 bE (aA 3) (f2 dIx (aA 1) (f2 cU (aA 5) (fC (.int 93)))))))) [some (.int m),some (.str sg),some (.int s),some (.str ""),none,none]=some (.nx,[some (.int m),some (.str sg),some (.int s),some (.str w),x4,x5]):=by
  have er:kC (aB (aA 2) aD) [some (.int m),some (.str sg),some (.int s),some (.str ""),none,none]=some (gZ 0 s.toNat):=ya0 (by omega) (by omega)
  unfold fI
  rw [er];exact q1
 exact iA rfl ((aF (bZ rfl)).trans ((aF s2).trans ((aF s3).trans ((aF (bZ rfl)).trans ((aF s5).trans rfl)))))
abbrev zg2:tz6:=gP 1 1 (xC zg1)
theorem xd1{m:Int}(hm:0<=m):∃l,zg2 [.int m]=some (cJ l)/\fL l:=by
 have hd:0<=m/16:=Int.ediv_nonneg hm (by decide)
 have s1:aS 1 (aH (f2 gM (aA 0) (fC (.int 16)))) [some (.int m),none]=some (.nx,[some (.int m),some (.int (m/16))]):=bZ (aT rfl rfl ((eG _ _).trans (if_pos (by decide))))
 have md:f2 cU (aA 0) (fC (.int 16)) [some (.int m),some (.int (m/16))]=some (.int (m % 16)):=aT rfl rfl ((cS _ _).trans (if_pos (by decide)))
 have t:∀c:Int,fB (f2 dLt (f2 cU (aA 0) (fC (.int 16))) (fC (.int c))) [some (.int m),some (.int (m/16))]=some (decide (m % 16<c)):=fun c=>eS (aT md rfl rfl)
 have out:∀{p:PSt} (l:Leaf),xC zg1 [some (.int m),none]=some (.ret (cJ l),p)->zg2 [.int m]=some (cJ l):=fun l h=>iA rfl h
 have t8:=t 8
 have t13:=t 13
 by_cases c1:m % 16<8
 ·obtain⟨z,q,hz⟩:=yb3 hd
  rw [decide_eq_true c1] at t8
  exact⟨.word z,out (.word z) ((aF s1).trans (eN ((cT t8).trans (eI (eZ (aE rfl (aE (bJ (aE rfl rfl) q) rfl)) rfl (Nat.le_of_ble_eq_true rfl)))))),hz⟩
 ·rw [decide_eq_false c1] at t8
  by_cases c2:m % 16<13
  ·obtain⟨x,q,hx⟩:=xi7 (m/16)
   rw [decide_eq_true c2] at t13
   exact⟨.gap x,out (.gap x) ((aF s1).trans ((aF (bO t8)).trans (eN ((cT t13).trans (eI (eZ (aE rfl (aE (aT (fN rfl (Nat.le_of_ble_eq_true rfl)) (aT rfl rfl ((cS _ _).trans (if_pos (by decide)))) q) rfl)) rfl (Nat.le_of_ble_eq_true rfl))))))),hx⟩
  ·rw [decide_eq_false c2] at t13
   have te:fB (f2 dEq (f2 cU (aA 0) (fC (.int 16))) (fC (.int 13))) [some (.int m),some (.int (m/16))]=some (decide (m % 16=13)):=eS (aT md rfl rfl)
   by_cases c3:m % 16=13
   ·rw [decide_eq_true c3] at te
    exact⟨.fin,out .fin ((aF s1).trans ((aF (bO t8)).trans ((aF (bO t13)).trans (eN ((cT te).trans (eI rfl)))))),trivial⟩
   ·rw [decide_eq_false c3] at te
    have ha:=Int.emod_nonneg (m/16/2) (show(10:Int)≠0 by decide)
    have hb:=Int.emod_lt_of_pos (m/16/2) (show(0:Int)<10 by decide)
    have hc:=Int.emod_nonneg (m/16/2) (show(41:Int)≠0 by decide)
    have he:=Int.emod_lt_of_pos (m/16/2) (show(0:Int)<41 by decide)
    obtain⟨c,q,h1,h2⟩:=xc1 (m/16/2 % 10) (m/16/2 % 41) (m/16) ⟨ha,Int.le_trans (Int.le_of_lt hb) (by decide)⟩ ⟨hc,Int.le_of_lt_add_one he⟩
    have dv:f2 gM (aA 1) (fC (.int 2)) [some (.int m),some (.int (m/16))]=some (.int (m/16/2)):=aT rfl rfl ((eG _ _).trans (if_pos (by decide)))
    exact⟨.stop c,out (.stop c) ((aF s1).trans ((aF (bO t8)).trans ((aF (bO t13)).trans ((aF (bO te)).trans (eI (eZ (aE rfl (aE (aT (fN (aE (aT dv rfl ((cS _ _).trans (if_pos (by decide)))) (aE (aT dv rfl ((cS _ _).trans (if_pos (by decide)))) rfl)) (Nat.le_of_ble_eq_true rfl)) (aT rfl rfl ((cS _ _).trans (if_pos (by decide)))) q) rfl)) rfl (Nat.le_of_ble_eq_true rfl))))))),h1,h2⟩
theorem yg8{GM GC:tz6}{S:D}{k1 k2 nest a many:Nat}(h1:nest<k1)(h2:nest<k2)(hn:nest<=8)(hmany:many<=90)(ha:a+many<=1000)(hS:S.imm=true)(hM:∀j s:Int,0<=j->j<1000->0<=s->s<1000->∃a,GM [S,.int j,.int s]=some (.int a)/\0<=a)(hC:∀j:Int,0<=j->j<1000->∃a,GC [S,.int j]=some (.int a)):
  ∃r,yx8 GM zg2 [S,.int a,.int many,.int nest]=some (.tup (aK r))/\RowOk nest (4*many) r/\xH S (pS (sS GM GC) k1) r/\∀salt:Int,0<=salt->salt<=900->
   ∃C t,zw4 (pS (sS GM GC) k1) [S,.tup (aK r),.int salt]=some (.tup [.str t,.tup (aP C)])/\bY true 0 r C ⟨#[]⟩=some ([],t)/\C.length<=360/\xF k2 [.tup (aK r),.tup (aP C)]=some (.str t)/\t.length<=900000/\∀c∈C,0<=c/\c<4:=by
 obtain⟨r,qr,hr⟩:=xj0 (GM:=GM) (GL:=zg2) (S:=S) (nest:=nest) (a:=a) (many:=many) (fun m hm=>xd1 hm) (fun j s hj hs=>hM j s (by omega) (by omega) (by omega) (by omega)) (Nat.le_trans hn (by decide)) hmany (by omega)
 have hdr:yM S (sS GM GC):=fun t cs n many salt h1 h2 h3 h4 h5=>xc6 hM hC h1 h2 h3 h4 h5
 have hLR:=ya7 hS hdr k1 r (Nat.lt_of_le_of_lt hr.dep h1) hr.ok
 have h8:=Nat.le_trans hr.dep hn
 have hl:(bR r).length<=360:=Nat.le_trans hr.len (by omega)
 have hl8:(bR r).length<=800:=Nat.le_trans hl (by decide)
 refine⟨r,qr,hr,hLR,fun salt s0 s1=> ?_⟩
 obtain⟨C,t,d,g,len,ht,hc⟩:=yv5 (S:=S) hS hLR h8 hl8 s0 s1
 exact⟨C,t,d,g,Nat.le_trans len hl,wV (n:=k2) (Nat.lt_of_le_of_lt hr.dep h2) (Nat.le_trans h8 (by decide)) hr.ok hl8 g,ht,hc⟩
theorem kZ{f:tz1}{fx:tz5}{p p':PSt}(h:f p=some (.nx,p')):jU f fx p=fx p':=by unfold jU;rw [h]
theorem yv7{C m:Str}{fo:tz2}{g:List D->Bool}{p:PSt}{d:D}(h:fK C m fo p=some d):yH C m fo g p=g [d]:=by unfold yH;rw [h]
theorem tY{c:tz4}{fx:tz5}{p:PSt}(h:c p=some true):sX c fx p=fx p:=by unfold sX;rw [h]
theorem zu2{f g:tz5}{p:PSt}(h:f p=true):sY f g p=true:=by unfold sY;rw [h];rfl
theorem zu3{f g:tz5}{p:PSt}(h:g p=true):sY f g p=true:=by unfold sY;rw [h,Bool.or_true]
theorem rM{j:Nat}{ga:tz3}{h:List D->D->Bool}{p:PSt}{d0:D}{ys:List D}(hd:p[j]? =some (some d0))(hg:ga p=some ys)(hh:h ys d0=true):mU j aW ga h p=true:=by
 have e:cB (vK h ys) d0 []=some ((),d0):=by
  show vK h ys d0=_
  unfold vK
  rw [if_pos hh]
 unfold mU
 rw [hd,hg]
 show(cB (vK h ys) d0 []).isSome=true
 rw [e];rfl
theorem rN{g:List D->Bool}{m:Str}{C:List Int}{u:Nat}{ps:List Str}{ys:List D}(hm:bW nsS m=none)(h:g (stD C u ps::ys)=true):lH "Setter" m g ys (stD C u ps)=true:=by
 show(decide (("Setter":Str)="Setter"/\bW nsS m=none)&&g (stD C u ps::ys))=true
 rw [h,decide_eq_true ⟨rfl,hm⟩];rfl
theorem sJ{np n:Nat}{fx:tz5}{ds:List D}(hl:ds.length=np)(h:fx (ds.map some++List.replicate n none)=true):gX np n fx ds=true:=by
 unfold gX
 rw [h,decide_eq_true hl];rfl
theorem yC{C:List Int}{u:Nat}{ps:List Str}{p:PSt}(h:p[0]? =some (some (stD C u ps))):cZ "Setter" "used" (aA 0) p=some (.int u):=by
 unfold cZ
 rw [gU h]
 unfold stD
 simp [jA,bW,bP]
theorem zd8{C:List Int}{u:Nat}{ps:List Str}{p:PSt}(h:p[0]? =some (some (stD C u ps))):cZ "Setter" "choices" (aA 0) p=some (.tup (aP C)):=by
 unfold cZ
 rw [gU h]
 unfold stD
 simp [jA,bW,bP]
theorem yp6{C:List Int}{u:Nat}{ps:List Str}{p:PSt}(h:p[0]? =some (some (stD C u ps))):cZ "Setter" "column" (aA 0) p=some (.int (col (cat ps))):=by
 unfold cZ
 rw [gU h]
 unfold stD
 simp [jA,bW,bP]
theorem zj3{C:List Int}{u:Nat}{ps:List Str}{p:PSt}(h:p[0]? =some (some (stD C u ps))):aI bV (aB (cZ "Setter" "choices" (aA 0)) aD) p=some (.int (C.length:Nat)):=by
 refine bJ (ds:=[.tup (aP C)]) (aE (zd8 h) rfl) ?_
 show some (D.int ((aP C).length:Nat))=_
 rw [wU]
abbrev yb8:List D->Bool:=gX 1 0 nZ
theorem yp7{C:List Int}{u:Nat}{ps:List Str}(hu:u<C.length):yb8 [stD C u ps]=true:=by
 refine sJ rfl ((tY (eS (aT (yC rfl) (zj3 rfl) ?_))).trans rfl)
 show some (D.bl (decide ((u:Int)<(C.length:Nat))))=_
 rw [decide_eq_true (by omega)]
abbrev lJ:List D->Bool:=gX 3 1 (oS rW)
theorem yp8{C:List Int}{u:Nat}{ps:List Str}{l:Leaf}{b:Bool}{m:Int}(hl:fL l)(h0:0<=m)(h1:m<=200)(hw:wr b m (col (cat ps)) l=none)(hc:(cat ps).length<=1000000):lJ [stD C u ps,cJ l,aU b m]=true:=by
 have q1:=zc8 l b m (col (cat ps)) hl h0 h1 (Nat.le_trans (yn7 _) hc)
 rw [hw] at q1
 refine sJ rfl ((kZ (bZ (bJ (aE rfl (aE rfl (aE (yp6 rfl) rfl))) q1))).trans ((tY (eS (aT rfl rfl rfl))).trans rfl))
def pT(c:Int):Prop:=c.natAbs.log2<1920
theorem vA{c:Int}(h:c.natAbs<2^1900):pT c:=by
 unfold pT
 by_cases z:c.natAbs=0
 ·rw [z];decide
 ·exact Nat.lt_trans ((Nat.log2_lt z).mpr h) (by decide)
abbrev yN:List D->Bool:=gX 2 1 mW
theorem zd9{C:List Int}{u n:Nat}{ps:List Str}(hu:C.length<=u):yN [stD C u ps,.int n]=true:=by
 refine sJ rfl (zu2 ((tY (eS (aT (yC rfl) (zj3 rfl) ?_))).trans rfl))
 show some (D.bl (decide ((C.length:Nat)<=(u:Int))))=_
 rw [decide_eq_true (by omega)]
theorem ze0{C:List Int}{u n:Nat}{c:Int}{ps:List Str}(hc:C[u]? =some c)(h:c<0\/(n:Int)<=c)(hs:pT c)(hn:n<=1000):yN [stD C u ps,.int n]=true:=by
 obtain⟨hu,_⟩:=List.getElem?_eq_some_iff.mp hc
 have e:atI (aP C) (u:Int)=some (.int c):=lI (by unfold aP;rw [List.getElem?_map,hc];rfl)
 have t1:fB (f2 dGe (cZ "Setter" "used" (aA 0)) (aI bV (aB (cZ "Setter" "choices" (aA 0)) aD))) [some (stD C u ps),some (.int n),none]=some false:=by
  refine eS (aT (yC rfl) (zj3 rfl) ?_)
  show some (D.bl (decide ((C.length:Nat)<=(u:Int))))=_
  rw [decide_eq_false (by omega)]
 have s2:aS 2 (aH (aY (f2 dIx (cZ "Setter" "choices" (aA 0)) (cZ "Setter" "used" (aA 0))))) [some (stD C u ps),some (.int n),none]=some (.nx,[some (stD C u ps),some (.int n),some (.int c)]):=bZ (eQ (aT (zd8 rfl) (yC rfl) e) rfl)
 have sn:pT (n:Int):=vA (by show n<_;exact Nat.lt_of_le_of_lt hn (by decide+kernel))
 refine sJ rfl (zu3 ((kZ (bO t1)).trans ((kZ s2).trans ((tY ?_).trans ?_))))
 ·have a1:fB (f2 dLt (aA 2) (fC (.int 0))) [some (stD C u ps),some (.int n),some (.int c)]=some (decide (c<0)):=eS (aT rfl rfl rfl)
  have a2:fB (f2 dGe (aA 2) (aA 1)) [some (stD C u ps),some (.int n),some (.int c)]=some (decide ((n:Int)<=c)):=eS (aT rfl rfl rfl)
  by_cases h1:c<0
  ·rw [decide_eq_true h1] at a1
   exact yf8 a1
  ·rw [decide_eq_false h1] at a1
   rw [decide_eq_true (h.resolve_left h1)] at a2
   exact sG a1 a2
 ·show(decide (c.natAbs.log2<1920)&&(decide ((n:Int).natAbs.log2<1920)&&true))=true
  rw [decide_eq_true (show c.natAbs.log2<1920 from hs),decide_eq_true (show(n:Int).natAbs.log2<1920 from sn)];rfl
abbrev mG(GX:List D->Bool):List D->Bool:=gX 3 3 (nY vO nE jP yN GX)
section
variable{GX:List D->Bool}{p:Pc}{b:Bool}{m:Int}{C:List Int}{u:Nat}{ps:List Str}
theorem zT{W:D}{x4 x5:Option D}(hp:mF p=true):fT (aI nE (aB (aA 1) (aB (aA 2) aD))) [some (stD C u ps),some (pcD p),some (aU b m),some W,x4,x5]=some (qC b p):=qM (bJ (aE rfl (aE rfl rfl)) (zt1 p b m hp))
theorem ze1{F:tz5}(hp:mF p=true)(hn:lP p<=1000):jU (aS 3 (aH (aI vO (aB (aA 1) (aB (aA 2) aD))))) (jU (aS 4 (aH (fC (.int 0)))) F) [some (stD C u ps),some (pcD p),some (aU b m),none,none,none]=F [some (stD C u ps),some (pcD p),some (aU b m),some (.lst true ((jD b m p).map gS)),some (.int 0),none]:=
 (kZ (bZ (bJ (aE rfl (aE rfl rfl)) (ya3 p b m hp hn)))).trans (kZ rfl)
theorem sK(hp:mF p=true)(hn:lP p<=1000)(ht:qC b p=true)(h:yN [stD C u ps,.int ((jD b m p).length:Nat)]=true):mG GX [stD C u ps,pcD p,aU b m]=true:=by
 refine sJ rfl ((ze1 hp hn).trans (zu2 ((tY ((zT hp).trans (by rw [ht]))).trans ?_)))
 refine rM (ys:=[.int ((jD b m p).length:Nat)]) rfl (eC (bJ (ds:=[.lst true ((jD b m p).map gS)]) (aE rfl rfl) ?_) rfl gN) (rN (by simp [bW,bP]) h)
 show some (D.int (((jD b m p).map gS).length:Nat))=_
 rw [List.length_map]
theorem vB{u1 i:Nat}{x:List Pc×Bool×Int}(hp:mF p=true)(hn:lP p<=1000)(hi:(jD b m p)[i]? =some x)
  (hc:(qC b p=true/\C[u]? =some (i:Int)/\u1=u+1)\/(qC b p=false/\i=0/\u1=u)) (h:GX [stD C u1 ps,.tup (aK x.1),aU x.2.1 x.2.2]=true):mG GX [stD C u ps,pcD p,aU b m]=true:=by
 have hil:i<((jD b m p).map gS).length:=by rw [List.length_map];exact(List.getElem?_eq_some_iff.mp hi).1
 have e1:atI ((jD b m p).map gS) (i:Int)=some (gS x):=lI (by rw [List.getElem?_map,hi];rfl)
 have hw:=xW x
 refine sJ rfl ((ze1 hp hn).trans (zu3 ?_))
 generalize hW:(jD b m p).map gS=W at hil e1
 have s3:fIf (aL (fT (aI nE (aB (aA 1) (aB (aA 2) aD))))) (aS 4 (bG 0 aW (bB [.im (aI bV (aB (aA 3) aD))]) (fE "Setter" "choice_below" jP))) aZ [some (stD C u ps),some (pcD p),some (aU b m),some (.lst true W),some (.int 0),none]=some (.nx,[some (stD C u1 ps),some (pcD p),some (aU b m),some (.lst true W),some (.int (i:Int)),none]):=by
  rcases hc with ⟨hT,hC,rfl⟩|⟨hT,rfl,rfl⟩
  ·have qb:=zt3 (ps:=ps) hC (by omega) (show(i:Int)<(W.length:Nat) by omega)
   have hb:fE "Setter" "choice_below" jP [.int (W.length:Nat)] (stD C u ps)=some (.int (i:Int),stD C (u+1) ps):=by
    show(if (("Setter":Str)="Setter"/\bW nsS "choice_below"=none) then(jP [stD C u ps,.int (W.length:Nat)]).bind _ else none)=_
    rw [if_pos ⟨rfl,by simp [bW,bP]⟩,qb];rfl
   refine(cT ((zT hp).trans (by rw [hT]))).trans ?_
   have em:bG 0 aW (bB [.im (aI bV (aB (aA 3) aD))]) (fE "Setter" "choice_below" jP) [some (stD C u ps),some (pcD p),some (aU b m),some (.lst true W),some (.int 0),none]=some (.int (i:Int),[some (stD C (u+1) ps),some (pcD p),some (aU b m),some (.lst true W),some (.int 0),none]):=by
    unfold bG
    rw [eC (f:=aI bV (aB (aA 3) aD)) (p:=[some (stD C u ps),some (pcD p),some (aU b m),some (.lst true W),some (.int 0),none]) (d:= .int (W.length:Nat)) (bJ (ds:=[.lst true W]) (aE rfl rfl) rfl) rfl gN]
    show((fE "Setter" "choice_below" jP [.int (W.length:Nat)] (stD C u ps)).bind _)=_
    rw [hb];rfl
   unfold aS
   rw [em];rfl
  ·exact(bO ((zT hp).trans (by rw [hT])))
 have s4:aS 5 (aH (aY (f2 dIx (aA 3) (aA 4)))) [some (stD C u1 ps),some (pcD p),some (aU b m),some (.lst true W),some (.int (i:Int)),none]=some (.nx,[some (stD C u1 ps),some (pcD p),some (aU b m),some (.lst true W),some (.int (i:Int)),some (gS x)]):=bZ (eQ (aT rfl rfl e1) hw)
 refine(kZ s3).trans ((kZ s4).trans ?_)
 exact rM (ys:=[.tup (aK x.1),aU x.2.1 x.2.2]) rfl (eC (aT rfl rfl (dM _ _)) (dL x.1) (eC (aT rfl rfl (cR _ _ _)) (kB _ _) gN)) (rN (by simp [bW,bP]) h)
end
abbrev pU(GHX GPX:List D->Bool):tz5:=
   qP (fT (aI nD (aB (aA 3) aD)))
   (mU 0 aW (bB [.im (aA 3),.im (aA 2)]) (lH "Setter" "set_holder" GHX))
   (mU 0 aW (bB [.im (aA 3),.im (aA 2)]) (lH "Setter" "set_plain" GPX))
section
variable{GHX GPX:List D->Bool}{C:List Int}{u:Nat}{ps:List Str}{p:Pc}{b:Bool}{m:Int}{R:Option D}
theorem nX(hp:mF p=true)(h:GHX [stD C u ps,pcD p,aU b m]=true):pU GHX GPX [some (stD C u ps),R,some (aU b m),some (pcD p)]=true:=by
 have q:=uX p
 rw [hp] at q
 show qP _ _ _ _=true
 unfold qP
 rw [qM (bJ (ds:=[pcD p]) (aE rfl rfl) q)]
 exact rM (ys:=[pcD p,aU b m]) rfl (eC rfl (pW p) (eC rfl (kB b m) gN)) (rN (by simp [bW,bP]) h)
theorem xd2(hp:mF p=false)(h:GPX [stD C u ps,pcD p,aU b m]=true):pU GHX GPX [some (stD C u ps),R,some (aU b m),some (pcD p)]=true:=by
 have q:=uX p
 rw [hp] at q
 show qP _ _ _ _=true
 unfold qP
 rw [qM (bJ (ds:=[pcD p]) (aE rfl rfl) q)]
 exact rM (ys:=[pcD p,aU b m]) rfl (eC rfl (pW p) (eC rfl (kB b m) gN)) (rN (by simp [bW,bP]) h)
end
def zg3:Nat->List D->Bool
 |0=>fun _=>false
 |n+1=>gX 3 1 (qA nD (mV (lQ n)) (mG (zg3 n)) iC lJ)
def zj7(GX:List D->Bool)(r:List Pc):Prop:=∀(b:Bool) (m:Int) (C:List Int) (u:Nat) (ps:List Str),0<=m->m+12*cV r<=200->bY b m r (C.drop u) (cat ps)=none->u<=C.length->(∀c∈C,pT c)->
 qI ps.length (cat ps).length (bR r).length->GX [stD C u ps,.tup (aK r),aU b m]=true
theorem xj2{GX:List D->Bool}{p:Pc}{k:Nat}(hG:∀r,cV r<k->okR r->zj7 GX r)(hd:fM p<=k)(ho:okP p){b:Bool}{m:Int}{C:List Int}{u:Nat}{ps:List Str}{R:Option D}(h0:0<=m)(h1:m+12*fM p<=200)
  (h:cQ b m p (C.drop u) (cat ps)=none) (hu:u<=C.length) (hs:∀c∈C,pT c) (hf:qI ps.length (cat ps).length (cX p).length):pU (mG GX) lJ [some (stD C u ps),R,some (aU b m),some (pcD p)]=true:=by
 cases p with
 | leaf l=>
  rw [cQ] at h
  have h':wr b m (col (cat ps)) l=none:=by
   cases e:wr b m (col (cat ps)) l with
   |none=>rfl
   |some w=>rw [e] at h;cases h
  exact xd2 rfl (yp8 ho h0 (by rw [fM] at h1;omega) h' (by have:=hf.2;omega))
 | group r=>
  have ho':okR r:=ho
  rw [fM] at hd h1
  have h1':m+12*cV r<=200:=zd0 h1
  have ht:(cX (.group r)).length=(bR r).length+2:=by simp [cX]
  rw [ht] at hf
  have hf':=mQ hf (Nat.le_add_right _ 2)
  rw [cQ.eq_def] at h
  simp only at h
  cases b with
  |false=>
   simp only [Bool.false_eq_true,if_false] at h
   exact nX rfl (vB (i:=0) (x:=(r,false,m)) rfl (by simp [lP]) rfl (.inr ⟨rfl,rfl,rfl⟩) (hG r hd ho' false m C u ps h0 h1' h hu hs hf'))
  | true=>
   cases hC:C.drop u with
   |nil=>exact nX rfl (sK rfl (by simp [lP]) rfl (zd9 (by have:=congrArg List.length hC;rw [List.length_drop] at this;simp at this;omega)))
   | cons c cs=>
    obtain⟨g1,g2,g3⟩:=sI hC
    rw [hC] at h
    simp only [if_true] at h
    have go:∀(i:Nat) (bb:Bool),(i:Int)=c->(jD true m (.group r))[i]? =some (r,bb,m)->bY bb m r cs (cat ps)=none->pU (mG GX) lJ [some (stD C u ps),R,some (aU true m),some (pcD (.group r))]=true:=fun i bb hi hw hh=>by
     rw [<-g2] at hh
     exact nX rfl (vB (i:=i) (x:=(r,bb,m)) rfl (by simp [lP]) hw (.inl ⟨rfl,by rw [hi];exact g1,rfl⟩) (hG r hd ho' bb m C (u+1) ps h0 h1' hh g3 hs hf'))
    by_cases c0:c=0
    ·subst c0
     rw [if_pos rfl] at h
     exact go 0 false rfl rfl h
    ·rw [if_neg c0] at h
     by_cases c1:c=1
     ·subst c1
      rw [if_pos rfl] at h
      exact go 1 true rfl rfl h
     ·refine nX rfl (sK rfl (by simp [lP]) rfl (ze0 g1 ?_ (hs c (List.mem_of_getElem? g1)) (by show 2<=1000;decide)))
      show c<0\/((2:Nat):Int)<=c
      omega
 |hang n r=>
  have ho':(0<=n/\n<=12)/\okR r:=ho
  rw [fM] at hd h1
  have ht:(cX (.hang n r)).length=(bR r).length+2:=by simp [cX]
  rw [ht] at hf
  rw [cQ] at h
  exact nX rfl (vB (i:=0) (x:=(r,b,m+n)) rfl (by simp [lP]) rfl (.inr ⟨rfl,rfl,rfl⟩) (hG r hd ho'.2 b (m+n) C u ps (Int.add_nonneg h0 ho'.1.1) (yo5 h1 ho'.1.2) h hu hs (mQ hf (Nat.le_add_right _ 2))))
 | either rs=>
  have ho':(2<=rs.length/\rs.length<=4)/\iG rs:=ho
  have hn:lP (.either rs)<=1000:=Nat.le_trans ho'.1.2 (by decide)
  have hwl:(jD b m (.either rs)).length=rs.length:=by show(rs.map _).length=_;rw [List.length_map]
  rw [cQ.eq_def] at h
  simp only at h
  cases hC:C.drop u with
  |nil=>exact nX rfl (sK rfl hn rfl (zd9 (by have:=congrArg List.length hC;rw [List.length_drop] at this;simp at this;omega)))
  | cons c cs=>
   obtain⟨g1,g2,g3⟩:=sI hC
   rw [hC] at h
   simp only at h
   have off:(c<0\/(rs.length:Int)<=c)->pU (mG GX) lJ [some (stD C u ps),R,some (aU b m),some (pcD (.either rs))]=true:=fun hc=>by
    refine nX rfl (sK rfl hn rfl ?_)
    rw [hwl]
    exact ze0 g1 hc (hs c (List.mem_of_getElem? g1)) (Nat.le_trans ho'.1.2 (by decide))
   by_cases c0:0<=c
   ·rw [if_pos c0] at h
    cases hr:rs[c.toNat]? with
    |none=>
     have:=List.getElem?_eq_none_iff.mp hr
     exact off (.inr (by omega))
    |some r=>
     rw [sH hr,<-g2] at h
     have hdr:=nW hr
     have hor:=rL ho'.2 hr
     have htr:=pP (List.mem_of_getElem? hr)
     have ht:(cX (.either rs)).length=(nO rs).length+2:=by simp [cX]
     rw [fM] at hd h1
     rw [ht] at hf
     exact nX rfl (vB (i:=c.toNat) (x:=(r,b,m)) rfl hn (by show(rs.map _)[c.toNat]? =_;rw [List.getElem?_map,hr];rfl) (.inl ⟨rfl,by rw [Int.toNat_of_nonneg c0];exact g1,rfl⟩) (hG r (Nat.lt_of_le_of_lt hdr hd) hor b m C (u+1) ps h0 (pD (zd0 h1) hdr) h g3 hs (mQ hf (Nat.le_trans htr (Nat.le_add_right _ 2)))))
   ·exact off (.inl (Int.not_le.mp c0))
theorem yy8{GR:tz7}{GX:List D->Bool}{k:Nat}(hR:∀r,cV r<k->okR r->zo9 GR r)(hG:∀r,cV r<k->okR r->zj7 GX r){b:Bool}{m:Int}{C:List Int}{R:Option D}(h0:0<=m)(hs:∀c∈C,pT c):∀(r:List Pc) (u:Nat) (ps:List Str) (x:Option D),cV r<=k->okR r->m+12*cV r<=200->
  bY b m r (C.drop u) (cat ps)=none->u<=C.length->qI ps.length (cat ps).length (bR r).length->
  jO 3 (nG (mV GR) iC) (pU (mG GX) lJ) (aK r) [some (stD C u ps),R,some (aU b m),x]=true
 |[],u,ps,x,_,_,_,h,_,_=>by rw [bY] at h;cases h
 | p::r,u,ps,x,hd,ho,h1,h,hu,hf=>by
  rw [okR] at ho
  rw [cV] at hd h1
  have ht:(bR (p::r)).length=(cX p).length+(bR r).length:=by rw [bR,List.length_append]
  rw [ht] at hf
  rw [bY] at h
  show jO 3 _ _ (pcD p::aK r) _=true
  rw [jO]
  show(pU (mG GX) lJ [some (stD C u ps),R,some (aU b m),some (pcD p)]||(match nG (mV GR) iC [some (stD C u ps),R,some (aU b m),some (pcD p)] with
   |some (.nx,q)=>jO 3 (nG (mV GR) iC) (pU (mG GX) lJ) (aK r) q
   |some (.ct,q)=>jO 3 (nG (mV GR) iC) (pU (mG GX) lJ) (aK r) q
   |_=>false))=true
  cases e:cQ b m p (C.drop u) (cat ps) with
  |none=>
   rw [xj2 (R:=R) hG (Nat.le_trans (Nat.le_max_left _ _) hd) ho.1 h0 (pD h1 (Nat.le_max_left _ _)) e hu hs (mQ hf (Nat.le_add_right _ _))];rfl
  |some s=>
   obtain⟨c1,t1⟩:=s
   rw [e] at h
   obtain⟨u1,ps1,q1,a1,a2,a3,a4⟩:=zm3 (R:=R) hR (Nat.le_trans (Nat.le_max_left _ _) hd) ho.1 h0 (pD h1 (Nat.le_max_left _ _)) e hu (mQ hf (Nat.le_add_right _ _))
   have h':bY b m r (C.drop u1) (cat ps1)=none:=by rw [a1,a2];exact h
   rw [q1]
   show(_||jO 3 (nG (mV GR) iC) (pU (mG GX) lJ) (aK r) [some (stD C u1 ps1),R,some (aU b m),some (pcD p)])=true
   rw [yy8 hR hG h0 hs r u1 ps1 (some (pcD p)) (Nat.le_trans (Nat.le_max_right _ _) hd) ho.2 (pD h1 (Nat.le_max_right _ _)) h' a3 (zm2 hf a4),Bool.or_true]
theorem yb4:∀(n:Nat) (r:List Pc),cV r<n->okR r->zj7 (zg3 n) r
 |0,_,h,_=>absurd h (Nat.not_lt_zero _)
 |n+1,r,hd,ho=>fun b m C u ps h0 h1 h hu hs hf=>by
  have q:=yy8 (GR:=lQ n) (GX:=zg3 n) (k:=n) (R:=some (.tup (aK r))) (fun s hs hk=>yA n s hs hk) (fun s hs hk=>yb4 n s hs hk) h0 hs r u ps none (Nat.le_of_lt_succ hd) ho h1 h hu hf
  exact sJ rfl q
abbrev yO(n:Nat):List D->Bool:=gX 2 1 (xB rX (lQ n) (zg3 n) qB yb8)
theorem ze2{n:Nat}{r:List Pc}{C:List Int}(hd:cV r<n)(h8:cV r<=16)(ho:okR r)(hl:(bR r).length<=800)(hs:∀c∈C,pT c)(h:∀t,bY true 0 r C ⟨#[]⟩≠some ([],t)):yO n [.tup (aK r),.tup (aP C)]=true:=by
 have i:=yo6 C
 have f:=zt2
 have p1:=dL r
 have p2:=nV C
 have p3:=kB true 0
 have s1:aS 2 (aH (eL "Setter" (bB [.im (aA 1)]) rX)) [some (.tup (aK r)),some (.tup (aP C)),none]=some (.nx,[some (.tup (aK r)),some (.tup (aP C)),some (stD C 0 [])]):=by
  refine bZ ?_
  unfold eL
  rw [eC (f:=aA 1) (p:=[some (.tup (aK r)),some (.tup (aP C)),none]) (d:= .tup (aP C)) rfl p2 gN]
  show(rX [.obj true "Setter" [] [],.tup (aP C)]).bind _=_
  rw [i];rfl
 have ar:∀S0:D,bB [.im (aA 0),.im (aI qB aD)] [some (.tup (aK r)),some (.tup (aP C)),some S0]=some [.tup (aK r),aU true 0]:=fun S0=>eC (f:=aA 0) rfl p1 (eC (f:=aI qB aD) (bJ (ds:=[]) rfl f) p3 gN)
 refine sJ rfl ((kZ s1).trans ?_)
 cases e:bY true 0 r C ⟨#[]⟩ with
 |none=>
  refine zu2 (rM (ys:=[.tup (aK r),aU true 0]) rfl (ar _) (rN (by simp [bW,bP]) ?_))
  exact yb4 n r hd ho true 0 C 0 [] (Int.le_refl _) (by omega) e (Nat.zero_le _) hs ⟨by show 0+_<=_;omega,by show 0+_<=_;omega⟩
 | some s=>
  obtain⟨rest,t⟩:=s
  obtain⟨u',ps',q,e1,e2,e3,_⟩:=yA n r hd ho true 0 C 0 [] rest t (Int.le_refl _) (by omega) e (Nat.zero_le _) ⟨by show 0+_<=_;omega,by show 0+_<=_;omega⟩
  have hr:rest≠[]:=fun z=>h t (by rw [e,z])
  have hu:u'<C.length:=by
   have:=congrArg List.length e1
   rw [List.length_drop] at this
   have:=List.length_pos_iff.mpr hr
   omega
  have hm:=xY (m:="set_row") (by simp [bW,bP]) q
  have s2:bA (bG 2 aW (bB [.im (aA 0),.im (aI qB aD)]) (fE "Setter" "set_row" (lQ n))) [some (.tup (aK r)),some (.tup (aP C)),some (stD C 0 [])]=some (.nx,[some (.tup (aK r)),some (.tup (aP C)),some (stD C u' ps')]):=by
   refine lW (d:= .non) ?_
   unfold bG
   rw [ar]
   show((fE "Setter" "set_row" (lQ n) [.tup (aK r),aU true 0] (stD C 0 [])).bind _)=_
   rw [hm];rfl
  have w':fK "Setter" "whole_text" (aA 2) [some (.tup (aK r)),some (.tup (aP C)),some (stD C u' ps')]=some (stD C u' ps'):=by
   unfold stD
   simp [fK,bW,bP,aA]
  exact zu3 ((kZ s2).trans ((yv7 w').trans (yp7 hu)))
abbrev pM(n:Nat):tz6:=gP 2 2 (xE (yO n))
theorem ze3{n:Nat}{R Cs:D}(h:yO n [R,Cs]=true):pM n [R,Cs]=some (.bl true):=by
 have s:zv6 (yO n) (aB (aA 0) (aB (aA 1) aD)) [some R,some Cs,some .non,none]=some (.ret (.bl true),[some R,some Cs,some .non,none]):=by
  unfold zv6
  rw [aE (f:=aA 0) (d:=R) rfl (aE (f:=aA 1) (d:=Cs) rfl (show aD _=some [] from rfl)),Option.bind_some,if_pos h]
 exact iA rfl ((aF (bZ rfl)).trans s)
theorem yv8{r:List Pc}{C:List Int}{t0 t:Str}{b:Bool}{m:Int}{k:Nat}(h:bY b m r C t0=some ([],t))(hk:k<C.length):∀t',bY b m r (C.take k) t0≠some ([],t'):=fun t' z=>by
 have:=kU (C.drop k) z
 rw [List.take_append_drop,h,List.nil_append] at this
 have e:=congrArg List.length (Prod.mk.inj (Option.some.inj this)).1
 rw [List.length_drop,List.length_nil] at e
 omega
theorem yv9{r:List Pc}{C x:List Int}{t0 t:Str}{b:Bool}{m:Int}(h:bY b m r C t0=some ([],t))(hx:x≠[]):∀t',bY b m r (C++x) t0≠some ([],t'):=fun t' z=>by
 have e:=kU x h
 rw [z,List.nil_append] at e
 exact hx (Prod.mk.inj (Option.some.inj e)).1.symm
mutual
def iN:Bool->Pc->List Int->Option (List Nat×List Int)
 |_,.leaf _,cs=>some ([],cs)
 | b,.group r,cs=>if b=true then(match cs with
   |[]=>none
   |c::cs=>(gT (!decide (c=0)) r cs).map fun x=>(2::x.1,x.2)) else gT false r cs
 |b,.hang _ r,cs=>gT b r cs
 | b,.either rs,cs=>match cs with
   |[]=>none
   |c::cs=>if 0<=c then(iZ b rs c.toNat cs).map fun x=>(rs.length::x.1,x.2) else none
def gT:Bool->List Pc->List Int->Option (List Nat×List Int)
 |_,[],cs=>some ([],cs)
 |b,p::r,cs=>(iN b p cs).bind fun x=>(gT b r x.2).map fun y=>(x.1++y.1,y.2)
def iZ:Bool->List (List Pc)->Nat->List Int->Option (List Nat×List Int)
 |_,[],_,_=>none
 |b,r::_,0,cs=>gT b r cs
 |b,_::rs,i+1,cs=>iZ b rs i cs
end
def xI(set:List Int->Str->Option (List Int×Str))(want:List Int->Option (List Nat×List Int)):Prop:=∀(cs cs':List Int) (t t':Str),set cs t=some (cs',t')->
 ∃us W,cs=us++cs'/\want cs=some (W,cs')/\W.length=us.length/\(∀y,set (us++y) t=some (y,t'))/\∀(i w:Nat) (v:Int) (x:List Int),W[i]? =some w->(v<0\/(w:Int)<=v)->set (us.take i++v::x) t=none
theorem zm6{set:List Int->Str->Option (List Int×Str)}{want:List Int->Option (List Nat×List Int)}(h:∀cs cs' t t',set cs t=some (cs',t')->cs'=cs/\∀y,set y t=some (y,t'))(hw:∀cs,want cs=some ([],cs)):xI set want:=fun cs cs' t t' e=>⟨[],[],by rw [(h _ _ _ _ e).1];rfl,by rw [hw,(h _ _ _ _ e).1],rfl,(h _ _ _ _ e).2,fun i w v x q=>by simp at q⟩
theorem wW{set set2:List Int->Str->Option (List Int×Str)}{want want2:List Int->Option (List Nat×List Int)}{n:Nat}{c:Int}{cs cs':List Int}{t t':Str}(h:xI set want)(e:set cs t=some (cs',t'))(hs:∀x,set2 (c::x) t=set x t)(hw:want2 (c::cs)=(want cs).map fun x=>(n::x.1,x.2))
  (ho:∀(v:Int) (x:List Int),(v<0\/(n:Int)<=v)->set2 (v::x) t=none):
  ∃us W,c::cs=us++cs'/\want2 (c::cs)=some (W,cs')/\W.length=us.length/\(∀y,set2 (us++y) t=some (y,t'))/\∀(i w:Nat) (v:Int) (x:List Int),W[i]? =some w->(v<0\/(w:Int)<=v)->set2 (us.take i++v::x) t=none:=by
 obtain⟨us,W,e1,e2,e3,e5,e4⟩:=h cs cs' t t' e
 refine⟨c::us,n::W,by rw [e1];rfl,by rw [hw,e2];rfl,by rw [List.length_cons,List.length_cons,e3],fun y=>by show set2 (c::(us++y)) t=_;rw [hs];exact e5 y,fun i w v x q hv=> ?_⟩
 cases i with
 |zero=>
  have:n=w:=by simpa using q
  subst this
  exact ho v x hv
 |succ i=>
  show set2 (c::(us.take i++v::x)) t=none
  rw [hs]
  exact e4 i w v x (by simpa using q) hv
mutual
theorem xj3:∀(p:Pc) (b:Bool) (m:Int),okP p->xI (cQ b m p) (iN b p)
 | .leaf l,b,m,_=>zm6 (fun cs cs' t t' e=>by
   rw [cQ] at e
   cases q:wr b m (col t) l with
   |none=>rw [q] at e;cases e
   |some w=>rw [q] at e;cases e;exact⟨rfl,fun y=>by rw [cQ,q];rfl⟩) fun cs=>by rw [iN]
 | .group r,b,m,ho=>fun cs cs' t t' e=>by
  cases b with
  |false=>
   have e':bY false m r cs t=some (cs',t'):=by rw [cQ.eq_def] at e;simpa using e
   obtain⟨us,W,e1,e2,e3,e5,e4⟩:=rO r false m ho cs cs' t t' e'
   refine⟨us,W,e1,by rw [iN.eq_def];simpa using e2,e3,fun y=>by rw [cQ.eq_def];simpa using e5 y,fun i w v x q hv=> ?_⟩
   rw [cQ.eq_def]
   simpa using e4 i w v x q hv
  | true=>
   cases cs with
   |nil=>rw [cQ.eq_def] at e;simp at e
   | cons c cs=>
    have out:∀(v:Int) (x:List Int),(v<0\/((2:Nat):Int)<=v)->cQ true m (.group r) (v::x) t=none:=fun v x hv=>by
     rw [cQ.eq_def]
     simp only [if_true]
     rw [if_neg (show ¬v=0 by omega),if_neg (show ¬v=1 by omega)]
    by_cases c0:c=0
    ·subst c0
     have e':bY false m r cs t=some (cs',t'):=by rw [cQ.eq_def] at e;simpa using e
     exact wW (set2:=cQ true m (.group r)) (want2:=iN true (.group r)) (rO r false m ho) e' (fun x=>by rw [cQ.eq_def];simp) (by rw [iN.eq_def];simp) out
    ·by_cases c1:c=1
     ·subst c1
      have e':bY true m r cs t=some (cs',t'):=by rw [cQ.eq_def] at e;simpa using e
      exact wW (set2:=cQ true m (.group r)) (want2:=iN true (.group r)) (rO r true m ho) e' (fun x=>by rw [cQ.eq_def];simp) (by rw [iN.eq_def];simp) out
     ·rw [cQ.eq_def] at e
      simp [c0,c1] at e
 | .hang n r,b,m,ho=>fun cs cs' t t' e=>by
  rw [cQ] at e
  obtain⟨us,W,e1,e2,e3,e5,e4⟩:=rO r b (m+n) ho.2 cs cs' t t' e
  exact⟨us,W,e1,by rw [iN];exact e2,e3,fun y=>by rw [cQ];exact e5 y,fun i w v x q hv=>by rw [cQ];exact e4 i w v x q hv⟩
 | .either rs,b,m,ho=>fun cs cs' t t' e=>by
  have ho':(2<=rs.length/\rs.length<=4)/\iG rs:=ho
  cases cs with
  |nil=>rw [cQ.eq_def] at e;cases e
  | cons c cs=>
   have out:∀(v:Int) (x:List Int),(v<0\/(rs.length:Int)<=v)->cQ b m (.either rs) (v::x) t=none:=fun v x hv=>by
    rw [cQ.eq_def]
    simp only
    by_cases v0:0<=v
    ·rw [if_pos v0]
     exact uW (List.getElem?_eq_none_iff.mpr (by omega))
    ·rw [if_neg v0]
   by_cases c0:0<=c
   ·have e':hX b m rs c.toNat cs t=some (cs',t'):=by rw [cQ.eq_def] at e;simpa [c0] using e
    exact wW (set2:=cQ b m (.either rs)) (want2:=iN b (.either rs)) (yp9 rs c.toNat b m ho'.2) e' (fun x=>by rw [cQ.eq_def];simp [c0]) (by rw [iN.eq_def];simp [c0]) out
   ·rw [cQ.eq_def] at e
    simp [c0] at e
theorem rO:∀(r:List Pc) (b:Bool) (m:Int),okR r->xI (bY b m r) (gT b r)
 |[],b,m,_=>zm6 (fun cs cs' t t' e=>by rw [bY] at e;cases e;exact⟨rfl,fun y=>by rw [bY]⟩) fun cs=>by rw [gT]
 | p ::r,b,m,ho=>fun cs cs' t t' e=>by
  rw [okR] at ho
  rw [bY] at e
  cases q:cQ b m p cs t with
  |none=>rw [q] at e;cases e
  | some s=>
   obtain⟨c1,t1⟩:=s
   rw [q] at e
   obtain⟨us,W,e1,e2,e3,e5,e4⟩:=xj3 p b m ho.1 cs c1 t t1 q
   obtain⟨us2,W2,f1,f2,f3,f5,f4⟩:=rO r b m ho.2 c1 cs' t1 t' e
   refine⟨us++us2,W++W2,by rw [e1,f1,List.append_assoc],by rw [gT,e2];show(gT b r c1).map _=_;rw [f2];rfl,by rw [List.length_append,List.length_append,e3,f3],fun y=>by rw [bY,List.append_assoc,e5];exact f5 y,fun i w v x hi hv=> ?_⟩
   rw [bY]
   by_cases hl:i<W.length
   ·rw [List.getElem?_append_left hl] at hi
    rw [List.take_append_of_le_length (by omega),e4 i w v x hi hv];rfl
   ·rw [List.getElem?_append_right (Nat.le_of_not_lt hl)] at hi
    have ht:(us++us2).take i=us++us2.take (i-W.length):=by
     rw [List.take_append,List.take_of_length_le (by omega),e3]
    rw [ht,List.append_assoc,e5]
    exact f4 (i-W.length) w v x hi hv
theorem yp9:∀(rs:List (List Pc)) (i:Nat) (b:Bool) (m:Int),iG rs->xI (hX b m rs i) (iZ b rs i)
 |[],i,b,m,_=>fun cs cs' t t' e=>by rw [hX] at e;cases e
 |r::rs,0,b,m,ho=>fun cs cs' t t' e=>by
  rw [iG] at ho
  rw [hX] at e
  obtain⟨us,W,e1,e2,e3,e5,e4⟩:=rO r b m ho.1 cs cs' t t' e
  exact⟨us,W,e1,by rw [iZ];exact e2,e3,fun y=>by rw [hX];exact e5 y,fun i w v x q hv=>by rw [hX];exact e4 i w v x q hv⟩
 |r::rs,i+1,b,m,ho=>fun cs cs' t t' e=>by
  rw [iG] at ho
  rw [hX] at e
  obtain⟨us,W,e1,e2,e3,e5,e4⟩:=yp9 rs i b m ho.2 cs cs' t t' e
  exact⟨us,W,e1,by rw [iZ];exact e2,e3,fun y=>by rw [hX];exact e5 y,fun k w v x q hv=>by rw [hX];exact e4 k w v x q hv⟩
end
theorem ze4:∀{rs:List (List Pc)} {i:Nat} {b:Bool} {cs:List Int} {r:List Pc},rs[i]? =some r->iZ b rs i cs=gT b r cs
 |[],i,_,_,_,h=>by simp at h
 |q::rs,0,_,_,_,h=>by simp at h;subst h;rw [iZ]
 |q::rs,i+1,_,_,_,h=>by rw [iZ];exact ze4 (by simpa using h)
theorem yW:∀{rs:List (List Pc)} {i:Nat} {b:Bool} {cs:List Int},rs[i]? =none->iZ b rs i cs=none
 |[],i,_,_,h=>by rw [iZ]
 |q::rs,0,_,_,h=>by simp at h
 |q::rs,i+1,_,_,h=>by rw [iZ];exact yW (by simpa using h)
mutual
theorem yw0:∀(p:Pc) (b:Bool) (cs:List Int) (x:List Nat×List Int),okP p->iN b p cs=some x->∀w∈x.1,w<=4
 | .leaf l,b,cs,x,_,h=>by rw [iN] at h;cases h;simp
 | .group r,b,cs,x,ho,h=>by
  rw [iN.eq_def] at h
  simp only at h
  cases b with
  |false=>simp only [Bool.false_eq_true,if_false] at h;exact pE r _ _ _ ho h
  | true=>
   cases cs with
   |nil=>simp at h
   | cons c cs=>
    simp only [if_true] at h
    cases q:gT (!decide (c=0)) r cs with
    |none=>rw [q] at h;cases h
    |some s=>
     rw [q] at h;cases h
     intro w hw
     rcases List.mem_cons.mp hw with e|e
     ·omega
     ·exact pE r _ _ _ ho q w e
 | .hang n r,b,cs,x,ho,h=>by rw [iN] at h;exact pE r _ _ _ ho.2 h
 | .either rs,b,cs,x,ho,h=>by
  have ho':(2<=rs.length/\rs.length<=4)/\iG rs:=ho
  rw [iN.eq_def] at h
  cases cs with
  |nil=>cases h
  | cons c cs=>
   simp only at h
   by_cases c0:0<=c
   ·rw [if_pos c0] at h
    cases q:iZ b rs c.toNat cs with
    |none=>rw [q] at h;cases h
    |some s=>
     rw [q] at h;cases h
     intro w hw
     rcases List.mem_cons.mp hw with e|e
     ·omega
     ·exact zu4 rs _ _ _ _ ho'.2 q w e
   ·rw [if_neg c0] at h;cases h
theorem pE:∀(r:List Pc) (b:Bool) (cs:List Int) (x:List Nat×List Int),okR r->gT b r cs=some x->∀w∈x.1,w<=4
 |[],b,cs,x,_,h=>by rw [gT] at h;cases h;simp
 | p::r,b,cs,x,ho,h=>by
  rw [okR] at ho
  rw [gT] at h
  obtain⟨y,h1,h2⟩:=bind_some h
  cases q:gT b r y.2 with
  |none=>rw [q] at h2;cases h2
  |some s=>
   rw [q] at h2;cases h2
   intro w hw
   rcases List.mem_append.mp hw with e|e
   ·exact yw0 p _ _ _ ho.1 h1 w e
   ·exact pE r _ _ _ ho.2 q w e
theorem zu4:∀(rs:List (List Pc)) (i:Nat) (b:Bool) (cs:List Int) (x:List Nat×List Int),iG rs->iZ b rs i cs=some x->∀w∈x.1,w<=4
 |[],i,b,cs,x,_,h=>by rw [iZ] at h;cases h
 |r::rs,0,b,cs,x,ho,h=>by rw [iG] at ho;rw [iZ] at h;exact pE r _ _ _ ho.1 h
 |r::rs,i+1,b,cs,x,ho,h=>by rw [iG] at ho;rw [iZ] at h;exact zu4 rs i _ _ _ ho.2 h
end
def wsD(W:List Nat):List D:=W.map fun(n:Nat)=> .int (n:Int)
theorem zu5:∀W:List Nat,D.imms (wsD W)=true
 |[]=>rfl
 |w::W=>by show(D.imm (.int (w:Int))&&D.imms (wsD W))=true;rw [zu5 W];rfl
theorem zu6(W:List Nat):(wsD W).length=W.length:=by simp [wsD]
theorem yq0(W V:List Nat):wsD (W++V)=wsD W++wsD V:=by simp [wsD]
abbrev wIf(w:String)(F:tz1):tz1:=fIf (aL (kdT 4 w)) F aZ
abbrev adW(f1 f2:tz2)(GT:tz7):tz1:=aS 3 (vL 3 bE (fIO [.im f1,.im f2,.io 2] GT))
abbrev apW(f:tz2):tz1:=bA (bG 3 aW (aB f aD) bC)
abbrev zw5:tz8:=bG 2 aW (aB (fC (.int 0)) aD) vI
def uC(GT:tz7):tz1:=
 aO (wIf "hang" (adW (f2 dIx (aA 4) (fC (.int 2))) (aA 1) GT))
 (aO (wIf "group" (aO (aS 5 (aH (aY (aA 1)))) (aO (fIf (aL (dE (fT (aA 1)))) (aO (aS 5 (fE2 dEq zw5 (fC (.int 0)))) (apW (fC (.int 2)))) aZ) (adW (f2 dIx (aA 4) (fC (.int 1))) (aA 5) GT))))
 (wIf "either" (aO (aS 6 zw5) (aO (apW (aI bV (aB (f2 dIx (aA 4) (fC (.int 1))) aD))) (adW (f2 dIx (f2 dIx (aA 4) (fC (.int 1))) (aA 6)) (aA 1) GT)))))
section
variable{w k:String}{F:tz1}{p:PSt}{ds:List D}
theorem oN(hp:p[4]? =some (some (.tup (.str k::ds))))(h:decide (k=w)=false):wIf w F p=some (.nx,p):=bO (fP hp h)
theorem zj4(hp:p[4]? =some (some (.tup (.str k::ds))))(h:decide (k=w)=true):wIf w F p=F p:=cT (fP hp h)
end
abbrev wS(R:Option D)(b:Bool)(cs:List Int)(V:List Nat)(d4:D)(x5 x6:Option D):PSt:=[R,some (.bl (!b)),some (.lst true (aP cs)),some (.lst true (wsD V)),some d4,x5,x6]
def zj8(GT:tz7)(r:List Pc):Prop:=(bR r).length<=900->∀(b:Bool) (cs rest:List Int) (W:List Nat),gT b r cs=some (W,rest)->
 GT [.tup (aK r),.bl (!b),.lst true (aP cs)]=some (.lst true (wsD W),[.tup (aK r),.bl (!b),.lst true (aP rest)])/\W.length<=(bR r).length
def zw6(GT:tz7)(p:Pc):Prop:=∀(R:Option D) (b:Bool) (cs rest:List Int) (V W:List Nat) (x5 x6:Option D),V.length+(cX p).length<=900->iN b p cs=some (W,rest)->
 W.length<=(cX p).length/\∃y5 y6:Option D,uC GT (wS R b cs V (pcD p) x5 x6)=some (.nx,wS R b rest (V++W) (pcD p) y5 y6)
section
variable{GT:tz7}{R x5 x6:Option D}{b fl:Bool}{cs rest:List Int}{V W:List Nat}{d4:D}
theorem zu7{f1 f2:tz2}{r:List Pc}(h1:f1 (wS R b cs V d4 x5 x6)=some (.tup (aK r)))(h2:f2 (wS R b cs V d4 x5 x6)=some (.bl fl))
  (q:GT [.tup (aK r),.bl fl,.lst true (aP cs)]=some (.lst true (wsD W),[.tup (aK r),.bl fl,.lst true (aP rest)])) (hl:V.length+W.length<=1000):
  adW f1 f2 GT (wS R b cs V d4 x5 x6)=some (.nx,wS R b rest (V++W) d4 x5 x6):=by
 have c:=tU (as:=[.im f1,.im f2,.io 2]) (eC h1 (dL r) (eC h2 rfl (qV (j:=2) rfl gN))) q rfl
 have a:bE (.lst true (wsD V)) (.lst true (wsD W))=some (.lst true (wsD (V++W))):=by rw [yq0];exact zs8 (zu5 V) (zu5 W) (by rw [zu6,zu6];exact hl)
 unfold adW aS vL
 show(((some (.lst true (wsD V)):Option D).bind fun _=>(fIO [.im f1,.im f2,.io 2] GT (wS R b cs V d4 x5 x6)).bind _).bind _)=_
 rw [c]
 show(((bE (.lst true (wsD V)) (.lst true (wsD W))).bind _).bind _)=_
 rw [a];rfl
theorem yq1{f:tz2}{n:Nat}(h:f (wS R b cs V d4 x5 x6)=some (.int (n:Int)))(hl:V.length<=900):apW f (wS R b cs V d4 x5 x6)=some (.nx,wS R b cs (V++[n]) d4 x5 x6):=by
 have hz:(wsD V).length<sizeLine:=by rw [zu6];exact sz1 (by omega)
 refine lW (d:= .non) ?_
 unfold bG
 show((some (.lst true (wsD V)):Option D).bind _)=_
 rw [Option.bind_some]
 show(some []).bind _=_
 rw [Option.bind_some,aE h (show aD _=some [] from rfl),Option.bind_some]
 show((bC [.int (n:Int)] (.lst true (wsD V))).bind _)=_
 rw [show bC [.int (n:Int)] (.lst true (wsD V))=some (.non,.lst true (wsD V++[.int (n:Int)])) from if_pos hz]
 unfold wS
 rw [yq0];rfl
theorem yw1{k:String}{ds:List D}(h2:decide (k="hang")=false)(h3:decide (k="group")=false)(h4:decide (k="either")=false):uC GT (wS R b cs V (.tup (.str k::ds)) x5 x6)=some (.nx,wS R b cs V (.tup (.str k::ds)) x5 x6):=
 (aF (oN rfl h2)).trans ((aF (oN rfl h3)).trans (oN rfl h4))
end
theorem yw2{GT:tz7}{l:Leaf}:zw6 GT (.leaf l):=by
 intro R b cs rest V W x5 x6 hx h
 rw [iN] at h;cases h
 refine⟨Nat.zero_le _,x5,x6,?_⟩
 rw [List.append_nil]
 cases l<;>exact yw1 (by decide) (by decide) (by decide)
theorem yw3{GT:tz7}{k:Int}{r:List Pc}(hr:zj8 GT r):zw6 GT (.hang k r):=by
 intro R b cs rest V W x5 x6 hx h
 have htk:(cX (.hang k r)).length=(bR r).length+2:=by simp [cX]
 rw [htk] at hx|-
 rw [iN] at h
 obtain⟨q,e⟩:=hr (by omega) b cs rest W h
 refine⟨by omega,x5,x6,?_⟩
 exact(aF ((zj4 rfl (by decide)).trans (zu7 (aT rfl rfl (fW _ _ _ _)) rfl q (by omega)))).trans ((aF (oN rfl (by decide))).trans (oN rfl (by decide)))
theorem yq2{GT:tz7}{r:List Pc}(hr:zj8 GT r):zw6 GT (.group r):=by
 intro R b cs rest V W x5 x6 hx h
 have htk:(cX (.group r)).length=(bR r).length+2:=by simp [cX]
 rw [htk] at hx|-
 have fin:∀(cs':List Int) (V' W':List Nat) (i:Bool),V'.length<=V.length+1->aO (aS 5 (aH (aY (aA 1)))) (aO (fIf (aL (dE (fT (aA 1)))) (aO (aS 5 (fE2 dEq zw5 (fC (.int 0)))) (apW (fC (.int 2)))) aZ) (adW (f2 dIx (aA 4) (fC (.int 1))) (aA 5) GT)) (wS R b cs V (pcD (.group r)) x5 x6)=adW (f2 dIx (aA 4) (fC (.int 1))) (aA 5) GT (wS R b cs' V' (pcD (.group r)) (some (.bl (!i))) x6)->gT i r cs'=some (W',rest)->
   W'.length<=(bR r).length/\∃y5 y6:Option D,uC GT (wS R b cs V (pcD (.group r)) x5 x6)=some (.nx,wS R b rest (V'++W') (pcD (.group r)) y5 y6):=fun cs' V' W' i hV hs h=>by
  obtain⟨q,e⟩:=hr (by omega) i cs' rest W' h
  refine⟨e,some (.bl (!i)),x6,?_⟩
  exact(aF (oN rfl (by decide))).trans ((aF ((zj4 rfl (by decide)).trans (hs.trans (zu7 (aT rfl rfl (cR _ _ _)) rfl q (by omega))))).trans (oN rfl (by decide)))
 have s0:∀x5:Option D,aS 5 (aH (aY (aA 1))) (wS R b cs V (pcD (.group r)) x5 x6)=some (.nx,wS R b cs V (pcD (.group r)) (some (.bl (!b))) x6):=fun _=>rfl
 rw [iN.eq_def] at h
 simp only at h
 cases b with
 |false=>
  simp only [Bool.false_eq_true,if_false] at h
  obtain⟨e1,e2⟩:=fin cs V W false (by omega) ((aF (s0 _)).trans (aF (bO rfl))) h
  exact⟨by omega,e2⟩
 | true=>
  cases cs with
  |nil=>simp at h
  | cons c cs=>
   simp only [if_true] at h
   cases q:gT (!decide (c=0)) r cs with
   |none=>rw [q] at h;cases h
   | some s=>
    rw [q] at h;cases h
    have s1:aS 5 (fE2 dEq zw5 (fC (.int 0))) (wS R true (c::cs) V (pcD (.group r)) (some (.bl (!true))) x6)=some (.nx,wS R true cs V (pcD (.group r)) (some (.bl (decide (c=0)))) x6):=rfl
    have s2:apW (fC (.int 2)) (wS R true cs V (pcD (.group r)) (some (.bl (decide (c=0)))) x6)=some (.nx,wS R true cs (V++[2]) (pcD (.group r)) (some (.bl (decide (c=0)))) x6):=yq1 (n:=2) rfl (by omega)
    obtain⟨e1,y5,y6,e2⟩:=fin cs (V++[2]) s.1 (!decide (c=0)) (by simp) (by
     rw [Bool.not_not]
     exact(aF (s0 _)).trans (aF ((cT (c:=dE (fT (aA 1))) rfl).trans ((aF s1).trans s2)))) q
    refine⟨by rw [List.length_cons];omega,y5,y6,?_⟩
    rw [List.append_assoc] at e2
    exact e2
theorem yg9{GT:tz7}{rs:List (List Pc)}(h4:rs.length<=4)(hr:∀r∈rs,zj8 GT r):zw6 GT (.either rs):=by
 intro R b cs rest V W x5 x6 hx h
 have htk:(cX (.either rs)).length=(nO rs).length+2:=by simp [cX]
 rw [htk] at hx|-
 rw [iN.eq_def] at h
 cases cs with
 |nil=>cases h
 | cons c cs=>
  simp only at h
  by_cases c0:0<=c
  ·rw [if_pos c0] at h
   cases hg:rs[c.toNat]? with
   |none=>rw [yW hg] at h;cases h
   | some r=>
    rw [ze4 hg] at h
    cases e:gT b r cs with
    |none=>rw [e] at h;cases h
    | some s=>
     rw [e] at h;cases h
     have htr:=pP (List.mem_of_getElem? hg)
     obtain⟨q,e2⟩:=hr r (List.mem_of_getElem? hg) (by omega) b cs s.2 s.1 e
     have qx:atI (cK rs) c=some (.tup (aK r)):=by
      have:=lI (zS hg)
      rwa [Int.toNat_of_nonneg c0] at this
     refine⟨by rw [List.length_cons];omega,x5,some (.int c),?_⟩
     have s6:aS 6 zw5 (wS R b (c::cs) V (pcD (.either rs)) x5 x6)=some (.nx,wS R b cs V (pcD (.either rs)) x5 (some (.int c))):=rfl
     have s7:apW (aI bV (aB (f2 dIx (aA 4) (fC (.int 1))) aD)) (wS R b cs V (pcD (.either rs)) x5 (some (.int c)))=some (.nx,wS R b cs (V++[rs.length]) (pcD (.either rs)) x5 (some (.int c))):=by
      refine yq1 (bJ (aE (aT rfl rfl (cR _ _ _)) rfl) ?_) (by omega)
      show some (D.int ((cK rs).length:Int))=_
      rw [kA]
     have s8:=zu7 (GT:=GT) (R:=R) (b:=b) (x5:=x5) (x6:=some (.int c)) (V:=V++[rs.length]) (d4:=pcD (.either rs)) (f1:=f2 dIx (f2 dIx (aA 4) (fC (.int 1))) (aA 6)) (f2:=aA 1) (aT (aT rfl rfl (cR _ _ _)) rfl qx) rfl q (by rw [List.length_append,List.length_singleton];omega)
     rw [List.append_assoc] at s8
     exact(aF (oN (ds:=[.tup (cK rs)]) rfl (by decide))).trans ((aF (oN (ds:=[.tup (cK rs)]) rfl (by decide))).trans ((zj4 (ds:=[.tup (cK rs)]) rfl (by decide)).trans ((aF s6).trans ((aF s7).trans s8))))
  ·rw [if_neg c0] at h;cases h
theorem yq3{GT:tz7}{k:Nat}(hG:∀r,cV r<k->okR r->zj8 GT r){p:Pc}(hd:fM p<=k)(ho:okP p):zw6 GT p:=by
 cases p with
 |leaf l=>exact yw2
 |group r=>rw [fM] at hd;exact yq2 (hG r (by omega) ho)
 |hang n r=>rw [fM] at hd;exact yw3 (hG r (by omega) ho.2)
 |either rs=>
  rw [fM] at hd
  have ho':(2<=rs.length/\rs.length<=4)/\iG rs:=ho
  refine yg9 ho'.1.2 fun r hr=> ?_
  obtain⟨i,hi⟩:=List.getElem?_of_mem hr
  have:=nW hi
  exact hG r (by omega) (rL ho'.2 hi)
theorem zu8{GT:tz7}{k:Nat}{R:Option D}{b:Bool}(hG:∀r,cV r<k->okR r->zj8 GT r):∀(r:List Pc) (cs rest:List Int) (V W:List Nat) (x4 x5 x6:Option D),cV r<=k->okR r->V.length+(bR r).length<=900->gT b r cs=some (W,rest)->
  W.length<=(bR r).length/\∃y4 y5 y6:Option D,eW 4 (uC GT) (aK r) [R,some (.bl (!b)),some (.lst true (aP cs)),some (.lst true (wsD V)),x4,x5,x6]=some (.nx,[R,some (.bl (!b)),some (.lst true (aP rest)),some (.lst true (wsD (V++W))),y4,y5,y6])
 |[],cs,rest,V,W,x4,x5,x6,_,_,_,h=>by
  rw [gT] at h;cases h
  exact⟨Nat.zero_le _,x4,x5,x6,by rw [List.append_nil];rfl⟩
 | p::r,cs,rest,V,W,x4,x5,x6,hd,ho,hx,h=>by
  rw [okR] at ho
  rw [cV] at hd
  have htk:(bR (p::r)).length=(cX p).length+(bR r).length:=by rw [bR,List.length_append]
  rw [htk] at hx|-
  rw [gT] at h
  obtain⟨⟨W1,c1⟩,h1,h2⟩:=bind_some h
  cases h3:gT b r c1 with
  |none=>rw [h3] at h2;cases h2
  |some s=>
   obtain⟨W2,c2⟩:=s
   rw [h3] at h2;cases h2
   obtain⟨e1,y5,y6,q⟩:=yq3 hG (p:=p) (by omega) ho.1 R b cs c1 V W1 x5 x6 (by omega) h1
   obtain⟨e2,z4,z5,z6,q2⟩:=zu8 (R:=R) hG r c1 _ (V++W1) W2 (some (pcD p)) y5 y6 (by omega) ho.2 (by rw [List.length_append];omega) h3
   refine⟨by show(W1++W2).length<=_;rw [List.length_append];omega,z4,z5,z6,?_⟩
   rw [<-List.append_assoc]
   show eW 4 _ (pcD p::aK r) _=_
   rw [eW]
   show((uC GT (wS R b cs V (pcD p) x5 x6)).bind _)=_
   rw [q];exact q2
def oU:Nat->tz7
 |0=>fun _=>none
 |n+1=>gE 3 4 (bF [false,false,true]) (pQ (oU n))
theorem yb5:∀(k:Nat) (r:List Pc),cV r<k->okR r->zj8 (oU k) r
 |0,_,h,_=>absurd h (Nat.not_lt_zero _)
 |k+1,r,hd,ho=>fun hl b cs rest W h=>by
  obtain⟨e,y4,y5,y6,q⟩:=zu8 (GT:=oU k) (k:=k) (R:=some (.tup (aK r))) (fun s hs hk=>yb5 k s hs hk) r cs rest [] W none none none (by omega) ho (by show 0+_<=_;omega) h
  refine⟨?_,e⟩
  show gE 3 4 _ (pQ (oU k)) _=_
  have s0:aS 3 (aH (cA aD)) [some (.tup (aK r)),some (.bl (!b)),some (.lst true (aP cs)),none,none,none,none]=some (.nx,[some (.tup (aK r)),some (.bl (!b)),some (.lst true (aP cs)),some (.lst true (wsD [])),none,none,none]):=rfl
  have s1:fI 4 (dR (aA 0)) (uC (oU k)) [some (.tup (aK r)),some (.bl (!b)),some (.lst true (aP cs)),some (.lst true (wsD [])),none,none,none]=_:=q
  rw [List.nil_append] at s1
  have z:pQ (oU k) ([.tup (aK r),.bl (!b),.lst true (aP cs)].map some++List.replicate 4 none)=some (.ret (.lst true (wsD W)),[some (.tup (aK r)),some (.bl (!b)),some (.lst true (aP rest)),none,y4,y5,y6]):=(aF s0).trans ((aF s1).trans rfl)
  unfold gE
  refine(if_pos rfl).trans ?_
  rw [z];rfl
theorem rP{j:Nat}{F:tz1}{OK:PSt->Prop}:∀(ds:List D) (p:PSt),(∀d∈ds,∀p,OK p->∃p',F (p.set j (some d))=some (.nx,p')/\OK p')->OK p->∃p',eW j F ds p=some (.nx,p')/\OK p'
 |[],p,_,h=>⟨p,rfl,h⟩
 |d::ds,p,hF,h=>by
  obtain⟨p1,e1,h1⟩:=hF d List.mem_cons_self p h
  obtain⟨p2,e2,h2⟩:=rP ds p1 (fun d hd=>hF d (List.mem_cons_of_mem _ hd)) h1
  refine⟨p2,?_,h2⟩
  rw [eW,e1];exact e2
theorem zu9(xs:List D)(k:Nat):L2.vE xs none (some (k:Int))=xs.take k:=by
 unfold L2.vE
 rw [HT.sIx_none,HT.sIx_nat,List.drop_zero,Nat.sub_zero]
 by_cases h:k<=xs.length
 ·rw [Nat.min_eq_left h]
 ·rw [Nat.min_eq_right (by omega),List.take_length,List.take_of_length_le (by omega)]
theorem yw4(xs:List D)(k:Nat):L2.vE xs (some (k:Int)) none=xs.drop k:=by
 unfold L2.vE
 rw [HT.sIx_none,HT.sIx_nat]
 by_cases h:k<=xs.length
 ·rw [Nat.min_eq_left h]
  exact List.take_of_length_le (by rw [List.length_drop];exact Nat.le_refl _)
 ·rw [Nat.min_eq_right (by omega),List.drop_length,List.drop_of_length_le (by omega),List.take_nil]
theorem yb6(C:List Int)(k:Nat):(aP C).take k=aP (C.take k):=by unfold aP;rw [List.map_take]
theorem xd3(C:List Int)(k:Nat):(aP C).drop k=aP (C.drop k):=by unfold aP;rw [List.map_drop]
theorem xj4(a b:List Int):aP a++aP b=aP (a++b):=by unfold aP;rw [List.map_append]
theorem ze5(a:List Int):(aP a).length=a.length:=by unfold aP;rw [List.length_map]
theorem zv0{a b:List Int}(h:a.length+b.length<=1000):bE (.tup (aP a)) (.tup (aP b))=some (.tup (aP (a++b))):=by
 rw [bE,if_pos (by rw [ze5,ze5];exact sz h),xj4]
abbrev rfT(GR:tz6)(f:tz2):tz1:=fIf (aL (dE (fT (aI GR (aB (aA 1) (aB f aD)))))) (bQ (aH (fC (.bl false)))) aZ
theorem yh0{GR:tz6}{f:tz2}{p:PSt}{R d:D}(h1:p[1]? =some (some R))(hf:f p=some d)(hg:GR [R,d]=some (.bl true)):rfT GR f p=some (.nx,p):=
 bO (kR (b:=true) (qM (bJ (aE (gU h1) (aE hf rfl)) hg)))
abbrev xs4(GC:tz6):tz2:=f2 cU (aI GC (aB (aA 0) (aB (fC (.int 1)) aD))) (f2 yh7 (fC (.int 10)) (fC (.int 30)))
abbrev zw7:tz2:=cA (aB (aY (f2 dIx (aA 6) (aA 8))) (aB (fC (.int 4)) (aB (eO (fC (.int 1))) (aB (f2 dIx (cA (aB (f2 fQ (eO (fC (.int 1))) (aA 7)) (aB (f2 bE (fC (.int 4)) (aA 7)) aD))) (f2 cU (aA 8) (fC (.int 2)))) aD))))
abbrev yi0:tz2:=f2 bE (f2 bE (fSl (aA 2) jI (mT (aA 8))) (cE (aB (aY (aA 9)) aD))) (fSl (aA 2) (mT (f2 bE (aA 8) (fC (.int 1)))) jI)
abbrev yi1:tz2:=cA (aB (cE (aB (fC (.int 0)) aD)) (aB (cE (aB (f2 cU (aA 3) (fC (.int 4))) (aB (fC (.int 1)) aD))) (aB (cE (aB (fC (.int 1)) (aB (fC (.int 0)) (aB (f2 cU (aA 3) (fC (.int 3))) aD)))) aD)))
structure Told(GR:tz6)(GW:tz7)(R:D)(C:List Int)(W:List Nat):Prop where
 len:C.length<=900
 low:∀c∈C,0<=c/\c<4
 head:∀k,k<C.length->GR [R,.tup (aP (C.take k))]=some (.bl true)
 more:∀x:List Int,x≠[]->(∀c∈x,0<=c/\c<4)->GR [R,.tup (aP (C++x))]=some (.bl true)
 imm:R.imm=true
 want:∃z,GW [R,.bl false,.lst true (aP C)]=some (.lst true (wsD W),z)
 same:W.length=C.length
 bad:∀(i w:Nat) (v:Int),W[i]? =some w->(v<0\/(w:Int)<=v)->v.natAbs<2^120->GR [R,.tup (aP (C.take i++v::C.drop (i+1)))]=some (.bl true)
 four:∀w∈W,w<=4
section
variable{GM GC GR:tz6}{GW:tz7}{S R:D}{C:List Int}{W:List Nat}{x3 x4 x5 x6 x8 x9:Option D}
theorem yw5(T:Told GR GW R C W):∃y4,fI 4 (kC (aB (aI bV (aB (aA 2) aD)) aD)) (rfT GR (fSl (aA 2) jI (mT (aA 4)))) [some S,some R,some (.tup (aP C)),x3,x4,x5,x6,none,none,none]=some (.nx,[some S,some R,some (.tup (aP C)),x3,y4,x5,x6,none,none,none]):=by
 have e:kC (aB (aI bV (aB (aA 2) aD)) aD) [some S,some R,some (.tup (aP C)),x3,x4,x5,x6,none,none,none]=some (gZ ((0:Nat):Int) C.length):=by
  unfold kC
  rw [aE (bJ (d:= .int (C.length:Int)) (aE (f:=aA 2) (d:= .tup (aP C)) rfl (show aD _=some [] from rfl)) (by show some (D.int ((aP C).length:Int))=_;rw [ze5])) (show aD _=some [] from rfl),Option.bind_some]
  exact yu1 (Nat.le_trans T.len (by decide))
 unfold fI
 rw [e,Option.bind_some]
 obtain⟨p',q,y,rfl⟩:=rP (j:=4) (F:=rfT GR (fSl (aA 2) jI (mT (aA 4)))) (OK:=fun p=>∃y:Option D,p=[some S,some R,some (.tup (aP C)),x3,y,x5,x6,none,none,none]) (gZ ((0:Nat):Int) C.length) _ (fun d hd p ⟨y,hp⟩=>by
  subst hp
  rw [zs7] at hd
  simp only [List.map_map,List.mem_map,List.mem_range] at hd
  obtain⟨k,hk,rfl⟩:=hd
  refine⟨_,yh0 (R:=R) (d:= .tup (aP (C.take k))) rfl ?_ (T.head k hk),_,rfl⟩
  show dSl (.tup (aP C)) none (some (((0:Nat):Int)+(k:Int)))=_
  rw [show((0:Nat):Int)+(k:Int)=(k:Int) by omega,dSl,zu9,yb6]) ⟨x4,rfl⟩
 exact⟨y,q⟩
theorem xd4{num:Int}(T:Told GR GW R C W):∃y5,fI 5 (dR yi1) (rfT GR (f2 bE (aA 2) (aA 5))) [some S,some R,some (.tup (aP C)),some (.int num),x4,x5,x6,none,none,none]=some (.nx,[some S,some R,some (.tup (aP C)),some (.int num),x4,y5,x6,none,none,none]):=by
 have m4:=Int.emod_nonneg num (show(4:Int)≠0 by decide)
 have m4':=Int.emod_lt_of_pos num (show(0:Int)<4 by decide)
 have m3:=Int.emod_nonneg num (show(3:Int)≠0 by decide)
 have m3':=Int.emod_lt_of_pos num (show(0:Int)<3 by decide)
 have e:dR yi1 [some S,some R,some (.tup (aP C)),some (.int num),x4,x5,x6,none,none,none]=some [.tup (aP [0]),.tup (aP [num % 4,1]),.tup (aP [1,0,num % 3])]:=by
  have a4:f2 cU (aA 3) (fC (.int 4)) [some S,some R,some (.tup (aP C)),some (.int num),x4,x5,x6,none,none,none]=some (.int (num % 4)):=aT rfl rfl ((cS _ _).trans (if_pos (by decide)))
  have a3:f2 cU (aA 3) (fC (.int 3)) [some S,some R,some (.tup (aP C)),some (.int num),x4,x5,x6,none,none,none]=some (.int (num % 3)):=aT rfl rfl ((cS _ _).trans (if_pos (by decide)))
  unfold dR
  rw [show yi1 _=_ from fN (aE (eZ (aE rfl rfl) rfl (Nat.le_of_ble_eq_true rfl)) (aE (eZ (aE a4 (aE rfl rfl)) rfl (Nat.le_of_ble_eq_true rfl)) (aE (eZ (aE rfl (aE rfl (aE a3 rfl))) rfl (Nat.le_of_ble_eq_true rfl)) rfl))) (Nat.le_of_ble_eq_true rfl)]
  rfl
 unfold fI
 rw [e,Option.bind_some]
 obtain⟨p',q,y,rfl⟩:=rP (j:=5) (F:=rfT GR (f2 bE (aA 2) (aA 5))) (OK:=fun p=>∃y:Option D,p=[some S,some R,some (.tup (aP C)),some (.int num),x4,y,x6,none,none,none]) [.tup (aP [0]),.tup (aP [num % 4,1]),.tup (aP [1,0,num % 3])] _ (fun d hd p ⟨y,hp⟩=>by
  subst hp
  have hx:∃x:List Int,d= .tup (aP x)/\x≠[]/\x.length<=3/\∀c∈x,0<=c/\c<4:=by
   simp only [List.mem_cons,List.not_mem_nil,or_false] at hd
   rcases hd with rfl|rfl|rfl
   ·exact⟨_,rfl,by simp,by simp,by simp⟩
   ·exact⟨_,rfl,by simp,by simp,by simp;omega⟩
   ·exact⟨_,rfl,by simp,by simp,by simp;omega⟩
  obtain⟨x,rfl,x1,x2,x3⟩:=hx
  have hl:=T.len
  exact⟨_,yh0 (R:=R) (d:= .tup (aP (C++x))) rfl (aT rfl rfl (zv0 (by omega))) (T.more x x1 x3),_,rfl⟩) ⟨x5,rfl⟩
 exact⟨y,q⟩
theorem xj5{num far:Int}{i:Nat}(T:Told GR GW R C W)(f0:0<=far)(f1:far<10^30)(hi:i<C.length):∃y9,fI 9 (dR zw7) (rfT GR yi0) [some S,some R,some (.tup (aP C)),x3,x4,x5,some (.lst true (wsD W)),some (.int far),some (.int (i:Int)),x9]=some (.nx,[some S,some R,some (.tup (aP C)),x3,x4,x5,some (.lst true (wsD W)),some (.int far),some (.int (i:Int)),y9]):=by
 obtain⟨w,hw⟩:∃w,W[i]? =some w:=⟨_,List.getElem?_eq_getElem (by rw [T.same];exact hi)⟩
 have w4:=T.four w (List.mem_of_getElem? hw)
 have h30:(10:Int)^30=1000000000000000000000000000000:=by decide+kernel
 have h120:(2:Nat)^120=1329227995784915872903807060280344576:=by decide+kernel
 rw [h30] at f1
 have m0:=Int.emod_nonneg (i:Int) (show(2:Int)≠0 by decide)
 have m1:=Int.emod_lt_of_pos (i:Int) (show(0:Int)<2 by decide)
 obtain⟨v,hv,ev⟩:∃v:Int,(v= -1-far\/v=4+far)/\atI [D.int (-1-far),.int (4+far)] ((i:Int) % 2)=some (.int v):=by
  obtain⟨d,hd,e⟩:=nU [D.int (-1-far),.int (4+far)] ((i:Int) % 2) m0 (by simpa using m1)
  simp only [List.mem_cons,List.not_mem_nil,or_false] at hd
  rcases hd with rfl|rfl
  ·exact⟨_,.inl rfl,e⟩
  ·exact⟨_,.inr rfl,e⟩
 have e:dR zw7 [some S,some R,some (.tup (aP C)),x3,x4,x5,some (.lst true (wsD W)),some (.int far),some (.int (i:Int)),x9]=some [.int (w:Int),.int 4,.int (-1),.int v]:=by
  have a1:f2 dIx (aA 6) (aA 8) [some S,some R,some (.tup (aP C)),x3,x4,x5,some (.lst true (wsD W)),some (.int far),some (.int (i:Int)),x9]=some (.int (w:Int)):=aT rfl rfl (by
   show atI (wsD W) (i:Int)=_
   refine xN ?_
   unfold wsD
   rw [List.getElem?_map,hw];rfl)
  have a2:f2 dIx (cA (aB (f2 fQ (eO (fC (.int 1))) (aA 7)) (aB (f2 bE (fC (.int 4)) (aA 7)) aD))) (f2 cU (aA 8) (fC (.int 2))) [some S,some R,some (.tup (aP C)),x3,x4,x5,some (.lst true (wsD W)),some (.int far),some (.int (i:Int)),x9]=some (.int v):=
   aT (fN (ds:=[.int (-1-far),.int (4+far)]) (aE rfl (aE rfl rfl)) (Nat.le_of_ble_eq_true rfl)) (aT rfl rfl ((cS _ _).trans (if_pos (by decide)))) ev
  unfold dR
  rw [show zw7 _=_ from fN (aE (eQ a1 rfl) (aE rfl (aE rfl (aE a2 rfl)))) (Nat.le_of_ble_eq_true rfl)]
  rfl
 unfold fI
 rw [e,Option.bind_some]
 obtain⟨p',q,y,rfl⟩:=rP (j:=9) (F:=rfT GR yi0) (OK:=fun p=>∃y:Option D,p=[some S,some R,some (.tup (aP C)),x3,x4,x5,some (.lst true (wsD W)),some (.int far),some (.int (i:Int)),y]) [.int (w:Int),.int 4,.int (-1),.int v] _ (fun d hd p ⟨y,hp⟩=>by
  subst hp
  have hx:∃u:Int,d= .int u/\(u<0\/(w:Int)<=u)/\u.natAbs<2^120:=by
   rw [h120]
   simp only [List.mem_cons,List.not_mem_nil,or_false] at hd
   rcases hd with rfl|rfl|rfl|rfl
   ·exact⟨_,rfl,.inr (Int.le_refl _),by omega⟩
   ·exact⟨_,rfl,.inr (by omega),by decide⟩
   ·exact⟨_,rfl,.inl (by decide),by decide⟩
   ·exact⟨_,rfl,by omega,by omega⟩
  obtain⟨u,rfl,u1,u2⟩:=hx
  have hl:=T.len
  have t1:(C.take i).length<=i:=by rw [List.length_take];exact Nat.min_le_left _ _
  have t2:(C.drop (i+1)).length=C.length-(i+1):=List.length_drop
  refine⟨_,yh0 (R:=R) (d:= .tup (aP (C.take i++u::C.drop (i+1)))) rfl ?_ (T.bad i w u hw u1 u2),_,rfl⟩
  refine aT (aT (x:= .tup (aP (C.take i))) (y:= .tup (aP [u])) ?_ (eZ (aE rfl rfl) rfl (Nat.le_of_ble_eq_true rfl)) (zv0 (by rw [List.length_singleton];omega))) (y:= .tup (aP (C.drop (i+1)))) ?_ ?_
  ·show dSl (.tup (aP C)) none (some (i:Int))=_
   rw [dSl,zu9,yb6]
  ·show dSl (.tup (aP C)) (some ((i:Int)+1)) none=_
   rw [show(i:Int)+1=((i+1:Nat):Int) by omega,dSl,yw4,xd3]
  ·rw [zv0 (by rw [List.length_append,List.length_singleton];omega),List.append_assoc];rfl) ⟨x9,rfl⟩
 exact⟨y,q⟩
theorem xd5{far:Int}(T:Told GR GW R C W)(f0:0<=far)(f1:far<10^30):∃y8 y9,fI 8 (kC (aB (aI bV (aB (aA 2) aD)) aD)) (fI 9 (dR zw7) (rfT GR yi0)) [some S,some R,some (.tup (aP C)),x3,x4,x5,some (.lst true (wsD W)),some (.int far),x8,x9]=some (.nx,[some S,some R,some (.tup (aP C)),x3,x4,x5,some (.lst true (wsD W)),some (.int far),y8,y9]):=by
 have e:kC (aB (aI bV (aB (aA 2) aD)) aD) [some S,some R,some (.tup (aP C)),x3,x4,x5,some (.lst true (wsD W)),some (.int far),x8,x9]=some (gZ ((0:Nat):Int) C.length):=by
  unfold kC
  rw [aE (bJ (d:= .int (C.length:Int)) (aE (f:=aA 2) (d:= .tup (aP C)) rfl (show aD _=some [] from rfl)) (by show some (D.int ((aP C).length:Int))=_;rw [ze5])) (show aD _=some [] from rfl),Option.bind_some]
  exact yu1 (Nat.le_trans T.len (by decide))
 unfold fI
 rw [e,Option.bind_some]
 obtain⟨p',q,y8,y9,rfl⟩:=rP (j:=8) (F:=fI 9 (dR zw7) (rfT GR yi0)) (OK:=fun p=>∃y8 y9:Option D,p=[some S,some R,some (.tup (aP C)),x3,x4,x5,some (.lst true (wsD W)),some (.int far),y8,y9]) (gZ ((0:Nat):Int) C.length) _ (fun d hd p ⟨y8,y9,hp⟩=>by
  subst hp
  rw [zs7] at hd
  simp only [List.map_map,List.mem_map,List.mem_range] at hd
  obtain⟨k,hk,rfl⟩:=hd
  have e0:((fun k:Int=>D.int k)∘fun k:Nat=>((0:Nat):Int)+(k:Int)) k= .int (k:Int):=by
   show D.int (((0:Nat):Int)+(k:Int))=_
   rw [show((0:Nat):Int)+(k:Int)=(k:Int) by omega]
  rw [e0]
  obtain⟨z9,q⟩:=xj5 (S:=S) (x3:=x3) (x4:=x4) (x5:=x5) (x9:=y9) (num:=0) T f0 f1 hk
  exact⟨_,q,_,_,rfl⟩) ⟨x8,x9,rfl⟩
 exact⟨y8,y9,q⟩
abbrev yb9(GM GR GC:tz6)(GW:tz7):tz6:=gP 3 7 (yX GM GR GW GC)
theorem yq4{a c:Int}(T:Told GR GW R C W)(qa:GM [S,.int 1,.int 60]=some (.int a))(qc:GC [S,.int 1]=some (.int c)):yb9 GM GR GC GW [S,R,.tup (aP C)]=some (.bl true):=by
 have h30:(0:Int)<10^30:=by decide+kernel
 obtain⟨y4,l1⟩:=yw5 (S:=S) (x3:=some (.int a)) (x4:=none) (x5:=none) (x6:=none) T
 obtain⟨y5,l2⟩:=xd4 (S:=S) (num:=a) (x4:=y4) (x5:=none) (x6:=none) T
 obtain⟨z,hz⟩:=T.want
 have f0:=Int.emod_nonneg c (show(10:Int)^30≠0 by omega)
 have f1:=Int.emod_lt_of_pos c h30
 obtain⟨y8,y9,l3⟩:=xd5 (S:=S) (x3:=some (.int a)) (x4:=y4) (x5:=y5) (x8:=none) (x9:=none) T f0 f1
 have s1:aS 3 (aH (aI GM (aB (aA 0) (aB (fC (.int 1)) (aB (fC (.int 60)) aD))))) [some S,some R,some (.tup (aP C)),none,none,none,none,none,none,none]=some (.nx,[some S,some R,some (.tup (aP C)),some (.int a),none,none,none,none,none,none]):=bZ (bJ (aE rfl (aE rfl (aE rfl rfl))) qa)
 have s4:aS 6 (aH (xA GW (aB (aY (aA 1)) (aB (fC (.bl false)) (aB (aI zf0 (aB (aA 2) aD)) aD))))) [some S,some R,some (.tup (aP C)),some (.int a),y4,y5,none,none,none,none]=some (.nx,[some S,some R,some (.tup (aP C)),some (.int a),y4,y5,some (.lst true (wsD W)),none,none,none]):=by
  refine bZ ?_
  unfold xA
  rw [aE (eQ (f:=aA 1) (d:=R) rfl T.imm) (aE (f:=fC (.bl false)) (d:= .bl false) rfl (aE (bJ (d:= .lst true (aP C)) (aE (f:=aA 2) (d:= .tup (aP C)) rfl (show aD _=some [] from rfl)) rfl) (show aD _=some [] from rfl))),Option.bind_some]
  refine(if_pos ?_).trans ?_
  ·show(D.imm R&&_)=true
   rw [T.imm];rfl
  ·rw [hz];rfl
 have s5:aS 7 (aH (xs4 GC)) [some S,some R,some (.tup (aP C)),some (.int a),y4,y5,some (.lst true (wsD W)),none,none,none]=some (.nx,[some S,some R,some (.tup (aP C)),some (.int a),y4,y5,some (.lst true (wsD W)),some (.int (c % 10^30)),none,none]):=by
  refine bZ (aT (bJ (aE rfl (aE rfl rfl)) qc) (aT (d:= .int (10^30)) rfl rfl ?_) ((cS _ _).trans (if_pos h30)))
  show(if (decide ((0:Int)<=30)&&decide ((30:Int)<=1000000)&&decide ((10:Int).natAbs<2^64))=true then some (D.int (10^(30:Int).toNat)) else none)=_
  rw [if_pos (by decide+kernel)];rfl
 exact iA rfl ((aF s1).trans ((aF l1).trans ((aF l2).trans ((aF s4).trans ((aF s5).trans ((aF l3).trans (eI rfl)))))))
end
def lvR(fs:List Leaf):List Pc:=fs.map .leaf
theorem yw6(fs:List Leaf)(l:Leaf):aK (lvR (fs++[l]))=aK (lvR fs)++[cJ l]:=by
 unfold lvR
 rw [List.map_append,uU];rfl
theorem zj5:∀fs:List Leaf,(aK (lvR fs)).length=fs.length
 |[]=>rfl
 |l::fs=>by show(aK (lvR fs)).length+1=_;rw [zj5 fs];rfl
theorem yy9:∀{fs:List Leaf},(∀f∈fs,fL f)->okR (lvR fs)/\cV (lvR fs)=0/\(bR (lvR fs)).length=fs.length
 |[],_=>⟨trivial,rfl,rfl⟩
 | l::fs,h=>by
  obtain⟨a,c,d⟩:=yy9 (fs:=fs) fun f hf=>h f (List.mem_cons_of_mem _ hf)
  refine⟨⟨h l List.mem_cons_self,a⟩,?_,?_⟩
  ·show max 0 (cV (lvR fs))=0
   rw [c];rfl
  ·show([Tk.leaf l]++bR (lvR fs)).length=fs.length+1
   rw [List.length_append,d];show 1+_=_;omega
section
variable{GM:tz6}{S:D}
abbrev apG(f:tz2):tz1:=bA (bG 1 aW (aB f aD) bC)
abbrev m10:tz2:=f2 cU (aA 3) (fC (.int 10))
abbrev d10:tz2:=f2 gM (aA 3) (fC (.int 10))
def zp0(GM:tz6):tz1:=
 aO (aS 3 (aH (aI GM (aB (aA 0) (aB (f2 bE (fC (.int 2)) (aA 2)) (aB (fC (.int 62)) aD))))))
 (fIf (aL (fB (f2 dLt m10 (fC (.int 5))))) (apG (cE (aB (fC (.str "word")) (aB (aI zg1 (aB d10 aD)) aD))))
 (fIf (aL (fB (f2 dLt m10 (fC (.int 7))))) (apG (cE (aB (fC (.str "gap")) (aB (f2 dIx (cA (aB (fC (.str " ")) (aB (fC (.str "")) aD))) (f2 cU (aA 3) (fC (.int 2)))) aD))))
 (fIf (aL (cF (fB (f2 dEq m10 (fC (.int 7)))) (fB (f2 dGt (f2 cU d10 (fC (.int 3))) (fC (.int 0)))))) (apG (cE (aB (fC (.str "end")) aD)))
 (apG (cE (aB (fC (.str "stop")) (aB (f2 cU (f2 gM (aA 3) (fC (.int 30))) (fC (.int 41))) aD)))))))
theorem ze6{f:tz2}{fs:List Leaf}{l:Leaf}{x2 x3:Option D}(h:f [some S,some (.lst true (aK (lvR fs))),x2,x3]=some (cJ l))(hl:fs.length<=900):apG f [some S,some (.lst true (aK (lvR fs))),x2,x3]=some (.nx,[some S,some (.lst true (aK (lvR (fs++[l])))),x2,x3]):=by
 have hz:(aK (lvR fs)).length<sizeLine:=by rw [zj5];exact sz1 (by omega)
 refine lW (d:= .non) ?_
 unfold bG
 show((some (.lst true (aK (lvR fs))):Option D).bind _)=_
 rw [Option.bind_some]
 show(some []).bind _=_
 rw [Option.bind_some,aE h (show aD _=some [] from rfl),Option.bind_some]
 show((bC [cJ l] (.lst true (aK (lvR fs)))).bind _)=_
 rw [show bC [cJ l] (.lst true (aK (lvR fs)))=some (.non,.lst true (aK (lvR fs)++[cJ l])) from if_pos hz,yw6];rfl
theorem xd6(k:Int):∃x:Str,atI [D.str (Str.ofString " "),.str (Str.ofString "")] (k % 2)=some (.str x)/\(x=""\/x=" "):=by
 have h0:=Int.emod_nonneg k (show(2:Int)≠0 by decide)
 have h1:=Int.emod_lt_of_pos k (show(0:Int)<2 by decide)
 obtain⟨d,hd,e⟩:=nU [D.str (Str.ofString " "),.str (Str.ofString "")] (k % 2) h0 (by simpa using h1)
 simp only [List.mem_cons,List.not_mem_nil,or_false] at hd
 rcases hd with rfl|rfl
 ·exact⟨_,e,.inr rfl⟩
 ·exact⟨_,e,.inl rfl⟩
theorem xp2{fs:List Leaf}{k m:Int}{x3:Option D}(q:GM [S,.int (2+k),.int 62]=some (.int m))(hm:0<=m)(hl:fs.length<=900):∃l,zp0 GM [some S,some (.lst true (aK (lvR fs))),some (.int k),x3]=some (.nx,[some S,some (.lst true (aK (lvR (fs++[l])))),some (.int k),some (.int m)])/\fL l:=by
 have s1:aS 3 (aH (aI GM (aB (aA 0) (aB (f2 bE (fC (.int 2)) (aA 2)) (aB (fC (.int 62)) aD))))) [some S,some (.lst true (aK (lvR fs))),some (.int k),x3]=some (.nx,[some S,some (.lst true (aK (lvR fs))),some (.int k),some (.int m)]):=bZ (bJ (aE rfl (aE (aT rfl rfl rfl) (aE rfl rfl))) q)
 have v:m10 [some S,some (.lst true (aK (lvR fs))),some (.int k),some (.int m)]=some (.int (m % 10)):=aT rfl rfl ((cS _ _).trans (if_pos (by decide)))
 have dv:d10 [some S,some (.lst true (aK (lvR fs))),some (.int k),some (.int m)]=some (.int (m/10)):=aT rfl rfl ((eG _ _).trans (if_pos (by decide)))
 have t1:∀c:Int,fB (f2 dLt m10 (fC (.int c))) [some S,some (.lst true (aK (lvR fs))),some (.int k),some (.int m)]=some (decide (m % 10<c)):=fun c=>eS (aT v rfl rfl)
 have t2:cF (fB (f2 dEq m10 (fC (.int 7)))) (fB (f2 dGt (f2 cU d10 (fC (.int 3))) (fC (.int 0)))) [some S,some (.lst true (aK (lvR fs))),some (.int k),some (.int m)]=some (decide (m % 10=7)&&decide (0<m/10 % 3)):=by
  have a:fB (f2 dEq m10 (fC (.int 7))) [some S,some (.lst true (aK (lvR fs))),some (.int k),some (.int m)]=some (decide (m % 10=7)):=eS (aT v rfl rfl)
  have b:fB (f2 dGt (f2 cU d10 (fC (.int 3))) (fC (.int 0))) [some S,some (.lst true (aK (lvR fs))),some (.int k),some (.int m)]=some (decide (0<m/10 % 3)):=eS (aT (aT dv rfl ((cS _ _).trans (if_pos (by decide)))) rfl rfl)
  cases e:decide (m % 10=7) with
  |true=>rw [e] at a;exact(iB a b).trans (by rw [Bool.true_and])
  |false=>rw [e] at a;exact(jM a).trans (by rw [Bool.false_and])
 by_cases c1:m % 10<5
 ·have p1:=t1 5
  rw [decide_eq_true c1] at p1
  obtain⟨z,qz,hz⟩:=yb3 (m:=m/10) (Int.ediv_nonneg hm (by decide))
  exact⟨.word z,(aF s1).trans ((cT p1).trans (ze6 (l:= .word z) (eZ (aE rfl (aE (bJ (aE dv rfl) qz) rfl)) rfl (Nat.le_of_ble_eq_true rfl)) hl)),hz⟩
 ·have p1:=t1 5
  rw [decide_eq_false c1] at p1
  by_cases c2:m % 10<7
  ·have p2:=t1 7
   rw [decide_eq_true c2] at p2
   obtain⟨z,qz,hz⟩:=xd6 m
   exact⟨.gap z,(aF s1).trans ((jS (gG p1)).trans ((cT p2).trans (ze6 (l:= .gap z) (eZ (aE rfl (aE (aT (fN (aE rfl (aE rfl rfl)) (Nat.le_of_ble_eq_true rfl)) (aT rfl rfl ((cS _ _).trans (if_pos (by decide)))) qz) rfl)) rfl (Nat.le_of_ble_eq_true rfl)) hl))),hz⟩
  ·have p2:=t1 7
   rw [decide_eq_false c2] at p2
   cases e:(decide (m % 10=7)&&decide (0<m/10 % 3)) with
   |true=>
    rw [e] at t2
    exact⟨.fin,(aF s1).trans ((jS (gG p1)).trans ((jS (gG p2)).trans ((cT t2).trans (ze6 (l:= .fin) rfl hl)))),trivial⟩
   |false=>
    rw [e] at t2
    have hc:=Int.emod_nonneg (m/30) (show(41:Int)≠0 by decide)
    have he:=Int.emod_lt_of_pos (m/30) (show(0:Int)<41 by decide)
    exact⟨.stop (m/30 % 41),(aF s1).trans ((jS (gG p1)).trans ((jS (gG p2)).trans ((jS (gG t2)).trans (ze6 (l:= .stop (m/30 % 41)) (eZ (aE rfl (aE (aT (aT rfl rfl ((eG _ _).trans (if_pos (by decide)))) rfl ((cS _ _).trans (if_pos (by decide)))) rfl)) rfl (Nat.le_of_ble_eq_true rfl)) hl)))),hc,Int.le_of_lt_add_one he⟩
theorem xj6(hM:∀j s:Int,0<=j->j<1000->0<=s->s<1000->∃a,GM [S,.int j,.int s]=some (.int a)/\0<=a):∀(n k:Nat) (fs:List Leaf) (x2 x3:Option D),k+n<=900->fs.length+n<=900->(∀f∈fs,fL f)->
  ∃fs' x2' x3',eW 2 (zp0 GM) (gZ (k:Int) n) [some S,some (.lst true (aK (lvR fs))),x2,x3]=some (.nx,[some S,some (.lst true (aK (lvR fs'))),x2',x3'])/\fs'.length=fs.length+n/\∀f∈fs',fL f
 |0,k,fs,x2,x3,_,_,hf=>⟨fs,x2,x3,rfl,rfl,hf⟩
 | n+1,k,fs,x2,x3,hk,hl,hf=>by
  obtain⟨m,qm,hm⟩:=hM (2+(k:Int)) 62 (by omega) (by omega) (by decide) (by decide)
  obtain⟨l,q,hlf⟩:=xp2 (fs:=fs) (x3:=x3) qm hm (by omega)
  obtain⟨fs',y2,y3,q2,e,h'⟩:=xj6 hM n (k+1) (fs++[l]) (some (.int (k:Int))) (some (.int m)) (by omega) (by rw [List.length_append,List.length_singleton];omega) (fun f h=>by
   rcases List.mem_append.mp h with z|z
   ·exact hf f z
   ·rw [List.mem_singleton.mp z];exact hlf)
  refine⟨fs',y2,y3,?_,by rw [e,List.length_append,List.length_singleton];omega,h'⟩
  rw [yf7,eW]
  show((zp0 GM [some S,some (.lst true (aK (lvR fs))),some (.int (k:Int)),x3]).bind _)=_
  rw [q];exact q2
abbrev yq7(GM:tz6):tz6:=gP 1 3 (zf6 GM zg1)
theorem yw7(hM:∀j s:Int,0<=j->j<1000->0<=s->s<1000->∃a,GM [S,.int j,.int s]=some (.int a)/\0<=a):∃fs:List Leaf,yq7 GM [S]=some (.tup (aK (lvR fs)))/\fs.length<=8/\∀f∈fs,fL f:=by
 obtain⟨a,qa,_⟩:=hM 2 61 (by decide) (by decide) (by decide) (by decide)
 obtain⟨n,hn,n1⟩:=ya1 a 1 8 (by decide)
 have hn':1+a % 8=(n:Int):=hn
 obtain⟨fs,x2,x3,q,e,hf⟩:=xj6 hM n 0 [] none none (by omega) (by show 0+_<=_;omega) (fun f h=>absurd h (by simp))
 refine⟨fs,?_,by rw [e];show 0+_<=_;omega,hf⟩
 have s2:fI 2 (kC (aB (f2 bE (fC (.int 1)) (f2 cU (aI GM (aB (aA 0) (aB (fC (.int 2)) (aB (fC (.int 61)) aD)))) (fC (.int 8)))) aD)) (zp0 GM) [some S,some (.lst true (aK (lvR []))),none,none]=some (.nx,[some S,some (.lst true (aK (lvR fs))),x2,x3]):=by
  have e:aB (f2 bE (fC (.int 1)) (f2 cU (aI GM (aB (aA 0) (aB (fC (.int 2)) (aB (fC (.int 61)) aD)))) (fC (.int 8)))) aD [some S,some (.lst true (aK (lvR []))),none,none]=some [.int (n:Int)]:=by
   refine aE (aT rfl (aT (bJ (aE rfl (aE rfl (aE rfl rfl))) qa) rfl ((cS _ _).trans (if_pos (by decide)))) ?_) rfl
   rw [<-hn'];rfl
  unfold fI kC
  rw [e,Option.bind_some,yu1 (by omega)]
  exact q
 refine iA rfl ((aF (bZ rfl)).trans ((aF s2).trans (eI (bJ (ds:=[.lst true (aK (lvR fs))]) (aE rfl rfl) (if_pos (dL _))))))
end
theorem xd7(m:Int)(k:Nat)(l:Leaf):wr false m k l=wr false 0 k l:=by cases l<;>rfl
theorem zv1(m:Int):∀(fs:List Leaf) (cs:List Int) (t:Str),bY false m (lvR fs) cs t=bY false 0 (lvR fs) cs t
 |[],cs,t=>rfl
 |l::fs,cs,t=>by
  show bY false m (.leaf l::lvR fs) cs t=bY false 0 (.leaf l::lvR fs) cs t
  rw [bY,bY,cQ,cQ,xd7]
  cases wr false 0 (col t) l with
  |none=>rfl
  |some w=>exact zv1 m fs cs _
theorem yw8(x:Str)(c:Int):Txt.ljust x c=x++Txt.mul " " (c-(x.length:Int)):=by
 refine lX ?_
 rw [cY,uV]
 unfold Txt.ljust
 by_cases h:c<=(x.length:Int)
 ·rw [if_pos h,show(c-(x.length:Int)).toNat=0 by omega];simp
 ·rw [if_neg h,show(c-(x.length:Int)).toNat=c.toNat-x.length by omega]
  simp [Builtin.Str.padded]
theorem xj7{c:Int}(h0:0<=c)(h1:c<=40):PadOk c=true:=by
 have hs:sizeLine=16777216:=sizeLine_eq
 unfold PadOk fitsSsize Builtin.Str.tooLong
 rw [decide_eq_false (by omega),decide_eq_false (by omega),decide_eq_false (by omega)];rfl
theorem yw9{t:Str}(h:(10:Nat)∉t.cps.toList):col t=t.length:=by
 have:=zi9 (t:=⟨#[]⟩) h
 have e0:(⟨#[]⟩:Str)++t=t:=lX (by rw [cY];rfl)
 rw [e0,show col ⟨#[]⟩=0 from rfl] at this
 omega
abbrev xs5:tz4:=eH (kdT 2 "end") (cF (kdT 2 "stop") (fB (f2 dGt (aI bV (aB (aA 1) aD)) (f2 dIx (aA 2) (fC (.int 1))))))
def oV:tz1:=
 aO (fIf (aL xs5) (bQ (aH (fC .non))) aZ)
 (fIf (aL (kdT 2 "stop")) (aS 1 (aH (fMt pX (aA 1) (aB (f2 dIx (aA 2) (fC (.int 1))) aD)))) (aS 1 (aH (f2 bE (aA 1) (f2 dIx (aA 2) (fC (.int 1)))))))
theorem yx0{A:Option D}{l:Leaf}{t:Str}(hl:fL l)(ht:t.length<=800000)(h10:(10:Nat)∉t.cps.toList):
  (wr false 0 (col t) l=none/\oV [A,some (.str t),some (cJ l)]=some (.ret .non,[A,some (.str t),some (cJ l)]))\/
  ∃w,wr false 0 (col t) l=some w/\oV [A,some (.str t),some (cJ l)]=some (.nx,[A,some (.str (t++w)),some (cJ l)])/\(10:Nat)∉w.cps.toList/\w.length<=40:=by
 have hs:sizeLine=16777216:=sizeLine_eq
 have add:∀{k:String} {x:Str},decide (k="end")=false->decide (k="stop")=false->x.length<=40->oV [A,some (.str t),some (.tup [.str k,.str x])]=some (.nx,[A,some (.str (t++x)),some (.tup [.str k,.str x])]):=fun {k x} h1 h2 hx=>by
  have a:bE (.str t) (.str x)=some (.str (t++x)):=by rw [bE,if_pos];omega
  exact(aF (bO (sG (fP rfl h1) (jM (fP rfl h2))))).trans ((jS (gG (fP rfl h2))).trans (bZ (aT rfl (aT rfl rfl (cR _ _ _)) a)))
 cases l with
 |word x=>exact .inr ⟨x,rfl,add (by decide) (by decide) (by have:=hl.2.1;omega),ya2 hl,by have:=hl.2.1;omega⟩
 | gap x=>
  have hl':x=""\/x=" ":=hl
  have hx:x.length<=40:=by
   rcases hl' with e|e<;>subst e
   ·show(0:Nat)<=40;decide
   ·show(1:Nat)<=40;decide
  exact .inr ⟨x,rfl,add (by decide) (by decide) hx,yn9 hl',hx⟩
 |fin=>exact .inl ⟨rfl,eN ((cT (yf8 (fP rfl (by decide)))).trans rfl)⟩
 | stop c=>
  have hcc:0<=c/\c<=40:=hl
  have ln:fB (f2 dGt (aI bV (aB (aA 1) aD)) (f2 dIx (aA 2) (fC (.int 1)))) [A,some (.str t),some (cJ (.stop c))]=some (decide (c<(t.length:Int))):=eS (aT (x:= .int (t.length:Int)) (bJ (aE rfl rfl) (if_pos (by omega))) (aT rfl rfl (cR _ _ _)) rfl)
  rw [yw9 h10]
  by_cases hk:(t.length:Int)<=c
  ·rw [decide_eq_false (by omega)] at ln
   refine .inr ⟨Txt.mul " " (c-(t.length:Int)),if_pos hk,?_,zc6 _,by rw [mP];omega⟩
   have lj:fMt pX (aA 1) (aB (f2 dIx (aA 2) (fC (.int 1))) aD) [A,some (.str t),some (cJ (.stop c))]=some (.str (t++Txt.mul " " (c-(t.length:Int)))):=by
    unfold fMt
    rw [show aA 1 [A,some (.str t),some (cJ (.stop c))]=some (.str t) from rfl,Option.bind_some,aE (show f2 dIx (aA 2) (fC (.int 1)) [A,some (.str t),some (cJ (.stop c))]=some (.int c) from aT rfl rfl (cR _ _ _)) (show aD _=some [] from rfl),Option.bind_some]
    show pX (.str t) [.int c]=_
    rw [pX,if_pos (xj7 hcc.1 hcc.2),yw8]
   exact(aF (bO (sG (fP rfl (by decide)) (iB (fP rfl (by decide)) ln)))).trans ((cT (fP rfl (by decide))).trans (bZ lj))
  ·rw [decide_eq_true (by omega)] at ln
   exact .inl ⟨if_neg hk,eN ((cT (sG (fP rfl (by decide)) (iB (fP rfl (by decide)) ln))).trans rfl)⟩
theorem zv2{A:Option D}:∀(fs:List Leaf) (t:Str) (x2:Option D),(∀f∈fs,fL f)->t.length+40*fs.length<=800000->(10:Nat)∉t.cps.toList->
  (bY false 0 (lvR fs) [] t=none/\∃p,eW 2 oV (aK (lvR fs)) [A,some (.str t),x2]=some (.ret .non,p))\/
  ∃t',bY false 0 (lvR fs) [] t=some ([],t')/\∃y2,eW 2 oV (aK (lvR fs)) [A,some (.str t),x2]=some (.nx,[A,some (.str t'),y2])
 |[],t,x2,_,_,_=> .inr ⟨t,rfl,x2,rfl⟩
 | l::fs,t,x2,hf,hl,h10=>by
  rw [List.length_cons] at hl
  have st:bY false 0 (lvR (l::fs)) [] t=((wr false 0 (col t) l).map fun w=>(([]:List Int),t++w)).bind fun s=>bY false 0 (lvR fs) s.1 s.2:=by
   show bY false 0 (.leaf l::lvR fs) [] t=_
   rw [bY,cQ]
  have lp:eW 2 oV (aK (lvR (l::fs))) [A,some (.str t),x2]=(oV [A,some (.str t),some (cJ l)]).bind fun q=>match q with
   |(.nx,p)=>eW 2 oV (aK (lvR fs)) p
   |(.ct,p)=>eW 2 oV (aK (lvR fs)) p
   |(.bk,p)=>some (.nx,p)
   |(.ret d,p)=>some (.ret d,p):=rfl
  rw [st,lp]
  rcases yx0 (A:=A) (hf l List.mem_cons_self) (by omega) h10 with ⟨e1,e2⟩|⟨w,e1,e2,e3,e4⟩
  ·rw [e1,e2]
   exact .inl ⟨rfl,_,rfl⟩
  ·rw [e1,e2]
   exact zv2 fs (t++w) (some (cJ l)) (fun f h=>hf f (List.mem_cons_of_mem _ h)) (by rw [eD];omega) (by rw [cY,List.mem_append];exact fun h=>h.elim h10 e3)
abbrev vQ:tz6:=gP 1 2 vT
theorem yh1{fs:List Leaf}(hf:∀f∈fs,fL f)(hn:fs.length<=8):(bY false 0 (lvR fs) [] ⟨#[]⟩=none/\vQ [.tup (aK (lvR fs))]=some .non)\/∃t,bY false 0 (lvR fs) [] ⟨#[]⟩=some ([],t)/\vQ [.tup (aK (lvR fs))]=some (.str t):=by
 have s1:aS 1 (aH (fC (.str ""))) [some (.tup (aK (lvR fs))),none,none]=some (.nx,[some (.tup (aK (lvR fs))),some (.str ⟨#[]⟩),none]):=by rw [zs9];rfl
 rcases zv2 (A:=some (.tup (aK (lvR fs)))) fs ⟨#[]⟩ none hf (by show 0+_<=_;omega) (by simp) with ⟨e,p,q⟩|⟨t,e,y2,q⟩
 ·have s2:fI 2 (dR (aA 0)) oV [some (.tup (aK (lvR fs))),some (.str ⟨#[]⟩),none]=some (.ret .non,p):=q
  exact .inl ⟨e,iA rfl ((aF s1).trans (eN s2))⟩
 ·have s2:fI 2 (dR (aA 0)) oV [some (.tup (aK (lvR fs))),some (.str ⟨#[]⟩),none]=some (.nx,[some (.tup (aK (lvR fs))),some (.str t),y2]):=q
  exact .inr ⟨t,e,iA rfl ((aF s1).trans ((aF s2).trans rfl))⟩
def mY:Leaf->Bool
 | .gap _=>true
 | .fin=>true
 |_=>false
theorem zm7(m:Int)(h0:0<=m)(h1:m<=200):∀(fs:List Leaf) (t:Str),(∀f∈fs,fL f)->∃t',bY true m (lvR fs) [] t=some ([],t')/\t.cps.toList.count 10+(fs.filter mY).length<=t'.cps.toList.count 10/\t'.length<=t.length+201*fs.length
 |[],t,_=>⟨t,rfl,Nat.le_refl _,Nat.le_refl _⟩
 | l::fs,t,hf=>by
  obtain⟨w,hw,hc⟩:∃w,wr true m (col t) l=some w/\(mY l=true->1<=w.cps.toList.count 10):=by
   have nl:∀c:Int,1<=(nlw c).cps.toList.count 10:=fun c=>by
    unfold nlw
    rw [cY,List.count_append]
    exact Nat.le_add_right 1 _
   cases l with
   |word x=>exact⟨x,rfl,fun h=>nomatch h⟩
   |gap x=>exact⟨_,rfl,fun _=>nl m⟩
   |fin=>exact⟨_,rfl,fun _=>nl m⟩
   |stop c=>
    by_cases hk:(col t:Int)<=c
    ·exact⟨_,if_pos hk,fun h=>nomatch h⟩
    ·exact⟨_,(if_neg hk).trans rfl,fun h=>nomatch h⟩
  have lw:=(yf9 (hf l List.mem_cons_self) h0 h1 hw).2
  obtain⟨t',e,c2,c3⟩:=zm7 m h0 h1 fs (t++w) (fun f h=>hf f (List.mem_cons_of_mem _ h))
  rw [cY,List.count_append] at c2
  rw [eD] at c3
  refine⟨t',?_,?_,by rw [List.length_cons];omega⟩
  ·show bY true m (.leaf l::lvR fs) [] t=_
   rw [bY,cQ,hw];exact e
  ·rw [List.filter_cons]
   cases q:mY l with
   |true=>rw [if_pos rfl,List.length_cons];have:=hc q;omega
   |false=>rw [if_neg (by decide)];omega
theorem ze7:∀xs:List Str,xs≠[]->(∀p∈xs,(10:Nat)∉p.cps.toList)->(Str.join ⟨#[10]⟩ xs).cps.toList.count 10+1=xs.length
 |[],h,_=>absurd rfl h
 |[x],_,hx=>by
  show x.cps.toList.count 10+1=1
  rw [List.count_eq_zero.mpr (hx x List.mem_cons_self)]
 |x::y::r,_,hx=>by
  have ih:=ze7 (y::r) (by simp) (fun p hp=>hx p (List.mem_cons_of_mem _ hp))
  show((x++⟨#[10]⟩)++Str.join ⟨#[10]⟩ (y::r)).cps.toList.count 10+1=_
  rw [cY,cY,List.count_append,List.count_append,List.count_eq_zero.mpr (hx x List.mem_cons_self),List.length_cons]
  show 0+1+_+1=_
  omega
theorem zy0(t:Str):(Txt.split t ⟨#[10]⟩).length=t.cps.toList.count 10+1:=by
 have e2:Str.join ⟨#[10]⟩ (Txt.split t ⟨#[10]⟩)=t:=StrLaws.join_split _ _
 have:=ze7 (Txt.split t ⟨#[10]⟩) (fun z=>by
  have:=split_pos t ⟨#[10]⟩
  rw [z] at this
  exact absurd this (by decide)) (StrLaws.split_free _ 10)
 rw [e2] at this
 exact this.symm
abbrev lnT:tz4:=eH (kdT 0 "gap") (kdT 0 "end")
theorem zv3:∀fs:List Leaf,∃ds,kM [none] lnT (aY (aA 0)) (aK (lvR fs))=some ds/\ds.length=(fs.filter mY).length
 |[]=>⟨[],rfl,rfl⟩
 | l::fs=>by
  obtain⟨ds,e,hl⟩:=zv3 fs
  have ht:lnT [some (cJ l)]=some (mY l):=by
   cases l with
   |word x=>exact sG (fP rfl (by decide)) (fP rfl (by show _=false;decide))
   |gap x=>exact yf8 (fP rfl (by decide))
   |fin=>exact sG (fP rfl (by decide)) (fP rfl (by decide))
   |stop c=>exact sG (fP rfl (by decide)) (fP rfl (by show _=false;decide))
  have st:kM [none] lnT (aY (aA 0)) (aK (lvR (l::fs)))=(lnT [some (cJ l)]).bind fun b=>if b=true then(aY (aA 0) [some (cJ l)]).bind fun r=>(kM [none] lnT (aY (aA 0)) (aK (lvR fs))).bind fun rs=>some (r::rs) else kM [none] lnT (aY (aA 0)) (aK (lvR fs)):=rfl
  rw [st,ht,Option.bind_some,List.filter_cons]
  cases mY l with
  |true=>
   rw [if_pos rfl,if_pos rfl,eQ (f:=aA 0) (d:=cJ l) rfl (zM l),Option.bind_some,e]
   exact⟨_,rfl,by rw [List.length_cons,List.length_cons,hl]⟩
  |false=>rw [if_neg (by decide),if_neg (by decide)];exact⟨ds,e,hl⟩
theorem xd8{fs:List Leaf}{k:Nat}{r0:List Pc}(hf:∀f∈fs,fL f)(hn:fs.length<=8)(hk:3<k)(hr0:r0=[.group (lvR fs)]\/r0=[.group [.hang 4 (lvR fs)]]):
  (bY false 0 (lvR fs) [] ⟨#[]⟩=none->pM k [.tup (aK r0),.tup (aP [0])]=some (.bl true))/\(∀t,bY false 0 (lvR fs) [] ⟨#[]⟩=some ([],t)->xF k [.tup (aK r0),.tup (aP [0])]=some (.str t))/\
  ∃t1:Str,xF k [.tup (aK r0),.tup (aP [1])]=some (.str t1)/\(fs.filter mY).length<=t1.cps.toList.count 10/\t1.length<=2000:=by
 obtain⟨o1,o2,o3⟩:=yy9 hf
 have ho:okR r0/\cV r0<=2/\(bR r0).length<=800:=by
  rcases hr0 with rfl|rfl
  ·refine⟨⟨o1,trivial⟩,?_,?_⟩
   ·show max (cV (lvR fs)+1) 0<=2
    rw [o2];decide
   ·simp [bR,cX,o3];omega
  ·refine⟨⟨⟨⟨by decide,o1⟩,trivial⟩,trivial⟩,?_,?_⟩
   ·show max (max (cV (lvR fs)+1) 0+1) 0<=2
    rw [o2];decide
   ·simp [bR,cX,o3];omega
 have z0:bY true 0 r0 [0] ⟨#[]⟩=bY false 0 (lvR fs) [] ⟨#[]⟩:=by
  rcases hr0 with rfl|rfl
  ·rw [bY,cQ.eq_def]
   simp only [if_true]
   cases bY false 0 (lvR fs) [] ⟨#[]⟩<;>rfl
  ·rw [bY,cQ.eq_def]
   simp only [if_true]
   rw [bY,cQ,zv1]
   cases bY false 0 (lvR fs) [] ⟨#[]⟩<;>rfl
 obtain⟨m,m0,m1,z1⟩:∃m:Int,0<=m/\m<=200/\bY true 0 r0 [1] ⟨#[]⟩=bY true m (lvR fs) [] ⟨#[]⟩:=by
  rcases hr0 with rfl|rfl
  ·refine⟨0,by decide,by decide,?_⟩
   rw [bY,cQ.eq_def]
   simp only [if_true]
   rw [if_neg (by decide)]
   cases bY true 0 (lvR fs) [] ⟨#[]⟩<;>rfl
  ·refine⟨4,by decide,by decide,?_⟩
   rw [bY,cQ.eq_def]
   simp only [if_true]
   rw [if_neg (by decide),bY,cQ]
   show((bY true 4 (lvR fs) [] ⟨#[]⟩).bind _).bind _=_
   cases bY true 4 (lvR fs) [] ⟨#[]⟩<;>rfl
 have hk2:cV r0<k:=by omega
 have h16:cV r0<=16:=by omega
 refine⟨fun e=>ze3 (ze2 hk2 h16 ho.1 ho.2.2 (fun c hc=>by rw [List.mem_singleton.mp hc];exact vA (by decide+kernel)) fun t=>by rw [z0,e];exact fun z=>nomatch z),fun t e=>wV hk2 h16 ho.1 ho.2.2 (z0.trans e),?_⟩
 obtain⟨t1,e,c1,c2⟩:=zm7 m m0 m1 fs ⟨#[]⟩ hf
 refine⟨t1,wV hk2 h16 ho.1 ho.2.2 (z1.trans e),?_,?_⟩
 ·have:(⟨#[]⟩:Str).cps.toList.count 10=0:=rfl
  omega
 ·have:(⟨#[]⟩:Str).length=0:=rfl
  omega
theorem xd9{r:List Pc}{C:List Int}{t:Str}{k2 k3 nest:Nat}(hn:nest<=8)(hd:cV r<=nest)(h2:nest<k2)(h3:nest<k3)(ho:okR r)(hl:(bR r).length<=360)(g:bY true 0 r C ⟨#[]⟩=some ([],t))(hc:C.length<=360)(hlow:∀c∈C,0<=c/\c<4):
  ∃W,Told (pM k2) (oU k3) (.tup (aK r)) C W:=by
 obtain⟨us,W,e1,e2,e3,_,e5⟩:=rO r true 0 ho C [] ⟨#[]⟩ t g
 rw [List.append_nil] at e1
 subst us
 have hb:(4:Nat)<2^1900:=by decide+kernel
 have h120:(2:Nat)^120<2^1900:=by decide+kernel
 have sm:∀c:Int,0<=c/\c<4->pT c:=fun c h=>vA (by omega)
 have rx:∀C':List Int,(∀c∈C',pT c)->(∀t,bY true 0 r C' ⟨#[]⟩≠some ([],t))->pM k2 [.tup (aK r),.tup (aP C')]=some (.bl true):=fun C' h1 h4=>ze3 (ze2 (by omega) (by omega) ho (by omega) h1 h4)
 refine⟨W,⟨by omega,hlow,fun k hk=>rx _ (fun c h=>sm c (hlow c (List.mem_of_mem_take h))) (yv8 g hk),fun x hx hx2=>rx _ (fun c h=> ?_) (yv9 g hx),dL r,⟨_,(yb5 k3 r (by omega) ho (by omega) true C [] W e2).1⟩,e3,fun i w v hw hv hs=>rx _ (fun c h=> ?_) (fun t'=>by rw [e5 i w v _ hw hv];exact fun z=>nomatch z),pE r true C _ ho e2⟩⟩
 ·rcases List.mem_append.mp h with z|z
  ·exact sm c (hlow c z)
  ·exact sm c (hx2 c z)
 ·rcases List.mem_append.mp h with z|z
  ·exact sm c (hlow c (List.mem_of_mem_take z))
  ·rcases List.mem_cons.mp z with z|z
   ·rw [z];exact vA (by omega)
   ·exact sm c (hlow c (List.mem_of_mem_drop z))
section
variable{GM GC GS GR GB:tz6}{S:D}
abbrev yi2(GR:tz6)(c:Int):tz2:=aI GR (aB (aA 5) (aB (cE (aB (fC (.int c)) aD)) aD))
theorem yh2{G:tz6}{p:PSt}{R d:D}{c:Int}(hp:p[5]? =some (some R))(h:G [R,.tup (aP [c])]=some d):yi2 G c p=some d:=bJ (aE (gU hp) (aE (eZ (aE rfl rfl) rfl (Nat.le_of_ble_eq_true rfl)) rfl)) h
theorem xj8{p:PSt}{R e:D}(h4:p[4]? =some (some e))(h5:p[5]? =some (some R))(h:(e= .non/\GR [R,.tup (aP [0])]=some (.bl true))\/∃t,e= .str t/\GB [R,.tup (aP [0])]=some (.str t)):
  fIf (aL (cF (fB (f2 dIs (aA 4) (fC .non))) (dE (fT (yi2 GR 0))))) (bQ (aH (fC (.bl false)))) aZ p=some (.nx,p)/\
  fIf (aL (cF (fB (f2 wY (aA 4) (fC .non))) (fB (f2 dNe (yi2 GB 0) (aA 4))))) (bQ (aH (fC (.bl false)))) aZ p=some (.nx,p):=by
 have i1:fB (f2 dIs (aA 4) (fC .non)) p=some (gF e):=eS (aT (gU h4) rfl rfl)
 have i2:fB (f2 wY (aA 4) (fC .non)) p=some (!(gF e)):=eS (aT (gU h4) rfl rfl)
 rcases h with ⟨rfl,q⟩|⟨t,rfl,q⟩
 ·exact⟨bO (iB i1 (kR (b:=true) (qM (yh2 h5 q)))),bO (jM i2)⟩
 ·refine⟨bO (jM i1),bO (iB i2 (eS (aT (yh2 h5 q) (gU h4) ?_)))⟩
  show some (D.bl (!decide (t=t)))=_
  rw [decide_eq_true rfl];rfl
theorem xj9{p:PSt}{t1:Str}{n:Nat}(h6:p[6]? =some (some (.int (n:Int))))(h7:p[7]? =some (some (.str t1)))(hn:n<=t1.cps.toList.count 10)(hl:t1.length<=2000):
  fIf (aL (eH (dE (fT (aI vF (aB (aA 7) (aB (fC (.ty "str")) aD))))) (fB (f2 dLe (aI bV (aB (fMt uB (aA 7) (aB (fC (.str "\n")) aD)) aD)) (aA 6))))) (bQ (aH (fC (.bl false)))) aZ p=some (.nx,p):=by
 have sp:fMt uB (aA 7) (aB (fC (.str "\n")) aD) p=some (.lst true (L2.gO (Txt.split t1 "\n"))):=by
  unfold fMt
  rw [gU h7,Option.bind_some,aE (f:=fC (.str "\n")) (g:=aD) (d:= .str "\n") (ds:=[]) rfl rfl,Option.bind_some,if_pos (show sL (.str t1)=true from rfl)]
  exact if_pos ⟨by decide+kernel,by omega⟩
 refine bO (sG (kR (b:=true) (qM (bJ (d:= .bl true) (ds:=[.str t1,.ty "str"]) (aE (gU h7) (aE rfl rfl)) (yy3 t1)))) ?_)
 have le:((L2.gO (Txt.split t1 "\n")).length:Int)=(t1.cps.toList.count 10:Int)+1:=by
  have:(L2.gO (Txt.split t1 "\n")).length=(Txt.split t1 ⟨#[10]⟩).length:=by rw [zc5];unfold L2.gO;rw [List.length_map]
  rw [this,zy0];omega
 refine eS (aT (x:= .int ((L2.gO (Txt.split t1 "\n")).length:Int)) (bJ (aE sp rfl) rfl) (gU h6) ?_)
 show some (D.bl (decide (((L2.gO (Txt.split t1 "\n")).length:Int)<=(n:Int))))=_
 rw [decide_eq_false (by omega)]
abbrev xm0(k1 k2 k3:Nat)(GM GC:tz6):tz6:=gP 1 8 (zw0 (yx8 GM zg2) GM (zw4 (pS (sS GM GC) k1)) (yb9 GM (pM k2) GC (oU k3)) (yq7 GM) vQ (pM k2) (xF k2))
theorem xe0{GRow GD GSp GG GO:tz6}{r:List Pc}{C:List Int}{t:Str}{fs:List Leaf}{e:D}{a b:Int}{mr:Nat}
  (qa:GM [S,.int 0,.int 40]=some (.int a)) (hmr:3+a % 28=(mr:Int)) (qb:GM [S,.int 1,.int 63]=some (.int b)) (qr:GRow [S,.int 3,.int (mr:Int),.int 3]=some (.tup (aK r))) (qd:GD [S,.tup (aK r),.int 1]=some (.tup [.str t,.tup (aP C)])) (qs:GSp [S,.tup (aK r),.tup (aP C)]=some (.bl true))
  (qg:GG [S]=some (.tup (aK (lvR fs)))) (qo:GO [.tup (aK (lvR fs))]=some e) (hfs:fs.length<=8)
  (hw:∀r0,(r0=[.group (lvR fs)]\/r0=[.group [.hang 4 (lvR fs)]])->((e= .non/\GR [.tup (aK r0),.tup (aP [0])]=some (.bl true))\/∃t,e= .str t/\GB [.tup (aK r0),.tup (aP [0])]=some (.str t))/\∃t1:Str,GB [.tup (aK r0),.tup (aP [1])]=some (.str t1)/\(fs.filter mY).length<=t1.cps.toList.count 10/\t1.length<=2000)
  (qf:GB [.tup (aK r),.tup (aP C)]=some (.str t)):gP 1 8 (zw0 GRow GM GD GSp GG GO GR GB) [S]=some (.bl true):=by
 have s1:aS 1 (aH (aI GRow (aB (aA 0) (aB (fC (.int 3)) (aB (f2 bE (fC (.int 3)) (f2 cU (aI GM (aB (aA 0) (aB (fC (.int 0)) (aB (fC (.int 40)) aD)))) (fC (.int 28)))) (aB (fC (.int 3)) aD)))))) [some S,none,none,none,none,none,none,none,none]=some (.nx,[some S,some (.tup (aK r)),none,none,none,none,none,none,none]):=by
  refine bZ (bJ (aE rfl (aE rfl (aE (d:= .int (mr:Int)) (aT rfl (aT (bJ (aE rfl (aE rfl (aE rfl rfl))) qa) rfl ((cS _ _).trans (if_pos (by decide)))) ?_) (aE rfl rfl)))) qr)
  rw [<-hmr];rfl
 have s2:aS 2 (aH (aI GD (aB (aA 0) (aB (aA 1) (aB (fC (.int 1)) aD))))) [some S,some (.tup (aK r)),none,none,none,none,none,none,none]=some (.nx,[some S,some (.tup (aK r)),some (.tup [.str t,.tup (aP C)]),none,none,none,none,none,none]):=bZ (bJ (aE rfl (aE rfl (aE rfl rfl))) qd)
 have v2:∀x3 x4 x5 x6 x7 x8:Option D,f2 dIx (aA 2) (fC (.int 1)) [some S,some (.tup (aK r)),some (.tup [.str t,.tup (aP C)]),x3,x4,x5,x6,x7,x8]=some (.tup (aP C)):=fun _ _ _ _ _ _=>aT rfl rfl (cR _ _ _)
 have s3:fIf (aL (dE (fT (aI GSp (aB (aA 0) (aB (aA 1) (aB (f2 dIx (aA 2) (fC (.int 1))) aD))))))) (bQ (aH (fC (.bl false)))) aZ [some S,some (.tup (aK r)),some (.tup [.str t,.tup (aP C)]),none,none,none,none,none,none]=some (.nx,[some S,some (.tup (aK r)),some (.tup [.str t,.tup (aP C)]),none,none,none,none,none,none]):=bO (kR (b:=true) (qM (bJ (aE rfl (aE rfl (aE (v2 _ _ _ _ _ _) rfl))) qs)))
 have s4:aS 3 (aH (aI GG (aB (aA 0) aD))) [some S,some (.tup (aK r)),some (.tup [.str t,.tup (aP C)]),none,none,none,none,none,none]=some (.nx,[some S,some (.tup (aK r)),some (.tup [.str t,.tup (aP C)]),some (.tup (aK (lvR fs))),none,none,none,none,none]):=bZ (bJ (aE rfl rfl) qg)
 have s5:aS 4 (aH (aI GO (aB (aA 3) aD))) [some S,some (.tup (aK r)),some (.tup [.str t,.tup (aP C)]),some (.tup (aK (lvR fs))),none,none,none,none,none]=some (.nx,[some S,some (.tup (aK r)),some (.tup [.str t,.tup (aP C)]),some (.tup (aK (lvR fs))),some e,none,none,none,none]):=bZ (bJ (aE rfl rfl) qo)
 have pi:D.imm (.tup (aK (lvR fs)))=true:=dL _
 have v3:∀x4 x5 x6 x7 x8:Option D,aY (aA 3) [some S,some (.tup (aK r)),some (.tup [.str t,.tup (aP C)]),some (.tup (aK (lvR fs))),x4,x5,x6,x7,x8]=some (.tup (aK (lvR fs))):=fun _ _ _ _ _=>eQ rfl pi
 have s6:aS 5 (aH (cE (aB (cE (aB (fC (.str "group")) (aB (aY (aA 3)) aD))) aD))) [some S,some (.tup (aK r)),some (.tup [.str t,.tup (aP C)]),some (.tup (aK (lvR fs))),some e,none,none,none,none]=some (.nx,[some S,some (.tup (aK r)),some (.tup [.str t,.tup (aP C)]),some (.tup (aK (lvR fs))),some e,some (.tup (aK [.group (lvR fs)])),none,none,none]):=
  bZ (eZ (aE (eZ (aE rfl (aE (v3 _ _ _ _ _) rfl)) (by show(true&&(D.imm (.tup (aK (lvR fs)))&&true))=true;rw [pi];rfl) (Nat.le_of_ble_eq_true rfl)) rfl) (dL [.group (lvR fs)]) (Nat.le_of_ble_eq_true rfl))
 obtain⟨r0,hr0,s7⟩:∃r0,(r0=[.group (lvR fs)]\/r0=[.group [.hang 4 (lvR fs)]])/\fIf (aL (fB (f2 dEq (f2 cU (aI GM (aB (aA 0) (aB (fC (.int 1)) (aB (fC (.int 63)) aD)))) (fC (.int 3))) (fC (.int 0))))) (aS 5 (aH (cE (aB (cE (aB (fC (.str "group")) (aB (cE (aB (cE (aB (fC (.str "hang")) (aB (fC (.int 4)) (aB (aY (aA 3)) aD)))) aD)) aD))) aD)))) aZ [some S,some (.tup (aK r)),some (.tup [.str t,.tup (aP C)]),some (.tup (aK (lvR fs))),some e,some (.tup (aK [.group (lvR fs)])),none,none,none]=some (.nx,[some S,some (.tup (aK r)),some (.tup [.str t,.tup (aP C)]),some (.tup (aK (lvR fs))),some e,some (.tup (aK r0)),none,none,none]):=by
  have te:fB (f2 dEq (f2 cU (aI GM (aB (aA 0) (aB (fC (.int 1)) (aB (fC (.int 63)) aD)))) (fC (.int 3))) (fC (.int 0))) [some S,some (.tup (aK r)),some (.tup [.str t,.tup (aP C)]),some (.tup (aK (lvR fs))),some e,some (.tup (aK [.group (lvR fs)])),none,none,none]=some (decide (b % 3=0)):=eS (aT (aT (bJ (aE rfl (aE rfl (aE rfl rfl))) qb) rfl ((cS _ _).trans (if_pos (by decide)))) rfl rfl)
  cases c:decide (b % 3=0) with
  |false=>rw [c] at te;exact⟨_,.inl rfl,bO te⟩
  | true=>
   rw [c] at te
   refine⟨_,.inr rfl,(cT te).trans (bZ (eZ (aE (eZ (aE rfl (aE (eZ (aE (eZ (aE rfl (aE rfl (aE (v3 _ _ _ _ _) rfl))) ?_ (Nat.le_of_ble_eq_true rfl)) rfl) (dL [.hang 4 (lvR fs)]) (Nat.le_of_ble_eq_true rfl)) rfl)) ?_ (Nat.le_of_ble_eq_true rfl)) rfl) (dL [.group [.hang 4 (lvR fs)]]) (Nat.le_of_ble_eq_true rfl)))⟩
   ·show(true&&(true&&(D.imm (.tup (aK (lvR fs)))&&true)))=true
    rw [pi];rfl
   ·show(true&&(D.imms (aK [.hang 4 (lvR fs)])&&true))=true
    rw [dL];rfl
 obtain⟨w1,t1,w2,w3,w4⟩:=hw r0 hr0
 obtain⟨s8,s9⟩:=xj8 (GR:=GR) (GB:=GB) (p:=[some S,some (.tup (aK r)),some (.tup [.str t,.tup (aP C)]),some (.tup (aK (lvR fs))),some e,some (.tup (aK r0)),none,none,none]) rfl rfl w1
 obtain⟨ds,el,hl⟩:=zv3 fs
 have s10:aS 6 (aH (aI bV (aB (sM [none] (dR (aA 3)) lnT (aY (aA 0))) aD))) [some S,some (.tup (aK r)),some (.tup [.str t,.tup (aP C)]),some (.tup (aK (lvR fs))),some e,some (.tup (aK r0)),none,none,none]=some (.nx,[some S,some (.tup (aK r)),some (.tup [.str t,.tup (aP C)]),some (.tup (aK (lvR fs))),some e,some (.tup (aK r0)),some (.int ((fs.filter mY).length:Int)),none,none]):=by
  refine bZ (bJ (ds:=[.lst true ds]) (aE ?_ rfl) (by show some (D.int (ds.length:Int))=_;rw [hl]))
  unfold sM
  show((some (aK (lvR fs))).bind _)=_
  rw [Option.bind_some,if_pos (by rw [zj5];exact sz (by omega))]
  show((kM [none] lnT (aY (aA 0)) (aK (lvR fs))).bind _)=_
  rw [el];rfl
 have s11:aS 7 (aH (yi2 GB 1)) [some S,some (.tup (aK r)),some (.tup [.str t,.tup (aP C)]),some (.tup (aK (lvR fs))),some e,some (.tup (aK r0)),some (.int ((fs.filter mY).length:Int)),none,none]=some (.nx,[some S,some (.tup (aK r)),some (.tup [.str t,.tup (aP C)]),some (.tup (aK (lvR fs))),some e,some (.tup (aK r0)),some (.int ((fs.filter mY).length:Int)),some (.str t1),none]):=bZ (yh2 rfl w2)
 have s12:=xj9 (p:=[some S,some (.tup (aK r)),some (.tup [.str t,.tup (aP C)]),some (.tup (aK (lvR fs))),some e,some (.tup (aK r0)),some (.int ((fs.filter mY).length:Int)),some (.str t1),none]) rfl rfl w3 w4
 have s13:aS 8 (aH (aI GB (aB (aA 1) (aB (f2 dIx (aA 2) (fC (.int 1))) aD)))) [some S,some (.tup (aK r)),some (.tup [.str t,.tup (aP C)]),some (.tup (aK (lvR fs))),some e,some (.tup (aK r0)),some (.int ((fs.filter mY).length:Int)),some (.str t1),none]=some (.nx,[some S,some (.tup (aK r)),some (.tup [.str t,.tup (aP C)]),some (.tup (aK (lvR fs))),some e,some (.tup (aK r0)),some (.int ((fs.filter mY).length:Int)),some (.str t1),some (.str t)]):=bZ (bJ (aE rfl (aE (v2 _ _ _ _ _ _) rfl)) qf)
 have s14:bQ (aH (qG (aI vF (aB (aA 8) (aB (fC (.ty "str")) aD))) (f2 dEq (aA 8) (f2 dIx (aA 2) (fC (.int 0)))))) [some S,some (.tup (aK r)),some (.tup [.str t,.tup (aP C)]),some (.tup (aK (lvR fs))),some e,some (.tup (aK r0)),some (.int ((fs.filter mY).length:Int)),some (.str t1),some (.str t)]=some (.ret (.bl true),[some S,some (.tup (aK r)),some (.tup [.str t,.tup (aP C)]),some (.tup (aK (lvR fs))),some e,some (.tup (aK r0)),some (.int ((fs.filter mY).length:Int)),some (.str t1),some (.str t)]):=by
  refine eI ?_
  unfold qG
  rw [bJ (d:= .bl true) (ds:=[.str t,.ty "str"]) (aE rfl (aE rfl rfl)) (yy3 t),Option.bind_some]
  refine aT rfl (aT rfl rfl (dM _ _)) ?_
  show some (D.bl (decide (t=t)))=_
  rw [decide_eq_true rfl]
 exact iA rfl ((aF s1).trans ((aF s2).trans ((aF s3).trans ((aF s4).trans ((aF s5).trans ((aF s6).trans ((aF s7).trans ((aF s8).trans ((aF s9).trans ((aF s10).trans ((aF s11).trans ((aF s12).trans ((aF s13).trans s14)))))))))))))
theorem yh3{k1 k2 k3:Nat}(hk1:3<k1)(hk2:3<k2)(hk3:3<k3)(hS:S.imm=true)(hM:∀j s:Int,0<=j->j<1000->0<=s->s<1000->∃a,GM [S,.int j,.int s]=some (.int a)/\0<=a)(hC:∀j:Int,0<=j->j<1000->∃a,GC [S,.int j]=some (.int a)):xm0 k1 k2 k3 GM GC [S]=some (.bl true):=by
 obtain⟨a,qa,ha⟩:=hM 0 40 (by decide) (by decide) (by decide) (by decide)
 obtain⟨b,qb,_⟩:=hM 1 63 (by decide) (by decide) (by decide) (by decide)
 obtain⟨num,qn,_⟩:=hM 1 60 (by decide) (by decide) (by decide) (by decide)
 obtain⟨c,qc⟩:=hC 1 (by decide) (by decide)
 obtain⟨mr,hmr0,mr1⟩:=ya1 a 3 28 (by decide)
 have hmr:3+a % 28=(mr:Int):=hmr0
 obtain⟨r,qr,hr,_,hdr⟩:=yg8 (k1:=k1) (k2:=k2) (nest:=3) (a:=3) (many:=mr) hk1 hk2 (by decide) (by omega) (by omega) hS hM hC
 obtain⟨C,t,d,g,len,bb,ht,hlow⟩:=hdr 1 (by decide) (by decide)
 obtain⟨W,T⟩:=xd9 (k2:=k2) (k3:=k3) (nest:=3) (by decide) hr.dep hk2 hk3 hr.ok (Nat.le_trans hr.len (by omega)) g len hlow
 have sp:=yq4 (GM:=GM) (GC:=GC) (S:=S) T qn qc
 obtain⟨fs,qg,hfs,hf⟩:=yw7 hM
 obtain⟨e,qo,he⟩:∃e,vQ [.tup (aK (lvR fs))]=some e/\((e= .non/\bY false 0 (lvR fs) [] ⟨#[]⟩=none)\/∃t,e= .str t/\bY false 0 (lvR fs) [] ⟨#[]⟩=some ([],t)):=by
  rcases yh1 hf hfs with ⟨e1,e2⟩|⟨t,e1,e2⟩
  ·exact⟨_,e2,.inl ⟨rfl,e1⟩⟩
  ·exact⟨_,e2,.inr ⟨t,rfl,e1⟩⟩
 refine xe0 qa hmr qb qr d sp qg qo hfs (fun r0 hr0=> ?_) bb
 obtain⟨w1,w2,w3⟩:=xd8 hf hfs hk2 hr0
 refine⟨?_,w3⟩
 rcases he with ⟨e1,e2⟩|⟨t,e1,e2⟩
 ·exact .inl ⟨e1,w1 e2⟩
 ·exact .inr ⟨t,e1,w2 t e2⟩
end
end My
namespace My
open PySem PySem.Spec PyProof.Rows L2 L3
variable{P:Program}{w:World}{K:tz0}{mg:tzA}{base:Heap}{U:tz9}
abbrev xJ:List D->Option (List Int):=D.ints
theorem vC:∀ns:List Int,xJ (ns.map .int)=some ns
 |[]=>rfl
 |n::ns=>by show(D.ints (ns.map .int)).map (n::·)=_;rw [show D.ints (ns.map .int)=some ns from vC ns];rfl
def yi3:tz6
 |[.con xs,.int k,.int s]=>match xJ xs with
  |some ns=>if ns.length<=63/\(0<=k/\k<1000000)/\(0<=s/\s<1000000) then some (.int (vM ns k s)) else none
  |none=>none
 |_=>none
theorem yx1{ns:List Int}(h:ns.length<=63)(k s:Int)(hk:0<=k)(hk1:k<1000)(hs:0<=s)(hs1:s<1000):∃m,yi3 [.con (ns.map .int),.int k,.int s]=some (.int m)/\0<=m:=by
 refine⟨vM ns k s,?_,(zx2 ns k s).1⟩
 show(match xJ (ns.map .int) with|some ns=>if ns.length<=63/\(0<=k/\k<1000000)/\(0<=s/\s<1000000) then some (D.int (vM ns k s)) else none|none=>none)=_
 rw [vC]
 exact if_pos ⟨h,⟨hk,by omega⟩,hs,by omega⟩
theorem xp3{k:Nat}{f:Addr}{fd:FuncData}{ps:List Str}(F:FnOk P w K mg base CX0 k f fd ps (yb7 K)):FnOk P w K mg base CX0 k f fd ps (SpP 3 K U yi3):=by
 refine F.imp fun vs H Q E ⟨_,ds,fp,d,r,e,q⟩=> ?_
 unfold yi3 at e
 split at e
 ·rename_i xs k s
  split at e
  ·rename_i ns hns
   obtain⟨hc,e⟩:=cN e
   cases e
   obtain⟨v1,us,f,g,rfl,r1,r2,rfl⟩:=r.split
   obtain⟨v2,us2,f2,g2,rfl,r3,r4,rfl⟩:=r2.split
   obtain⟨v3,rfl,r5⟩:=r4.one_inv
   rw [r3.is_int,r5.is_int]
   obtain⟨a,vs,rfl,hS,hs⟩:=r1.con_inv
   rw [zh0 hs hns] at hS
   exact⟨a,ns,k,s,rfl,hS.l,hc.1,hc.2.1,hc.2.2,q _ H [] (SameK.refl H) (fun _ ha=>absurd ha (by simp)) List.nodup_nil (.int _)⟩
  ·cases e
 ·cases e
def zp1(K:tz0):Sp:=fun vs H Q _=>∃(a:Addr) (ns:List Int),vs=[.ref a]/\SqF K H a (ns.map V.int)/\ns.length<=63/\∀H',Q (.bl true) H'
theorem zm8{H:Hp}:∀ns:List Int,Reps K U H (ns.map V.int) (ns.map .int) []
 |[]=> .nil
 |n::ns=> .cons (f:=[]) (g:=[]) (.int n) (zm8 ns)
theorem xp4{k:Nat}{f:Addr}{fd:FuncData}{ps:List Str}{g:tz6}(F:FnOk P w K mg base CX0 k f fd ps (SpP 1 K U g))(h:∀ns:List Int,ns.length<=63->g [.con (ns.map .int)]=some (.bl true)):FnOk P w K mg base CX0 k f fd ps (zp1 K):=
 F.imp fun vs H Q E ⟨a,ns,e,hS,hl,q⟩=>e▸⟨rfl,[.con (ns.map .int)],[],.bl true,.cons (f:=[]) (g:=[]) (.con hS (zm8 ns)) .nil,h ns hl,fun v H' fv _ _ _ r=>by cases r;exact q H'⟩
def Cur:Nat->(List Value->Prop)->Prop
 |0,P=>P []
 |n+1,P=>∀a,Cur n fun us=>P (a::us)
theorem dH{n:Nat}:∀{P:List Value->Prop},Cur n P->∀us:List Value,us.length=n->P us:=by
 induction n with
 |zero=>intro P h us hl;cases List.eq_nil_of_length_eq_zero hl;exact h
 |succ n ih=>
  intro P h us hl
  cases us with
  |nil=>cases hl
  |cons a us=>exact ih (h a) us (Nat.succ.inj hl)
theorem fZ{h:Heap}(X:K.In h)(G:h.Ns mainGlobals mg){x:Str}{st:Stmt}{f:Addr}{od an:Option Addr}{sl:Array (Option Value)}{oc kV dc pm cd ct:Value}{ps:List Str}
  (a:PySem.W.nsIn K mainGlobals x=some (some (.ref f))) (l:K.lookup f=some ⟨oc,od,.func (PySem.W.fnOf x x (cL st) (cC st) (aQ st) .none kV dc pm an cd ct),sl⟩) (c:PySem.W.codeIn K cd x=true) (k:PySem.W.keepIn K (.ref f)=true)
  (hb:∀(kV doc pm:Value) (an:Option Addr) (cdv ct:Value) (us:List Value),us.length=ps.length->bindArgs (PySem.W.fnOf x x (cL st) (cC st) (aQ st) .none kV doc pm an cdv ct) ⟨us,[]⟩=pure (ps.zip us)):
  Dn K mg x st ps f (PySem.W.fnOf x x (cL st) (cC st) (aQ st) .none kV dc pm an cd ct):=
 ⟨iX l c k,(iX l c k).binds hb,PySem.W.mg_of X G a⟩
theorem xp5{l:PySem.W.OpenLaw}{q:Program}{loose:List Str}{XP:(tzA)->Heap->Prop}{YP:World->Heap->Prop}{d:DefRec}{K:Params->tz0}{lev:Nat}(hn:l.most=some 63)(hdf:d.params.defaults=[])(hr:Room lev callerA)
  (hY:∀(w:World) (h:Heap),YP w h->(K w.params).In h)
  (F:∀(w:World) (mg:tzA) (fa:Addr) (h:Heap),(K w.params).In h->h.Ns mainGlobals mg->mg d.name=some (.ref fa)->
   ∃fd:FuncData,(∀(s:Shared) (u:Value),BindsTo s fd ⟨[u],[]⟩ [("_law_script",u)])/\∀base:Heap,(K w.params).In base->base.Ns mainGlobals mg->FnOk l.prog w (K w.params) mg base CX0 lev fa fd ["_law_script"] (zp1 (K w.params))):
  PySem.W.WalkO q loose XP YP l.row.toRowW d [] (fun f vs=>PySem.call f vs):=
 L2.xa5 (n:=63) (k:=lev) (x:="_law_script") (CX:=fun _=>CX0) (sp:=fun w=>zp1 (K w.params)) hn (by decide) hdf hr hY F (fun _ H a ns hl hO hS=>⟨a,ns,rfl,by
  rcases hS with (h|h)|h
  ·rcases hO a with z|⟨o,xs,z⟩<;>rw [h] at z<;>cases z
  ·exact .inl h
  ·exact .inr h,hl,fun _=>rfl⟩) fun _ _ _ _ _ z=>z
end My
namespace My
open PySem PySem.Spec PyProof.Rows L2 L3
variable{P:Program}{w:World}{K:tz0}{mg:tzA}{base:Heap}{U:tz9}
def zp2:tz6
 |[.con xs,.int k]=>match xJ xs with
  |some ns=>some (.int (pY ns k))
  |none=>none
 |_=>none
theorem yq5(ns:List Int)(k:Int):zp2 [.con (ns.map .int),.int k]=some (.int (pY ns k)):=by
 show(match xJ (ns.map .int) with|some ns=>some (D.int (pY ns k))|none=>none)=_
 rw [vC]
theorem xn1{k:Nat}{f:Addr}{fd:FuncData}{ps:List Str}(F:FnOk P w K mg base CX0 k f fd ps (zv8 K)):FnOk P w K mg base CX0 k f fd ps (SpP 2 K U zp2):=by
 refine F.imp fun vs H Q E ⟨_,ds,fp,d,r,e,q⟩=> ?_
 unfold zp2 at e
 split at e
 ·rename_i xs k
  split at e
  ·rename_i ns hns
   cases e
   obtain⟨v1,us,f,g,rfl,r1,r2,rfl⟩:=r.split
   obtain⟨v3,rfl,r5⟩:=r2.one_inv
   rw [r5.is_int]
   obtain⟨a,vs,rfl,hS,hs⟩:=r1.con_inv
   rw [zh0 hs hns] at hS
   exact⟨a,ns,k,rfl,hS.l,q _ H [] (SameK.refl H) (fun _ ha=>absurd ha (by simp)) List.nodup_nil (.int _)⟩
  ·cases e
 ·cases e
end My
namespace My
open PySem PySem.Spec PyProof.Rows L2 L3
theorem xk0{l:PySem.W.OpenLaw}{w:World}{K:tz0}{h:Heap}{mg:tzA}{fa f0 f1 f2 f3 f4 f5 f6 f7 f8 f9 f10 f11 f12 f13 f14 f15 f16 f17 f18 f19 f20 f21 f22 f23 f24 f25:Addr}(X:K.In h)(G:h.Ns mainGlobals mg)(hfa:mg "law"=some (.ref fa))
  {od0 an0 od1 an1 od2 an2 od3 an3 od4 an4 od5 an5 od6 an6 od7 an7 od8 an8 od9 an9 od10 an10 od11 an11 od12 an12 od13 an13 od14 an14 od15 an15 od16 an16 od17 an17 od18 an18 od19 an19 od20 an20 od21 an21 od22 an22 od23 an23 od24 an24 od25 an25:Option Addr} {sl0 sl1 sl2 sl3 sl4 sl5 sl6 sl7 sl8 sl9 sl10 sl11 sl12 sl13 sl14 sl15 sl16 sl17 sl18 sl19 sl20 sl21 sl22 sl23 sl24 sl25:Array (Option Value)} {oc0 kV0 dc0 pm0 cd0 ct0 oc1 kV1 dc1 pm1 cd1 ct1 oc2 kV2 dc2 pm2 cd2 ct2 oc3 kV3 dc3 pm3 cd3 ct3 oc4 kV4 dc4 pm4 cd4 ct4 oc5 kV5 dc5 pm5 cd5 ct5 oc6 kV6 dc6 pm6 cd6 ct6 oc7 kV7 dc7 pm7 cd7 ct7 oc8 kV8 dc8 pm8 cd8 ct8 oc9 kV9 dc9 pm9 cd9 ct9 oc10 kV10 dc10 pm10 cd10 ct10 oc11 kV11 dc11 pm11 cd11 ct11 oc12 kV12 dc12 pm12 cd12 ct12 oc13 kV13 dc13 pm13 cd13 ct13 oc14 kV14 dc14 pm14 cd14 ct14 oc15 kV15 dc15 pm15 cd15 ct15 oc16 kV16 dc16 pm16 cd16 ct16 oc17 kV17 dc17 pm17 cd17 ct17 oc18 kV18 dc18 pm18 cd18 ct18 oc19 kV19 dc19 pm19 cd19 ct19 oc20 kV20 dc20 pm20 cd20 ct20 oc21 kV21 dc21 pm21 cd21 ct21 oc22 kV22 dc22 pm22 cd22 ct22 oc23 kV23 dc23 pm23 cd23 ct23 oc24 kV24 dc24 pm24 cd24 ct24 oc25 kV25 dc25 pm25 cd25 ct25:Value}
  (a0:PySem.W.nsIn K mainGlobals "first_place"=some (some (.ref f0))) (l0:K.lookup f0=some ⟨oc0,od0,.func (PySem.W.fnOf "first_place" "first_place" (cL fR) (cC fR) (aQ fR) .none kV0 dc0 pm0 an0 cd0 ct0),sl0⟩) (c0:PySem.W.codeIn K cd0 "first_place"=true) (k0:PySem.W.keepIn K (.ref f0)=true)
  (a1:PySem.W.nsIn K mainGlobals "holds_rows"=some (some (.ref f1))) (l1:K.lookup f1=some ⟨oc1,od1,.func (PySem.W.fnOf "holds_rows" "holds_rows" (cL gA) (cC gA) (aQ gA) .none kV1 dc1 pm1 an1 cd1 ct1),sl1⟩) (c1:PySem.W.codeIn K cd1 "holds_rows"=true) (k1:PySem.W.keepIn K (.ref f1)=true)
  (a2:PySem.W.nsIn K mainGlobals "takes_choice"=some (some (.ref f2))) (l2:K.lookup f2=some ⟨oc2,od2,.func (PySem.W.fnOf "takes_choice" "takes_choice" (cL fH) (cC fH) (aQ fH) .none kV2 dc2 pm2 an2 cd2 ct2),sl2⟩) (c2:PySem.W.codeIn K cd2 "takes_choice"=true) (k2:PySem.W.keepIn K (.ref f2)=true)
  (a3:PySem.W.nsIn K mainGlobals "ways"=some (some (.ref f3))) (l3:K.lookup f3=some ⟨oc3,od3,.func (PySem.W.fnOf "ways" "ways" (cL kD) (cC kD) (aQ kD) .none kV3 dc3 pm3 an3 cd3 ct3),sl3⟩) (c3:PySem.W.codeIn K cd3 "ways"=true) (k3:PySem.W.keepIn K (.ref f3)=true)
  (a4:PySem.W.nsIn K mainGlobals "new_line"=some (some (.ref f4))) (l4:K.lookup f4=some ⟨oc4,od4,.func (PySem.W.fnOf "new_line" "new_line" (cL iV) (cC iV) (aQ iV) .none kV4 dc4 pm4 an4 cd4 ct4),sl4⟩) (c4:PySem.W.codeIn K cd4 "new_line"=true) (k4:PySem.W.keepIn K (.ref f4)=true)
  (a5:PySem.W.nsIn K mainGlobals "writing"=some (some (.ref f5))) (l5:K.lookup f5=some ⟨oc5,od5,.func (PySem.W.fnOf "writing" "writing" (cL iR) (cC iR) (aQ iR) .none kV5 dc5 pm5 an5 cd5 ct5),sl5⟩) (c5:PySem.W.codeIn K cd5 "writing"=true) (k5:PySem.W.keepIn K (.ref f5)=true)
  (a6:PySem.W.nsIn K mainGlobals "ends_line"=some (some (.ref f6))) (l6:K.lookup f6=some ⟨oc6,od6,.func (PySem.W.fnOf "ends_line" "ends_line" (cL iF) (cC iF) (aQ iF) .none kV6 dc6 pm6 an6 cd6 ct6),sl6⟩) (c6:PySem.W.codeIn K cd6 "ends_line"=true) (k6:PySem.W.keepIn K (.ref f6)=true)
  (a7:PySem.W.nsIn K mainGlobals "column_behind"=some (some (.ref f7))) (l7:K.lookup f7=some ⟨oc7,od7,.func (PySem.W.fnOf "column_behind" "column_behind" (cL fS) (cC fS) (aQ fS) .none kV7 dc7 pm7 an7 cd7 ct7),sl7⟩) (c7:PySem.W.codeIn K cd7 "column_behind"=true) (k7:PySem.W.keepIn K (.ref f7)=true)
  (a8:PySem.W.nsIn K mainGlobals "set_by"=some (some (.ref f8))) (l8:K.lookup f8=some ⟨oc8,od8,.func (PySem.W.fnOf "set_by" "set_by" (cL iL) (cC iL) (aQ iL) .none kV8 dc8 pm8 an8 cd8 ct8),sl8⟩) (c8:PySem.W.codeIn K cd8 "set_by"=true) (k8:PySem.W.keepIn K (.ref f8)=true)
  (a9:PySem.W.nsIn K mainGlobals "_law_cell_at"=some (some (.ref f9))) (l9:K.lookup f9=some ⟨oc9,od9,.func (PySem.W.fnOf "_law_cell_at" "_law_cell_at" (cL gQ) (cC gQ) (aQ gQ) .none kV9 dc9 pm9 an9 cd9 ct9),sl9⟩) (c9:PySem.W.codeIn K cd9 "_law_cell_at"=true) (k9:PySem.W.keepIn K (.ref f9)=true)
  (a10:PySem.W.nsIn K mainGlobals "_law_mixed"=some (some (.ref f10))) (l10:K.lookup f10=some ⟨oc10,od10,.func (PySem.W.fnOf "_law_mixed" "_law_mixed" (cL gR) (cC gR) (aQ gR) .none kV10 dc10 pm10 an10 cd10 ct10),sl10⟩) (c10:PySem.W.codeIn K cd10 "_law_mixed"=true) (k10:PySem.W.keepIn K (.ref f10)=true)
  (a11:PySem.W.nsIn K mainGlobals "_law_word"=some (some (.ref f11))) (l11:K.lookup f11=some ⟨oc11,od11,.func (PySem.W.fnOf "_law_word" "_law_word" (cL kW) (cC kW) (aQ kW) .none kV11 dc11 pm11 an11 cd11 ct11),sl11⟩) (c11:PySem.W.codeIn K cd11 "_law_word"=true) (k11:PySem.W.keepIn K (.ref f11)=true)
  (a12:PySem.W.nsIn K mainGlobals "_law_leaf"=some (some (.ref f12))) (l12:K.lookup f12=some ⟨oc12,od12,.func (PySem.W.fnOf "_law_leaf" "_law_leaf" (cL mB) (cC mB) (aQ mB) .none kV12 dc12 pm12 an12 cd12 ct12),sl12⟩) (c12:PySem.W.codeIn K cd12 "_law_leaf"=true) (k12:PySem.W.keepIn K (.ref f12)=true)
  (a13:PySem.W.nsIn K mainGlobals "_law_shut"=some (some (.ref f13))) (l13:K.lookup f13=some ⟨oc13,od13,.func (PySem.W.fnOf "_law_shut" "_law_shut" (cL mC) (cC mC) (aQ mC) .none kV13 dc13 pm13 an13 cd13 ct13),sl13⟩) (c13:PySem.W.codeIn K cd13 "_law_shut"=true) (k13:PySem.W.keepIn K (.ref f13)=true)
  (a14:PySem.W.nsIn K mainGlobals "_law_row"=some (some (.ref f14))) (l14:K.lookup f14=some ⟨oc14,od14,.func (PySem.W.fnOf "_law_row" "_law_row" (cL nP) (cC nP) (aQ nP) .none kV14 dc14 pm14 an14 cd14 ct14),sl14⟩) (c14:PySem.W.codeIn K cd14 "_law_row"=true) (k14:PySem.W.keepIn K (.ref f14)=true)
  (a15:PySem.W.nsIn K mainGlobals "_law_next"=some (some (.ref f15))) (l15:K.lookup f15=some ⟨oc15,od15,.func (PySem.W.fnOf "_law_next" "_law_next" (cL mD) (cC mD) (aQ mD) .none kV15 dc15 pm15 an15 cd15 ct15),sl15⟩) (c15:PySem.W.codeIn K cd15 "_law_next"=true) (k15:PySem.W.keepIn K (.ref f15)=true)
  (a16:PySem.W.nsIn K mainGlobals "_law_line"=some (some (.ref f16))) (l16:K.lookup f16=some ⟨oc16,od16,.func (PySem.W.fnOf "_law_line" "_law_line" (cL mE) (cC mE) (aQ mE) .none kV16 dc16 pm16 an16 cd16 ct16),sl16⟩) (c16:PySem.W.codeIn K cd16 "_law_line"=true) (k16:PySem.W.keepIn K (.ref f16)=true)
  (a17:PySem.W.nsIn K mainGlobals "_law_column"=some (some (.ref f17))) (l17:K.lookup f17=some ⟨oc17,od17,.func (PySem.W.fnOf "_law_column" "_law_column" (cL kG) (cC kG) (aQ kG) .none kV17 dc17 pm17 an17 cd17 ct17),sl17⟩) (c17:PySem.W.codeIn K cd17 "_law_column"=true) (k17:PySem.W.keepIn K (.ref f17)=true)
  (a18:PySem.W.nsIn K mainGlobals "_law_set"=some (some (.ref f18))) (l18:K.lookup f18=some ⟨oc18,od18,.func (PySem.W.fnOf "_law_set" "_law_set" (cL nQ) (cC nQ) (aQ nQ) .none kV18 dc18 pm18 an18 cd18 ct18),sl18⟩) (c18:PySem.W.codeIn K cd18 "_law_set"=true) (k18:PySem.W.keepIn K (.ref f18)=true)
  (a19:PySem.W.nsIn K mainGlobals "_law_drawn"=some (some (.ref f19))) (l19:K.lookup f19=some ⟨oc19,od19,.func (PySem.W.fnOf "_law_drawn" "_law_drawn" (cL lB) (cC lB) (aQ lB) .none kV19 dc19 pm19 an19 cd19 ct19),sl19⟩) (c19:PySem.W.codeIn K cd19 "_law_drawn"=true) (k19:PySem.W.keepIn K (.ref f19)=true)
  (a20:PySem.W.nsIn K mainGlobals "_law_refused"=some (some (.ref f20))) (l20:K.lookup f20=some ⟨oc20,od20,.func (PySem.W.fnOf "_law_refused" "_law_refused" (cL iT) (cC iT) (aQ iT) .none kV20 dc20 pm20 an20 cd20 ct20),sl20⟩) (c20:PySem.W.codeIn K cd20 "_law_refused"=true) (k20:PySem.W.keepIn K (.ref f20)=true)
  (a21:PySem.W.nsIn K mainGlobals "_law_wanted"=some (some (.ref f21))) (l21:K.lookup f21=some ⟨oc21,od21,.func (PySem.W.fnOf "_law_wanted" "_law_wanted" (cL kH) (cC kH) (aQ kH) .none kV21 dc21 pm21 an21 cd21 ct21),sl21⟩) (c21:PySem.W.codeIn K cd21 "_law_wanted"=true) (k21:PySem.W.keepIn K (.ref f21)=true)
  (a22:PySem.W.nsIn K mainGlobals "_law_spoilt"=some (some (.ref f22))) (l22:K.lookup f22=some ⟨oc22,od22,.func (PySem.W.fnOf "_law_spoilt" "_law_spoilt" (cL kI) (cC kI) (aQ kI) .none kV22 dc22 pm22 an22 cd22 ct22),sl22⟩) (c22:PySem.W.codeIn K cd22 "_law_spoilt"=true) (k22:PySem.W.keepIn K (.ref f22)=true)
  (a23:PySem.W.nsIn K mainGlobals "_law_one_line"=some (some (.ref f23))) (l23:K.lookup f23=some ⟨oc23,od23,.func (PySem.W.fnOf "_law_one_line" "_law_one_line" (cL iW) (cC iW) (aQ iW) .none kV23 dc23 pm23 an23 cd23 ct23),sl23⟩) (c23:PySem.W.codeIn K cd23 "_law_one_line"=true) (k23:PySem.W.keepIn K (.ref f23)=true)
  (a24:PySem.W.nsIn K mainGlobals "_law_group"=some (some (.ref f24))) (l24:K.lookup f24=some ⟨oc24,od24,.func (PySem.W.fnOf "_law_group" "_law_group" (cL lC) (cC lC) (aQ lC) .none kV24 dc24 pm24 an24 cd24 ct24),sl24⟩) (c24:PySem.W.codeIn K cd24 "_law_group"=true) (k24:PySem.W.keepIn K (.ref f24)=true)
  (a25:PySem.W.nsIn K mainGlobals "law"=some (some (.ref f25))) (l25:K.lookup f25=some ⟨oc25,od25,.func (PySem.W.fnOf "law" "law" (cL nC) (cC nC) (aQ nC) .none kV25 dc25 pm25 an25 cd25 ct25),sl25⟩) (c25:PySem.W.codeIn K cd25 "law"=true) (k25:PySem.W.keepIn K (.ref f25)=true)
  (z0:PySem.W.nsIn K mainGlobals "len"=some none)
  (z1:PySem.W.nsIn K mainGlobals "max"=some none)
  (z2:PySem.W.nsIn K mainGlobals "range"=some none)
  (z3:PySem.W.nsIn K mainGlobals "tuple"=some none)
  (z4:PySem.W.nsIn K mainGlobals "int"=some none)
  (z5:PySem.W.nsIn K mainGlobals "isinstance"=some none)
  (z6:PySem.W.nsIn K mainGlobals "ValueError"=some none)
  (z7:PySem.W.nsIn K mainGlobals "list"=some none)
  (z8:PySem.W.nsIn K mainGlobals "str"=some none)
  {aHOLDERS:Addr} {odHOLDERS:Option Addr} {nHOLDERS:Nat} {slHOLDERS:Array (Option Value)} {uHOLDERS_0 uHOLDERS_1 uHOLDERS_2:Tok}
  (g0:PySem.W.nsIn K mainGlobals "HOLDERS"=some (some (.ref aHOLDERS)))
  (dtHOLDERS:K.lookup aHOLDERS=some ⟨.type "tuple",odHOLDERS,.seq #[.str "group" uHOLDERS_0,.str "hang" uHOLDERS_1,.str "either" uHOLDERS_2] nHOLDERS,slHOLDERS⟩)
  {fk:Addr} {b6:Addr} {od_Place_init an_Place_init:Option Addr} {sl_Place_init:Array (Option Value)} {oc_Place_init kV_Place_init dc_Place_init pm_Place_init cd_Place_init ct_Place_init:Value}
  (uo:PySem.W.nsIn K mainGlobals "Place"=some (some (.ref fk)))
  (uq:PySem.W.plainGet K fk Str.empty=true)
  (ur:PySem.W.hasDictIn K fk=true)
  (ut:PySem.W.plainOver K fk=true)
  (uu:PySem.W.findIn K (.ref fk) "__setattr__"=some (some (.builtin "object.__setattr__")))
  (uv:PySem.W.makesIn K fk=true)
  (uw:PySem.W.keepIn K (.ref fk)=true)
  (ql:PySem.W.findIn K (.ref fk) "__init__"=some (some (.ref b6)))
  (qp:PySem.W.isFn K (.ref b6)=true)
  (ng:K.lookup b6=some ⟨oc_Place_init,od_Place_init,.func (PySem.W.fnOf "__init__" "Place.__init__" (cL gW) (cC gW) (aQ gW) .none kV_Place_init dc_Place_init pm_Place_init an_Place_init cd_Place_init ct_Place_init),sl_Place_init⟩)
  (nh:PySem.W.codeIn K cd_Place_init "Place.__init__"=true)
  (ni:PySem.W.keepIn K (.ref b6)=true)
  (uc:PySem.W.findIn K (.ref fk) "broken"=some none)
  (ud:PySem.W.findIn K (.ref fk) "margin"=some none)
  {bo:Addr} {bq ai aq am ag au:Addr} {od_Setter_init an_Setter_init od_Setter_choice_below an_Setter_choice_below od_Setter_set_plain an_Setter_set_plain od_Setter_set_holder an_Setter_set_holder od_Setter_set_row an_Setter_set_row od_Setter_whole_text an_Setter_whole_text:Option Addr} {sl_Setter_init sl_Setter_choice_below sl_Setter_set_plain sl_Setter_set_holder sl_Setter_set_row sl_Setter_whole_text:Array (Option Value)} {oc_Setter_init kV_Setter_init dc_Setter_init pm_Setter_init cd_Setter_init ct_Setter_init oc_Setter_choice_below kV_Setter_choice_below dc_Setter_choice_below pm_Setter_choice_below cd_Setter_choice_below ct_Setter_choice_below oc_Setter_set_plain kV_Setter_set_plain dc_Setter_set_plain pm_Setter_set_plain cd_Setter_set_plain ct_Setter_set_plain oc_Setter_set_holder kV_Setter_set_holder dc_Setter_set_holder pm_Setter_set_holder cd_Setter_set_holder ct_Setter_set_holder oc_Setter_set_row kV_Setter_set_row dc_Setter_set_row pm_Setter_set_row cd_Setter_set_row ct_Setter_set_row oc_Setter_whole_text kV_Setter_whole_text dc_Setter_whole_text pm_Setter_whole_text cd_Setter_whole_text ct_Setter_whole_text:Value}
  (ue:PySem.W.nsIn K mainGlobals "Setter"=some (some (.ref bo)))
  (uf:PySem.W.plainGet K bo Str.empty=true)
  (ug:PySem.W.hasDictIn K bo=true)
  (uh:PySem.W.plainOver K bo=true)
  (ui:PySem.W.findIn K (.ref bo) "__setattr__"=some (some (.builtin "object.__setattr__")))
  (uj:PySem.W.makesIn K bo=true)
  (uk:PySem.W.keepIn K (.ref bo)=true)
  (pz:PySem.W.findIn K (.ref bo) "__init__"=some (some (.ref bq)))
  (p6:PySem.W.isFn K (.ref bq)=true)
  (mf:K.lookup bq=some ⟨oc_Setter_init,od_Setter_init,.func (PySem.W.fnOf "__init__" "Setter.__init__" (cL gJ) (cC gJ) (aQ gJ) .none kV_Setter_init dc_Setter_init pm_Setter_init an_Setter_init cd_Setter_init ct_Setter_init),sl_Setter_init⟩)
  (mh:PySem.W.codeIn K cd_Setter_init "Setter.__init__"=true)
  (mi:PySem.W.keepIn K (.ref bq)=true)
  (lr:PySem.W.findIn K (.ref bo) "choice_below"=some (some (.ref ai)))
  (ls:PySem.W.isFn K (.ref ai)=true)
  (i5:K.lookup ai=some ⟨oc_Setter_choice_below,od_Setter_choice_below,.func (PySem.W.fnOf "choice_below" "Setter.choice_below" (cL dN) (cC dN) (aQ dN) .none kV_Setter_choice_below dc_Setter_choice_below pm_Setter_choice_below an_Setter_choice_below cd_Setter_choice_below ct_Setter_choice_below),sl_Setter_choice_below⟩)
  (i6:PySem.W.codeIn K cd_Setter_choice_below "Setter.choice_below"=true)
  (gh:PySem.W.keepIn K (.ref ai)=true)
  (nj:PySem.W.findIn K (.ref bo) "set_plain"=some (some (.ref aq)))
  (nk:PySem.W.isFn K (.ref aq)=true)
  (jp:K.lookup aq=some ⟨oc_Setter_set_plain,od_Setter_set_plain,.func (PySem.W.fnOf "set_plain" "Setter.set_plain" (cL eE) (cC eE) (aQ eE) .none kV_Setter_set_plain dc_Setter_set_plain pm_Setter_set_plain an_Setter_set_plain cd_Setter_set_plain ct_Setter_set_plain),sl_Setter_set_plain⟩)
  (jq:PySem.W.codeIn K cd_Setter_set_plain "Setter.set_plain"=true)
  (ib:PySem.W.keepIn K (.ref aq)=true)
  (mq:PySem.W.findIn K (.ref bo) "set_holder"=some (some (.ref am)))
  (mt:PySem.W.isFn K (.ref am)=true)
  (jk:K.lookup am=some ⟨oc_Setter_set_holder,od_Setter_set_holder,.func (PySem.W.fnOf "set_holder" "Setter.set_holder" (cL dY) (cC dY) (aQ dY) .none kV_Setter_set_holder dc_Setter_set_holder pm_Setter_set_holder an_Setter_set_holder cd_Setter_set_holder ct_Setter_set_holder),sl_Setter_set_holder⟩)
  (jl:PySem.W.codeIn K cd_Setter_set_holder "Setter.set_holder"=true)
  (gy:PySem.W.keepIn K (.ref am)=true)
  (nz:PySem.W.findIn K (.ref bo) "set_row"=some (some (.ref ag)))
  (n0:PySem.W.isFn K (.ref ag)=true)
  (j6:K.lookup ag=some ⟨oc_Setter_set_row,od_Setter_set_row,.func (PySem.W.fnOf "set_row" "Setter.set_row" (cL dU) (cC dU) (aQ dU) .none kV_Setter_set_row dc_Setter_set_row pm_Setter_set_row an_Setter_set_row cd_Setter_set_row ct_Setter_set_row),sl_Setter_set_row⟩)
  (j7:PySem.W.codeIn K cd_Setter_set_row "Setter.set_row"=true)
  (iu:PySem.W.keepIn K (.ref ag)=true)
  (mv:PySem.W.findIn K (.ref bo) "whole_text"=some (some (.ref au)))
  (mw:PySem.W.isFn K (.ref au)=true)
  (jm:K.lookup au=some ⟨oc_Setter_whole_text,od_Setter_whole_text,.func (PySem.W.fnOf "whole_text" "Setter.whole_text" (cL dZ) (cC dZ) (aQ dZ) .none kV_Setter_whole_text dc_Setter_whole_text pm_Setter_whole_text an_Setter_whole_text cd_Setter_whole_text ct_Setter_whole_text),sl_Setter_whole_text⟩)
  (jn:PySem.W.codeIn K cd_Setter_whole_text "Setter.whole_text"=true)
  (gz:PySem.W.keepIn K (.ref au)=true)
  (t7:PySem.W.findIn K (.ref bo) "choices"=some none)
  (uy:PySem.W.findIn K (.ref bo) "used"=some none)
  (ul:PySem.W.findIn K (.ref bo) "column"=some none)
  (ux:PySem.W.findIn K (.ref bo) "parts"=some none)
  {ge:Addr} (rj:PySem.W.nsIn K mainGlobals "LineError"=some (some (.ref ge))) (rk:PySem.W.excIn K ge [.type "ValueError",.type "Exception",.type "BaseException",.type "object"] "ValueError.__new__"=true)
  {aa:Addr} (sx:PySem.W.nsIn K mainGlobals "NoChoice"=some (some (.ref aa))) (om:PySem.W.excIn K aa [.type "ValueError",.type "Exception",.type "BaseException",.type "object"] "ValueError.__new__"=true)
  (gk:PySem.W.mroIn K aa (.ref ge)=some true)
  (rl:PySem.W.findIn K (.ref aa) "__getattribute__"=some (some (.builtin "BaseException.__getattribute__")))
  (rm:PySem.W.findIn K (.ref aa) "__getattr__"=some none)
  (rn:PySem.W.mroIn K aa (.type "BaseException")=some true)
  (rq:PySem.W.findIn K (.ref aa) "__class__"=some (some (.builtin "object.__class__")))
  (rz:PySem.W.specialIn K (.builtin "object.__class__") "__get__"=some (some (.builtin "getset_descriptor.__get__")))
  (r6:PySem.W.takesIn K (.builtin "object.__class__")=some true)
  (r9:PySem.W.mroIn K aa (.type "object")=some true)
  {jd:Addr} (t9:PySem.W.nsIn K mainGlobals "NoPiece"=some (some (.ref jd)))
  {ju:Addr} (um:PySem.W.nsIn K mainGlobals "NoRoom"=some (some (.ref ju)))
  (dj:PySem.W.kitAny K (.ref aa) [.ref jd,.ref ju]=some false)
  (gv:PySem.W.kitOne K (.ref aa) (.ref aa)=some true)
  (gf:PySem.W.kitOne K (.ref aa) (.type "ValueError")=some true)
  :∃fd:FuncData,(∀(s:Shared) (v:Value),BindsTo s fd ⟨[v],[]⟩ [("_law_script",v)])/\∀base:Heap,K.In base->base.Ns mainGlobals mg->FnOk l.prog w K mg base CX0 23 fa fd ["_law_script"] (zp1 K):=by
 have e:=hfa.symm.trans (PySem.W.mg_of X G a25)
 cases e
 have bj:=fZ (st:=fR) (ps:=[]) X G a0 l0 c0 k0 fun _ _ _ _ _ _ us hl=>match us,hl with|[],_=>rfl
 have bu:=fZ (st:=gA) (ps:=["piece"]) X G a1 l1 c1 k1 fun _ _ _ _ _ _=>dH (fun _=>rfl)
 have ay:=fZ (st:=fH) (ps:=["piece","place"]) X G a2 l2 c2 k2 fun _ _ _ _ _ _=>dH (fun _ _=>rfl)
 have gd:=fZ (st:=kD) (ps:=["piece","place"]) X G a3 l3 c3 k3 fun _ _ _ _ _ _=>dH (fun _ _=>rfl)
 have ej:=fZ (st:=iV) (ps:=["blanks"]) X G a4 l4 c4 k4 fun _ _ _ _ _ _=>dH (fun _=>rfl)
 have de:=fZ (st:=iR) (ps:=["piece","place","column"]) X G a5 l5 c5 k5 fun _ _ _ _ _ _=>dH (fun _ _ _=>rfl)
 have ff:=fZ (st:=iF) (ps:=["wrote"]) X G a6 l6 c6 k6 fun _ _ _ _ _ _=>dH (fun _=>rfl)
 have cu:=fZ (st:=fS) (ps:=["column","wrote"]) X G a7 l7 c7 k7 fun _ _ _ _ _ _=>dH (fun _ _=>rfl)
 have bz:=fZ (st:=iL) (ps:=["row","choices"]) X G a8 l8 c8 k8 fun _ _ _ _ _ _=>dH (fun _ _=>rfl)
 have ck:=fZ (st:=gQ) (ps:=["_law_script","_law_k"]) X G a9 l9 c9 k9 fun _ _ _ _ _ _=>dH (fun _ _=>rfl)
 have bc:=fZ (st:=gR) (ps:=["_law_script","_law_k","_law_salt"]) X G a10 l10 c10 k10 fun _ _ _ _ _ _=>dH (fun _ _ _=>rfl)
 have gs:=fZ (st:=kW) (ps:=["_law_number"]) X G a11 l11 c11 k11 fun _ _ _ _ _ _=>dH (fun _=>rfl)
 have jr:=fZ (st:=mB) (ps:=["_law_number"]) X G a12 l12 c12 k12 fun _ _ _ _ _ _=>dH (fun _=>rfl)
 have i8:=fZ (st:=mC) (ps:=["_law_frames"]) X G a13 l13 c13 k13 fun _ _ _ _ _ _=>dH (fun _=>rfl)
 have kg:=fZ (st:=nP) (ps:=["_law_script","_law_at","_law_many","_law_nest"]) X G a14 l14 c14 k14 fun _ _ _ _ _ _=>dH (fun _ _ _ _=>rfl)
 have i9:=fZ (st:=mD) (ps:=["_law_script","_law_state","_law_salt","_law_many"]) X G a15 l15 c15 k15 fun _ _ _ _ _ _=>dH (fun _ _ _ _=>rfl)
 have ig:=fZ (st:=mE) (ps:=["_law_state","_law_blanks"]) X G a16 l16 c16 k16 fun _ _ _ _ _ _=>dH (fun _ _=>rfl)
 have gb:=fZ (st:=kG) (ps:=["_law_state"]) X G a17 l17 c17 k17 fun _ _ _ _ _ _=>dH (fun _=>rfl)
 have g6:=fZ (st:=nQ) (ps:=["_law_script","_law_row_here","_law_flat","_law_hang","_law_state","_law_salt"]) X G a18 l18 c18 k18 fun _ _ _ _ _ _=>dH (fun _ _ _ _ _ _=>rfl)
 have jc:=fZ (st:=lB) (ps:=["_law_script","_law_row_here","_law_salt"]) X G a19 l19 c19 k19 fun _ _ _ _ _ _=>dH (fun _ _ _=>rfl)
 have cf:=fZ (st:=iT) (ps:=["_law_row_here","_law_choices"]) X G a20 l20 c20 k20 fun _ _ _ _ _ _=>dH (fun _ _=>rfl)
 have dt:=fZ (st:=kH) (ps:=["_law_row_here","_law_flat","_law_choices"]) X G a21 l21 c21 k21 fun _ _ _ _ _ _=>dH (fun _ _ _=>rfl)
 have il:=fZ (st:=kI) (ps:=["_law_script","_law_row_here","_law_choices"]) X G a22 l22 c22 k22 fun _ _ _ _ _ _=>dH (fun _ _ _=>rfl)
 have gl:=fZ (st:=iW) (ps:=["_law_row_here"]) X G a23 l23 c23 k23 fun _ _ _ _ _ _=>dH (fun _=>rfl)
 have je:=fZ (st:=lC) (ps:=["_law_script"]) X G a24 l24 c24 k24 fun _ _ _ _ _ _=>dH (fun _=>rfl)
 have t6:=fZ (st:=nC) (ps:=["_law_script"]) X G a25 l25 c25 k25 fun _ _ _ _ _ _=>dH (fun _=>rfl)
 obtain⟨U,hU⟩:∃U,U=(kap [("Place",fk),("Setter",bo)]):=⟨_,rfl⟩
 have kq:U "Place"=fk:=by rw [hU];simp [kap,bP]
 have bx:Cls K (U "Place"):=by rw [kq];exact⟨uq,ur,ut,uu⟩
 have g5:Kn K mg U "Place" "Place.__init__" gW ["self","broken","margin"] b6 _:=⟨(iX ng nh ni),((iX ng nh ni).binds fun _ _ _ _ _ _=>dH (fun _ _ _=>rfl)),(by rw [kq];exact⟨uv,ql,qp,uw⟩),(by rw [kq];exact PySem.W.mg_of X G uo)⟩
 have ca:cW K (U "Place") "broken":=by rw [kq];exact uc
 have d7:cW K (U "Place") "margin":=by rw [kq];exact ud
 have cw:U "Setter"=bo:=by rw [hU];simp [kap,bP]
 have ac:Cls K (U "Setter"):=by rw [cw];exact⟨uf,ug,uh,ui⟩
 have gn:Kn K mg U "Setter" "Setter.__init__" gJ ["self","choices"] bq _:=⟨(iX mf mh mi),((iX mf mh mi).binds fun _ _ _ _ _ _=>dH (fun _ _=>rfl)),(by rw [cw];exact⟨uj,pz,p6,uk⟩),(by rw [cw];exact PySem.W.mg_of X G ue)⟩
 have ae:Mn K U "Setter" "choice_below" "Setter.choice_below" dN ["self","count"] ai _:=⟨(iX i5 i6 gh),((iX i5 i6 gh).binds fun _ _ _ _ _ _=>dH (fun _ _=>rfl)),ac,(by rw [cw];exact⟨lr,ls,gh⟩)⟩
 have ak:Mn K U "Setter" "set_plain" "Setter.set_plain" eE ["self","piece","place"] aq _:=⟨(iX jp jq ib),((iX jp jq ib).binds fun _ _ _ _ _ _=>dH (fun _ _ _=>rfl)),ac,(by rw [cw];exact⟨nj,nk,ib⟩)⟩
 have ah:Mn K U "Setter" "set_holder" "Setter.set_holder" dY ["self","piece","place"] am _:=⟨(iX jk jl gy),((iX jk jl gy).binds fun _ _ _ _ _ _=>dH (fun _ _ _=>rfl)),ac,(by rw [cw];exact⟨mq,mt,gy⟩)⟩
 have ad:Mn K U "Setter" "set_row" "Setter.set_row" dU ["self","row","place"] ag _:=⟨(iX j6 j7 iu),((iX j6 j7 iu).binds fun _ _ _ _ _ _=>dH (fun _ _ _=>rfl)),ac,(by rw [cw];exact⟨nz,n0,iu⟩)⟩
 have al:Mn K U "Setter" "whole_text" "Setter.whole_text" dZ ["self"] au _:=⟨(iX jm jn gz),((iX jm jn gz).binds fun _ _ _ _ _ _=>dH (fun _=>rfl)),ac,(by rw [cw];exact⟨mv,mw,gz⟩)⟩
 have az:cW K (U "Setter") "choices":=by rw [cw];exact t7
 have b5:cW K (U "Setter") "used":=by rw [cw];exact uy
 have di:cW K (U "Setter") "column":=by rw [cw];exact ul
 have da:cW K (U "Setter") "parts":=by rw [cw];exact ux
 have af:=PySem.W.mg_none_of X G z0
 have t4:=PySem.W.mg_none_of X G z1
 have d9:=PySem.W.mg_none_of X G z2
 have cz:=PySem.W.mg_none_of X G z3
 have t5:=PySem.W.mg_none_of X G z4
 have cq:=PySem.W.mg_none_of X G z5
 have km:=PySem.W.mg_none_of X G z6
 have rg:=PySem.W.mg_none_of X G z7
 have qu:=PySem.W.mg_none_of X G z8
 have nn:=PySem.W.mg_of X G g0
 have k_HOLDERS:∀H,Rep K U H (.ref aHOLDERS) (.tup [(.str "group"),(.str "hang"),(.str "either")]) []:=fun H=>yt4 (ys:=[("group",uHOLDERS_0),("hang",uHOLDERS_1),("either",uHOLDERS_2)]) dtHOLDERS (Nat.le_of_ble_eq_true rfl) H
 refine⟨PySem.W.fnOf "law" "law" (cL nC) (cC nC) (aQ nC) .none kV25 dc25 pm25 an25 cd25 ct25,fun s v=> .of_eq rfl,fun base KB _=> ?_⟩
 have lq:OwnCls "LineError" ge bmV "ValueError.__new__" mg base:=⟨PySem.W.mg_of X G rj,zz8 KB rk⟩
 have aw:OwnCls "NoChoice" aa bmV "ValueError.__new__" mg base:=⟨PySem.W.mg_of X G sx,zz8 KB om⟩
 have iz:KExc K aa:=⟨rl,rm,rq,rz,r6,r9,rn,yf3 om⟩
 have nq:=PySem.W.mg_of X G t9
 have oo:=PySem.W.mg_of X G um
 have H1:=zs3 (P:=l.prog) (w:=w) (base:=base) (n:=0) ck af
 have H2:=yf4 (n:=1) bc ck H1 af t4
 have bg:=xp3 (U:=U) H2
 have dw:=xn1 (U:=U) H1
 have ml:=ym9 (P:=l.prog) (w:=w) (base:=base) (U:=U) (n:=0) i8 cz af
 have js:=ym7 (P:=l.prog) (w:=w) (base:=base) (U:=U) (n:=0) gs d9
 have on:=ym8 (P:=l.prog) (w:=w) (base:=base) (U:=U) (n:=1) jr gs (js.mono (by decide))
 have pw:=yt9 (P:=l.prog) (w:=w) (base:=base) (U:=U) (n:=2) kg bc (bg.mono (by decide)) i8 (ml.mono (by decide)) jr (on.mono (by decide)) d9 cz af
 have kl:=yn2 (P:=l.prog) (w:=w) (base:=base) (U:=U) (n:=0) ig
 have jg:=zx5 (P:=l.prog) (w:=w) (base:=base) (U:=U) (n:=0) gb af
 have mm:=yn0 (P:=l.prog) (w:=w) (base:=base) (U:=U) (n:=2) i9 bc (bg.mono (by decide)) ck (dw.mono (by decide))
 have uz:∀n,FnOk l.prog w K mg base CX0 (n+3) _ _ ["_law_script","_law_row_here","_law_flat","_law_hang","_law_state","_law_salt"] (SpE 6 K U (bF [false,false,false,false,true,false]) (pS (sS yi3 zp2) n)):=fun n=>by
  induction n with
  |zero=>exact FnOk.noneE (ps:=["_law_script","_law_row_here","_law_flat","_law_hang","_law_state","_law_salt"])
  |succ n ih=>exact yu0 g6 ig (kl.mono (by omega)) gb (jg.mono (by omega)) i9 (mm.mono (by omega)) ih af t5
 have jb:=uz 8
 have nu:=yf5 (P:=l.prog) (w:=w) (base:=base) (U:=U) (n:=11) jc g6 (jb.mono (by decide)) cz
 have fg:=zi8 (P:=l.prog) (w:=w) (base:=base) (U:=U) (n:=0) gn ac az b5 di da
 have db:=zc2 (P:=l.prog) (w:=w) (base:=base) (U:=U) (n:=0) bu nn k_HOLDERS
 have jf:=zn2 (P:=l.prog) (w:=w) (base:=base) (U:=U) (n:=0) ej
 have g7:=zs4 (P:=l.prog) (w:=w) (base:=base) (U:=U) (n:=1) de ej (jf.mono (by decide)) bx ca d7
 have jz:=zi6 (P:=l.prog) (w:=w) (base:=base) (U:=U) (n:=0) ff
 have ir:=wQ (P:=l.prog) (w:=w) (base:=base) (U:=U) (n:=1) cu ff (jz.mono (by decide)) af
 have cj:=vV (P:=l.prog) (w:=w) (base:=base) (U:=U) (n:=2) ak de (g7.mono (by decide)) cu (ir.mono (by decide)) ac di da
 have eh:=zn5 (P:=l.prog) (w:=w) (base:=base) (U:=U) (n:=0) g5 bx ca d7
 have ja:=ym6 (P:=l.prog) (w:=w) (base:=base) (U:=U) (n:=1) gd g5 (eh.mono (by decide)) bx ca d7
 have b8:=yR (P:=l.prog) (w:=w) (base:=base) (U:=U) (n:=0) ay bx ca
 have bi:=sT (P:=l.prog) (w:=w) (base:=base) (U:=U) (n:=0) ae ac b5 az af
 have kr:∀n,FnOk l.prog w K mg base CX0 (2*n+3) _ _ ["self","row","place"] (SpE 3 K U (bF [true,false,false]) (lQ n)):=fun n=>by
  induction n with
  |zero=>exact FnOk.noneE (ps:=["self","row","place"])
  |succ n ih=>exact yS (n:=2*n+4) ad bu (db.mono (by omega)) ah (oI (n:=2*n+3) ah gd (ja.mono (by omega)) ay (b8.mono (by omega)) ae (bi.mono (by omega)) ad ih af) ak (cj.mono (by omega))
 have b7:=kr 8
 have cn:=zL (P:=l.prog) (w:=w) (base:=base) (U:=U) (n:=1) bj g5 (eh.mono (by decide))
 have ia:=uS (P:=l.prog) (w:=w) (base:=base) (U:=U) (n:=2) ak de (g7.mono (by decide)) aw ac di da
 have gg:=rY (P:=l.prog) (w:=w) (base:=base) (U:=U) (n:=0) ae aw ac b5 az af
 have n6:∀n,FnOk l.prog w K mg base (CXn l.prog w base aa) (2*n+3) _ _ ["self","row","place"] (mX 3 K U (bF [true,false,false]) aa (zg3 n)):=fun n=>by
  induction n with
  |zero=>exact FnOk.noneXE (ps:=["self","row","place"])
  |succ n ih=>exact wR (n:=2*n+4) ad bu (db.mono (by omega)) ah (oI (n:=2*n+3) ah gd (ja.mono (by omega)) ay (b8.mono (by omega)) ae (bi.mono (by omega)) ad ((kr n).mono (by omega)) af) (tR (n:=2*n+3) ah gd (ja.mono (by omega)) ay (b8.mono (by omega)) ae (bi.mono (by omega)) (gg.mono (by omega)) ad ih aw af) ak (cj.mono (by omega)) (ia.mono (by omega)) aw
 have dk:=n6 8
 have gq:=tT (P:=l.prog) (w:=w) (base:=base) (U:=U) (n:=0) al aw ac b5 da az af
 have lm:=zs5 (P:=l.prog) (w:=w) (base:=base) (U:=U) (n:=18) bz gn (fg.mono (by decide)) ad (b7.mono (by decide)) (dk.mono (by decide)) bj (cn.mono (by decide)) al (gq.mono (by decide)) aw
 have d8:=zs6 (P:=l.prog) (w:=w) (base:=base) (U:=U) (n:=20) cf bz (lm.mono (by decide)) lq aw gk iz nq oo dj gv gf cq km
 have ua:∀n,FnOk l.prog w K mg base CX0 (n+0) _ _ ["_law_row_here","_law_flat","_law_choices"] (SpE 3 K U (bF [false,false,true]) (oU n)):=fun n=>by
  induction n with
  |zero=>exact FnOk.noneE (ps:=["_law_row_here","_law_flat","_law_choices"])
  |succ n ih=>exact zx6 dt ih af
 have gw:=ua 8
 have mn:=zx7 (P:=l.prog) (w:=w) (base:=base) (U:=U) (n:=21) il bc (bg.mono (by decide)) cf (d8.mono (by decide)) dt (gw.mono (by decide)) ck (dw.mono (by decide)) d9 af rg
 have nv:=yf6 (P:=l.prog) (w:=w) (base:=base) (U:=U) (n:=2) je bc (bg.mono (by decide)) gs (js.mono (by decide)) d9 cz
 have kn:=zn3 (P:=l.prog) (w:=w) (base:=base) (U:=U) (n:=0) gl af
 have g8:=uT (P:=l.prog) (w:=w) (base:=base) (U:=U) (n:=0) al ac b5 da az af
 have jj:=zx3 (P:=l.prog) (w:=w) (base:=base) (U:=U) (n:=18) bz gn (fg.mono (by decide)) ad (b7.mono (by decide)) bj (cn.mono (by decide)) al (g8.mono (by decide))
 have xm:=xi5 (P:=l.prog) (w:=w) (base:=base) (U:=U) (n:=22) t6 kg (pw.mono (by decide)) bc (bg.mono (by decide)) jc (nu.mono (by decide)) il (mn.mono (by decide)) je (nv.mono (by decide)) gl (kn.mono (by decide)) cf (d8.mono (by decide)) bz (jj.mono (by decide)) af cq qu
 exact xp4 xm fun ns hl=>yh3 (by decide) (by decide) (by decide) (nV ns) (fun j s h0 h1 h2 h3=>yx1 hl j s h0 h1 h2 h3) (fun j _ _=>⟨_,yq5 ns j⟩)
end My
open PySem PySem.W PyProof.Rows
set_option maxRecDepth 100000 in
set_option maxHeartbeats 0 in
theorem PySem.Challenge.cw_linepress_k12_choices_refused_holds : PySem.Challenge.rw_linepress_k12_choices_refused.Holds := by
 w_on;o_law;k_head;(case hw=>w_witness2)
 k_fill
 refine My.xp5 (lev:=23) (l:=PySem.Challenge.rw_linepress_k12_choices_refused) rfl rfl ⟨rfl,by decide,by decide⟩ (fun w h Y=>PySem.W.kIn_of Y) ?F
 case F=>
  intro w mg fa h KX G hmg
  refine' My.xk0 KX G hmg ?xn ?xo ?xp ?xq ?xr ?xt ?xu ?xv ?xw ?xx ?xy ?xz ?ya ?yb ?yc ?yd ?ye ?yf ?yg ?yh ?yi ?yj ?yk ?yl ?ym ?yn ?yo ?yp ?yq ?yr ?yt ?yu ?yv ?yw ?yx ?yy ?yz ?y0 ?y1 ?za ?u4 ?u5 ?u7 ?u9 ?va ?vb ?vc ?vd ?ve ?vf ?vg ?vh ?vi ?vj ?vk ?vm ?vn ?vo ?vp ?vq ?vt ?vv ?vw ?vx ?vy ?vz ?v4 ?v5 ?v6 ?v7 ?v8 ?v9 ?wa ?wb ?wc ?wd ?we ?wf ?wg ?wj ?wk ?wm ?wn ?wo ?wp ?wq ?wu ?wv ?ww ?wx ?wy ?wz ?w6 ?w8 ?xa ?xb ?xc ?xf ?xg ?xh ?xi ?xj ?xk ?xl ?zb ?zc ?zd ?ze ?zg ?zh ?zi ?zj ?zk ?zl ?sd ?sy ?td ?tj ?tm ?tq ?tu ?tw ?oq ?ot ?ou ?ox ?oy ?sf ?sh ?si ?sj ?sk ?so ?sr ?ss ?su ?n8 ?n9 ?oa ?og ?oh ?j9 ?ka ?kb ?kc ?ke ?lu ?lx ?ly ?lz ?ma ?ku ?kv ?kx ?ky ?kz ?mx ?my ?mz ?m6 ?m7 ?la ?lb ?lc ?lf ?lg ?qq ?ub ?sv ?tx ?o8 ?o9 ?p7 ?p8 ?kt ?pb ?pd ?pe ?ph ?pj ?pq ?pr ?qt ?sw ?jo ?lh ?kf
  (case xn=>k_is)
  (case xo=>k_is)
  (case xp=>k_is)
  (case xq=>k_is)
  (case xr=>k_is)
  (case xt=>k_is)
  (case xu=>k_is)
  (case xv=>k_is)
  (case xw=>k_is)
  (case xx=>k_is)
  (case xy=>k_is)
  (case xz=>k_is)
  (case ya=>k_is)
  (case yb=>k_is)
  (case yc=>k_is)
  (case yd=>k_is)
  (case ye=>k_is)
  (case yf=>k_is)
  (case yg=>k_is)
  (case yh=>k_is)
  (case yi=>k_is)
  (case yj=>k_is)
  (case yk=>k_is)
  (case yl=>k_is)
  (case ym=>k_is)
  (case yn=>k_is)
  (case yo=>k_is)
  (case yp=>k_is)
  (case yq=>k_is)
  (case yr=>k_is)
  (case yt=>k_is)
  (case yu=>k_is)
  (case yv=>k_is)
  (case yw=>k_is)
  (case yx=>k_is)
  (case yy=>k_is)
  (case yz=>k_is)
  (case y0=>k_is)
  (case y1=>k_is)
  (case za=>k_is)
  (case u4=>k_is)
  (case u5=>k_is)
  (case u7=>k_is)
  (case u9=>k_is)
  (case va=>k_is)
  (case vb=>k_is)
  (case vc=>k_is)
  (case vd=>k_is)
  (case ve=>k_is)
  (case vf=>k_is)
  (case vg=>k_is)
  (case vh=>k_is)
  (case vi=>k_is)
  (case vj=>k_is)
  (case vk=>k_is)
  (case vm=>k_is)
  (case vn=>k_is)
  (case vo=>k_is)
  (case vp=>k_is)
  (case vq=>k_is)
  (case vt=>k_is)
  (case vv=>k_is)
  (case vw=>k_is)
  (case vx=>k_is)
  (case vy=>k_is)
  (case vz=>k_is)
  (case v4=>k_is)
  (case v5=>k_is)
  (case v6=>k_is)
  (case v7=>k_is)
  (case v8=>k_is)
  (case v9=>k_is)
  (case wa=>k_is)
  (case wb=>k_is)
  (case wc=>k_is)
  (case wd=>k_is)
  (case we=>k_is)
  (case wf=>k_is)
  (case wg=>k_is)
  (case wj=>k_is)
  (case wk=>k_is)
  (case wm=>k_is)
  (case wn=>k_is)
  (case wo=>k_is)
  (case wp=>k_is)
  (case wq=>k_is)
  (case wu=>k_is)
  (case wv=>k_is)
  (case ww=>k_is)
  (case wx=>k_is)
  (case wy=>k_is)
  (case wz=>k_is)
  (case w6=>k_is)
  (case w8=>k_is)
  (case xa=>k_is)
  (case xb=>k_is)
  (case xc=>k_is)
  (case xf=>k_is)
  (case xg=>k_is)
  (case xh=>k_is)
  (case xi=>k_is)
  (case xj=>k_is)
  (case xk=>k_is)
  (case xl=>k_is)
  (case zb=>k_is)
  (case zc=>k_is)
  (case zd=>k_is)
  (case ze=>k_is)
  (case zg=>k_is)
  (case zh=>k_is)
  (case zi=>k_is)
  (case zj=>k_is)
  (case zk=>k_is)
  (case zl=>k_is)
  (case sd=>k_is)
  (case sy=>k_is)
  (case td=>k_is)
  (case tj=>k_is)
  (case tm=>k_is)
  (case tq=>k_is)
  (case tu=>k_is)
  (case tw=>k_is)
  (case oq=>k_is)
  (case ot=>k_is)
  (case ou=>k_is)
  (case ox=>k_is)
  (case oy=>k_is)
  (case sf=>k_is)
  (case sh=>k_is)
  (case si=>k_is)
  (case sj=>k_is)
  (case sk=>k_is)
  (case so=>k_is)
  (case sr=>k_is)
  (case ss=>k_is)
  (case su=>k_is)
  (case n8=>k_is)
  (case n9=>k_is)
  (case oa=>k_is)
  (case og=>k_is)
  (case oh=>k_is)
  (case j9=>k_is)
  (case ka=>k_is)
  (case kb=>k_is)
  (case kc=>k_is)
  (case ke=>k_is)
  (case lu=>k_is)
  (case lx=>k_is)
  (case ly=>k_is)
  (case lz=>k_is)
  (case ma=>k_is)
  (case ku=>k_is)
  (case kv=>k_is)
  (case kx=>k_is)
  (case ky=>k_is)
  (case kz=>k_is)
  (case mx=>k_is)
  (case my=>k_is)
  (case mz=>k_is)
  (case m6=>k_is)
  (case m7=>k_is)
  (case la=>k_is)
  (case lb=>k_is)
  (case lc=>k_is)
  (case lf=>k_is)
  (case lg=>k_is)
  (case qq=>k_is)
  (case ub=>k_is)
  (case sv=>k_is)
  (case tx=>k_is)
  (case o8=>k_is)
  (case o9=>k_exc)
  (case p7=>k_is)
  (case p8=>k_exc)
  (case kt=>k_is)
  (case pb=>k_is)
  (case pd=>k_is)
  (case pe=>k_is)
  (case ph=>k_is)
  (case pj=>k_is)
  (case pq=>k_is)
  (case pr=>k_is)
  (case qt=>k_is)
  (case sw=>k_is)
  (case jo=>kit_is)
  (case lh=>kit_is)
  (case kf=>kit_is)
#print axioms PySem.Challenge.cw_linepress_k12_choices_refused_holds

